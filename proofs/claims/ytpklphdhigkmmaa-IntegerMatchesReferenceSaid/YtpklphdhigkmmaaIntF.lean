/-
  Contracts of Pow and Root.
-/
import Derived.Test.YtpklphdhigkmmaaIntE
namespace Go.Proofs.Ytpklphdhigkmmaa
open Go.RowKit
attribute [local go_sem ↓] Go.wp_at_zero Go.wp_at_succ

theorem neg_pow_nat (x n : Nat) : (-(x : Int)) ^ n = if n % 2 = 1 then -((x ^ n : Nat) : Int) else ((x ^ n : Nat) : Int) := by
  induction n with
  | zero => simp
  | succ n ih =>
    rw [Int.pow_succ, ih, Nat.pow_succ, Int.natCast_mul]
    rcases (show n % 2 = 0 ∨ n % 2 = 1 by omega) with h | h
    · rw [if_neg (by omega), if_pos (by omega), Int.mul_neg]
    · rw [if_pos h, if_neg (by omega), Int.neg_mul_neg]
theorem sgn_pow (a : Int) (n : Nat) : sgn (decide (a < 0) && decide (n % 2 = 1)) (a.natAbs ^ n) = a ^ n := by
  by_cases h : a < 0
  · obtain ⟨x, rfl⟩ : ∃ x : Nat, a = -(x : Int) := ⟨a.natAbs, by omega⟩
    rw [decide_eq_true h, Bool.true_and, neg_pow_nat, show (-(x : Int)).natAbs = x by omega]
    unfold sgn
    by_cases h2 : n % 2 = 1 <;> simp [h2]
  · obtain ⟨x, rfl⟩ : ∃ x : Nat, a = (x : Int) := ⟨a.natAbs, by omega⟩
    rw [decide_eq_false h]
    simp [sgn]

/-- A result beside OK. -/
def RetOK (z : Int) (w : World) (e : Ending) (w' : World) : Prop := ∃ v, e = .returned (.tuple #[v, .int .i64 0]) ∧ Iv w' v z ∧ Below w.heap.size w w'

theorem res_box (w : World) (sa : Bool) (A : Option Addr) (m c : Nat) : Box ((w.alloc (Obj.cells #[Value.bool sa, Value.slice A m c] 27)).alloc (Obj.cells #[Value.bool false, Value.slice none 0 0] 27)) (w.heap.size + 1) false (.slice none 0 0) := by
  have := Box.new (w.alloc (Obj.cells #[Value.bool sa, Value.slice A m c] 27)) false (.slice none 0 0)
  simpa using this

theorem pow_bad (va : Value) (a n : Int) (w : World) (ha : Iv w va a) (hn : n < 0 ∨ 4096 < n) (hn1 : -9223372036854775808 ≤ n) (hn2 : n ≤ 9223372036854775807) : Calls Try.prog 33 #[va, .int .i64 n] w (RetV (.tuple #[zeroI, .int .i64 1]) w) := by
  obtain ⟨A, m, c, rfl, h1, h2, h3⟩ := ha.form
  generalize decide (a < 0) = na at *
  clear ha h3
  have fin : ∀ (w' : World), Below w.heap.size w ((w.alloc (Obj.cells #[Value.bool na, Value.slice A m c] 27)).alloc (Obj.cells #[Value.bool false, Value.slice none 0 0] 27)) := fun _ => ((Below.refl _ _).alloc (Nat.le_refl _) _).alloc (by simp) _
  have FIN := Lib.hid fin
  clear fin
  rcases hn with h | h
  · go_enter Try.func33, Try.ntmps33
    go_wp2
    exact bodyPost_ret (v := .tuple #[zeroI, .int .i64 1]) (by simp [results, Try.results33, go_sem, zeroI]) rfl ⟨rfl, FIN.out w⟩
  · have h0 : ¬ n < 0 := by omega
    go_enter Try.func33, Try.ntmps33
    go_wp2
    exact bodyPost_ret (v := .tuple #[zeroI, .int .i64 1]) (by simp [results, Try.results33, go_sem, zeroI]) rfl ⟨rfl, FIN.out w⟩

set_option maxHeartbeats 2000000 in
theorem pow_any (va : Value) (a : Int) (n : Nat) (z : Int) (w : World) (ha : Iv w va a) (sa : Sz a 2000) (hz : z = (n : Int)) (hn : n ≤ 4096) : Calls Try.prog 33 #[va, .int .i64 z] w (RetOK (a ^ n) w) := by
  obtain ⟨A, m, c, rfl, h1, h2, h3⟩ := ha.form
  have H3 := Lib.hid h3
  have hm : m ≤ 2000 := by rw [← h3.len]; exact sa.len
  have hmn : m * n ≤ 10000000 := Nat.le_trans (Nat.mul_le_mul hm hn) (by omega)
  have hl := pow_len h3.len n
  have hs := Lib.hid (sgn_pow a n)
  have hz0 : 0 ≤ z := by omega
  have hz1 : z ≤ 4096 := by omega
  have HZ := Lib.hid hz
  have hpar : (z % 2 == 1) = decide (n % 2 = 1) := by
    rw [Bool.eq_iff_iff, beq_iff_eq, decide_eq_true_iff]; omega
  generalize decide (a < 0) = na at *
  generalize hpp : decide (n % 2 = 1) = pp at *
  clear ha h3 sa hz hpp
  cases na
  all_goals
    go_enter Try.func33, Try.ntmps33
    go_wp2_with fail
    refine (words_int _ A m c _ _ ((H3.out.alloc _).alloc _) (by omega) h1).mono ?_
    rintro e w1 ⟨rfl, hbl1⟩
    go_wp2_with fail
    refine (power_any A m c a.natAbs n z _ (((H3.out.alloc _).alloc _).below hbl1) (by omega) h1 h2 HZ.out hmn (by omega)).mono ?_
    rintro e w2 ⟨v2, rfl, ⟨P, pn, pc, rfl, p1, p2, p3⟩, hbl2⟩
    have P3 := Lib.hid p3
    have hpn : pn ≤ 10000001 := by rw [p3.len] at hl; omega
    clear p3
    go_wp2_with fail
    refine (signed_mg _ P pn pc _ _ P3.out (by omega) p1 p2).mono ?_
    rintro e w3 ⟨v3, rfl, hv3, hbl3⟩
    have hv3' : Iv w3 v3 (a ^ n) := by
      have e1 := hs.out
      simp only [Bool.false_and, Bool.true_and] at e1
      rw [← e1]; exact hv3
    obtain ⟨A3, n3, c3, rfl, k1, k2, k3⟩ := hv3'.form
    have HV := Lib.hid hv3'
    have r := Lib.hid ((((res_box w _ A m c).next hbl1 rfl).next hbl2 rfl).next hbl3 rfl)
    have u0 := r.out.cell0
    have u1 := r.out.cell1
    have u2 := r.out.frozen 0
    have u3 := r.out.frozen 1
    have hb01 := below_new (below_new hbl1)
    have hb02 := hb01.trans (hbl2.mono hb01.size)
    have hb03 := hb02.trans (hbl3.mono hb02.size)
    clear hv3 hv3' k3
    go_wp2
    exact bodyPost_ret (v := .tuple #[.agg #[.bool (decide (a ^ n < 0)), .slice A3 n3 c3], .int .i64 0]) (by simp [results, Try.results33, go_sem, u0, u1]) rfl ⟨_, rfl, iv_keep HV.out r.out _, (hb03.setCell (by simp) _).setCell (by simp) _⟩

theorem root_bad (va : Value) (a k : Int) (w : World) (ha : Iv w va a) (sa : Sz a 1000000) (hk : a < 0 ∨ k < 1) : Calls Try.prog 35 #[va, .int .i64 k] w (RetV (.tuple #[zeroI, .int .i64 1]) w) := by
  obtain ⟨A, m, c, rfl, h1, h2, h3⟩ := ha.form
  have HA := Lib.hid ha
  have SA := Lib.hid sa
  have hsg : Hid (sg a = -1 ∨ k < 1) := by
    rcases hk with h | h
    · left; unfold sg; rw [if_pos h]
    · right; exact h
  have hr : -1 ≤ sg a ∧ sg a ≤ 1 := by rcases sg_cases a with ⟨_, e⟩ | ⟨_, e⟩ | ⟨_, e⟩ <;> omega
  obtain ⟨hr1, hr2⟩ := hr
  generalize hna : decide (a < 0) = na at *
  generalize hqa : sg a = qa at *
  have HQA := Lib.hid hqa
  clear ha h3 sa hna hqa hk
  by_cases hneg : qa < 0
  · go_enter Try.func35, Try.ntmps35
    go_wp2_with fail
    refine (sign_any _ a _ ((HA.out.alloc _).alloc _) SA.out).mono ?_
    rintro e w1 ⟨rfl, hbl1⟩
    rw [HQA.out]
    have r := Lib.hid ((res_box w na A m c).next hbl1 rfl)
    have u0 := r.out.cell0
    have u1 := r.out.cell1
    have u2 := r.out.frozen 0
    have u3 := r.out.frozen 1
    have hb01 := below_new (below_new hbl1)
    go_wp2
    exact bodyPost_ret (v := .tuple #[zeroI, .int .i64 1]) (by simp [results, Try.results35, go_sem, zeroI, u0, u1]) rfl ⟨rfl, (hb01.setCell (by simp) _).setCell (by simp) _⟩
  · have hk1 : k < 1 := by have := hsg.out; omega
    go_enter Try.func35, Try.ntmps35
    go_wp2_with fail
    refine (sign_any _ a _ ((HA.out.alloc _).alloc _) SA.out).mono ?_
    rintro e w1 ⟨rfl, hbl1⟩
    rw [HQA.out]
    have r := Lib.hid ((res_box w na A m c).next hbl1 rfl)
    have u0 := r.out.cell0
    have u1 := r.out.cell1
    have u2 := r.out.frozen 0
    have u3 := r.out.frozen 1
    have hb01 := below_new (below_new hbl1)
    go_wp2
    exact bodyPost_ret (v := .tuple #[zeroI, .int .i64 1]) (by simp [results, Try.results35, go_sem, zeroI, u0, u1]) rfl ⟨rfl, (hb01.setCell (by simp) _).setCell (by simp) _⟩

set_option maxHeartbeats 2000000 in
theorem root_int (va : Value) (a k r : Nat) (zk : Int) (w : World) (ha : Iv w va (a : Int)) (sa : Sz (a : Int) 20000) (hz : zk = (k : Int)) (hz2 : zk ≤ 9223372036854775807) (hk : 1 ≤ k) (h1 : r ^ k ≤ a) (h2 : a < (r + 1) ^ k) : Calls Try.prog 35 #[va, .int .i64 zk] w (RetOK (r : Int) w) := by
  obtain ⟨A, m, c, rfl, q1, q2, q3⟩ := ha.form
  have HA := Lib.hid ha
  have SA := Lib.hid (sa.mono (show 20000 ≤ 1000000 by omega))
  have Q3 : Hid (Wd w A m (mag a)) := q3
  have hm : m ≤ 20000 := by rw [← q3.len]; exact sa.len
  have H1 := Lib.hid h1
  have H2 := Lib.hid h2
  have hsg : Hid (0 ≤ sg (a : Int)) := by
    unfold Hid
    rcases sg_cases (a : Int) with ⟨h, _⟩ | ⟨_, e⟩ | ⟨_, e⟩ <;> omega
  have hsg0 := hsg.out
  have hkk : ¬ zk < 1 := by omega
  have HZ := Lib.hid hz
  have HZ2 := Lib.hid hz2
  have hrl : Hid ((mag r).length ≤ 20000) := by
    unfold Hid
    rw [← q3.len] at hm
    refine Nat.le_trans (mag_len_mono ?_) hm
    have h5 : r ≤ r ^ k := by
      rcases Nat.eq_zero_or_pos r with e | e
      · rw [e]; exact Nat.zero_le _
      · exact Nat.le_pow hk
    have : (a : Int).natAbs = a := by omega
    omega
  rw [show decide ((a : Int) < 0) = false by simp] at *
  generalize hqa : sg (a : Int) = qa at *
  have HQA := Lib.hid hqa
  clear ha q3 sa hz hz2 h1 h2 hqa hsg
  go_enter Try.func35, Try.ntmps35
  go_wp2_with fail
  refine (sign_any _ (a : Int) _ ((HA.out.alloc _).alloc _) SA.out).mono ?_
  rintro e w1 ⟨rfl, hbl1⟩
  rw [HQA.out]
  have b1 := ((Box.new w false (.slice A m c)).alloc (Obj.cells #[Value.bool false, Value.slice none 0 0] 27)).next hbl1 rfl
  have e0 := b1.cell0
  have e1 := b1.cell1
  clear b1
  have Q4 := Lib.hid (((Q3.out.alloc _).alloc _).next hbl1 rfl)
  go_wp2_with fail
  refine (words_int _ A m c _ _ Q4.out (by omega) q1).mono ?_
  rintro e w2 ⟨rfl, hbl2⟩
  go_wp2_with fail
  refine (root_any k zk HZ.out hk HZ2.out a A m c r _ (Q4.out.next hbl2 rfl) q1 q2 hm H1.out H2.out).mono ?_
  rintro e w3 ⟨v3, rfl, ⟨P, pn, pc, rfl, p1, p2, p3⟩, hbl3⟩
  have P3 := Lib.hid p3
  have hpn : pn ≤ 20000 := by rw [← p3.len]; exact hrl.out
  clear p3
  go_wp2_with fail
  refine (signed_mg false P pn pc r _ P3.out (by omega) p1 p2).mono ?_
  rintro e w4 ⟨v4, rfl, hv4, hbl4⟩
  have hv4' : Iv w4 v4 (r : Int) := hv4
  obtain ⟨A4, n4, c4, rfl, k1, k2, k3⟩ := hv4'.form
  have HV := Lib.hid hv4'
  have r := Lib.hid (((((res_box w _ A m c).next hbl1 rfl).next hbl2 rfl).next hbl3 rfl).next hbl4 rfl)
  have u0 := r.out.cell0
  have u1 := r.out.cell1
  have u2 := r.out.frozen 0
  have u3 := r.out.frozen 1
  have hb01 := below_new (below_new hbl1)
  have hb02 := hb01.trans (hbl2.mono hb01.size)
  have hb03 := hb02.trans (hbl3.mono hb02.size)
  have hb04 := hb03.trans (hbl4.mono hb03.size)
  clear hv4 hv4' k3
  go_wp2
  exact bodyPost_ret (v := .tuple #[.agg #[.bool (decide (((_ : Nat) : Int) < 0)), .slice A4 n4 c4], .int .i64 0]) (by simp [results, Try.results35, go_sem, u0, u1]) rfl ⟨_, rfl, iv_keep HV.out r.out _, (hb04.setCell (by simp) _).setCell (by simp) _⟩
end Go.Proofs.Ytpklphdhigkmmaa
