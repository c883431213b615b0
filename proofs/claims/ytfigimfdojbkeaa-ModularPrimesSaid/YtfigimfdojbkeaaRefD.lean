/-
  Parse of "-0".
  Contracts of Pow and Root.
  The law's 'three', where it is true.
  Contracts of the reference's trim, words, made and Of, and of the law's of.
  Contracts of the reference's Made and Valid.
  Contracts of the reference's word and added. Contract of the reference's times.
-/
import Derived.Test.YtfigimfdojbkeaaIntC
import Derived.Handy
import Derived.Test.YtfigimfdojbkeaaIntE
import Derived.Test.YtfigimfdojbkeaaTextB
import Derived.Test.YtfigimfdojbkeaaOwnW
import Derived.Deep.QuietTactic
import Derived.BigQuiet
set_option linter.unusedSimpArgs false
set_option linter.unusedVariables false
section
namespace Go.Proofs.Ytfigimfdojbkeaa
open Go.RowKit
attribute [local go_sem ↓] Go.wp_at_zero Go.wp_at_succ

set_option maxHeartbeats 4000000 in
theorem parse_mz (w : World) :
    Calls Try.prog 45 #[.string ⟨#[45, 48]⟩] w fun e w' => e = .returned (.tuple #[.agg #[.bool false, .slice none 0 0], .int .i64 3]) ∧ Below w.heap.size w w' := by
  go_enter Try.func45, Try.ntmps45
  go_wp2
  go_rounds 3
  all_goals
    refine bodyPost_ret (v := .tuple #[.agg #[.bool false, .slice none 0 0], .int .i64 3]) (by simp [results, Try.results45, go_sem]) rfl ⟨rfl, ?_⟩
    exact (Below.refl _ _).alloc (Nat.le_refl _) _
end Go.Proofs.Ytfigimfdojbkeaa
end

section
namespace Go.Proofs.Ytfigimfdojbkeaa
open Go.RowKit
attribute [local go_sem ↓] Go.wp_at_zero Go.wp_at_succ

theorem neg_pow_nat (x n : Nat) : (-(x : Int)) ^ n = if n % 2 = 1 then -((x ^ n : Nat) : Int) else ((x ^ n : Nat) : Int) := by
  induction n with
  | zero => simp
  | succ n ih =>
    rw [Int.pow_succ, ih, Nat.pow_succ, Int.natCast_mul]
    rcases (show n % 2 = 0 ∨ n % 2 = 1 by omega) with h | h
    · rw [if_neg (by omega), if_pos (by omega), Int.mul_neg]
    · rw [if_pos h, if_neg (by omega), Int.neg_mul_neg]
theorem sgn_pow (a : Int) (n : Nat) : sgn (decide (a < 0) && decide (n % 2 = 1)) (a.natAbs ^ n) = a ^ n := by
  by_cases h : a < 0
  · obtain ⟨x, rfl⟩ : ∃ x : Nat, a = -(x : Int) := ⟨a.natAbs, by omega⟩
    rw [decide_eq_true h, Bool.true_and, neg_pow_nat, show (-(x : Int)).natAbs = x by omega]
    unfold sgn
    by_cases h2 : n % 2 = 1 <;> simp [h2]
  · obtain ⟨x, rfl⟩ : ∃ x : Nat, a = (x : Int) := ⟨a.natAbs, by omega⟩
    rw [decide_eq_false h]
    simp [sgn]

/-- A result beside OK. -/
def RetOK (z : Int) (w : World) (e : Ending) (w' : World) : Prop := ∃ v, e = .returned (.tuple #[v, .int .i64 0]) ∧ Iv w' v z ∧ Below w.heap.size w w'

theorem res_box (w : World) (sa : Bool) (A : Option Addr) (m c : Nat) : Box ((w.alloc (Obj.cells #[Value.bool sa, Value.slice A m c] 27)).alloc (Obj.cells #[Value.bool false, Value.slice none 0 0] 27)) (w.heap.size + 1) false (.slice none 0 0) := by
  have := Box.new (w.alloc (Obj.cells #[Value.bool sa, Value.slice A m c] 27)) false (.slice none 0 0)
  simpa using this

theorem pow_bad (va : Value) (a n : Int) (w : World) (ha : Iv w va a) (hn : n < 0 ∨ 4096 < n) (hn1 : -9223372036854775808 ≤ n) (hn2 : n ≤ 9223372036854775807) : Calls Try.prog 37 #[va, .int .i64 n] w (RetV (.tuple #[zeroI, .int .i64 1]) w) := by
  obtain ⟨A, m, c, rfl, h1, h2, h3⟩ := ha.form
  generalize decide (a < 0) = na at *
  clear ha h3
  have fin : ∀ (w' : World), Below w.heap.size w ((w.alloc (Obj.cells #[Value.bool na, Value.slice A m c] 27)).alloc (Obj.cells #[Value.bool false, Value.slice none 0 0] 27)) := fun _ => ((Below.refl _ _).alloc (Nat.le_refl _) _).alloc (by simp) _
  have FIN := Lib.hid fin
  clear fin
  rcases hn with h | h
  · go_enter Try.func37, Try.ntmps37
    go_wp2
    exact bodyPost_ret (v := .tuple #[zeroI, .int .i64 1]) (by simp [results, Try.results37, go_sem, zeroI]) rfl ⟨rfl, FIN.out w⟩
  · have h0 : ¬ n < 0 := by omega
    go_enter Try.func37, Try.ntmps37
    go_wp2
    exact bodyPost_ret (v := .tuple #[zeroI, .int .i64 1]) (by simp [results, Try.results37, go_sem, zeroI]) rfl ⟨rfl, FIN.out w⟩

set_option maxHeartbeats 2000000 in
theorem pow_any (va : Value) (a : Int) (n : Nat) (z : Int) (w : World) (ha : Iv w va a) (sa : Sz a 2000) (hz : z = (n : Int)) (hn : n ≤ 4096) : Calls Try.prog 37 #[va, .int .i64 z] w (RetOK (a ^ n) w) := by
  obtain ⟨A, m, c, rfl, h1, h2, h3⟩ := ha.form
  have H3 := Lib.hid h3
  have hm : m ≤ 2000 := by rw [← h3.len]; exact sa.len
  have hmn : m * n ≤ 10000000 := Nat.le_trans (Nat.mul_le_mul hm hn) (by omega)
  have hl := pow_len h3.len n
  have hs := Lib.hid (sgn_pow a n)
  have hz0 : 0 ≤ z := by omega
  have hz1 : z ≤ 4096 := by omega
  have HZ := Lib.hid hz
  have hpar : (z % 2 == 1) = decide (n % 2 = 1) := by
    rw [Bool.eq_iff_iff, beq_iff_eq, decide_eq_true_iff]; omega
  generalize decide (a < 0) = na at *
  generalize hpp : decide (n % 2 = 1) = pp at *
  clear ha h3 sa hz hpp
  cases na
  all_goals
    go_enter Try.func37, Try.ntmps37
    go_wp2_with fail
    refine (words_int _ A m c _ _ ((H3.out.alloc _).alloc _) (by omega) h1).mono ?_
    rintro e w1 ⟨rfl, hbl1⟩
    go_wp2_with fail
    refine (power_any A m c a.natAbs n z _ (((H3.out.alloc _).alloc _).below hbl1) (by omega) h1 h2 HZ.out hmn (by omega)).mono ?_
    rintro e w2 ⟨v2, rfl, ⟨P, pn, pc, rfl, p1, p2, p3⟩, hbl2⟩
    have P3 := Lib.hid p3
    have hpn : pn ≤ 10000001 := by rw [p3.len] at hl; omega
    clear p3
    go_wp2_with fail
    refine (signed_mg _ P pn pc _ _ P3.out (by omega) p1 p2).mono ?_
    rintro e w3 ⟨v3, rfl, hv3, hbl3⟩
    have hv3' : Iv w3 v3 (a ^ n) := by
      have e1 := hs.out
      simp only [Bool.false_and, Bool.true_and] at e1
      rw [← e1]; exact hv3
    obtain ⟨A3, n3, c3, rfl, k1, k2, k3⟩ := hv3'.form
    have HV := Lib.hid hv3'
    have r := Lib.hid ((((res_box w _ A m c).next hbl1 rfl).next hbl2 rfl).next hbl3 rfl)
    have u0 := r.out.cell0
    have u1 := r.out.cell1
    have u2 := r.out.frozen 0
    have u3 := r.out.frozen 1
    have hb01 := below_new (below_new hbl1)
    have hb02 := hb01.trans (hbl2.mono hb01.size)
    have hb03 := hb02.trans (hbl3.mono hb02.size)
    clear hv3 hv3' k3
    go_wp2
    exact bodyPost_ret (v := .tuple #[.agg #[.bool (decide (a ^ n < 0)), .slice A3 n3 c3], .int .i64 0]) (by simp [results, Try.results37, go_sem, u0, u1]) rfl ⟨_, rfl, iv_keep HV.out r.out _, (hb03.setCell (by simp) _).setCell (by simp) _⟩

theorem root_bad (va : Value) (a k : Int) (w : World) (ha : Iv w va a) (sa : Sz a 1000000) (hk : a < 0 ∨ k < 1) : Calls Try.prog 39 #[va, .int .i64 k] w (RetV (.tuple #[zeroI, .int .i64 1]) w) := by
  obtain ⟨A, m, c, rfl, h1, h2, h3⟩ := ha.form
  have HA := Lib.hid ha
  have SA := Lib.hid sa
  have hsg : Hid (sg a = -1 ∨ k < 1) := by
    rcases hk with h | h
    · left; unfold sg; rw [if_pos h]
    · right; exact h
  have hr : -1 ≤ sg a ∧ sg a ≤ 1 := by rcases sg_cases a with ⟨_, e⟩ | ⟨_, e⟩ | ⟨_, e⟩ <;> omega
  obtain ⟨hr1, hr2⟩ := hr
  generalize hna : decide (a < 0) = na at *
  generalize hqa : sg a = qa at *
  have HQA := Lib.hid hqa
  clear ha h3 sa hna hqa hk
  by_cases hneg : qa < 0
  · go_enter Try.func39, Try.ntmps39
    go_wp2_with fail
    refine (sign_any _ a _ ((HA.out.alloc _).alloc _) SA.out).mono ?_
    rintro e w1 ⟨rfl, hbl1⟩
    rw [HQA.out]
    have r := Lib.hid ((res_box w na A m c).next hbl1 rfl)
    have u0 := r.out.cell0
    have u1 := r.out.cell1
    have u2 := r.out.frozen 0
    have u3 := r.out.frozen 1
    have hb01 := below_new (below_new hbl1)
    go_wp2
    exact bodyPost_ret (v := .tuple #[zeroI, .int .i64 1]) (by simp [results, Try.results39, go_sem, zeroI, u0, u1]) rfl ⟨rfl, (hb01.setCell (by simp) _).setCell (by simp) _⟩
  · have hk1 : k < 1 := by have := hsg.out; omega
    go_enter Try.func39, Try.ntmps39
    go_wp2_with fail
    refine (sign_any _ a _ ((HA.out.alloc _).alloc _) SA.out).mono ?_
    rintro e w1 ⟨rfl, hbl1⟩
    rw [HQA.out]
    have r := Lib.hid ((res_box w na A m c).next hbl1 rfl)
    have u0 := r.out.cell0
    have u1 := r.out.cell1
    have u2 := r.out.frozen 0
    have u3 := r.out.frozen 1
    have hb01 := below_new (below_new hbl1)
    go_wp2
    exact bodyPost_ret (v := .tuple #[zeroI, .int .i64 1]) (by simp [results, Try.results39, go_sem, zeroI, u0, u1]) rfl ⟨rfl, (hb01.setCell (by simp) _).setCell (by simp) _⟩

set_option maxHeartbeats 2000000 in
theorem root_int (va : Value) (a k r : Nat) (zk : Int) (w : World) (ha : Iv w va (a : Int)) (sa : Sz (a : Int) 20000) (hz : zk = (k : Int)) (hz2 : zk ≤ 9223372036854775807) (hk : 1 ≤ k) (h1 : r ^ k ≤ a) (h2 : a < (r + 1) ^ k) : Calls Try.prog 39 #[va, .int .i64 zk] w (RetOK (r : Int) w) := by
  obtain ⟨A, m, c, rfl, q1, q2, q3⟩ := ha.form
  have HA := Lib.hid ha
  have SA := Lib.hid (sa.mono (show 20000 ≤ 1000000 by omega))
  have Q3 : Hid (Wd w A m (mag a)) := q3
  have hm : m ≤ 20000 := by rw [← q3.len]; exact sa.len
  have H1 := Lib.hid h1
  have H2 := Lib.hid h2
  have hsg : Hid (0 ≤ sg (a : Int)) := by
    unfold Hid
    rcases sg_cases (a : Int) with ⟨h, _⟩ | ⟨_, e⟩ | ⟨_, e⟩ <;> omega
  have hsg0 := hsg.out
  have hkk : ¬ zk < 1 := by omega
  have HZ := Lib.hid hz
  have HZ2 := Lib.hid hz2
  have hrl : Hid ((mag r).length ≤ 20000) := by
    unfold Hid
    rw [← q3.len] at hm
    refine Nat.le_trans (mag_len_mono ?_) hm
    have h5 : r ≤ r ^ k := by
      rcases Nat.eq_zero_or_pos r with e | e
      · rw [e]; exact Nat.zero_le _
      · exact Nat.le_pow hk
    have : (a : Int).natAbs = a := by omega
    omega
  rw [show decide ((a : Int) < 0) = false by simp] at *
  generalize hqa : sg (a : Int) = qa at *
  have HQA := Lib.hid hqa
  clear ha q3 sa hz hz2 h1 h2 hqa hsg
  go_enter Try.func39, Try.ntmps39
  go_wp2_with fail
  refine (sign_any _ (a : Int) _ ((HA.out.alloc _).alloc _) SA.out).mono ?_
  rintro e w1 ⟨rfl, hbl1⟩
  rw [HQA.out]
  have b1 := ((Box.new w false (.slice A m c)).alloc (Obj.cells #[Value.bool false, Value.slice none 0 0] 27)).next hbl1 rfl
  have e0 := b1.cell0
  have e1 := b1.cell1
  clear b1
  have Q4 := Lib.hid (((Q3.out.alloc _).alloc _).next hbl1 rfl)
  go_wp2_with fail
  refine (words_int _ A m c _ _ Q4.out (by omega) q1).mono ?_
  rintro e w2 ⟨rfl, hbl2⟩
  go_wp2_with fail
  refine (root_any k zk HZ.out hk HZ2.out a A m c r _ (Q4.out.next hbl2 rfl) q1 q2 hm H1.out H2.out).mono ?_
  rintro e w3 ⟨v3, rfl, ⟨P, pn, pc, rfl, p1, p2, p3⟩, hbl3⟩
  have P3 := Lib.hid p3
  have hpn : pn ≤ 20000 := by rw [← p3.len]; exact hrl.out
  clear p3
  go_wp2_with fail
  refine (signed_mg false P pn pc r _ P3.out (by omega) p1 p2).mono ?_
  rintro e w4 ⟨v4, rfl, hv4, hbl4⟩
  have hv4' : Iv w4 v4 (r : Int) := hv4
  obtain ⟨A4, n4, c4, rfl, k1, k2, k3⟩ := hv4'.form
  have HV := Lib.hid hv4'
  have r := Lib.hid (((((res_box w _ A m c).next hbl1 rfl).next hbl2 rfl).next hbl3 rfl).next hbl4 rfl)
  have u0 := r.out.cell0
  have u1 := r.out.cell1
  have u2 := r.out.frozen 0
  have u3 := r.out.frozen 1
  have hb01 := below_new (below_new hbl1)
  have hb02 := hb01.trans (hbl2.mono hb01.size)
  have hb03 := hb02.trans (hbl3.mono hb02.size)
  have hb04 := hb03.trans (hbl4.mono hb03.size)
  clear hv4 hv4' k3
  go_wp2
  exact bodyPost_ret (v := .tuple #[.agg #[.bool (decide (((_ : Nat) : Int) < 0)), .slice A4 n4 c4], .int .i64 0]) (by simp [results, Try.results39, go_sem, u0, u1]) rfl ⟨_, rfl, iv_keep HV.out r.out _, (hb04.setCell (by simp) _).setCell (by simp) _⟩
end Go.Proofs.Ytfigimfdojbkeaa
end

section
namespace Go.Proofs.Ytfigimfdojbkeaa
open Go.RowKit
attribute [local go_sem ↓] Go.wp_at_zero Go.wp_at_succ

def I64 (z : Int) : Prop := -9223372036854775808 ≤ z ∧ z ≤ 9223372036854775807
theorem I64.sz {z : Int} (h : I64 z) : Sz z 2 := ⟨by
  have h1 := h.1
  have h2 := h.2
  have e : pw 2 = 18446744073709551616 := by decide
  rw [e]; omega⟩

end Go.Proofs.Ytfigimfdojbkeaa
end

section
namespace Go.Proofs.Ytfigimfdojbkeaa
open Go.RowKit
attribute [local go_sem ↓] Go.wp_at_zero Go.wp_at_succ

set_option maxHeartbeats 400000 in
theorem rtrim_any (A : Option Addr) (n c : Nat) (ws : List Nat) (w : World) (h : Wd w A n ws) (hn : n ≤ 1099511627776) (hc : n ≤ c) :
    Calls Try.prog 138 #[.slice A n c] w (RetTrim A c ws w) := by
  have hl := h.1
  have hw := h.wds
  have HL := Lib.hid hl
  have H := Lib.hid h
  clear hl h
  go_enter Try.func138, Try.ntmps138
  go_wp2
  go_loop [3] (fun v => ∃ m : Nat, m ≤ n ∧ v = .int .i64 m ∧ TrimRel n ws m) (fun v => (intOf v).toNat)
  case atStart => exact ⟨n, Nat.le_refl _, rfl, fun k h1 h2 => by omega⟩
  case round =>
    obtain ⟨m, hm, rfl, hz⟩ := hrel
    by_cases hpos : 0 < m
    · obtain ⟨b, o, rfl, _, hcs⟩ := H.out.cells (show 0 < n by omega)
      have hcell := hcs (m - 1) (by omega)
      obtain ⟨m, rfl⟩ : ∃ m', m = m' + 1 := ⟨m - 1, by omega⟩
      rw [Nat.add_sub_cancel] at hcell
      clear hcs
      by_cases hx : gd ws m = 0
      · rw [hx] at hcell
        have HX := Lib.hid hx
        clear hx
        go_wp2
        go_round
        case rel => exact ⟨m, by omega, rfl, fun k h1 h2 => by
          rcases Nat.eq_or_lt_of_le h1 with e | e
          · rw [← e]; exact HX.out
          · exact hz k e h2⟩
        case measure => simp [intOf]
      · have hx2 : (((gd ws m : Nat) : Int) == 0) = false := by rw [beq_eq_false_iff_ne]; omega
        have HX := Lib.hid hx
        clear hx
        go_wp2
        go_ret
        exact ⟨m + 1, by rw [HL.out]; omega, rfl, trim_done hw HL.out hm hz (.inr (by simpa using HX.out)), rfl⟩
    · have hm0 : m ≤ 0 := by omega
      go_wp2
      go_ret
      exact ⟨0, Nat.zero_le _, rfl, trim_done hw HL.out (Nat.zero_le _) (fun k h1 h2 => hz k (by omega) h2) (.inl rfl), rfl⟩

set_option maxHeartbeats 400000 in
theorem rwords_any (x : Nat) (w : World) (hx : x < 18446744073709551616) :
    Calls Try.prog 119 #[.int .u64 x] w (RetMg x w) := by
  go_enter Try.func119, Try.ntmps119
  go_wp2_with fail
  refine (rtrim_any _ 2 2 [x % 4294967296, x / 4294967296] _ (Blk.two (by omega) (by omega) (by omega) (by omega)).whole (by omega) (by omega)).mono ?_
  rintro e w' ⟨m, hm, rfl, ht, rfl⟩
  have HT := Lib.hid ht
  clear ht
  go_wp2
  go_ret
  have h0 := Blk.two (w := w) (a := x % 4294967296) (b := x / 4294967296) (i := (x : Int) % 4294967296) (j := (x : Int) / 4294967296) (by omega) (by omega) (by omega) (by omega)
  have h1 := h0.whole.mg (c := 2) hm (by simp) (by omega) HT.out
  rw [val_two, show x % 4294967296 + 4294967296 * (x / 4294967296) = x by omega] at h1
  exact ⟨_, rfl, h1, (Below.refl _ _).alloc (Nat.le_refl _) _⟩

set_option maxHeartbeats 1000000 in
theorem made_any (b : Bool) (A : Option Addr) (n c : Nat) (ws : List Nat) (w : World) (h : Wd w A n ws) (hn : n ≤ 1099511627776) (hc : n ≤ c) (hcb : c ≤ 9223372036854775807) :
    Calls Try.prog 93 #[.bool b, .slice A n c] w (RetIv (sgn b (val ws)) w) := by
  have H := Lib.hid h
  clear h
  have fin : ∀ m, m ≤ n → ws.take m = mag (val ws) → ∀ W, Below w.heap.size w W → W.heap.size = w.heap.size + 1 → Iv W (.agg #[.bool (b && decide (0 < m)), .slice A m c]) (sgn b (val ws)) := by
    intro m hm ht W hW _
    have h1 := (H.out.take hm)
    rw [ht] at h1
    refine ⟨.slice A m c, by rw [sgn_neg, len_pos h1], A, m, c, rfl, by omega, hcb, ?_⟩
    rw [sgn_abs]
    exact h1.below hW
  have FIN := Lib.hid fin
  clear fin
  cases b
  all_goals
    go_enter Try.func93, Try.ntmps93
    go_wp2_with fail
    refine (rtrim_any A n c ws _ (H.out.alloc _) hn hc).mono ?_
    rintro e w' ⟨m, hm, rfl, ht, rfl⟩
    rw [H.out.len] at hm
    have HT := Lib.hid ht
    clear ht
    by_cases hm0 : 0 < m
    all_goals
      have hf := Lib.hid (FIN.out m hm HT.out)
      go_wp2
      refine bodyPost_ret (v := .agg #[.bool (_ && decide (0 < m)), .slice A m c]) (by simp [results, Try.results93, go_sem, hm0]) rfl ⟨_, rfl, hf.out _ ((Below.refl _ _).alloc (Nat.le_refl _) _) (by simp), (Below.refl _ _).alloc (Nat.le_refl _) _⟩

set_option maxHeartbeats 1000000 in
theorem rof_any (z : Int) (w : World) (h1 : -9223372036854775808 ≤ z) (h2 : z ≤ 9223372036854775807) :
    Calls Try.prog 64 #[.int .i64 z] w (RetIv z w) := by
  by_cases h0 : z < 0
  · obtain ⟨x, rfl⟩ : ∃ x : Nat, z = -(x : Int) := ⟨z.natAbs, by omega⟩
    have e2 : Hid (sgn true (val (mag x)) = -(x : Int)) := by rw [val_mag]; rfl
    go_enter Try.func64, Try.ntmps64
    go_wp2_with fail
    rw [show -(-(x : Int) + 1) + 1 = (x : Int) by omega]
    refine (rwords_any x _ (by omega)).mono ?_
    rintro e w1 ⟨v1, rfl, ⟨A1, n1, c1, rfl, a1, a2, a3⟩, hbl1⟩
    have A3 := Lib.hid a3
    have hn1 : n1 ≤ 2 := by rw [← a3.len]; exact mag_length_le (by rw [show pw 2 = 18446744073709551616 from rfl]; omega)
    clear a3
    go_wp2_with fail
    refine (made_any true A1 n1 c1 (mag x) _ A3.out (by omega) a1 a2).mono ?_
    rintro e w2 ⟨v2, rfl, hv2, hbl2⟩
    rw [e2.out] at hv2
    obtain ⟨A2, n2, c2, rfl, k1, k2, k3⟩ := hv2.form
    have HV := Lib.hid hv2
    have hbx1 : Box w1 w.heap.size false (.slice none 0 0) := (Box.new w _ _).below hbl1 (by simp)
    have hbx2 := Lib.hid (hbx1.below hbl2 hbx1.lt)
    have q0 := hbx2.out.cell0
    have q1 := hbx2.out.cell1
    have q2 := hbx2.out.frozen 0
    have q3 := hbx2.out.frozen 1
    have hbl02 : Below w.heap.size w w2 := (below_new hbl1).trans (hbl2.mono (below_new hbl1).size)
    clear k3 hbx1 hv2
    go_wp2
    exact bodyPost_ret (v := .agg #[.bool (decide (-(x : Int) < 0)), .slice A2 n2 c2]) (by simp [results, Try.results64, go_sem, q0, q1]; omega) rfl ⟨_, rfl, iv_keep HV.out hbx2.out _, (hbl02.setCell (Nat.le_refl _) _).setCell (Nat.le_refl _) _⟩
  · obtain ⟨x, rfl⟩ : ∃ x : Nat, z = (x : Int) := ⟨z.natAbs, by omega⟩
    have e2 : Hid (sgn false (val (mag x)) = (x : Int)) := by rw [val_mag]; rfl
    go_enter Try.func64, Try.ntmps64
    go_wp2_with fail
    refine (rwords_any x _ (by omega)).mono ?_
    rintro e w1 ⟨v1, rfl, ⟨A1, n1, c1, rfl, a1, a2, a3⟩, hbl1⟩
    have A3 := Lib.hid a3
    have hn1 : n1 ≤ 2 := by rw [← a3.len]; exact mag_length_le (by rw [show pw 2 = 18446744073709551616 from rfl]; omega)
    clear a3
    go_wp2_with fail
    refine (made_any false A1 n1 c1 (mag x) _ A3.out (by omega) a1 a2).mono ?_
    rintro e w2 ⟨v2, rfl, hv2, hbl2⟩
    rw [e2.out] at hv2
    obtain ⟨A2, n2, c2, rfl, k1, k2, k3⟩ := hv2.form
    have HV := Lib.hid hv2
    have hbx1 : Box w1 w.heap.size false (.slice none 0 0) := (Box.new w _ _).below hbl1 (by simp)
    have hbx2 := Lib.hid (hbx1.below hbl2 hbx1.lt)
    have q0 := hbx2.out.cell0
    have q1 := hbx2.out.cell1
    have q2 := hbx2.out.frozen 0
    have q3 := hbx2.out.frozen 1
    have hbl02 : Below w.heap.size w w2 := (below_new hbl1).trans (hbl2.mono (below_new hbl1).size)
    clear k3 hbx1 hv2
    go_wp2
    exact bodyPost_ret (v := .agg #[.bool (decide ((x : Int) < 0)), .slice A2 n2 c2]) (by simp [results, Try.results64, go_sem, q0, q1]) rfl ⟨_, rfl, iv_keep HV.out hbx2.out _, (hbl02.setCell (Nat.le_refl _) _).setCell (Nat.le_refl _) _⟩

theorem lof_any (z : Int) (w : World) (h1 : -9223372036854775808 ≤ z) (h2 : z ≤ 9223372036854775807) :
    Calls Try.prog 44 #[.int .i64 z] w (RetIv z w) := by
  go_enter Try.func44, Try.ntmps44
  go_wp2_with fail
  refine (rof_any z _ h1 h2).mono ?_
  rintro e w2 ⟨v2, rfl, hv2, hbl2⟩
  obtain ⟨A2, n2, c2, rfl, k1, k2, k3⟩ := hv2.form
  have HV := Lib.hid hv2
  have hbx2 := Lib.hid ((Box.new w false (.slice none 0 0)).below hbl2 (by simp))
  have q0 := hbx2.out.cell0
  have q1 := hbx2.out.cell1
  have q2 := hbx2.out.frozen 0
  have q3 := hbx2.out.frozen 1
  have hbl02 : Below w.heap.size w w2 := below_new hbl2
  have hz : Hid (decide (z < 0) = decide (z < 0)) := rfl
  clear k3 hv2
  generalize decide (z < 0) = nz at *
  go_wp2
  exact bodyPost_ret (v := .agg #[.bool nz, .slice A2 n2 c2]) (by simp [results, Try.results44, go_sem, q0, q1]) rfl ⟨_, rfl, iv_keep HV.out hbx2.out _, (hbl02.setCell (Nat.le_refl _) _).setCell (Nat.le_refl _) _⟩

theorem agg_eq_of {w : World} {a b : Int} {A B : Option Addr} {n m : Nat} (ha : Wd w A n (mag a.natAbs)) (hb : Wd w B m (mag b.natAbs)) (h : a.natAbs = b.natAbs) : n = m := by
  rw [← ha.len, ← hb.len, h]

set_option maxHeartbeats 2000000 in
theorem same_any (va vb : Value) (a b : Int) (w : World) (ha : Iv w va a) (hb : Iv w vb b) (sa : Sz a 1000000) (sb : Sz b 1000000) : Calls Try.prog 23 #[va, vb] w (RetV (.bool (decide (a = b))) w) := by
  obtain ⟨A, n, c, rfl, h1, h2, h3⟩ := ha.form
  obtain ⟨B, m, d, rfl, k1, k2, k3⟩ := hb.form
  have HA := Lib.hid h3
  have HB := Lib.hid k3
  have hn : n ≤ 1000000 := by rw [← h3.len]; exact sa.len
  have hm : m ≤ 1000000 := by rw [← k3.len]; exact sb.len
  have hres : Hid (decide (a < 0) = decide (b < 0) → a.natAbs = b.natAbs → a = b) := fun e1 e2 => by
    rw [← sgn_of a, ← sgn_of b, e1, e2]
  have hsg : Hid (decide (a < 0) ≠ decide (b < 0) → decide (a = b) = false) := fun e1 => by
    rw [decide_eq_false_iff_not]; intro e; rw [e] at e1; exact e1 rfl
  have hab : Hid (a.natAbs ≠ b.natAbs → decide (a = b) = false) := fun e1 => by
    rw [decide_eq_false_iff_not]; intro e; rw [e] at e1; exact e1 rfl
  have hbT : Hid (a = b → decide (a = b) = true) := fun e => decide_eq_true e
  generalize decide (a < 0) = na at *
  generalize decide (b < 0) = nb at *
  clear h3 k3 sa sb ha hb
  by_cases hs : na = nb
  · subst hs
    have ht : (na != na) = false := by simp
    by_cases hnm : n = m
    · subst hnm
      have ht2 : ((n : Int) != (n : Int)) = false := by simp
      go_enter Try.func23, Try.ntmps23
      go_wp2
      obtain ⟨W, hW⟩ : ∃ W, W = (w.alloc (Obj.cells #[Value.bool na, Value.slice A n c] 27)).alloc (Obj.cells #[Value.bool na, Value.slice B n d] 27) := ⟨_, rfl⟩
      rw [← hW]
      have b0 : Box W w.heap.size na (.slice A n c) := by rw [hW]; exact (Box.new w _ _).alloc _
      have b1 : Box W (w.heap.size + 1) na (.slice B n d) := by rw [hW]; have := Box.new (w.alloc (Obj.cells #[Value.bool na, Value.slice A n c] 27)) na (.slice B n d); simpa using this
      have w1 : Wd W A n (mag a.natAbs) := by rw [hW]; exact (HA.out.alloc _).alloc _
      have w2 : Wd W B n (mag b.natAbs) := by rw [hW]; exact (HB.out.alloc _).alloc _
      have hbW : Below w.heap.size w W := by rw [hW]; exact ((Below.refl _ _).alloc (Nat.le_refl _) _).alloc (by simp) _
      have c0 := b0.cell0
      have c1 := b0.cell1
      have c2 := b1.cell0
      have c3 := b1.cell1
      have W1 := Lib.hid w1
      have W2 := Lib.hid w2
      clear hW b0 b1 w1 w2
      generalize hg0 : w.heap.size = g at *
      go_loopw [5] (fun t wr => ∃ k q : Nat, k ≤ n ∧ t = .int .i64 k ∧ wr = W.drewN q ∧ SameFrom (mag a.natAbs) (mag b.natAbs) k k) (fun t _ => n - (intOf t).toNat)
      case atStart => exact ⟨0, 0, Nat.zero_le _, rfl, rfl, fun j h1 h2 => by omega⟩
      case round =>
        obtain ⟨k, q, hk, rfl, rfl, hsm⟩ := hrel
        have HSM := Lib.hid hsm
        clear hsm
        by_cases hlt : k < n
        · obtain ⟨ba, oa, rfl, _, hca⟩ := W1.out.cells (by omega)
          obtain ⟨bb, ob, rfl, _, hcb⟩ := W2.out.cells (by omega)
          have d0 := hca k hlt
          have d1 := hcb k hlt
          have i0 : (0 : Int) ≤ (k : Int) := by omega
          have i1 : (k : Int) < n := by omega
          clear hca hcb
          by_cases he : gd (mag a.natAbs) k = gd (mag b.natAbs) k
          · have hne : (((gd (mag a.natAbs) k : Nat) : Int) != ((gd (mag b.natAbs) k : Nat) : Int)) = false := by rw [he]; simp
            have hsm2 : Hid (SameFrom (mag a.natAbs) (mag b.natAbs) (k + 1) (k + 1)) := fun j h1 h2 => by
              by_cases e : j = k
              · rw [e]; exact he
              · exact HSM.out j (by omega) (by omega)
            clear he
            go_wp2
            go_quiet (fail)
            go_wp2
            go_roundw
            case rel => exact ⟨k + 1, _, by omega, by go_num, rfl, hsm2⟩
            case measure => simp [intOf]; omega
          · have hne : (((gd (mag a.natAbs) k : Nat) : Int) != ((gd (mag b.natAbs) k : Nat) : Int)) = true := by simp; omega
            have hfin : Hid (decide (a = b) = false) := hab.out (fun e => he (by rw [e]))
            clear he
            go_wp2
            go_quiet (fail)
            go_wp2
            go_ret
            exact ⟨by rw [hfin.out]; rfl, by rw [hg0]; exact below_drewN (below_drewN hbW _) _⟩
        · have hge : n ≤ k := by omega
          have hfin : Hid (decide (a = b) = true) := hbT.out (hres.out (by first | rfl | trivial) (by
            have := drop_same (p := 0) W1.out.len W2.out.len (fun j _ h2 => HSM.out j (by omega) (by omega))
            exact mag_inj (by simpa using this)))
          go_wp2
          go_ret
          exact ⟨by rw [hfin.out]; rfl, by rw [hg0]; exact below_drewN hbW _⟩
    · have ht2 : ((n : Int) != (m : Int)) = true := by simp; omega
      have hfin : Hid (decide (a = b) = false) := hab.out (fun e => hnm (agg_eq_of HA.out HB.out e))
      go_enter Try.func23, Try.ntmps23
      go_wp2
      go_ret
      exact ⟨by rw [hfin.out]; rfl, ((Below.refl _ _).alloc (Nat.le_refl _) _).alloc (by simp) _⟩
  · have ht : (na != nb) = true := by simp [hs]
    have hfin := Lib.hid (hsg.out hs)
    go_enter Try.func23, Try.ntmps23
    go_wp2
    go_ret
    exact ⟨by rw [hfin.out]; rfl, ((Below.refl _ _).alloc (Nat.le_refl _) _).alloc (by simp) _⟩
end Go.Proofs.Ytfigimfdojbkeaa
end

section
namespace Go.Proofs.Ytfigimfdojbkeaa
open Go.RowKit
attribute [local go_sem ↓] Go.wp_at_zero Go.wp_at_succ

/-- Block g is the cell of a raw integer. -/
def RBox (w : World) (g : Nat) (b : Bool) (s : Value) : Prop := w.heap[g]? = some (.cells #[.bool b, s] 24 (0, 0))
theorem RBox.new (w : World) (b : Bool) (s : Value) : RBox (w.alloc (.cells #[.bool b, s] 24)) w.heap.size b s := heap_alloc_new w _
theorem RBox.lt {w : World} {g : Nat} {b : Bool} {s : Value} (h : RBox w g b s) : g < w.heap.size := by
  rcases Nat.lt_or_ge g w.heap.size with hlt | hge
  · exact hlt
  · unfold RBox at h; rw [Array.getElem?_eq_none hge] at h; cases h
theorem RBox.cell0 {w : World} {g : Nat} {b : Bool} {s : Value} (h : RBox w g b s) : w.cell? ⟨g, 0, none⟩ = some (.bool b) := cell_of_row w g 0 _ _ (0, 0) h
theorem RBox.cell1 {w : World} {g : Nat} {b : Bool} {s : Value} (h : RBox w g b s) : w.cell? ⟨g, 1, none⟩ = some s := cell_of_row w g 1 _ _ (0, 0) h
theorem RBox.alloc {w : World} {g : Nat} {b : Bool} {s : Value} (h : RBox w g b s) (o : Obj) : RBox (w.alloc o) g b s := (Below.heap_alloc w o g h.lt).trans h
theorem RBox.below {w w' : World} {g B : Nat} {b : Bool} {s : Value} (h : RBox w g b s) (hb : Below B w w') (hg : g < B) : RBox w' g b s := (hb.block g hg).trans h
theorem RBox.next {w w1 w' : World} {g : Nat} {b : Bool} {s : Value} (h : RBox w g b s) (hb : Below w1.heap.size w1 w') (e : w1.heap = w.heap) : RBox w' g b s := by
  have h1 : RBox w1 g b s := by unfold RBox; rw [e]; exact h
  exact h1.below hb h1.lt

theorem sz_take (b : Bool) (ws : List Nat) (m : Nat) (h : Wds ws) : Sz (sgn b (val (ws.take m))) m := ⟨by
  rw [sgn_abs]
  have h1 := val_lt (h.take m)
  exact Nat.lt_of_lt_of_le h1 (pw_le (by rw [List.length_take]; omega))⟩

set_option maxHeartbeats 1000000 in
theorem rvalid_any (va : Value) (z : Int) (w : World) (ha : Iv w va z) (sa : Sz z 1000000) : Calls Try.prog 65 #[va] w (RetV (.bool true) w) := by
  obtain ⟨A, n, c, rfl, h1, h2, h3⟩ := ha.form
  have hn : n ≤ 1000000 := by rw [← h3.len]; exact sa.len
  by_cases h0 : n = 0
  · have hz := h3.pos_iff.1 h0
    subst h0
    subst hz
    clear h3 sa ha
    go_enter Try.func65, Try.ntmps65
    go_wp2
    go_ret
    exact ⟨by simp, (Below.refl _ _).alloc (Nat.le_refl _) _⟩
  · have hc := (mag_can z.natAbs).2.resolve_left (fun e => h0 (by have := h3.len; rw [e] at this; simpa using this.symm))
    rw [h3.len] at hc
    obtain ⟨b, o, rfl, hlt, hcell⟩ := h3.cells (by omega)
    have c0 := hcell (n - 1) (by omega)
    have c1 : (w.alloc (.cells #[.bool (decide (z < 0)), .slice (some ⟨b, o, none⟩) n c] 27)).cell? ⟨b, o + (n - 1), none⟩ = some (.int .u32 (gd (mag z.natAbs) (n - 1) : Nat)) := by
      rw [World.cell?_alloc_past _ _ _ hlt]; exact c0
    have hne : ((gd (mag z.natAbs) (n - 1) : Nat) : Int) != 0 := by simp; exact hc
    have ht : ((n : Int) == 0) = false := by simp; omega
    have i0 : (0 : Int) ≤ (n : Int) - 1 := by omega
    have i1 : (n : Int) - 1 < n := by omega
    generalize gd (mag z.natAbs) (n - 1) = top at *
    clear h3 sa ha hc hcell c0
    go_enter Try.func65, Try.ntmps65
    go_wp2
    go_ret
    exact ⟨by rw [← hne]; rfl, (Below.refl _ _).alloc (Nat.le_refl _) _⟩
end Go.Proofs.Ytfigimfdojbkeaa
end

section
namespace Go.Proofs.Ytfigimfdojbkeaa
open Go.RowKit
attribute [local go_sem ↓] Go.wp_at_zero Go.wp_at_succ

set_option maxHeartbeats 400000 in
theorem rword_any (A : Option Addr) (n c : Nat) (ws : List Nat) (k : Int) (w : World) (h : Wd w A n ws) (hn : n ≤ 1099511627776) (hk : 0 ≤ k) :
    Calls Try.prog 146 #[.slice A n c, .int .i64 k] w fun e w' => e = .returned (.int .u64 (gd ws k.toNat : Nat)) ∧ w = w' := by
  obtain ⟨k, rfl⟩ := Int.eq_ofNat_of_zero_le hk
  rw [Int.toNat_natCast]
  by_cases hlt : k < n
  · obtain ⟨ad, rfl, _, hc⟩ := h.cell hlt
    have hg := h.wds.getD k
    have hw : IntKind.u64.wrap ((gd ws k : Nat) : Int) = ((gd ws k : Nat) : Int) := by rw [IntKind.wrap_u64]; omega
    clear h
    go_enter Try.func146, Try.ntmps146
    go_wp2
    go_ret
    exact ⟨rfl, rfl⟩
  · have e : gd ws k = 0 := by rw [gd_eq, List.getElem?_eq_none (by rw [h.1]; omega)]; rfl
    rw [e]
    clear h e
    go_enter Try.func146, Try.ntmps146
    go_wp2
    go_ret
    exact ⟨rfl, rfl⟩

set_option maxHeartbeats 1000000 in
theorem radded_at (A B : Option Addr) (n m c d x y N : Nat) (w : World) (ha : Wd w A n (mag x)) (hb : Wd w B m (mag y)) (hn : n ≤ 1000000000) (hm : m ≤ 1000000000)
    (hN1 : n + 1 ≤ N) (hN2 : m + 1 ≤ N) (hN3 : N ≤ n + 1 ∨ N ≤ m + 1) :
    Calls Try.prog 100 #[.slice A n c, .slice B m d] w (RetMg (x + y) w) := by
  have HA := Lib.hid ha
  have HB := Lib.hid hb
  clear ha hb
  go_enter Try.func100, Try.ntmps100
  go_wp2_with (first
    | (refine wpList_make_blk rfl _ _ _ rfl Try.underlying22 u32_info _ _ _ _ N rfl rfl (by first | omega | (split <;> omega)) (by first | omega | (split <;> omega)) (by omega) ?_
       intro w1 hb1 hs1 hbl1
       have HB1 := Lib.hid hb1
       have HS1 := Lib.hid hs1
       clear hb1 hs1))
  all_goals
    go_loopw [7, 8] (fun cy t wr => ∃ k carry : Nat, ∃ out, k ≤ N ∧ carry ≤ 1 ∧ cy = .int .u64 carry ∧ t = .int .i64 k ∧ PlusRel x y N k carry out ∧ Blk wr w.heap.size out ∧ Below w.heap.size w wr ∧ Only w.heap.size w1 wr)
      (fun _ t _ => N - (intOf t).toNat)
    case atStart => exact ⟨0, 0, List.replicate N 0, Nat.zero_le _, by omega, rfl, rfl, ⟨by simp, by omega, by simp [val, pw_zero]⟩, HB1.out, hbl1, Only.refl _ _⟩
    case round =>
      obtain ⟨k, carry, out, hk, hcy, rfl, rfl, hrel, hblk, hbl, hon⟩ := hrel
      have HR := Lib.hid hrel
      have HBK := Lib.hid hblk
      clear hrel hblk
      by_cases hlt : k < N
      · have h1 := (mag_wds x).getD k
        have h2 := (mag_wds y).getD k
        have hcell := HBK.out.cell (i := k) (by rw [HR.out.1]; omega)
        have hfro := HBK.out.frozen k
        have hR2 := Lib.hid (HR.out.step hlt)
        go_wp2_with fail
        refine (rword_any A n c (mag x) k _ (HA.out.below hbl) (by omega) (by omega)).mono ?_
        rintro e w' ⟨rfl, rfl⟩
        rw [Int.toNat_natCast]
        go_wp2_with fail
        refine (rword_any B m d (mag y) k _ (HB.out.below hbl) (by omega) (by omega)).mono ?_
        rintro e w' ⟨rfl, rfl⟩
        rw [Int.toNat_natCast]
        go_wp2
        go_roundw
        case rel => exact ⟨k + 1, _, _, by omega, by omega, by go_num, by go_num, hR2.out, HBK.out.set_i k _ (by omega) (by omega), hbl.setCell (Nat.le_refl _) _, hon.set_ _ _⟩
        case measure => simp [intOf]; omega
      · obtain rfl : k = N := by omega
        have hd := Lib.hid (HR.out.done (by rw [HA.out.len]; omega) (by rw [HB.out.len]; omega))
        have hlen := Lib.hid HR.out.1
        go_wp2_with fail
        refine (rtrim_any _ k k out _ (by have := HBK.out.whole; rwa [hlen.out] at this) (by omega) (by omega)).mono ?_
        rintro e w' ⟨q, hq, rfl, ht, rfl⟩
        have HT := Lib.hid ht
        clear ht
        go_wp2
        go_ret
        have h1 := HBK.out.whole.mg (c := k) hq (by rw [hlen.out]; omega) (by omega) HT.out
        rw [hd.out] at h1
        exact ⟨_, rfl, h1, hbl⟩

theorem radded_any (A B : Option Addr) (n m c d x y : Nat) (w : World) (ha : Wd w A n (mag x)) (hb : Wd w B m (mag y)) (hn : n ≤ 1000000000) (hm : m ≤ 1000000000) :
    Calls Try.prog 100 #[.slice A n c, .slice B m d] w (RetMg (x + y) w) := by
  rcases Nat.le_total n m with h | h
  · exact radded_at A B n m c d x y (m + 1) w ha hb hn hm (by omega) (by omega) (.inr (by omega))
  · exact radded_at A B n m c d x y (n + 1) w ha hb hn hm (by omega) (by omega) (.inl (by omega))
end Go.Proofs.Ytfigimfdojbkeaa
end

section
namespace Go.Proofs.Ytfigimfdojbkeaa
open Go.RowKit
attribute [local go_sem ↓] Go.wp_at_zero Go.wp_at_succ

set_option maxHeartbeats 4000000 in
theorem rtimes_any (A B : Option Addr) (n m c d x y : Nat) (w : World) (ha : Wd w A n (mag x)) (hb : Wd w B m (mag y)) (hn : n ≤ 100000000) (hm : m ≤ 100000000) :
    Calls Try.prog 113 #[.slice A n c, .slice B m d] w (RetMg (y * x) w) := by
  have HA := Lib.hid ha
  have HB := Lib.hid hb
  clear ha hb
  go_enter Try.func113, Try.ntmps113
  go_wp2_with (first
    | (refine wpList_make_blk rfl _ _ _ rfl Try.underlying22 u32_info _ _ _ _ (n + m) rfl rfl (by omega) (by omega) (by omega) ?_
       intro w1 hb1 hs1 hbl1
       have HB1 := Lib.hid hb1
       have HS1 := Lib.hid hs1
       clear hb1 hs1))
  go_loopw [6, 7, 8, 9] (fun t _ _ _ wr => ∃ i : Nat, ∃ lo hi, i ≤ n ∧ t = .int .i64 i ∧ TimesRel y x m n i lo hi ∧ Blk wr w.heap.size (lo ++ hi) ∧ Below w.heap.size w wr)
      (fun t _ _ _ _ => n - (intOf t).toNat)
  case atStart => exact ⟨0, List.replicate m 0, List.replicate n 0, Nat.zero_le _, rfl, ⟨by simp, by simp, by simp, by simp [val, val_replicate]⟩, by rw [List.replicate_append_replicate, Nat.add_comm m n]; exact HB1.out, hbl1⟩
  case round =>
    obtain ⟨i, lo, hi, hi1, rfl, hrel, hblk, hbl⟩ := hrel
    have HR := Lib.hid hrel
    have HBK := Lib.hid hblk
    clear hrel hblk
    obtain ⟨V, hVV⟩ : ∃ V, V = wr := ⟨_, rfl⟩
    subst hVV
    by_cases hlt : i < n
    · have h1 := (mag_wds x).getD i
      have hlen := HR.out.len
      have e1 : (lo.take i).length = i := by rw [List.length_take]; omega
      have e2 : (lo.drop i).length = m := by rw [List.length_drop]; omega
      have hb3 : Blk V w.heap.size (lo.take i ++ lo.drop i ++ hi) := by rw [List.take_append_drop]; exact HBK.out
      have E1 := Lib.hid e1
      have E2 := Lib.hid e2
      have HB3 := Lib.hid hb3
      have h1' : (i : Int) < n := by omega
      have hws : w.heap.size ≤ V.heap.size := hbl.size
      clear e1 e2 hlen hb3
      obtain ⟨wd, hwd⟩ : ∃ wd, wd = gd (mag x) i := ⟨_, rfl⟩
      rw [← hwd] at h1
      have HWD := Lib.hid hwd
      clear hwd
      go_wp2_with fail
      go_loopw [7, 8, 9] (fun v7 v8 _ wq => ∃ k carry : Nat, ∃ dn rest, k ≤ m ∧ carry < 4294967296 ∧ v7 = .int .u64 carry ∧ v8 = .int .i64 k ∧ AddRel (lo.drop i) (mag y) m wd k carry dn rest ∧ Blk wq w.heap.size (lo.take i ++ dn ++ (rest ++ hi)) ∧ Only w.heap.size V wq)
        (fun _ v8 _ _ => m - (intOf v8).toNat)
      case atStart => exact ⟨0, 0, [], lo.drop i, Nat.zero_le _, by omega, rfl, rfl, ⟨rfl, by simpa using E2.out, rfl, Wds.nil, by simp [val]⟩, by rw [List.append_nil, ← List.append_assoc]; exact HB3.out, Only.refl _ _⟩
      case round =>
        obtain ⟨k, carry, dn, rest, hk, hcy, rfl, rfl, hrel, hblk, hon⟩ := hrel
        have HBQ := Lib.hid hblk
        have HON := Lib.hid hon
        have hblq := Lib.hid (hbl.trans (hon.below (Nat.le_refl _) hws))
        clear hblk hon
        by_cases hltk : k < m
        · obtain ⟨r, hr, hstep⟩ := hrel.step E2.out hltk
          subst hr
          have HL := Lib.hid hrel.len
          have HST := Lib.hid hstep
          clear hrel hstep
          have h2 := (mag_wds y).getD k
          have hmul := mul_bound h1 h2
          have hm0 : (0 : Int) ≤ (wd : Int) * (gd (mag y) k : Int) := Int.mul_nonneg (Int.natCast_nonneg _) (Int.natCast_nonneg _)
          have hm1 : (wd : Int) * (gd (mag y) k : Int) ≤ 18446744065119617025 := by rw [← Int.natCast_mul]; omega
          have i0 : (0 : Int) ≤ (k : Int) := by omega
          have i1 : (k : Int) < m := by omega
          have j0 : (0 : Int) ≤ (i : Int) := by omega
          have hcell := HBQ.out.cell (i := (lo.take i).length + k) (by simp [HL.out])
          rw [List.cons_append, gd_mid (lo.take i) dn _ k HL.out, show gd (gd (lo.drop i) k :: (r ++ hi)) 0 = gd (lo.drop i) k from rfl, E1.out] at hcell
          have h3 : gd (lo.drop i) k < 4294967296 := HBQ.out.2 _ (by simp)
          have hfro := HBQ.out.frozen (i + k)
          obtain ⟨ax, hax, _, hca⟩ := (HA.out.below hblq.out).cell hlt
          obtain ⟨bx, hbx, _, hcb⟩ := (HB.out.below hblq.out).cell hltk
          subst hax hbx
          rw [← HWD.out] at hca
          go_wp2_with fail
          go_quiet (fail)
          go_wp2
          go_roundw
          case rel =>
            have eT : (wd : Int) * (gd (mag y) k : Int) + (gd (lo.drop i) k : Int) + (carry : Int) = ((carry + (gd (mag y) k * wd + gd (lo.drop i) k) : Nat) : Int) := by
              rw [Int.natCast_add, Int.natCast_add, Int.natCast_mul]; grind
            have hset := (HBQ.out.drewN nq).set_i ((lo.take i).length + k) ((carry + (gd (mag y) k * wd + gd (lo.drop i) k)) % 4294967296) (j := ((wd : Int) * (gd (mag y) k : Int) + (gd (lo.drop i) k : Int) + (carry : Int)) % 4294967296) (by rw [eT]; simp) (Nat.mod_lt _ (by omega))
            rw [List.cons_append, set_mid (lo.take i) dn (r ++ hi) _ _ k HL.out, E1.out] at hset
            refine ⟨k + 1, (carry + (gd (mag y) k * wd + gd (lo.drop i) k)) / 4294967296, _, r, by omega, ?_, by rw [eT]; simp, by go_num, HST.out, hset, Only.set_ (g := w.heap.size) (only_drewN HON.out _) _ _⟩
            have hmul2 : gd (mag y) k * wd = wd * gd (mag y) k := Nat.mul_comm _ _
            omega
          case measure => simp [intOf]; omega
        · obtain rfl : k = m := by omega
          have hkk : decide ((k : Int) < k) = false := by simp
          have HR3 := Lib.hid hrel
          have hrest : rest = [] := List.eq_nil_of_length_eq_zero (by have := hrel.restlen; omega)
          subst hrest
          have he : val dn + pw k * carry = val (lo.drop i) + val (mag y) * gd (mag x) i := by
            have h3 := hrel.eq
            rw [val_take_all _ _ (by rw [E2.out]; omega), val_take_all _ _ (by rw [HB.out.len]; omega), HWD.out] at h3
            exact h3
          obtain ⟨r, hr, hstep⟩ := HR.out.step HB.out.len hlt hrel.len he
          subst hr
          have hpl : (lo.take i ++ dn).length = i + k := by rw [List.length_append, E1.out, hrel.len]
          have hb4 : Blk wr w.heap.size (lo.take i ++ dn ++ 0 :: r) := by have := HBQ.out; rwa [List.nil_append] at this
          have hcell := hb4.cell (i := i + k) (by rw [List.length_append, hpl]; simp)
          have hg0 : gd (lo.take i ++ dn ++ 0 :: r) (i + k) = 0 := by rw [gd_eq, List.getElem?_append_right (by omega), hpl, Nat.sub_self]; rfl
          rw [hg0] at hcell
          have hfro := hb4.frozen (i + k)
          have HBF : Hid (Blk (wr.setCell ⟨w.heap.size, i + k, none⟩ (.int .u32 (carry : Nat))) w.heap.size (lo.take i ++ dn ++ [carry] ++ r)) := by
            have := hb4.set_ (i + k) carry hcy
            rw [List.set_append_right _ _ (by omega), hpl, Nat.sub_self] at this
            simpa [Hid] using this
          have HST := Lib.hid hstep
          clear hb4 he hpl hstep hg0 hrel
          have hck : ¬ (n + k = i + k) := by omega
          go_wp2
          go_roundw
          case rel => exact ⟨i + 1, _, r, by omega, by go_num, HST.out, HBF.out, hblq.out.setCell (Nat.le_refl _) _⟩
          case measure => simp [intOf]; omega
    · obtain rfl : i = n := by omega
      have hz : hi = [] := List.eq_nil_of_length_eq_zero (by have := HR.out.hilen; omega)
      subst hz
      have hv : Hid (val lo = y * x) := by
        have := HR.out.eq
        rwa [val_take_all _ _ (by rw [HA.out.len]; omega), val_mag] at this
      have hlen := Lib.hid HR.out.len
      have HBL : Hid (Blk V w.heap.size lo) := by have := HBK.out; rwa [List.append_nil] at this
      have h1' : decide ((i : Int) < i) = false := by simp
      go_wp2_with fail
      refine (rtrim_any _ (i + m) (i + m) lo _ (by have := HBL.out.whole; rwa [hlen.out, Nat.add_comm m i] at this) (by omega) (by omega)).mono ?_
      rintro e w' ⟨q, hq, rfl, ht, rfl⟩
      have HT := Lib.hid ht
      clear ht
      go_wp2
      go_ret
      have h1 := HBL.out.whole.mg (c := i + m) hq (by rw [hlen.out]; omega) (by omega) HT.out
      rw [hv.out] at h1
      exact ⟨_, rfl, h1, hbl⟩
end Go.Proofs.Ytfigimfdojbkeaa
end
