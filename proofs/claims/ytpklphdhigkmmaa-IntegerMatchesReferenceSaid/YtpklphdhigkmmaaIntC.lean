/-
  Contracts of Of, Small, Sign, Cmp, Bits, Valid.
-/
import Derived.Test.YtpklphdhigkmmaaIntB
namespace Go.Proofs.Ytpklphdhigkmmaa
open Go.RowKit
attribute [local go_sem ↓] Go.wp_at_zero Go.wp_at_succ

theorem iv_next {w w1 w' : World} {v : Value} {z : Int} (h : Iv w v z) (hb : Below w1.heap.size w1 w') (e : w1.heap = w.heap) : Iv w' v z := by
  obtain ⟨m, e1, h1⟩ := h
  exact ⟨m, e1, h1.next hb e⟩
theorem Sz.mono {z : Int} {N M : Nat} (h : Sz z N) (hNM : N ≤ M) : Sz z M := ⟨Nat.lt_of_lt_of_le h.lt (pw_le hNM)⟩
theorem Sz.add {a b : Int} {N : Nat} (h : Sz a N) (k : Sz b N) : Sz (a + b) (N + 1) := by
  have h1 := h.lt
  have h2 := k.lt
  have := Int.natAbs_add_le a b
  exact ⟨by rw [pw_succ]; omega⟩
theorem Sz.neg {a : Int} {N : Nat} (h : Sz a N) : Sz (-a) N := ⟨by rw [Int.natAbs_neg]; exact h.lt⟩
theorem Sz.sub {a b : Int} {N : Nat} (h : Sz a N) (k : Sz b N) : Sz (a - b) (N + 1) := by
  have := h.add k.neg
  rwa [show a + -b = a - b by omega] at this
theorem Sz.mul {a b : Int} {N M : Nat} (h : Sz a N) (k : Sz b M) : Sz (a * b) (N + M) :=
  ⟨by rw [Int.natAbs_mul, pw_add]; exact Nat.mul_lt_mul'' h.lt k.lt⟩
theorem Sz.small {a : Int} (h1 : -9223372036854775808 ≤ a) (h2 : a ≤ 9223372036854775808) : Sz a 2 :=
  ⟨by rw [show pw 2 = 18446744073709551616 from rfl]; omega⟩

set_option maxHeartbeats 1000000 in
theorem of_any (z : Int) (w : World) (h1 : -9223372036854775808 ≤ z) (h2 : z ≤ 9223372036854775807) :
    Calls Try.prog 84 #[.int .i64 z] w (RetIv z w) := by
  by_cases h0 : z < 0
  · obtain ⟨x, rfl⟩ : ∃ x : Nat, z = -(x : Int) := ⟨z.natAbs, by omega⟩
    have e1 : IntKind.u64.wrap (-(IntKind.u64.wrap (-(x : Int)))) = (x : Int) := by rw [IntKind.wrap_u64, IntKind.wrap_u64]; omega
    have e2 : Hid (sgn true x = -(x : Int)) := rfl
    go_enter Try.func84, Try.ntmps84
    go_wp2_with fail
    refine (wordsOf_any x _ (by omega)).mono ?_
    rintro e w1 ⟨v1, rfl, ⟨A1, n1, c1, rfl, a1, a2, a3⟩, hbl1⟩
    have A3 := Lib.hid a3
    have hn1 : n1 ≤ 2 := by rw [← a3.len]; exact mag_length_le (by rw [show pw 2 = 18446744073709551616 from rfl]; omega)
    clear a3
    go_wp2_with fail
    refine (signed_mg true A1 n1 c1 x _ A3.out (by omega) a1 a2).mono ?_
    rintro e w2 ⟨v2, rfl, hv2, hbl2⟩
    rw [e2.out] at hv2
    obtain ⟨A2, n2, c2, rfl, k1, k2, k3⟩ := hv2.form
    have K3 := Lib.hid k3
    have hbx1 : Box w1 w.heap.size false (.slice none 0 0) := (Box.new w _ _).below hbl1 (by simp)
    have hbx2 := Lib.hid (hbx1.below hbl2 hbx1.lt)
    have q0 := hbx2.out.cell0
    have q1 := hbx2.out.cell1
    have q2 := hbx2.out.frozen 0
    have q3 := hbx2.out.frozen 1
    have hbl02 : Below w.heap.size w w2 := (below_new hbl1).trans (hbl2.mono (below_new hbl1).size)
    clear k3 hbx1 hv2
    go_wp2
    exact bodyPost_ret (v := .agg #[.bool (decide (-(x : Int) < 0)), .slice A2 n2 c2]) (by simp [results, Try.results84, go_sem, q0, q1]; omega) rfl ⟨_, rfl, iv_store k1 k2 K3.out hbx2.out _, (hbl02.setCell (Nat.le_refl _) _).setCell (Nat.le_refl _) _⟩
  · obtain ⟨x, rfl⟩ : ∃ x : Nat, z = (x : Int) := ⟨z.natAbs, by omega⟩
    have e2 : Hid (sgn false x = (x : Int)) := rfl
    go_enter Try.func84, Try.ntmps84
    go_wp2_with fail
    refine (wordsOf_any x _ (by omega)).mono ?_
    rintro e w1 ⟨v1, rfl, ⟨A1, n1, c1, rfl, a1, a2, a3⟩, hbl1⟩
    have A3 := Lib.hid a3
    have hn1 : n1 ≤ 2 := by rw [← a3.len]; exact mag_length_le (by rw [show pw 2 = 18446744073709551616 from rfl]; omega)
    clear a3
    go_wp2_with fail
    refine (signed_mg false A1 n1 c1 x _ A3.out (by omega) a1 a2).mono ?_
    rintro e w2 ⟨v2, rfl, hv2, hbl2⟩
    rw [e2.out] at hv2
    obtain ⟨A2, n2, c2, rfl, k1, k2, k3⟩ := hv2.form
    have K3 := Lib.hid k3
    have hbx1 : Box w1 w.heap.size false (.slice none 0 0) := (Box.new w _ _).below hbl1 (by simp)
    have hbx2 := Lib.hid (hbx1.below hbl2 hbx1.lt)
    have q0 := hbx2.out.cell0
    have q1 := hbx2.out.cell1
    have q2 := hbx2.out.frozen 0
    have q3 := hbx2.out.frozen 1
    have hbl02 : Below w.heap.size w w2 := (below_new hbl1).trans (hbl2.mono (below_new hbl1).size)
    clear k3 hbx1 hv2
    go_wp2
    exact bodyPost_ret (v := .agg #[.bool (decide ((x : Int) < 0)), .slice A2 n2 c2]) (by simp [results, Try.results84, go_sem, q0, q1]) rfl ⟨_, rfl, iv_store k1 k2 K3.out hbx2.out _, (hbl02.setCell (Nat.le_refl _) _).setCell (Nat.le_refl _) _⟩

theorem bits_int (va : Value) (a : Int) (w : World) (ha : Iv w va a) (sa : Sz a 1000000) : Calls Try.prog 71 #[va] w (RetV (.int .i64 (bl a.natAbs : Nat)) w) := by
  obtain ⟨A, n, c, rfl, h1, h2, h3⟩ := ha.form
  have H3 := Lib.hid h3
  have hn : n ≤ 1000000 := by rw [← h3.len]; exact sa.len
  clear h3 sa ha
  go_enter Try.func71, Try.ntmps71
  go_wp2_with fail
  refine (words_int _ A n c _ _ (H3.out.alloc _) (by omega) h1).mono ?_
  rintro e w1 ⟨rfl, hbl1⟩
  go_wp2_with fail
  refine (bitLength_any A n c _ _ ((H3.out.alloc _).below hbl1) (by omega)).mono ?_
  rintro e w2 ⟨rfl, rfl⟩
  go_wp2
  go_ret
  exact ⟨rfl, below_new hbl1⟩

/-- The sign of a number. -/
def sg (z : Int) : Int := if z < 0 then -1 else if z = 0 then 0 else 1
theorem Wd.pos_iff {w : World} {A : Option Addr} {n : Nat} {z : Int} (h : Wd w A n (mag z.natAbs)) : n = 0 ↔ z = 0 := by
  rw [← h.len, mag_length_zero]; omega

set_option maxHeartbeats 1000000 in
theorem sign_any (va : Value) (a : Int) (w : World) (ha : Iv w va a) (sa : Sz a 1000000) : Calls Try.prog 73 #[va] w (RetV (.int .i64 (sg a)) w) := by
  obtain ⟨A, n, c, rfl, h1, h2, h3⟩ := ha.form
  have H3 := Lib.hid h3
  have hn : n ≤ 1000000 := by rw [← h3.len]; exact sa.len
  have hz := h3.pos_iff
  clear h3 sa ha
  by_cases h0 : n = 0
  · have ha0 := hz.1 h0
    have hs : Hid (sg a = 0) := by rw [ha0]; rfl
    subst h0
    clear ha0 hz
    go_enter Try.func73, Try.ntmps73
    go_wp2_with fail
    refine (words_int _ A 0 c _ _ (H3.out.alloc _) (by omega) h1).mono ?_
    rintro e w1 ⟨rfl, hbl1⟩
    go_wp2
    go_ret
    exact ⟨by rw [hs.out]; rfl, below_new hbl1⟩
  · have hne : ¬ a = 0 := fun e => h0 (hz.2 e)
    have ht : ((n : Int) == 0) = false := by simp; omega
    clear hz
    by_cases hneg : a < 0
    · have hs : Hid (sg a = -1) := by unfold sg Hid; rw [if_pos hneg]
      rw [decide_eq_true hneg]
      clear hneg hne h0
      go_enter Try.func73, Try.ntmps73
      go_wp2_with fail
      refine (words_int _ A n c _ _ (H3.out.alloc _) (by omega) h1).mono ?_
      rintro e w1 ⟨rfl, hbl1⟩
      have hb := (Box.new w true (.slice A n c)).below hbl1 (by simp)
      have q0 := hb.cell0
      clear hb
      go_wp2
      go_ret
      exact ⟨by rw [hs.out]; rfl, below_new hbl1⟩
    · have hs : Hid (sg a = 1) := by unfold sg Hid; rw [if_neg hneg, if_neg hne]
      rw [decide_eq_false hneg]
      clear hneg hne h0
      go_enter Try.func73, Try.ntmps73
      go_wp2_with fail
      refine (words_int _ A n c _ _ (H3.out.alloc _) (by omega) h1).mono ?_
      rintro e w1 ⟨rfl, hbl1⟩
      have hb := (Box.new w false (.slice A n c)).below hbl1 (by simp)
      have q0 := hb.cell0
      clear hb
      go_wp2
      go_ret
      exact ⟨by rw [hs.out]; rfl, below_new hbl1⟩

/-- How two integers compare. -/
def cmpZ (a b : Int) : Int := if a < b then -1 else if b < a then 1 else 0
theorem sg_cases (a : Int) : (a < 0 ∧ sg a = -1) ∨ (a = 0 ∧ sg a = 0) ∨ (0 < a ∧ sg a = 1) := by
  unfold sg
  rcases Int.lt_trichotomy a 0 with h | h | h
  · left; exact ⟨h, by rw [if_pos h]⟩
  · right; left; exact ⟨h, by rw [if_neg (by omega), if_pos h]⟩
  · right; right; exact ⟨h, by rw [if_neg (by omega), if_neg (by omega)]⟩
theorem cmpZ_lt {a b : Int} (h : a < b) : cmpZ a b = -1 := by unfold cmpZ; rw [if_pos h]
theorem cmpZ_gt {a b : Int} (h : b < a) : cmpZ a b = 1 := by unfold cmpZ; rw [if_neg (by omega), if_pos h]
theorem cmpZ_eq {a b : Int} (h : a = b) : cmpZ a b = 0 := by unfold cmpZ; rw [if_neg (by omega), if_neg (by omega)]
theorem cmpZ_same {a b : Int} (h : sg a = sg b) : cmpZ a b = sg a * cmpN a.natAbs b.natAbs := by
  rcases sg_cases a with ⟨h1, e1⟩ | ⟨h1, e1⟩ | ⟨h1, e1⟩ <;> rcases sg_cases b with ⟨h2, e2⟩ | ⟨h2, e2⟩ | ⟨h2, e2⟩ <;> rw [e1, e2] at h <;> (try (exfalso; omega)) <;> rw [e1]
  · rcases Int.lt_trichotomy a b with h3 | h3 | h3
    · rw [cmpZ_lt h3, cmpN_gt (by omega)]; rfl
    · rw [cmpZ_eq h3, cmpN_eq (by omega)]; rfl
    · rw [cmpZ_gt h3, cmpN_lt (by omega)]; rfl
  · rw [cmpZ_eq (by omega)]; omega
  · rcases Int.lt_trichotomy a b with h3 | h3 | h3
    · rw [cmpZ_lt h3, cmpN_lt (by omega)]; rfl
    · rw [cmpZ_eq h3, cmpN_eq (by omega)]; rfl
    · rw [cmpZ_gt h3, cmpN_gt (by omega)]; rfl
theorem cmpZ_diff_lt {a b : Int} (h : sg a < sg b) : cmpZ a b = -1 := by
  refine cmpZ_lt ?_
  rcases sg_cases a with ⟨h1, e1⟩ | ⟨h1, e1⟩ | ⟨h1, e1⟩ <;> rcases sg_cases b with ⟨h2, e2⟩ | ⟨h2, e2⟩ | ⟨h2, e2⟩ <;> rw [e1, e2] at h <;> omega
theorem cmpZ_diff_gt {a b : Int} (h : sg b < sg a) : cmpZ a b = 1 := by
  refine cmpZ_gt ?_
  rcases sg_cases a with ⟨h1, e1⟩ | ⟨h1, e1⟩ | ⟨h1, e1⟩ <;> rcases sg_cases b with ⟨h2, e2⟩ | ⟨h2, e2⟩ | ⟨h2, e2⟩ <;> rw [e1, e2] at h <;> omega

set_option maxHeartbeats 2000000 in
theorem cmp_any (va vb : Value) (a b : Int) (w : World) (ha : Iv w va a) (hb : Iv w vb b) (sa : Sz a 1000000) (sb : Sz b 1000000) : Calls Try.prog 24 #[va, vb] w (RetV (.int .i64 (cmpZ a b)) w) := by
  obtain ⟨A, n, c, rfl, h1, h2, h3⟩ := ha.form
  obtain ⟨B, m, d, rfl, k1, k2, k3⟩ := hb.form
  have HA := Lib.hid h3
  have HB := Lib.hid k3
  have HIA := Lib.hid ha
  have HIB := Lib.hid hb
  have hn : n ≤ 1000000 := by rw [← h3.len]; exact sa.len
  have hm : m ≤ 1000000 := by rw [← k3.len]; exact sb.len
  have SA := Lib.hid sa
  have SB := Lib.hid sb
  have hsame : Hid (sg a = sg b → cmpZ a b = sg a * cmpN a.natAbs b.natAbs) := cmpZ_same
  have hd1 : Hid (sg a < sg b → cmpZ a b = -1) := cmpZ_diff_lt
  have hd2 : Hid (sg b < sg a → cmpZ a b = 1) := cmpZ_diff_gt
  have ra : -1 ≤ sg a ∧ sg a ≤ 1 := by rcases sg_cases a with ⟨_, e⟩ | ⟨_, e⟩ | ⟨_, e⟩ <;> omega
  have rb : -1 ≤ sg b ∧ sg b ≤ 1 := by rcases sg_cases b with ⟨_, e⟩ | ⟨_, e⟩ | ⟨_, e⟩ <;> omega
  obtain ⟨ra1, ra2⟩ := ra
  obtain ⟨rb1, rb2⟩ := rb
  clear h3 k3 sa sb ha hb
  generalize hsa : decide (a < 0) = na at *
  generalize hsb : decide (b < 0) = nb at *
  clear hsa hsb
  generalize hqa : sg a = qa at *
  generalize hqb : sg b = qb at *
  have HQA := Lib.hid hqa
  have HQB := Lib.hid hqb
  clear hqa hqb
  go_enter Try.func24, Try.ntmps24
  go_wp2
  obtain ⟨W, hW⟩ : ∃ W, W = (w.alloc (Obj.cells #[Value.bool na, Value.slice A n c] 27)).alloc (Obj.cells #[Value.bool nb, Value.slice B m d] 27) := ⟨_, rfl⟩
  rw [← hW]
  have b0 : Box W w.heap.size na (.slice A n c) := by rw [hW]; exact (Box.new w _ _).alloc _
  have b1 : Box W (w.heap.size + 1) nb (.slice B m d) := by rw [hW]; have := Box.new (w.alloc (Obj.cells #[Value.bool na, Value.slice A n c] 27)) nb (.slice B m d); simpa using this
  have a1 : Iv W (.agg #[.bool na, .slice A n c]) a := by rw [hW]; exact (HIA.out.alloc _).alloc _
  have a2 : Iv W (.agg #[.bool nb, .slice B m d]) b := by rw [hW]; exact (HIB.out.alloc _).alloc _
  have w1 : Wd W A n (mag a.natAbs) := by rw [hW]; exact (HA.out.alloc _).alloc _
  have w2 : Wd W B m (mag b.natAbs) := by rw [hW]; exact (HB.out.alloc _).alloc _
  have hbW : Below w.heap.size w W := by rw [hW]; exact ((Below.refl _ _).alloc (Nat.le_refl _) _).alloc (by simp) _
  have c0 := b0.cell0
  have c1 := b0.cell1
  have c2 := b1.cell0
  have c3 := b1.cell1
  have B0 := Lib.hid b0
  have B1 := Lib.hid b1
  have A1 := Lib.hid a1
  have A2 := Lib.hid a2
  have W1 := Lib.hid w1
  have W2 := Lib.hid w2
  clear hW b0 b1 a1 a2 w1 w2
  have hgW := hbW.size
  generalize hg0 : w.heap.size = g at *
  go_region_held3 (fun w' => w'.cell? ⟨g, 0, none⟩ = some (.bool na) ∧ w'.cell? ⟨g, 1, none⟩ = some (.slice A n c) ∧ w'.cell? ⟨g + 1, 0, none⟩ = some (.bool nb) ∧ w'.cell? ⟨g + 1, 1, none⟩ = some (.slice B m d)) (go_keep)
    (first
      | (go_at_call_of 73 (Value.slice A n c); refine (sign_any _ a _ (by exact A1.out) SA.out).mono ?_; rintro e wa ⟨rfl, hbla⟩
         have ka0 := (by exact B0.out.next hbla rfl : Box wa g na (.slice A n c))
         have ka1 := (by exact B1.out.next hbla rfl : Box wa (g + 1) nb (.slice B m d))
         have p0 := ka0.cell0; have p1 := ka0.cell1; have p2 := ka1.cell0; have p3 := ka1.cell1
         have KA0 := Lib.hid ka0; have KA1 := Lib.hid ka1; clear ka0 ka1)
      | (go_at_call_of 73 (Value.slice B m d); refine (sign_any _ b _ (by exact iv_next A2.out hbla rfl) SB.out).mono ?_; rintro e wb ⟨rfl, hblb⟩
         have kb0 := (by exact KA0.out.next hblb rfl : Box wb g na (.slice A n c))
         have kb1 := (by exact KA1.out.next hblb rfl : Box wb (g + 1) nb (.slice B m d))
         have hbwb := (by exact link_below (link_below hbW hbla hgW rfl rfl rfl rfl) hblb (Nat.le_trans hgW hbla.size) rfl rfl rfl rfl : Below g w wb)
         have q0 := kb0.cell0; have q1 := kb0.cell1; have q2 := kb1.cell0; have q3 := kb1.cell1
         have w1b := (by exact (W1.out.next hbla rfl).next hblb rfl : Wd wb A n (mag a.natAbs))
         have w2b := (by exact (W2.out.next hbla rfl).next hblb rfl : Wd wb B m (mag b.natAbs))
         have KB0 := Lib.hid kb0; have KB1 := Lib.hid kb1; have W1B := Lib.hid w1b; have W2B := Lib.hid w2b; clear kb0 kb1 w1b w2b))
  rw [HQA.out, HQB.out]
  by_cases hq : qa = qb
  · have hres := hsame.out hq
    subst hq
    have ht : (qa != qa) = false := by simp
    have cr := cmpN_range a.natAbs b.natAbs
    generalize hcc : cmpN a.natAbs b.natAbs = cc at *
    have HCC := Lib.hid hcc
    have HRES := Lib.hid hres
    have cc1 : -1 ≤ cc ∧ cc ≤ 1 := by omega
    have pr : -1 ≤ qa * cc ∧ qa * cc ≤ 1 := by
      rcases (show qa = -1 ∨ qa = 0 ∨ qa = 1 by omega) with e | e | e <;> rw [e] <;> omega
    obtain ⟨pr1, pr2⟩ := pr
    have hgb := hbwb.size
    rw [hg0] at hgb
    clear hcc hres cr
    go_wp2
    go_region_held3 (fun w' => w'.cell? ⟨g, 0, none⟩ = some (.bool na) ∧ w'.cell? ⟨g, 1, none⟩ = some (.slice A n c) ∧ w'.cell? ⟨g + 1, 0, none⟩ = some (.bool nb) ∧ w'.cell? ⟨g + 1, 1, none⟩ = some (.slice B m d)) (go_keep)
      (first
        | (go_at_call_of 75 (Value.slice A n c); refine (words_int na A n c a.natAbs _ (by exact W1B.out) (by omega) h1).mono ?_; rintro e wc ⟨rfl, hblc⟩
           have ka0 := (by exact KB0.out.next hblc rfl : Box wc g na (.slice A n c))
           have ka1 := (by exact KB1.out.next hblc rfl : Box wc (g + 1) nb (.slice B m d))
           have r0 := ka0.cell0; have r1 := ka0.cell1; have r2 := ka1.cell0; have r3 := ka1.cell1
           have KC0 := Lib.hid ka0; have KC1 := Lib.hid ka1; clear ka0 ka1)
        | (go_at_call_of 75 (Value.slice B m d); refine (words_int nb B m d b.natAbs _ (by exact W2B.out.next hblc rfl) (by omega) k1).mono ?_; rintro e wd ⟨rfl, hbld⟩
           have ka0 := (by exact KC0.out.next hbld rfl : Box wd g na (.slice A n c))
           have ka1 := (by exact KC1.out.next hbld rfl : Box wd (g + 1) nb (.slice B m d))
           have t0 := ka0.cell0; have t1 := ka0.cell1; have t2 := ka1.cell0; have t3 := ka1.cell1
           clear ka0 ka1)
        | (go_at_call 90; refine (compare_any A B n m c d a.natAbs b.natAbs _ (by exact (W1B.out.next hblc rfl).next hbld rfl) (by exact (W2B.out.next hblc rfl).next hbld rfl) (by omega) (by omega)).mono ?_; rintro e we ⟨rfl, q, rfl⟩; rw [HCC.out]))
    go_wp2
    go_ret
    refine ⟨ret_int (by rw [HRES.out]; exact IntWalk.i64_in _ (by omega)), ?_⟩
    rw [hg0]
    exact below_drewN (by exact link_below (link_below hbwb hblc hgb rfl rfl rfl rfl) hbld (Nat.le_trans hgb hblc.size) rfl rfl rfl rfl) _
  · have hres : Hid (cmpZ a b = if qa < qb then -1 else 1) := by
      unfold Hid
      split
      · rename_i h; exact hd1.out h
      · exact hd2.out (by omega)
    have ha3 : qa = -1 ∨ qa = 0 ∨ qa = 1 := by omega
    have hb3 : qb = -1 ∨ qb = 0 ∨ qb = 1 := by omega
    clear hsame hd1 hd2 ra1 ra2 rb1 rb2 SA SB
    rcases ha3 with rfl | rfl | rfl <;> rcases hb3 with rfl | rfl | rfl
    all_goals first
      | exact absurd rfl hq
      | (clear hq
         go_wp2
         go_ret
         exact ⟨ret_int (by rw [hres.out]; rfl), by rw [hg0]; exact hbwb⟩)
end Go.Proofs.Ytpklphdhigkmmaa
