/-
  What the simplest number of an interval is.
-/
import Derived.Test.YtfigimfdojbkeaaGreatRatB2
import Derived.Deep.DeepCutAuto
import Derived.Handy
set_option linter.unusedSimpArgs false
set_option linter.unusedVariables false
namespace Go.Proofs.YtfigimfdojbkeaaGreat
open Go.RowKit
attribute [local go_sem ↓] Go.wp_at_zero Go.wp_at_succ

/-- What the simplest number of an interval is. -/
structure Lst (a b c : Rat) : Prop where
  low : a ≤ c
  high : c ≤ b
  least : ∀ u v : Int, 0 < v → a.num * v ≤ u * a.den → u * b.den ≤ b.num * v → (c.den : Int) ≤ v ∧ c.num.natAbs ≤ u.natAbs
theorem lst_pos {a b : Rat} (hp : 0 < a.num) (hle : a ≤ b) : Lst a b (smp a b) := by
  have k := smp_spec hp ((Rat.le_iff a b).1 hle)
  refine ⟨(Rat.le_iff _ _).2 k.low, (Rat.le_iff _ _).2 k.high, fun u v hv h1 h2 => ?_⟩
  have h := k.least u v hv h1 h2
  have := k.npos
  exact ⟨h.1, by omega⟩
theorem lst_neg {a b c : Rat} (h : Lst (-b) (-a) c) : Lst a b (-c) := by
  refine ⟨by have := h.high; grind, by have := h.low; grind, fun u v hv h1 h2 => ?_⟩
  have k := h.least (-u) v hv (by rw [Rat.neg_num, rneg_den, Int.neg_mul, Int.neg_mul]; omega) (by rw [Rat.neg_num, rneg_den, Int.neg_mul, Int.neg_mul]; omega)
  rw [rneg_den, Rat.neg_num]
  exact ⟨k.1, by have := k.2; omega⟩
theorem lst_same_pos {a : Rat} (hp : 0 < a.num) : Lst a a a := by
  have e : smp a a = a := by
    have k := lst_pos hp (Rat.le_refl (a := a))
    have h1 := k.low; have h2 := k.high
    grind
  have k := lst_pos hp (Rat.le_refl (a := a))
  rwa [e] at k
theorem lst_btw {a b : Rat} (hle : a ≤ b) : Lst a b (btw a b) := by
  unfold btw
  by_cases h1 : 0 < a.num
  · rw [if_pos h1]
    by_cases h : a = b
    · rw [if_pos h]; subst h; exact lst_same_pos h1
    · rw [if_neg h]; exact lst_pos h1 hle
  · rw [if_neg h1]
    by_cases h2 : b.num < 0
    · rw [if_pos h2]
      by_cases h : a = b
      · rw [if_pos h]; subst h
        have k := lst_neg (lst_same_pos (a := -a) (by rw [Rat.neg_num]; omega))
        rwa [Rat.neg_neg] at k
      · rw [if_neg h]
        exact lst_neg (lst_pos (by rw [Rat.neg_num]; omega) (by grind))
    · rw [if_neg h2]
      refine ⟨?_, ?_, fun u v hv _ _ => ⟨?_, ?_⟩⟩
      · rw [Rat.le_iff, Rat.num_intCast, Rat.den_intCast]
        have := den_cast a
        simp
        omega
      · rw [Rat.le_iff, Rat.num_intCast, Rat.den_intCast, Int.zero_mul]
        have e : b.num * ((1 : Nat) : Int) = b.num := Int.mul_one _
        rw [e]
        omega
      · rw [Rat.den_intCast]; omega
      · rw [Rat.num_intCast]; simp
theorem btw_sr {a b : Rat} {N : Nat} (hN : 2 ≤ N) (hle : a ≤ b) (sa : Sr a N) (sb : Sr b N) : Sr (btw a b) N := by
  unfold btw
  split
  · rename_i h1
    split
    · exact sa
    · exact smp_sr h1 ((Rat.le_iff a b).1 hle) sb
  · split
    · rename_i h2
      split
      · exact sa
      · exact (smp_sr (by rw [Rat.neg_num]; omega) ((Rat.le_iff _ _).1 (by grind)) sa.neg).neg
    · exact (Sr.whole (by decide)).mono hN
theorem btw_sign {a b : Rat} (hle : a ≤ b) : (sg (btw a b).num == 0) = (decide (sg a.num ≤ 0) && decide (0 ≤ sg b.num)) := by
  have k := lst_btw hle
  have h1 := (Rat.le_iff _ _).1 k.low
  have h2 := (Rat.le_iff _ _).1 k.high
  by_cases c1 : 0 < a.num
  · have e1 : sg a.num = 1 := sg_pos2 c1
    have e2 : 0 < (btw a b).num := num_pos_of c1 h1
    rw [sg_pos2 e2, e1]; rfl
  · by_cases c2 : b.num < 0
    · have e1 : sg b.num = -1 := by unfold sg; rw [if_pos c2]
      have e2 : (btw a b).num < 0 := by
        have := Int.mul_neg_of_neg_of_pos c2 (den_cast (btw a b))
        by_cases h : (btw a b).num < 0
        · exact h
        · have := Int.mul_nonneg (Int.not_lt.1 h) (Int.le_of_lt (den_cast b)); omega
      have e3 : sg (btw a b).num = -1 := by unfold sg; rw [if_pos e2]
      rw [e3, e1]; simp
    · have e : btw a b = ((0 : Int) : Rat) := by unfold btw; rw [if_neg c1, if_neg c2]
      rw [e, decide_eq_true (sg_le.2 c1), decide_eq_true (sg_ge.2 c2)]
      rfl
theorem mul_den (a : Rat) : a * ((a.den : Int) : Rat) = (a.num : Rat) := by
  have h := Rat.num_divInt_den a
  rw [Rat.divInt_eq_div] at h
  have h0 : ((a.den : Int) : Rat) ≠ 0 := by
    intro e
    have := congrArg Rat.num e
    rw [Rat.num_intCast] at this
    have h2 := rat_pos a
    have h3 : (0 : Rat).num = 0 := rfl
    omega
  generalize (a.num : Rat) = n at *
  generalize ((a.den : Int) : Rat) = d at *
  rw [← h, Rat.div_mul_cancel h0]
theorem den_nn (a : Rat) : (0 : Rat) ≤ ((a.den : Int) : Rat) := by
  have : ((0 : Int) : Rat) ≤ ((a.den : Int) : Rat) := Rat.intCast_le_intCast.2 (Int.le_of_lt (den_cast a))
  exact this
theorem up_le {a : Rat} {u d : Int} (h : a * (d : Rat) ≤ (u : Rat)) : a.num * d ≤ u * a.den := by
  have k := Rat.mul_le_mul_of_nonneg_right h (den_nn a)
  have e : a * (d : Rat) * ((a.den : Int) : Rat) = ((a.num * d : Int) : Rat) := by
    rw [Rat.intCast_mul, ← mul_den a]; grind
  rw [e, ← Rat.intCast_mul] at k
  exact Rat.intCast_le_intCast.1 k
theorem dn_le {b : Rat} {u d : Int} (h : (u : Rat) ≤ b * (d : Rat)) : u * b.den ≤ b.num * d := by
  have k := Rat.mul_le_mul_of_nonneg_right h (den_nn b)
  have e : b * (d : Rat) * ((b.den : Int) : Rat) = ((b.num * d : Int) : Rat) := by
    rw [Rat.intCast_mul, ← mul_den b]; grind
  rw [e, ← Rat.intCast_mul] at k
  exact Rat.intCast_le_intCast.1 k
/-- No multiple of 1/d lies in the interval, if d is less than the denominator. -/
theorem lst_empty {a b c : Rat} (k : Lst a b c) {d : Int} (hd : 0 < d) (hdc : d < c.den) {f : Rat} (hn : f.num = (b * (d : Rat)).num / (b * (d : Rat)).den) (hf : (f.den : Int) = 1) : cq f (a * (d : Rat)) < 0 := by
  have e : f = (((b * (d : Rat)).num / (b * (d : Rat)).den : Int) : Rat) := Rat.ext (by rw [hn, Rat.num_intCast]) (by rw [Rat.den_intCast]; omega)
  have h1 := or_floor (b * (d : Rat)) hn hf
  rw [cq_le] at h1
  by_cases h : a * (d : Rat) ≤ f
  · exfalso
    rw [e] at h h1
    have := (k.least _ d hd (up_le h) (dn_le h1)).1
    omega
  · have h2 : f < a * (d : Rat) := by grind
    rw [cq_lt h2]; omega

end Go.Proofs.YtfigimfdojbkeaaGreat
