/-
 Plain: the simplest number of an interval, by the continued fractions that its ends have in common.
-/
import Derived.Test.YtfigimfdojbkeaaGreatMath
set_option linter.unusedSimpArgs false
set_option linter.unusedVariables false
namespace Go.Proofs.YtfigimfdojbkeaaGreat.Bt
def bs : Nat → Int → Int → Int → Int → Int × Int
 | 0, _, _, _, _ => (0, 0)
 | f + 1, p, q, r, s =>
  if p % q = 0 then (p / q, 1)
  else if p / q < r / s then (p / q + 1, 1)
  else ((p / q) * (bs f s (r % s) q (p % q)).1 + (bs f s (r % s) q (p % q)).2, (bs f s (r % s) q (p % q)).1)

structure Spec (p q r s N D : Int) : Prop where
 dpos : 0 < D
 npos : 0 < N
 cop : Int.gcd N D = 1
 low : p * D ≤ N * q
 high : N * s ≤ r * D
 least : ∀ u v : Int, 0 < v → p * v ≤ u * q → u * s ≤ r * v → D ≤ v ∧ N ≤ u

theorem le_of_mul {a b c : Int} (h : a * c ≤ b * c) (hc : 0 < c) : a ≤ b := Int.le_of_mul_le_mul_right h hc
theorem mod_pos {a b : Int} (hb : 0 < b) (h : a % b ≠ 0) : 0 < a % b ∧ a % b < b := ⟨by have := Int.emod_nonneg a (show b ≠ 0 by omega); omega, Int.emod_lt_of_pos a hb⟩

theorem same_floor {p q r s : Int} (hq : 0 < q) (hs : 0 < s) (hle : p * s ≤ r * q) (h1 : p % q ≠ 0) (h2 : ¬ p / q < r / s) : p / q = r / s ∧ 0 < r % s := by
 have hp := mod_pos hq h1
 have ep := Int.mul_ediv_add_emod p q
 have er := Int.mul_ediv_add_emod r s
 have hr0 := Int.emod_nonneg r (show s ≠ 0 by omega)
 have hrs := Int.emod_lt_of_pos r hs
 generalize p / q = f at *
 generalize r / s = g at *
 generalize p % q = x at *
 generalize r % s = y at *
 subst ep er
 -- (q f + x) s ≤ (s g + y) q
 have e : q * s * (f - g) + x * s ≤ y * q := by grind
 have hxs : 0 < x * s := Int.mul_pos hp.1 hs
 have hyq : y * q < s * q := Int.mul_lt_mul_of_pos_right hrs hq
 have hfg : f = g := by
  rcases Int.lt_trichotomy f g with h | h | h
  ·exact absurd h h2
  ·exact h
  ·have : q * s * 1 ≤ q * s * (f - g) := Int.mul_le_mul_of_nonneg_left (by omega) (Int.le_of_lt (Int.mul_pos hq hs))
   grind
 refine ⟨hfg, ?_⟩
 subst hfg
 rcases Int.lt_or_eq_of_le hr0 with h | h
 ·exact h
 ·rw [← h] at e
  grind

theorem la {p q r s f x y : Int} (ep : q * f + x = p) (er : s * f + y = r) (h : p * s ≤ r * q) : s * x ≤ q * y := by
 subst ep er
 have e1 : (q * f + x) * s = q * f * s + s * x := by grind
 have e2 : (s * f + y) * q = q * f * s + q * y := by grind
 omega
theorem lb {p q f x N D : Int} (ep : q * f + x = p) (h : N * x ≤ q * D) : p * N ≤ (f * N + D) * q := by
 subst ep
 have e1 : (q * f + x) * N = q * f * N + N * x := by grind
 have e2 : (f * N + D) * q = q * f * N + q * D := by grind
 omega
theorem lc {r s f y N D : Int} (er : s * f + y = r) (h : s * D ≤ N * y) : (f * N + D) * s ≤ r * N := by
 subst er
 have e1 : (s * f + y) * N = s * f * N + N * y := by grind
 have e2 : (f * N + D) * s = s * f * N + s * D := by grind
 omega
theorem ld {p q f x u v : Int} (ep : q * f + x = p) (h : p * v ≤ u * q) : x * v ≤ (u - f * v) * q := by
 subst ep
 have e1 : (q * f + x) * v = q * f * v + x * v := by grind
 have e2 : (u - f * v) * q = u * q - q * f * v := by grind
 omega
theorem le {r s f y u v : Int} (er : s * f + y = r) (h : u * s ≤ r * v) : (u - f * v) * s ≤ y * v := by
 subst er
 have e1 : (s * f + y) * v = s * f * v + y * v := by grind
 have e2 : (u - f * v) * s = u * s - s * f * v := by grind
 omega
theorem bs_spec : ∀ (f : Nat) (p q r s : Int), 0 < p → 0 < q → 0 < s → p * s ≤ r * q → (q + s).toNat ≤ f → Spec p q r s (bs f p q r s).1 (bs f p q r s).2 := by
 intro f
 induction f with
 | zero => intro p q r s _ hq hs _ hf; omega
 | succ f ih =>
  intro p q r s hp hq hs hle hf
  unfold bs
  by_cases h1 : p % q = 0
  ·rw [if_pos h1]
   have ep := Int.mul_ediv_add_emod p q
   rw [h1, Int.add_zero] at ep
   have hfp : 0 < p / q := by
    by_cases h : 0 < p / q
    ·exact h
    ·have := Int.mul_le_mul_of_nonneg_left (Int.not_lt.1 h) (Int.le_of_lt hq); omega
   refine ⟨by simp, hfp, by simp, by simp only; grind, ?_, ?_⟩
   ·simp only
    have : q * (p / q * s) ≤ q * (r * 1) := by rw [← Int.mul_assoc, ep, Int.mul_one, Int.mul_comm q r]; exact hle
    exact Int.le_of_mul_le_mul_left this hq
   ·intro u v hv h3 h4
    refine ⟨by simp only; omega, ?_⟩
    simp only
    have h5 : p * 1 ≤ p * v := Int.mul_le_mul_of_nonneg_left (by omega) (Int.le_of_lt hp)
    exact le_of_mul (c := q) (by grind) hq
  ·rw [if_neg h1]
   have hx := mod_pos hq h1
   have ep := Int.mul_ediv_add_emod p q
   by_cases h2 : p / q < r / s
   ·rw [if_pos h2]
    have er := Int.mul_ediv_add_emod r s
    have hr0 := Int.emod_nonneg r (show s ≠ 0 by omega)
    have hf0 : 0 ≤ p / q := Int.ediv_nonneg (Int.le_of_lt hp) (Int.le_of_lt hq)
    generalize p / q = g at *
    generalize r / s = k at *
    generalize p % q = x at *
    generalize r % s = y at *
    refine ⟨by simp, by simp only; omega, by simp, by simp only; grind, ?_, ?_⟩
    ·simp only
     have : s * (g + 1) ≤ s * k := Int.mul_le_mul_of_nonneg_left (by omega) (Int.le_of_lt hs)
     grind
    ·intro u v hv h3 h4
     refine ⟨by simp only; omega, ?_⟩
     simp only
     have h5 : p * 1 ≤ p * v := Int.mul_le_mul_of_nonneg_left (by omega) (Int.le_of_lt hp)
     have h6 : g * q < u * q := by grind
     have := Int.lt_of_mul_lt_mul_right h6 (Int.le_of_lt hq)
     omega
   ·rw [if_neg h2]
    obtain ⟨hfg, hy⟩ := same_floor hq hs hle h1 h2
    have er := Int.mul_ediv_add_emod r s
    have hys := Int.emod_lt_of_pos r hs
    have hf0 : 0 ≤ p / q := Int.ediv_nonneg (Int.le_of_lt hp) (Int.le_of_lt hq)
    rw [← hfg] at er
    have hle2 : s * (p % q) ≤ q * (r % s) := la ep er hle
    have k := ih s (r % s) q (p % q) hs hy hx.1 hle2 (by omega)
    generalize bs f s (r % s) q (p % q) = nd at *
    obtain ⟨N, D⟩ := nd
    simp only at *
    generalize p / q = g at *
    generalize p % q = x at *
    generalize r % s = y at *
    obtain ⟨k1, k2, k3, k4, k5, k6⟩ := k
    have hgN : 0 ≤ g * N := Int.mul_nonneg hf0 (Int.le_of_lt k2)
    refine ⟨k2, by omega, ?_, ?_, ?_, ?_⟩
    ·rw [Int.gcd_comm, Int.add_comm, Int.gcd_add_mul_right_right]; exact k3
    ·exact lb ep k5
    ·exact lc er k4
    ·intro u v hv h3 h4
     have h5 : x * v ≤ (u - g * v) * q := ld ep h3
     have h6 : (u - g * v) * s ≤ y * v := le er h4
     have hxv : 0 < x * v := Int.mul_pos hx.1 hv
     have ht : 0 < u - g * v := by
      by_cases h : 0 < u - g * v
      ·exact h
      ·have := Int.mul_le_mul_of_nonneg_right (Int.not_lt.1 h) (Int.le_of_lt hq); omega
     have := k6 v (u - g * v) ht (by rw [Int.mul_comm s, Int.mul_comm v]; exact h6) (by rw [Int.mul_comm v, Int.mul_comm q]; exact h5)
     refine ⟨this.2, ?_⟩
     have : g * N ≤ g * v := Int.mul_le_mul_of_nonneg_left this.2 hf0
     omega
end Go.Proofs.YtfigimfdojbkeaaGreat.Bt
