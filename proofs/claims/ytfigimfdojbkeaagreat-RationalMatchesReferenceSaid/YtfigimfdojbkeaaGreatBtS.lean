/-
 What the search for the simplest number answers; its numbers stay short.
-/
import Derived.Test.YtfigimfdojbkeaaGreatRatL
import Derived.Test.YtfigimfdojbkeaaGreatLawI
import Derived.Test.YtfigimfdojbkeaaGreatBtM
set_option linter.unusedSimpArgs false
set_option linter.unusedVariables false
namespace Go.Proofs.YtfigimfdojbkeaaGreat
open Bt

theorem srch_bs : ∀ (f : Nat) (p q r s h i k j : Int), 0 < p → 0 < q → 0 < s → p * s ≤ r * q → (q + s).toNat ≤ f →
  srch f p q r s h i k j = (h * (bs f p q r s).1 + i * (bs f p q r s).2, k * (bs f p q r s).1 + j * (bs f p q r s).2) := by
 intro f
 induction f with
 | zero => intro p q r s h i k j _ hq hs _ hf; omega
 | succ f ih =>
  intro p q r s h i k j hp hq hs hle hf
  unfold srch bs
  by_cases h1 : p % q = 0
  ·rw [if_pos h1, if_pos h1]; simp
  ·rw [if_neg h1, if_neg h1]
   by_cases h2 : p / q < r / s
   ·rw [if_pos h2, if_pos h2]; simp
   ·rw [if_neg h2, if_neg h2]
    obtain ⟨hfg, hy⟩ := same_floor hq hs hle h1 h2
    have hx := mod_pos hq h1
    have ep := Int.mul_ediv_add_emod p q
    have er := Int.mul_ediv_add_emod r s
    have hys := Int.emod_lt_of_pos r hs
    rw [← hfg] at er
    rw [ih s (r % s) q (p % q) _ _ _ _ hs hy hx.1 (la ep er hle) (by omega)]
    generalize bs f s (r % s) q (p % q) = nd
    obtain ⟨N, D⟩ := nd
    simp only
    generalize p / q = g
    congr 1 <;> grind
theorem nn_le {h i p q B : Int} (hh : 0 ≤ h) (hi : 0 ≤ i) (hp : 0 < p) (hq : 0 < q) (hb : h * p + i * q ≤ B) : h ≤ B ∧ i ≤ B := by
 have h1 : h * 1 ≤ h * p := Int.mul_le_mul_of_nonneg_left (by omega) hh
 have h2 : i * 1 ≤ i * q := Int.mul_le_mul_of_nonneg_left (by omega) hi
 omega
theorem sz_le {z B : Int} {N : Nat} (hB : Sz B N) (h0 : 0 ≤ z) (h : z ≤ B) : Sz z N := Sz.of_le hB (by omega)
theorem nx1 {h i g s y r : Int} (er : s * g + y = r) : (h * g + i) * s + h * y = h * r + i * s := by subst er; grind
theorem sok_of {B : Int} (hB : Sz B 10000) : ∀ (f : Nat) (p q r s h i k j : Int), 0 < p → 0 < q → 0 < r → 0 < s → p * s ≤ r * q → (q + s).toNat ≤ f → p ≤ B → q ≤ B → r ≤ B → s ≤ B →
  0 ≤ h → 0 ≤ i → 0 ≤ k → 0 ≤ j → h * p + i * q ≤ B → h * r + i * s ≤ B → k * p + j * q ≤ B → k * r + j * s ≤ B → SOk f p q r s h i k j := by
 intro f
 induction f with
 | zero => intro p q r s h i k j _ hq _ hs _ hf; omega
 | succ f ih =>
  intro p q r s h i k j hp hq hr hs hle hf bp bq br bs' h0 i0 k0 j0 e1 e2 e3 e4
  refine ⟨⟨by omega, by omega, sz_le hB (by omega) bp, sz_le hB (by omega) bq, sz_le hB (by omega) br, sz_le hB (by omega) bs', sz_le hB h0 (nn_le h0 i0 hp hq e1).1, sz_le hB i0 (nn_le h0 i0 hp hq e1).2, sz_le hB k0 (nn_le k0 j0 hp hq e3).1, sz_le hB j0 (nn_le k0 j0 hp hq e3).2⟩, fun h1 h2 => ?_⟩
  obtain ⟨hfg, hy⟩ := same_floor hq hs hle h1 h2
  have hx := mod_pos hq h1
  have ep := Int.mul_ediv_add_emod p q
  have er := Int.mul_ediv_add_emod r s
  have hys := Int.emod_lt_of_pos r hs
  have hf0 : 0 ≤ p / q := Int.ediv_nonneg (Int.le_of_lt hp) (Int.le_of_lt hq)
  rw [← hfg] at er
  refine ih s (r % s) q (p % q) _ _ _ _ hs hy hq hx.1 (la ep er hle) (by omega) bs' (by omega) bq (by omega) (Int.add_nonneg (Int.mul_nonneg h0 hf0) i0) h0 (Int.add_nonneg (Int.mul_nonneg k0 hf0) j0) k0 ?_ ?_ ?_ ?_
  ·rw [nx1 er]; exact e2
  ·rw [nx1 ep]; exact e1
  ·rw [nx1 er]; exact e4
  ·rw [nx1 ep]; exact e3
end Go.Proofs.YtfigimfdojbkeaaGreat
