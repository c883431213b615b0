/-
  Plain: the simplest number of an interval, by the continued fractions that its ends have in common.
-/
import Derived.Test.YtfigimfdojbkeaaGreatMath
set_option linter.unusedSimpArgs false
set_option linter.unusedVariables false
namespace Go.Proofs.YtfigimfdojbkeaaGreat.Bt
structure Spec (p q r s N D : Int) : Prop where
  dpos : 0 < D
  npos : 0 < N
  cop : Int.gcd N D = 1
  low : p * D ≤ N * q
  high : N * s ≤ r * D
  least : ∀ u v : Int, 0 < v → p * v ≤ u * q → u * s ≤ r * v → D ≤ v ∧ N ≤ u

theorem lc {r s f y N D : Int} (er : s * f + y = r) (h : s * D ≤ N * y) : (f * N + D) * s ≤ r * N := by
  subst er
  have e1 : (s * f + y) * N = s * f * N + N * y := by grind
  have e2 : (f * N + D) * s = s * f * N + s * D := by grind
  omega
theorem ld {p q f x u v : Int} (ep : q * f + x = p) (h : p * v ≤ u * q) : x * v ≤ (u - f * v) * q := by
  subst ep
  have e1 : (q * f + x) * v = q * f * v + x * v := by grind
  have e2 : (u - f * v) * q = u * q - q * f * v := by grind
  omega
end Go.Proofs.YtfigimfdojbkeaaGreat.Bt
