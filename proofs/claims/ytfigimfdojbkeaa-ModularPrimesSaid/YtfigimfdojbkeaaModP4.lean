/-
  Layer 3, plain facts: the tests of single numbers (some minutes); a number below 2^31 that passes is a prime.
-/
import Derived.Test.YtfigimfdojbkeaaModP3
set_option linter.unusedSimpArgs false
set_option linter.unusedVariables false
namespace Go.Proofs.Ytfigimfdojbkeaa.Mil
theorem chA1 : chkA 250 1001 = true := by decide +kernel
theorem chA2 : chkA 250 1501 = true := by decide +kernel
theorem chA3 : chkA 3000 2001 = true := by decide +kernel
theorem chA4 : chkA 8000 8001 = true := by decide +kernel
theorem chA5 : chkA 11170 24001 = true := by decide +kernel
theorem ctA (p : Nat) (hp : IsPr p) (h1 : 1001 ≤ p) (h2 : p < 46341) : oneA p = true := by
  have hodd : p % 2 ≠ 0 := fun h => not_wit hp isPr2 (by omega) (by
    have := hp.div 2 (by omega) (by omega)
    exact absurd h this)
  have at_ : ∀ {f q}, chkA f q = true → q ≤ p → q % 2 = 1 → p < q + 2 * f → oneA p = true := fun {f q} h h3 h4 h5 => by
    have := chkA_of f q h ((p - q) / 2) (by omega)
    rw [show q + 2 * ((p - q) / 2) = p by omega] at this
    exact this
  by_cases a1 : p < 1501
  · exact at_ chA1 (by omega) (by omega) (by omega)
  by_cases a2 : p < 2001
  · exact at_ chA2 (by omega) (by omega) (by omega)
  by_cases a3 : p < 8001
  · exact at_ chA3 (by omega) (by omega) (by omega)
  by_cases a4 : p < 24001
  · exact at_ chA4 (by omega) (by omega) (by omega)
  · exact at_ chA5 (by omega) (by omega) (by omega)
/-- A number below 2^31 that 2, 3, 5, 7 do not divide and that passes with these witnesses is a prime. -/
theorem miller_prime {n : Nat} (h2 : 2 ≤ n) (hlt : n ≤ 2147483647) (d2 : n % 2 ≠ 0) (d3 : n % 3 ≠ 0) (d5 : n % 5 ≠ 0) (d7 : n % 7 ≠ 0) (ha : All n) : IsPr n :=
  miller ctA ctT ctW ctC ctB h2 hlt d2 d3 d5 d7 ha
end Go.Proofs.Ytfigimfdojbkeaa.Mil
