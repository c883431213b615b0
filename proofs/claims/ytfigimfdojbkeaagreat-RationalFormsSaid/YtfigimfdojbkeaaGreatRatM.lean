/-
  Rational numbers: plain facts about numerators and denominators.
-/
import Derived.Test.YtfigimfdojbkeaaGreatIntC
set_option linter.unusedSimpArgs false
set_option linter.unusedVariables false
namespace Go.Proofs.YtfigimfdojbkeaaGreat

theorem rat_pos (q : Rat) : 0 < q.den := Nat.pos_of_ne_zero q.den_nz
theorem gcd_num (q : Rat) : Nat.gcd q.num.natAbs q.den = 1 := q.reduced

theorem rnew_num (n d : Int) (h : 0 < d) : (Rat.divInt n d).num = n / (Nat.gcd n.natAbs d.natAbs : Nat) := by
  rw [Rat.num_divInt, Int.sign_eq_one_of_pos h, Int.one_mul, Int.gcd, Nat.gcd_comm]
theorem rnew_den (n d : Int) (h : 0 < d) : ((Rat.divInt n d).den : Int) = d / (Nat.gcd n.natAbs d.natAbs : Nat) := by
  rw [Rat.den_divInt, if_neg (by omega), Int.gcd, Nat.gcd_comm, Int.natCast_ediv]
  congr 1
  omega
theorem rnew_num_neg (n d : Int) (h : d < 0) : (Rat.divInt n d).num = n / (-(Nat.gcd n.natAbs d.natAbs : Nat)) := by
  rw [Rat.num_divInt, Int.sign_eq_neg_one_of_neg h, Int.neg_mul, Int.one_mul, Int.ediv_neg, Int.gcd, Nat.gcd_comm, Int.neg_ediv_of_dvd]
  exact Int.ofNat_dvd_left.2 (Nat.gcd_dvd_left _ _)
theorem rnew_den_neg (n d : Int) (h : d < 0) : ((Rat.divInt n d).den : Int) = d / (-(Nat.gcd n.natAbs d.natAbs : Nat)) := by
  rw [Rat.den_divInt, if_neg (by omega), Int.gcd, Nat.gcd_comm, Int.natCast_ediv, Int.ediv_neg]
  rw [show ((d.natAbs : Nat) : Int) = -d by omega, Int.neg_ediv_of_dvd]
  exact Int.ofNat_dvd_left.2 (Nat.gcd_dvd_right _ _)
end Go.Proofs.YtfigimfdojbkeaaGreat

