/-
  Rational numbers: plain facts about numerators and denominators.
-/
import Derived.Test.YtfigimfdojbkeaaIntC
set_option linter.unusedSimpArgs false
set_option linter.unusedVariables false
namespace Go.Proofs.Ytfigimfdojbkeaa

theorem rmul_num (a b : Rat) : (a * b).num = a.num / (Nat.gcd a.num.natAbs b.den : Nat) * (b.num / (Nat.gcd b.num.natAbs a.den : Nat)) := by
  show (Rat.mul a b).num = _
  unfold Rat.mul
  simp only [Int.divExact_eq_ediv]
theorem rmul_den (a b : Rat) : (a * b).den = a.den / (Nat.gcd b.num.natAbs a.den : Nat) * (b.den / (Nat.gcd a.num.natAbs b.den : Nat)) := by
  show (Rat.mul a b).den = _
  unfold Rat.mul
  simp only [Nat.divExact_eq_div]

theorem radd_num1 (a b : Rat) (h : Nat.gcd a.den b.den = 1) : (a + b).num = a.num * b.den + b.num * a.den := by
  show (Rat.add a b).num = _
  unfold Rat.add
  simp only [dif_pos h]
theorem radd_den1 (a b : Rat) (h : Nat.gcd a.den b.den = 1) : (a + b).den = a.den * b.den := by
  show (Rat.add a b).den = _
  unfold Rat.add
  simp only [dif_pos h]

theorem den_join {x d y g k : Nat} (hb : d = y * g) (hg : k ∣ g) : x * d / k = x * y * (g / k) := by
  rw [hb, Nat.mul_assoc, Nat.mul_div_assoc _ (Nat.dvd_trans hg ⟨y, Nat.mul_comm _ _⟩), Nat.mul_div_assoc _ hg]

theorem radd_num2 (a b : Rat) (h : Nat.gcd a.den b.den ≠ 1) : (a + b).num = (a.num * (b.den / Nat.gcd a.den b.den : Nat) + b.num * (a.den / Nat.gcd a.den b.den : Nat)) / (Nat.gcd (a.num * (b.den / Nat.gcd a.den b.den : Nat) + b.num * (a.den / Nat.gcd a.den b.den : Nat)).natAbs (Nat.gcd a.den b.den) : Nat) := by
  show (Rat.add a b).num = _
  unfold Rat.add
  simp only [dif_neg h, Rat.maybeNormalize]
  split
  · rename_i e
    show a.num * (b.den / Nat.gcd a.den b.den : Nat) + b.num * (a.den / Nat.gcd a.den b.den : Nat) = _
    rw [e, Int.natCast_one, Int.ediv_one]
  · simp only [Int.divExact_eq_ediv]
theorem radd_den2 (a b : Rat) (h : Nat.gcd a.den b.den ≠ 1) : (a + b).den = (a.den / Nat.gcd a.den b.den) * (b.den / Nat.gcd a.den b.den) * (Nat.gcd a.den b.den / Nat.gcd (a.num * (b.den / Nat.gcd a.den b.den : Nat) + b.num * (a.den / Nat.gcd a.den b.den : Nat)).natAbs (Nat.gcd a.den b.den)) := by
  show (Rat.add a b).den = _
  unfold Rat.add
  simp only [dif_neg h, Rat.maybeNormalize]
  have hb : b.den = b.den / Nat.gcd a.den b.den * Nat.gcd a.den b.den := (Nat.div_mul_cancel (Nat.gcd_dvd_right _ _)).symm
  split
  · rename_i e
    show a.den / Nat.gcd a.den b.den * b.den = _
    rw [e, Nat.div_one, Nat.mul_assoc, ← hb]
  · simp only [Nat.divExact_eq_div]
    exact den_join hb (Nat.gcd_dvd_right _ _)

theorem rat_is {q : Rat} {n : Int} {d : Nat} (hd : 0 < d) (hc : Nat.gcd n.natAbs d = 1) (h : q.num * d = n * q.den) : q.num = n ∧ q.den = d := by
  have : q = Rat.mk' n d (by omega) hc := Rat.eq_iff_mul_eq_mul.2 h
  rw [this]
  exact ⟨rfl, rfl⟩

theorem rat_pos (q : Rat) : 0 < q.den := Nat.pos_of_ne_zero q.den_nz
theorem gcd_num (q : Rat) : Nat.gcd q.num.natAbs q.den = 1 := q.reduced

theorem rinv_num (q : Rat) (_ : q.num ≠ 0) : (q⁻¹).num = q.num.sign * q.den := Rat.num_inv q
theorem rinv_den (q : Rat) (h : q.num ≠ 0) : (q⁻¹).den = q.num.natAbs := by rw [Rat.den_inv, if_neg h]

theorem rnew_num (n d : Int) (h : 0 < d) : (Rat.divInt n d).num = n / (Nat.gcd n.natAbs d.natAbs : Nat) := by
  rw [Rat.num_divInt, Int.sign_eq_one_of_pos h, Int.one_mul, Int.gcd, Nat.gcd_comm]
theorem rnew_den (n d : Int) (h : 0 < d) : ((Rat.divInt n d).den : Int) = d / (Nat.gcd n.natAbs d.natAbs : Nat) := by
  rw [Rat.den_divInt, if_neg (by omega), Int.gcd, Nat.gcd_comm, Int.natCast_ediv]
  congr 1
  omega
theorem rnew_num_neg (n d : Int) (h : d < 0) : (Rat.divInt n d).num = n / (-(Nat.gcd n.natAbs d.natAbs : Nat)) := by
  rw [Rat.num_divInt, Int.sign_eq_neg_one_of_neg h, Int.neg_mul, Int.one_mul, Int.ediv_neg, Int.gcd, Nat.gcd_comm, Int.neg_ediv_of_dvd]
  exact Int.ofNat_dvd_left.2 (Nat.gcd_dvd_left _ _)
theorem rnew_den_neg (n d : Int) (h : d < 0) : ((Rat.divInt n d).den : Int) = d / (-(Nat.gcd n.natAbs d.natAbs : Nat)) := by
  rw [Rat.den_divInt, if_neg (by omega), Int.gcd, Nat.gcd_comm, Int.natCast_ediv, Int.ediv_neg]
  rw [show ((d.natAbs : Nat) : Int) = -d by omega, Int.neg_ediv_of_dvd]
  exact Int.ofNat_dvd_left.2 (Nat.gcd_dvd_right _ _)
end Go.Proofs.Ytfigimfdojbkeaa

