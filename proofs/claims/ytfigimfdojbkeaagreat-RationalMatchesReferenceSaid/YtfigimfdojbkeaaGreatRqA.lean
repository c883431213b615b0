/-
 Plain facts about the reference's fractions: sums and products in lowest terms, one step of the simplest number.
-/
import Derived.Test.YtfigimfdojbkeaaGreatRatB2
set_option linter.unusedSimpArgs false
set_option linter.unusedVariables false
namespace Go.Proofs.YtfigimfdojbkeaaGreat
theorem rsub_int (b : Rat) (f : Int) : (b - (f : Rat)).num = b.num - f * b.den ∧ ((b - (f : Rat)).den : Int) = b.den := by
 have hb := den_cast b
 have e : b - (f : Rat) = Rat.divInt (b.num - f * b.den) b.den := by
  have h1 : Rat.divInt b.num b.den = b := Rat.num_divInt_den b
  have h2 : Rat.divInt f 1 = (f : Rat) := Rat.num_divInt_den (f : Rat)
  have h3 := Rat.divInt_sub_divInt b.num f (show (b.den : Int) ≠ 0 by omega) (show (1 : Int) ≠ 0 by omega)
  rw [h1, h2] at h3
  rw [h3, Int.mul_one, Int.mul_one]
 have hc : Nat.gcd (b.num - f * b.den).natAbs (b.den : Int).natAbs = 1 := by
  have h : Int.gcd (b.num - f * b.den) b.den = 1 := by
   rw [Int.sub_eq_add_neg, ← Int.neg_mul, Int.gcd_comm, Int.gcd_add_mul_right_right, Int.gcd_comm]
   exact gcd_num b
  exact h
 rw [e, rnew_num _ _ hb, rnew_den _ _ hb, hc]
 simp
theorem Bt.Spec.same {p q r s N D N' D' : Int} (h : Bt.Spec p q r s N D) (k : Bt.Spec p q r s N' D') : N = N' ∧ D = D' := by
 have h1 := h.least N' D' k.dpos k.low k.high
 have h2 := k.least N D h.dpos h.low h.high
 omega
theorem radd_int (f : Int) (y : Rat) : ((f : Rat) + y).num = f * y.den + y.num ∧ (((f : Rat) + y).den : Int) = y.den := by
 have h := rsub_int y (-f)
 have e : y - ((-f : Int) : Rat) = (f : Rat) + y := by rw [Rat.intCast_neg]; grind
 rw [e] at h
 exact ⟨by rw [h.1, Int.neg_mul]; omega, h.2⟩
theorem rinv_pos {y : Rat} (h : 0 < y.num) : (y⁻¹).num = y.den ∧ ((y⁻¹).den : Int) = y.num := by
 rw [rinv_num y (by omega), rinv_den y (by omega), Int.sign_eq_one_of_pos h]
 omega
theorem smp_step {a b : Rat} (hp : 0 < a.num) (hle : a.num * b.den ≤ b.num * a.den) (f : Int) (hf : a.num / a.den = f) (h1 : a.num % a.den ≠ 0) (h2 : ¬ f < b.num / b.den) :
  (b - (f : Rat)).num = b.num % b.den ∧ (a - (f : Rat)).num = a.num % a.den ∧ ((b - (f : Rat))⁻¹).num = b.den ∧ ((b - (f : Rat))⁻¹.den : Int) = b.num % b.den ∧ ((a - (f : Rat))⁻¹).num = a.den ∧ ((a - (f : Rat))⁻¹.den : Int) = a.num % a.den ∧ 0 < b.num % b.den ∧ 0 < a.num % a.den ∧
  (b.den : Int) * (a.num % a.den) ≤ a.den * (b.num % b.den) ∧ smp a b = (f : Rat) + (smp (b - (f : Rat))⁻¹ (a - (f : Rat))⁻¹)⁻¹ ∧ 0 < (smp (b - (f : Rat))⁻¹ (a - (f : Rat))⁻¹).num := by
 have hq := den_cast a
 have hs := den_cast b
 subst hf
 obtain ⟨hfg, hy⟩ := Bt.same_floor hq hs hle h1 h2
 have hx := Bt.mod_pos hq h1
 have ep := Int.mul_ediv_add_emod a.num a.den
 have er := Int.mul_ediv_add_emod b.num b.den
 have era : (b.den : Int) * (a.num / a.den) + b.num % b.den = b.num := by rw [hfg]; exact er
 have hla := Bt.la ep era hle
 have na : (a - ((a.num / a.den : Int) : Rat)).num = a.num % a.den := by rw [(rsub_int a _).1]; rw [Int.mul_comm] at ep; omega
 have nb : (b - ((a.num / a.den : Int) : Rat)).num = b.num % b.den := by rw [(rsub_int b _).1, hfg]; rw [Int.mul_comm] at er; omega
 have ia := rinv_pos (y := a - ((a.num / a.den : Int) : Rat)) (by rw [na]; exact hx.1)
 have ib := rinv_pos (y := b - ((a.num / a.den : Int) : Rat)) (by rw [nb]; exact hy)
 rw [na, (rsub_int a _).2] at ia
 rw [nb, (rsub_int b _).2] at ib
 refine ⟨nb, na, ib.1, ib.2, ia.1, ia.2, hy, hx.1, hla, ?_⟩
 have hle2 : (b - ((a.num / a.den : Int) : Rat))⁻¹.num * ((a - ((a.num / a.den : Int) : Rat))⁻¹.den : Int) ≤ (a - ((a.num / a.den : Int) : Rat))⁻¹.num * ((b - ((a.num / a.den : Int) : Rat))⁻¹.den : Int) := by
  rw [ib.1, ib.2, ia.1, ia.2]; exact hla
 have hk := smp_spec (a := (b - ((a.num / a.den : Int) : Rat))⁻¹) (b := (a - ((a.num / a.den : Int) : Rat))⁻¹) (by rw [ib.1]; exact hs) hle2
 rw [ib.1, ib.2, ia.1, ia.2] at hk
 generalize smp (b - ((a.num / a.den : Int) : Rat))⁻¹ (a - ((a.num / a.den : Int) : Rat))⁻¹ = y at *
 refine ⟨?_, hk.npos⟩
 have hys := Int.emod_lt_of_pos b.num hs
 obtain ⟨F, hF⟩ : ∃ F, a.den + b.den = F + 1 := ⟨a.den + b.den - 1, by omega⟩
 have hk2 := Bt.bs_spec F b.den (b.num % b.den) a.den (a.num % a.den) hs hy hx.1 hla (by omega)
 have hsame := hk.same hk2
 have hm := smp_is hp hle
 rw [hF] at hm
 unfold Bt.bs at hm
 rw [if_neg h1, if_neg (by omega)] at hm
 simp only at hm
 rw [← hsame.1, ← hsame.2] at hm
 have hi := rinv_pos hk.npos
 have hr := radd_int (a.num / a.den) y⁻¹
 rw [hi.1, hi.2] at hr
 exact Rat.ext (by rw [hm.1, hr.1]) (by have h1 := hm.2; have h2 := hr.2; omega)
theorem smp_whole {a b : Rat} (hp : 0 < a.num) (hle : a.num * b.den ≤ b.num * a.den) (h1 : a.num % a.den = 0) : smp a b = a := by
 have hq := den_cast a
 have ha : (a.den : Int) = 1 := by
  have hd : (a.den : Int) ∣ a.num := Int.dvd_of_emod_eq_zero h1
  have hg : Nat.gcd a.num.natAbs a.den = a.den := Nat.gcd_eq_right (by have := Int.natAbs_dvd_natAbs.2 hd; simpa using this)
  rw [gcd_num] at hg
  omega
 have hm := smp_is hp hle
 obtain ⟨F, hF⟩ : ∃ F, a.den + b.den = F + 1 := ⟨a.den + b.den - 1, by omega⟩
 rw [hF] at hm
 unfold Bt.bs at hm
 rw [if_pos h1] at hm
 simp only at hm
 rw [ha, Int.ediv_one] at hm
 exact Rat.ext hm.1 (by have := hm.2; omega)
theorem smp_next {a b : Rat} (hp : 0 < a.num) (hle : a.num * b.den ≤ b.num * a.den) (f : Int) (hf : a.num / a.den = f) (h1 : a.num % a.den ≠ 0) (h2 : f < b.num / b.den) : smp a b = (f : Rat) + ((1 : Int) : Rat) := by
 subst hf
 have hm := smp_is hp hle
 have hq := den_cast a
 obtain ⟨F, hF⟩ : ∃ F, a.den + b.den = F + 1 := ⟨a.den + b.den - 1, by omega⟩
 rw [hF] at hm
 unfold Bt.bs at hm
 rw [if_neg h1, if_pos h2] at hm
 simp only at hm
 rw [← Rat.intCast_add]
 exact Rat.ext (by rw [hm.1, Rat.num_intCast]) (by have := hm.2; rw [Rat.den_intCast]; omega)
theorem rdi_add (a b : Rat) : Rat.divInt (a.num * b.den + b.num * a.den) (a.den * b.den) = a + b := by
 have h := Rat.divInt_add_divInt a.num b.num (show (a.den : Int) ≠ 0 by have := den_cast a; omega) (show (b.den : Int) ≠ 0 by have := den_cast b; omega)
 rw [Rat.num_divInt_den, Rat.num_divInt_den] at h
 exact h.symm
theorem rdi_mul (a b : Rat) : Rat.divInt (a.num * b.num) (a.den * b.den) = a * b := by
 have h := Rat.divInt_mul_divInt a.num b.num (d₁ := a.den) (d₂ := b.den)
 rw [Rat.num_divInt_den, Rat.num_divInt_den] at h
 exact h.symm
theorem rdi_inv (a : Rat) : Rat.divInt a.den a.num = a⁻¹ := by
 have h := Rat.inv_divInt a.num a.den
 rw [Rat.num_divInt_den] at h
 exact h.symm
theorem rdi_div (a b : Rat) : Rat.divInt (a.num * b.den) (a.den * b.num) = a / b := by
 have h := Rat.divInt_mul_divInt a.num b.den (d₁ := a.den) (d₂ := b.num)
 rw [Rat.num_divInt_den, rdi_inv, ← Rat.div_def] at h
 exact h.symm
theorem cqf_zero {a : Rat} {f : Int} (hf : a.num / a.den = f) : cq (f : Rat) a = 0 ↔ a.num % a.den = 0 := by
 have hq := den_cast a
 constructor
 ·intro h
  have e : (f : Rat) = a := by
   rcases tri (f : Rat) a with k | k | k
   ·rw [cq_lt k] at h; omega
   ·exact k
   ·rw [cq_gt k] at h; omega
  have hd : (a.den : Int) = 1 := by rw [← e, Rat.den_intCast]; rfl
  rw [hd, Int.emod_one]
 ·intro h
  have hd : (a.den : Int) ∣ a.num := Int.dvd_of_emod_eq_zero h
  have hg : Nat.gcd a.num.natAbs a.den = a.den := Nat.gcd_eq_right (by have := Int.natAbs_dvd_natAbs.2 hd; simpa using this)
  rw [gcd_num] at hg
  apply cq_eq
  have h1 : (a.den : Int) = 1 := by omega
  rw [h1, Int.ediv_one] at hf
  exact Rat.ext (by rw [Rat.num_intCast, hf]) (by rw [Rat.den_intCast]; omega)
theorem cqn_le {b : Rat} (f : Int) : cq ((f : Rat) + ((1 : Int) : Rat)) b ≤ 0 ↔ f < b.num / b.den := by
 rw [cq_le, ← Rat.intCast_add, Rat.le_iff, Rat.num_intCast, Rat.den_intCast, ← Int.le_ediv_iff_mul_le (den_cast b)] 
 simp
 omega
theorem smp_self {a : Rat} (hp : 0 < a.num) : smp a a = a := by
 have h := smp_spec hp (Int.le_refl _)
 exact Rat.eq_iff_mul_eq_mul.2 (by have := h.low; have := h.high; omega)
theorem btw_pos {a b : Rat} (hp : 0 < a.num) : btw a b = smp a b := by
 unfold btw
 rw [if_pos hp]
 split
 ·rename_i e; rw [← e]; exact (smp_self hp).symm
 ·rfl
theorem btw_neg {a b : Rat} (hp : ¬ 0 < a.num) (hb : b.num < 0) : btw a b = -(smp (-b) (-a)) := by
 unfold btw
 rw [if_neg hp, if_pos hb]
 split
 ·rename_i e
  rw [e, smp_self (by rw [Rat.neg_num]; omega), Rat.neg_neg]
 ·rfl
theorem btw_mid {a b : Rat} (hp : ¬ 0 < a.num) (hb : ¬ b.num < 0) : btw a b = ((0 : Int) : Rat) := by
 unfold btw
 rw [if_neg hp, if_neg hb]
end Go.Proofs.YtfigimfdojbkeaaGreat
