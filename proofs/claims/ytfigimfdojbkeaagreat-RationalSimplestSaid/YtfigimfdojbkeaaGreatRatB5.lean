/-
  Maths of the law of the simplest number.
-/
import Derived.Test.YtfigimfdojbkeaaGreatRatB4
import Derived.Deep.DeepCutAuto
import Derived.Handy
set_option linter.unusedSimpArgs false
set_option linter.unusedVariables false
namespace Go.Proofs.YtfigimfdojbkeaaGreat
open Go.RowKit
attribute [local go_sem ↓] Go.wp_at_zero Go.wp_at_succ

theorem unit_is (c : Rat) : (Rat.divInt (sg c.num) c.den).num = sg c.num ∧ ((Rat.divInt (sg c.num) c.den).den : Int) = c.den := by
  have h := den_cast c
  rw [rnew_num _ _ h, rnew_den _ _ h]
  rcases sg_cases c.num with ⟨h1, e⟩ | ⟨h1, e⟩ | ⟨h1, e⟩
  · rw [e]; simp
  · have hd : (c.den : Int) = 1 := by
      have := gcd_num c
      rw [h1] at this
      simp at this
      omega
    rw [e, hd]; simp
  · rw [e]; simp
theorem qv_den {w : World} {v : Value} {n d e : Int} (h : e = d) (q : Qv w v n d) : Qv w v n e := h ▸ q
/-- The next numerator towards 0 lies outside. -/
theorem next_out {a b c e : Rat} (k : Lst a b c) (h0 : sg c.num ≠ 0) (hn : e.num = sg c.num) (hd : (e.den : Int) = c.den) (h1 : cq a (c - e) ≤ 0) : ¬ cq (c - e) b ≤ 0 := by
  intro h2
  rw [cq_le] at h1 h2
  have hc := mul_den c
  have he := mul_den e
  rw [hd, hn] at he
  have ex : (c - e) * ((c.den : Int) : Rat) = ((c.num - sg c.num : Int) : Rat) := by
    rw [Rat.intCast_sub, ← hc, ← he]; grind
  have l1 : a * ((c.den : Int) : Rat) ≤ ((c.num - sg c.num : Int) : Rat) := by
    rw [← ex]; exact Rat.mul_le_mul_of_nonneg_right h1 (den_nn c)
  have l2 : ((c.num - sg c.num : Int) : Rat) ≤ b * ((c.den : Int) : Rat) := by
    rw [← ex]; exact Rat.mul_le_mul_of_nonneg_right h2 (den_nn c)
  have := (k.least _ _ (den_cast c) (up_le l1) (dn_le l2)).2
  rcases sg_cases c.num with ⟨h3, e3⟩ | ⟨h3, e3⟩ | ⟨h3, e3⟩ <;> rw [e3] at this h0 <;> omega

end Go.Proofs.YtfigimfdojbkeaaGreat
