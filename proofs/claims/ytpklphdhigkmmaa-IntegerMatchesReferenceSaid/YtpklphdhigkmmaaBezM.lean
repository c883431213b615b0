/-
  The extended Euclidean algorithm: plain facts.
-/
import Derived.Test.YtpklphdhigkmmaaMath
namespace Go.Proofs.Ytpklphdhigkmmaa

structure BezRel (a M r0 r1 u0 u1 : Int) : Prop where
  pos : 0 < r0
  nn : 0 ≤ r1
  lt : r1 < r0
  le : r0 ≤ M
  d0 : M ∣ r0 - u0 * a
  d1 : M ∣ r1 - u1 * a
  gcd : Int.gcd r0 r1 = Int.gcd a M
  sg : (u0 ≤ 0 ∧ 0 ≤ u1 ∧ (-u0) * r1 + u1 * r0 = M) ∨ (0 ≤ u0 ∧ u1 ≤ 0 ∧ u0 * r1 + (-u1) * r0 = M)
  ub : u0.natAbs ≤ M.natAbs

theorem gcd_step (x y : Int) : Int.gcd y (x % y) = Int.gcd x y := by
  rw [Int.gcd_comm x y]
  have h := Int.emod_add_mul_ediv x y
  have : x = x % y + y * (x / y) := h.symm
  conv => rhs; rw [this]
  rw [Int.gcd_add_mul_left_right]

theorem BezRel.start {a M : Int} (hM : 0 < M) : BezRel a M M (a % M) 0 1 := by
  refine ⟨hM, Int.emod_nonneg _ (by omega), Int.emod_lt_of_pos _ hM, Int.le_refl _, ⟨1, by omega⟩, ?_, gcd_step a M, .inl ⟨by omega, by omega, by omega⟩, by simp⟩
  refine ⟨-(a / M), ?_⟩
  have h := Int.emod_add_mul_ediv a M
  rw [Int.mul_neg, Int.one_mul]; omega

theorem BezRel.u1b {a M r0 r1 u0 u1 : Int} (h : BezRel a M r0 r1 u0 u1) : u1.natAbs ≤ M.natAbs := by
  have hp := h.pos
  have hn := h.nn
  rcases h.sg with ⟨h1, h2, h3⟩ | ⟨h1, h2, h3⟩
  · have e1 : 0 ≤ (-u0) * r1 := Int.mul_nonneg (by omega) hn
    have e2 : u1 * 1 ≤ u1 * r0 := Int.mul_le_mul_of_nonneg_left (by omega) h2
    omega
  · have e1 : 0 ≤ u0 * r1 := Int.mul_nonneg h1 hn
    have e2 : (-u1) * 1 ≤ (-u1) * r0 := Int.mul_le_mul_of_nonneg_left (by omega) (by omega)
    omega

theorem BezRel.step {a M r0 r1 u0 u1 : Int} (h : BezRel a M r0 r1 u0 u1) (h1 : 0 < r1) : BezRel a M r1 (r0 % r1) u1 (u0 - r0 / r1 * u1) := by
  have hq : 0 ≤ r0 / r1 := Int.ediv_nonneg (by have := h.pos; omega) (by omega)
  have hd := Int.emod_add_mul_ediv r0 r1
  have hu := h.u1b
  refine ⟨h1, Int.emod_nonneg _ (by omega), Int.emod_lt_of_pos _ h1, by have := h.lt; have := h.le; omega, h.d1, ?_, by rw [gcd_step]; exact h.gcd, ?_, hu⟩
  · obtain ⟨x, hx⟩ := h.d0
    obtain ⟨y, hy⟩ := h.d1
    refine ⟨x - r0 / r1 * y, ?_⟩
    have e : r0 % r1 = r0 - r1 * (r0 / r1) := by omega
    rw [e]
    have e2 : r0 - r1 * (r0 / r1) - (u0 - r0 / r1 * u1) * a = (r0 - u0 * a) - r0 / r1 * (r1 - u1 * a) := by grind
    rw [e2, hx, hy]
    grind
  · have e : r0 % r1 = r0 - r1 * (r0 / r1) := by omega
    rw [e]
    generalize r0 / r1 = q at *
    rcases h.sg with ⟨h2, h3, h4⟩ | ⟨h2, h3, h4⟩
    · right
      have : 0 ≤ q * u1 := Int.mul_nonneg hq h3
      exact ⟨h3, by omega, by grind⟩
    · left
      have : 0 ≤ q * (-u1) := Int.mul_nonneg hq (by omega)
      rw [Int.mul_neg] at this
      exact ⟨h3, by omega, by grind⟩

/-- What the cofactors are. -/
structure BezDone (a b : Int) (u v : Int) : Prop where
  nn : 0 ≤ u
  lt : u * (Int.gcd a b : Int) < b.natAbs
  eq : u * a + v * b = (Int.gcd a b : Int)

theorem BezRel.done {a b r0 u0 u1 : Int} (h : BezRel a (b.natAbs : Int) r0 0 u0 u1) (hb : b ≠ 0) :
    r0 = (Int.gcd a b : Int) ∧ 0 < (b.natAbs : Int) / r0 ∧ BezDone a b (u0 % ((b.natAbs : Int) / r0)) ((r0 - u0 % ((b.natAbs : Int) / r0) * a) / b) := by
  have hp := h.pos
  have hg : r0 = (Int.gcd a b : Int) := by
    have e := h.gcd
    rw [Int.gcd_zero_right] at e
    have e2 : Int.gcd a (b.natAbs : Int) = Int.gcd a b := by unfold Int.gcd; rw [Int.natAbs_natCast]
    rw [e2] at e
    omega
  have hstep : ∃ s : Int, 0 < s ∧ (b.natAbs : Int) = s * r0 ∧ (b.natAbs : Int) / r0 = s := by
    have hbp : 0 < (b.natAbs : Int) := by omega
    rcases h.sg with ⟨h1, h2, h3⟩ | ⟨h1, h2, h3⟩
    · rw [Int.mul_zero, Int.zero_add] at h3
      refine ⟨u1, ?_, h3.symm, by rw [← h3]; exact Int.mul_ediv_cancel _ (by omega)⟩
      rcases Int.lt_or_le 0 u1 with h5 | h5
      · exact h5
      · have : u1 = 0 := by omega
        rw [this, Int.zero_mul] at h3; omega
    · rw [Int.mul_zero, Int.zero_add] at h3
      refine ⟨-u1, ?_, h3.symm, by rw [← h3]; exact Int.mul_ediv_cancel _ (by omega)⟩
      rcases Int.lt_or_le u1 0 with h5 | h5
      · omega
      · have : u1 = 0 := by omega
        rw [this] at h3; omega
  obtain ⟨s, hs, hbs, hbd⟩ := hstep
  refine ⟨hg, by rw [hbd]; exact hs, ?_⟩
  rw [hbd]
  have hu1 := Int.emod_nonneg u0 (show s ≠ 0 by omega)
  have hu2 := Int.emod_lt_of_pos u0 hs
  have hud := Int.emod_add_mul_ediv u0 s
  have hdvd : b ∣ r0 - u0 % s * a := by
    rw [← Int.natAbs_dvd]
    obtain ⟨x, hx⟩ := h.d0
    have hga : r0 ∣ a := by rw [hg]; exact Int.gcd_dvd_left ..
    obtain ⟨y, hy⟩ := hga
    refine ⟨x + u0 / s * y, ?_⟩
    have e : u0 % s = u0 - s * (u0 / s) := by omega
    rw [e]
    have e2 : r0 - (u0 - s * (u0 / s)) * a = (r0 - u0 * a) + s * (u0 / s) * a := by grind
    rw [e2, hx]
    conv => lhs; rhs; rw [hy]
    rw [hbs]
    grind
  refine ⟨hu1, ?_, ?_⟩
  · rw [← hg, hbs]
    exact Int.mul_lt_mul_of_pos_right hu2 hp
  · rw [← hg, Int.ediv_mul_cancel hdvd]
    omega

end Go.Proofs.Ytpklphdhigkmmaa
