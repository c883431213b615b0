/-
  Layer 3, plain facts: a small fraction is a multiple of a row of Euclid's table (rebuilding from a residue).
-/
import Derived.Test.YtfigimfdojbkeaaModF
set_option linter.unusedSimpArgs false
set_option linter.unusedVariables false
namespace Go.Proofs.Ytfigimfdojbkeaa.Reb
theorem cancel_m {m x y : Int} (hm : 0 < m) (h : m * x = m * y) : x = y := Int.eq_of_mul_eq_mul_left (by omega) h
theorem mul_ge {a b : Int} (h : 1 ≤ a) (hb : 0 ≤ b) : b ≤ a * b := by
  have := Int.mul_le_mul_of_nonneg_right h hb
  rwa [Int.one_mul] at this
/-- Two rows of Euclid's table for m and u, the second being the first one of rest at most B (signs: s, a0, a1): a small solution is a multiple of the second row. -/
theorem row_multiple {m u B r0 r1 a0 a1 s r t : Int} (hs : s = 1 ∨ s = -1) (hm : 0 < m) (hB : 2 * (B * B) < m) (h1 : 0 ≤ r1) (hr1 : r1 ≤ B) (hr0 : B < r0) (ha0 : 0 ≤ a0) (ha1 : 1 ≤ a1)
    (hdet : r0 * a1 + r1 * a0 = m) (c0 : m ∣ r0 + s * a0 * u) (c1 : m ∣ r1 - s * a1 * u) (c : m ∣ r - t * u) (hrl : -B ≤ r) (hru : r ≤ B) (htl : -B ≤ t) (htu : t ≤ B) (ht : t ≠ 0) :
    ∃ k, r = k * r1 ∧ t = k * (s * a1) ∧ a1 ≤ B := by
  have hss : s * s = 1 := by rcases hs with rfl | rfl <;> rfl
  obtain ⟨x0, e0⟩ := c0
  obtain ⟨x1, e1⟩ := c1
  obtain ⟨x, e⟩ := c
  -- alpha, beta
  obtain ⟨α, hα⟩ : ∃ α, r * a1 - s * r1 * t = m * α := ⟨x * a1 - s * x1 * t, by grind⟩
  obtain ⟨β, hβ⟩ : ∃ β, s * r0 * t + r * a0 = m * β := ⟨s * x0 * t + x * a0, by grind⟩
  have hr : r = α * r0 + β * r1 := cancel_m hm (by
    have : m * r = r0 * (r * a1 - s * r1 * t) + r1 * (s * r0 * t + r * a0) := by rw [← hdet]; grind
    rw [this, hα, hβ]; grind)
  have ht' : s * t = β * a1 - α * a0 := cancel_m hm (by
    have : m * (s * t) = a1 * (s * r0 * t + r * a0) - a0 * (r * a1 - s * r1 * t) := by rw [← hdet]; grind
    rw [this, hα, hβ]; grind)
  have hst : -B ≤ s * t ∧ s * t ≤ B := by rcases hs with rfl | rfl <;> omega
  have hst0 : s * t ≠ 0 := by rcases hs with rfl | rfl <;> omega
  have hB0 : 0 ≤ B := by omega
  by_cases hz : α = 0
  · subst hz
    refine ⟨β, by rw [hr]; grind, by grind, ?_⟩
    have hb : β ≠ 0 := fun h => by rw [h] at ht'; grind
    have ht2 : s * t = β * a1 := by rw [ht']; grind
    rcases Int.lt_or_gt_of_ne hb with h | h
    · have := mul_ge (show 1 ≤ -β by omega) (show 0 ≤ a1 by omega)
      rw [Int.neg_mul] at this
      omega
    · have := mul_ge (show 1 ≤ β by omega) (show 0 ≤ a1 by omega)
      omega
  · exfalso
    by_cases ha : a1 ≤ B
    · have k1 : r * a1 ≤ B * B := Int.le_trans (Int.mul_le_mul_of_nonneg_right hru (by omega)) (Int.mul_le_mul_of_nonneg_left ha hB0)
      have k2 : -(r * a1) ≤ B * B := by
        rw [← Int.neg_mul]
        exact Int.le_trans (Int.mul_le_mul_of_nonneg_right (show -r ≤ B by omega) (by omega)) (Int.mul_le_mul_of_nonneg_left ha hB0)
      have k3 : (s * t) * r1 ≤ B * B := Int.le_trans (Int.mul_le_mul_of_nonneg_right hst.2 h1) (Int.mul_le_mul_of_nonneg_left hr1 hB0)
      have k4 : -((s * t) * r1) ≤ B * B := by
        rw [← Int.neg_mul]
        exact Int.le_trans (Int.mul_le_mul_of_nonneg_right (show -(s * t) ≤ B by omega) h1) (Int.mul_le_mul_of_nonneg_left hr1 hB0)
      have e3 : m * α = r * a1 - (s * t) * r1 := by rw [← hα]; grind
      rcases Int.lt_or_gt_of_ne hz with h | h
      · have := mul_ge (show 1 ≤ -α by omega) (show 0 ≤ m by omega)
        rw [Int.neg_mul, Int.mul_comm α m] at this
        omega
      · have := mul_ge (show 1 ≤ α by omega) (show 0 ≤ m by omega)
        rw [Int.mul_comm α m] at this
        omega
    · rcases Int.lt_or_gt_of_ne hz with h | h
      · have q1 := mul_ge (show 1 ≤ -α by omega) (show 0 ≤ r0 by omega)
        rw [Int.neg_mul] at q1
        have q3 : 0 ≤ -α * a0 := Int.mul_nonneg (by omega) ha0
        rw [Int.neg_mul] at q3
        by_cases hb : β ≤ 0
        · have q4 : 0 ≤ -β * r1 := Int.mul_nonneg (by omega) h1
          rw [Int.neg_mul] at q4
          omega
        · have q4 := mul_ge (show 1 ≤ β by omega) (show 0 ≤ a1 by omega)
          omega
      · have q1 := mul_ge (show 1 ≤ α by omega) (show 0 ≤ r0 by omega)
        have q3 : 0 ≤ α * a0 := Int.mul_nonneg (by omega) ha0
        by_cases hb : 0 ≤ β
        · have q4 : 0 ≤ β * r1 := Int.mul_nonneg hb h1
          omega
        · have q4 := mul_ge (show 1 ≤ -β by omega) (show 0 ≤ a1 by omega)
          rw [Int.neg_mul] at q4
          omega
/-- Two following rows of Euclid's table for m and u. -/
structure Rws (m u r0 r1 t0 t1 : Int) : Prop where
  pos : 0 ≤ r1
  lt : r1 < r0
  rows : ∃ s a0 a1 : Int, (s = 1 ∨ s = -1) ∧ 0 ≤ a0 ∧ 1 ≤ a1 ∧ t0 = -(s * a0) ∧ t1 = s * a1 ∧ r0 * a1 + r1 * a0 = m
  c0 : m ∣ r0 - t0 * u
  c1 : m ∣ r1 - t1 * u
theorem Rws.first {m u : Int} (hm : 0 < m) : Rws m u m (u % m) 0 1 :=
  ⟨Int.emod_nonneg _ (by omega), Int.emod_lt_of_pos _ hm, ⟨1, 0, 1, .inl rfl, by omega, by omega, by omega, by omega, by omega⟩,
    ⟨1, by omega⟩, ⟨-(u / m), by have := Int.emod_add_mul_ediv u m; grind⟩⟩
theorem Rws.next {m u r0 r1 t0 t1 : Int} (h : Rws m u r0 r1 t0 t1) (hr : 0 < r1) : Rws m u r1 (r0 % r1) t1 (t0 - r0 / r1 * t1) := by
  have e := Int.emod_add_mul_ediv r0 r1
  have hq : 1 ≤ r0 / r1 := (Int.le_ediv_iff_mul_le hr).2 (by have := h.lt; omega)
  obtain ⟨s, a0, a1, hs, h0, h1, rfl, rfl, hd⟩ := h.rows
  obtain ⟨x0, e0⟩ := h.c0
  obtain ⟨x1, e1⟩ := h.c1
  have g1 := Int.emod_nonneg r0 (show r1 ≠ 0 by omega)
  have g2 := Int.emod_lt_of_pos r0 hr
  generalize r0 / r1 = q at *
  generalize r0 % r1 = r2 at *
  have hq1 := mul_ge hq (show 0 ≤ a1 by omega)
  refine ⟨?_, ?_, ⟨-s, a1, a0 + q * a1, by omega, by omega, by omega, by grind, by grind, ?_⟩, ⟨x1, e1⟩, ⟨x0 - q * x1, by grind⟩⟩
  · exact g1
  · exact g2
  · rw [← hd, ← e]; grind
/-- Rebuilding: where the second row is the first one of rest at most B, a small solution is a multiple of it, and its factor is small. -/
theorem Rws.small {m u r0 r1 t0 t1 B r t : Int} (h : Rws m u r0 r1 t0 t1) (hm : 0 < m) (hB : 2 * (B * B) < m) (hr1 : r1 ≤ B) (hr0 : B < r0) (c : m ∣ r - t * u) (hrl : -B ≤ r) (hru : r ≤ B) (htl : -B ≤ t) (htu : t ≤ B) (ht : t ≠ 0) :
    ∃ k, r = k * r1 ∧ t = k * t1 ∧ -B ≤ t1 ∧ t1 ≤ B := by
  obtain ⟨s, a0, a1, hs, h0, h1, rfl, rfl, hd⟩ := h.rows
  obtain ⟨k, k1, k2, k3⟩ := row_multiple (u := u) hs hm hB h.pos hr1 hr0 h0 h1 hd (by obtain ⟨x, e⟩ := h.c0; exact ⟨x, by grind⟩) h.c1 c hrl hru htl htu ht
  exact ⟨k, k1, k2, by rcases hs with rfl | rfl <;> omega, by rcases hs with rfl | rfl <;> omega⟩
end Go.Proofs.Ytfigimfdojbkeaa.Reb
