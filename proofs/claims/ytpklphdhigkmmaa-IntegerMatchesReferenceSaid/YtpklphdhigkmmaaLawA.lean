/-
  What the laws' walks share.
-/
import Derived.Test.YtpklphdhigkmmaaSanB
namespace Go.Proofs.Ytpklphdhigkmmaa
open Go.RowKit
attribute [local go_sem ↓] Go.wp_at_zero Go.wp_at_succ

theorem small_i64 (va : Value) (z : Int) (w : World) (ha : Iv w va z) (h : I64 z) : Calls Try.prog 68 #[va] w (RetV (.tuple #[.int .i64 z, .bool true]) w) := by
  have := small_any va z w ha (h.sz.mono (by omega))
  unfold smallV at this
  rw [if_pos (show _ ∧ _ from h)] at this
  exact this
theorem same_true (va vb : Value) (a b : Int) (w : World) (ha : Iv w va a) (hb : Iv w vb b) (sa : Sz a 1000000) (h : a = b) : Calls Try.prog 19 #[va, vb] w (RetV (.bool true) w) := by
  subst h
  have := same_any va vb a a w ha hb sa sa
  simpa using this
theorem bl_half {x : Nat} (h : x ≠ 0) : bl (x / 2) + 1 = bl x := by
  by_cases h1 : x / 2 = 0
  · obtain rfl : x = 1 := by omega
    rw [bl_one]; rfl
  · have := bl_shift x 1 (by simpa using h1)
    simpa using this
theorem tdiv_abs (k : Int) : (k.tdiv 2).natAbs = k.natAbs / 2 := by rw [Int.natAbs_tdiv]; rfl
theorem tmod_bd (n : Int) : -1000000007 < n.tmod 1000000007 ∧ n.tmod 1000000007 < 1000000007 := by
  have h1 := Int.tmod_lt_of_pos n (show (0 : Int) < 1000000007 by decide)
  have h2 := Int.lt_tmod_of_pos n (show (0 : Int) < 1000000007 by decide)
  exact ⟨h2, h1⟩
theorem tdiv_bd {n : Int} (h : I64 n) : -4611686018427387904 ≤ n.tdiv 2 ∧ n.tdiv 2 ≤ 4611686018427387903 := by
  have h1 := h.1
  have h2 := h.2
  have h3 : (n.tdiv 2).natAbs = n.natAbs / 2 := tdiv_abs n
  by_cases h0 : 0 ≤ n
  · rw [Int.tdiv_eq_ediv_of_nonneg h0]
    omega
  · have h4 : n.tdiv 2 ≤ 0 := by
      obtain ⟨m, rfl⟩ : ∃ m : Int, n = -m := ⟨-n, by omega⟩
      rw [Int.neg_tdiv, Int.tdiv_eq_ediv_of_nonneg (by omega)]
      omega
    omega
theorem mul_bd {x y : Int} (h1 : -1000000007 < x) (h2 : x < 1000000007) (h3 : -1000000007 < y) (h4 : y < 1000000007) : I64 (x * y) := by
  have h5 : (x * y).natAbs ≤ 1000000006 * 1000000006 := by rw [Int.natAbs_mul]; exact Nat.mul_le_mul (by omega) (by omega)
  unfold I64
  omega
end Go.Proofs.Ytpklphdhigkmmaa
