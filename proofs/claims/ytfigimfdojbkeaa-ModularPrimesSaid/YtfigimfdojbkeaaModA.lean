/-
  Layer 3: contracts of Pow of the program and of the reference.
-/
import Derived.Test.YtfigimfdojbkeaaLehF
set_option linter.unusedSimpArgs false
set_option linter.unusedVariables false
namespace Go.Proofs.Ytfigimfdojbkeaa
open Go.RowKit
attribute [local go_sem ↓] Go.wp_at_zero Go.wp_at_succ

/-- One step of the loop: n is halved, the factor squared. -/
theorem pm_even {r s k p : Nat} (hk : k % 2 = 0) : r * (s * s % p) ^ (k / 2) % p = r * s ^ k % p := by
  obtain ⟨j, rfl⟩ : ∃ j, k = 2 * j := ⟨k / 2, by omega⟩
  rw [show 2 * j / 2 = j by omega, Nat.mul_mod, Nat.pow_mod, Nat.mod_mod, ← Nat.pow_mod, ← Nat.mul_mod, Nat.pow_mul, Nat.pow_two]
theorem pm_odd {r s k p : Nat} (hk : k % 2 = 1) : r * s % p * (s * s % p) ^ (k / 2) % p = r * s ^ k % p := by
  obtain ⟨j, rfl⟩ : ∃ j, k = 2 * j + 1 := ⟨k / 2, by omega⟩
  rw [show (2 * j + 1) / 2 = j by omega, Nat.mul_mod, Nat.pow_mod, Nat.mod_mod, Nat.mod_mod, ← Nat.pow_mod, ← Nat.mul_mod, Nat.pow_succ, Nat.pow_mul, Nat.pow_two]
  congr 1
  rw [Nat.mul_assoc, Nat.mul_comm s]
theorem pm_start {a n p : Nat} : Hid (1 % p * (a % p) ^ n % p = a ^ n % p) := by
  unfold Hid
  rw [Nat.mul_mod, Nat.mod_mod, ← Nat.mul_mod, Nat.one_mul, ← Nat.pow_mod]
theorem pm_stop {r s a n p : Nat} (h : r * s ^ 0 % p = a ^ n % p) (hr : r < p) : r = a ^ n % p := by
  rw [← h, Nat.pow_zero, Nat.mul_one, Nat.mod_eq_of_lt hr]
theorem mul_lt64 {x y p : Nat} (hx : x < p) (hy : y < p) (hp : p ≤ 4294967296) : x * y < 18446744073709551616 := by
  have h1 : x * y ≤ 4294967295 * 4294967295 := Nat.mul_le_mul (by omega) (by omega)
  omega

set_option maxHeartbeats 1000000 in
theorem opow_any (a n p : Nat) (w : World) (ha : a < 18446744073709551616) (hn : n < 18446744073709551616) (hp0 : 0 < p) (hp : p ≤ 4294967296) :
    Calls Try.prog 57 #[.int .u64 a, .int .u64 n, .int .u64 p] w (RetV (.int .u64 (a ^ n % p : Nat)) w) := by
  have hz : ((p : Int) == 0) = false := by simp; omega
  have hz2 : ¬ (p : Int) = 0 := by omega
  go_enter Try.func57, Try.ntmps57
  go_wp2_with fail
  go_region
  go_wp2_with fail
  go_loopg [1, 7, 8] n (fun k v1 v7 v8 wr => ∃ r s : Nat, v1 = .int .u64 k ∧ v7 = .int .u64 r ∧ v8 = .int .u64 s ∧ k < 18446744073709551616 ∧ r < p ∧ s < p ∧ Hid (r * s ^ k % p = a ^ n % p) ∧ Below w.heap.size w wr)
  case atStart => exact ⟨1 % p, a % p, rfl, by simp, by simp, hn, Nat.mod_lt _ hp0, Nat.mod_lt _ hp0, pm_start, (Below.refl _ _).drew⟩
  case round =>
    obtain ⟨r, s, rfl, rfl, rfl, hk, hr, hs, hm, hbl⟩ := hrel
    have HBL := Lib.hid hbl
    clear hbl
    by_cases h0 : gk = 0
    · subst h0
      have hfin := Lib.hid (pm_stop hm.out hr)
      go_wp2
      exact bodyPost_ret (v := .int .u64 (r : Nat)) (by simp [results, Try.results57, go_sem]) rfl ⟨by rw [← hfin.out], HBL.out⟩
    · have h1 := mul_lt64 hr hs hp
      have h2 := mul_lt64 hs hs hp
      have hkI : (0 : Int) < (gk : Int) := by omega
      have m2 : IntKind.u64.wrap ((s : Int) * (s : Int)) = ((s * s : Nat) : Int) := by rw [← Int.natCast_mul]; exact IntWalk.u64_in _ (by omega)
      rcases Nat.mod_two_eq_zero_or_one gk with hpar | hpar
      · have t1 : ((gk : Int) % 2 == 1) = false := by rw [beq_eq_false_iff_ne]; omega
        clear h1 h2
        go_wp2
        go_roundg (gk / 2)
        case measure => exact Nat.div_lt_self (by omega) (by omega)
        case rel => exact ⟨r, s * s % p, by simp, rfl, by simp, by omega, hr, Nat.mod_lt _ hp0, by unfold Hid; rw [pm_even hpar]; exact hm.out, HBL.out⟩
      · have t1 : ((gk : Int) % 2 == 1) = true := by rw [beq_iff_eq]; omega
        have m1 : IntKind.u64.wrap ((r : Int) * (s : Int)) = ((r * s : Nat) : Int) := by rw [← Int.natCast_mul]; exact IntWalk.u64_in _ (by omega)
        clear h1 h2
        go_wp2
        go_roundg (gk / 2)
        case measure => exact Nat.div_lt_self (by omega) (by omega)
        case rel => exact ⟨r * s % p, s * s % p, by simp, by simp, by simp, by omega, Nat.mod_lt _ hp0, Nat.mod_lt _ hp0, by unfold Hid; rw [pm_odd hpar]; exact hm.out, HBL.out⟩

set_option maxHeartbeats 1000000 in
theorem epow_any (a n p : Nat) (w : World) (ha : a < 18446744073709551616) (hn : n < 18446744073709551616) (hp0 : 0 < p) (hp : p ≤ 4294967296) :
    Calls Try.prog 58 #[.int .u64 a, .int .u64 n, .int .u64 p] w (RetV (.int .u64 (a ^ n % p : Nat)) w) := by
  have hz : ((p : Int) == 0) = false := by simp; omega
  have hz2 : ¬ (p : Int) = 0 := by omega
  go_enter Try.func58, Try.ntmps58
  go_wp2_with fail
  go_loopg [7, 8, 9] n (fun k v7 v8 v1 wr => ∃ r s : Nat, v1 = .int .u64 k ∧ v7 = .int .u64 r ∧ v8 = .int .u64 s ∧ k < 18446744073709551616 ∧ r < p ∧ s < p ∧ Hid (r * s ^ k % p = a ^ n % p) ∧ Below w.heap.size w wr)
  case atStart => exact ⟨1 % p, a % p, rfl, by simp, by simp, hn, Nat.mod_lt _ hp0, Nat.mod_lt _ hp0, pm_start, Below.refl _ _⟩
  case round =>
    obtain ⟨r, s, rfl, rfl, rfl, hk, hr, hs, hm, hbl⟩ := hrel
    have HBL := Lib.hid hbl
    clear hbl
    by_cases h0 : gk = 0
    · subst h0
      have hfin := Lib.hid (pm_stop hm.out hr)
      go_wp2
      exact bodyPost_ret (v := .int .u64 (r : Nat)) (by simp [results, Try.results58, go_sem]) rfl ⟨by rw [← hfin.out], HBL.out⟩
    · have h1 := mul_lt64 hr hs hp
      have h2 := mul_lt64 hs hs hp
      have hkI : (0 : Int) < (gk : Int) := by omega
      have m2 : IntKind.u64.wrap ((s : Int) * (s : Int)) = ((s * s : Nat) : Int) := by rw [← Int.natCast_mul]; exact IntWalk.u64_in _ (by omega)
      rcases Nat.mod_two_eq_zero_or_one gk with hpar | hpar
      · have t1 : ((gk : Int) % 2 == 1) = false := by rw [beq_eq_false_iff_ne]; omega
        clear h1 h2
        go_wp2
        go_roundg (gk / 2)
        case measure => exact Nat.div_lt_self (by omega) (by omega)
        case rel => exact ⟨r, s * s % p, by simp, rfl, by simp, by omega, hr, Nat.mod_lt _ hp0, by unfold Hid; rw [pm_even hpar]; exact hm.out, HBL.out⟩
      · have t1 : ((gk : Int) % 2 == 1) = true := by rw [beq_iff_eq]; omega
        have m1 : IntKind.u64.wrap ((r : Int) * (s : Int)) = ((r * s : Nat) : Int) := by rw [← Int.natCast_mul]; exact IntWalk.u64_in _ (by omega)
        clear h1 h2
        go_wp2
        go_roundg (gk / 2)
        case measure => exact Nat.div_lt_self (by omega) (by omega)
        case rel => exact ⟨r * s % p, s * s % p, by simp, by simp, by simp, by omega, Nat.mod_lt _ hp0, Nat.mod_lt _ hp0, by unfold Hid; rw [pm_odd hpar]; exact hm.out, HBL.out⟩
end Go.Proofs.Ytfigimfdojbkeaa
