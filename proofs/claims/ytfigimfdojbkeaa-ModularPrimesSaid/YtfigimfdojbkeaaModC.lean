/-
  Layer 3: contract of Miller's test.
-/
import Derived.Test.YtfigimfdojbkeaaModB
set_option linter.unusedSimpArgs false
set_option linter.unusedVariables false
namespace Go.Proofs.Ytfigimfdojbkeaa
open Go.RowKit
attribute [local go_sem ↓] Go.wp_at_zero Go.wp_at_succ

/-- Of k squares that begin with x, one is -1. -/
def sqHas (n : Nat) : Nat → Nat → Bool
  | 0, _ => false
  | k + 1, x => x == n - 1 || sqHas n k (x * x % n)

set_option maxHeartbeats 2000000 in
theorem passes_any (a n : Nat) (w : World) (ha : a < 18446744073709551616) (hn1 : 2 ≤ n) (hn : n ≤ 2147483647) :
    Calls Try.prog 120 #[.int .u64 a, .int .u64 n] w fun e w' => ∃ d s : Nat, n - 1 = d * 2 ^ s ∧ d % 2 = 1 ∧ e = .returned (.bool (a ^ d % n == 1 || sqHas n s (a ^ d % n))) ∧ Below w.heap.size w w' := by
  have i1 : IntKind.u64.wrap ((n : Int) - 1) = ((n - 1 : Nat) : Int) := by rw [IntWalk.u64_in _ (by omega)]; omega
  go_enter Try.func120, Try.ntmps120
  go_wp2_with fail
  go_loopg [5, 6] (n - 1) (fun k v5 v6 wr => ∃ s : Nat, 0 < k ∧ v5 = .int .u64 k ∧ v6 = .int .i64 s ∧ Hid (n - 1 = k * 2 ^ s) ∧ Below w.heap.size w wr)
  case atStart => exact ⟨0, by omega, rfl, rfl, by simp [Hid], Below.refl _ _⟩
  case round =>
    obtain ⟨s, hk0, rfl, rfl, hns, hbl⟩ := hrel
    have HBL := Lib.hid hbl
    clear hbl i1
    have hs : s ≤ 31 := by
      rcases Nat.lt_or_ge 31 s with h | h
      · have h1 : 2 ^ 32 ≤ 2 ^ s := Nat.pow_le_pow_right (by omega) h
        have h2 := Nat.mul_le_mul hk0 h1
        have h3 := hns.out
        omega
      · exact h
    have hkn : gk < 2147483647 := by
      have h1 := Nat.mul_le_mul (Nat.le_refl gk) (Nat.pow_pos (n := s) (show 0 < 2 by omega))
      have h2 := hns.out
      omega
    rcases Nat.mod_two_eq_zero_or_one gk with hpar | hpar
    · have t1 : ((gk : Int) % 2 == 0) = true := by rw [beq_iff_eq]; omega
      go_wp2
      go_roundg (gk / 2)
      case measure => omega
      case rel =>
        refine ⟨s + 1, by omega, by simp, by simp, ?_, HBL.out⟩
        have h2 := hns.out
        unfold Hid
        rw [h2, Nat.pow_succ, Nat.mul_comm (2 ^ s) 2, ← Nat.mul_assoc, Nat.div_mul_cancel (Nat.dvd_of_mod_eq_zero hpar)]
    · have t1 : ((gk : Int) % 2 == 0) = false := by rw [beq_eq_false_iff_ne]; omega
      go_wp2_with fail
      refine (opow_any a gk n _ ha (by omega) (by omega) (by omega)).mono ?_
      rintro e w1 ⟨rfl, hb⟩
      replace HBL := Lib.hid (link_below HBL.out hb (by have := HBL.out.size; omega) rfl rfl rfl rfl)
      clear hb t1
      obtain ⟨x, hx⟩ : ∃ x, a ^ gk % n = x := ⟨_, rfl⟩
      rw [hx]
      have hxn : x < n := by rw [← hx]; exact Nat.mod_lt _ (by omega)
      have HX := Lib.hid hx
      clear hx
      by_cases h1 : x = 1
      · have t2 : ((x : Int) == 1) = true := by rw [beq_iff_eq]; omega
        clear hxn
        subst h1
        go_wp2
        exact bodyPost_ret (v := .bool true) (by simp [results, Try.results120, go_sem]) rfl ⟨gk, s, hns.out, hpar, by rw [HX.out]; rfl, HBL.out⟩
      · have t2 : ((x : Int) == 1) = false := by rw [beq_eq_false_iff_ne]; omega
        have i1 : IntKind.u64.wrap ((n : Int) - 1) = ((n - 1 : Nat) : Int) := by rw [IntWalk.u64_in _ (by omega)]; omega
        have HR : Hid ((a ^ gk % n == 1 || sqHas n s (a ^ gk % n)) = sqHas n s x) := by
          unfold Hid
          rw [HX.out, beq_eq_false_iff_ne.2 h1, Bool.false_or]
        go_wp2_with fail
        clear t2 h1
        obtain ⟨dd, rfl⟩ : ∃ dd, dd = gk := ⟨gk, rfl⟩
        go_loopg [7, 24] s (fun k v7 v24 wr => ∃ y i : Nat, i + k = s ∧ v7 = .int .u64 y ∧ v24 = .int .i64 i ∧ y < n ∧ Hid (sqHas n k y = sqHas n s x) ∧ Below w.heap.size w wr)
        case atStart => exact ⟨x, 0, by omega, rfl, rfl, hxn, rfl, HBL.out⟩
        case round =>
          clear HBL
          obtain ⟨y, i, his, rfl, rfl, hy, hsq, hbl⟩ := hrel
          have HBL := Lib.hid hbl
          clear hbl
          by_cases h0 : gk = 0
          · subst h0
            have his' : (s : Int) = (i : Int) := by omega
            have hfin : Hid (sqHas n s x = false) := hsq.out.symm
            have t3 : decide ((i : Int) < (s : Int)) = false := decide_eq_false (by omega)
            clear his'
            go_wp2
            exact bodyPost_ret (v := .bool false) (by simp [results, Try.results120, go_sem]) rfl ⟨dd, s, hns.out, hpar, by rw [HR.out, hfin.out], HBL.out⟩
          · obtain ⟨k, hk⟩ : ∃ k, gk = k + 1 := ⟨gk - 1, by omega⟩
            have t3 : decide ((i : Int) < (s : Int)) = true := decide_eq_true (by omega)
            by_cases hy1 : y = n - 1
            · have t4 : ((y : Int) == ((n - 1 : Nat) : Int)) = true := by rw [beq_iff_eq, hy1]
              have hfin : Hid (sqHas n s x = true) := by
                unfold Hid
                rw [← hsq.out, hk, sqHas, beq_iff_eq.2 hy1, Bool.true_or]
              clear hy1
              go_wp2
              exact bodyPost_ret (v := .bool true) (by simp [results, Try.results120, go_sem]) rfl ⟨dd, s, hns.out, hpar, by rw [HR.out, hfin.out], HBL.out⟩
            · have t4 : ((y : Int) == ((n - 1 : Nat) : Int)) = false := by rw [beq_eq_false_iff_ne]; omega
              have hfin : Hid (sqHas n k (y * y % n) = sqHas n s x) := by
                unfold Hid
                rw [← hsq.out, hk]
                conv => rhs; rw [sqHas, beq_eq_false_iff_ne.2 hy1, Bool.false_or]
              have h1 := mul_lt64 hy hy (show n ≤ 4294967296 by omega)
              have m1 : IntKind.u64.wrap ((y : Int) * (y : Int)) = ((y * y : Nat) : Int) := by rw [← Int.natCast_mul]; exact IntWalk.u64_in _ (by omega)
              have hz2 : ¬ (n : Int) = 0 := by omega
              have hmd : y * y % n < n := Nat.mod_lt _ (by omega)
              clear h1 hy1
              go_wp2
              go_roundg k
              case measure => omega
              case rel => exact ⟨y * y % n, i + 1, by omega, by simp, by simp, hmd, hfin, HBL.out⟩
end Go.Proofs.Ytfigimfdojbkeaa
