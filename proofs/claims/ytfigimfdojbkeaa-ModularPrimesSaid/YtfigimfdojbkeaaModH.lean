/-
  Layer 3: the program's Next, where the numbers between have small divisors.
-/
import Derived.Test.YtfigimfdojbkeaaModG
set_option linter.unusedSimpArgs false
set_option linter.unusedVariables false
namespace Go.Proofs.Ytfigimfdojbkeaa
open Go.RowKit
attribute [local go_sem ↓] Go.wp_at_zero Go.wp_at_succ

theorem isPr_11 : IsPr 11 := ⟨by omega, by omega, fun d h2 hd => by
  have h3 : d ≤ 3 := by
    rcases Nat.lt_or_ge 3 d with h | h
    · have := Nat.mul_le_mul h h
      omega
    · exact h
  have : d = 2 ∨ d = 3 := by omega
  rcases this with rfl | rfl <;> decide⟩

set_option maxHeartbeats 2000000 in
theorem onext_7 (w : World) : Calls Try.prog 48 #[.int .u64 7] w (RetV (.tuple #[.int .u64 11, .int .i64 0]) w) := by
  go_enter Try.func48, Try.ntmps48
  go_wp2_with fail
  go_loopg [0] 3 (fun k v0 wr => ∃ p : Nat, p + k = 11 ∧ 8 ≤ p ∧ v0 = .int .u64 p ∧ Below w.heap.size w wr)
  case atStart => exact ⟨8, by omega, by omega, by simp, Below.refl _ _⟩
  case round =>
    obtain ⟨p, hpk, hp8, rfl, hbl⟩ := hrel
    have HBL := Lib.hid hbl
    clear hbl
    have hp : p = 8 ∨ p = 9 ∨ p = 10 ∨ p = 11 := by omega
    rcases hp with rfl | rfl | rfl | rfl
    · have hc := fun w0 => oprime_not 8 0 w0 (by omega) (by omega) (by omega) (by decide) (by omega) (by decide)
      go_wp2_with fail
      refine (hc _).mono ?_
      rintro e w1 ⟨rfl, hb⟩
      replace HBL := Lib.hid (link_below HBL.out hb (by have := HBL.out.size; omega) rfl rfl rfl rfl)
      clear hb hc
      go_wp2
      go_roundg (gk - 1)
      case measure => omega
      case rel => exact ⟨9, by omega, by omega, by simp, HBL.out⟩
    · have hc := fun w0 => oprime_not 9 1 w0 (by omega) (by omega) (by omega) (by decide) (by decide) (by decide)
      go_wp2_with fail
      refine (hc _).mono ?_
      rintro e w1 ⟨rfl, hb⟩
      replace HBL := Lib.hid (link_below HBL.out hb (by have := HBL.out.size; omega) rfl rfl rfl rfl)
      clear hb hc
      go_wp2
      go_roundg (gk - 1)
      case measure => omega
      case rel => exact ⟨10, by omega, by omega, by simp, HBL.out⟩
    · have hc := fun w0 => oprime_not 10 0 w0 (by omega) (by omega) (by omega) (by decide) (by omega) (by decide)
      go_wp2_with fail
      refine (hc _).mono ?_
      rintro e w1 ⟨rfl, hb⟩
      replace HBL := Lib.hid (link_below HBL.out hb (by have := HBL.out.size; omega) rfl rfl rfl rfl)
      clear hb hc
      go_wp2
      go_roundg (gk - 1)
      case measure => omega
      case rel => exact ⟨11, by omega, by omega, by simp, HBL.out⟩
    · have hc := fun w0 => oprime_pr 11 w0 isPr_11
      go_wp2_with fail
      refine (hc _).mono ?_
      rintro e w1 ⟨rfl, hb⟩
      replace HBL := Lib.hid (link_below HBL.out hb (by have := HBL.out.size; omega) rfl rfl rfl rfl)
      clear hb hc
      go_wp2
      exact bodyPost_ret (v := .tuple #[.int .u64 11, .int .i64 0]) (by simp [results, Try.results48, go_sem]) rfl ⟨rfl, HBL.out⟩
end Go.Proofs.Ytfigimfdojbkeaa
