/-
  Fractions: the program's small functions.
-/
import Derived.Test.YtfigimfdojbkeaaGreatRatA
import Derived.Test.YtfigimfdojbkeaaGreatIntE
import Derived.Test.YtfigimfdojbkeaaGreatLehF
import Derived.Test.YtfigimfdojbkeaaGreatIntA
import Derived.Laws.AppendOwnNone
import Derived.Deep.AppendLies
import Derived.OwnWalk
import Derived.Deep.DeepCutAuto
import Derived.Handy
import Derived.Lib.SliceRun
import Derived.Deep.DrawnRows
set_option linter.unusedSimpArgs false
set_option linter.unusedVariables false
namespace Go.Proofs.YtfigimfdojbkeaaGreat
open Go.RowKit
attribute [local go_sem ↓] Go.wp_at_zero Go.wp_at_succ

set_option maxHeartbeats 2000000 in
theorem qIsOne_any (va : Value) (z : Int) (w : World) (ha : Iv w va z) (sa : Sz z 1000000) : Calls Tryz.prog 94 #[va] w (RetV (.bool (decide (z = 1))) w) := by
  obtain ⟨A, n, c, rfl, _, _, _⟩ := ha.form
  have HA := Lib.hid ha
  have SA := Lib.hid sa
  clear ha sa
  by_cases h : -9223372036854775808 ≤ z ∧ z ≤ 9223372036854775807
  · have hs : Hid (smallV z = .tuple #[.int .i64 z, .bool true]) := if_pos h
    have hd : Hid ((z == 1) = decide (z = 1)) := by by_cases e : z = 1 <;> simp [Hid, e]
    clear h
    generalize decide (z < 0) = s at *
    go_enter Tryz.func94, Tryz.ntmps94
    go_wp2_with fail
    refine (small_any _ z _ (HA.out.alloc _) SA.out).mono ?_
    rw [hs.out]
    rintro e w1 ⟨rfl, hb⟩
    have HB := Lib.hid hb
    clear hb
    go_wp2
    go_ret
    exact ⟨by rw [← hd.out]; rfl, below_new HB.out⟩
  · have hs : Hid (smallV z = .tuple #[.int .i64 0, .bool false]) := if_neg h
    have hd : Hid (false = decide (z = 1)) := by unfold Hid; rw [decide_eq_false]; omega
    clear h
    generalize decide (z < 0) = s at *
    go_enter Tryz.func94, Tryz.ntmps94
    go_wp2_with fail
    refine (small_any _ z _ (HA.out.alloc _) SA.out).mono ?_
    rw [hs.out]
    rintro e w1 ⟨rfl, hb⟩
    have HB := Lib.hid hb
    clear hb
    go_wp2
    go_ret
    exact ⟨by rw [← hd.out]; rfl, below_new HB.out⟩

end Go.Proofs.YtfigimfdojbkeaaGreat

