/-
  What comes in at layer 3's laws.
-/
import Derived.Test.YtfigimfdojbkeaaRows
import Derived.Test.YtfigimfdojbkeaaModU
import Derived.WalkKit
import Derived.ProofKit
import Derived.OpenShut
import Derived.ShutString
import Derived.ChangeOld
import Derived.Below
import Derived.Lib.SmallJoins
import Derived.Deep.Strs
set_option linter.unusedSimpArgs false
set_option linter.unusedVariables false
namespace Go.Proofs.Ytfigimfdojbkeaa
open Go.ChangeShapes Go.WideShapes Go.ChangeAt Go.RowKit Go.Joins

theorem ownQ : ownKnob Try.prog.godebug = none := by kernel_rfl
theorem laidQ : laidOutB Try.prog = true := by kernel_rfl
theorem and_i {a b : Bool} (h : a = true) (k : b = true) : (a && b) = true := by rw [h, k]; rfl
/-- what asks the most memory, once for all rows -/
theorem heard : Try.pinned.checked.prog.stopsHeard = true := by kernel_rfl
theorem entered : Try.pinned.checked.prog.mayEnter = true := by kernel_rfl
theorem liftsIs : (Rows.modularInvertsRow.lifted == Try.pinned.checked.prog.liftsFinal) = true := by kernel_rfl
theorem makeIs : (Try.pinned.checked.prog.make == some Rows.modularInvertsRow.make) = true := by kernel_rfl
end Go.Proofs.Ytfigimfdojbkeaa
