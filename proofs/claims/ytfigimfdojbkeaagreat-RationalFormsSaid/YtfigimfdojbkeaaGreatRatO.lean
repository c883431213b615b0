/-
  What comes in: arrays of raw numbers.
-/
import Derived.Test.YtfigimfdojbkeaaGreatRows
import Derived.Test.YtfigimfdojbkeaaGreatRatU
import Derived.WalkKit
import Derived.ProofKit
import Derived.OpenShut
import Derived.ShutString
import Derived.ChangeOld
import Derived.Below
import Derived.Lib.SmallJoins
import Derived.Deep.Strs
set_option linter.unusedSimpArgs false
set_option linter.unusedVariables false
namespace Go.Proofs.YtfigimfdojbkeaaGreat
open Go.ChangeShapes Go.WideShapes Go.ChangeAt Go.RowKit Go.Joins

theorem ownQ : ownKnob Tryz.prog.godebug = none := by kernel_rfl
theorem laidQ : laidOutB Tryz.prog = true := by kernel_rfl
end Go.Proofs.YtfigimfdojbkeaaGreat
