/-
  Layer 2's law of the texts.
-/
import Derived.Test.YtfigimfdojbkeaaGreatRatU
import Derived.Test.YtfigimfdojbkeaaGreatRatJ
import Derived.Deep.DeepCutAuto
import Derived.Handy
set_option linter.unusedSimpArgs false
set_option linter.unusedVariables false
namespace Go.Proofs.YtfigimfdojbkeaaGreat
open Go.RowKit
attribute [local go_sem ↓] Go.wp_at_zero Go.wp_at_succ

section
variable {o : Oper} {w : World} {ρ : Operand → Value} {x y : Operand} {t u : TypeId}
set_option maxRecDepth 100000 in
theorem run_eqlB {b : Bool} (ho : o.op = .binOp .eql 4 x y u) (hx : ρ x = .bool b) (hy : ρ y = .bool b) : (execOp ρ o).run Tryz.prog w = .ok (.value (.bool true)) w := by
  have h : (binOp .eql 4 (.bool b) (.bool b)).run Tryz.prog w = .ok (.bool true) w := by cases b <;> rfl
  simp [execOp, ho, hx, hy, go_sem, h]
end

end Go.Proofs.YtfigimfdojbkeaaGreat
