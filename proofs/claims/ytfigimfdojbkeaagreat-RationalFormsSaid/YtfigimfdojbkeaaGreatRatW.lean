/-
  Layer 2's law of the order.
-/
import Derived.Test.YtfigimfdojbkeaaGreatRatU
import Derived.Test.YtfigimfdojbkeaaGreatRegE
import Derived.Deep.DeepCutAuto
import Derived.Handy
set_option linter.unusedSimpArgs false
set_option linter.unusedVariables false
namespace Go.Proofs.YtfigimfdojbkeaaGreat
open Go.RowKit
attribute [local go_sem ↓] Go.wp_at_zero Go.wp_at_succ

section
variable {o : Oper} {w : World} {ρ : Operand → Value} {x y : Operand} {t u : TypeId}
set_option maxRecDepth 100000 in
theorem run_neqB {b : Bool} (ho : o.op = .binOp .neq 4 x y u) (hx : ρ x = .bool b) (hy : ρ y = .bool b) : (execOp ρ o).run Tryz.prog w = .ok (.value (.bool false)) w := by
  have h : (binOp .neq 4 (.bool b) (.bool b)).run Tryz.prog w = .ok (.bool false) w := by cases b <;> rfl
  simp [execOp, ho, hx, hy, go_sem, h]
theorem run_eqlI {k : IntKind} {m n : Int} {r : Bool} (ho : o.op = .binOp .eql t x y u) (hx : ρ x = .int k m) (hy : ρ y = .int k n) (h : (m == n) = r) : (execOp ρ o).run Tryz.prog w = .ok (.value (.bool r)) w := h ▸ run_eql_int ho hx hy
end

end Go.Proofs.YtfigimfdojbkeaaGreat
