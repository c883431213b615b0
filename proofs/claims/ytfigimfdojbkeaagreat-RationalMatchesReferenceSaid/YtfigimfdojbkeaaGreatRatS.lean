/-
 Layer 2's law of the texts.
-/
import Derived.Test.YtfigimfdojbkeaaGreatRatU
import Derived.Test.YtfigimfdojbkeaaGreatRatJ
import Derived.Deep.DeepCutAuto
import Derived.Handy
set_option linter.unusedSimpArgs false
set_option linter.unusedVariables false
namespace Go.Proofs.YtfigimfdojbkeaaGreat
open Go.RowKit
attribute [local go_sem ↓] Go.wp_at_zero Go.wp_at_succ

section
variable {o : Oper} {w : World} {ρ : Operand → Value} {x y : Operand} {t u : TypeId}
theorem run_eqlS {a b : ByteArray} {r : Bool} (ho : o.op = .binOp .eql t x y u) (hx : ρ x = .string a) (hy : ρ y = .string b) (h : (a.toList == b.toList) = r) : (execOp ρ o).run Tryz.prog w = .ok (.value (.bool r)) w := h ▸ run_eql_str ho hx hy
end

end Go.Proofs.YtfigimfdojbkeaaGreat
