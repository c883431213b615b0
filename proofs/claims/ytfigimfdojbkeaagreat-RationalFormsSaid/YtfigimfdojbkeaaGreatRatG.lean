/-
  The program's functions on fractions.
-/
import Derived.Test.YtfigimfdojbkeaaGreatRatF
import Derived.Deep.DeepCutAuto
import Derived.Handy
set_option linter.unusedSimpArgs false
set_option linter.unusedVariables false
namespace Go.Proofs.YtfigimfdojbkeaaGreat
open Go.RowKit
attribute [local go_sem ↓] Go.wp_at_zero Go.wp_at_succ

def zeroQ : Value := .agg #[.bool false, .slice none 0 0, .bool false, .slice none 0 0]
def RetQE (n d : Int) (w : World) (e : Ending) (w' : World) : Prop := ∃ v, e = .returned (.tuple #[v, .int .i64 0]) ∧ Qv w' v n d ∧ Below w.heap.size w w'
end Go.Proofs.YtfigimfdojbkeaaGreat

