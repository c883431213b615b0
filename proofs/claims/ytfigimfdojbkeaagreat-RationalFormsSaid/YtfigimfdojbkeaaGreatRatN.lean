/-
  A slice of words copied by append in a region that draws its order.
-/
import Derived.Test.YtfigimfdojbkeaaGreatRatU
import Derived.Test.YtfigimfdojbkeaaGreatIntA
import Derived.Laws.AppendOwnNone
import Derived.Deep.AppendLies
import Derived.OwnWalk
import Derived.Deep.DeepCutAuto
import Derived.Handy
import Derived.Lib.SliceRun
import Derived.Deep.DrawnRows
import Derived.ArgAppend
set_option linter.unusedSimpArgs false
set_option linter.unusedVariables false
namespace Go.Proofs.YtfigimfdojbkeaaGreat
open Go.RowKit
attribute [local go_sem ↓] Go.wp_at_zero Go.wp_at_succ

theorem wd_kn {w w' : World} {A : Option Addr} {n : Nat} {ws : List Nat} (h : Wd w A n ws) (hk : Rg.Kn w w') : Wd w' A n ws := h.kw (kw_of hk)
section
variable {o : Oper} {a : Act} {w : World} {Q : Exit → Act → World → Prop} {x y : Operand} {v u : Value}
variable {ρ : Operand → Value}
end
end Go.Proofs.YtfigimfdojbkeaaGreat
