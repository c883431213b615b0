/-
  Plain facts about the reference's fractions: sums and products in lowest terms, one step of the simplest number.
-/
import Derived.Test.YtfigimfdojbkeaaGreatRatW
import Derived.Test.YtfigimfdojbkeaaGreatRatL
import Derived.Test.YtfigimfdojbkeaaGreatRatZ
import Derived.Deep.DeepCutAuto
import Derived.Handy
import Derived.Test.YtfigimfdojbkeaaGreatLawI
import Derived.Test.YtfigimfdojbkeaaGreatBtM
set_option linter.unusedSimpArgs false
set_option linter.unusedVariables false
namespace Go.Proofs.YtfigimfdojbkeaaGreat
theorem Bt.Spec.same {p q r s N D N' D' : Int} (h : Bt.Spec p q r s N D) (k : Bt.Spec p q r s N' D') : N = N' ∧ D = D' := by
  have h1 := h.least N' D' k.dpos k.low k.high
  have h2 := k.least N D h.dpos h.low h.high
  omega
end Go.Proofs.YtfigimfdojbkeaaGreat
