/-
 What the simplest number of an interval is.
-/
import Derived.Test.YtfigimfdojbkeaaGreatRatB2
import Derived.Deep.DeepCutAuto
import Derived.Handy
set_option linter.unusedSimpArgs false
set_option linter.unusedVariables false
namespace Go.Proofs.YtfigimfdojbkeaaGreat
open Go.RowKit
attribute [local go_sem ↓] Go.wp_at_zero Go.wp_at_succ

theorem btw_sr {a b : Rat} {N : Nat} (hN : 2 ≤ N) (hle : a ≤ b) (sa : Sr a N) (sb : Sr b N) : Sr (btw a b) N := by
 unfold btw
 split
 ·rename_i h1
  split
  ·exact sa
  ·exact smp_sr h1 ((Rat.le_iff a b).1 hle) sb
 ·split
  ·rename_i h2
   split
   ·exact sa
   ·exact (smp_sr (by rw [Rat.neg_num]; omega) ((Rat.le_iff _ _).1 (by grind)) sa.neg).neg
  ·exact (Sr.whole (by decide)).mono hN
end Go.Proofs.YtfigimfdojbkeaaGreat
