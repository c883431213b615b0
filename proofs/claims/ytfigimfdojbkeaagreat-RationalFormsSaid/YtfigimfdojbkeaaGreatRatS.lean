/-
  Layer 2's law of the texts.
-/
import Derived.Test.YtfigimfdojbkeaaGreatRatU
import Derived.Test.YtfigimfdojbkeaaGreatRatJ
import Derived.Deep.DeepCutAuto
import Derived.Handy
set_option linter.unusedSimpArgs false
set_option linter.unusedVariables false
namespace Go.Proofs.YtfigimfdojbkeaaGreat
open Go.RowKit
attribute [local go_sem ↓] Go.wp_at_zero Go.wp_at_succ

theorem qtx_one {a : Rat} (h : (a.den : Int) = 1) : qtx a = txs a.num := if_pos h
theorem qtx_two {a : Rat} (h : (a.den : Int) ≠ 1) : qtx a = txs a.num ++ slash ++ txs a.den := if_neg h
theorem two_data (n d : ByteArray) : (n ++ slash ++ d).data.toList = n.data.toList ++ 47 :: d.data.toList := by simp [slash]
theorem ext_data (s : ByteArray) (i j : Nat) : (s.extract i j).data.toList = (s.data.toList.take j).drop i := by
  rw [ByteArray.data_extract, Array.toList_extract, List.extract_eq_take_drop, List.take_drop]
  by_cases h : i ≤ j
  · rw [show i + (j - i) = j by omega]
  · rw [List.drop_eq_nil_of_le (by simp; omega), List.drop_eq_nil_of_le (by simp; omega)]
theorem size_len (s : ByteArray) : s.data.toList.length = s.size := by simp
section
variable {o : Oper} {w : World} {ρ : Operand → Value} {x y : Operand} {t u : TypeId}
end

end Go.Proofs.YtfigimfdojbkeaaGreat
