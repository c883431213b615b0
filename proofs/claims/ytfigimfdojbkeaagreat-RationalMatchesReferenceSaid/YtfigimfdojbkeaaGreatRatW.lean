/-
 Layer 2's law of the order.
-/
import Derived.Test.YtfigimfdojbkeaaGreatRatU
import Derived.Test.YtfigimfdojbkeaaGreatRegE
import Derived.Deep.DeepCutAuto
import Derived.Handy
set_option linter.unusedSimpArgs false
set_option linter.unusedVariables false
namespace Go.Proofs.YtfigimfdojbkeaaGreat
open Go.RowKit
attribute [local go_sem ↓] Go.wp_at_zero Go.wp_at_succ

def cq (a b : Rat) : Int := cmpZ (a.num * b.den) (b.num * a.den)
theorem cq_lt {a b : Rat} (h : a < b) : cq a b = -1 := cmpZ_lt ((Rat.lt_iff a b).1 h)
theorem cq_gt {a b : Rat} (h : b < a) : cq a b = 1 := cmpZ_gt ((Rat.lt_iff b a).1 h)
theorem cq_eq {a b : Rat} (h : a = b) : cq a b = 0 := cmpZ_eq (by rw [h])
theorem tri (a b : Rat) : a < b ∨ a = b ∨ b < a := by grind
theorem cq_cases (a b : Rat) : cq a b = -1 ∨ cq a b = 0 ∨ cq a b = 1 := by
 rcases tri a b with h | h | h
 ·exact .inl (cq_lt h)
 ·exact .inr (.inl (cq_eq h))
 ·exact .inr (.inr (cq_gt h))
theorem cq_le {a b : Rat} : cq a b ≤ 0 ↔ a ≤ b := by
 rcases tri a b with h | h | h
 ·rw [cq_lt h]; constructor <;> intro _ <;> grind
 ·rw [cq_eq h]; constructor <;> intro _ <;> grind
 ·rw [cq_gt h]; constructor <;> intro _ <;> grind
theorem qcmp_is (va vb : Value) (a b : Rat) (r : Int) (w : World) (ha : Qv w va a.num a.den) (sa : Sr a 100000) (hb : Qv w vb b.num b.den) (sb : Sr b 100000) (h : cq a b = r) : Calls Tryz.prog 39 #[va, vb] w (RetV (.int .i64 r) w) := h ▸ qcmp_any va vb a b w ha sa hb sb
theorem qsign_is (va : Value) (a : Rat) (r : Int) (w : World) (ha : Qv w va a.num a.den) (sa : Sr a 1000000) (h : sg a.num = r) : Calls Tryz.prog 37 #[va] w (RetV (.int .i64 r) w) := h ▸ qsign_any va a w ha sa
section
variable {o : Oper} {w : World} {ρ : Operand → Value} {x y : Operand} {t u : TypeId}
theorem run_eqlI {k : IntKind} {m n : Int} {r : Bool} (ho : o.op = .binOp .eql t x y u) (hx : ρ x = .int k m) (hy : ρ y = .int k n) (h : (m == n) = r) : (execOp ρ o).run Tryz.prog w = .ok (.value (.bool r)) w := h ▸ run_eql_int ho hx hy
end

end Go.Proofs.YtfigimfdojbkeaaGreat
