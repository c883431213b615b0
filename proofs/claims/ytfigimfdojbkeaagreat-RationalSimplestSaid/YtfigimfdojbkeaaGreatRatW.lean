/-
  Layer 2's law of the order.
-/
import Derived.Test.YtfigimfdojbkeaaGreatRatU
import Derived.Test.YtfigimfdojbkeaaGreatRegE
import Derived.Deep.DeepCutAuto
import Derived.Handy
set_option linter.unusedSimpArgs false
set_option linter.unusedVariables false
namespace Go.Proofs.YtfigimfdojbkeaaGreat
open Go.RowKit
attribute [local go_sem ↓] Go.wp_at_zero Go.wp_at_succ

def cq (a b : Rat) : Int := cmpZ (a.num * b.den) (b.num * a.den)
theorem cq_lt {a b : Rat} (h : a < b) : cq a b = -1 := cmpZ_lt ((Rat.lt_iff a b).1 h)
theorem cq_gt {a b : Rat} (h : b < a) : cq a b = 1 := cmpZ_gt ((Rat.lt_iff b a).1 h)
theorem cq_eq {a b : Rat} (h : a = b) : cq a b = 0 := cmpZ_eq (by rw [h])
theorem tri (a b : Rat) : a < b ∨ a = b ∨ b < a := by grind
theorem sg_cq (a : Rat) : sg a.num = cq a 0 := by
  have h : cq a 0 = cmpZ (a.num * ((1 : Nat) : Int)) (0 * (a.den : Int)) := rfl
  rw [h, Int.zero_mul, cmpZ_zero]
  simp
theorem cq_cases (a b : Rat) : cq a b = -1 ∨ cq a b = 0 ∨ cq a b = 1 := by
  rcases tri a b with h | h | h
  · exact .inl (cq_lt h)
  · exact .inr (.inl (cq_eq h))
  · exact .inr (.inr (cq_gt h))
theorem cq_le {a b : Rat} : cq a b ≤ 0 ↔ a ≤ b := by
  rcases tri a b with h | h | h
  · rw [cq_lt h]; constructor <;> intro _ <;> grind
  · rw [cq_eq h]; constructor <;> intro _ <;> grind
  · rw [cq_gt h]; constructor <;> intro _ <;> grind
theorem or_floor (a : Rat) {f : Rat} (hn : f.num = a.num / a.den) (hd : (f.den : Int) = 1) : cq f a ≤ 0 := by
  rw [cq_le, Rat.le_iff, hn, hd, Int.mul_one]
  exact Int.ediv_mul_le _ (by have := rat_pos a; omega)
theorem qcmp_is (va vb : Value) (a b : Rat) (r : Int) (w : World) (ha : Qv w va a.num a.den) (sa : Sr a 100000) (hb : Qv w vb b.num b.den) (sb : Sr b 100000) (h : cq a b = r) : Calls Tryz.prog 39 #[va, vb] w (RetV (.int .i64 r) w) := h ▸ qcmp_any va vb a b w ha sa hb sb
theorem qsign_is (va : Value) (a : Rat) (r : Int) (w : World) (ha : Qv w va a.num a.den) (sa : Sr a 1000000) (h : sg a.num = r) : Calls Tryz.prog 37 #[va] w (RetV (.int .i64 r) w) := h ▸ qsign_any va a w ha sa
theorem floor_is (va : Value) (a f : Rat) (w : World) (ha : Qv w va a.num a.den) (sa : Sr a 1000000) (h : f.num = a.num / a.den) : Calls Tryz.prog 33 #[va] w (RetIv f.num w) := h ▸ qfloor_any va a w ha sa
theorem one_is (f : Rat) (w : World) (h : (f.den : Int) = 1) : Calls Tryz.prog 55 #[.int .i64 1] w (RetIv (f.den : Int) w) := by rw [h]; exact of_any 1 w (by omega) (by omega)
theorem valid_is (va : Value) (f : Rat) (w : World) (ha : Qv w va f.num f.den) (sa : Sr f 1000000) : Calls Tryz.prog 45 #[va] w (RetV (.bool true) w) := by
  have h := qvalid_pos va f.num f.den w ha sa.num sa.den (den_cast f)
  rw [Int.natAbs_natCast, gcd_num] at h
  exact h
section
variable {o : Oper} {w : World} {ρ : Operand → Value} {x y : Operand} {t u : TypeId}
theorem run_eqlI {k : IntKind} {m n : Int} {r : Bool} (ho : o.op = .binOp .eql t x y u) (hx : ρ x = .int k m) (hy : ρ y = .int k n) (h : (m == n) = r) : (execOp ρ o).run Tryz.prog w = .ok (.value (.bool r)) w := h ▸ run_eql_int ho hx hy
theorem run_leqT {k : IntKind} {m n : Int} (ho : o.op = .binOp .leq t x y u) (hx : ρ x = .int k m) (hy : ρ y = .int k n) (h : m ≤ n) : (execOp ρ o).run Tryz.prog w = .ok (.value (.bool true)) w := by
  refine (run_leq_int ho hx hy).trans ?_
  rw [decide_eq_true h]
end

end Go.Proofs.YtfigimfdojbkeaaGreat
