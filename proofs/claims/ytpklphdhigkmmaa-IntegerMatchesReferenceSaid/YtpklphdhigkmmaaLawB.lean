/-
  More steps and contracts with their values.
-/
import Derived.Test.YtpklphdhigkmmaaLawA
import Derived.Test.YtpklphdhigkmmaaRefB
import Derived.Test.YtpklphdhigkmmaaRegB
namespace Go.Proofs.Ytpklphdhigkmmaa
open Go.RowKit

theorem cmp_is (va vb : Value) (a b o : Int) (w : World) (ha : Iv w va a) (hb : Iv w vb b) (sa : Sz a 1000000) (sb : Sz b 1000000) (h : cmpZ a b = o) : Calls Try.prog 24 #[va, vb] w (RetV (.int .i64 o) w) := by
  subst h
  exact cmp_any va vb a b w ha hb sa sb
theorem sign_is (va : Value) (a o : Int) (w : World) (ha : Iv w va a) (sa : Sz a 1000000) (h : sg a = o) : Calls Try.prog 73 #[va] w (RetV (.int .i64 o) w) := by
  subst h
  exact sign_any va a w ha sa
theorem run_leq_int {o : Oper} {w : World} {ρ : Operand → Value} {x y : Operand} {t u : TypeId} {k : IntKind} {m n : Int} (ho : o.op = .binOp .leq t x y u) (hx : ρ x = .int k m) (hy : ρ y = .int k n) : (execOp ρ o).run Try.prog w = .ok (.value (.bool (decide (m ≤ n)))) w := by
  simp [execOp, ho, hx, hy, go_sem]
theorem run_gtr_int {o : Oper} {w : World} {ρ : Operand → Value} {x y : Operand} {t u : TypeId} {k : IntKind} {m n : Int} (ho : o.op = .binOp .gtr t x y u) (hx : ρ x = .int k m) (hy : ρ y = .int k n) : (execOp ρ o).run Try.prog w = .ok (.value (.bool (decide (n < m)))) w := by
  simp [execOp, ho, hx, hy, go_sem]
theorem run_geq_int {o : Oper} {w : World} {ρ : Operand → Value} {x y : Operand} {t u : TypeId} {k : IntKind} {m n : Int} (ho : o.op = .binOp .geq t x y u) (hx : ρ x = .int k m) (hy : ρ y = .int k n) : (execOp ρ o).run Try.prog w = .ok (.value (.bool (decide (n ≤ m)))) w := by
  simp [execOp, ho, hx, hy, go_sem]
theorem run_mul_i64 {o : Oper} {w : World} {ρ : Operand → Value} {x y : Operand} {t u : TypeId} {m n r : Int} (ho : o.op = .binOp .mul t x y u) (hx : ρ x = .int .i64 m) (hy : ρ y = .int .i64 n) (hr : IntKind.i64.wrap (m * n) = r) : (execOp ρ o).run Try.prog w = .ok (.value (.int .i64 r)) w := by
  subst hr
  simp [execOp, ho, hx, hy, go_sem]
theorem run_neg_i64 {o : Oper} {w : World} {ρ : Operand → Value} {x : Operand} {t : TypeId} {m r : Int} (ho : o.op = .unOp .neg t x) (hx : ρ x = .int .i64 m) (hr : IntKind.i64.wrap (-m) = r) : (execOp ρ o).run Try.prog w = .ok (.value (.int .i64 r)) w := by
  subst hr
  simp [execOp, ho, hx, go_sem, Op.unary]
theorem cmpZ_zero (a : Int) : cmpZ a 0 = sg a := by
  unfold cmpZ sg
  split
  · rfl
  · split
    · rw [if_neg (by omega)]
    · rw [if_pos (by omega)]
theorem sg_one (c : Int) : -1 ≤ sg c ∧ sg c ≤ 1 := by
  rcases sg_cases c with ⟨_, h⟩ | ⟨_, h⟩ | ⟨_, h⟩ <;> rw [h] <;> omega
theorem cmp_mul {a b o : Int} (c : Int) (h : cmpZ a b = o) : cmpZ (a * c) (b * c) = o * sg c := by
  subst h
  rcases sg_cases c with ⟨h1, h2⟩ | ⟨h1, h2⟩ | ⟨h1, h2⟩
  · rw [h2]
    rcases Int.lt_trichotomy a b with h | h | h
    · rw [cmpZ_lt h, cmpZ_gt (Int.mul_lt_mul_of_neg_right h h1)]; rfl
    · rw [cmpZ_eq h, cmpZ_eq (by rw [h])]; rfl
    · rw [cmpZ_gt h, cmpZ_lt (Int.mul_lt_mul_of_neg_right h h1)]; rfl
  · rw [h2, h1, cmpZ_eq (by simp)]
    simp
  · rw [h2]
    rcases Int.lt_trichotomy a b with h | h | h
    · rw [cmpZ_lt h, cmpZ_lt (Int.mul_lt_mul_of_pos_right h h1)]; rfl
    · rw [cmpZ_eq h, cmpZ_eq (by rw [h])]; rfl
    · rw [cmpZ_gt h, cmpZ_gt (Int.mul_lt_mul_of_pos_right h h1)]; rfl
theorem wrap_sg {o c : Int} (h1 : -1 ≤ o) (h2 : o ≤ 1) : IntKind.i64.wrap (o * sg c) = o * sg c := by
  rcases sg_cases c with ⟨_, h⟩ | ⟨_, h⟩ | ⟨_, h⟩ <;> rw [h] <;> rcases (show o = -1 ∨ o = 0 ∨ o = 1 by omega) with rfl | rfl | rfl <;> decide
end Go.Proofs.Ytpklphdhigkmmaa
