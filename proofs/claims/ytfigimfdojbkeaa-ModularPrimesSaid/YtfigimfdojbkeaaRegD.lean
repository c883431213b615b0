/-
  Steps on fields; a pair of quotient and remainder.
-/
import Derived.Test.YtfigimfdojbkeaaRegC
import Derived.Test.YtfigimfdojbkeaaIntD
set_option linter.unusedSimpArgs false
set_option linter.unusedVariables false
namespace Go.Proofs.Ytfigimfdojbkeaa
open Go.RowKit

section
variable {o : Oper} {w : World} {ρ : Operand → Value} {x : Operand} {g : Nat} {b : Bool} {u : Value}
theorem run_field0 (ho : o.op = .fieldAddr 27 x 0) (hx : ρ x = ptr g) : (execOp ρ o).run Try.prog w = .ok (.value (.pointer (some ⟨g, 0, none⟩))) w := by
  simp [execOp, ho, hx, go_sem, ptr]
theorem run_field1 (ho : o.op = .fieldAddr 27 x 1) (hx : ρ x = ptr g) : (execOp ρ o).run Try.prog w = .ok (.value (.pointer (some ⟨g, 1, none⟩))) w := by
  simp [execOp, ho, hx, go_sem, ptr]
theorem run_load0 (ho : o.op = .load 4 x) (hx : ρ x = .pointer (some ⟨g, 0, none⟩)) (hb : Box w g b u) : (execOp ρ o).run Try.prog w = .ok (.value (.bool b)) w := by
  have h0 := hb.cell0
  simp [execOp, ho, hx, go_sem, h0]
theorem run_load1 (ho : o.op = .load 22 x) (hx : ρ x = .pointer (some ⟨g, 1, none⟩)) (hb : Box w g b u) : (execOp ρ o).run Try.prog w = .ok (.value u) w := by
  have h0 := hb.cell1
  simp [execOp, ho, hx, go_sem, h0]
end
theorem divMod_is (va vb : Value) (a b q r : Int) (w : World) (ha : Iv w va a) (hb : Iv w vb b) (sa : Sz a 1000000) (sb : Sz b 1000000) (hb0 : b ≠ 0) (hq : a / b = q) (hr : a % b = r) : Calls Try.prog 19 #[va, vb] w (RetDM q r w) := by
  subst hq hr
  exact divMod_any va vb a b w ha hb sa sb hb0
theorem div_back {c b r : Int} (hb : b ≠ 0) (h0 : 0 ≤ r) (h1 : r < b.natAbs) : (c * b + r) / b = c ∧ (c * b + r) % b = r := div_uniq hb rfl h0 h1
theorem emod_lt_abs (a : Int) {b : Int} (hb : b ≠ 0) : a % b < b.natAbs := Int.emod_lt a hb
theorem Sz.ediv {a b : Int} {N : Nat} (h : Sz a N) (_ : b ≠ 0) : Sz (a / b) N := ⟨by
  have h1 : (a / b).natAbs ≤ a.natAbs := Int.natAbs_ediv_le_natAbs a b
  exact Nat.lt_of_le_of_lt h1 h.lt⟩
theorem Sz.emod {a b : Int} {N : Nat} (h : Sz b N) (hb : b ≠ 0) : Sz (a % b) N := ⟨by
  have h1 := Int.emod_nonneg a hb
  have h2 := Int.emod_lt a hb
  exact Nat.lt_of_le_of_lt (by omega) h.lt⟩
theorem Sz.abs {a : Int} {N : Nat} (h : Sz a N) : Sz (a.natAbs : Int) N := ⟨by rw [Int.natAbs_natCast]; exact h.lt⟩
theorem Iv.abs {w : World} {b : Bool} {A : Option Addr} {n c : Nat} {z : Int} (h : Iv w (.agg #[.bool b, .slice A n c]) z) : Iv w (.agg #[.bool false, .slice A n c]) (z.natAbs : Int) := by
  obtain ⟨A', n', c', e, h1, h2, h3⟩ := h.form
  have e1 := congrArg (fun t : Value => match t with | .agg a => a[1]? | _ => none) e
  simp at e1
  obtain ⟨rfl, rfl, rfl⟩ := e1
  have hz : decide ((z.natAbs : Int) < 0) = false := by simp
  have := Iv.made (z := (z.natAbs : Int)) h1 h2 (by rw [Int.natAbs_natCast]; exact h3)
  rw [hz] at this
  exact this
theorem Iv.len0 {w : World} {b : Bool} {A : Option Addr} {n c : Nat} {z : Int} (h : Iv w (.agg #[.bool b, .slice A n c]) z) : n = 0 ↔ z = 0 := by
  obtain ⟨A', n', c', e, h1, h2, h3⟩ := h.form
  have e1 := congrArg (fun t : Value => match t with | .agg a => a[1]? | _ => none) e
  simp at e1
  obtain ⟨rfl, rfl, rfl⟩ := e1
  exact h3.pos_iff
end Go.Proofs.Ytfigimfdojbkeaa

