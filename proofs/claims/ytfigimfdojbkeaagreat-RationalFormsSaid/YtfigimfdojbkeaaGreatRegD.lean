/-
  Steps on fields; a pair of quotient and remainder.
-/
import Derived.Test.YtfigimfdojbkeaaGreatRegC
import Derived.Test.YtfigimfdojbkeaaGreatIntD
set_option linter.unusedSimpArgs false
set_option linter.unusedVariables false
namespace Go.Proofs.YtfigimfdojbkeaaGreat
open Go.RowKit

section
variable {o : Oper} {w : World} {ρ : Operand → Value} {x : Operand} {g : Nat} {b : Bool} {u : Value}
end
theorem Sz.ediv {a b : Int} {N : Nat} (h : Sz a N) (_ : b ≠ 0) : Sz (a / b) N := ⟨by
  have h1 : (a / b).natAbs ≤ a.natAbs := Int.natAbs_ediv_le_natAbs a b
  exact Nat.lt_of_le_of_lt h1 h.lt⟩
theorem Sz.emod {a b : Int} {N : Nat} (h : Sz b N) (hb : b ≠ 0) : Sz (a % b) N := ⟨by
  have h1 := Int.emod_nonneg a hb
  have h2 := Int.emod_lt a hb
  exact Nat.lt_of_le_of_lt (by omega) h.lt⟩
theorem Iv.len0 {w : World} {b : Bool} {A : Option Addr} {n c : Nat} {z : Int} (h : Iv w (.agg #[.bool b, .slice A n c]) z) : n = 0 ↔ z = 0 := by
  obtain ⟨A', n', c', e, h1, h2, h3⟩ := h.form
  have e1 := congrArg (fun t : Value => match t with | .agg a => a[1]? | _ => none) e
  simp at e1
  obtain ⟨rfl, rfl, rfl⟩ := e1
  exact h3.pos_iff
end Go.Proofs.YtfigimfdojbkeaaGreat

