/-
  What comes in: raw monomials, monomials, pairs and slices of them.
-/
import Derived.Test.YtchkaaeipafdnaaRows
import Derived.Test.YtchkaaeipafdnaaMonU
import Derived.WalkKit
import Derived.ProofKit
import Derived.OpenShut
import Derived.ShutString
import Derived.ChangeOld
import Derived.Below
import Derived.Lib.SmallJoins
import Derived.Laws.IdiomArrays
namespace Go.Proofs.Ytchkaaeipafdnaa
open Go.ChangeShapes Go.WideShapes Go.ChangeAt Go.RowKit Go.Joins

theorem own : ownKnob Try.prog.godebug = none := by kernel_rfl
theorem laidOut : laidOutB Try.prog = true := by kernel_rfl
theorem okWide_arr {P : Program} {W : World} {r : Reach} {base : Nat} {t e : TypeId} {n : Nat} {v : Value} (ht : P.underlying t = some (.array n e)) (h : Value.okWide P W r base t v) : ∃ cs, v = .agg cs ∧ cs.size = P.cellsOf t := by
  simp only [Value.okWide, ht] at h
  obtain ⟨cs, h1, h2, _⟩ := h
  exact ⟨cs, h1, h2⟩
/-- Eight numbers, as they are read. -/
theorem eight_read {H : Type} {enc : TypeId × Value → H} {P : Program} {W : World} {base fuel : Nat} {spare : Nat → Bool} {held : Bool} {t e : TypeId} {k : IntKind} {l : List Value} {d : DataW H × List MemPlace} (ht : P.underlying t = some (.array 8 e)) (he : P.cellsOf e = 1) (hu : P.underlying e = some (.int k)) (hc : P.cellsOf t = 8)
    (h : DataW.trod enc P W base spare held fuel t l = some d) : l.length = 8 ∧ ∃ x : Nat → Int, ∀ i, i < 8 → l[i]? = some (.int k (x i)) ∧ (Lit.int k (x i)).wf = true := by
  obtain ⟨xs, m, _, _, h1, h2, h3⟩ := DataW.trod_array ht h
  rw [hc] at h1
  have h4 : ∀ i, i < 8 → ∃ z, l[i]? = some (.int k z) ∧ (Lit.int k z).wf = true := by
    intro i hi
    have h5 := h3 i hi
    rw [he, Nat.mul_one, List.drop_eq_getElem_cons (by omega), List.take_succ_cons, List.take_zero] at h5
    have h6 : xs[i]? = some (xs[i]'(by omega)) := List.getElem?_eq_getElem (by omega)
    rw [h6] at h5
    obtain ⟨z, e0, _, wz⟩ := DataW.trod_int hu h5
    simp at e0
    exact ⟨z, by rw [List.getElem?_eq_getElem (by omega), e0], wz⟩
  refine ⟨h1, fun i => if hi : i < 8 then Classical.choose (h4 i hi) else 0, fun i hi => ?_⟩
  simp only [hi, dif_pos]
  exact Classical.choose_spec (h4 i hi)
theorem eight_list {k : IntKind} {l : List Value} {x : Nat → Int} (hl : l.length = 8) (h : ∀ i, i < 8 → l[i]? = some (.int k (x i))) : l = [.int k (x 0), .int k (x 1), .int k (x 2), .int k (x 3), .int k (x 4), .int k (x 5), .int k (x 6), .int k (x 7)] := by
  match l, hl with
  | [c0, c1, c2, c3, c4, c5, c6, c7], _ =>
    have h0 := h 0 (by omega); have h1 := h 1 (by omega); have h2 := h 2 (by omega); have h3 := h 3 (by omega); have h4 := h 4 (by omega); have h5 := h 5 (by omega); have h6 := h 6 (by omega); have h7 := h 7 (by omega)
    simp at h0 h1 h2 h3 h4 h5 h6 h7
    subst h0 h1 h2 h3 h4 h5 h6 h7
    rfl
theorem open_m8 {H : Type} {enc : TypeId × Value → H} {W : World} {base : Nat} {v : Value} {d : DataW H} {p : List MemPlace} (hv : Value.okWide Try.prog W .any base 24 v)
    (h : DataW.Trod enc Try.prog W 0 (fun _ => true) true 24 v d p) : ∃ x : Nat → Int, v = .agg (ucl x) ∧ Va x := by
  obtain ⟨cs, rfl, hs⟩ := okWide_arr underRaw hv
  obtain ⟨fuel, hf⟩ := h
  obtain ⟨hl, x, hx⟩ := eight_read underRaw (by kernel_rfl) Try.underlying22 (by kernel_rfl) hf
  refine ⟨x, ?_, fun k hk => by have := bounds_u16 (hx k hk).2; omega⟩
  have := eight_list hl (fun i hi => (hx i hi).1)
  simp [Value.cells] at this
  obtain ⟨l⟩ := cs
  simp at this
  subst this
  rfl
theorem open_mono {H : Type} {enc : TypeId × Value → H} {W : World} {base : Nat} {v : Value} {d : DataW H} {p : List MemPlace} (hv : Value.okWide Try.prog W .any base 27 v)
    (h : DataW.Trod enc Try.prog W 0 (fun _ => true) true 27 v d p) : ∃ x : Nat → Int, v = .agg (cls x) ∧ ∀ k, k < 8 → -9223372036854775808 ≤ x k ∧ x k ≤ 9223372036854775807 := by
  obtain ⟨cs, rfl, hs⟩ := okWide_arr underMono hv
  obtain ⟨fuel, hf⟩ := h
  obtain ⟨hl, x, hx⟩ := eight_read underMono (by kernel_rfl) Try.underlying3 (by kernel_rfl) hf
  refine ⟨x, ?_, fun k hk => bounds_i64 (hx k hk).2⟩
  have := eight_list hl (fun i hi => (hx i hi).1)
  simp [Value.cells] at this
  obtain ⟨l⟩ := cs
  simp at this
  subst this
  rfl
end Go.Proofs.Ytchkaaeipafdnaa
