/-
  An argument that is a fraction of any words, opened.
-/
import Derived.Test.YtfigimfdojbkeaaGreatRatOI
import Derived.Test.YtfigimfdojbkeaaGreatRatO
set_option linter.unusedSimpArgs false
set_option linter.unusedVariables false
namespace Go.Proofs.YtfigimfdojbkeaaGreat
open Go.ChangeShapes Go.WideShapes Go.ChangeAt Go.RowKit Go.Joins
set_option linter.unusedVariables false
theorem strBound {s : ByteArray} (h : s.size ≤ maxLen) : s.size ≤ 9223372036854775807 := by unfold maxLen at h; omega
set_option maxRecDepth 100000 in
theorem int_read {H : Type} {enc : TypeId × Value → H} {W : World} {fuel : Nat} {c0 c1 : Value} {x : DataW H × List MemPlace}
    (h : DataW.trod enc Tryz.prog W 0 (fun _ => true) true fuel 29 [c0, c1] = some x) : ∃ b A n c ws, c0 = .bool b ∧ c1 = .slice A n c ∧ Wd W A n ws ∧ n ≤ 9223372036854775807 ∧ n ≤ c ∧ c ≤ 9223372036854775807 := by
  obtain ⟨y0, y1, m, _, _, h0, h1⟩ := trod_struct2 Tryz.underlying29 h
  have cb : Tryz.prog.cellsOf 4 = 1 := by kernel_rfl
  have cs : Tryz.prog.cellsOf 27 = 1 := by kernel_rfl
  simp only [cb, cs] at h0 h1
  obtain ⟨b, e0, _⟩ := DataW.trod_bool Tryz.underlying4 h0
  obtain ⟨A, n, c, ws, e1, k1, k2, k3, k4⟩ := open_words h1
  simp at e0
  exact ⟨b, A, n, c, ws, e0, e1, k1, k2, k3, k4⟩
theorem okWide_strQ {P : Program} {W : World} {r : Reach} {base : Nat} {t : TypeId} {fs : Array Field} {v : Value} (ht : P.underlying t = some (.struct fs)) (h : Value.okWide P W r base t v) : ∃ cs, v = .agg cs ∧ cs.size = P.cellsOf t := okWide_struct ht h
set_option maxRecDepth 100000 in
theorem open_rat {H : Type} {enc : TypeId × Value → H} {W : World} {base : Nat} {v : Value} {d : DataW H} {p : List MemPlace} (hv : Value.okWide Tryz.prog W .any base 31 v)
    (h : DataW.Trod enc Tryz.prog W 0 (fun _ => true) true 31 v d p) :
    ∃ b0 A0 n0 c0 ws0 b1 A1 n1 c1 ws1, v = .agg #[.bool b0, .slice A0 n0 c0, .bool b1, .slice A1 n1 c1] ∧ (Wd W A0 n0 ws0 ∧ n0 ≤ 9223372036854775807 ∧ n0 ≤ c0 ∧ c0 ≤ 9223372036854775807) ∧ (Wd W A1 n1 ws1 ∧ n1 ≤ 9223372036854775807 ∧ n1 ≤ c1 ∧ c1 ≤ 9223372036854775807) := by
  obtain ⟨cs, rfl, hs⟩ := okWide_strQ Tryz.underlying31 hv
  rw [show Tryz.prog.cellsOf 31 = 4 by kernel_rfl] at hs
  obtain ⟨x0, x1, x2, x3, rfl⟩ : ∃ x0 x1 x2 x3, cs = #[x0, x1, x2, x3] := by
    obtain ⟨l⟩ := cs
    match l, hs with
    | [x0, x1, x2, x3], _ => exact ⟨x0, x1, x2, x3, rfl⟩
  obtain ⟨fuel, hf⟩ := h
  obtain ⟨y0, y1, m, _, _, h0, h1⟩ := trod_struct2 Tryz.underlying31 (by simpa [Value.cells] using hf)
  simp only [cellsInt] at h0 h1
  obtain ⟨b0, A0, n0, c0, ws0, rfl, rfl, w0⟩ := int_read (c0 := x0) (c1 := x1) h0
  obtain ⟨b1, A1, n1, c1, ws1, rfl, rfl, w1⟩ := int_read (c0 := x2) (c1 := x3) h1
  exact ⟨b0, A0, n0, c0, ws0, b1, A1, n1, c1, ws1, rfl, w0, w1⟩
end Go.Proofs.YtfigimfdojbkeaaGreat
