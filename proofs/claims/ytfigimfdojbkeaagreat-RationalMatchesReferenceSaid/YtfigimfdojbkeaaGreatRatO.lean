/-
 What comes in: arrays of raw numbers.
-/
import Derived.Test.YtfigimfdojbkeaaGreatRows
import Derived.Test.YtfigimfdojbkeaaGreatRatU
import Derived.WalkKit
import Derived.ProofKit
import Derived.OpenShut
import Derived.ShutString
import Derived.ChangeOld
import Derived.Below
import Derived.Lib.SmallJoins
import Derived.Deep.Strs
set_option linter.unusedSimpArgs false
set_option linter.unusedVariables false
namespace Go.Proofs.YtfigimfdojbkeaaGreat
open Go.ChangeShapes Go.WideShapes Go.ChangeAt Go.RowKit Go.Joins

theorem ownQ : ownKnob Tryz.prog.godebug = none := by kernel_rfl
theorem laidQ : laidOutB Tryz.prog = true := by kernel_rfl
theorem cellsRw : Tryz.prog.cellsOf 24 = 3 := by kernel_rfl
theorem okWide_arrQ {P : Program} {W : World} {r : Reach} {base : Nat} {t e : TypeId} {n : Nat} {v : Value} (ht : P.underlying t = some (.array n e)) (h : Value.okWide P W r base t v) : ∃ cs, v = .agg cs ∧ cs.size = P.cellsOf t := by
 simp only [Value.okWide, ht] at h
 obtain ⟨cs, h1, h2, _⟩ := h
 exact ⟨cs, h1, h2⟩
set_option maxRecDepth 100000 in
theorem raw_read {H : Type} {enc : TypeId × Value → H} {W : World} {base fuel : Nat} {spare : Nat → Bool} {held : Bool} {c0 c1 c2 : Value} {x : DataW H × List MemPlace}
  (h : DataW.trod enc Tryz.prog W base spare held fuel 24 [c0, c1, c2] = some x) : ∃ n d k : Int, c0 = .int .i8 n ∧ c1 = .int .i8 d ∧ c2 = .int .u8 k ∧ Rw n d k := by
 obtain ⟨y0, y1, y2, m, _, _, h0, h1, h2⟩ := Go.Deep.trod_struct3 Tryz.underlying24 h
 have c8 : Tryz.prog.cellsOf 22 = 1 := by kernel_rfl
 have cu : Tryz.prog.cellsOf 5 = 1 := by kernel_rfl
 simp only [c8, cu] at h0 h1 h2
 obtain ⟨n, e0, _, w0⟩ := DataW.trod_int Tryz.underlying22 h0
 obtain ⟨d, e1, _, w1⟩ := DataW.trod_int Tryz.underlying22 h1
 obtain ⟨k, e2, _, w2⟩ := DataW.trod_int Tryz.underlying5 h2
 simp at e0 e1 e2
 exact ⟨n, d, k, e0, e1, e2, bounds_i8 w0, bounds_i8 w1, bounds_u8 w2⟩
set_option maxRecDepth 100000 in
theorem open_raw2s {H : Type} {enc : TypeId × Value → H} {W : World} {base : Nat} {v : Value} {d : DataW H} {p : List MemPlace} (hv : Value.okWide Tryz.prog W .any base 25 v)
  (h : DataW.Trod enc Tryz.prog W 0 (fun _ => true) true 25 v d p) : ∃ n0 d0 k0 n1 d1 k1 : Int, v = .agg #[.int .i8 n0, .int .i8 d0, .int .u8 k0, .int .i8 n1, .int .i8 d1, .int .u8 k1] ∧ Rw n0 d0 k0 ∧ Rw n1 d1 k1 := by
 obtain ⟨cs, rfl, hs⟩ := okWide_arrQ Tryz.underlying25 hv
 rw [show Tryz.prog.cellsOf 25 = 6 by kernel_rfl] at hs
 obtain ⟨c0, c1, c2, c3, c4, c5, rfl⟩ : ∃ c0 c1 c2 c3 c4 c5, cs = #[c0, c1, c2, c3, c4, c5] := by
  obtain ⟨l⟩ := cs
  match l, hs with
  | [c0, c1, c2, c3, c4, c5], _ => exact ⟨c0, c1, c2, c3, c4, c5, rfl⟩
 obtain ⟨fuel, hf⟩ := h
 obtain ⟨xs, m, _, _, _, hx, hi⟩ := DataW.trod_array Tryz.underlying25 (by simpa [Value.cells] using hf)
 simp only [cellsRw] at hi
 have g0 := hi 0 (by omega)
 rw [show xs[0]? = some (xs[0]'(by omega)) from List.getElem?_eq_getElem (by omega)] at g0
 obtain ⟨n0, d0, k0, rfl, rfl, rfl, r0⟩ := raw_read (c0 := c0) (c1 := c1) (c2 := c2) g0
 have g1 := hi 1 (by omega)
 rw [show xs[1]? = some (xs[1]'(by omega)) from List.getElem?_eq_getElem (by omega)] at g1
 obtain ⟨n1, d1, k1, rfl, rfl, rfl, r1⟩ := raw_read (c0 := c3) (c1 := c4) (c2 := c5) g1
 exact ⟨n0, d0, k0, n1, d1, k1, rfl, r0, r1⟩
end Go.Proofs.YtfigimfdojbkeaaGreat
