/-
  IntegerMatchesReference: for all numbers and all exponents the law returns true. No condition.
  Before it: What comes in: a raw integer by value, and how it reads. What comes in: the size of a string; two numbers.
-/
import Derived.Test.YtpklphdhigkmmaaRows
import Derived.Test.YtpklphdhigkmmaaMem
import Derived.WalkKit
import Derived.ProofKit
import Derived.OpenShut
import Derived.ShutString
import Derived.ChangeOld
import Derived.Below
import Derived.Lib.SmallJoins
import Derived.Laws.IdiomArrays
import Derived.Test.YtpklphdhigkmmaaLawY
section
namespace Go.Proofs.Ytpklphdhigkmmaa
open Go.ChangeShapes Go.WideShapes Go.ChangeAt Go.RowKit Go.Joins

theorem cellsRaw : Try.prog.cellsOf 24 = 2 := by kernel_rfl
theorem cellsInt : Try.prog.cellsOf 27 = 2 := by kernel_rfl
theorem cellsU32 : Try.prog.cellsOf 50 = 1 := by kernel_rfl
theorem own : ownKnob Try.prog.godebug = none := by kernel_rfl
theorem laidOut : laidOutB Try.prog = true := by kernel_rfl

theorem open_words {H : Type} {enc : TypeId × Value → H} {W : World} {fuel : Nat} {c : Value} {x : DataW H × List MemPlace}
    (h : DataW.trod enc Try.prog W 0 (fun _ => true) true fuel 22 [c] = some x) :
    ∃ A n cp ws, c = .slice A n cp ∧ Wd W A n ws ∧ n ≤ 9223372036854775807 ∧ n ≤ cp ∧ cp ≤ 9223372036854775807 := by
  rcases open_ints Try.underlying22 Try.underlying50 cellsU32 h with ⟨hcs, _⟩ | ⟨a, len, cap, zs, hcs, _, hl, hm, hz, _, hcell, hwz⟩
  · simp at hcs
    exact ⟨none, 0, 0, [], hcs, Wd.nil _ _, by omega, by omega, by omega⟩
  · simp at hcs
    have hzl : zs.length = cap := by simpa using hz
    have hwb : ∀ z ∈ zs, 0 ≤ z ∧ z < 4294967296 := fun z hzm => by have := bounds_u32 (hwz z hzm); omega
    have hgd : ∀ k, k < len → ((gd ((zs.take len).map Int.toNat) k : Nat) : Int) = zs.getD k 0 := by
      intro k hk
      have h1 : k < zs.length := by omega
      have h2 := hwb zs[k] (List.getElem_mem h1)
      rw [gd_eq, List.getElem?_map, List.getElem?_take, if_pos hk, List.getElem?_eq_getElem h1, List.getD_eq_getElem?_getD, List.getElem?_eq_getElem h1]
      simp
      omega
    refine ⟨some a, len, cap, (zs.take len).map Int.toNat, hcs, ⟨by simp; omega, ?_, fun hn => ⟨a, rfl, ?_, fun k hk => ?_⟩⟩, by unfold maxLen at hm; omega, hl, by unfold maxLen at hm; omega⟩
    · intro y hy
      obtain ⟨z, hz1, rfl⟩ := List.mem_map.1 hy
      have := hwb z (List.mem_of_mem_take hz1)
      omega
    · have h1 := hcell 0 (by omega)
      have := World.block_lt_of_cell? W _ h1
      rwa [block_add] at this
    · rw [hgd k hk]
      exact hcell k (by omega)

set_option maxRecDepth 100000 in
theorem open_raw {H : Type} {enc : TypeId × Value → H} {W : World} {base : Nat} {v : Value} {d : DataW H} {p : List MemPlace} (hv : Value.okWide Try.prog W .any base 24 v)
    (h : DataW.Trod enc Try.prog W 0 (fun _ => true) true 24 v d p) :
    ∃ b A n c ws, v = .agg #[.bool b, .slice A n c] ∧ Wd W A n ws ∧ n ≤ 9223372036854775807 ∧ n ≤ c ∧ c ≤ 9223372036854775807 := by
  obtain ⟨c0, c1, y0, y1, m, rfl, rfl, rfl, hy0, hy1⟩ := open_agg2 Try.underlying24 (by kernel_rfl) cellsRaw hv h
  obtain ⟨b, e0, _⟩ := DataW.trod_bool Try.underlying4 hy0
  obtain ⟨A, n, c, ws, rfl, h1, h2, h3, h4⟩ := open_words hy1
  simp at e0
  subst e0
  exact ⟨b, A, n, c, ws, rfl, h1, h2, h3, h4⟩
set_option maxRecDepth 100000 in
theorem open_api {H : Type} {enc : TypeId × Value → H} {W : World} {base : Nat} {v : Value} {d : DataW H} {p : List MemPlace} (hv : Value.okWide Try.prog W .any base 27 v)
    (h : DataW.Trod enc Try.prog W 0 (fun _ => true) true 27 v d p) :
    ∃ b A n c ws, v = .agg #[.bool b, .slice A n c] ∧ Wd W A n ws ∧ n ≤ 9223372036854775807 ∧ n ≤ c ∧ c ≤ 9223372036854775807 := by
  obtain ⟨c0, c1, y0, y1, m, rfl, rfl, rfl, hy0, hy1⟩ := open_agg2 Try.underlying27 (by kernel_rfl) cellsInt hv h
  obtain ⟨b, e0, _⟩ := DataW.trod_bool Try.underlying4 hy0
  obtain ⟨A, n, c, ws, rfl, h1, h2, h3, h4⟩ := open_words hy1
  simp at e0
  subst e0
  exact ⟨b, A, n, c, ws, rfl, h1, h2, h3, h4⟩
end Go.Proofs.Ytpklphdhigkmmaa
end

section
namespace Go.Proofs.Ytpklphdhigkmmaa
open Go.ChangeShapes Go.WideShapes Go.ChangeAt Go.RowKit Go.Joins

theorem strBound {s : ByteArray} (h : s.size ≤ maxLen) : s.size ≤ 9223372036854775807 := by unfold maxLen at h; omega

/-- A value of the type of two numbers, as it is read. -/
theorem two_read {H : Type} {enc : TypeId × Value → H} {P : Program} {W : World} {base fuel : Nat} {spare : Nat → Bool} {held : Bool} {t e : TypeId} {u v : Value} {d : DataW H × List MemPlace} (ht : P.underlying t = some (.array 2 e)) (he : P.cellsOf e = 1)
    (h : DataW.trod enc P W base spare held fuel t [u, v] = some d) : ∃ n y z, DataW.trod enc P W base spare held n e [u] = some y ∧ DataW.trod enc P W base spare held n e [v] = some z := by
  match fuel with
  | 0 => simp [DataW.trod] at h
  | n + 1 =>
    unfold DataW.trod at h
    rw [ht] at h
    have e2 : List.range 2 = [0, 1] := rfl
    simp [e2, he] at h
    obtain ⟨_, h⟩ := h
    rcases hy : DataW.trod enc P W base spare held n e [u] with _ | y
    · simp [hy] at h
    · rcases hz : DataW.trod enc P W base spare held n e [v] with _ | z
      · simp [hy, hz] at h
      · exact ⟨n, y, z, hy, hz⟩
theorem okWide_arr {P : Program} {W : World} {r : Reach} {base : Nat} {t e : TypeId} {n : Nat} {v : Value} (ht : P.underlying t = some (.array n e)) (h : Value.okWide P W r base t v) : ∃ cs, v = .agg cs ∧ cs.size = P.cellsOf t := by
  simp only [Value.okWide, ht] at h
  obtain ⟨cs, h1, h2, _⟩ := h
  exact ⟨cs, h1, h2⟩
set_option maxRecDepth 100000 in
theorem open_intx2 {H : Type} {enc : TypeId × Value → H} {W : World} {base : Nat} {v : Value} {d : DataW H} {p : List MemPlace} (hv : Value.okWide Try.prog W .any base 25 v)
    (h : DataW.Trod enc Try.prog W 0 (fun _ => true) true 25 v d p) :
    ∃ x y : Int, v = .agg #[.int .i64 x, .int .i64 y] ∧ (-9223372036854775808 ≤ x ∧ x ≤ 9223372036854775807) ∧ (-9223372036854775808 ≤ y ∧ y ≤ 9223372036854775807) := by
  obtain ⟨cs, rfl, hs⟩ := okWide_arr Try.underlying25 hv
  rw [show Try.prog.cellsOf 25 = 2 by kernel_rfl] at hs
  obtain ⟨c0, c1, rfl⟩ : ∃ c0 c1, cs = #[c0, c1] := by
    obtain ⟨l⟩ := cs
    match l, hs with
    | [c0, c1], _ => exact ⟨c0, c1, rfl⟩
  obtain ⟨fuel, hf⟩ := h
  obtain ⟨n, y0, y1, h0, h1⟩ := two_read Try.underlying25 (by kernel_rfl) (by simpa [Value.cells] using hf)
  obtain ⟨x, e0, _, wx⟩ := DataW.trod_int Try.underlying3 h0
  obtain ⟨y, e1, _, wy⟩ := DataW.trod_int Try.underlying3 h1
  simp at e0 e1
  subst e0 e1
  exact ⟨x, y, rfl, bounds_i64 wx, bounds_i64 wy⟩
end Go.Proofs.Ytpklphdhigkmmaa
end

section
namespace Go.Proofs.Ytpklphdhigkmmaa.integerMatchesReference
open Go.ChangeShapes Go.WideShapes Go.ChangeAt Go.RowKit Go.Joins
open Go.ChangeMaps (open_string shut_string)
set_option linter.unusedVariables false

set_option maxRecDepth 100000 in
theorem lifted (os : Os) (started : os.Started) (H : Type) (enc : TypeId × Value → H) :
    ReturnsInHanded {} Try.checked os 3 .any (Rows.integerMatchesReferenceSpec.pre6 enc Try.prog Try.f3 Rows.integerMatchesReferenceRow.domain false) (Rows.integerMatchesReferenceSpec.post enc Try.prog Try.f3 false true false false) := by
  refine returnsInHanded_of_change (C := Try.checked) own started (by kernel_rfl) Try.func3
    (ChangeSpec.witness6 (enc := enc) (C := Try.checked) false ⟨#[], #[.agg #[.bool false, .slice none 0 0], .agg #[.bool false, .slice none 0 0], .agg #[.int .i64 0, .int .i64 0]], []⟩ 8 (by kernel_rfl) (by kernel_rfl) (by kernel_rfl) (by kernel_rfl)) ?_
  intro W base args ds gs before hval0 hW hcnd _
  have hval : ∀ (j : Nat) t v, Try.f3.params[j]? = some t → args[j]? = some v → Value.okWide Try.prog W .any base t v := hval0
  have hW' := hW
  obtain ⟨p, q, hA0, hV, rfl, hfz, hnd⟩ := hW
  have hA : DataW.TrodAll enc Try.prog W 0 (fun _ => true) true Try.f3.params.toList args.toList ds p := hA0
  rw [Try.params3] at hA hval
  obtain ⟨v0, vs0, d0, ds0, p0, q0, hargs, rfl, rfl, h0, r0⟩ := trodAll_cons hA
  obtain ⟨v1, vs1, d1, ds1, p1, q1, rfl, rfl, rfl, h1, r1⟩ := trodAll_cons r0
  obtain ⟨v2, vs2, d2, ds2, p2, q2, rfl, rfl, rfl, h2, r2⟩ := trodAll_cons r1
  obtain ⟨rfl, rfl, rfl⟩ := trodAll_nil r2
  obtain rfl : args = #[v0, v1, v2] := by cases args; simp_all
  obtain ⟨rfl, rfl⟩ := trodVars_none hV
  have k0 := h0
  have lt0 : ∀ x ∈ p0, x.block < W.heap.size := by obtain ⟨m, hm⟩ := k0; exact DataW.trod_lt m _ _ _ hm
  obtain ⟨b0, A0, n0, c0, ws0, rfl, w0, m0, nc0, cm0⟩ := open_raw (hval 0 24 v0 rfl rfl) h0
  have k1 := h1
  have lt1 : ∀ x ∈ p1, x.block < W.heap.size := by obtain ⟨m, hm⟩ := k1; exact DataW.trod_lt m _ _ _ hm
  obtain ⟨b1, A1, n1, c1, ws1, rfl, w1, m1, nc1, cm1⟩ := open_raw (hval 1 24 v1 rfl rfl) h1
  have k2 := h2
  have lt2 : ∀ x ∈ p2, x.block < W.heap.size := by obtain ⟨m, hm⟩ := k2; exact DataW.trod_lt m _ _ _ hm
  obtain ⟨x2, y2, rfl, w2⟩ := open_intx2 (hval 2 25 v2 rfl rfl) h2
  clear hA0 hval0
  refine (lawMatches_any b0 A0 n0 c0 ws0 b1 A1 n1 c1 ws1 x2 y2 W w0 m0 w1 m1 w2).mono fun e W' ⟨he, bel⟩ => ?_
  subst he
  exact ⟨_, rfl, _, _, _, [], _, [], hW', trodAll_mk1 (shut_bool Try.underlying4 _), (trodAll_cons_mk (Below.trod laidOut (by kernel_rfl) (of_decide_eq_true (by kernel_rfl)) k0 bel lt0) (trodAll_cons_mk (Below.trod laidOut (by kernel_rfl) (of_decide_eq_true (by kernel_rfl)) k1 bel lt1) (trodAll_cons_mk (Below.trod laidOut (by kernel_rfl) (of_decide_eq_true (by kernel_rfl)) k2 bel lt2) trodAll_mk0))), rfl, bel.frame _, fun h => by cases h⟩

theorem over : Rows.integerMatchesReferenceRow.holds Try.pinned (OpenSpec.ofChange Rows.integerMatchesReferenceSpec) :=
  OpenClaim.holds_of_wide 3 Try.f3 rfl rfl rfl rfl rfl rfl rfl ⟨rfl, rfl, rfl, rfl, rfl⟩ rfl rfl rfl rfl rfl (by kernel_rfl) Try.func3 (by kernel_rfl)
    (of_decide_eq_true (by kernel_rfl)) (by unfold Func.isWrapper; first | (rw [if_pos (by decide +kernel)]; kernel_rfl) | (rw [if_neg (by decide +kernel)]; exact ⟨rfl, rfl⟩))
    (fun os started H enc _ => lifted os started H enc)

theorem holds : Rows.IntegerMatchesReferenceSaid := over
#print axioms holds
end Go.Proofs.Ytpklphdhigkmmaa.integerMatchesReference
end
