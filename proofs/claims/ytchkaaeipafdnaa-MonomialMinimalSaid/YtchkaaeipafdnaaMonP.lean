/-
  What comes in: two numbers; a slice of raw monomials.
-/
import Derived.Test.YtchkaaeipafdnaaMonO
import Derived.Deep.Slices
namespace Go.Proofs.Ytchkaaeipafdnaa
open Go.ChangeShapes Go.WideShapes Go.ChangeAt Go.RowKit Go.Joins

/-- A value of the type of two numbers, as it is read. -/
theorem two_read {H : Type} {enc : TypeId × Value → H} {P : Program} {W : World} {base fuel : Nat} {spare : Nat → Bool} {held : Bool} {t e : TypeId} {u v : Value} {d : DataW H × List MemPlace} (ht : P.underlying t = some (.array 2 e)) (he : P.cellsOf e = 1)
    (h : DataW.trod enc P W base spare held fuel t [u, v] = some d) : ∃ n y z, DataW.trod enc P W base spare held n e [u] = some y ∧ DataW.trod enc P W base spare held n e [v] = some z := by
  match fuel with
  | 0 => simp [DataW.trod] at h
  | n + 1 =>
    unfold DataW.trod at h
    rw [ht] at h
    have e2 : List.range 2 = [0, 1] := rfl
    simp [e2, he] at h
    obtain ⟨_, h⟩ := h
    rcases hy : DataW.trod enc P W base spare held n e [u] with _ | y
    · simp [hy] at h
    · rcases hz : DataW.trod enc P W base spare held n e [v] with _ | z
      · simp [hy, hz] at h
      · exact ⟨n, y, z, hy, hz⟩
set_option maxRecDepth 100000 in
theorem open_intx2 {H : Type} {enc : TypeId × Value → H} {W : World} {base : Nat} {v : Value} {d : DataW H} {p : List MemPlace} (hv : Value.okWide Try.prog W .any base 40 v)
    (h : DataW.Trod enc Try.prog W 0 (fun _ => true) true 40 v d p) :
    ∃ x y : Int, v = .agg #[.int .i64 x, .int .i64 y] ∧ (-9223372036854775808 ≤ x ∧ x ≤ 9223372036854775807) ∧ (-9223372036854775808 ≤ y ∧ y ≤ 9223372036854775807) := by
  obtain ⟨cs, rfl, hs⟩ := okWide_arr Try.underlying40 hv
  rw [show Try.prog.cellsOf 40 = 2 by kernel_rfl] at hs
  obtain ⟨c0, c1, rfl⟩ : ∃ c0 c1, cs = #[c0, c1] := by
    obtain ⟨l⟩ := cs
    match l, hs with
    | [c0, c1], _ => exact ⟨c0, c1, rfl⟩
  obtain ⟨fuel, hf⟩ := h
  obtain ⟨n, y0, y1, h0, h1⟩ := two_read Try.underlying40 (by kernel_rfl) (by simpa [Value.cells] using hf)
  obtain ⟨x, e0, _, wx⟩ := DataW.trod_int Try.underlying3 h0
  obtain ⟨y, e1, _, wy⟩ := DataW.trod_int Try.underlying3 h1
  simp at e0 e1
  subst e0 e1
  exact ⟨x, y, rfl, bounds_i64 wx, bounds_i64 wy⟩
theorem open_sl {H : Type} {enc : TypeId × Value → H} {W : World} {base : Nat} {v : Value} {d : DataW H} {p : List MemPlace} (hv : Value.okWide Try.prog W .any base 47 v)
    (h : DataW.Trod enc Try.prog W 0 (fun _ => true) true 47 v d p) :
    ∃ A n c X, v = .slice A n c ∧ Us W A n X ∧ n ≤ 9223372036854775807 := by
  obtain ⟨a0, n0, c0, rfl⟩ := okWide_slice Try.underlying47 hv
  obtain ⟨fuel, hf⟩ := h
  rcases Go.Deep.open_slice Try.underlying47 (by simpa [Value.cells] using hf) with ⟨hcs, _⟩ | ⟨a, len, cap, m, n, D, Pl, hcs, _, hl, hm, hmm, _, hi⟩
  · simp at hcs
    obtain ⟨rfl, rfl, rfl⟩ := hcs
    exact ⟨none, 0, 0, [], rfl, ⟨rfl, (fun m hm => by cases hm), (fun h => absurd h (by omega))⟩, by omega⟩
  · simp at hcs
    obtain ⟨rfl, rfl, rfl⟩ := hcs
    simp at hmm
    subst hmm
    have hc8 : Try.prog.cellsOf 24 = 8 := by kernel_rfl
    have h4 : ∀ i, i < n0 → ∃ x : Nat → Int, Va x ∧ ∀ j, j < 8 → W.cell? ((a.add (i * 8)).add j) = some (.int .u16 (x j)) := by
      intro i him
      obtain ⟨cs', hc, ht'⟩ := hi i (by omega)
      rw [hc8] at hc
      obtain ⟨hl8, x, hx⟩ := eight_read underRaw (by kernel_rfl) Try.underlying22 (by kernel_rfl) ht'
      obtain ⟨_, hcl, hat⟩ := World.cells?_some hc
      refine ⟨x, fun k hk => by have := bounds_u16 (hx k hk).2; omega, fun j hj => ?_⟩
      have h5 := hat j hj
      rw [(hx j hj).1] at h5
      exact h5
    refine ⟨some a, n0, _, (List.range n0).map fun i => if h : i < n0 then Classical.choose (h4 i h) else nul, rfl, ⟨by simp, ?_, ?_⟩, by unfold maxLen at hm; omega⟩
    · intro y hy
      obtain ⟨i, hi2, rfl⟩ := List.mem_map.1 hy
      have hin := List.mem_range.1 hi2
      simp only [hin, dif_pos]
      exact (Classical.choose_spec (h4 i hin)).1
    · intro hn0
      have h6 : ∀ i, i < n0 → mg ((List.range n0).map fun i => if h : i < n0 then Classical.choose (h4 i h) else nul) i = if h : i < n0 then Classical.choose (h4 i h) else nul := by
        intro i hi2
        apply mg_eq
        rw [List.getElem?_map, List.getElem?_range hi2]
        rfl
      obtain ⟨b, o, sp⟩ := a
      have h7 := (Classical.choose_spec (h4 0 hn0)).2 0 (by omega)
      have hsp : sp = none := by
        cases sp with
        | none => rfl
        | some x =>
          exfalso
          simp only [Nat.zero_mul, Addr.add, if_true, World.cell?] at h7
          split at h7 <;> simp at h7
      subst hsp
      refine ⟨b, o, rfl, ?_, fun k hk => ?_⟩
      · have h8 := World.block_lt_of_cell? W _ h7
        simpa [Addr.add_mid] using h8
      · rw [h6 k hk]
        simp only [hk, dif_pos]
        intro j v hv2
        have h9 := (Classical.choose_spec (h4 k hk)).2
        generalize Classical.choose (h4 k hk) = x at *
        have hj : j < 8 := by
          rcases Nat.lt_or_ge j 8 with h | h
          · exact h
          · rw [List.getElem?_eq_none (by simpa using h)] at hv2; cases hv2
        have h10 := h9 j hj
        rw [Addr.add_mid, Addr.add_mid] at h10
        rw [h10]
        have h11 := ucl_get x hj
        rw [← h11, ← hv2]
        simp
end Go.Proofs.Ytchkaaeipafdnaa
