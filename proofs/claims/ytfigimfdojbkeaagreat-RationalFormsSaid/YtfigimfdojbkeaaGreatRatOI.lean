/-
  What comes in: integers by value.
-/
import Derived.Test.YtfigimfdojbkeaaGreatRatO
set_option linter.unusedSimpArgs false
set_option linter.unusedVariables false
namespace Go.Proofs.YtfigimfdojbkeaaGreat
open Go.ChangeShapes Go.WideShapes Go.ChangeAt Go.RowKit Go.Joins

theorem cellsInt : Tryz.prog.cellsOf 29 = 2 := by kernel_rfl
theorem cellsU32 : Tryz.prog.cellsOf 115 = 1 := by kernel_rfl
theorem open_words {H : Type} {enc : TypeId × Value → H} {W : World} {fuel : Nat} {c : Value} {x : DataW H × List MemPlace}
    (h : DataW.trod enc Tryz.prog W 0 (fun _ => true) true fuel 27 [c] = some x) :
    ∃ A n cp ws, c = .slice A n cp ∧ Wd W A n ws ∧ n ≤ 9223372036854775807 ∧ n ≤ cp ∧ cp ≤ 9223372036854775807 := by
  rcases open_ints Tryz.underlying27 Tryz.underlying115 cellsU32 h with ⟨hcs, _⟩ | ⟨a, len, cap, zs, hcs, _, hl, hm, hz, _, hcell, hwz⟩
  · simp at hcs
    exact ⟨none, 0, 0, [], hcs, Wd.nil _ _, by omega, by omega, by omega⟩
  · simp at hcs
    have hzl : zs.length = cap := by simpa using hz
    have hwb : ∀ z ∈ zs, 0 ≤ z ∧ z < 4294967296 := fun z hzm => by have := bounds_u32 (hwz z hzm); omega
    have hgd : ∀ k, k < len → ((gd ((zs.take len).map Int.toNat) k : Nat) : Int) = zs.getD k 0 := by
      intro k hk
      have h1 : k < zs.length := by omega
      have h2 := hwb zs[k] (List.getElem_mem h1)
      rw [gd_eq, List.getElem?_map, List.getElem?_take, if_pos hk, List.getElem?_eq_getElem h1, List.getD_eq_getElem?_getD, List.getElem?_eq_getElem h1]
      simp
      omega
    refine ⟨some a, len, cap, (zs.take len).map Int.toNat, hcs, ⟨by simp; omega, ?_, fun hn => ⟨a, rfl, ?_, fun k hk => ?_⟩⟩, by unfold maxLen at hm; omega, hl, by unfold maxLen at hm; omega⟩
    · intro y hy
      obtain ⟨z, hz1, rfl⟩ := List.mem_map.1 hy
      have := hwb z (List.mem_of_mem_take hz1)
      omega
    · have h1 := hcell 0 (by omega)
      have := World.block_lt_of_cell? W _ h1
      rwa [block_add] at this
    · rw [hgd k hk]
      exact hcell k (by omega)

end Go.Proofs.YtfigimfdojbkeaaGreat
