/-
  Layer 2's laws.
-/
import Derived.Test.YtfigimfdojbkeaaGreatRatZ
import Derived.Deep.DeepCutAuto
import Derived.Handy
set_option linter.unusedSimpArgs false
set_option linter.unusedVariables false
namespace Go.Proofs.YtfigimfdojbkeaaGreat
open Go.RowKit
attribute [local go_sem ↓] Go.wp_at_zero Go.wp_at_succ

/-- An array of raw numbers in a cell. -/
def T2 (w : World) (g : Nat) (n0 d0 k0 n1 d1 k1 : Int) : Prop := w.heap[g]? = some (.cells #[.int .i8 n0, .int .i8 d0, .int .u8 k0, .int .i8 n1, .int .i8 d1, .int .u8 k1] 25 (0, 0))
theorem T2.new (w : World) (n0 d0 k0 n1 d1 k1 : Int) : T2 (w.alloc (.cells #[.int .i8 n0, .int .i8 d0, .int .u8 k0, .int .i8 n1, .int .i8 d1, .int .u8 k1] 25)) w.heap.size n0 d0 k0 n1 d1 k1 := heap_alloc_new w _
section
variable {w : World} {g : Nat} {n0 d0 k0 n1 d1 k1 : Int}
theorem T2.lt (h : T2 w g n0 d0 k0 n1 d1 k1) : g < w.heap.size := by
  rcases Nat.lt_or_ge g w.heap.size with hlt | hge
  · exact hlt
  · unfold T2 at h; rw [Array.getElem?_eq_none hge] at h; cases h
theorem T2.cell0 (h : T2 w g n0 d0 k0 n1 d1 k1) : w.cell? ⟨g, 0, none⟩ = some (.int .i8 n0) := cell_of_row w g 0 _ _ (0, 0) h
theorem T2.cell1 (h : T2 w g n0 d0 k0 n1 d1 k1) : w.cell? ⟨g, 1, none⟩ = some (.int .i8 d0) := cell_of_row w g 1 _ _ (0, 0) h
theorem T2.cell2 (h : T2 w g n0 d0 k0 n1 d1 k1) : w.cell? ⟨g, 2, none⟩ = some (.int .u8 k0) := cell_of_row w g 2 _ _ (0, 0) h
theorem T2.cell3 (h : T2 w g n0 d0 k0 n1 d1 k1) : w.cell? ⟨g, 3, none⟩ = some (.int .i8 n1) := cell_of_row w g 3 _ _ (0, 0) h
theorem T2.next {w1 w' : World} (h : T2 w g n0 d0 k0 n1 d1 k1) (hb : Below w1.heap.size w1 w') (e : w1.heap = w.heap) : T2 w' g n0 d0 k0 n1 d1 k1 := by
  have h1 : T2 w1 g n0 d0 k0 n1 d1 k1 := by unfold T2; rw [e]; exact h
  exact (hb.block g h1.lt).trans h1
theorem T2.bel {O : List Nat} {V : World} (h : T2 V g n0 d0 k0 n1 d1 k1) (hb : Rg.Bel O V w) (hn : g ∉ O) : T2 w g n0 d0 k0 n1 d1 k1 := (hb.block g h.lt hn).trans h
end
section
variable {o : Oper} {w : World} {ρ : Operand → Value} {x i : Operand} {g : Nat} {n0 d0 k0 n1 d1 k1 : Int}
end

/-- An array of raw numbers in a cell. -/
def T3 (w : World) (g : Nat) (n0 d0 k0 n1 d1 k1 n2 d2 k2 : Int) : Prop := w.heap[g]? = some (.cells #[.int .i8 n0, .int .i8 d0, .int .u8 k0, .int .i8 n1, .int .i8 d1, .int .u8 k1, .int .i8 n2, .int .i8 d2, .int .u8 k2] 59 (0, 0))
theorem T3.new (w : World) (n0 d0 k0 n1 d1 k1 n2 d2 k2 : Int) : T3 (w.alloc (.cells #[.int .i8 n0, .int .i8 d0, .int .u8 k0, .int .i8 n1, .int .i8 d1, .int .u8 k1, .int .i8 n2, .int .i8 d2, .int .u8 k2] 59)) w.heap.size n0 d0 k0 n1 d1 k1 n2 d2 k2 := heap_alloc_new w _
section
variable {w : World} {g : Nat} {n0 d0 k0 n1 d1 k1 n2 d2 k2 : Int}
theorem T3.lt (h : T3 w g n0 d0 k0 n1 d1 k1 n2 d2 k2) : g < w.heap.size := by
  rcases Nat.lt_or_ge g w.heap.size with hlt | hge
  · exact hlt
  · unfold T3 at h; rw [Array.getElem?_eq_none hge] at h; cases h
theorem T3.cell0 (h : T3 w g n0 d0 k0 n1 d1 k1 n2 d2 k2) : w.cell? ⟨g, 0, none⟩ = some (.int .i8 n0) := cell_of_row w g 0 _ _ (0, 0) h
theorem T3.cell1 (h : T3 w g n0 d0 k0 n1 d1 k1 n2 d2 k2) : w.cell? ⟨g, 1, none⟩ = some (.int .i8 d0) := cell_of_row w g 1 _ _ (0, 0) h
theorem T3.cell2 (h : T3 w g n0 d0 k0 n1 d1 k1 n2 d2 k2) : w.cell? ⟨g, 2, none⟩ = some (.int .u8 k0) := cell_of_row w g 2 _ _ (0, 0) h
theorem T3.cell3 (h : T3 w g n0 d0 k0 n1 d1 k1 n2 d2 k2) : w.cell? ⟨g, 3, none⟩ = some (.int .i8 n1) := cell_of_row w g 3 _ _ (0, 0) h
theorem T3.next {w1 w' : World} (h : T3 w g n0 d0 k0 n1 d1 k1 n2 d2 k2) (hb : Below w1.heap.size w1 w') (e : w1.heap = w.heap) : T3 w' g n0 d0 k0 n1 d1 k1 n2 d2 k2 := by
  have h1 : T3 w1 g n0 d0 k0 n1 d1 k1 n2 d2 k2 := by unfold T3; rw [e]; exact h
  exact (hb.block g h1.lt).trans h1
theorem T3.bel {O : List Nat} {V : World} (h : T3 V g n0 d0 k0 n1 d1 k1 n2 d2 k2) (hb : Rg.Bel O V w) (hn : g ∉ O) : T3 w g n0 d0 k0 n1 d1 k1 n2 d2 k2 := (hb.block g h.lt hn).trans h
end
section
variable {o : Oper} {w : World} {ρ : Operand → Value} {x i : Operand} {g : Nat} {n0 d0 k0 n1 d1 k1 n2 d2 k2 : Int}
end

theorem Sr.whole {z : Int} (h : -9223372036854775808 ≤ z ∧ z ≤ 9223372036854775807) : Sr (z : Rat) 2 := ⟨by rw [Rat.num_intCast]; exact I64.sz h, by rw [Rat.den_intCast]; exact Sz.small (by omega) (by omega)⟩

end Go.Proofs.YtfigimfdojbkeaaGreat
