/-
  Layer 3: steps on numbers of 64 bits.
-/
import Derived.Test.YtfigimfdojbkeaaModW
import Derived.Test.YtfigimfdojbkeaaRatG
import Derived.Deep.DeepCutAuto
import Derived.Handy
set_option linter.unusedSimpArgs false
set_option linter.unusedVariables false
namespace Go.Proofs.Ytfigimfdojbkeaa
open Go.RowKit
attribute [local go_sem ↓] Go.wp_at_zero Go.wp_at_succ

/-- A cell with a number of 64 bits. -/
def C64 (w : World) (b k v : Nat) : Prop := b < w.heap.size ∧ w.cell? ⟨b, k, none⟩ = some (.int .u64 (v : Nat))
theorem C64.lt {w : World} {b k v : Nat} (h : C64 w b k v) : b < w.heap.size := h.1
theorem cell_heap {w w' : World} {b k : Nat} (e : w'.heap[b]? = w.heap[b]?) : w'.cell? ⟨b, k, none⟩ = w.cell? ⟨b, k, none⟩ := by simp [World.cell?, e]
theorem C64.of {w w' : World} {b k v : Nat} (h : C64 w b k v) (hs : b < w'.heap.size) (e : w'.heap[b]? = w.heap[b]?) : C64 w' b k v := ⟨hs, (cell_heap e).trans h.2⟩
theorem C64.next {w w1 w' : World} {b k v : Nat} (h : C64 w b k v) (hb : Below w1.heap.size w1 w') (e : w1.heap = w.heap) : C64 w' b k v := by
  have h1 : b < w1.heap.size := by rw [e]; exact h.1
  exact h.of (Nat.lt_of_lt_of_le h1 hb.size) ((hb.block b h1).trans (by rw [e]))
theorem C64.bel {O : List Nat} {V w : World} {b k v : Nat} (h : C64 V b k v) (hb : Rg.Bel O V w) (hn : b ∉ O) : C64 w b k v := by
  have e := hb.block b h.1 hn
  refine h.of ?_ e
  rcases Nat.lt_or_ge b w.heap.size with h1 | h1
  · exact h1
  · rw [Array.getElem?_eq_none h1, Array.getElem?_eq_getElem h.1] at e; cases e
section
variable {o : Oper} {w : World} {ρ : Operand → Value} {x y i : Operand} {t u : TypeId}
theorem run_idx64 {b off n c k : Nat} (ho : o.op = .indexAddr 72 x i) (hx : ρ x = .slice (some ⟨b, off, none⟩) n c) (hi : ρ i = .int .i64 (k : Int)) (hk : k < n) : (execOp ρ o).run Try.prog w = .ok (.value (.pointer (some ⟨b, off + k, none⟩))) w := by
  have h1 : (k : Int) < n := by omega
  simp [execOp, ho, hx, hi, go_sem, h1]
theorem run_ld64 {b k v : Nat} (ho : o.op = .load 52 x) (hx : ρ x = .pointer (some ⟨b, k, none⟩)) (hc : C64 w b k v) : (execOp ρ o).run Try.prog w = .ok (.value (.int .u64 (v : Nat))) w := by
  have h := hc.2
  simp [execOp, ho, hx, go_sem, h]
theorem run_rem64 {a b r : Nat} (ho : o.op = .binOp .rem t x y u) (hx : ρ x = .int .u64 (a : Nat)) (hy : ρ y = .int .u64 (b : Nat)) (h0 : 0 < b) (ha : a < 18446744073709551616) (h : a % b = r) : (execOp ρ o).run Try.prog w = .ok (.value (.int .u64 (r : Nat))) w := by
  subst h
  have hz : ¬ b = 0 := by omega
  have e1 : (a : Int).tmod (b : Int) = (a : Int) % (b : Int) := Int.tmod_eq_emod_of_nonneg (by omega)
  simp [execOp, ho, hx, hy, go_sem, hz, e1]
end

end Go.Proofs.Ytfigimfdojbkeaa
