/-
  Cells of any kind; powers and roots with their sizes.
-/
import Derived.Test.YtpklphdhigkmmaaRegD
namespace Go.Proofs.Ytpklphdhigkmmaa
open Go.RowKit

/-- Block g is a row of cells. -/
def CBox (w : World) (g : Nat) (cs : Array Value) (t : TypeId) : Prop := w.heap[g]? = some (.cells cs t (0, 0))
theorem CBox.new (w : World) (cs : Array Value) (t : TypeId) : CBox (w.alloc (.cells cs t)) w.heap.size cs t := heap_alloc_new w _
theorem CBox.lt {w : World} {g : Nat} {cs : Array Value} {t : TypeId} (h : CBox w g cs t) : g < w.heap.size := by
  rcases Nat.lt_or_ge g w.heap.size with hlt | hge
  · exact hlt
  · unfold CBox at h; rw [Array.getElem?_eq_none hge] at h; cases h
theorem CBox.cell {w : World} {g : Nat} {cs : Array Value} {t : TypeId} (h : CBox w g cs t) (i : Nat) : w.cell? ⟨g, i, none⟩ = cs[i]? := cell_of_row w g i _ _ (0, 0) h
theorem CBox.next {w w1 w' : World} {g : Nat} {cs : Array Value} {t : TypeId} (h : CBox w g cs t) (hb : Below w1.heap.size w1 w') (e : w1.heap = w.heap) : CBox w' g cs t := by
  have h1 : CBox w1 g cs t := by unfold CBox; rw [e]; exact h
  exact (hb.block g h1.lt).trans h1
theorem CBox.alloc {w : World} {g : Nat} {cs : Array Value} {t : TypeId} (h : CBox w g cs t) (o : Obj) : CBox (w.alloc o) g cs t := (Below.heap_alloc w o g h.lt).trans h

theorem Sz.pow {a : Int} {N : Nat} (h : Sz a N) : ∀ n : Nat, Sz (a ^ n) (N * n + 1)
  | 0 => ⟨by simp; unfold pw; omega⟩
  | n + 1 => by
    have h1 := (Sz.pow h n).mul h
    rw [Int.pow_succ]
    exact h1.mono (by rw [Nat.mul_succ]; omega)
theorem small_mod {x : Int} (h : 0 ≤ x ∧ x ≤ 255) : ∃ m : Nat, x.tmod 20 = (m : Int) ∧ m < 20 := by
  refine ⟨(x % 20).toNat, ?_, by omega⟩
  rw [Int.tmod_eq_emod_of_nonneg h.1]
  omega
theorem pow_is (va : Value) (a : Int) (n : Nat) (w : World) (ha : Iv w va a) (sa : Sz a 2000) (hn : n ≤ 4096) : Calls Try.prog 33 #[va, .int .i64 (n : Int)] w (RetOK (a ^ n) w) := pow_any va a n _ w ha sa rfl hn
theorem mul_pow_int (a b : Int) : ∀ n : Nat, (a * b) ^ n = a ^ n * b ^ n
  | 0 => by simp
  | n + 1 => by
    rw [Int.pow_succ, Int.pow_succ, Int.pow_succ, mul_pow_int a b n]
    grind
theorem Iv.sign {w : World} {b : Bool} {A : Option Addr} {n c : Nat} {z : Int} (h : Iv w (.agg #[.bool b, .slice A n c]) z) : b = decide (z < 0) := by
  obtain ⟨A', n', c', e, _⟩ := h.form
  have e1 := congrArg (fun t : Value => match t with | .agg a => a[0]? | _ => none) e
  simp at e1
  exact e1
theorem cmp_le {a b : Int} (h : a ≤ b) : ∃ o, Hid (cmpZ a b = o) ∧ o ≤ 0 := by
  refine ⟨_, rfl, ?_⟩
  unfold cmpZ
  split
  · omega
  · rw [if_neg (by omega)]
    omega
theorem pow_cast_le {r k a : Nat} (h : r ^ k ≤ a) : (r : Int) ^ k ≤ (a : Int) := by rw [← Int.natCast_pow]; omega
theorem pow_cast_gt {r k a : Nat} (h : a < (r + 1) ^ k) : (a : Int) < ((r : Int) + (1 : Int)) ^ k := by
  have e : ((r : Int) + (1 : Int)) ^ k = (((r + 1) ^ k : Nat) : Int) := by rw [Int.natCast_pow]; simp
  rw [e]
  omega
theorem root_self_le {r k a : Nat} (hk : 1 ≤ k) (h : r ^ k ≤ a) : r ≤ a := Nat.le_trans (Nat.le_self_pow (by omega) r) h
end Go.Proofs.Ytpklphdhigkmmaa
