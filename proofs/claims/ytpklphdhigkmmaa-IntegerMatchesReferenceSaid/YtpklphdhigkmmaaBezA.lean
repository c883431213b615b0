/-
  Cells for integers, known by their value.
-/
import Derived.Test.YtpklphdhigkmmaaRefA
namespace Go.Proofs.Ytpklphdhigkmmaa
open Go.RowKit

/-- Block g is the cell of the integer z. -/
def IB (w : World) (g : Nat) (z : Int) : Prop := ∃ A n c, Box w g (decide (z < 0)) (.slice A n c) ∧ n ≤ c ∧ c ≤ 9223372036854775807 ∧ Wd w A n (mag z.natAbs)
theorem IB.iv {w : World} {g : Nat} {z : Int} (h : IB w g z) : ∃ A n c, Box w g (decide (z < 0)) (.slice A n c) ∧ Iv w (.agg #[.bool (decide (z < 0)), .slice A n c]) z := by
  obtain ⟨A, n, c, hb, h1, h2, h3⟩ := h
  exact ⟨A, n, c, hb, Iv.made h1 h2 h3⟩
theorem IB.lt {w : World} {g : Nat} {z : Int} (h : IB w g z) : g < w.heap.size := by
  obtain ⟨A, n, c, hb, _⟩ := h
  exact hb.lt
theorem IB.next {w w1 w' : World} {g : Nat} {z : Int} (h : IB w g z) (hb : Below w1.heap.size w1 w') (e : w1.heap = w.heap) : IB w' g z := by
  obtain ⟨A, n, c, h0, h1, h2, h3⟩ := h
  exact ⟨A, n, c, h0.next hb e, h1, h2, h3.next hb e⟩
theorem IB.alloc {w : World} {g : Nat} {z : Int} (h : IB w g z) (o : Obj) : IB (w.alloc o) g z := by
  obtain ⟨A, n, c, h0, h1, h2, h3⟩ := h
  exact ⟨A, n, c, h0.alloc o, h1, h2, h3.alloc o⟩
theorem IB.other {w : World} {g g' : Nat} {z : Int} {b cb : Bool} {X : Option Addr} {p q : Nat} {u : Value} (h : IB w g z) (hb : Box w g' b (.slice X p q)) (hne : g ≠ g') : IB ((w.setCell ⟨g', 0, none⟩ (.bool cb)).setCell ⟨g', 1, none⟩ u) g z := by
  obtain ⟨A, n, c, h0, h1, h2, h3⟩ := h
  exact ⟨A, n, c, (h0.far hne _).far hne _, h1, h2, (h3.box hb (fun _ _ => by simp) (by omega)).box (Box.set0 hb _) (fun _ _ => by simp) (by omega)⟩
theorem IB.store {w : World} {g : Nat} {z : Int} {b s : Bool} {X : Option Addr} {p q : Nat} {A : Option Addr} {n c : Nat} (h : Iv w (.agg #[.bool s, .slice A n c]) z) (hb : Box w g b (.slice X p q)) : IB ((w.setCell ⟨g, 0, none⟩ (.bool s)).setCell ⟨g, 1, none⟩ (.slice A n c)) g z := by
  obtain ⟨A', n', c', e, h1, h2, h3⟩ := h.form
  simp only [Value.agg.injEq] at e
  have e0 := congrArg (fun t : Array Value => t[0]?) e
  have e1 := congrArg (fun t : Array Value => t[1]?) e
  simp at e0 e1
  obtain ⟨rfl, rfl, rfl⟩ := e1
  subst e0
  exact ⟨A, n, c, Box.set1 (Box.set0 hb _) _, h1, h2, (h3.box hb (fun _ _ => by simp) (by omega)).box (Box.set0 hb _) (fun _ _ => by simp) (by omega)⟩
theorem IB.new {w : World} {z : Int} {s : Bool} {A : Option Addr} {n c : Nat} (h : Iv w (.agg #[.bool s, .slice A n c]) z) : IB (w.alloc (.cells #[.bool s, .slice A n c] 27)) w.heap.size z := by
  obtain ⟨A', n', c', e, h1, h2, h3⟩ := h.form
  have e0 := congrArg (fun t : Value => match t with | .agg a => a[0]? | _ => none) e
  have e1 := congrArg (fun t : Value => match t with | .agg a => a[1]? | _ => none) e
  simp at e0 e1
  obtain ⟨rfl, rfl, rfl⟩ := e1
  subst e0
  exact ⟨A, n, c, Box.new w _ _, h1, h2, h3.alloc _⟩
theorem IB.box {w : World} {g : Nat} {z : Int} (h : IB w g z) : ∃ b A n c, Box w g b (.slice A n c) := by
  obtain ⟨A, n, c, h0, _⟩ := h
  exact ⟨_, A, n, c, h0⟩
end Go.Proofs.Ytpklphdhigkmmaa
