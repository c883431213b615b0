/-
  Layer 3: the cell of a row of Euclid's table.
-/
import Derived.Test.YtfigimfdojbkeaaModY
import Derived.Test.YtfigimfdojbkeaaModX
import Derived.Test.YtfigimfdojbkeaaRatG
import Derived.Deep.DeepCutAuto
import Derived.Handy
set_option linter.unusedSimpArgs false
set_option linter.unusedVariables false
namespace Go.Proofs.Ytfigimfdojbkeaa.Row
open Go.RowKit
attribute [local go_sem ↓] Go.wp_at_zero Go.wp_at_succ
open Go.RowKit

/-- Block g is the cell of one fraction. -/
def QBox (w : World) (g : Nat) (b : Bool) (s : Value) (c : Bool) (t : Value) : Prop := w.heap[g]? = some (.cells #[.bool b, s, .bool c, t] 130 (0, 0))
theorem QBox.new (w : World) (b : Bool) (s : Value) (c : Bool) (t : Value) : QBox (w.alloc (.cells #[.bool b, s, .bool c, t] 130)) w.heap.size b s c t := heap_alloc_new w _
theorem QBox.lt {w : World} {g : Nat} {b c : Bool} {s t : Value} (h : QBox w g b s c t) : g < w.heap.size := by
  rcases Nat.lt_or_ge g w.heap.size with hlt | hge
  · exact hlt
  · unfold QBox at h; rw [Array.getElem?_eq_none hge] at h; cases h
theorem QBox.cell0 {w : World} {g : Nat} {b c : Bool} {s t : Value} (h : QBox w g b s c t) : w.cell? ⟨g, 0, none⟩ = some (.bool b) := cell_of_row w g 0 _ _ (0, 0) h
theorem QBox.cell1 {w : World} {g : Nat} {b c : Bool} {s t : Value} (h : QBox w g b s c t) : w.cell? ⟨g, 1, none⟩ = some s := cell_of_row w g 1 _ _ (0, 0) h
theorem QBox.cell2 {w : World} {g : Nat} {b c : Bool} {s t : Value} (h : QBox w g b s c t) : w.cell? ⟨g, 2, none⟩ = some (.bool c) := cell_of_row w g 2 _ _ (0, 0) h
theorem QBox.cell3 {w : World} {g : Nat} {b c : Bool} {s t : Value} (h : QBox w g b s c t) : w.cell? ⟨g, 3, none⟩ = some t := cell_of_row w g 3 _ _ (0, 0) h
theorem QBox.frozen {w : World} {g : Nat} {b c : Bool} {s t : Value} (h : QBox w g b s c t) (i : Nat) : w.frozen? ⟨g, i, none⟩ = false := by
  unfold QBox at h; simp [World.frozen?, h]
theorem QBox.alloc {w : World} {g : Nat} {b c : Bool} {s t : Value} (h : QBox w g b s c t) (o : Obj) : QBox (w.alloc o) g b s c t := (Below.heap_alloc w o g h.lt).trans h
theorem QBox.below {w w' : World} {g B : Nat} {b c : Bool} {s t : Value} (h : QBox w g b s c t) (hb : Below B w w') (hg : g < B) : QBox w' g b s c t := (hb.block g hg).trans h
theorem QBox.next {w w1 w' : World} {g : Nat} {b c : Bool} {s t : Value} (h : QBox w g b s c t) (hb : Below w1.heap.size w1 w') (e : w1.heap = w.heap) : QBox w' g b s c t := by
  have h1 : QBox w1 g b s c t := by unfold QBox; rw [e]; exact h
  exact h1.below hb h1.lt
theorem QBox.bel {O : List Nat} {V w : World} {g : Nat} {b c : Bool} {s t : Value} (h : QBox V g b s c t) (hb : Rg.Bel O V w) (hn : g ∉ O) : QBox w g b s c t := (hb.block g h.lt hn).trans h
theorem QBox.far {w : World} {g : Nat} {b c : Bool} {s t : Value} (h : QBox w g b s c t) {p : Addr} (hp : g ≠ p.block) (u : Value) : QBox (w.setCell p u) g b s c t := (Below.heap_setCell w p u g hp).trans h
theorem QBox.set (w : World) {g : Nat} {b c b' c' : Bool} {s t s' t' : Value} (h : QBox w g b s c t) :
    QBox ((((w.setCell ⟨g, 0, none⟩ (.bool b')).setCell ⟨g, 1, none⟩ s').setCell ⟨g, 2, none⟩ (.bool c')).setCell ⟨g, 3, none⟩ t') g b' s' c' t' := by
  have h1 := row_set g 0 (.bool b') h
  have h2 := row_set g 1 s' h1
  have h3 := row_set g 2 (.bool c') h2
  exact row_set g 3 t' h3

/-- The cell holds a fraction. -/
def QC (w : World) (g : Nat) (n d : Int) : Prop := ∃ A i c A' i' c', QBox w g (decide (n < 0)) (.slice A i c) (decide (d < 0)) (.slice A' i' c') ∧
  Iv w (.agg #[.bool (decide (n < 0)), .slice A i c]) n ∧ Iv w (.agg #[.bool (decide (d < 0)), .slice A' i' c']) d
/-! ### What a region leaves -/
/-- A new cell of a fraction. -/
def pNewQ (v : Value) (w : World) : Prop := ∃ g, v = ptr g ∧ QBox w g false (.slice none 0 0) false (.slice none 0 0)
theorem pNewQ_keep : Rg.Keeps pNewQ := fun v w w' ⟨g, e, h⟩ hg _ => ⟨g, e, (hg g (by rw [e]; rfl)).trans h⟩
def pPutQ (n d : Int) (v : Value) (w : World) : Prop := ∃ g, v = ptr g ∧ QC w g n d
theorem pPutQ_keep (n d : Int) : Rg.Keeps (pPutQ n d) := fun v w w' ⟨g, e, A, i, c, A', i', c', h, h1, h2⟩ hg hk => ⟨g, e, A, i, c, A', i', c', (hg g (by rw [e]; rfl)).trans h, h1.kn hk, h2.kn hk⟩
/-- An old cell. -/
def sQ (g : Nat) (n d : Int) (w : World) : Prop := QC w g n d
theorem sQ_keep (g : Nat) (n d : Int) : Rg.KeepW g (sQ g n d) := fun w w' ⟨A, i, c, A', i', c', h, h1, h2⟩ hg hk => ⟨A, i, c, A', i', c', hg.trans h, h1.kn hk, h2.kn hk⟩
/-! ### Steps -/
section
variable {o : Oper} {a : Act} {w : World} {ρ : Operand → Value} {x y : Operand}
theorem run_qfield0 {g : Nat} (ho : o.op = .fieldAddr 130 x 0) (hx : ρ x = ptr g) : (execOp ρ o).run Try.prog w = .ok (.value (.pointer (some ⟨g, 0, none⟩))) w := by
  simp [execOp, ho, hx, go_sem, ptr]
theorem run_qfield1 {g : Nat} (ho : o.op = .fieldAddr 130 x 1) (hx : ρ x = ptr g) : (execOp ρ o).run Try.prog w = .ok (.value (.pointer (some ⟨g, 2, none⟩))) w := by
  simp [execOp, ho, hx, go_sem, ptr]
theorem run_qload0 {g : Nat} {b c : Bool} {s t : Value} (ho : o.op = .load 27 x) (hx : ρ x = .pointer (some ⟨g, 0, none⟩)) (hb : QBox w g b s c t) : (execOp ρ o).run Try.prog w = .ok (.value (.agg #[.bool b, s])) w := by
  have h0 := hb.cell0
  have h1 := hb.cell1
  simp [execOp, ho, hx, go_sem, h0, h1]
theorem run_qload1 {g : Nat} {b c : Bool} {s t : Value} (ho : o.op = .load 27 x) (hx : ρ x = .pointer (some ⟨g, 2, none⟩)) (hb : QBox w g b s c t) : (execOp ρ o).run Try.prog w = .ok (.value (.agg #[.bool c, t])) w := by
  have h0 := hb.cell2
  have h1 := hb.cell3
  simp [execOp, ho, hx, go_sem, h0, h1]
theorem run_qload {g : Nat} {b c : Bool} {s t : Value} (ho : o.op = .load 130 x) (hx : ρ x = ptr g) (hb : QBox w g b s c t) : (execOp ρ o).run Try.prog w = .ok (.value (.agg #[.bool b, s, .bool c, t])) w := by
  have h0 := hb.cell0
  have h1 := hb.cell1
  have h2 := hb.cell2
  have h3 := hb.cell3
  simp [execOp, ho, hx, go_sem, ptr, h0, h1, h2, h3]
theorem run_qbuild {b c : Bool} {A B : Option Addr} {i j k l : Nat} (ho : o.op = .build 130 #[(0, x), (1, y)]) (hx : ρ x = .agg #[.bool b, .slice A i j]) (hy : ρ y = .agg #[.bool c, .slice B k l]) : (execOp ρ o).run Try.prog w = .ok (.value (.agg #[.bool b, .slice A i j, .bool c, .slice B k l])) w := by
  simp [execOp, ho, hx, hy, go_sem]
theorem run_alloc_q (ho : o.op = .alloc 130) : (execOp ρ o).run Try.prog w = .ok (.value (ptr w.heap.size)) (w.alloc (Obj.cells #[.bool false, .slice none 0 0, .bool false, .slice none 0 0] 130)) := by
  simp [execOp, ho, go_sem, ptr]
theorem run_store_q {g : Nat} {b c b' c' : Bool} {s t : Value} {A B : Option Addr} {i j k l : Nat} (ho : o.op = .store 130 x y) (hx : ρ x = ptr g) (hy : ρ y = .agg #[.bool b', .slice A i j, .bool c', .slice B k l]) (hb : QBox w g b s c t) :
    (execOp ρ o).run Try.prog w = .ok .skip ((((w.setCell ⟨g, 0, none⟩ (.bool b')).setCell ⟨g, 1, none⟩ (.slice A i j)).setCell ⟨g, 2, none⟩ (.bool c')).setCell ⟨g, 3, none⟩ (.slice B k l)) := by
  have h0 := hb.cell0
  have h1 := hb.cell1
  have h2 := hb.cell2
  have h3 := hb.cell3
  have f0 := hb.frozen 0
  have f1 := hb.frozen 1
  have f2 := hb.frozen 2
  have f3 := hb.frozen 3
  simp [execOp, ho, hx, hy, go_sem, ptr, h0, h1, h2, h3, f0, f1, f2, f3]
end

theorem chg_qbox {w : World} {g : Nat} {b d b' d' : Bool} {A A' B B' : Option Addr} {n c m e n' c' m' e' : Nat} (hb : QBox w g b (.slice A n c) d (.slice B m e)) :
    Rg.Chg (some g) w ((((w.setCell ⟨g, 0, none⟩ (.bool b')).setCell ⟨g, 1, none⟩ (.slice A' n' c')).setCell ⟨g, 2, none⟩ (.bool d')).setCell ⟨g, 3, none⟩ (.slice B' m' e')) := by
  have r1 := row_set g 0 (.bool b') hb
  have r2 := row_set g 1 (.slice A' n' c') r1
  have r3 := row_set g 2 (.bool d') r2
  have h1 := chg_set (row := none) (chg_refl g w) 0 (.bool b') (by rw [QBox.cell0 hb]; intro k y e; cases e)
  have h2 := chg_set (row := none) h1 1 (.slice A' n' c') (by rw [cell_of_row _ g 1 _ _ (0, 0) r1]; intro k y e; cases e)
  have h3 := chg_set (row := none) h2 2 (.bool d') (by rw [cell_of_row _ g 2 _ _ (0, 0) r2]; intro k y e; cases e)
  exact chg_set (row := none) h3 3 (.slice B' m' e') (by rw [cell_of_row _ g 3 _ _ (0, 0) r3]; intro k y e; cases e)

section
variable {o : Oper} {a : Act} {w : World} {x y : Operand} {Q : Exit → Act → World → Prop} {u v : Value} {z d : Int}
theorem step_newq (ho : o.op = .alloc 130) :
    o.wp Try.prog a w (fun a' w' => ∃ v g, a' = a.put o.dst v ∧ Rg.blockOf v = some g ∧ w.heap.size ≤ g ∧ g < w'.heap.size ∧ pNewQ v w' ∧ Below w.heap.size w w') Q :=
  wp_valw (run_alloc_q ho) ⟨_, _, rfl, rfl, Nat.le_refl _, by simp, ⟨_, rfl, QBox.new _ _ _ _ _⟩, (Below.refl _ _).alloc (Nat.le_refl _) _⟩
theorem step_build (ho : o.op = .build 130 #[(0, x), (1, y)]) (hx : a.eval x = v) (hy : a.eval y = u) (hv : Iv w v z) (hu : Iv w u d) :
    o.wp Try.prog a w (fun a' w' => ∃ v, a' = a.put o.dst v ∧ pQv z d v w' ∧ Below w.heap.size w w') Q := by
  obtain ⟨A, n, c, e⟩ := hv.is
  subst e
  obtain ⟨A', n', c', e⟩ := hu.is
  subst e
  exact wp_val (run_qbuild ho hx hy) ⟨_, rfl, ⟨A, n, c, A', n', c', rfl, hv, hu⟩, Below.refl _ _⟩
theorem step_putq {g : Nat} (ho : o.op = .store 130 x y) (hd : o.dst = none) (hx : a.eval x = v) (hy : a.eval y = u) (hg : Rg.blockOf v = some g) (hp : pNewQ v w) (hu : Qv w u z d) :
    o.wp Try.prog a w (fun a' w' => a' = a ∧ pPutQ z d v w' ∧ Rg.Chg (some g) w w') Q := by
  obtain ⟨A, n, c, A', n', c', rfl, h1, h2⟩ := hu
  obtain ⟨g', rfl, hb⟩ := hp
  obtain rfl : g' = g := Option.some.inj hg
  have hc := chg_qbox (b' := decide (z < 0)) (d' := decide (d < 0)) (A' := A) (n' := n) (c' := c) (B' := A') (m' := n') (e' := c') hb
  exact wp_skipw (run_store_q ho hx hy hb) hd ⟨rfl, ⟨g', rfl, A, n, c, A', n', c', QBox.set w hb, h1.kn hc.kn, h2.kn hc.kn⟩, hc⟩
theorem step_stoq {g : Nat} {V : World} {b c : Bool} {A B : Option Addr} {i j k l : Nat} (ho : o.op = .store 130 x y) (hd : o.dst = none) (hx : a.eval x = ptr g) (hy : a.eval y = u) (hu : Qv w u z d) (hb : QBox V g b (.slice A i j) c (.slice B k l)) (he : w.heap[g]? = V.heap[g]?) :
    o.wp Try.prog a w (fun a' w' => a' = a ∧ sQ g z d w' ∧ Rg.Chg (some g) w w') Q := by
  obtain ⟨A, n, c, A', n', c', rfl, h1, h2⟩ := hu
  replace hb := he.trans hb
  have hc := chg_qbox (b' := decide (z < 0)) (d' := decide (d < 0)) (A' := A) (n' := n) (c' := c) (B' := A') (m' := n') (e' := c') hb
  exact wp_skipw (run_store_q ho hx hy hb) hd ⟨rfl, ⟨A, n, c, A', n', c', QBox.set w hb, h1.kn hc.kn, h2.kn hc.kn⟩, hc⟩
end
theorem nxq {w w1 w' : World} {g : Nat} {b c : Bool} {s t : Value} (h : Hid (QBox w g b s c t)) (hb : Below w1.heap.size w1 w') (e : w1.heap = w.heap) : Hid (QBox w' g b s c t) := h.out.next hb e
theorem qc_of {w : World} {g : Nat} {b b' : Bool} {A A' : Option Addr} {i c i' c' : Nat} {n d : Int} (h : QBox w g b (.slice A i c) b' (.slice A' i' c')) (k : Iv w (.agg #[.bool b, .slice A i c]) n) (k' : Iv w (.agg #[.bool b', .slice A' i' c']) d) : QC w g n d := by
  have e := k.signq
  have e' := k'.signq
  subst e e'
  exact ⟨A, i, c, A', i', c', h, k, k'⟩
end Go.Proofs.Ytfigimfdojbkeaa.Row
