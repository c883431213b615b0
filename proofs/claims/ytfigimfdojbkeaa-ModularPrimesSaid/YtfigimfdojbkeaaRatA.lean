/-
  Fractions in memory: a block of a numerator and a denominator; what a region leaves that makes them.
-/
import Derived.Test.YtfigimfdojbkeaaRegG
import Derived.Test.YtfigimfdojbkeaaRegD
import Derived.Test.YtfigimfdojbkeaaRatM
set_option linter.unusedSimpArgs false
set_option linter.unusedVariables false
namespace Go.Proofs.Ytfigimfdojbkeaa
open Go.RowKit

/-- Block g is the cell of one fraction. -/
def QBox (w : World) (g : Nat) (b : Bool) (s : Value) (c : Bool) (t : Value) : Prop := w.heap[g]? = some (.cells #[.bool b, s, .bool c, t] 60 (0, 0))
theorem QBox.new (w : World) (b : Bool) (s : Value) (c : Bool) (t : Value) : QBox (w.alloc (.cells #[.bool b, s, .bool c, t] 60)) w.heap.size b s c t := heap_alloc_new w _
theorem QBox.lt {w : World} {g : Nat} {b c : Bool} {s t : Value} (h : QBox w g b s c t) : g < w.heap.size := by
  rcases Nat.lt_or_ge g w.heap.size with hlt | hge
  · exact hlt
  · unfold QBox at h; rw [Array.getElem?_eq_none hge] at h; cases h
theorem QBox.cell0 {w : World} {g : Nat} {b c : Bool} {s t : Value} (h : QBox w g b s c t) : w.cell? ⟨g, 0, none⟩ = some (.bool b) := cell_of_row w g 0 _ _ (0, 0) h
theorem QBox.cell1 {w : World} {g : Nat} {b c : Bool} {s t : Value} (h : QBox w g b s c t) : w.cell? ⟨g, 1, none⟩ = some s := cell_of_row w g 1 _ _ (0, 0) h
theorem QBox.cell2 {w : World} {g : Nat} {b c : Bool} {s t : Value} (h : QBox w g b s c t) : w.cell? ⟨g, 2, none⟩ = some (.bool c) := cell_of_row w g 2 _ _ (0, 0) h
theorem QBox.cell3 {w : World} {g : Nat} {b c : Bool} {s t : Value} (h : QBox w g b s c t) : w.cell? ⟨g, 3, none⟩ = some t := cell_of_row w g 3 _ _ (0, 0) h
theorem QBox.frozen {w : World} {g : Nat} {b c : Bool} {s t : Value} (h : QBox w g b s c t) (i : Nat) : w.frozen? ⟨g, i, none⟩ = false := by
  unfold QBox at h; simp [World.frozen?, h]
theorem QBox.alloc {w : World} {g : Nat} {b c : Bool} {s t : Value} (h : QBox w g b s c t) (o : Obj) : QBox (w.alloc o) g b s c t := (Below.heap_alloc w o g h.lt).trans h
theorem QBox.below {w w' : World} {g B : Nat} {b c : Bool} {s t : Value} (h : QBox w g b s c t) (hb : Below B w w') (hg : g < B) : QBox w' g b s c t := (hb.block g hg).trans h
theorem QBox.next {w w1 w' : World} {g : Nat} {b c : Bool} {s t : Value} (h : QBox w g b s c t) (hb : Below w1.heap.size w1 w') (e : w1.heap = w.heap) : QBox w' g b s c t := by
  have h1 : QBox w1 g b s c t := by unfold QBox; rw [e]; exact h
  exact h1.below hb h1.lt
theorem QBox.bel {O : List Nat} {V w : World} {g : Nat} {b c : Bool} {s t : Value} (h : QBox V g b s c t) (hb : Rg.Bel O V w) (hn : g ∉ O) : QBox w g b s c t := (hb.block g h.lt hn).trans h
theorem Box.bel {O : List Nat} {V w : World} {g : Nat} {b : Bool} {s : Value} (h : Box V g b s) (hb : Rg.Bel O V w) (hn : g ∉ O) : Box w g b s := (hb.block g h.lt hn).trans h
theorem kw_of {w w' : World} (h : Rg.Kn w w') : Kw w w' := ⟨h.size, h.cell⟩
theorem kn_of {w w' : World} (h : Kw w w') : Rg.Kn w w' := ⟨h.size, h.cell⟩
theorem Iv.kn {w w' : World} {v : Value} {z : Int} (h : Iv w v z) (hk : Rg.Kn w w') : Iv w' v z := h.kw (kw_of hk)
theorem QBox.far {w : World} {g : Nat} {b c : Bool} {s t : Value} (h : QBox w g b s c t) {p : Addr} (hp : g ≠ p.block) (u : Value) : QBox (w.setCell p u) g b s c t := (Below.heap_setCell w p u g hp).trans h
theorem row_set {w : World} {T : TypeId} {vs : Array Value} (g i : Nat) (u : Value) (h : w.heap[g]? = some (.cells vs T (0, 0))) : (w.setCell ⟨g, i, none⟩ u).heap[g]? = some (.cells (vs.setIfInBounds i u) T (0, 0)) := by
  simp [World.setCell, Array.getElem?_modify, h]
theorem QBox.set (w : World) {g : Nat} {b c b' c' : Bool} {s t s' t' : Value} (h : QBox w g b s c t) :
    QBox ((((w.setCell ⟨g, 0, none⟩ (.bool b')).setCell ⟨g, 1, none⟩ s').setCell ⟨g, 2, none⟩ (.bool c')).setCell ⟨g, 3, none⟩ t') g b' s' c' t' := by
  have h1 := row_set g 0 (.bool b') h
  have h2 := row_set g 1 s' h1
  have h3 := row_set g 2 (.bool c') h2
  exact row_set g 3 t' h3

/-- The value is a fraction: numerator and denominator. -/
def Qv (w : World) (v : Value) (n d : Int) : Prop := ∃ A i c A' i' c', v = .agg #[.bool (decide (n < 0)), .slice A i c, .bool (decide (d < 0)), .slice A' i' c'] ∧
  Iv w (.agg #[.bool (decide (n < 0)), .slice A i c]) n ∧ Iv w (.agg #[.bool (decide (d < 0)), .slice A' i' c']) d
theorem Qv.kn {w w' : World} {v : Value} {n d : Int} (h : Qv w v n d) (hk : Rg.Kn w w') : Qv w' v n d := by
  obtain ⟨A, i, c, A', i', c', e, h1, h2⟩ := h
  exact ⟨A, i, c, A', i', c', e, h1.kn hk, h2.kn hk⟩
theorem Qv.next {w w1 w' : World} {v : Value} {n d : Int} (h : Qv w v n d) (hb : Below w1.heap.size w1 w') (e : w1.heap = w.heap) : Qv w' v n d := by
  obtain ⟨A, i, c, A', i', c', e1, h1, h2⟩ := h
  exact ⟨A, i, c, A', i', c', e1, iv_next h1 hb e, iv_next h2 hb e⟩
theorem Qv.alloc {w : World} {v : Value} {n d : Int} (h : Qv w v n d) (o : Obj) : Qv (w.alloc o) v n d := h.next (Below.refl _ _ |>.alloc (Nat.le_refl _) o) rfl
/-- The cell holds a fraction. -/
def QC (w : World) (g : Nat) (n d : Int) : Prop := ∃ A i c A' i' c', QBox w g (decide (n < 0)) (.slice A i c) (decide (d < 0)) (.slice A' i' c') ∧
  Iv w (.agg #[.bool (decide (n < 0)), .slice A i c]) n ∧ Iv w (.agg #[.bool (decide (d < 0)), .slice A' i' c']) d
/-- The cell holds an integer. -/
def IC (w : World) (g : Nat) (z : Int) : Prop := ∃ A i c, Box w g (decide (z < 0)) (.slice A i c) ∧ Iv w (.agg #[.bool (decide (z < 0)), .slice A i c]) z
def RetQ (n d : Int) (w : World) (e : Ending) (w' : World) : Prop := ∃ v, e = .returned v ∧ Qv w' v n d ∧ Below w.heap.size w w'

/-! ### What a region leaves -/
def pIv (z : Int) (v : Value) (w : World) : Prop := Iv w v z
theorem pIv_keep (z : Int) : Rg.KeepN (pIv z) := fun _ _ _ h hk => Iv.kn h hk
def pQv (n d : Int) (v : Value) (w : World) : Prop := Qv w v n d
theorem pQv_keep (n d : Int) : Rg.KeepN (pQv n d) := fun _ _ _ h hk => Qv.kn h hk
/-- A tuple of two integers. -/
def pI2 (z y : Int) (v : Value) (w : World) : Prop := ∃ a b, v = .tuple #[a, b] ∧ Iv w a z ∧ Iv w b y
theorem pI2_keep (z y : Int) : Rg.KeepN (pI2 z y) := fun _ _ _ ⟨a, b, e, h1, h2⟩ hk => ⟨a, b, e, h1.kn hk, h2.kn hk⟩
/-- A tuple of a fraction and an error. -/
def pQE (n d : Int) (c : Int) (v : Value) (w : World) : Prop := ∃ a, v = .tuple #[a, .int .i64 c] ∧ Qv w a n d
theorem pQE_keep (n d c : Int) : Rg.KeepN (pQE n d c) := fun _ _ _ ⟨a, e, h1⟩ hk => ⟨a, e, h1.kn hk⟩
/-- A new cell of an integer. -/
def pNew (v : Value) (w : World) : Prop := ∃ g, v = ptr g ∧ Box w g false (.slice none 0 0)
theorem pNew_keep : Rg.Keeps pNew := fun v w w' ⟨g, e, h⟩ hg _ => ⟨g, e, (hg g (by rw [e]; rfl)).trans h⟩
/-- The cell holds the integer. -/
def pPut (z : Int) (v : Value) (w : World) : Prop := ∃ g, v = ptr g ∧ IC w g z
theorem pPut_keep (z : Int) : Rg.Keeps (pPut z) := fun v w w' ⟨g, e, A, i, c, h, hi⟩ hg hk => ⟨g, e, A, i, c, (hg g (by rw [e]; rfl)).trans h, hi.kn hk⟩
/-- A new cell of a fraction. -/
def pNewQ (v : Value) (w : World) : Prop := ∃ g, v = ptr g ∧ QBox w g false (.slice none 0 0) false (.slice none 0 0)
theorem pNewQ_keep : Rg.Keeps pNewQ := fun v w w' ⟨g, e, h⟩ hg _ => ⟨g, e, (hg g (by rw [e]; rfl)).trans h⟩
def pPutQ (n d : Int) (v : Value) (w : World) : Prop := ∃ g, v = ptr g ∧ QC w g n d
theorem pPutQ_keep (n d : Int) : Rg.Keeps (pPutQ n d) := fun v w w' ⟨g, e, A, i, c, A', i', c', h, h1, h2⟩ hg hk => ⟨g, e, A, i, c, A', i', c', (hg g (by rw [e]; rfl)).trans h, h1.kn hk, h2.kn hk⟩
/-- A list of one integer. -/
def pL1 (z : Int) (v : Value) (w : World) : Prop := ∃ g A i c, v = .slice (some ⟨g, 0, none⟩) 1 1 ∧ Box w g (decide (z < 0)) (.slice A i c) ∧ Iv w (.agg #[.bool (decide (z < 0)), .slice A i c]) z
theorem pL1_keep (z : Int) : Rg.Keeps (pL1 z) := fun v w w' ⟨g, A, i, c, e, h, hi⟩ hg hk => ⟨g, A, i, c, e, (hg g (by rw [e]; rfl)).trans h, hi.kn hk⟩
/-- Block g holds two integers in a row. -/
def TBox (w : World) (g : Nat) (b : Bool) (s : Value) (c : Bool) (t : Value) : Prop := w.heap[g]? = some (.cells #[.bool b, s, .bool c, t] 27 (0, 0))
theorem TBox.lt {w : World} {g : Nat} {b c : Bool} {s t : Value} (h : TBox w g b s c t) : g < w.heap.size := by
  rcases Nat.lt_or_ge g w.heap.size with hlt | hge
  · exact hlt
  · unfold TBox at h; rw [Array.getElem?_eq_none hge] at h; cases h
theorem TBox.cell0 {w : World} {g : Nat} {b c : Bool} {s t : Value} (h : TBox w g b s c t) : w.cell? ⟨g, 0, none⟩ = some (.bool b) := cell_of_row w g 0 _ _ (0, 0) h
theorem TBox.cell1 {w : World} {g : Nat} {b c : Bool} {s t : Value} (h : TBox w g b s c t) : w.cell? ⟨g, 1, none⟩ = some s := cell_of_row w g 1 _ _ (0, 0) h
theorem TBox.cell2 {w : World} {g : Nat} {b c : Bool} {s t : Value} (h : TBox w g b s c t) : w.cell? ⟨g, 2, none⟩ = some (.bool c) := cell_of_row w g 2 _ _ (0, 0) h
theorem TBox.cell3 {w : World} {g : Nat} {b c : Bool} {s t : Value} (h : TBox w g b s c t) : w.cell? ⟨g, 3, none⟩ = some t := cell_of_row w g 3 _ _ (0, 0) h
theorem TBox.next {w w1 w' : World} {g : Nat} {b c : Bool} {s t : Value} (h : TBox w g b s c t) (hb : Below w1.heap.size w1 w') (e : w1.heap = w.heap) : TBox w' g b s c t := by
  have h1 : TBox w1 g b s c t := by unfold TBox; rw [e]; exact h
  exact (hb.block g h1.lt).trans h1
theorem TBox.far {w : World} {g : Nat} {b c : Bool} {s t : Value} (h : TBox w g b s c t) {p : Addr} (hp : g ≠ p.block) (u : Value) : TBox (w.setCell p u) g b s c t := (Below.heap_setCell w p u g hp).trans h
def pL2 (z y : Int) (v : Value) (w : World) : Prop := ∃ g A i c A' i' c', v = .slice (some ⟨g, 0, none⟩) 2 2 ∧ TBox w g (decide (z < 0)) (.slice A i c) (decide (y < 0)) (.slice A' i' c') ∧
  Iv w (.agg #[.bool (decide (z < 0)), .slice A i c]) z ∧ Iv w (.agg #[.bool (decide (y < 0)), .slice A' i' c']) y
theorem pL2_keep (z y : Int) : Rg.Keeps (pL2 z y) := fun v w w' ⟨g, A, i, c, A', i', c', e, h, h1, h2⟩ hg hk => ⟨g, A, i, c, A', i', c', e, (hg g (by rw [e]; rfl)).trans h, h1.kn hk, h2.kn hk⟩
/-- An old cell. -/
def sQ (g : Nat) (n d : Int) (w : World) : Prop := QC w g n d
theorem sQ_keep (g : Nat) (n d : Int) : Rg.KeepW g (sQ g n d) := fun w w' ⟨A, i, c, A', i', c', h, h1, h2⟩ hg hk => ⟨A, i, c, A', i', c', hg.trans h, h1.kn hk, h2.kn hk⟩
def sI (g : Nat) (z : Int) (w : World) : Prop := IC w g z
theorem sI_keep (g : Nat) (z : Int) : Rg.KeepW g (sI g z) := fun w w' ⟨A, i, c, h, h1⟩ hg hk => ⟨A, i, c, hg.trans h, h1.kn hk⟩

/-! ### Steps -/
section
variable {o : Oper} {a : Act} {w : World} {ρ : Operand → Value} {x y : Operand}
theorem run_qfield0 {g : Nat} (ho : o.op = .fieldAddr 60 x 0) (hx : ρ x = ptr g) : (execOp ρ o).run Try.prog w = .ok (.value (.pointer (some ⟨g, 0, none⟩))) w := by
  simp [execOp, ho, hx, go_sem, ptr]
theorem run_qfield1 {g : Nat} (ho : o.op = .fieldAddr 60 x 1) (hx : ρ x = ptr g) : (execOp ρ o).run Try.prog w = .ok (.value (.pointer (some ⟨g, 2, none⟩))) w := by
  simp [execOp, ho, hx, go_sem, ptr]
theorem run_qfield00 {g : Nat} (ho : o.op = .fieldAddr 27 x 0) (hx : ρ x = .pointer (some ⟨g, 0, none⟩)) : (execOp ρ o).run Try.prog w = .ok (.value (.pointer (some ⟨g, 0, none⟩))) w := by
  simp [execOp, ho, hx, go_sem]
theorem run_qbool {g : Nat} {b c : Bool} {s t : Value} (ho : o.op = .load 4 x) (hx : ρ x = .pointer (some ⟨g, 0, none⟩)) (hb : QBox w g b s c t) : (execOp ρ o).run Try.prog w = .ok (.value (.bool b)) w := by
  have h0 := hb.cell0
  simp [execOp, ho, hx, go_sem, h0]
theorem run_qload0 {g : Nat} {b c : Bool} {s t : Value} (ho : o.op = .load 27 x) (hx : ρ x = .pointer (some ⟨g, 0, none⟩)) (hb : QBox w g b s c t) : (execOp ρ o).run Try.prog w = .ok (.value (.agg #[.bool b, s])) w := by
  have h0 := hb.cell0
  have h1 := hb.cell1
  simp [execOp, ho, hx, go_sem, h0, h1]
theorem run_qload1 {g : Nat} {b c : Bool} {s t : Value} (ho : o.op = .load 27 x) (hx : ρ x = .pointer (some ⟨g, 2, none⟩)) (hb : QBox w g b s c t) : (execOp ρ o).run Try.prog w = .ok (.value (.agg #[.bool c, t])) w := by
  have h0 := hb.cell2
  have h1 := hb.cell3
  simp [execOp, ho, hx, go_sem, h0, h1]
theorem run_qload {g : Nat} {b c : Bool} {s t : Value} (ho : o.op = .load 60 x) (hx : ρ x = ptr g) (hb : QBox w g b s c t) : (execOp ρ o).run Try.prog w = .ok (.value (.agg #[.bool b, s, .bool c, t])) w := by
  have h0 := hb.cell0
  have h1 := hb.cell1
  have h2 := hb.cell2
  have h3 := hb.cell3
  simp [execOp, ho, hx, go_sem, ptr, h0, h1, h2, h3]
theorem run_pload {g : Nat} {b : Bool} {s : Value} (ho : o.op = .load 27 x) (hx : ρ x = ptr g) (hb : Box w g b s) : (execOp ρ o).run Try.prog w = .ok (.value (.agg #[.bool b, s])) w := run_load ho hx hb
theorem run_qbuild {b c : Bool} {A B : Option Addr} {i j k l : Nat} (ho : o.op = .build 60 #[(0, x), (1, y)]) (hx : ρ x = .agg #[.bool b, .slice A i j]) (hy : ρ y = .agg #[.bool c, .slice B k l]) : (execOp ρ o).run Try.prog w = .ok (.value (.agg #[.bool b, .slice A i j, .bool c, .slice B k l])) w := by
  simp [execOp, ho, hx, hy, go_sem]
theorem run_list1 {b : Bool} {A : Option Addr} {n c : Nat} (ho : o.op = .buildSlice 213 1 #[(0, x)]) (hx : ρ x = .agg #[.bool b, .slice A n c]) :
    (execOp ρ o).run Try.prog w = .ok (.value (.slice (some ⟨w.heap.size, 0, none⟩) 1 1)) (w.alloc (.cells #[.bool b, .slice A n c] 27)) := by
  simp [execOp, ho, hx, go_sem]
theorem run_list2 {b d : Bool} {A B : Option Addr} {n c m e : Nat} (ho : o.op = .buildSlice 213 2 #[(0, x), (1, y)]) (hx : ρ x = .agg #[.bool b, .slice A n c]) (hy : ρ y = .agg #[.bool d, .slice B m e]) :
    (execOp ρ o).run Try.prog w = .ok (.value (.slice (some ⟨w.heap.size, 0, none⟩) 2 2)) (w.alloc (.cells #[.bool b, .slice A n c, .bool d, .slice B m e] 27)) := by
  simp [execOp, ho, hx, hy, go_sem]
theorem run_alloc_q (ho : o.op = .alloc 60) : (execOp ρ o).run Try.prog w = .ok (.value (ptr w.heap.size)) (w.alloc (Obj.cells #[.bool false, .slice none 0 0, .bool false, .slice none 0 0] 60)) := by
  simp [execOp, ho, go_sem, ptr]
theorem run_store_q {g : Nat} {b c b' c' : Bool} {s t : Value} {A B : Option Addr} {i j k l : Nat} (ho : o.op = .store 60 x y) (hx : ρ x = ptr g) (hy : ρ y = .agg #[.bool b', .slice A i j, .bool c', .slice B k l]) (hb : QBox w g b s c t) :
    (execOp ρ o).run Try.prog w = .ok .skip ((((w.setCell ⟨g, 0, none⟩ (.bool b')).setCell ⟨g, 1, none⟩ (.slice A i j)).setCell ⟨g, 2, none⟩ (.bool c')).setCell ⟨g, 3, none⟩ (.slice B k l)) := by
  have h0 := hb.cell0
  have h1 := hb.cell1
  have h2 := hb.cell2
  have h3 := hb.cell3
  have f0 := hb.frozen 0
  have f1 := hb.frozen 1
  have f2 := hb.frozen 2
  have f3 := hb.frozen 3
  simp [execOp, ho, hx, hy, go_sem, ptr, h0, h1, h2, h3, f0, f1, f2, f3]
end

theorem chg_set {w : World} {g : Nat} {row : Option Nat} {w' : World} (h : Rg.Chg (some g) w w') (i : Nat) (u : Value) (hc : ∀ k y, w'.cell? ⟨g, i, none⟩ ≠ some (.int k y)) : Rg.Chg (some g) w (w'.setCell ⟨g, i, none⟩ u) := by
  refine ⟨⟨h.grown.os, h.grown.tape, h.grown.output, by have := h.grown.size; simpa [World.setCell] using this, fun k hk hn => ?_⟩, ⟨by have := h.kn.size; simpa [World.setCell] using this, fun a k y e => ?_⟩⟩
  · exact (Below.heap_setCell w' _ u k (fun e => hn (by rw [e]))).trans (h.grown.block k hk hn)
  · have h1 := h.kn.cell a k y e
    rw [World.cell?_setCell_other w' ⟨g, i, none⟩ a u ?_]
    · exact h1
    · intro e2
      rw [← e2] at h1
      exact hc k y h1
theorem chg_refl (g : Nat) (w : World) : Rg.Chg (some g) w w := ⟨⟨rfl, rfl, rfl, Nat.le_refl _, fun _ _ _ => rfl⟩, Rg.Kn.refl w⟩
theorem chg_box {w : World} {g : Nat} {b s : Bool} {A' A : Option Addr} {n' c' n c : Nat} (hb : Box w g b (.slice A' n' c')) : Rg.Chg (some g) w ((w.setCell ⟨g, 0, none⟩ (.bool s)).setCell ⟨g, 1, none⟩ (.slice A n c)) := by
  have h1 := chg_set (row := none) (chg_refl g w) 0 (.bool s) (by rw [hb.cell0]; intro k y e; cases e)
  refine chg_set (row := none) h1 1 _ (by rw [(Box.set0 hb s).cell1]; intro k y e; cases e)
theorem chg_qbox {w : World} {g : Nat} {b d b' d' : Bool} {A A' B B' : Option Addr} {n c m e n' c' m' e' : Nat} (hb : QBox w g b (.slice A n c) d (.slice B m e)) :
    Rg.Chg (some g) w ((((w.setCell ⟨g, 0, none⟩ (.bool b')).setCell ⟨g, 1, none⟩ (.slice A' n' c')).setCell ⟨g, 2, none⟩ (.bool d')).setCell ⟨g, 3, none⟩ (.slice B' m' e')) := by
  have r1 := row_set g 0 (.bool b') hb
  have r2 := row_set g 1 (.slice A' n' c') r1
  have r3 := row_set g 2 (.bool d') r2
  have h1 := chg_set (row := none) (chg_refl g w) 0 (.bool b') (by rw [QBox.cell0 hb]; intro k y e; cases e)
  have h2 := chg_set (row := none) h1 1 (.slice A' n' c') (by rw [cell_of_row _ g 1 _ _ (0, 0) r1]; intro k y e; cases e)
  have h3 := chg_set (row := none) h2 2 (.bool d') (by rw [cell_of_row _ g 2 _ _ (0, 0) r2]; intro k y e; cases e)
  exact chg_set (row := none) h3 3 (.slice B' m' e') (by rw [cell_of_row _ g 3 _ _ (0, 0) r3]; intro k y e; cases e)

theorem Iv.signq {w : World} {b : Bool} {A : Option Addr} {n c : Nat} {z : Int} (h : Iv w (.agg #[.bool b, .slice A n c]) z) : b = decide (z < 0) := by
  obtain ⟨A', n', c', e, _⟩ := h.form
  have e1 := congrArg (fun t : Value => match t with | .agg a => a[0]? | _ => none) e
  simpa using e1
theorem qv_of {w : World} {b b' : Bool} {A A' : Option Addr} {n c n' c' : Nat} {z d : Int} (h : Iv w (.agg #[.bool b, .slice A n c]) z) (k : Iv w (.agg #[.bool b', .slice A' n' c']) d) : Qv w (.agg #[.bool b, .slice A n c, .bool b', .slice A' n' c']) z d := by
  have e1 := h.signq
  have e2 := k.signq
  subst e1 e2
  exact ⟨A, n, c, A', n', c', rfl, h, k⟩
theorem Iv.is {w : World} {v : Value} {z : Int} (h : Iv w v z) : ∃ A n c, v = .agg #[.bool (decide (z < 0)), .slice A n c] := by
  obtain ⟨A, n, c, e, _⟩ := h.form
  exact ⟨A, n, c, e⟩
section
variable {o : Oper} {a : Act} {w : World} {x y : Operand} {Q : Exit → Act → World → Prop} {u v : Value} {z d : Int}
theorem step_list1 (ho : o.op = .buildSlice 213 1 #[(0, x)]) (hx : a.eval x = v) (hv : Iv w v z) :
    o.wp Try.prog a w (fun a' w' => ∃ v g, a' = a.put o.dst v ∧ Rg.blockOf v = some g ∧ w.heap.size ≤ g ∧ g < w'.heap.size ∧ pL1 z v w' ∧ Below w.heap.size w w') Q := by
  obtain ⟨A, n, c, e⟩ := hv.is
  subst e
  exact wp_valw (run_list1 ho hx) ⟨_, _, rfl, rfl, Nat.le_refl _, by simp, ⟨_, A, n, c, rfl, Box.new _ _ _, hv.alloc _⟩, (Below.refl _ _).alloc (Nat.le_refl _) _⟩
theorem step_list2 (ho : o.op = .buildSlice 213 2 #[(0, x), (1, y)]) (hx : a.eval x = v) (hy : a.eval y = u) (hv : Iv w v z) (hu : Iv w u d) :
    o.wp Try.prog a w (fun a' w' => ∃ v g, a' = a.put o.dst v ∧ Rg.blockOf v = some g ∧ w.heap.size ≤ g ∧ g < w'.heap.size ∧ pL2 z d v w' ∧ Below w.heap.size w w') Q := by
  obtain ⟨A, n, c, e⟩ := hv.is
  subst e
  obtain ⟨A', n', c', e⟩ := hu.is
  subst e
  exact wp_valw (run_list2 ho hx hy) ⟨_, _, rfl, rfl, Nat.le_refl _, by simp, ⟨_, A, n, c, A', n', c', rfl, heap_alloc_new w _, hv.alloc _, hu.alloc _⟩, (Below.refl _ _).alloc (Nat.le_refl _) _⟩
theorem step_new (ho : o.op = .alloc 27) :
    o.wp Try.prog a w (fun a' w' => ∃ v g, a' = a.put o.dst v ∧ Rg.blockOf v = some g ∧ w.heap.size ≤ g ∧ g < w'.heap.size ∧ pNew v w' ∧ Below w.heap.size w w') Q :=
  wp_valw (run_alloc ho) ⟨_, _, rfl, rfl, Nat.le_refl _, by simp, ⟨_, rfl, Box.new _ _ _⟩, (Below.refl _ _).alloc (Nat.le_refl _) _⟩
theorem step_newq (ho : o.op = .alloc 60) :
    o.wp Try.prog a w (fun a' w' => ∃ v g, a' = a.put o.dst v ∧ Rg.blockOf v = some g ∧ w.heap.size ≤ g ∧ g < w'.heap.size ∧ pNewQ v w' ∧ Below w.heap.size w w') Q :=
  wp_valw (run_alloc_q ho) ⟨_, _, rfl, rfl, Nat.le_refl _, by simp, ⟨_, rfl, QBox.new _ _ _ _ _⟩, (Below.refl _ _).alloc (Nat.le_refl _) _⟩
theorem step_build (ho : o.op = .build 60 #[(0, x), (1, y)]) (hx : a.eval x = v) (hy : a.eval y = u) (hv : Iv w v z) (hu : Iv w u d) :
    o.wp Try.prog a w (fun a' w' => ∃ v, a' = a.put o.dst v ∧ pQv z d v w' ∧ Below w.heap.size w w') Q := by
  obtain ⟨A, n, c, e⟩ := hv.is
  subst e
  obtain ⟨A', n', c', e⟩ := hu.is
  subst e
  exact wp_val (run_qbuild ho hx hy) ⟨_, rfl, ⟨A, n, c, A', n', c', rfl, hv, hu⟩, Below.refl _ _⟩
theorem step_put {g : Nat} (ho : o.op = .store 27 x y) (hd : o.dst = none) (hx : a.eval x = v) (hy : a.eval y = u) (hg : Rg.blockOf v = some g) (hp : pNew v w) (hu : Iv w u z) :
    o.wp Try.prog a w (fun a' w' => a' = a ∧ pPut z v w' ∧ Rg.Chg (some g) w w') Q := by
  obtain ⟨A, n, c, e⟩ := hu.is
  subst e
  obtain ⟨g', rfl, hb⟩ := hp
  obtain rfl : g' = g := Option.some.inj hg
  have hc := chg_box (s := decide (z < 0)) (A := A) (n := n) (c := c) hb
  exact wp_skipw (run_store ho hx hy hb) hd ⟨rfl, ⟨g', rfl, A, n, c, box_store hb, hu.kn hc.kn⟩, hc⟩
theorem step_putq {g : Nat} (ho : o.op = .store 60 x y) (hd : o.dst = none) (hx : a.eval x = v) (hy : a.eval y = u) (hg : Rg.blockOf v = some g) (hp : pNewQ v w) (hu : Qv w u z d) :
    o.wp Try.prog a w (fun a' w' => a' = a ∧ pPutQ z d v w' ∧ Rg.Chg (some g) w w') Q := by
  obtain ⟨A, n, c, A', n', c', rfl, h1, h2⟩ := hu
  obtain ⟨g', rfl, hb⟩ := hp
  obtain rfl : g' = g := Option.some.inj hg
  have hc := chg_qbox (b' := decide (z < 0)) (d' := decide (d < 0)) (A' := A) (n' := n) (c' := c) (B' := A') (m' := n') (e' := c') hb
  exact wp_skipw (run_store_q ho hx hy hb) hd ⟨rfl, ⟨g', rfl, A, n, c, A', n', c', QBox.set w hb, h1.kn hc.kn, h2.kn hc.kn⟩, hc⟩
theorem step_stoq {g : Nat} {V : World} {b c : Bool} {A B : Option Addr} {i j k l : Nat} (ho : o.op = .store 60 x y) (hd : o.dst = none) (hx : a.eval x = ptr g) (hy : a.eval y = u) (hu : Qv w u z d) (hb : QBox V g b (.slice A i j) c (.slice B k l)) (he : w.heap[g]? = V.heap[g]?) :
    o.wp Try.prog a w (fun a' w' => a' = a ∧ sQ g z d w' ∧ Rg.Chg (some g) w w') Q := by
  obtain ⟨A, n, c, A', n', c', rfl, h1, h2⟩ := hu
  replace hb := he.trans hb
  have hc := chg_qbox (b' := decide (z < 0)) (d' := decide (d < 0)) (A' := A) (n' := n) (c' := c) (B' := A') (m' := n') (e' := c') hb
  exact wp_skipw (run_store_q ho hx hy hb) hd ⟨rfl, ⟨A, n, c, A', n', c', QBox.set w hb, h1.kn hc.kn, h2.kn hc.kn⟩, hc⟩
theorem step_stoi {g : Nat} {V : World} {b : Bool} {A : Option Addr} {i j : Nat} (ho : o.op = .store 27 x y) (hd : o.dst = none) (hx : a.eval x = ptr g) (hy : a.eval y = u) (hu : Iv w u z) (hb : Box V g b (.slice A i j)) (he : w.heap[g]? = V.heap[g]?) :
    o.wp Try.prog a w (fun a' w' => a' = a ∧ sI g z w' ∧ Rg.Chg (some g) w w') Q := by
  obtain ⟨A, n, c, e⟩ := hu.is
  subst e
  replace hb := he.trans hb
  have hc := chg_box (s := decide (z < 0)) (A := A) (n := n) (c := c) hb
  exact wp_skipw (run_store ho hx hy hb) hd ⟨rfl, ⟨A, n, c, box_store hb, hu.kn hc.kn⟩, hc⟩
end
theorem nxv {w w1 w' : World} {v : Value} {z : Int} (h : Hid (Iv w v z)) (hb : Below w1.heap.size w1 w') (e : w1.heap = w.heap) : Hid (Iv w' v z) := iv_next h.out hb e
theorem nxb {w w1 w' : World} {g : Nat} {b : Bool} {s : Value} (h : Hid (Box w g b s)) (hb : Below w1.heap.size w1 w') (e : w1.heap = w.heap) : Hid (Box w' g b s) := h.out.next hb e
theorem nxq {w w1 w' : World} {g : Nat} {b c : Bool} {s t : Value} (h : Hid (QBox w g b s c t)) (hb : Below w1.heap.size w1 w') (e : w1.heap = w.heap) : Hid (QBox w' g b s c t) := h.out.next hb e
theorem nxd {B : Nat} {a w w1 w' : World} (h : Hid (Below B a w)) (hg : Hid (a.heap.size = B)) (hb : Below w1.heap.size w1 w') (e1 : w1.os = w.os) (e2 : w1.tape = w.tape) (e3 : w1.output = w.output) (e4 : w1.heap = w.heap) : Hid (Below B a w') :=
  link_below h.out hb (by have := h.out.size; have := hg.out; rw [e4]; omega) e1 e2 e3 e4
theorem nxe {B : Nat} {a w w1 w' : World} (h : Hid (Below B a w)) (hg : Hid (B ≤ a.heap.size)) (hb : Below w1.heap.size w1 w') (e1 : w1.os = w.os) (e2 : w1.tape = w.tape) (e3 : w1.output = w.output) (e4 : w1.heap = w.heap) : Hid (Below B a w') :=
  link_below h.out hb (by have := h.out.size; have := hg.out; rw [e4]; omega) e1 e2 e3 e4
end Go.Proofs.Ytfigimfdojbkeaa

