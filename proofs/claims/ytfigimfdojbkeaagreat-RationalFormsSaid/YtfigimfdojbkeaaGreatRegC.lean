/-
  A region that draws its order, with new cells of integers and stores into them: one step for each operation.
-/
import Derived.Test.YtfigimfdojbkeaaGreatIntC
import Derived.Test.YtfigimfdojbkeaaGreatIntD
set_option linter.unusedSimpArgs false
set_option linter.unusedVariables false
namespace Go.Proofs.YtfigimfdojbkeaaGreat
open Go.RowKit

/-- What an operation leaves: a value; an integer; anything; a new cell; an integer in the cell that operation j has made. -/
inductive Sq where
  | is (c : Value)
  | iv (z : Int)
  | any
  | tup (l : List (Int ⊕ Value))
  | new
  | put (j : Nat) (z : Int)
/-- The parts of a tuple: integers and values. -/
def okT (w : World) : List (Int ⊕ Value) → List Value → Prop
  | .inl z :: l, v :: vs => Iv w v z ∧ okT w l vs
  | .inr c :: l, v :: vs => v = c ∧ okT w l vs
  | [], [] => True
  | _, _ => False
theorem okT.map {w w' : World} (h : ∀ v z, Iv w v z → Iv w' v z) : ∀ {l : List (Int ⊕ Value)} {vs : List Value}, okT w l vs → okT w' l vs
  | [], [], _ => trivial
  | [], _ :: _, k => k.elim
  | .inl _ :: _, [], k => k.elim
  | .inr _ :: _, [], k => k.elim
  | .inl z :: _, v :: _, k => ⟨h v z k.1, okT.map h k.2⟩
  | .inr _ :: _, _ :: _, k => ⟨k.1, okT.map h k.2⟩
def ptr (g : Nat) : Value := .pointer (some ⟨g, 0, none⟩)
def slotOf (ops : Array Oper) (t : Array Value) (j : Nat) : Option Value := ((ops[j]?).bind (·.dst)).bind (t[·]?)
def Sq.ok (B : Nat) (ops : Array Oper) (t : Array Value) (j : Nat) (w : World) : Sq → Prop
  | .is c => slotOf ops t j = some c
  | .iv z => ∃ v, slotOf ops t j = some v ∧ Iv w v z
  | .any => ∃ v, slotOf ops t j = some v
  | .tup l => ∃ vs, slotOf ops t j = some (.tuple vs.toArray) ∧ okT w l vs
  | .new => ∃ g b A n c, slotOf ops t j = some (ptr g) ∧ B ≤ g ∧ Box w g b (.slice A n c)
  | .put i z => ∃ g b A n c, slotOf ops t i = some (ptr g) ∧ B ≤ g ∧ Box w g b (.slice A n c) ∧ Iv w (.agg #[.bool b, .slice A n c]) z
def Sq.isNew : Sq → Bool
  | .new => true
  | _ => false
def Stp (P : Program) (ops : Array Oper) (sk : List Sq) (a0 : Act) (V : World) (Q : Exit → Act → World → Prop) (o : Oper) (k : Sq) : Prop :=
  ∀ a w, Held ops a0 a → Below V.heap.size V w → (∀ j, waitsB o j = true → ∀ k, sk[j]? = some k → Sq.ok V.heap.size ops a.tmps j w k) →
    Region.wanted o (yielded ops a.tmps) = true ∧ match k with
    | .is c => o.dst.isSome = true ∧ o.wp P a w (fun a' w' => a' = a.put o.dst c ∧ Below w.heap.size w w') Q
    | .iv z => o.dst.isSome = true ∧ o.wp P a w (fun a' w' => ∃ v, a' = a.put o.dst v ∧ Iv w' v z ∧ Below w.heap.size w w') Q
    | .any => o.dst.isSome = true ∧ o.wp P a w (fun a' w' => ∃ v, a' = a.put o.dst v ∧ Below w.heap.size w w') Q
    | .tup l => o.dst.isSome = true ∧ o.wp P a w (fun a' w' => ∃ vs, a' = a.put o.dst (.tuple vs.toArray) ∧ okT w' l vs ∧ Below w.heap.size w w') Q
    | .new => o.dst.isSome = true ∧ o.wp P a w (fun a' w' => a' = a.put o.dst (ptr w.heap.size) ∧ w' = w.alloc (Obj.cells #[.bool false, .slice none 0 0] 29)) Q
    | .put j z => waitsB o j = true ∧ ∀ g, slotOf ops a.tmps j = some (ptr g) → ∃ s A n c, Iv w (.agg #[.bool s, .slice A n c]) z ∧
        ((∃ b A' n' c', Box w g b (.slice A' n' c')) → o.wp P a w (fun a' w' => a' = a ∧ w' = (w.setCell ⟨g, 0, none⟩ (.bool s)).setCell ⟨g, 1, none⟩ (.slice A n c)) Q)

def Stps (P : Program) (ops : Array Oper) (sk : List Sq) (a0 : Act) (V : World) (Q : Exit → Act → World → Prop) : List Oper → List Sq → Prop
  | o :: l, k :: ks => Stp P ops sk a0 V Q o k ∧ Stps P ops sk a0 V Q l ks
  | [], [] => True
  | _, _ => False
theorem Stps.len {P : Program} {ops : Array Oper} {sk : List Sq} {a0 : Act} {V : World} {Q : Exit → Act → World → Prop} : ∀ {l : List Oper} {ks : List Sq}, Stps P ops sk a0 V Q l ks → l.length = ks.length
  | [], [], _ => rfl
  | o :: l, k :: ks, h => by simp [Stps.len h.2]
  | [], _ :: _, h => h.elim
  | _ :: _, [], h => h.elim

theorem Sq.below {B : Nat} {ops : Array Oper} {t t' : Array Value} {j : Nat} {w w' : World} {k : Sq} (h : Sq.ok B ops t j w k) (hb : Below w.heap.size w w')
    (hs : slotOf ops t' j = slotOf ops t j) (hp : ∀ i z, k = .put i z → slotOf ops t' i = slotOf ops t i) : Sq.ok B ops t' j w' k := by
  cases k with
  | is c => exact hs.trans h
  | iv z => obtain ⟨v, h1, h2⟩ := h; exact ⟨v, hs.trans h1, Iv.below h2 hb⟩
  | any => obtain ⟨v, h1⟩ := h; exact ⟨v, hs.trans h1⟩
  | tup l => obtain ⟨vs, h1, h2⟩ := h; exact ⟨vs, hs.trans h1, h2.map (fun v z hv => Iv.below hv hb)⟩
  | new => obtain ⟨g, b, A, n, c, h1, h2, h3⟩ := h; exact ⟨g, b, A, n, c, hs.trans h1, h2, h3.below hb h3.lt⟩
  | put i z => obtain ⟨g, b, A, n, c, h1, h2, h3, h4⟩ := h; exact ⟨g, b, A, n, c, (hp i z rfl).trans h1, h2, h3.below hb h3.lt, Iv.below h4 hb⟩
theorem kw_store {w : World} {g : Nat} {b s : Bool} {A' A : Option Addr} {n' c' n c : Nat} (hb : Box w g b (.slice A' n' c')) : Kw w ((w.setCell ⟨g, 0, none⟩ (.bool s)).setCell ⟨g, 1, none⟩ (.slice A n c)) :=
  ((Kw.refl w).old hb (by omega) _).old hb (by omega) _
theorem box_store {w : World} {g : Nat} {b s : Bool} {u t : Value} (hb : Box w g b u) : Box ((w.setCell ⟨g, 0, none⟩ (.bool s)).setCell ⟨g, 1, none⟩ t) g s t := Box.set1 (Box.set0 hb _) _
theorem Sq.store {B : Nat} {ops : Array Oper} {t : Array Value} {j g : Nat} {w : World} {k : Sq} {b s : Bool} {A' A : Option Addr} {n' c' n c : Nat} (h : Sq.ok B ops t j w k) (hb : Box w g b (.slice A' n' c'))
    (hp : ∀ i z, k = .put i z → slotOf ops t i ≠ some (ptr g)) : Sq.ok B ops t j ((w.setCell ⟨g, 0, none⟩ (.bool s)).setCell ⟨g, 1, none⟩ (.slice A n c)) k := by
  have hk : Kw w ((w.setCell ⟨g, 0, none⟩ (.bool s)).setCell ⟨g, 1, none⟩ (.slice A n c)) := kw_store hb
  cases k with
  | is c => exact h
  | iv z => obtain ⟨v, h1, h2⟩ := h; exact ⟨v, h1, h2.kw hk⟩
  | any => exact h
  | tup l => obtain ⟨vs, h1, h2⟩ := h; exact ⟨vs, h1, h2.map (fun v z hv => hv.kw hk)⟩
  | new =>
    obtain ⟨g', b', A2, n2, c2, h1, h2, h3⟩ := h
    by_cases e : g' = g
    · subst e
      exact ⟨g', s, A, n, c, h1, h2, box_store hb⟩
    · exact ⟨g', b', A2, n2, c2, h1, h2, (h3.far e _).far e _⟩
  | put i z =>
    obtain ⟨g', b', A2, n2, c2, h1, h2, h3, h4⟩ := h
    have e : g' ≠ g := fun e => hp i z rfl (by rw [h1, e])
    exact ⟨g', b', A2, n2, c2, h1, h2, (h3.far e _).far e _, h4.kw hk⟩

/-! ### What is left behind the region, slot by slot -/
def setOpt : List Value → List (Option Nat) → List Value → List Value
  | l, some d :: ds, v :: vs => setOpt (l.set d v) ds vs
  | l, none :: ds, _ :: vs => setOpt l ds vs
  | l, _, _ => l
/-! ### Steps -/
section
variable {o : Oper} {a : Act} {w : World} {K : Act → World → Prop} {Q : Exit → Act → World → Prop}
theorem wp_valw {v : Value} {w' : World} (hr : (execOp a.eval o).run Tryz.prog w = .ok (.value v) w') (h : K (a.put o.dst v) w') : o.wp Tryz.prog a w K Q := by
  unfold Oper.wp
  rw [hr]
  exact h
theorem wp_skipw {w' : World} (hr : (execOp a.eval o).run Tryz.prog w = .ok .skip w') (hd : o.dst = none) (h : K a w') : o.wp Tryz.prog a w K Q := by
  unfold Oper.wp
  rw [hr]
  show K (a.put o.dst undef) w'
  rw [hd]
  exact h
theorem run_alloc {ρ : Operand → Value} (ho : o.op = .alloc 29) : (execOp ρ o).run Tryz.prog w = .ok (.value (ptr w.heap.size)) (w.alloc (Obj.cells #[.bool false, .slice none 0 0] 29)) := by
  simp [execOp, ho, go_sem, ptr]
theorem run_store {ρ : Operand → Value} {x y : Operand} {g : Nat} {b s : Bool} {A A' : Option Addr} {n c n' c' : Nat} (ho : o.op = .store 29 x y) (hx : ρ x = ptr g) (hy : ρ y = .agg #[.bool s, .slice A n c]) (hb : Box w g b (.slice A' n' c')) :
    (execOp ρ o).run Tryz.prog w = .ok .skip ((w.setCell ⟨g, 0, none⟩ (.bool s)).setCell ⟨g, 1, none⟩ (.slice A n c)) := by
  have h0 := hb.cell0
  have h1 := hb.cell1
  have h2 := hb.frozen 0
  have h3 := hb.frozen 1
  simp [execOp, ho, hx, hy, go_sem, ptr, h0, h1, h2, h3]
theorem slot_get {ops : Array Oper} {t : Array Value} {j d : Nat} {o' : Oper} {v : Value} (ho : ops[j]? = some o') (hd : o'.dst = some d) (h : slotOf ops t j = some v) : t[d]? = some v := by
  unfold slotOf at h
  simpa [ho, hd] using h
end
end Go.Proofs.YtfigimfdojbkeaaGreat

