/-
  A region that draws its order, with new cells of integers and stores into them: one step for each operation.
-/
import Derived.Test.YtfigimfdojbkeaaIntC
import Derived.Test.YtfigimfdojbkeaaIntD
set_option linter.unusedSimpArgs false
set_option linter.unusedVariables false
namespace Go.Proofs.Ytfigimfdojbkeaa
open Go.RowKit

/-- What an operation leaves: a value; an integer; anything; a new cell; an integer in the cell that operation j has made. -/
inductive Sq where
  | is (c : Value)
  | iv (z : Int)
  | any
  | tup (l : List (Int ⊕ Value))
  | new
  | put (j : Nat) (z : Int)
/-- The parts of a tuple: integers and values. -/
def okT (w : World) : List (Int ⊕ Value) → List Value → Prop
  | .inl z :: l, v :: vs => Iv w v z ∧ okT w l vs
  | .inr c :: l, v :: vs => v = c ∧ okT w l vs
  | [], [] => True
  | _, _ => False
theorem okT.map {w w' : World} (h : ∀ v z, Iv w v z → Iv w' v z) : ∀ {l : List (Int ⊕ Value)} {vs : List Value}, okT w l vs → okT w' l vs
  | [], [], _ => trivial
  | [], _ :: _, k => k.elim
  | .inl _ :: _, [], k => k.elim
  | .inr _ :: _, [], k => k.elim
  | .inl z :: _, v :: _, k => ⟨h v z k.1, okT.map h k.2⟩
  | .inr _ :: _, _ :: _, k => ⟨k.1, okT.map h k.2⟩
def ptr (g : Nat) : Value := .pointer (some ⟨g, 0, none⟩)
theorem ptr_inj {g h : Nat} (e : ptr g = ptr h) : g = h := by
  simp [ptr] at e
  exact e

def slotOf (ops : Array Oper) (t : Array Value) (j : Nat) : Option Value := ((ops[j]?).bind (·.dst)).bind (t[·]?)
def Sq.ok (B : Nat) (ops : Array Oper) (t : Array Value) (j : Nat) (w : World) : Sq → Prop
  | .is c => slotOf ops t j = some c
  | .iv z => ∃ v, slotOf ops t j = some v ∧ Iv w v z
  | .any => ∃ v, slotOf ops t j = some v
  | .tup l => ∃ vs, slotOf ops t j = some (.tuple vs.toArray) ∧ okT w l vs
  | .new => ∃ g b A n c, slotOf ops t j = some (ptr g) ∧ B ≤ g ∧ Box w g b (.slice A n c)
  | .put i z => ∃ g b A n c, slotOf ops t i = some (ptr g) ∧ B ≤ g ∧ Box w g b (.slice A n c) ∧ Iv w (.agg #[.bool b, .slice A n c]) z
def Sq.isNew : Sq → Bool
  | .new => true
  | _ => false
def putsFrom (sk : List Sq) : Nat → List Sq → Bool
  | _, [] => true
  | i, .put j _ :: l => decide (j < i) && ((sk[j]?).map Sq.isNew == some true) && putsFrom sk (i + 1) l
  | i, _ :: l => putsFrom sk (i + 1) l
def targets : List Sq → List Nat
  | [] => []
  | .put j _ :: l => j :: targets l
  | _ :: l => targets l
def dstsC (n : Nat) : List Oper → Bool
  | [] => true
  | o :: l => (match o.dst with | some d => decide (d < n) && (l.all fun o' => o'.dst != o.dst) | none => true) && dstsC n l

def Stp (P : Program) (ops : Array Oper) (sk : List Sq) (a0 : Act) (V : World) (Q : Exit → Act → World → Prop) (o : Oper) (k : Sq) : Prop :=
  ∀ a w, Held ops a0 a → Below V.heap.size V w → (∀ j, waitsB o j = true → ∀ k, sk[j]? = some k → Sq.ok V.heap.size ops a.tmps j w k) →
    Region.wanted o (yielded ops a.tmps) = true ∧ match k with
    | .is c => o.dst.isSome = true ∧ o.wp P a w (fun a' w' => a' = a.put o.dst c ∧ Below w.heap.size w w') Q
    | .iv z => o.dst.isSome = true ∧ o.wp P a w (fun a' w' => ∃ v, a' = a.put o.dst v ∧ Iv w' v z ∧ Below w.heap.size w w') Q
    | .any => o.dst.isSome = true ∧ o.wp P a w (fun a' w' => ∃ v, a' = a.put o.dst v ∧ Below w.heap.size w w') Q
    | .tup l => o.dst.isSome = true ∧ o.wp P a w (fun a' w' => ∃ vs, a' = a.put o.dst (.tuple vs.toArray) ∧ okT w' l vs ∧ Below w.heap.size w w') Q
    | .new => o.dst.isSome = true ∧ o.wp P a w (fun a' w' => a' = a.put o.dst (ptr w.heap.size) ∧ w' = w.alloc (Obj.cells #[.bool false, .slice none 0 0] 27)) Q
    | .put j z => waitsB o j = true ∧ ∀ g, slotOf ops a.tmps j = some (ptr g) → ∃ s A n c, Iv w (.agg #[.bool s, .slice A n c]) z ∧
        ((∃ b A' n' c', Box w g b (.slice A' n' c')) → o.wp P a w (fun a' w' => a' = a ∧ w' = (w.setCell ⟨g, 0, none⟩ (.bool s)).setCell ⟨g, 1, none⟩ (.slice A n c)) Q)

def Stps (P : Program) (ops : Array Oper) (sk : List Sq) (a0 : Act) (V : World) (Q : Exit → Act → World → Prop) : List Oper → List Sq → Prop
  | o :: l, k :: ks => Stp P ops sk a0 V Q o k ∧ Stps P ops sk a0 V Q l ks
  | [], [] => True
  | _, _ => False
theorem Stps.get {P : Program} {ops : Array Oper} {sk : List Sq} {a0 : Act} {V : World} {Q : Exit → Act → World → Prop} : ∀ {l : List Oper} {ks : List Sq}, Stps P ops sk a0 V Q l ks →
    ∀ (i : Nat) (o : Oper), l[i]? = some o → ∃ k, ks[i]? = some k ∧ Stp P ops sk a0 V Q o k
  | [], [], _, i, o, h => by simp at h
  | o :: l, k :: ks, h, 0, o', e => by
    simp at e
    subst e
    exact ⟨k, rfl, h.1⟩
  | o :: l, k :: ks, h, i + 1, o', e => by
    simp at e
    obtain ⟨k', h1, h2⟩ := Stps.get h.2 i o' e
    exact ⟨k', by simpa using h1, h2⟩
  | [], _ :: _, h, _, _, _ => h.elim
  | _ :: _, [], h, _, _, _ => h.elim
theorem Stps.len {P : Program} {ops : Array Oper} {sk : List Sq} {a0 : Act} {V : World} {Q : Exit → Act → World → Prop} : ∀ {l : List Oper} {ks : List Sq}, Stps P ops sk a0 V Q l ks → l.length = ks.length
  | [], [], _ => rfl
  | o :: l, k :: ks, h => by simp [Stps.len h.2]
  | [], _ :: _, h => h.elim
  | _ :: _, [], h => h.elim

theorem dstsC_get {n : Nat} : ∀ {l : List Oper}, dstsC n l = true → ∀ (i : Nat) (o : Oper) (d : Nat), l[i]? = some o → o.dst = some d → d < n ∧ ∀ (j : Nat) (o' : Oper), l[j]? = some o' → j ≠ i → o'.dst ≠ some d
  | [], _, i, o, d => by simp
  | o :: l, hd, 0, o', d => by
    intro e he
    simp at e
    subst e
    simp only [dstsC, he, Bool.and_eq_true] at hd
    refine ⟨by simpa using hd.1.1, fun j o'' hj hne => ?_⟩
    obtain ⟨j, rfl⟩ : ∃ j', j = j' + 1 := ⟨j - 1, by omega⟩
    simp at hj
    have h1 := (List.all_eq_true.1 hd.1.2) o'' (List.mem_of_getElem? hj)
    simpa using h1
  | o :: l, hd, i + 1, o', d => by
    intro e he
    simp at e
    have hd2 : dstsC n l = true := by simp only [dstsC, Bool.and_eq_true] at hd; exact hd.2
    obtain ⟨h2, h3⟩ := dstsC_get hd2 i o' d e he
    refine ⟨h2, fun j o'' hj hne => ?_⟩
    rcases j with _ | j
    · simp at hj
      subst hj
      intro e2
      simp only [dstsC, e2, Bool.and_eq_true] at hd
      have h4 := (List.all_eq_true.1 hd.1.2) o' (List.mem_of_getElem? e)
      rw [he] at h4
      simp at h4
    · simp at hj
      exact h3 j o'' hj (by omega)
theorem putsFrom_get {sk : List Sq} : ∀ {i : Nat} {l : List Sq}, putsFrom sk i l = true → ∀ (m : Nat) (j : Nat) (z : Int), l[m]? = some (.put j z) → j < i + m ∧ sk[j]? = some .new
  | _, [], _, m, j, z, h => by simp at h
  | i, k :: l, hp, 0, j, z, h => by
    simp at h
    subst h
    simp only [putsFrom, Bool.and_eq_true] at hp
    refine ⟨by simpa using hp.1.1, ?_⟩
    have := hp.1.2
    cases hk : sk[j]? with
    | none => rw [hk] at this; simp at this
    | some k => rw [hk] at this; cases k <;> simp [Sq.isNew] at this; rfl
  | i, k :: l, hp, m + 1, j, z, h => by
    simp at h
    have hp2 : putsFrom sk (i + 1) l = true := by
      cases k <;> simp only [putsFrom, Bool.and_eq_true] at hp <;> first | exact hp | exact hp.2
    obtain ⟨h1, h2⟩ := putsFrom_get hp2 m j z h
    exact ⟨by omega, h2⟩
theorem targets_get : ∀ {l : List Sq}, (targets l).Nodup → ∀ (a b j : Nat) (z y : Int), l[a]? = some (.put j z) → l[b]? = some (.put j y) → a = b
  | [], _, a, b, j, z, y, h, _ => by simp at h
  | k :: l, hn, a, b, j, z, y, h1, h2 => by
    have hmem : ∀ {l : List Sq} {a j : Nat} {z : Int}, l[a]? = some (.put j z) → j ∈ targets l := by
      intro l
      induction l with
      | nil => intro a j z h; simp at h
      | cons k l ih =>
        intro a j z h
        rcases a with _ | a
        · simp at h
          subst h
          simp [targets]
        · simp at h
          have := ih h
          cases k <;> simp [targets, this]
    rcases a with _ | a <;> rcases b with _ | b
    · rfl
    · exfalso
      simp at h1 h2
      subst h1
      simp only [targets, List.nodup_cons] at hn
      exact hn.1 (hmem h2)
    · exfalso
      simp at h1 h2
      subst h2
      simp only [targets, List.nodup_cons] at hn
      exact hn.1 (hmem h1)
    · simp at h1 h2
      have hn2 : (targets l).Nodup := by
        cases k <;> simp only [targets, List.nodup_cons] at hn <;> first | exact hn | exact hn.2
      rw [targets_get hn2 a b j z y h1 h2]

theorem Sq.below {B : Nat} {ops : Array Oper} {t t' : Array Value} {j : Nat} {w w' : World} {k : Sq} (h : Sq.ok B ops t j w k) (hb : Below w.heap.size w w')
    (hs : slotOf ops t' j = slotOf ops t j) (hp : ∀ i z, k = .put i z → slotOf ops t' i = slotOf ops t i) : Sq.ok B ops t' j w' k := by
  cases k with
  | is c => exact hs.trans h
  | iv z => obtain ⟨v, h1, h2⟩ := h; exact ⟨v, hs.trans h1, Iv.below h2 hb⟩
  | any => obtain ⟨v, h1⟩ := h; exact ⟨v, hs.trans h1⟩
  | tup l => obtain ⟨vs, h1, h2⟩ := h; exact ⟨vs, hs.trans h1, h2.map (fun v z hv => Iv.below hv hb)⟩
  | new => obtain ⟨g, b, A, n, c, h1, h2, h3⟩ := h; exact ⟨g, b, A, n, c, hs.trans h1, h2, h3.below hb h3.lt⟩
  | put i z => obtain ⟨g, b, A, n, c, h1, h2, h3, h4⟩ := h; exact ⟨g, b, A, n, c, (hp i z rfl).trans h1, h2, h3.below hb h3.lt, Iv.below h4 hb⟩
theorem kw_store {w : World} {g : Nat} {b s : Bool} {A' A : Option Addr} {n' c' n c : Nat} (hb : Box w g b (.slice A' n' c')) : Kw w ((w.setCell ⟨g, 0, none⟩ (.bool s)).setCell ⟨g, 1, none⟩ (.slice A n c)) :=
  ((Kw.refl w).old hb (by omega) _).old hb (by omega) _
theorem box_store {w : World} {g : Nat} {b s : Bool} {u t : Value} (hb : Box w g b u) : Box ((w.setCell ⟨g, 0, none⟩ (.bool s)).setCell ⟨g, 1, none⟩ t) g s t := Box.set1 (Box.set0 hb _) _
theorem Sq.store {B : Nat} {ops : Array Oper} {t : Array Value} {j g : Nat} {w : World} {k : Sq} {b s : Bool} {A' A : Option Addr} {n' c' n c : Nat} (h : Sq.ok B ops t j w k) (hb : Box w g b (.slice A' n' c'))
    (hp : ∀ i z, k = .put i z → slotOf ops t i ≠ some (ptr g)) : Sq.ok B ops t j ((w.setCell ⟨g, 0, none⟩ (.bool s)).setCell ⟨g, 1, none⟩ (.slice A n c)) k := by
  have hk : Kw w ((w.setCell ⟨g, 0, none⟩ (.bool s)).setCell ⟨g, 1, none⟩ (.slice A n c)) := kw_store hb
  cases k with
  | is c => exact h
  | iv z => obtain ⟨v, h1, h2⟩ := h; exact ⟨v, h1, h2.kw hk⟩
  | any => exact h
  | tup l => obtain ⟨vs, h1, h2⟩ := h; exact ⟨vs, h1, h2.map (fun v z hv => hv.kw hk)⟩
  | new =>
    obtain ⟨g', b', A2, n2, c2, h1, h2, h3⟩ := h
    by_cases e : g' = g
    · subst e
      exact ⟨g', s, A, n, c, h1, h2, box_store hb⟩
    · exact ⟨g', b', A2, n2, c2, h1, h2, (h3.far e _).far e _⟩
  | put i z =>
    obtain ⟨g', b', A2, n2, c2, h1, h2, h3, h4⟩ := h
    have e : g' ≠ g := fun e => hp i z rfl (by rw [h1, e])
    exact ⟨g', b', A2, n2, c2, h1, h2, (h3.far e _).far e _, h4.kw hk⟩

theorem slot_put {ops : Array Oper} {t : Array Value} {n i d : Nat} {o : Oper} {v : Value} (hdst : dstsC n ops.toList = true) (ho : ops[i]? = some o) (hd : o.dst = some d) {j : Nat} (hj : j ≠ i) :
    slotOf ops (t.setIfInBounds d v) j = slotOf ops t j := by
  unfold slotOf
  cases hoj : ops[j]? with
  | none => rfl
  | some o' =>
    cases hdj : o'.dst with
    | none => simp [hdj]
    | some d' =>
      have h1 := (dstsC_get hdst i o d (by rw [Array.getElem?_toList]; exact ho) hd).2 j o' (by rw [Array.getElem?_toList]; exact hoj) hj
      have hne : d ≠ d' := by rintro rfl; exact h1 hdj
      simp [hdj, Array.getElem?_setIfInBounds, hne]
theorem slot_self {ops : Array Oper} {t : Array Value} {i d : Nat} {o : Oper} {v : Value} (ho : ops[i]? = some o) (hd : o.dst = some d) (hlt : d < t.size) : slotOf ops (t.setIfInBounds d v) i = some v := by
  unfold slotOf
  simp [ho, hd, Array.getElem?_setIfInBounds, hlt]

structure Inv (ops : Array Oper) (sk : List Sq) (a0 : Act) (V : World) (listed : Array Bool) (a : Act) (w : World) : Prop where
  held : Held ops a0 a
  bl : Below V.heap.size V w
  ok : ∀ j k, listed.getD j false = true → sk[j]? = some k → Sq.ok V.heap.size ops a.tmps j w k
  dist : ∀ i j g g', listed.getD i false = true → listed.getD j false = true → i ≠ j → sk[i]? = some .new → sk[j]? = some .new → slotOf ops a.tmps i = some (ptr g) → slotOf ops a.tmps j = some (ptr g') → g ≠ g'
  closed : ∀ i j z, listed.getD i false = true → sk[i]? = some (.put j z) → listed.getD j false = true
theorem listed_set {listed : Array Bool} {i j : Nat} (h : (listed.setIfInBounds i true).getD j false = true) (hne : j ≠ i) : listed.getD j false = true := by
  rw [Array.getD_eq_getD_getElem?, Array.getElem?_setIfInBounds, if_neg (by omega)] at h
  rw [Array.getD_eq_getD_getElem?]
  exact h
theorem listed_mono {listed : Array Bool} {i j : Nat} (h : listed.getD j false = true) : (listed.setIfInBounds i true).getD j false = true := by
  rw [Array.getD_eq_getD_getElem?, Array.getElem?_setIfInBounds]
  rw [Array.getD_eq_getD_getElem?] at h
  split
  · split
    · rfl
    · rename_i h1 h2
      subst h1
      rw [Array.getElem?_eq_none (by omega)] at h
      simp at h
  · exact h

theorem put_tmps {a : Act} {o : Oper} {d : Nat} {v : Value} (h : o.dst = some d) : (a.put o.dst v).tmps = a.tmps.setIfInBounds d v := by rw [h]; rfl
theorem held_put {ops : Array Oper} {a0 a : Act} {o : Oper} {i d : Nat} {v : Value} (hh : Held ops a0 a) (ho : ops[i]? = some o) (hd : o.dst = some d) : Held ops a0 (a.put o.dst v) := by
  refine ⟨by rw [hd]; exact hh.defers, by rw [put_tmps hd]; simpa using hh.size, fun j hj => ?_⟩
  rw [put_tmps hd, Array.getElem?_setIfInBounds]
  have hne : d ≠ j := by
    rintro rfl
    have := (List.all_eq_true.1 hj) o (List.mem_of_getElem? (i := i) (by rw [Array.getElem?_toList]; exact ho))
    rw [hd] at this
    simp at this
  rw [if_neg hne]
  exact hh.rest j hj

theorem Inv.put_ {ops : Array Oper} {sk : List Sq} {a0 a : Act} {V w w' : World} {listed : Array Bool} {o : Oper} {i d : Nat} {v : Value} {k : Sq} (h : Inv ops sk a0 V listed a w)
    (hdst : dstsC a0.tmps.size ops.toList = true) (_ : ∀ m j z, sk[m]? = some (Sq.put j z) → j < m ∧ sk[j]? = some .new) (ho : ops[i]? = some o) (hd : o.dst = some d) (hi : sk[i]? = some k) (hnp : ∀ j z, k ≠ .put j z)
    (hself : Sq.ok V.heap.size ops (a.tmps.setIfInBounds d v) i w' k) (hb : Below w.heap.size w w') (hun : listed.getD i true = false) (hnew : k = .new → v = ptr w.heap.size) : Inv ops sk a0 V (listed.setIfInBounds i true) (a.put o.dst v) w' := by
  have hlt : d < a.tmps.size := by rw [h.held.size]; exact (dstsC_get hdst i o d (by rw [Array.getElem?_toList]; exact ho) hd).1
  have hself0 : slotOf ops (a.tmps.setIfInBounds d v) i = some v := slot_self ho hd hlt
  refine ⟨held_put h.held ho hd, h.bl.trans (hb.mono h.bl.size), ?_, ?_, ?_⟩
  · intro j k' hj hk'
    rw [put_tmps hd]
    by_cases e : j = i
    · subst e
      rw [hi] at hk'
      cases hk'
      exact hself
    · refine Sq.below (h.ok j k' (listed_set hj e) hk') hb (slot_put hdst ho hd e) (fun i' z e2 => ?_)
      subst e2
      refine slot_put hdst ho hd ?_
      rintro rfl
      have h1 := h.closed j i' z (listed_set hj e) hk'
      rw [Array.getD_eq_getD_getElem?] at h1 hun
      cases hx : listed[i']? with
      | none => rw [hx] at h1; simp at h1
      | some b => rw [hx] at h1 hun; simp at h1 hun; rw [h1] at hun; cases hun
  · intro p q g g' hp' hq' hne hsp hsq e1 e2
    rw [put_tmps hd] at e1 e2
    have old : ∀ r gr, r ≠ i → (listed.setIfInBounds i true).getD r false = true → sk[r]? = some .new → slotOf ops (a.tmps.setIfInBounds d v) r = some (ptr gr) → gr < w.heap.size ∧ slotOf ops a.tmps r = some (ptr gr) := by
      intro r gr hr hl hs e
      rw [slot_put hdst ho hd hr] at e
      obtain ⟨g2, b, A, n, c, e3, _, e4⟩ := h.ok r .new (listed_set hl hr) hs
      rw [e] at e3
      have := ptr_inj (Option.some.inj e3)
      subst this
      exact ⟨e4.lt, e⟩
    by_cases ep : p = i
    · subst ep
      have hk : k = .new := by rw [hi] at hsp; exact Option.some.inj hsp
      have hv := hnew hk
      rw [hself0, hv] at e1
      have e3 := ptr_inj (Option.some.inj e1)
      have := (old q g' (fun e => hne e.symm) hq' hsq e2).1
      omega
    · by_cases eq : q = i
      · subst eq
        have hk : k = .new := by rw [hi] at hsq; exact Option.some.inj hsq
        have hv := hnew hk
        rw [hself0, hv] at e2
        have e3 := ptr_inj (Option.some.inj e2)
        have := (old p g ep hp' hsp e1).1
        omega
      · exact h.dist p q g g' (listed_set hp' ep) (listed_set hq' eq) hne hsp hsq (old p g ep hp' hsp e1).2 (old q g' eq hq' hsq e2).2
  · intro p j z hp' hs
    by_cases ep : p = i
    · subst ep
      rw [hi] at hs
      exact absurd (Option.some.inj hs) (hnp j z)
    · exact listed_mono (h.closed p j z (listed_set hp' ep) hs)

theorem Inv.store_ {ops : Array Oper} {sk : List Sq} {a0 a : Act} {V w : World} {listed : Array Bool} {i j g : Nat} {z : Int} {s : Bool} {A : Option Addr} {n c : Nat} (h : Inv ops sk a0 V listed a w)
    (hp : ∀ m j z, sk[m]? = some (Sq.put j z) → j < m ∧ sk[j]? = some .new) (ht : (targets sk).Nodup) (hi : sk[i]? = some (.put j z)) (hlj : listed.getD j false = true)
    (hg : slotOf ops a.tmps j = some (ptr g)) (hv : Iv w (.agg #[.bool s, .slice A n c]) z) :
    Inv ops sk a0 V (listed.setIfInBounds i true) a ((w.setCell ⟨g, 0, none⟩ (.bool s)).setCell ⟨g, 1, none⟩ (.slice A n c)) := by
  obtain ⟨g2, b, A', n', c', e1, e2, e3⟩ := h.ok j .new hlj (hp i j z hi).2
  rw [hg] at e1
  have := ptr_inj (Option.some.inj e1)
  subst this
  have hk := kw_store (s := s) (A := A) (n := n) (c := c) e3
  refine ⟨h.held, (h.bl.setCell (by exact e2) _).setCell (by exact e2) _, ?_, ?_, ?_⟩
  · intro p k' hl hk'
    by_cases e : p = i
    · subst e
      rw [hi] at hk'
      cases hk'
      exact ⟨g, s, A, n, c, hg, e2, box_store e3, hv.kw hk⟩
    · refine Sq.store (h.ok p k' (listed_set hl e) hk') e3 (fun i' z' e5 e6 => ?_)
      subst e5
      by_cases e7 : i' = j
      · subst e7
        exact e (targets_get ht p i i' z' z hk' hi)
      · exact h.dist i' j g g (h.closed p i' z' (listed_set hl e) hk') hlj e7 (hp p i' z' hk').2 (hp i j z hi).2 e6 hg rfl
  · intro p q g1 g2 hp' hq' hne hsp hsq e5 e6
    have n1 : p ≠ i := by rintro rfl; rw [hi] at hsp; cases hsp
    have n2 : q ≠ i := by rintro rfl; rw [hi] at hsq; cases hsq
    exact h.dist p q g1 g2 (listed_set hp' n1) (listed_set hq' n2) hne hsp hsq e5 e6
  · intro p j' z' hl hs
    by_cases e : p = i
    · subst e
      rw [hi] at hs
      cases hs
      exact listed_mono hlj
    · exact listed_mono (h.closed p j' z' (listed_set hl e) hs)

theorem region_st {P : Program} {id : Nat} {ops : Array Oper} {Q : Exit → Act → World → Prop} {a0 : Act} {w0 V : World} (sk : List Sq)
    (hm : P.follows .mixedOrders = true) (hdag : dagFrom 0 ops.toList = true) (hdst : dstsC a0.tmps.size ops.toList = true) (hpf : putsFrom sk 0 sk = true) (htg : decide (targets sk).Nodup = true) (hV : Below V.heap.size V w0.drew)
    (hst : Stps P ops sk a0 V Q ops.toList sk)
    (hend : ∀ a w, Held ops a0 a → Below V.heap.size V w → (∀ j k, j < ops.size → sk[j]? = some k → Sq.ok V.heap.size ops a.tmps j w k) → Q .normal a w) : (Code.region id ops true).wp P Q a0 w0 := by
  have hp : ∀ m j z, sk[m]? = some (Sq.put j z) → j < m ∧ sk[j]? = some .new := fun m j z h => by
    have := putsFrom_get hpf m j z h
    exact ⟨by omega, this.2⟩
  have ht : (targets sk).Nodup := of_decide_eq_true htg
  have main : ∀ (fuel : Nat) (listed : Array Bool) (a : Act) (w : World), listed.size = ops.size → listed.toList.count false ≤ fuel → Inv ops sk a0 V listed a w → wpAny P .any ops Q fuel listed a w := by
    have hdone : ∀ (listed : Array Bool) (a : Act) (w : World), listed.size = ops.size → Inv ops sk a0 V listed a w → Region.ready .any ops listed = [] → Q .normal a w := by
      intro listed a w hsz hI hr
      refine hend a w hI.held hI.bl (fun j k hj hk => hI.ok j k ?_ hk)
      clear hk
      induction j using Nat.strongRecOn with
      | _ j ih =>
        cases hl : listed.getD j false with
        | true => rfl
        | false =>
          exfalso
          have h1 : j ∈ Region.ready .any ops listed := by
            refine ready_mem.2 ⟨hj, ?_, ops[j], Array.getElem?_eq_getElem hj, fun e he hb => ?_⟩
            · rw [Array.getD_eq_getD_getElem?, Array.getElem?_eq_getElem (by omega)] at hl ⊢
              simpa using hl
            · have hlt := dagFrom_get hdag j ops[j] (by rw [Array.getElem?_toList]; exact Array.getElem?_eq_getElem hj) e he hb
              exact ih e.on (by omega) (by omega)
          rw [hr] at h1
          cases h1
    intro fuel
    induction fuel with
    | zero =>
      intro listed a w hsz hc hI
      have hr : Region.ready .any ops listed = [] := by
        rw [List.eq_nil_iff_forall_not_mem]
        intro i hi
        obtain ⟨h1, h2, _⟩ := ready_mem.1 hi
        have h3 : false ∈ listed.toList := by
          rw [Array.getD_eq_getD_getElem?, Array.getElem?_eq_getElem (by omega)] at h2
          simp at h2
          rw [← h2]
          exact Array.getElem_mem_toList _
        have := List.count_pos_iff.2 h3
        omega
      exact ⟨hr, hdone listed a w hsz hI hr⟩
    | succ fuel ih =>
      intro listed a w hsz hc hI
      refine ⟨hdone listed a w hsz hI, fun i hi => ?_⟩
      obtain ⟨h1, h2, o, h3, h4⟩ := ready_mem.1 hi
      obtain ⟨k, h5, h6⟩ := Stps.get hst i o (by rw [Array.getElem?_toList]; exact h3)
      have hdep : ∀ j, waitsB o j = true → listed.getD j false = true := fun j hj => by
        simp only [waitsB, Array.any_eq_true'] at hj
        obtain ⟨e, he, hj⟩ := hj
        simp only [Bool.and_eq_true, beq_iff_eq] at hj
        exact hj.1 ▸ h4 e he hj.2
      obtain ⟨h10, h11⟩ := h6 a w hI.held hI.bl (fun j hj k hk => hI.ok j k (hdep j hj) hk)
      have hcnt : (listed.setIfInBounds i true).toList.count false ≤ fuel := by
        have hlt : i < listed.toList.length := by rw [Array.length_toList]; omega
        have hf : listed.toList[i] = false := by
          rw [Array.getD_eq_getD_getElem?, Array.getElem?_eq_getElem (by omega)] at h2
          simpa using h2
        rw [Array.toList_setIfInBounds, List.count_set hlt, hf]
        have hp : 0 < listed.toList.count false := List.count_pos_iff.2 (by rw [← hf]; exact List.getElem_mem hlt)
        simp
        simp at hp hc
        omega
      have hgo : ∀ a' w', Inv ops sk a0 V (listed.setIfInBounds i true) a' w' → wpAny P .any ops Q fuel (listed.setIfInBounds i true) a' w' := fun a' w' hI' => ih _ a' w' (by simpa using hsz) hcnt hI'
      have hlt : ∀ d, o.dst = some d → d < a.tmps.size := fun d hd => by rw [hI.held.size]; exact (dstsC_get hdst i o d (by rw [Array.getElem?_toList]; exact h3) hd).1
      unfold wpOp
      rw [h3]
      simp only
      rw [if_pos h10]
      left
      cases k with
      | is c =>
        obtain ⟨hd, h11⟩ := h11
        obtain ⟨d, hd⟩ := Option.isSome_iff_exists.1 hd
        refine Oper.wp_mono (fun a' w' h => ?_) h11
        obtain ⟨rfl, hb⟩ := h
        exact hgo _ _ (hI.put_ hdst hp h3 hd h5 (fun _ _ => by simp) (slot_self h3 hd (hlt d hd)) hb h2 (fun e => by cases e))
      | iv z =>
        obtain ⟨hd, h11⟩ := h11
        obtain ⟨d, hd⟩ := Option.isSome_iff_exists.1 hd
        refine Oper.wp_mono (fun a' w' h => ?_) h11
        obtain ⟨v, rfl, hv, hb⟩ := h
        exact hgo _ _ (hI.put_ hdst hp h3 hd h5 (fun _ _ => by simp) ⟨v, slot_self h3 hd (hlt d hd), hv⟩ hb h2 (fun e => by cases e))
      | any =>
        obtain ⟨hd, h11⟩ := h11
        obtain ⟨d, hd⟩ := Option.isSome_iff_exists.1 hd
        refine Oper.wp_mono (fun a' w' h => ?_) h11
        obtain ⟨v, rfl, hb⟩ := h
        exact hgo _ _ (hI.put_ hdst hp h3 hd h5 (fun _ _ => by simp) ⟨v, slot_self h3 hd (hlt d hd)⟩ hb h2 (fun e => by cases e))
      | tup l =>
        obtain ⟨hd, h11⟩ := h11
        obtain ⟨d, hd⟩ := Option.isSome_iff_exists.1 hd
        refine Oper.wp_mono (fun a' w' h => ?_) h11
        obtain ⟨vs, rfl, hv, hb⟩ := h
        exact hgo _ _ (hI.put_ hdst hp h3 hd h5 (fun _ _ => by simp) ⟨vs, slot_self h3 hd (hlt d hd), hv⟩ hb h2 (fun e => by cases e))
      | new =>
        obtain ⟨hd, h11⟩ := h11
        obtain ⟨d, hd⟩ := Option.isSome_iff_exists.1 hd
        refine Oper.wp_mono (fun a' w' h => ?_) h11
        obtain ⟨rfl, rfl⟩ := h
        exact hgo _ _ (hI.put_ hdst hp h3 hd h5 (fun _ _ => by simp) ⟨_, _, _, _, _, slot_self h3 hd (hlt d hd), hI.bl.size, Box.new _ _ _⟩ ((Below.refl _ _).alloc (Nat.le_refl _) _) h2 (fun _ => rfl))
      | put j z =>
        obtain ⟨hwj, h11⟩ := h11
        have hlj := hdep j hwj
        obtain ⟨g, b, A', n', c', e1, e2, e3⟩ := hI.ok j .new hlj (hp i j z h5).2
        obtain ⟨s, A, n, c, hv, h12⟩ := h11 g e1
        refine Oper.wp_mono (fun a' w' h => ?_) (h12 ⟨_, _, _, _, e3⟩)
        obtain ⟨rfl, rfl⟩ := h
        exact hgo _ _ (hI.store_ hp ht h5 hlj e1 hv)
  refine wp_region_any hm (main ops.size _ a0 w0.drew (by simp) ?_ ⟨⟨rfl, rfl, fun _ _ => rfl⟩, hV, ?_, ?_, ?_⟩)
  · rw [Array.toList_replicate]
    simp
  all_goals
    have hno : ∀ j, (Array.replicate ops.size false).getD j false = true → False := by
      intro j hj
      rw [Array.getD_eq_getD_getElem?, Array.getElem?_replicate] at hj
      split at hj <;> simp at hj
  · exact fun j k hj _ => (hno j hj).elim
  · exact fun i j g g' hi _ _ _ _ _ _ => (hno i hi).elim
  · exact fun i j z hi _ => (hno i hi).elim

/-! ### What is left behind the region, slot by slot -/
def allQ (B : Nat) (w : World) : List Sq → List Value → (List Value → Prop) → Prop
  | [], _, F => F []
  | .is c :: ks, acc, F => allQ B w ks (acc ++ [c]) (fun vs => F (c :: vs))
  | .iv z :: ks, acc, F => ∀ v, Iv w v z → allQ B w ks (acc ++ [v]) (fun vs => F (v :: vs))
  | .any :: ks, acc, F => ∀ v, allQ B w ks (acc ++ [v]) (fun vs => F (v :: vs))
  | .tup l :: ks, acc, F => ∀ us, okT w l us → allQ B w ks (acc ++ [.tuple us.toArray]) (fun vs => F (.tuple us.toArray :: vs))
  | .new :: ks, acc, F => ∀ g, B ≤ g → allQ B w ks (acc ++ [ptr g]) (fun vs => F (ptr g :: vs))
  | .put j z :: ks, acc, F => ∀ g s A n c, acc[j]? = some (ptr g) → Box w g s (.slice A n c) → Iv w (.agg #[.bool s, .slice A n c]) z → allQ B w ks (acc ++ [undef]) (fun vs => F (undef :: vs))
def okv (B : Nat) (w : World) (acc : List Value) (v : Value) : Sq → Prop
  | .is c => v = c
  | .iv z => Iv w v z
  | .any => True
  | .tup l => ∃ us, v = .tuple us.toArray ∧ okT w l us
  | .new => ∃ g, v = ptr g ∧ B ≤ g
  | .put j z => v = undef ∧ ∃ g s A n c, acc[j]? = some (ptr g) ∧ Box w g s (.slice A n c) ∧ Iv w (.agg #[.bool s, .slice A n c]) z
def goodQ (B : Nat) (w : World) : List Sq → List Value → List Value → Prop
  | k :: ks, acc, v :: vs => okv B w acc v k ∧ goodQ B w ks (acc ++ [v]) vs
  | [], _, [] => True
  | _, _, _ => False
theorem allQ_get {B : Nat} {w : World} : ∀ {sk : List Sq} {acc : List Value} {F : List Value → Prop} {vs : List Value}, allQ B w sk acc F → goodQ B w sk acc vs → F vs
  | [], acc, F, [], h, _ => h
  | [], acc, F, _ :: _, h, hg => hg.elim
  | k :: ks, acc, F, [], h, hg => by cases k <;> exact hg.elim
  | .is c :: ks, acc, F, v :: vs, h, hg => by
    have e : v = c := hg.1
    subst e
    exact allQ_get (F := fun vs => F (v :: vs)) h hg.2
  | .iv z :: ks, acc, F, v :: vs, h, hg => allQ_get (F := fun vs => F (v :: vs)) (h v hg.1) hg.2
  | .any :: ks, acc, F, v :: vs, h, hg => allQ_get (F := fun vs => F (v :: vs)) (h v) hg.2
  | .tup l :: ks, acc, F, v :: vs, h, hg => by
    obtain ⟨us, e, hB⟩ := hg.1
    subst e
    exact allQ_get (F := fun vs => F (.tuple us.toArray :: vs)) (h us hB) hg.2
  | .new :: ks, acc, F, v :: vs, h, hg => by
    obtain ⟨g, e, hB⟩ := hg.1
    subst e
    exact allQ_get (F := fun vs => F (ptr g :: vs)) (h g hB) hg.2
  | .put j z :: ks, acc, F, v :: vs, h, hg => by
    obtain ⟨e, g, s, A, n, c, h1, h2, h3⟩ := hg.1
    subst e
    exact allQ_get (F := fun vs => F (undef :: vs)) (h g s A n c h1 h2 h3) hg.2
def setOpt : List Value → List (Option Nat) → List Value → List Value
  | l, some d :: ds, v :: vs => setOpt (l.set d v) ds vs
  | l, none :: ds, _ :: vs => setOpt l ds vs
  | l, _, _ => l
theorem setOpt_other : ∀ {l : List Value} {ds : List (Option Nat)} {vs : List Value} {k : Nat}, some k ∉ ds → (setOpt l ds vs)[k]? = l[k]?
  | l, [], vs, k, _ => by cases vs <;> rfl
  | l, none :: ds, [], k, _ => rfl
  | l, some d :: ds, [], k, _ => rfl
  | l, none :: ds, v :: vs, k, h => by
    simp only [List.mem_cons, not_or] at h
    rw [setOpt, setOpt_other h.2]
  | l, some d :: ds, v :: vs, k, h => by
    simp only [List.mem_cons, not_or] at h
    rw [setOpt, setOpt_other h.2, List.getElem?_set_ne (fun e => h.1 (by rw [e]))]
theorem setOpt_at : ∀ {l : List Value} {ds : List (Option Nat)} {vs : List Value} {i k : Nat}, (∀ (i j d : Nat), ds[i]? = some (some d) → ds[j]? = some (some d) → i = j) → ds.length = vs.length → ds[i]? = some (some k) → k < l.length → (setOpt l ds vs)[k]? = vs[i]?
  | l, [], vs, i, k, _, _, h, _ => by simp at h
  | l, d :: ds, [], i, k, _, hl, _, _ => by simp at hl
  | l, some d :: ds, v :: vs, 0, k, hn, hl, h, hk => by
    simp at h
    subst h
    have hno : some d ∉ ds := by
      intro hm
      obtain ⟨j, hj⟩ := List.getElem?_of_mem hm
      have := hn 0 (j + 1) d rfl (by simpa using hj)
      omega
    rw [setOpt, setOpt_other hno, List.getElem?_set_self hk]
    rfl
  | l, none :: ds, v :: vs, 0, k, hn, hl, h, hk => by simp at h
  | l, some d :: ds, v :: vs, i + 1, k, hn, hl, h, hk => by
    simp at h hl
    rw [setOpt, setOpt_at (fun i j d' h1 h2 => by have := hn (i + 1) (j + 1) d' (by simpa using h1) (by simpa using h2); omega) hl h (by simpa using hk)]
    rfl
  | l, none :: ds, v :: vs, i + 1, k, hn, hl, h, hk => by
    simp at h hl
    rw [setOpt, setOpt_at (fun i j d' h1 h2 => by have := hn (i + 1) (j + 1) d' (by simpa using h1) (by simpa using h2); omega) hl h hk]
    rfl
theorem goodQ_of {B : Nat} {w : World} : ∀ (ks : List Sq) (acc vs : List Value), vs.length = ks.length → (∀ i k, ks[i]? = some k → okv B w (acc ++ vs.take i) ((vs[i]?).getD undef) k) → goodQ B w ks acc vs
  | [], acc, [], _, _ => trivial
  | [], acc, _ :: _, h, _ => by simp at h
  | _ :: _, acc, [], h, _ => by simp at h
  | k :: ks, acc, v :: vs, h, hh => by
    simp at h
    refine ⟨by simpa using hh 0 k rfl, goodQ_of ks (acc ++ [v]) vs h (fun i k' hk => ?_)⟩
    have := hh (i + 1) k' (by simpa using hk)
    simpa using this

def putNone : List Oper → List Sq → Bool
  | o :: l, .put _ _ :: ks => o.dst.isNone && putNone l ks
  | _ :: l, _ :: ks => putNone l ks
  | _, _ => true
theorem putNone_get : ∀ {l : List Oper} {ks : List Sq}, putNone l ks = true → ∀ (i j : Nat) (z : Int) (o : Oper), l[i]? = some o → ks[i]? = some (.put j z) → o.dst = none
  | [], _, _, i, j, z, o, h, _ => by simp at h
  | _ :: _, [], _, i, j, z, o, _, h => by simp at h
  | o :: l, k :: ks, hp, 0, j, z, o', h1, h2 => by
    simp at h1 h2
    subst h1 h2
    simp only [putNone, Bool.and_eq_true] at hp
    simpa using hp.1
  | o :: l, k :: ks, hp, i + 1, j, z, o', h1, h2 => by
    simp at h1 h2
    have hp2 : putNone l ks = true := by
      cases k <;> simp only [putNone, Bool.and_eq_true] at hp <;> first | exact hp | exact hp.2
    exact putNone_get hp2 i j z o' h1 h2

theorem region_go {P : Program} {id : Nat} {ops : Array Oper} {Q : Exit → Act → World → Prop} {a0 : Act} {w0 : World} (V : World) (sk : List Sq) (ds : List (Option Nat))
    (hm : P.follows .mixedOrders = true) (hdag : dagFrom 0 ops.toList = true) (hdst : dstsC a0.tmps.size ops.toList = true) (hpf : putsFrom sk 0 sk = true) (htg : decide (targets sk).Nodup = true) (hd : ops.toList.map (·.dst) = ds) (hpn : putNone ops.toList sk = true)
    (hV : Below V.heap.size V w0.drew) (hst : ∀ Q', Stps P ops sk a0 V Q' ops.toList sk)
    (hend : ∀ K : Act → World → Prop, (∀ a w, Q .normal a w → K a w) → ∀ w, Below V.heap.size V w → allQ V.heap.size w sk [] (fun vs => K ⟨(setOpt a0.tmps.toList ds vs).toArray, a0.defers⟩ w)) : (Code.region id ops true).wp P Q a0 w0 := by
  refine region_st sk hm hdag hdst hpf htg hV (hst Q) (fun a w hh hs has => ?_)
  have hskl : ops.toList.length = sk.length := Stps.len (hst Q)
  rw [Array.length_toList] at hskl
  let vs : List Value := (List.range ops.size).map fun i => (slotOf ops a.tmps i).getD undef
  have hvl : vs.length = ops.size := by simp [vs]
  have hvg : ∀ i, i < ops.size → vs[i]? = some ((slotOf ops a.tmps i).getD undef) := fun i hi => by simp [vs, hi]
  have hgood : goodQ V.heap.size w sk [] vs := by
    refine goodQ_of sk [] vs (by omega) (fun i k hk => ?_)
    have hi : i < ops.size := by
      rcases Nat.lt_or_ge i sk.length with h | h
      · omega
      · rw [List.getElem?_eq_none h] at hk; cases hk
    have h1 := has i k hi hk
    rw [hvg i hi, List.nil_append]
    simp only [Option.getD_some]
    cases k with
    | is c => rw [show slotOf ops a.tmps i = some c from h1]; rfl
    | iv z => obtain ⟨v, e, h2⟩ := h1; rw [e]; exact h2
    | any => trivial
    | tup l => obtain ⟨us, e, h2⟩ := h1; rw [e]; exact ⟨us, rfl, h2⟩
    | new => obtain ⟨g, b, A, n, c, e, h2, _⟩ := h1; rw [e]; exact ⟨g, rfl, h2⟩
    | put j z =>
      obtain ⟨g, b, A, n, c, e, h2, h3, h4⟩ := h1
      have hji := (putsFrom_get hpf i j z hk).1
      have hno := putNone_get hpn i j z ops[i] (by rw [Array.getElem?_toList]; exact Array.getElem?_eq_getElem hi) hk
      refine ⟨?_, g, b, A, n, c, ?_, h3, h4⟩
      · have : slotOf ops a.tmps i = none := by unfold slotOf; rw [Array.getElem?_eq_getElem hi]; simp [hno]
        rw [this]; rfl
      · rw [List.getElem?_take, if_pos (by omega), hvg j (by omega), e]
        rfl
  have key := allQ_get (hend (fun a w => Q .normal a w) (fun _ _ h => h) w hs) hgood
  have hop : ∀ (i d : Nat), ds[i]? = some (some d) → ∃ o, ops[i]? = some o ∧ o.dst = some d := by
    intro i d hi
    rw [← hd, List.getElem?_map, Array.getElem?_toList] at hi
    cases ho : ops[i]? with
    | none => rw [ho] at hi; simp at hi
    | some o => rw [ho] at hi; exact ⟨o, rfl, by simpa using hi⟩
  have he : a = ⟨(setOpt a0.tmps.toList ds vs).toArray, a0.defers⟩ := by
    obtain ⟨t, df⟩ := a
    have e1 : df = a0.defers := hh.defers
    subst e1
    congr 1
    refine Array.ext_getElem? (fun k => ?_)
    have e9 : (setOpt a0.tmps.toList ds vs).toArray[k]? = (setOpt a0.tmps.toList ds vs)[k]? := by simp
    show t[k]? = (setOpt a0.tmps.toList ds vs).toArray[k]?
    rw [e9]
    have hsize : t.size = a0.tmps.size := hh.size
    by_cases hk : some k ∈ ds
    · obtain ⟨i, hi⟩ := List.getElem?_of_mem hk
      obtain ⟨o, ho, hod⟩ := hop i k hi
      have hil : i < ops.size := by
        rcases Nat.lt_or_ge i ops.size with h | h
        · exact h
        · rw [Array.getElem?_eq_none h] at ho; cases ho
      have e3 := (dstsC_get hdst i o k (by rw [Array.getElem?_toList]; exact ho) hod).1
      have huniq : ∀ (i j d : Nat), ds[i]? = some (some d) → ds[j]? = some (some d) → i = j := by
        intro i j d h1 h2
        obtain ⟨o1, ho1, hd1⟩ := hop i d h1
        obtain ⟨o2, ho2, hd2⟩ := hop j d h2
        rcases Nat.decEq j i with h | h
        · exact absurd hd2 ((dstsC_get hdst i o1 d (by rw [Array.getElem?_toList]; exact ho1) hd1).2 j o2 (by rw [Array.getElem?_toList]; exact ho2) h)
        · exact h.symm
      rw [setOpt_at huniq (by rw [hvl, ← hd]; simp) hi (by rw [Array.length_toList]; exact e3), hvg i hil]
      have e4 : slotOf ops t i = t[k]? := by unfold slotOf; simp [ho, hod]
      rw [e4]
      have hkt : k < t.size := by omega
      rw [Array.getElem?_eq_getElem hkt]
      rfl
    · rw [setOpt_other hk, Array.getElem?_toList]
      refine hh.rest k ?_
      refine List.all_eq_true.2 (fun o ho => ?_)
      simp only [bne_iff_ne, ne_eq]
      intro e2
      apply hk
      rw [← hd]
      exact List.mem_map.2 ⟨o, ho, e2⟩
  rw [he]
  exact key

/-! ### Steps -/
section
variable {o : Oper} {a : Act} {w : World} {K : Act → World → Prop} {Q : Exit → Act → World → Prop}
theorem wp_valw {v : Value} {w' : World} (hr : (execOp a.eval o).run Try.prog w = .ok (.value v) w') (h : K (a.put o.dst v) w') : o.wp Try.prog a w K Q := by
  unfold Oper.wp
  rw [hr]
  exact h
theorem wp_skipw {w' : World} (hr : (execOp a.eval o).run Try.prog w = .ok .skip w') (hd : o.dst = none) (h : K a w') : o.wp Try.prog a w K Q := by
  unfold Oper.wp
  rw [hr]
  show K (a.put o.dst undef) w'
  rw [hd]
  exact h
theorem run_alloc {ρ : Operand → Value} (ho : o.op = .alloc 27) : (execOp ρ o).run Try.prog w = .ok (.value (ptr w.heap.size)) (w.alloc (Obj.cells #[.bool false, .slice none 0 0] 27)) := by
  simp [execOp, ho, go_sem, ptr]
theorem run_extract {ρ : Operand → Value} {x : Operand} {i : Nat} {vs : List Value} {v : Value} (ho : o.op = .extract x i) (hx : ρ x = .tuple vs.toArray) (hi : vs[i]? = some v) : (execOp ρ o).run Try.prog w = .ok (.value v) w := by
  simp [execOp, ho, hx, go_sem, hi]
theorem run_store {ρ : Operand → Value} {x y : Operand} {g : Nat} {b s : Bool} {A A' : Option Addr} {n c n' c' : Nat} (ho : o.op = .store 27 x y) (hx : ρ x = ptr g) (hy : ρ y = .agg #[.bool s, .slice A n c]) (hb : Box w g b (.slice A' n' c')) :
    (execOp ρ o).run Try.prog w = .ok .skip ((w.setCell ⟨g, 0, none⟩ (.bool s)).setCell ⟨g, 1, none⟩ (.slice A n c)) := by
  have h0 := hb.cell0
  have h1 := hb.cell1
  have h2 := hb.frozen 0
  have h3 := hb.frozen 1
  simp [execOp, ho, hx, hy, go_sem, ptr, h0, h1, h2, h3]
theorem slot_get {ops : Array Oper} {t : Array Value} {j d : Nat} {o' : Oper} {v : Value} (ho : ops[j]? = some o') (hd : o'.dst = some d) (h : slotOf ops t j = some v) : t[d]? = some v := by
  unfold slotOf at h
  simpa [ho, hd] using h
end
end Go.Proofs.Ytfigimfdojbkeaa

