/-
  A region that draws its order, with calls, memory that it makes and stores: one step for each operation, whatever the order.
-/
import Derived.Below
import Derived.Laws.OwnMore
import Derived.Deep.RegionHeld
set_option linter.unusedSimpArgs false
set_option linter.unusedVariables false
namespace Go.Proofs.Ytfigimfdojbkeaa.Rg
open Go.RowKit

/-- No operation writes slot k. -/
def notDst (ops : Array Oper) (k : Nat) : Bool := ops.toList.all fun o => o.dst != some k
/-- Operation o waits for number j. -/
def waitsB (o : Oper) (j : Nat) : Bool := o.after.any fun e => e.on == j && Region.binds .any e
def dagFrom : Nat → List Oper → Bool
  | _, [] => true
  | i, o :: l => (o.after.all fun e => !Region.binds .any e || decide (e.on < i)) && dagFrom (i + 1) l
structure Held (ops : Array Oper) (a0 a : Act) : Prop where
  defers : a.defers = a0.defers
  size : a.tmps.size = a0.tmps.size
  rest : ∀ k, notDst ops k = true → a.tmps[k]? = a0.tmps[k]?

theorem dagFrom_get : ∀ {i : Nat} {l : List Oper}, dagFrom i l = true → ∀ (j : Nat) (o : Oper), l[j]? = some o → ∀ e ∈ o.after, Region.binds .any e = true → e.on < i + j
  | _, [], _, j, o, h => by simp at h
  | i, o :: l, hd, 0, o', e => by
    simp at e
    subst e
    intro x hx hb
    simp only [dagFrom, Bool.and_eq_true, Array.all_eq_true'] at hd
    have := hd.1 x hx
    simp [hb] at this
    omega
  | i, o :: l, hd, j + 1, o', e => by
    simp at e
    simp only [dagFrom, Bool.and_eq_true] at hd
    intro x hx hb
    have := dagFrom_get hd.2 j o' e x hx hb
    omega

theorem ready_mem {ops : Array Oper} {listed : Array Bool} {i : Nat} : i ∈ Region.ready .any ops listed ↔ i < ops.size ∧ listed.getD i true = false ∧ ∃ o, ops[i]? = some o ∧ ∀ e ∈ o.after, Region.binds .any e = true → listed.getD e.on false = true := by
  unfold Region.ready
  rw [List.mem_filter, List.mem_range, Bool.and_eq_true]
  constructor
  · rintro ⟨h1, h2, h3⟩
    refine ⟨h1, by simpa using h2, ops[i], Array.getElem?_eq_getElem h1, ?_⟩
    rw [Array.getElem?_eq_getElem h1] at h3
    simp only [Option.map_some, Option.getD_some, Array.all_eq_true'] at h3
    intro e he hb
    have := h3 e he
    simpa [hb] using this
  · rintro ⟨h1, h2, o, h3, h4⟩
    refine ⟨h1, by simpa using h2, ?_⟩
    rw [h3]
    simp only [Option.map_some, Option.getD_some, Array.all_eq_true']
    intro e he
    by_cases hb : Region.binds .any e = true
    · simp [hb, h4 e he hb]
    · simp [hb]

def slotOf (ops : Array Oper) (t : Array Value) (j : Nat) : Option Value := ((ops[j]?).bind (·.dst)).bind (t[·]?)
def dstsC (n : Nat) : List Oper → Bool
  | [] => true
  | o :: l => (match o.dst with | some d => decide (d < n) && (l.all fun o' => o'.dst != o.dst) | none => true) && dstsC n l

theorem dstsC_get {n : Nat} : ∀ {l : List Oper}, dstsC n l = true → ∀ (i : Nat) (o : Oper) (d : Nat), l[i]? = some o → o.dst = some d → d < n ∧ ∀ (j : Nat) (o' : Oper), l[j]? = some o' → j ≠ i → o'.dst ≠ some d
  | [], _, i, o, d => by simp
  | o :: l, hd, 0, o', d => by
    intro e he
    simp at e
    subst e
    simp only [dstsC, he, Bool.and_eq_true] at hd
    refine ⟨by simpa using hd.1.1, fun j o'' hj hne => ?_⟩
    obtain ⟨j, rfl⟩ : ∃ j', j = j' + 1 := ⟨j - 1, by omega⟩
    simp at hj
    have h1 := (List.all_eq_true.1 hd.1.2) o'' (List.mem_of_getElem? hj)
    simpa using h1
  | o :: l, hd, i + 1, o', d => by
    intro e he
    simp at e
    have hd2 : dstsC n l = true := by simp only [dstsC, Bool.and_eq_true] at hd; exact hd.2
    obtain ⟨h2, h3⟩ := dstsC_get hd2 i o' d e he
    refine ⟨h2, fun j o'' hj hne => ?_⟩
    rcases j with _ | j
    · simp at hj
      subst hj
      intro e2
      simp only [dstsC, e2, Bool.and_eq_true] at hd
      have h4 := (List.all_eq_true.1 hd.1.2) o' (List.mem_of_getElem? e)
      rw [he] at h4
      simp at h4
    · simp at hj
      exact h3 j o'' hj (by omega)
theorem slot_put {ops : Array Oper} {t : Array Value} {n i d : Nat} {o : Oper} {v : Value} (hdst : dstsC n ops.toList = true) (ho : ops[i]? = some o) (hd : o.dst = some d) {j : Nat} (hj : j ≠ i) :
    slotOf ops (t.setIfInBounds d v) j = slotOf ops t j := by
  unfold slotOf
  cases hoj : ops[j]? with
  | none => rfl
  | some o' =>
    cases hdj : o'.dst with
    | none => simp [hdj]
    | some d' =>
      have h1 := (dstsC_get hdst i o d (by rw [Array.getElem?_toList]; exact ho) hd).2 j o' (by rw [Array.getElem?_toList]; exact hoj) hj
      have hne : d ≠ d' := by rintro rfl; exact h1 hdj
      simp [hdj, Array.getElem?_setIfInBounds, hne]
theorem slot_self {ops : Array Oper} {t : Array Value} {i d : Nat} {o : Oper} {v : Value} (ho : ops[i]? = some o) (hd : o.dst = some d) (hlt : d < t.size) : slotOf ops (t.setIfInBounds d v) i = some v := by
  unfold slotOf
  simp [ho, hd, Array.getElem?_setIfInBounds, hlt]

theorem listed_set {listed : Array Bool} {i j : Nat} (h : (listed.setIfInBounds i true).getD j false = true) (hne : j ≠ i) : listed.getD j false = true := by
  rw [Array.getD_eq_getD_getElem?, Array.getElem?_setIfInBounds, if_neg (by omega)] at h
  rw [Array.getD_eq_getD_getElem?]
  exact h
theorem listed_mono {listed : Array Bool} {i j : Nat} (h : listed.getD j false = true) : (listed.setIfInBounds i true).getD j false = true := by
  rw [Array.getD_eq_getD_getElem?, Array.getElem?_setIfInBounds]
  rw [Array.getD_eq_getD_getElem?] at h
  split
  · split
    · rfl
    · rename_i h1 h2
      subst h1
      rw [Array.getElem?_eq_none (by omega)] at h
      simp at h
  · exact h

theorem put_tmps {a : Act} {o : Oper} {d : Nat} {v : Value} (h : o.dst = some d) : (a.put o.dst v).tmps = a.tmps.setIfInBounds d v := by rw [h]; rfl
theorem held_put {ops : Array Oper} {a0 a : Act} {o : Oper} {i d : Nat} {v : Value} (hh : Held ops a0 a) (ho : ops[i]? = some o) (hd : o.dst = some d) : Held ops a0 (a.put o.dst v) := by
  refine ⟨by rw [hd]; exact hh.defers, by rw [put_tmps hd]; simpa using hh.size, fun j hj => ?_⟩
  rw [put_tmps hd, Array.getElem?_setIfInBounds]
  have hne : d ≠ j := by
    rintro rfl
    have := (List.all_eq_true.1 hj) o (List.mem_of_getElem? (i := i) (by rw [Array.getElem?_toList]; exact ho))
    rw [hd] at this
    simp at this
  rw [if_neg hne]
  exact hh.rest j hj

def setOpt : List Value → List (Option Nat) → List Value → List Value
  | l, some d :: ds, v :: vs => setOpt (l.set d v) ds vs
  | l, none :: ds, _ :: vs => setOpt l ds vs
  | l, _, _ => l
theorem setOpt_other : ∀ {l : List Value} {ds : List (Option Nat)} {vs : List Value} {k : Nat}, some k ∉ ds → (setOpt l ds vs)[k]? = l[k]?
  | l, [], vs, k, _ => by cases vs <;> rfl
  | l, none :: ds, [], k, _ => rfl
  | l, some d :: ds, [], k, _ => rfl
  | l, none :: ds, v :: vs, k, h => by
    simp only [List.mem_cons, not_or] at h
    rw [setOpt, setOpt_other h.2]
  | l, some d :: ds, v :: vs, k, h => by
    simp only [List.mem_cons, not_or] at h
    rw [setOpt, setOpt_other h.2, List.getElem?_set_ne (fun e => h.1 (by rw [e]))]
theorem setOpt_at : ∀ {l : List Value} {ds : List (Option Nat)} {vs : List Value} {i k : Nat}, (∀ (i j d : Nat), ds[i]? = some (some d) → ds[j]? = some (some d) → i = j) → ds.length = vs.length → ds[i]? = some (some k) → k < l.length → (setOpt l ds vs)[k]? = vs[i]?
  | l, [], vs, i, k, _, _, h, _ => by simp at h
  | l, d :: ds, [], i, k, _, hl, _, _ => by simp at hl
  | l, some d :: ds, v :: vs, 0, k, hn, hl, h, hk => by
    simp at h
    subst h
    have hno : some d ∉ ds := by
      intro hm
      obtain ⟨j, hj⟩ := List.getElem?_of_mem hm
      have := hn 0 (j + 1) d rfl (by simpa using hj)
      omega
    rw [setOpt, setOpt_other hno, List.getElem?_set_self hk]
    rfl
  | l, none :: ds, v :: vs, 0, k, hn, hl, h, hk => by simp at h
  | l, some d :: ds, v :: vs, i + 1, k, hn, hl, h, hk => by
    simp at h hl
    rw [setOpt, setOpt_at (fun i j d' h1 h2 => by have := hn (i + 1) (j + 1) d' (by simpa using h1) (by simpa using h2); omega) hl h (by simpa using hk)]
    rfl
  | l, none :: ds, v :: vs, i + 1, k, hn, hl, h, hk => by
    simp at h hl
    rw [setOpt, setOpt_at (fun i j d' h1 h2 => by have := hn (i + 1) (j + 1) d' (by simpa using h1) (by simpa using h2); omega) hl h hk]
    rfl
theorem slot_get {ops : Array Oper} {t : Array Value} {j d : Nat} {o' : Oper} {v : Value} (ho : ops[j]? = some o') (hd : o'.dst = some d) (h : slotOf ops t j = some v) : t[d]? = some v := by
  unfold slotOf at h
  simpa [ho, hd] using h
/-- The block that a pointer or a slice points into. -/
def blockOf : Value → Option Nat
  | .pointer (some a) => some a.block
  | .slice (some a) _ _ => some a.block
  | _ => none

/-- Every cell that holds a number holds it still. -/
structure Kn (w w' : World) : Prop where
  size : w.heap.size ≤ w'.heap.size
  cell : ∀ a k y, w.cell? a = some (.int k y) → w'.cell? a = some (.int k y)
theorem Kn.refl (w : World) : Kn w w := ⟨Nat.le_refl _, fun _ _ _ h => h⟩
theorem Kn.trans {a b c : World} (h : Kn a b) (k : Kn b c) : Kn a c := ⟨Nat.le_trans h.size k.size, fun x i y e => k.cell x i y (h.cell x i y e)⟩
theorem Kn.of {w w' : World} (h : Below w.heap.size w w') : Kn w w' :=
  ⟨h.size, fun a k y e => by
    have := World.block_lt_of_cell? w a e
    rw [World.cell?_of_block (h.block a.block this)]
    exact e⟩
def Keeps (p : Value → World → Prop) : Prop := ∀ v w w', p v w → (∀ g, blockOf v = some g → w'.heap[g]? = w.heap[g]?) → Kn w w' → p v w'
def KeepN (p : Value → World → Prop) : Prop := ∀ v w w', p v w → Kn w w' → p v w'
def KeepW (g : Nat) (p : World → Prop) : Prop := ∀ w w', p w → w'.heap[g]? = w.heap[g]? → Kn w w' → p w'

/-- What an operation leaves: a value; a value with a property that speaks of numbers alone; memory that the region makes (the property speaks of its block too); what is put into the memory that operation j has made; what is put into the old block g. -/
inductive Sg where
  | is (c : Value)
  | sat (p : Value → World → Prop) (h : KeepN p)
  | own (p : Value → World → Prop) (h : Keeps p)
  | put (j : Nat) (p : Value → World → Prop) (h : Keeps p)
  | sto (g : Nat) (p : World → Prop) (h : KeepW g p)
def Sg.isOwn : Sg → Bool
  | .own _ _ => true
  | _ => false
def noPut (j : Nat) (sk : List Sg) : Bool := sk.all fun k => match k with | .put i _ _ => i != j | _ => true
/-- A value in a slot that points into memory made by the region. -/
def At (B : Nat) (ops : Array Oper) (t : Array Value) (j : Nat) (w : World) (v : Value) (g : Nat) : Prop := slotOf ops t j = some v ∧ blockOf v = some g ∧ B ≤ g ∧ g < w.heap.size
def Sg.has (sk : List Sg) (B : Nat) (ops : Array Oper) (t : Array Value) (j : Nat) (w : World) : Sg → Prop
  | .is c => slotOf ops t j = some c
  | .sat p _ => ∃ v, slotOf ops t j = some v ∧ p v w
  | .own p _ => ∃ v g, At B ops t j w v g ∧ (noPut j sk = true → p v w)
  | .put i p _ => ∃ v g, At B ops t i w v g ∧ p v w
  | .sto _ p _ => p w

/-- The blocks of V are unchanged but for those of O. -/
structure Bel (O : List Nat) (V w : World) : Prop where
  os : w.os = V.os
  tape : w.tape = V.tape
  output : w.output = V.output
  size : V.heap.size ≤ w.heap.size
  block : ∀ g, g < V.heap.size → g ∉ O → w.heap[g]? = V.heap[g]?
  kn : Kn V w
theorem Bel.below {V w : World} (h : Bel [] V w) : Below V.heap.size V w := ⟨h.os, h.tape, h.output, h.size, fun g hg => h.block g hg (by simp)⟩
theorem Bel.of {V w : World} (h : Below V.heap.size V w) (O : List Nat) : Bel O V w := ⟨h.os, h.tape, h.output, h.size, fun g hg _ => h.block g hg, Kn.of h⟩
theorem Bel.base {O : List Nat} {V w u : World} {B : Nat} (h : Bel O V w) (hb : Below B u V) (hs : B ≤ u.heap.size) (hO : ∀ g ∈ O, B ≤ g) : Below B u w :=
  ⟨h.os.trans hb.os, h.tape.trans hb.tape, h.output.trans hb.output, Nat.le_trans hb.size h.size, fun k hk => (h.block k (by have := hb.size; omega) (fun hm => by have := hO k hm; omega)).trans (hb.block k hk)⟩

def stos : List Sg → List Nat
  | [] => []
  | .sto g _ _ :: l => g :: stos l
  | _ :: l => stos l
def puts : List Sg → List Nat
  | [] => []
  | .put j _ _ :: l => j :: puts l
  | _ :: l => puts l
theorem mem_stos : ∀ {l : List Sg} {i g : Nat} {p : World → Prop} {h : KeepW g p}, l[i]? = some (.sto g p h) → g ∈ stos l
  | [], i, g, p, h, e => by simp at e
  | k :: l, 0, g, p, h, e => by simp at e; subst e; simp [stos]
  | k :: l, i + 1, g, p, h, e => by simp at e; have := mem_stos e; cases k <;> simp [stos, this]
theorem mem_puts : ∀ {l : List Sg} {i j : Nat} {p : Value → World → Prop} {h : Keeps p}, l[i]? = some (.put j p h) → j ∈ puts l
  | [], i, g, p, h, e => by simp at e
  | k :: l, 0, g, p, h, e => by simp at e; subst e; simp [puts]
  | k :: l, i + 1, g, p, h, e => by simp at e; have := mem_puts e; cases k <;> simp [puts, this]
theorem stos_one : ∀ {l : List Sg}, (stos l).Nodup → ∀ {a b g : Nat} {p q : World → Prop} {h : KeepW g p} {h' : KeepW g q}, l[a]? = some (.sto g p h) → l[b]? = some (.sto g q h') → a = b
  | [], _, a, b, g, p, q, h, h', e, _ => by simp at e
  | k :: l, hn, 0, 0, _, _, _, _, _, _, _ => rfl
  | k :: l, hn, 0, b + 1, g, p, q, h, h', e, e' => by
    simp at e e'
    subst e
    simp only [stos, List.nodup_cons] at hn
    exact (hn.1 (mem_stos e')).elim
  | k :: l, hn, a + 1, 0, g, p, q, h, h', e, e' => by
    simp at e e'
    subst e'
    simp only [stos, List.nodup_cons] at hn
    exact (hn.1 (mem_stos e)).elim
  | k :: l, hn, a + 1, b + 1, g, p, q, h, h', e, e' => by
    simp at e e'
    have hn2 : (stos l).Nodup := by cases k <;> simp only [stos, List.nodup_cons] at hn <;> first | exact hn | exact hn.2
    rw [stos_one hn2 e e']
theorem puts_one : ∀ {l : List Sg}, (puts l).Nodup → ∀ {a b j : Nat} {p q : Value → World → Prop} {h : Keeps p} {h' : Keeps q}, l[a]? = some (.put j p h) → l[b]? = some (.put j q h') → a = b
  | [], _, a, b, g, p, q, h, h', e, _ => by simp at e
  | k :: l, hn, 0, 0, _, _, _, _, _, _, _ => rfl
  | k :: l, hn, 0, b + 1, g, p, q, h, h', e, e' => by
    simp at e e'
    subst e
    simp only [puts, List.nodup_cons] at hn
    exact (hn.1 (mem_puts e')).elim
  | k :: l, hn, a + 1, 0, g, p, q, h, h', e, e' => by
    simp at e e'
    subst e'
    simp only [puts, List.nodup_cons] at hn
    exact (hn.1 (mem_puts e)).elim
  | k :: l, hn, a + 1, b + 1, g, p, q, h, h', e, e' => by
    simp at e e'
    have hn2 : (puts l).Nodup := by cases k <;> simp only [puts, List.nodup_cons] at hn <;> first | exact hn | exact hn.2
    rw [puts_one hn2 e e']
theorem noPut_of {l : List Sg} {i j : Nat} {p : Value → World → Prop} {h : Keeps p} (e : l[i]? = some (.put j p h)) : noPut j l = true → False := by
  intro hn
  have := (List.all_eq_true.1 hn) _ (List.mem_of_getElem? e)
  simp at this
/-- Each put's operation has made its memory, and comes before it. -/
def putsOk (sk : List Sg) : Nat → List Sg → Bool
  | _, [] => true
  | i, .put j _ _ :: l => decide (j < i) && ((sk[j]?).map Sg.isOwn == some true) && putsOk sk (i + 1) l
  | i, _ :: l => putsOk sk (i + 1) l
theorem putsOk_get {sk : List Sg} : ∀ {i : Nat} {l : List Sg}, putsOk sk i l = true → ∀ (m j : Nat) (p : Value → World → Prop) (h : Keeps p), l[m]? = some (.put j p h) → j < i + m ∧ ∃ q k, sk[j]? = some (.own q k)
  | _, [], _, m, j, p, h, e => by simp at e
  | i, k :: l, hp, 0, j, p, h, e => by
    simp at e
    subst e
    simp only [putsOk, Bool.and_eq_true] at hp
    refine ⟨by simpa using hp.1.1, ?_⟩
    have := hp.1.2
    cases hk : sk[j]? with
    | none => rw [hk] at this; simp at this
    | some k => rw [hk] at this; cases k <;> simp [Sg.isOwn] at this; exact ⟨_, _, rfl⟩
  | i, k :: l, hp, m + 1, j, p, h, e => by
    simp at e
    have hp2 : putsOk sk (i + 1) l = true := by
      cases k <;> simp only [putsOk, Bool.and_eq_true] at hp <;> first | exact hp | exact hp.2
    obtain ⟨h1, h2⟩ := putsOk_get hp2 m j p h e
    exact ⟨by omega, h2⟩

/-- What a step changes: nothing old, or the block g. -/
structure Chg (row : Option Nat) (w w' : World) : Prop where
  grown : w.grownBy w' row
  kn : Kn w w'
theorem Chg.none {w w' : World} (h : Below w.heap.size w w') : Chg none w w' := ⟨⟨h.os, h.tape, h.output, h.size, fun k hk _ => h.block k hk⟩, Kn.of h⟩

def Stp (P : Program) (ops : Array Oper) (sk : List Sg) (O : List Nat) (a0 : Act) (V : World) (Q : Exit → Act → World → Prop) (i : Nat) (o : Oper) (k : Sg) : Prop :=
  ∀ a w, Held ops a0 a → Bel O V w → (∀ j, waitsB o j = true → ∀ k, sk[j]? = some k → Sg.has sk V.heap.size ops a.tmps j w k) →
    (∀ (m g : Nat) (p : World → Prop) (h : KeepW g p) (om : Oper), sk[m]? = some (.sto g p h) → ops[m]? = some om → waitsB om i = true → w.heap[g]? = V.heap[g]?) →
    match k with
    | .is c => o.dst.isSome = true ∧ ((Region.wanted o (yielded ops a.tmps) = true ∧ o.wp P a w (fun a' w' => a' = a.put o.dst c ∧ Below w.heap.size w w') Q) ∨ (Region.wanted o (yielded ops a.tmps) = false ∧ c = undef))
    | .sat p _ => o.dst.isSome = true ∧ Region.wanted o (yielded ops a.tmps) = true ∧ o.wp P a w (fun a' w' => ∃ v, a' = a.put o.dst v ∧ p v w' ∧ Below w.heap.size w w') Q
    | .own p _ => o.dst.isSome = true ∧ Region.wanted o (yielded ops a.tmps) = true ∧ o.wp P a w (fun a' w' => ∃ v g, a' = a.put o.dst v ∧ blockOf v = some g ∧ w.heap.size ≤ g ∧ g < w'.heap.size ∧ p v w' ∧ Below w.heap.size w w') Q
    | .put j p' _ => o.dst = none ∧ Region.wanted o (yielded ops a.tmps) = true ∧ waitsB o j = true ∧ ∀ v g p h, sk[j]? = some (.own p h) → slotOf ops a.tmps j = some v → blockOf v = some g → p v w → o.wp P a w (fun a' w' => a' = a ∧ p' v w' ∧ Chg (some g) w w') Q
    | .sto g p' _ => o.dst = none ∧ Region.wanted o (yielded ops a.tmps) = true ∧ (w.heap[g]? = V.heap[g]? → o.wp P a w (fun a' w' => a' = a ∧ p' w' ∧ Chg (some g) w w') Q)

def Stps (P : Program) (ops : Array Oper) (sk : List Sg) (O : List Nat) (a0 : Act) (V : World) (Q : Exit → Act → World → Prop) : Nat → List Oper → List Sg → Prop
  | i, o :: l, k :: ks => Stp P ops sk O a0 V Q i o k ∧ Stps P ops sk O a0 V Q (i + 1) l ks
  | _, [], [] => True
  | _, _, _ => False
theorem Stps.get {P : Program} {ops : Array Oper} {sk : List Sg} {O : List Nat} {a0 : Act} {V : World} {Q : Exit → Act → World → Prop} : ∀ {b : Nat} {l : List Oper} {ks : List Sg}, Stps P ops sk O a0 V Q b l ks →
    ∀ (i : Nat) (o : Oper), l[i]? = some o → ∃ k, ks[i]? = some k ∧ Stp P ops sk O a0 V Q (b + i) o k
  | _, [], [], _, i, o, h => by simp at h
  | b, o :: l, k :: ks, h, 0, o', e => by
    simp at e
    subst e
    exact ⟨k, rfl, h.1⟩
  | b, o :: l, k :: ks, h, i + 1, o', e => by
    simp at e
    obtain ⟨k', h1, h2⟩ := Stps.get h.2 i o' e
    exact ⟨k', by simpa using h1, by rw [show b + (i + 1) = b + 1 + i by omega]; exact h2⟩
  | _, [], _ :: _, h, _, _, _ => h.elim
  | _, _ :: _, [], h, _, _, _ => h.elim
theorem Stps.len {P : Program} {ops : Array Oper} {sk : List Sg} {O : List Nat} {a0 : Act} {V : World} {Q : Exit → Act → World → Prop} : ∀ {b : Nat} {l : List Oper} {ks : List Sg}, Stps P ops sk O a0 V Q b l ks → l.length = ks.length
  | _, [], [], _ => rfl
  | _, o :: l, k :: ks, h => by simp [Stps.len h.2]
  | _, [], _ :: _, h => h.elim
  | _, _ :: _, [], h => h.elim

structure Inv (ops : Array Oper) (sk : List Sg) (O : List Nat) (a0 : Act) (V : World) (listed : Array Bool) (a : Act) (w : World) : Prop where
  held : Held ops a0 a
  bl : Bel O V w
  ok : ∀ j k, listed.getD j false = true → sk[j]? = some k → Sg.has sk V.heap.size ops a.tmps j w k
  fresh : ∀ j p h, listed.getD j false = true → sk[j]? = some (.own p h) → (∀ i p' h', sk[i]? = some (.put j p' h') → listed.getD i false = false) → ∀ v, slotOf ops a.tmps j = some v → p v w
  old : ∀ i g p h, sk[i]? = some (.sto g p h) → listed.getD i false = false → w.heap[g]? = V.heap[g]?
  dist : ∀ i j p q h k v u g g', listed.getD i false = true → listed.getD j false = true → i ≠ j → sk[i]? = some (.own p h) → sk[j]? = some (.own q k) → At V.heap.size ops a.tmps i w v g → At V.heap.size ops a.tmps j w u g' → g ≠ g'
  closed : ∀ i j p h, listed.getD i false = true → sk[i]? = some (.put j p h) → listed.getD j false = true
  deps : ∀ m om j, listed.getD m false = true → ops[m]? = some om → waitsB om j = true → listed.getD j false = true

theorem At.keep {B : Nat} {ops : Array Oper} {t t' : Array Value} {j g : Nat} {w w' : World} {v : Value} (h : At B ops t j w v g) (hs : slotOf ops t' j = slotOf ops t j) (hw : w.heap.size ≤ w'.heap.size) : At B ops t' j w' v g :=
  ⟨hs.trans h.1, h.2.1, h.2.2.1, Nat.lt_of_lt_of_le h.2.2.2 hw⟩
theorem At.one {B B' : Nat} {ops : Array Oper} {t : Array Value} {j g g' : Nat} {w w' : World} {v v' : Value} (h : At B ops t j w v g) (k : At B' ops t j w' v' g') : v = v' ∧ g = g' := by
  have e : v = v' := Option.some.inj (h.1.symm.trans k.1)
  subst e
  exact ⟨rfl, Option.some.inj (h.2.1.symm.trans k.2.1)⟩

theorem getD_not {l : Array Bool} {i : Nat} (h : l.getD i true = false) : l.getD i false = false := by
  rw [Array.getD_eq_getD_getElem?] at h ⊢
  cases hx : l[i]? with
  | none => rw [hx] at h; simp at h
  | some b => rw [hx] at h; simpa using h
theorem ne_listed {l : Array Bool} {i j : Nat} (h : l.getD i true = false) (k : l.getD j false = true) : j ≠ i := by
  rintro rfl
  rw [getD_not h] at k
  cases k
theorem set_not {l : Array Bool} {i j : Nat} (h : (l.setIfInBounds i true).getD j false = false) : l.getD j false = false := by
  cases hl : l.getD j false with
  | false => rfl
  | true => rw [listed_mono hl] at h; cases h

/-- The row that a kind changes. -/
def rowOf (k : Sg) (ops : Array Oper) (t : Array Value) (row : Option Nat) : Prop :=
  match k with
  | .put j _ _ => ∃ v g, slotOf ops t j = some v ∧ blockOf v = some g ∧ row = some g
  | .sto g _ _ => row = some g
  | _ => row = none

theorem Inv.step {ops : Array Oper} {sk : List Sg} {O : List Nat} {a0 a a' : Act} {V w w' : World} {listed : Array Bool} {i : Nat} {k : Sg} {row : Option Nat} (h : Inv ops sk O a0 V listed a w)
    (hpo : ∀ (m j : Nat) (p : Value → World → Prop) (h : Keeps p), sk[m]? = some (Sg.put j p h) → ∃ q k, sk[j]? = some (.own q k)) (hp1 : (puts sk).Nodup) (hs1 : (stos sk).Nodup) (hO : ∀ g, g ∈ stos sk → g ∈ O) (hOV : ∀ g ∈ stos sk, g < V.heap.size)
    (hin : i < listed.size) (hun : listed.getD i true = false) (hi : sk[i]? = some k) (hh : Held ops a0 a') (hsl : ∀ j, j ≠ i → slotOf ops a'.tmps j = slotOf ops a.tmps j)
    (hrow : rowOf k ops a.tmps row) (hput : ∀ j p h, k = .put j p h → listed.getD j false = true) (hc : Chg row w w') (hself : Sg.has sk V.heap.size ops a'.tmps i w' k)
    (hnew : ∀ p h, k = .own p h → ∃ v g, slotOf ops a'.tmps i = some v ∧ blockOf v = some g ∧ w.heap.size ≤ g ∧ p v w') (hdp : ∀ om j, ops[i]? = some om → waitsB om j = true → listed.getD j false = true) :
    Inv ops sk O a0 V (listed.setIfInBounds i true) a' w' := by
  have hsz : w.heap.size ≤ w'.heap.size := hc.grown.size
  -- the row is the block of no other slot
  have hOwn : ∀ j p h v g, j ≠ i → listed.getD j false = true → sk[j]? = some (.own p h) → At V.heap.size ops a.tmps j w v g → (∀ p' h', k = .put j p' h' → False) → some g ≠ row := by
    intro j p hk v g hji hl hs hat hnp e
    cases k with
    | is c => rw [show row = none from hrow] at e; cases e
    | sat p h => rw [show row = none from hrow] at e; cases e
    | own p h => rw [show row = none from hrow] at e; cases e
    | put j' p' h' =>
      obtain ⟨v', g', e1, e2, e3⟩ := hrow
      rw [e3] at e
      cases e
      obtain ⟨q, hq, e4⟩ := hpo i j' p' h' hi
      by_cases ej : j = j'
      · subst ej
        exact hnp p' h' rfl
      · have hl' := hput j' p' h' rfl
        obtain ⟨v2, g2, hat2, _⟩ := h.ok j' _ hl' e4
        have : v2 = v' := Option.some.inj (hat2.1.symm.trans e1)
        subst this
        have : g2 = g := Option.some.inj (hat2.2.1.symm.trans e2)
        subst this
        exact h.dist j j' p q hk hq v v2 g2 g2 hl hl' ej hs e4 hat hat2 rfl
    | sto g' p' h' =>
      rw [show row = some g' from hrow] at e
      cases e
      have := hOV g (mem_stos hi)
      have := hat.2.2.1
      omega
  refine ⟨hh, ?_, ?_, ?_, ?_, ?_, ?_, ?_⟩
  · refine ⟨hc.grown.os.trans h.bl.os, hc.grown.tape.trans h.bl.tape, hc.grown.output.trans h.bl.output, Nat.le_trans h.bl.size hsz, fun g hg hn => ?_, h.bl.kn.trans hc.kn⟩
    refine (hc.grown.block g (Nat.lt_of_lt_of_le hg h.bl.size) (fun e => ?_)).trans (h.bl.block g hg hn)
    cases k with
    | is c => rw [show row = none from hrow] at e; cases e
    | sat p h => rw [show row = none from hrow] at e; cases e
    | own p h => rw [show row = none from hrow] at e; cases e
    | put j' p' h' =>
      obtain ⟨v', g', e1, e2, e3⟩ := hrow
      rw [e3] at e
      cases e
      obtain ⟨q, hq, e4⟩ := hpo i j' p' h' hi
      obtain ⟨v2, g2, hat2, _⟩ := h.ok j' _ (hput j' p' h' rfl) e4
      have : v2 = v' := Option.some.inj (hat2.1.symm.trans e1)
      subst this
      have : g2 = g := Option.some.inj (hat2.2.1.symm.trans e2)
      subst this
      have := hat2.2.2.1
      omega
    | sto g' p' h' =>
      rw [show row = some g' from hrow] at e
      cases e
      exact hn (hO _ (mem_stos hi))
  · intro j k' hl hk'
    by_cases e : j = i
    · subst e
      rw [hi] at hk'
      cases hk'
      exact hself
    · have hl0 := listed_set hl e
      have hold := h.ok j k' hl0 hk'
      cases k' with
      | is c => exact (hsl j e).trans hold
      | sat p hp => obtain ⟨v, h1, h2⟩ := hold; exact ⟨v, (hsl j e).trans h1, hp _ _ _ h2 hc.kn⟩
      | own p hp =>
        obtain ⟨v, g, hat, h2⟩ := hold
        refine ⟨v, g, hat.keep (hsl j e) hsz, fun hn => ?_⟩
        refine hp _ _ _ (h2 hn) (fun g2 e2 => ?_) hc.kn
        have : g2 = g := Option.some.inj (e2.symm.trans hat.2.1)
        subst this
        exact hc.grown.block g2 hat.2.2.2 (hOwn j p hp v g2 e hl0 hk' hat (fun _ _ em => by subst em; exact noPut_of hi hn))
      | put j' p hp =>
        obtain ⟨v, g, hat, h2⟩ := hold
        have hjl := h.closed j j' p hp hl0 hk'
        have hji := ne_listed hun hjl
        refine ⟨v, g, hat.keep (hsl j' hji) hsz, hp _ _ _ h2 (fun g2 e2 => ?_) hc.kn⟩
        have : g2 = g := Option.some.inj (e2.symm.trans hat.2.1)
        subst this
        obtain ⟨q, hq, e4⟩ := hpo j j' p hp hk'
        exact hc.grown.block g2 hat.2.2.2 (hOwn j' q hq v g2 hji hjl e4 hat (fun _ _ em => by subst em; exact e (puts_one hp1 hk' hi)))
      | sto g p hp =>
        refine hp _ _ hold ?_ hc.kn
        have hgV := hOV g (mem_stos hk')
        refine hc.grown.block g (Nat.lt_of_lt_of_le hgV h.bl.size) (fun e2 => ?_)
        cases k with
        | is c => rw [show row = none from hrow] at e2; cases e2
        | sat p h => rw [show row = none from hrow] at e2; cases e2
        | own p h => rw [show row = none from hrow] at e2; cases e2
        | put j' p' h' =>
          obtain ⟨v', g', e1, e3, e4⟩ := hrow
          rw [e4] at e2
          cases e2
          obtain ⟨q, hq, e5⟩ := hpo i j' p' h' hi
          obtain ⟨v2, g2, hat2, _⟩ := h.ok j' _ (hput j' p' h' rfl) e5
          have : v2 = v' := Option.some.inj (hat2.1.symm.trans e1)
          subst this
          have : g2 = g := Option.some.inj (hat2.2.1.symm.trans e3)
          subst this
          have := hat2.2.2.1
          omega
        | sto g' p' h' =>
          rw [show row = some g' from hrow] at e2
          cases e2
          exact e (stos_one hs1 hk' hi)
  · intro j p hp hl hs hno v hv
    by_cases e : j = i
    · subst e
      rw [hi] at hs
      cases hs
      obtain ⟨v', g, e1, _, _, e4⟩ := hnew p hp rfl
      rw [hv] at e1
      cases e1
      exact e4
    · have hl0 := listed_set hl e
      rw [hsl j e] at hv
      have hpv := h.fresh j p hp hl0 hs (fun m p' h' hm => set_not (hno m p' h' hm)) v hv
      obtain ⟨v2, g, hat, _⟩ := h.ok j _ hl0 hs
      have : v2 = v := Option.some.inj (hat.1.symm.trans hv)
      subst this
      refine hp _ _ _ hpv (fun g2 e2 => ?_) hc.kn
      have : g2 = g := Option.some.inj (e2.symm.trans hat.2.1)
      subst this
      refine hc.grown.block g2 hat.2.2.2 (hOwn j p hp v2 g2 e hl0 hs hat (fun _ _ em => ?_))
      subst em
      have := hno i _ _ hi
      rw [Array.getD_eq_getD_getElem?, Array.getElem?_setIfInBounds, if_pos rfl, if_pos hin] at this
      simp at this
  · intro m g p hp hm hl
    have hl0 := set_not hl
    have hmi : m ≠ i := by
      rintro rfl
      rw [Array.getD_eq_getD_getElem?, Array.getElem?_setIfInBounds, if_pos rfl, if_pos hin] at hl
      simp at hl
    have hgV := hOV g (mem_stos hm)
    refine (hc.grown.block g (Nat.lt_of_lt_of_le hgV h.bl.size) (fun e2 => ?_)).trans (h.old m g p hp hm hl0)
    cases k with
    | is c => rw [show row = none from hrow] at e2; cases e2
    | sat p h => rw [show row = none from hrow] at e2; cases e2
    | own p h => rw [show row = none from hrow] at e2; cases e2
    | put j' p' h' =>
      obtain ⟨v', g', e1, e3, e4⟩ := hrow
      rw [e4] at e2
      cases e2
      obtain ⟨q, hq, e5⟩ := hpo i j' p' h' hi
      obtain ⟨v2, g2, hat2, _⟩ := h.ok j' _ (hput j' p' h' rfl) e5
      have : v2 = v' := Option.some.inj (hat2.1.symm.trans e1)
      subst this
      have : g2 = g := Option.some.inj (hat2.2.1.symm.trans e3)
      subst this
      have := hat2.2.2.1
      omega
    | sto g' p' h' =>
      rw [show row = some g' from hrow] at e2
      cases e2
      exact hmi (stos_one hs1 hm hi)
  · intro m j p q hp hq v u g g' hlm hlj hne hsm hsj hm hj
    have down : ∀ r pr hr vr gr, r ≠ i → (listed.setIfInBounds i true).getD r false = true → sk[r]? = some (.own pr hr) → At V.heap.size ops a'.tmps r w' vr gr → listed.getD r false = true ∧ At V.heap.size ops a.tmps r w vr gr := by
      intro r pr hr vr gr hri hl hs hat
      have hl0 := listed_set hl hri
      obtain ⟨v2, g2, hat2, _⟩ := h.ok r _ hl0 hs
      have := (hat2.keep (hsl r hri) hsz).one hat
      obtain ⟨rfl, rfl⟩ := this
      exact ⟨hl0, hat2⟩
    by_cases em : m = i
    · subst em
      rw [hi] at hsm
      cases hsm
      obtain ⟨v', g2, e1, e2, e3, _⟩ := hnew p hp rfl
      obtain ⟨hl0, hat⟩ := down j q hq u g' (fun e => hne e.symm) hlj hsj hj
      have : v' = v := Option.some.inj (e1.symm.trans hm.1)
      subst this
      have : g2 = g := Option.some.inj (e2.symm.trans hm.2.1)
      subst this
      have := hat.2.2.2
      omega
    · by_cases ej : j = i
      · subst ej
        rw [hi] at hsj
        cases hsj
        obtain ⟨v', g2, e1, e2, e3, _⟩ := hnew q hq rfl
        obtain ⟨hl0, hat⟩ := down m p hp v g em hlm hsm hm
        have : v' = u := Option.some.inj (e1.symm.trans hj.1)
        subst this
        have : g2 = g' := Option.some.inj (e2.symm.trans hj.2.1)
        subst this
        have := hat.2.2.2
        omega
      · obtain ⟨l1, a1⟩ := down m p hp v g em hlm hsm hm
        obtain ⟨l2, a2⟩ := down j q hq u g' ej hlj hsj hj
        exact h.dist m j p q hp hq v u g g' l1 l2 hne hsm hsj a1 a2
  · intro m j p hp hl hs
    by_cases em : m = i
    · subst em
      rw [hi] at hs
      cases hs
      exact listed_mono (hput j p hp rfl)
    · exact listed_mono (h.closed m j p hp (listed_set hl em) hs)
  · intro m om j hl ho hw
    by_cases em : m = i
    · subst em
      exact listed_mono (hdp om j ho hw)
    · exact listed_mono (h.deps m om j (listed_set hl em) ho hw)

theorem region_st {P : Program} {id : Nat} {ops : Array Oper} {Q : Exit → Act → World → Prop} {a0 : Act} {w0 V : World} (sk : List Sg) (O : List Nat)
    (hm : P.follows .mixedOrders = true) (hdag : dagFrom 0 ops.toList = true) (hdst : dstsC a0.tmps.size ops.toList = true) (hpf : putsOk sk 0 sk = true) (hp1 : (puts sk).Nodup) (hs1 : (stos sk).Nodup) (hO : ∀ g, g ∈ stos sk → g ∈ O) (hOV : ∀ g ∈ stos sk, g < V.heap.size)
    (hV : Bel O V w0.drew) (hold : ∀ g ∈ stos sk, w0.heap[g]? = V.heap[g]?)
    (hst : Stps P ops sk O a0 V Q 0 ops.toList sk)
    (hend : ∀ a w, Held ops a0 a → Bel O V w → (∀ j k, j < ops.size → sk[j]? = some k → Sg.has sk V.heap.size ops a.tmps j w k) → (∀ i j p q h k v u g g', i < ops.size → j < ops.size → i ≠ j → sk[i]? = some (.own p h) → sk[j]? = some (.own q k) → At V.heap.size ops a.tmps i w v g → At V.heap.size ops a.tmps j w u g' → g ≠ g') → Q .normal a w) : (Code.region id ops true).wp P Q a0 w0 := by
  have hpo : ∀ (m j : Nat) (p : Value → World → Prop) (h : Keeps p), sk[m]? = some (Sg.put j p h) → ∃ q k, sk[j]? = some (.own q k) := fun m j p h e => (putsOk_get hpf m j p h e).2
  have main : ∀ (fuel : Nat) (listed : Array Bool) (a : Act) (w : World), listed.size = ops.size → listed.toList.count false ≤ fuel → Inv ops sk O a0 V listed a w → wpAny P .any ops Q fuel listed a w := by
    have hdone : ∀ (listed : Array Bool) (a : Act) (w : World), listed.size = ops.size → Inv ops sk O a0 V listed a w → Region.ready .any ops listed = [] → Q .normal a w := by
      intro listed a w hsz hI hr
      refine (fun (hall : ∀ j, j < ops.size → listed.getD j false = true) => ?_) ?_
      rotate_left
      intro j hj
      induction j using Nat.strongRecOn with
      | _ j ih =>
        cases hl : listed.getD j false with
        | true => rfl
        | false =>
          exfalso
          have h1 : j ∈ Region.ready .any ops listed := by
            refine ready_mem.2 ⟨hj, ?_, ops[j], Array.getElem?_eq_getElem hj, fun e he hb => ?_⟩
            · rw [Array.getD_eq_getD_getElem?, Array.getElem?_eq_getElem (by omega)] at hl ⊢
              simpa using hl
            · have hlt := dagFrom_get hdag j ops[j] (by rw [Array.getElem?_toList]; exact Array.getElem?_eq_getElem hj) e he hb
              exact ih e.on (by omega) (by omega)
          rw [hr] at h1
          cases h1
      exact hend a w hI.held hI.bl (fun j k hj hk => hI.ok j k (hall j hj) hk) (fun i j p q h k v u g g' hi hj => hI.dist i j p q h k v u g g' (hall i hi) (hall j hj))
    intro fuel
    induction fuel with
    | zero =>
      intro listed a w hsz hc hI
      have hr : Region.ready .any ops listed = [] := by
        rw [List.eq_nil_iff_forall_not_mem]
        intro i hi
        obtain ⟨h1, h2, _⟩ := ready_mem.1 hi
        have h3 : false ∈ listed.toList := by
          rw [Array.getD_eq_getD_getElem?, Array.getElem?_eq_getElem (by omega)] at h2
          simp at h2
          rw [← h2]
          exact Array.getElem_mem_toList _
        have := List.count_pos_iff.2 h3
        omega
      exact ⟨hr, hdone listed a w hsz hI hr⟩
    | succ fuel ih =>
      intro listed a w hsz hc hI
      refine ⟨hdone listed a w hsz hI, fun i hi => ?_⟩
      obtain ⟨h1, h2, o, h3, h4⟩ := ready_mem.1 hi
      obtain ⟨k, h5, h6⟩ := Stps.get hst i o (by rw [Array.getElem?_toList]; exact h3)
      have hdep : ∀ j, waitsB o j = true → listed.getD j false = true := fun j hj => by
        simp only [waitsB, Array.any_eq_true'] at hj
        obtain ⟨e, he, hj⟩ := hj
        simp only [Bool.and_eq_true, beq_iff_eq] at hj
        exact hj.1 ▸ h4 e he hj.2
      have h11 := h6 a w hI.held hI.bl (fun j hj k hk => hI.ok j k (hdep j hj) hk) (fun m g p h om hm hom hwm => hI.old m g p h hm (by
        rw [Nat.zero_add] at hwm
        cases hl : listed.getD m false with
        | false => rfl
        | true =>
          have h12 := hI.deps m om i hl hom hwm
          rw [getD_not h2] at h12
          cases h12))
      have hcnt : (listed.setIfInBounds i true).toList.count false ≤ fuel := by
        have hlt : i < listed.toList.length := by rw [Array.length_toList]; omega
        have hf : listed.toList[i] = false := by
          rw [Array.getD_eq_getD_getElem?, Array.getElem?_eq_getElem (by omega)] at h2
          simpa using h2
        rw [Array.toList_setIfInBounds, List.count_set hlt, hf]
        have hp : 0 < listed.toList.count false := List.count_pos_iff.2 (by rw [← hf]; exact List.getElem_mem hlt)
        simp
        simp at hp hc
        omega
      have hgo : ∀ a' w', Inv ops sk O a0 V (listed.setIfInBounds i true) a' w' → wpAny P .any ops Q fuel (listed.setIfInBounds i true) a' w' := fun a' w' hI' => ih _ a' w' (by simpa using hsz) hcnt hI'
      have hlt : ∀ d, o.dst = some d → d < a.tmps.size := fun d hd => by rw [hI.held.size]; exact (dstsC_get hdst i o d (by rw [Array.getElem?_toList]; exact h3) hd).1
      have hslot : ∀ (d : Nat) (v : Value), o.dst = some d → ∀ j, j ≠ i → slotOf ops (a.put o.dst v).tmps j = slotOf ops a.tmps j := fun d v hd j hj => by
        rw [put_tmps hd]; exact slot_put hdst h3 hd hj
      have hin : i < listed.size := by omega
      have hsv : ∀ (d : Nat) (v : Value), o.dst = some d → slotOf ops (a.put o.dst v).tmps i = some v := fun d v hd => by
        rw [put_tmps hd]; exact slot_self h3 hd (hlt d hd)
      have step := fun {a' w' row} (x1 : Held ops a0 a') x2 (x3 : rowOf k ops a.tmps row) x4 (x5 : Chg row w w') x6 x7 => hI.step (a' := a') (w' := w') hpo hp1 hs1 hO hOV hin h2 h5 x1 x2 x3 x4 x5 x6 x7 (fun om j ho hw => by rw [h3] at ho; cases ho; exact hdep j hw)
      unfold wpOp
      rw [h3]
      simp only
      cases k with
      | is c =>
        obtain ⟨hd, h11⟩ := h11
        obtain ⟨d, hd⟩ := Option.isSome_iff_exists.1 hd
        rcases h11 with ⟨hw, h11⟩ | ⟨hw, rfl⟩
        · rw [if_pos hw]
          refine .inl (Oper.wp_mono (fun a' w' h => ?_) h11)
          obtain ⟨rfl, hb⟩ := h
          exact hgo _ _ (step (held_put hI.held h3 hd) (hslot d _ hd) rfl (fun j p h e => by cases e) (Chg.none hb) (hsv d _ hd) (fun p h e => by cases e))
        · rw [if_neg (by rw [hw]; simp)]
          exact hgo _ _ (step (held_put hI.held h3 hd) (hslot d _ hd) rfl (fun j p h e => by cases e) (Chg.none (Below.refl _ _)) (hsv d _ hd) (fun p h e => by cases e))
      | sat p hp =>
        obtain ⟨hd, hw, h11⟩ := h11
        obtain ⟨d, hd⟩ := Option.isSome_iff_exists.1 hd
        rw [if_pos hw]
        refine .inl (Oper.wp_mono (fun a' w' h => ?_) h11)
        obtain ⟨v, rfl, hv, hb⟩ := h
        exact hgo _ _ (step (held_put hI.held h3 hd) (hslot d _ hd) rfl (fun j p h e => by cases e) (Chg.none hb) ⟨v, hsv d _ hd, hv⟩ (fun p h e => by cases e))
      | own p hp =>
        obtain ⟨hd, hw, h11⟩ := h11
        obtain ⟨d, hd⟩ := Option.isSome_iff_exists.1 hd
        rw [if_pos hw]
        refine .inl (Oper.wp_mono (fun a' w' h => ?_) h11)
        obtain ⟨v, g, rfl, hg, hlo, hhi, hv, hb⟩ := h
        refine hgo _ _ (step (held_put hI.held h3 hd) (hslot d _ hd) rfl (fun j p h e => by cases e) (Chg.none hb) ⟨v, g, ⟨hsv d _ hd, hg, Nat.le_trans hI.bl.size hlo, hhi⟩, fun _ => hv⟩ (fun p' h e => ?_))
        cases e
        exact ⟨v, g, hsv d _ hd, hg, hlo, hv⟩
      | put j p' hp' =>
        obtain ⟨hd, hw, hwj, h11⟩ := h11
        rw [if_pos hw]
        have hlj := hdep j hwj
        obtain ⟨q, hq, e4⟩ := hpo i j p' hp' h5
        obtain ⟨v, g, hat, _⟩ := hI.ok j _ hlj e4
        have hpv := hI.fresh j q hq hlj e4 (fun m p2 h2' hm => by
          have : m = i := puts_one hp1 hm h5
          subst this
          exact getD_not h2) v hat.1
        refine .inl (Oper.wp_mono (fun a' w' h => ?_) (h11 v g q hq e4 hat.1 hat.2.1 hpv))
        obtain ⟨rfl, hv, hc⟩ := h
        exact hgo _ _ (step hI.held (fun _ _ => rfl) ⟨v, g, hat.1, hat.2.1, rfl⟩ (fun j p h e => by cases e; exact hlj) hc ⟨v, g, hat.keep rfl hc.grown.size, hv⟩ (fun p h e => by cases e))
      | sto g p' hp' =>
        obtain ⟨hd, hw, h11⟩ := h11
        rw [if_pos hw]
        refine .inl (Oper.wp_mono (fun a' w' h => ?_) (h11 (hI.old i g p' hp' h5 (getD_not h2))))
        obtain ⟨rfl, hv, hc⟩ := h
        exact hgo _ _ (step hI.held (fun _ _ => rfl) rfl (fun j p h e => by cases e) hc hv (fun p h e => by cases e))
  refine wp_region_any hm (main ops.size _ a0 w0.drew (by simp) ?_ ⟨⟨rfl, rfl, fun _ _ => rfl⟩, hV, ?_, ?_, ?_, ?_, ?_, ?_⟩)
  · rw [Array.toList_replicate]
    simp
  all_goals
    have hno : ∀ j, (Array.replicate ops.size false).getD j false = true → False := by
      intro j hj
      rw [Array.getD_eq_getD_getElem?, Array.getElem?_replicate] at hj
      split at hj <;> simp at hj
  · exact fun j k hj _ => (hno j hj).elim
  · exact fun j p h hj _ _ => (hno j hj).elim
  · exact fun i g p h hi _ => hold g (mem_stos hi)
  · exact fun i j p q h k v u g g' hi _ _ _ _ _ => (hno i hi).elim
  · exact fun i j p h hi _ => (hno i hi).elim
  · exact fun m om j hm _ _ => (hno m hm).elim

/-! ### What is left behind the region, slot by slot -/
def ownAt (sk : List Sg) (j : Nat) : Bool := (sk[j]?).map Sg.isOwn == some true
/-- The block is none of those that the earlier operations made. -/
def New (sk : List Sg) (acc : List Value) (g : Nat) : Prop := ∀ j u, acc[j]? = some u → ownAt sk j = true → blockOf u ≠ some g
def allG (sk : List Sg) (B : Nat) (w : World) : List Sg → List Value → (List Value → Prop) → Prop
  | [], _, F => F []
  | .is c :: ks, acc, F => allG sk B w ks (acc ++ [c]) (fun vs => F (c :: vs))
  | .sat p _ :: ks, acc, F => ∀ v, p v w → allG sk B w ks (acc ++ [v]) (fun vs => F (v :: vs))
  | .own p _ :: ks, acc, F => ∀ v g, blockOf v = some g → B ≤ g → g < w.heap.size → New sk acc g → (noPut acc.length sk = true → p v w) → allG sk B w ks (acc ++ [v]) (fun vs => F (v :: vs))
  | .put j p _ :: ks, acc, F => ∀ v, acc[j]? = some v → p v w → allG sk B w ks (acc ++ [undef]) (fun vs => F (undef :: vs))
  | .sto _ p _ :: ks, acc, F => p w → allG sk B w ks (acc ++ [undef]) (fun vs => F (undef :: vs))
def okG (sk : List Sg) (B : Nat) (w : World) (acc : List Value) (v : Value) : Sg → Prop
  | .is c => v = c
  | .sat p _ => p v w
  | .own p _ => ∃ g, blockOf v = some g ∧ B ≤ g ∧ g < w.heap.size ∧ New sk acc g ∧ (noPut acc.length sk = true → p v w)
  | .put j p _ => v = undef ∧ ∃ u, acc[j]? = some u ∧ p u w
  | .sto _ p _ => v = undef ∧ p w
def goodG (sk : List Sg) (B : Nat) (w : World) : List Sg → List Value → List Value → Prop
  | k :: ks, acc, v :: vs => okG sk B w acc v k ∧ goodG sk B w ks (acc ++ [v]) vs
  | [], _, [] => True
  | _, _, _ => False
theorem allG_get {s0 : List Sg} {B : Nat} {w : World} : ∀ {sk : List Sg} {acc : List Value} {F : List Value → Prop} {vs : List Value}, allG s0 B w sk acc F → goodG s0 B w sk acc vs → F vs
  | [], acc, F, [], h, _ => h
  | [], acc, F, _ :: _, h, hg => hg.elim
  | k :: ks, acc, F, [], h, hg => by cases k <;> exact hg.elim
  | .is c :: ks, acc, F, v :: vs, h, hg => by
    have e : v = c := hg.1
    subst e
    exact allG_get (F := fun vs => F (v :: vs)) h hg.2
  | .sat p _ :: ks, acc, F, v :: vs, h, hg => allG_get (F := fun vs => F (v :: vs)) (h v hg.1) hg.2
  | .own p _ :: ks, acc, F, v :: vs, h, hg => by
    obtain ⟨g, h1, h2, h3, h4, h5⟩ := hg.1
    exact allG_get (F := fun vs => F (v :: vs)) (h v g h1 h2 h3 h4 h5) hg.2
  | .put j p _ :: ks, acc, F, v :: vs, h, hg => by
    obtain ⟨e, u, h1, h2⟩ := hg.1
    subst e
    exact allG_get (F := fun vs => F (undef :: vs)) (h u h1 h2) hg.2
  | .sto g p _ :: ks, acc, F, v :: vs, h, hg => by
    obtain ⟨e, h2⟩ := hg.1
    subst e
    exact allG_get (F := fun vs => F (undef :: vs)) (h h2) hg.2
theorem goodG_of {s0 : List Sg} {B : Nat} {w : World} : ∀ (ks : List Sg) (acc vs : List Value), vs.length = ks.length → (∀ i k, ks[i]? = some k → okG s0 B w (acc ++ vs.take i) ((vs[i]?).getD undef) k) → goodG s0 B w ks acc vs
  | [], acc, [], _, _ => trivial
  | [], acc, _ :: _, h, _ => by simp at h
  | _ :: _, acc, [], h, _ => by simp at h
  | k :: ks, acc, v :: vs, h, hh => by
    simp at h
    refine ⟨by simpa using hh 0 k rfl, goodG_of ks (acc ++ [v]) vs h (fun i k' hk => ?_)⟩
    have := hh (i + 1) k' (by simpa using hk)
    simpa using this
/-- Puts and stores write no slot. -/
def writeNone : List Oper → List Sg → Bool
  | o :: l, .put _ _ _ :: ks => o.dst.isNone && writeNone l ks
  | o :: l, .sto _ _ _ :: ks => o.dst.isNone && writeNone l ks
  | _ :: l, _ :: ks => writeNone l ks
  | _, _ => true
theorem writeNone_get : ∀ {l : List Oper} {ks : List Sg}, writeNone l ks = true → ∀ (i : Nat) (k : Sg) (o : Oper), l[i]? = some o → ks[i]? = some k → ((∃ j p h, k = .put j p h) ∨ ∃ g p h, k = .sto g p h) → o.dst = none
  | [], _, _, i, k, o, h, _, _ => by simp at h
  | _ :: _, [], _, i, k, o, _, h, _ => by simp at h
  | o :: l, k :: ks, hp, 0, k', o', h1, h2, h3 => by
    simp at h1 h2
    subst h1 h2
    rcases h3 with ⟨j, p, h, rfl⟩ | ⟨g, p, h, rfl⟩ <;> simp only [writeNone, Bool.and_eq_true] at hp <;> simpa using hp.1
  | o :: l, k :: ks, hp, i + 1, k', o', h1, h2, h3 => by
    simp at h1 h2
    have hp2 : writeNone l ks = true := by
      cases k <;> simp only [writeNone, Bool.and_eq_true] at hp <;> first | exact hp | exact hp.2
    exact writeNone_get hp2 i k' o' h1 h2 h3

theorem region_gg {P : Program} {id : Nat} {ops : Array Oper} {Q : Exit → Act → World → Prop} {a0 : Act} {w0 : World} (V : World) (sk : List Sg) (O : List Nat) (ds : List (Option Nat))
    (hm : P.follows .mixedOrders = true) (hdag : dagFrom 0 ops.toList = true) (hdst : dstsC a0.tmps.size ops.toList = true) (hpf : putsOk sk 0 sk = true) (hp1 : decide (puts sk).Nodup = true) (hs1 : (stos sk).Nodup) (hO : stos sk = O) (hd : ops.toList.map (·.dst) = ds) (hpn : writeNone ops.toList sk = true)
    (hOV : ∀ g ∈ O, g < V.heap.size) (hV : Below V.heap.size V w0.drew) (hst : ∀ Q', Stps P ops sk O a0 V Q' 0 ops.toList sk)
    (hend : ∀ K : Act → World → Prop, (∀ a w, Q .normal a w → K a w) → ∀ w, Bel O V w → allG sk V.heap.size w sk [] (fun vs => K ⟨(setOpt a0.tmps.toList ds vs).toArray, a0.defers⟩ w)) : (Code.region id ops true).wp P Q a0 w0 := by
  subst hO
  refine region_st sk _ hm hdag hdst hpf (of_decide_eq_true hp1) hs1 (fun g h => h) hOV (Bel.of hV _) (fun g hg => hV.block g (hOV g hg)) (hst Q) (fun a w hh hs has hdi => ?_)
  have hskl : ops.toList.length = sk.length := Stps.len (hst Q)
  rw [Array.length_toList] at hskl
  let vs : List Value := (List.range ops.size).map fun i => (slotOf ops a.tmps i).getD undef
  have hvl : vs.length = ops.size := by simp [vs]
  have hvg : ∀ i, i < ops.size → vs[i]? = some ((slotOf ops a.tmps i).getD undef) := fun i hi => by simp [vs, hi]
  have hgood : goodG sk V.heap.size w sk [] vs := by
    refine goodG_of sk [] vs (by omega) (fun i k hk => ?_)
    have hi : i < ops.size := by
      rcases Nat.lt_or_ge i sk.length with h | h
      · omega
      · rw [List.getElem?_eq_none h] at hk; cases hk
    have h1 := has i k hi hk
    rw [hvg i hi, List.nil_append]
    simp only [Option.getD_some]
    have hun : ((∃ j p h, k = .put j p h) ∨ ∃ g p h, k = .sto g p h) → (slotOf ops a.tmps i).getD undef = undef := fun hh => by
      have hno := writeNone_get hpn i k ops[i] (by rw [Array.getElem?_toList]; exact Array.getElem?_eq_getElem hi) hk hh
      have : slotOf ops a.tmps i = none := by unfold slotOf; rw [Array.getElem?_eq_getElem hi]; simp [hno]
      rw [this]; rfl
    have hlen : (vs.take i).length = i := by rw [List.length_take]; omega
    cases k with
    | is c => rw [show slotOf ops a.tmps i = some c from h1]; rfl
    | sat p hp => obtain ⟨v, e, h2⟩ := h1; rw [e]; exact h2
    | own p hp =>
      obtain ⟨v, g, e, h2⟩ := h1
      rw [e.1]
      refine ⟨g, e.2.1, e.2.2.1, e.2.2.2, fun j u hj ho hb => ?_, by rw [hlen]; exact h2⟩
      have hji : j < i := by
        rcases Nat.lt_or_ge j i with h | h
        · exact h
        · rw [List.getElem?_eq_none (by omega)] at hj; cases hj
      rw [List.getElem?_take, if_pos hji, hvg j (by omega)] at hj
      unfold ownAt at ho
      cases hk2 : sk[j]? with
      | none => rw [hk2] at ho; simp at ho
      | some k2 =>
        rw [hk2] at ho
        cases k2 <;> simp [Sg.isOwn] at ho
        obtain ⟨v', g', e', _⟩ := has j _ (by omega) hk2
        rw [e'.1] at hj
        cases hj
        have : g' = g := Option.some.inj (e'.2.1.symm.trans hb)
        exact hdi j i _ _ _ _ _ _ _ _ (by omega) hi (by omega) hk2 hk e' e this
    | put j p hp =>
      obtain ⟨v, g, e, h2⟩ := h1
      have hji := (putsOk_get hpf i j p hp hk).1
      refine ⟨hun (.inl ⟨_, _, _, rfl⟩), v, ?_, h2⟩
      rw [List.getElem?_take, if_pos (by omega), hvg j (by omega), e.1]
      rfl
    | sto g p hp => exact ⟨hun (.inr ⟨_, _, _, rfl⟩), h1⟩
  have key := allG_get (hend (fun a w => Q .normal a w) (fun _ _ h => h) w hs) hgood
  have hop : ∀ (i d : Nat), ds[i]? = some (some d) → ∃ o, ops[i]? = some o ∧ o.dst = some d := by
    intro i d hi
    rw [← hd, List.getElem?_map, Array.getElem?_toList] at hi
    cases ho : ops[i]? with
    | none => rw [ho] at hi; simp at hi
    | some o => rw [ho] at hi; exact ⟨o, rfl, by simpa using hi⟩
  have he : a = ⟨(setOpt a0.tmps.toList ds vs).toArray, a0.defers⟩ := by
    obtain ⟨t, df⟩ := a
    have e1 : df = a0.defers := hh.defers
    subst e1
    congr 1
    refine Array.ext_getElem? (fun k => ?_)
    have e9 : (setOpt a0.tmps.toList ds vs).toArray[k]? = (setOpt a0.tmps.toList ds vs)[k]? := by simp
    show t[k]? = (setOpt a0.tmps.toList ds vs).toArray[k]?
    rw [e9]
    have hsize : t.size = a0.tmps.size := hh.size
    by_cases hk : some k ∈ ds
    · obtain ⟨i, hi⟩ := List.getElem?_of_mem hk
      obtain ⟨o, ho, hod⟩ := hop i k hi
      have hil : i < ops.size := by
        rcases Nat.lt_or_ge i ops.size with h | h
        · exact h
        · rw [Array.getElem?_eq_none h] at ho; cases ho
      have e3 := (dstsC_get hdst i o k (by rw [Array.getElem?_toList]; exact ho) hod).1
      have huniq : ∀ (i j d : Nat), ds[i]? = some (some d) → ds[j]? = some (some d) → i = j := by
        intro i j d h1 h2
        obtain ⟨o1, ho1, hd1⟩ := hop i d h1
        obtain ⟨o2, ho2, hd2⟩ := hop j d h2
        rcases Nat.decEq j i with h | h
        · exact absurd hd2 ((dstsC_get hdst i o1 d (by rw [Array.getElem?_toList]; exact ho1) hd1).2 j o2 (by rw [Array.getElem?_toList]; exact ho2) h)
        · exact h.symm
      rw [setOpt_at huniq (by rw [hvl, ← hd]; simp) hi (by rw [Array.length_toList]; exact e3), hvg i hil]
      have e4 : slotOf ops t i = t[k]? := by unfold slotOf; simp [ho, hod]
      rw [e4]
      have hkt : k < t.size := by omega
      rw [Array.getElem?_eq_getElem hkt]
      rfl
    · rw [setOpt_other hk, Array.getElem?_toList]
      refine hh.rest k ?_
      refine List.all_eq_true.2 (fun o ho => ?_)
      simp only [bne_iff_ne, ne_eq]
      intro e2
      apply hk
      rw [← hd]
      exact List.mem_map.2 ⟨o, ho, e2⟩
  rw [he]
  exact key
end Go.Proofs.Ytfigimfdojbkeaa.Rg

