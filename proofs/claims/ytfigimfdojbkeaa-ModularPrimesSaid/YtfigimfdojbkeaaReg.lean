/-
  A region that draws its order, by what each operation's slot holds: one step for each operation, whatever the order.
-/
import Derived.Test.YtfigimfdojbkeaaMem
import Derived.Deep.RegionHeld
set_option linter.unusedSimpArgs false
set_option linter.unusedVariables false
namespace Go.Proofs.Ytfigimfdojbkeaa
open Go.RowKit

/-- What a slot holds: a value; a value that reads as an integer; anything. -/
inductive Sk where
  | is (c : Value)
  | iv (z : Int)
  | any
def Sk.ok : Sk → Value → World → Prop
  | .is c, v, _ => v = c
  | .iv z, v, w => Iv w v z
  | .any, _, _ => True
theorem Sk.next {k : Sk} {v : Value} {w w' : World} (h : k.ok v w) (hb : Below w.heap.size w w') : k.ok v w' := by
  cases k with
  | is c => exact h
  | iv z => exact Iv.below h hb
  | any => trivial

/-- No operation writes slot k. -/
def notDst (ops : Array Oper) (k : Nat) : Bool := ops.toList.all fun o => o.dst != some k
/-- Operation o waits for number j. -/
def waitsB (o : Oper) (j : Nat) : Bool := o.after.any fun e => e.on == j && Region.binds .any e
def dagFrom : Nat → List Oper → Bool
  | _, [] => true
  | i, o :: l => (o.after.all fun e => !Region.binds .any e || decide (e.on < i)) && dagFrom (i + 1) l
def dstsB (n : Nat) : List Oper → Bool
  | [] => true
  | o :: l => (match o.dst with | some d => decide (d < n) | none => false) && (l.all fun o' => o'.dst != o.dst) && dstsB n l

structure Held (ops : Array Oper) (a0 a : Act) : Prop where
  defers : a.defers = a0.defers
  size : a.tmps.size = a0.tmps.size
  rest : ∀ k, notDst ops k = true → a.tmps[k]? = a0.tmps[k]?

def Has (ops : Array Oper) (sk : List Sk) (a : Act) (w : World) (j : Nat) : Prop :=
  ∀ (o : Oper) (d : Nat) (k : Sk), ops[j]? = some o → o.dst = some d → sk[j]? = some k → ∃ v, a.tmps[d]? = some v ∧ k.ok v w

def Step (P : Program) (ops : Array Oper) (sk : List Sk) (a0 : Act) (S : World → Prop) (Q : Exit → Act → World → Prop) (o : Oper) (k : Sk) : Prop :=
  ∀ a w, Held ops a0 a → S w → (∀ j, waitsB o j = true → Has ops sk a w j) →
    Region.wanted o (yielded ops a.tmps) = true ∧ o.wp P a w (fun a' w' => ∃ v, a' = a.put o.dst v ∧ k.ok v w' ∧ Below w.heap.size w w' ∧ S w') Q

def Steps (P : Program) (ops : Array Oper) (sk : List Sk) (a0 : Act) (S : World → Prop) (Q : Exit → Act → World → Prop) : List Oper → List Sk → Prop
  | o :: l, k :: ks => Step P ops sk a0 S Q o k ∧ Steps P ops sk a0 S Q l ks
  | [], [] => True
  | _, _ => False

theorem Steps.get {P : Program} {ops : Array Oper} {sk : List Sk} {a0 : Act} {S : World → Prop} {Q : Exit → Act → World → Prop} : ∀ {l : List Oper} {ks : List Sk}, Steps P ops sk a0 S Q l ks →
    ∀ (i : Nat) (o : Oper), l[i]? = some o → ∃ k, ks[i]? = some k ∧ Step P ops sk a0 S Q o k
  | [], [], _, i, o, h => by simp at h
  | o :: l, k :: ks, h, 0, o', e => by
    simp at e
    subst e
    exact ⟨k, rfl, h.1⟩
  | o :: l, k :: ks, h, i + 1, o', e => by
    simp at e
    obtain ⟨k', h1, h2⟩ := Steps.get h.2 i o' e
    exact ⟨k', by simpa using h1, h2⟩
  | [], _ :: _, h, _, _, _ => h.elim
  | _ :: _, [], h, _, _, _ => h.elim

theorem dagFrom_get : ∀ {i : Nat} {l : List Oper}, dagFrom i l = true → ∀ (j : Nat) (o : Oper), l[j]? = some o → ∀ e ∈ o.after, Region.binds .any e = true → e.on < i + j
  | _, [], _, j, o, h => by simp at h
  | i, o :: l, hd, 0, o', e => by
    simp at e
    subst e
    intro x hx hb
    simp only [dagFrom, Bool.and_eq_true, Array.all_eq_true'] at hd
    have := hd.1 x hx
    simp [hb] at this
    omega
  | i, o :: l, hd, j + 1, o', e => by
    simp at e
    simp only [dagFrom, Bool.and_eq_true] at hd
    intro x hx hb
    have := dagFrom_get hd.2 j o' e x hx hb
    omega

theorem dstsB_get {n : Nat} : ∀ {l : List Oper}, dstsB n l = true → ∀ (i : Nat) (o : Oper), l[i]? = some o → ∃ d, o.dst = some d ∧ d < n ∧ ∀ (j : Nat) (o' : Oper), l[j]? = some o' → j ≠ i → o'.dst ≠ some d
  | [], _, i, o, h => by simp at h
  | o :: l, hd, 0, o', e => by
    simp at e
    subst e
    simp only [dstsB, Bool.and_eq_true] at hd
    cases hdst : o.dst with
    | none => rw [hdst] at hd; simp at hd
    | some d =>
      refine ⟨d, rfl, by have := hd.1.1; rw [hdst] at this; simpa using this, fun j o'' hj hne => ?_⟩
      obtain ⟨j, rfl⟩ : ∃ j', j = j' + 1 := ⟨j - 1, by omega⟩
      simp at hj
      have h1 := (List.all_eq_true.1 hd.1.2) o'' (List.mem_of_getElem? hj)
      rw [hdst] at h1
      simpa using h1
  | o :: l, hd, i + 1, o', e => by
    simp at e
    simp only [dstsB, Bool.and_eq_true] at hd
    obtain ⟨d, h1, h2, h3⟩ := dstsB_get hd.2 i o' e
    refine ⟨d, h1, h2, fun j o'' hj hne => ?_⟩
    rcases j with _ | j
    · simp at hj
      subst hj
      have h4 := (List.all_eq_true.1 hd.1.2) o' (List.mem_of_getElem? e)
      rw [h1] at h4
      intro e2
      rw [e2] at h4
      simp at h4
    · simp at hj
      exact h3 j o'' hj (by omega)

theorem ready_mem {ops : Array Oper} {listed : Array Bool} {i : Nat} : i ∈ Region.ready .any ops listed ↔ i < ops.size ∧ listed.getD i true = false ∧ ∃ o, ops[i]? = some o ∧ ∀ e ∈ o.after, Region.binds .any e = true → listed.getD e.on false = true := by
  unfold Region.ready
  rw [List.mem_filter, List.mem_range, Bool.and_eq_true]
  constructor
  · rintro ⟨h1, h2, h3⟩
    refine ⟨h1, by simpa using h2, ops[i], Array.getElem?_eq_getElem h1, ?_⟩
    rw [Array.getElem?_eq_getElem h1] at h3
    simp only [Option.map_some, Option.getD_some, Array.all_eq_true'] at h3
    intro e he hb
    have := h3 e he
    simpa [hb] using this
  · rintro ⟨h1, h2, o, h3, h4⟩
    refine ⟨h1, by simpa using h2, ?_⟩
    rw [h3]
    simp only [Option.map_some, Option.getD_some, Array.all_eq_true']
    intro e he
    by_cases hb : Region.binds .any e = true
    · simp [hb, h4 e he hb]
    · simp [hb]

theorem region_sk {P : Program} {id : Nat} {ops : Array Oper} {Q : Exit → Act → World → Prop} {a0 : Act} {w0 : World} (S : World → Prop) (sk : List Sk)
    (hm : P.follows .mixedOrders = true) (hdag : dagFrom 0 ops.toList = true) (hdst : dstsB a0.tmps.size ops.toList = true) (hS : S w0.drew)
    (hst : Steps P ops sk a0 S Q ops.toList sk)
    (hend : ∀ a w, Held ops a0 a → S w → (∀ j, j < ops.size → Has ops sk a w j) → Q .normal a w) : (Code.region id ops true).wp P Q a0 w0 := by
  have main : ∀ (fuel : Nat) (listed : Array Bool) (a : Act) (w : World), listed.size = ops.size → listed.toList.count false ≤ fuel → Held ops a0 a → S w →
      (∀ j, listed.getD j false = true → Has ops sk a w j) → wpAny P .any ops Q fuel listed a w := by
    have hdone : ∀ (listed : Array Bool) (a : Act) (w : World), listed.size = ops.size → Held ops a0 a → S w → (∀ j, listed.getD j false = true → Has ops sk a w j) →
        Region.ready .any ops listed = [] → Q .normal a w := by
      intro listed a w hsz hh hs hhas hr
      refine hend a w hh hs (fun j hj => hhas j ?_)
      induction j using Nat.strongRecOn with
      | _ j ih =>
        cases hl : listed.getD j false with
        | true => rfl
        | false =>
          exfalso
          have h1 : j ∈ Region.ready .any ops listed := by
            refine ready_mem.2 ⟨hj, ?_, ops[j], Array.getElem?_eq_getElem hj, fun e he hb => ?_⟩
            · rw [Array.getD_eq_getD_getElem?, Array.getElem?_eq_getElem (by omega)] at hl ⊢
              simpa using hl
            · have hlt := dagFrom_get hdag j ops[j] (by rw [Array.getElem?_toList]; exact Array.getElem?_eq_getElem hj) e he hb
              exact ih e.on (by omega) (by omega)
          rw [hr] at h1
          cases h1
    intro fuel
    induction fuel with
    | zero =>
      intro listed a w hsz hc hh hs hhas
      have hr : Region.ready .any ops listed = [] := by
        rw [List.eq_nil_iff_forall_not_mem]
        intro i hi
        obtain ⟨h1, h2, _⟩ := ready_mem.1 hi
        have h3 : false ∈ listed.toList := by
          rw [Array.getD_eq_getD_getElem?, Array.getElem?_eq_getElem (by omega)] at h2
          simp at h2
          rw [← h2]
          exact Array.getElem_mem_toList _
        have := List.count_pos_iff.2 h3
        omega
      exact ⟨hr, hdone listed a w hsz hh hs hhas hr⟩
    | succ fuel ih =>
      intro listed a w hsz hc hh hs hhas
      refine ⟨hdone listed a w hsz hh hs hhas, fun i hi => ?_⟩
      obtain ⟨h1, h2, o, h3, h4⟩ := ready_mem.1 hi
      obtain ⟨k, h5, h6⟩ := Steps.get hst i o (by rw [Array.getElem?_toList]; exact h3)
      obtain ⟨d, h7, h8, h9⟩ := dstsB_get hdst i o (by rw [Array.getElem?_toList]; exact h3)
      obtain ⟨h10, h11⟩ := h6 a w hh hs (fun j hj => by
        simp only [waitsB, Array.any_eq_true'] at hj
        obtain ⟨e, he, hj⟩ := hj
        simp only [Bool.and_eq_true, beq_iff_eq] at hj
        exact hj.1 ▸ hhas e.on (h4 e he hj.2))
      unfold wpOp
      rw [h3]
      simp only
      rw [if_pos h10]
      refine .inl (Oper.wp_mono (fun a' w' h => ?_) h11)
      obtain ⟨v, rfl, hv, hb, hs'⟩ := h
      have hput : (a.put o.dst v).tmps = a.tmps.setIfInBounds d v := by rw [h7]; rfl
      refine ih _ _ _ (by simpa using hsz) ?_ ⟨?_, ?_, ?_⟩ hs' ?_
      · have hlt : i < listed.toList.length := by rw [Array.length_toList]; omega
        have hf : listed.toList[i] = false := by
          rw [Array.getD_eq_getD_getElem?, Array.getElem?_eq_getElem (by omega)] at h2
          simpa using h2
        rw [Array.toList_setIfInBounds, List.count_set hlt, hf]
        have hp : 0 < listed.toList.count false := List.count_pos_iff.2 (by rw [← hf]; exact List.getElem_mem hlt)
        simp
        simp at hp hc
        omega
      · rw [h7]; exact hh.defers
      · rw [hput]; simpa using hh.size
      · intro j hj
        rw [hput, Array.getElem?_setIfInBounds]
        have hne : d ≠ j := by
          rintro rfl
          have := (List.all_eq_true.1 hj) o (List.mem_of_getElem? (i := i) (by rw [Array.getElem?_toList]; exact h3))
          rw [h7] at this
          simp at this
        rw [if_neg hne]
        exact hh.rest j hj
      · intro j hj o' d' k' ho' hd' hk'
        rw [hput, Array.getElem?_setIfInBounds]
        by_cases hij : j = i
        · subst hij
          rw [h3] at ho'
          cases ho'
          rw [h7] at hd'
          cases hd'
          rw [h5] at hk'
          cases hk'
          have hlt : d < a.tmps.size := by rw [hh.size]; exact h8
          rw [if_pos rfl, if_pos hlt]
          exact ⟨v, rfl, hv⟩
        · have hne : d ≠ d' := by
            rintro rfl
            exact h9 j o' (by rw [Array.getElem?_toList]; exact ho') hij hd'
          rw [if_neg hne]
          have hl : listed.getD j false = true := by
            rw [Array.getD_eq_getD_getElem?, Array.getElem?_setIfInBounds, if_neg (by omega)] at hj
            rw [Array.getD_eq_getD_getElem?]
            exact hj
          obtain ⟨v', e1, e2⟩ := hhas j hl o' d' k' ho' hd' hk'
          exact ⟨v', e1, Sk.next (k := k') e2 hb⟩
  refine wp_region_any hm (main ops.size _ a0 w0.drew (by simp) ?_ ⟨rfl, rfl, fun _ _ => rfl⟩ hS ?_)
  · rw [Array.toList_replicate]
    simp
  · intro j hj
    rw [Array.getD_eq_getD_getElem?, Array.getElem?_replicate] at hj
    split at hj <;> simp at hj

def allK : List Sk → World → (List Value → Prop) → Prop
  | [], _, F => F []
  | .is c :: ks, w, F => allK ks w (fun vs => F (c :: vs))
  | .iv z :: ks, w, F => ∀ v, Iv w v z → allK ks w (fun vs => F (v :: vs))
  | .any :: ks, w, F => ∀ v, allK ks w (fun vs => F (v :: vs))
def setAll : List Value → List Nat → List Value → List Value
  | l, d :: ds, v :: vs => setAll (l.set d v) ds vs
  | l, _, _ => l
def goodK : List Sk → List Value → World → Prop
  | k :: ks, v :: vs, w => k.ok v w ∧ goodK ks vs w
  | [], [], _ => True
  | _, _, _ => False
theorem allK_get : ∀ {sk : List Sk} {w : World} {F : List Value → Prop} {vs : List Value}, allK sk w F → goodK sk vs w → F vs
  | [], w, F, [], h, _ => h
  | [], w, F, _ :: _, h, hg => hg.elim
  | k :: ks, w, F, [], h, hg => by cases k <;> exact hg.elim
  | .is c :: ks, w, F, v :: vs, h, hg => by
    have e : v = c := hg.1
    subst e
    exact allK_get (F := fun vs => F (v :: vs)) h hg.2
  | .iv z :: ks, w, F, v :: vs, h, hg => allK_get (F := fun vs => F (v :: vs)) (h v hg.1) hg.2
  | .any :: ks, w, F, v :: vs, h, hg => allK_get (F := fun vs => F (v :: vs)) (h v) hg.2
theorem goodK_len : ∀ {sk : List Sk} {vs : List Value} {w : World}, goodK sk vs w → vs.length = sk.length
  | [], [], _, _ => rfl
  | [], _ :: _, _, h => h.elim
  | _ :: _, [], _, h => h.elim
  | _ :: ks, _ :: vs, w, h => by simp [goodK_len h.2]
theorem setAll_other : ∀ {l : List Value} {ds : List Nat} {vs : List Value} {k : Nat}, k ∉ ds → (setAll l ds vs)[k]? = l[k]?
  | l, [], vs, k, _ => by cases vs <;> rfl
  | l, d :: ds, [], k, _ => rfl
  | l, d :: ds, v :: vs, k, h => by
    simp only [List.mem_cons, not_or] at h
    rw [setAll, setAll_other h.2, List.getElem?_set_ne (fun e => h.1 e.symm)]
theorem setAll_at : ∀ {l : List Value} {ds : List Nat} {vs : List Value} {i k : Nat}, ds.Nodup → ds.length = vs.length → ds[i]? = some k → k < l.length → (setAll l ds vs)[k]? = vs[i]?
  | l, [], vs, i, k, _, _, h, _ => by simp at h
  | l, d :: ds, [], i, k, _, hl, _, _ => by simp at hl
  | l, d :: ds, v :: vs, 0, k, hn, hl, h, hk => by
    simp at h
    subst h
    rw [setAll, setAll_other (List.nodup_cons.1 hn).1, List.getElem?_set_self hk]
    rfl
  | l, d :: ds, v :: vs, i + 1, k, hn, hl, h, hk => by
    simp at h hl
    rw [setAll, setAll_at (List.nodup_cons.1 hn).2 hl h (by simpa using hk)]
    rfl
theorem vs_of : ∀ (sk : List Sk) (ds : List Nat) (t : Array Value) (w : World), ds.length = sk.length → (∀ (i d : Nat) (k : Sk), ds[i]? = some d → sk[i]? = some k → ∃ v, t[d]? = some v ∧ k.ok v w) →
    ∃ vs : List Value, goodK sk vs w ∧ ∀ (i d : Nat), ds[i]? = some d → t[d]? = vs[i]?
  | [], [], t, w, _, _ => ⟨[], trivial, fun i d h => by simp at h⟩
  | [], _ :: _, t, w, h, _ => by simp at h
  | _ :: _, [], t, w, h, _ => by simp at h
  | k :: ks, d :: ds, t, w, h, hh => by
    simp at h
    obtain ⟨vs, h1, h2⟩ := vs_of ks ds t w h (fun i d' k' hd hk => hh (i + 1) d' k' (by simpa using hd) (by simpa using hk))
    obtain ⟨v, h3, h4⟩ := hh 0 d k rfl rfl
    refine ⟨v :: vs, ⟨h4, h1⟩, fun i d' hd => ?_⟩
    rcases i with _ | i
    · simp at hd
      subst hd
      rw [h3]; rfl
    · simp at hd
      rw [h2 i d' hd]; rfl
theorem Steps.len {P : Program} {ops : Array Oper} {sk : List Sk} {a0 : Act} {S : World → Prop} {Q : Exit → Act → World → Prop} : ∀ {l : List Oper} {ks : List Sk}, Steps P ops sk a0 S Q l ks → l.length = ks.length
  | [], [], _ => rfl
  | o :: l, k :: ks, h => by simp [Steps.len h.2]
  | [], _ :: _, h => h.elim
  | _ :: _, [], h => h.elim

theorem region_run {P : Program} {id : Nat} {ops : Array Oper} {Q : Exit → Act → World → Prop} {a0 : Act} {w0 : World} (S : World → Prop) (sk : List Sk) (ds : List Nat)
    (hm : P.follows .mixedOrders = true) (hdag : dagFrom 0 ops.toList = true) (hdst : dstsB a0.tmps.size ops.toList = true) (hd : ops.toList.map (·.dst) = ds.map some) (hn : decide ds.Nodup = true) (hS : S w0.drew)
    (hst : ∀ Q', Steps P ops sk a0 S Q' ops.toList sk)
    (hend : ∀ K : Act → World → Prop, (∀ a w, Q .normal a w → K a w) → ∀ w, S w → allK sk w (fun vs => K ⟨(setAll a0.tmps.toList ds vs).toArray, a0.defers⟩ w)) : (Code.region id ops true).wp P Q a0 w0 := by
  refine region_sk S sk hm hdag hdst hS (hst Q) (fun a w hh hs has => ?_)
  have hlen : ds.length = ops.size := by
    have := congrArg List.length hd
    simpa using this.symm
  have hskl : ops.toList.length = sk.length := Steps.len (hst Q)
  rw [Array.length_toList] at hskl
  have hop : ∀ (i d : Nat), ds[i]? = some d → ∃ o, ops[i]? = some o ∧ o.dst = some d := by
    intro i d hi
    have h1 : (ops.toList.map (·.dst))[i]? = some (some d) := by rw [hd, List.getElem?_map, hi]; rfl
    rw [List.getElem?_map, Array.getElem?_toList] at h1
    cases ho : ops[i]? with
    | none => rw [ho] at h1; simp at h1
    | some o => rw [ho] at h1; exact ⟨o, rfl, by simpa using h1⟩
  obtain ⟨vs, h1, h2⟩ := vs_of sk ds a.tmps w (by omega) (fun i d k hi hk => by
    obtain ⟨o, ho, hod⟩ := hop i d hi
    have hlt : i < ops.size := by
      rcases Nat.lt_or_ge i ops.size with h | h
      · exact h
      · rw [Array.getElem?_eq_none h] at ho; cases ho
    exact has i hlt o d k ho hod hk)
  have key := allK_get (hend (fun a w => Q .normal a w) (fun _ _ h => h) w hs) h1
  have hnd : ds.Nodup := of_decide_eq_true hn
  have he : a = ⟨(setAll a0.tmps.toList ds vs).toArray, a0.defers⟩ := by
    obtain ⟨t, df⟩ := a
    have e1 : df = a0.defers := hh.defers
    subst e1
    congr 1
    refine Array.ext_getElem? (fun k => ?_)
    have e9 : (setAll a0.tmps.toList ds vs).toArray[k]? = (setAll a0.tmps.toList ds vs)[k]? := by simp
    show t[k]? = (setAll a0.tmps.toList ds vs).toArray[k]?
    rw [e9]
    by_cases hk : k ∈ ds
    · obtain ⟨i, hi⟩ := List.getElem?_of_mem hk
      obtain ⟨o, ho, hod⟩ := hop i k hi
      obtain ⟨d', e2, e3, _⟩ := dstsB_get hdst i o (by rw [Array.getElem?_toList]; exact ho)
      rw [hod] at e2
      cases e2
      rw [setAll_at hnd (by rw [goodK_len h1]; omega) hi (by rw [Array.length_toList]; exact e3)]
      exact h2 i k hi
    · rw [setAll_other hk, Array.getElem?_toList]
      refine hh.rest k ?_
      refine List.all_eq_true.2 (fun o ho => ?_)
      simp only [bne_iff_ne, ne_eq]
      intro e2
      apply hk
      have h3 : o.dst ∈ ops.toList.map (·.dst) := List.mem_map.2 ⟨o, ho, rfl⟩
      rw [hd, e2] at h3
      simpa using h3
  rw [he]
  exact key
end Go.Proofs.Ytfigimfdojbkeaa

