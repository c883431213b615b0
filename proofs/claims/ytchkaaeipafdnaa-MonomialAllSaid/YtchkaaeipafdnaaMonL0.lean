/-
  A region that draws its order, whose last two operations wait for all others.
-/
import Derived.Test.YtchkaaeipafdnaaMonY
namespace Go.Proofs.Ytchkaaeipafdnaa
open Go.RowKit
set_option linter.unusedVariables false
def Step2 (P : Program) (ops fr : Array Oper) (sk : List Sk) (a0 : Act) (S : World → Prop) (Q : Exit → Act → World → Prop) (o : Oper) (k : Sk) : Prop :=
  ∀ a w, Held fr a0 a → S w → (∀ j, waitsB o j = true → Has ops sk a w j) →
    (Region.wanted o (yielded ops a.tmps) = true ∧ o.wp P a w (fun a' w' => ∃ v, a' = a.put o.dst v ∧ k.ok v w' ∧ Below w.heap.size w w' ∧ S w') Q) ∨
    (Region.wanted o (yielded ops a.tmps) = false ∧ k = .is undef)
def Steps2 (P : Program) (ops fr : Array Oper) (sk : List Sk) (a0 : Act) (S : World → Prop) (Q : Exit → Act → World → Prop) : List Oper → List Sk → Prop
  | o :: l, k :: ks => Step2 P ops fr sk a0 S Q o k ∧ Steps2 P ops fr sk a0 S Q l ks
  | [], [] => True
  | _, _ => False
theorem Steps2.get {P : Program} {ops fr : Array Oper} {sk : List Sk} {a0 : Act} {S : World → Prop} {Q : Exit → Act → World → Prop} : ∀ {l : List Oper} {ks : List Sk}, Steps2 P ops fr sk a0 S Q l ks →
    ∀ (i : Nat) (o : Oper), l[i]? = some o → ∃ k, ks[i]? = some k ∧ Step2 P ops fr sk a0 S Q o k
  | [], [], _, i, o, h => by simp at h
  | o :: l, k :: ks, h, 0, o', e => by
    simp at e
    subst e
    exact ⟨k, rfl, h.1⟩
  | o :: l, k :: ks, h, i + 1, o', e => by
    simp at e
    obtain ⟨k', h1, h2⟩ := Steps2.get h.2 i o' e
    exact ⟨k', by simpa using h1, h2⟩
  | [], _ :: _, h, _, _, _ => h.elim
  | _ :: _, [], h, _, _, _ => h.elim
theorem Steps2.len {P : Program} {ops fr : Array Oper} {sk : List Sk} {a0 : Act} {S : World → Prop} {Q : Exit → Act → World → Prop} : ∀ {l : List Oper} {ks : List Sk}, Steps2 P ops fr sk a0 S Q l ks → l.length = ks.length
  | [], [], _ => rfl
  | o :: l, k :: ks, h => by simp [Steps2.len h.2]
  | [], _ :: _, h => h.elim
  | _ :: _, [], h => h.elim
theorem region_two0 {P : Program} {id : Nat} {ops : Array Oper} {Q : Exit → Act → World → Prop} {a0 : Act} {w0 : World} (S : World → Prop) (sk : List Sk) (n : Nat) (o1 o2 : Oper)
    (hm : P.follows .mixedOrders = true) (hn : ops[n]? = some o1) (hn2 : ops[n + 1]? = some o2) (hw2 : waitsB o2 n = true) (hsz1 : ops.size = n + 2) (hdag : dagFrom 0 ops.toList = true) (hlast : lastB ops n = true) (hdst : dstsB a0.tmps.size (ops.toList.take n) = true) (hS : S w0.drew)
    (hst : Steps2 P ops (ops.toList.take n).toArray sk a0 S Q (ops.toList.take n) sk)
    (hend : ∀ K' : Act → World → Prop, (∀ a w, Q .normal a w → K' a w) → ∀ a w, Held (ops.toList.take n).toArray a0 a → S w → (∀ j, j < n → Has ops sk a w j) → Region.wanted o1 (yielded ops a.tmps) = true ∧ o1.wp P a w (fun a' w' => Region.wanted o2 (yielded ops a'.tmps) = true ∧ o2.wp P a' w' K' Q) Q) : (Code.region id ops true).wp P Q a0 w0 := by
  have hget : ∀ i, i < n → (ops.toList.take n)[i]? = ops[i]? := fun i hi => by rw [List.getElem?_take_of_lt hi, Array.getElem?_toList]
  have main : ∀ (fuel : Nat) (listed : Array Bool) (a : Act) (w : World), listed.size = ops.size → listed.toList.count false ≤ fuel → Held (ops.toList.take n).toArray a0 a → S w → listed.getD n false = false →
      (∀ j o, ops[j]? = some o → listed.getD j false = true → ∀ i, waitsB o i = true → listed.getD i false = true) →
      (∀ j, listed.getD j false = true → Has ops sk a w j) → wpAny P .any ops Q fuel listed a w := by
    have hne : ∀ (listed : Array Bool), listed.size = ops.size → listed.getD n false = false → Region.ready .any ops listed ≠ [] := by
      intro listed hsz hl0 hr
      have hall : ∀ j, j < ops.size → listed.getD j false = true := by
        intro j hj
        induction j using Nat.strongRecOn with
        | _ j ih =>
          cases hl : listed.getD j false with
          | true => rfl
          | false =>
            exfalso
            have h1 : j ∈ Region.ready .any ops listed := by
              refine ready_mem.2 ⟨hj, ?_, ops[j], Array.getElem?_eq_getElem hj, fun e he hb => ?_⟩
              · rw [Array.getD_eq_getD_getElem?, Array.getElem?_eq_getElem (by omega)] at hl ⊢
                simpa using hl
              · have hlt := dagFrom_get hdag j ops[j] (by rw [Array.getElem?_toList]; exact Array.getElem?_eq_getElem hj) e he hb
                exact ih e.on (by omega) (by omega)
            rw [hr] at h1
            cases h1
      rw [hall n (by omega)] at hl0
      cases hl0
    intro fuel
    induction fuel with
    | zero =>
      intro listed a w hsz hc hh hs hl0 hcl hhas
      exfalso
      have h3 : false ∈ listed.toList := by
        have hlt : n < listed.size := by omega
        rw [Array.getD_eq_getD_getElem?, Array.getElem?_eq_getElem hlt] at hl0
        simp at hl0
        rw [← hl0]
        exact Array.getElem_mem_toList _
      have := List.count_pos_iff.2 h3
      omega
    | succ fuel ih =>
      intro listed a w hsz hc hh hs hl0 hcl hhas
      refine ⟨fun h => absurd h (hne listed hsz hl0), fun i hi => ?_⟩
      obtain ⟨h1, h2, o, h3, h4⟩ := ready_mem.1 hi
      have hwt : ∀ j, waitsB o j = true → listed.getD j false = true := fun j hj => by
        simp only [waitsB, Array.any_eq_true'] at hj
        obtain ⟨e, he, hj⟩ := hj
        simp only [Bool.and_eq_true, beq_iff_eq] at hj
        exact hj.1 ▸ h4 e he hj.2
      by_cases hin : i = n
      · subst hin
        rw [hn] at h3
        cases h3
        have hall : ∀ d j, i - j = d → j < i → listed.getD j false = true := by
          intro d
          induction d using Nat.strongRecOn with
          | _ d ihd =>
            intro j hd hj
            obtain ⟨k, ok, h5, h6, h7, h8⟩ := lastB_get hlast hj
            by_cases hk : k = i
            · subst hk
              rw [hn] at h7
              cases h7
              exact hwt j h8
            · exact hcl k ok h7 (ihd (i - k) (by omega) k rfl (by omega)) j h8
        obtain ⟨h10, h11⟩ := hend (fun a' w' => Q .normal a' w') (fun _ _ h => h) a w hh hs (fun j hj => hhas j (hall (i - j) j rfl hj))
        unfold wpOp
        rw [hn]
        simp only
        rw [if_pos h10]
        refine .inl (Oper.wp_mono (fun a' w' h12 => ?_) h11)
        obtain ⟨h13, h14⟩ := h12
        have hl2 : (listed.setIfInBounds i true).getD (i + 1) true = false := by
          cases hl : (listed.setIfInBounds i true).getD (i + 1) true with
          | false => rfl
          | true =>
            exfalso
            rw [Array.getD_eq_getD_getElem?, Array.getElem?_setIfInBounds, if_neg (by omega), Array.getElem?_eq_getElem (by omega)] at hl
            have := hcl (i + 1) o2 hn2 (by rw [Array.getD_eq_getD_getElem?, Array.getElem?_eq_getElem (by omega)]; simpa using hl) i hw2
            rw [hl0] at this
            cases this
        have hall2 : ∀ j, j < i + 1 → (listed.setIfInBounds i true).getD j false = true := by
          intro j hj
          rw [Array.getD_eq_getD_getElem?, Array.getElem?_setIfInBounds]
          by_cases e : i = j
          · rw [if_pos e, if_pos (by omega)]; rfl
          · rw [if_neg e, ← Array.getD_eq_getD_getElem?]
            exact hall (i - j) j rfl (by omega)
        have hin2 : i + 1 ∈ Region.ready .any ops (listed.setIfInBounds i true) := by
          refine ready_mem.2 ⟨by omega, hl2, o2, hn2, fun e he hb => ?_⟩
          have hlt := dagFrom_get hdag (i + 1) o2 (by rw [Array.getElem?_toList]; exact hn2) e he hb
          exact hall2 e.on (by omega)
        have honly : ∀ j, j ∈ Region.ready .any ops (listed.setIfInBounds i true) → j = i + 1 := by
          intro j hj
          obtain ⟨h5, h6, _⟩ := ready_mem.1 hj
          by_cases e : j < i + 1
          · exfalso
            have h9 := hall2 j e
            rw [Array.getD_eq_getD_getElem?, Array.getElem?_eq_getElem (by simp; omega)] at h6 h9
            simp at h6 h9
            rw [h6] at h9
            cases h9
          · omega
        cases fuel with
        | zero =>
          exfalso
          have hc2 : 2 ≤ listed.toList.count false := by
            have e1 : listed.toList[i]? = some false := by
              rw [Array.getElem?_toList, Array.getElem?_eq_getElem (by omega)]
              rw [Array.getD_eq_getD_getElem?, Array.getElem?_eq_getElem (by omega)] at hl0
              simpa using hl0
            have e2 : listed.toList[i + 1]? = some false := by
              rw [Array.getElem?_toList, Array.getElem?_eq_getElem (by omega)]
              rw [Array.getD_eq_getD_getElem?, Array.getElem?_setIfInBounds, if_neg (by omega), Array.getElem?_eq_getElem (by omega)] at hl2
              simpa using hl2
            have e3 : i + 1 < listed.toList.length := by rw [Array.length_toList]; omega
            have e4 : listed.toList = listed.toList.take i ++ (false :: false :: listed.toList.drop (i + 2)) := by
              rw [← List.take_append_drop i listed.toList]
              congr 1
              · rw [List.take_append_drop]
              · rw [List.take_append_drop, List.drop_eq_getElem_cons (by omega), List.drop_eq_getElem_cons (by omega)]
                rw [List.getElem?_eq_getElem (by omega)] at e1 e2
                simp only [Option.some.injEq] at e1 e2
                rw [e1, e2]
            rw [e4, List.count_append, List.count_cons_self, List.count_cons_self]
            omega
          omega
        | succ f =>
          refine ⟨(fun h => by rw [h] at hin2; cases hin2), fun j hj => ?_⟩
          obtain rfl := honly j hj
          unfold wpOp
          rw [hn2]
          simp only
          rw [if_pos h13]
          refine .inl (Oper.wp_mono (fun a2 w2 hq => ?_) h14)
          have hr : Region.ready .any ops ((listed.setIfInBounds i true).setIfInBounds (i + 1) true) = [] := by
            rw [List.eq_nil_iff_forall_not_mem]
            intro k hk
            obtain ⟨h5, h6, _⟩ := ready_mem.1 hk
            rw [Array.getD_eq_getD_getElem?, Array.getElem?_setIfInBounds] at h6
            by_cases e : i + 1 = k
            · subst e
              rw [if_pos rfl, if_pos (by simp; omega)] at h6
              simp at h6
            · rw [if_neg e, ← Array.getD_eq_getD_getElem?] at h6
              have h9 := hall2 k (by omega)
              rw [Array.getD_eq_getD_getElem?, Array.getElem?_eq_getElem (by simp; omega)] at h6 h9
              simp at h6 h9
              rw [h6] at h9
              cases h9
          cases f with
          | zero => exact ⟨hr, hq⟩
          | succ f => exact ⟨fun _ => hq, fun k hk => by rw [hr] at hk; cases hk⟩
      by_cases hin1 : i = n + 1
      · exfalso
        subst hin1
        rw [hn2] at h3
        cases h3
        have := hwt n hw2
        rw [hl0] at this
        cases this
      have hi' : i < n := by omega
      obtain ⟨k, h5, h6⟩ := Steps2.get hst i o (by rw [hget i hi']; exact h3)
      obtain ⟨d, h7, h8, h9⟩ := dstsB_get hdst i o (by rw [hget i hi']; exact h3)
      have hnext : ∀ (v : Value) (w' : World), k.ok v w' → Below w.heap.size w w' → S w' → wpAny P .any ops Q fuel (listed.setIfInBounds i true) (a.put o.dst v) w' := by
        intro v w' hv hb hs'
        have hput : (a.put o.dst v).tmps = a.tmps.setIfInBounds d v := by rw [h7]; rfl
        refine ih _ _ _ (by simpa using hsz) ?_ ⟨?_, ?_, ?_⟩ hs' ?_ ?_ ?_
        · have hlt : i < listed.toList.length := by rw [Array.length_toList]; omega
          have hf : listed.toList[i] = false := by
            rw [Array.getD_eq_getD_getElem?, Array.getElem?_eq_getElem (by omega)] at h2
            simpa using h2
          rw [Array.toList_setIfInBounds, List.count_set hlt, hf]
          have hp : 0 < listed.toList.count false := List.count_pos_iff.2 (by rw [← hf]; exact List.getElem_mem hlt)
          simp
          simp at hp hc
          omega
        · rw [h7]; exact hh.defers
        · rw [hput]; simpa using hh.size
        · intro j hj
          rw [hput, Array.getElem?_setIfInBounds]
          have hne : d ≠ j := by
            rintro rfl
            have := (List.all_eq_true.1 hj) o (List.mem_of_getElem? (i := i) (by rw [hget i hi']; exact h3))
            rw [h7] at this
            simp at this
          rw [if_neg hne]
          exact hh.rest j hj
        · rw [Array.getD_eq_getD_getElem?, Array.getElem?_setIfInBounds, if_neg (by omega), ← Array.getD_eq_getD_getElem?]
          exact hl0
        · intro j oj hoj hl m hwm
          rw [Array.getD_eq_getD_getElem?, Array.getElem?_setIfInBounds]
          by_cases em : i = m
          · rw [if_pos em, if_pos (by omega)]; rfl
          · rw [if_neg em, ← Array.getD_eq_getD_getElem?]
            by_cases ej : j = i
            · subst ej
              rw [h3] at hoj
              cases hoj
              exact hwt m hwm
            · rw [Array.getD_eq_getD_getElem?, Array.getElem?_setIfInBounds, if_neg (by omega), ← Array.getD_eq_getD_getElem?] at hl
              exact hcl j oj hoj hl m hwm
        · intro j hj o' d' k' ho' hd' hk'
          rw [hput, Array.getElem?_setIfInBounds]
          by_cases hij : j = i
          · subst hij
            rw [h3] at ho'
            cases ho'
            rw [h7] at hd'
            cases hd'
            rw [h5] at hk'
            cases hk'
            have hlt : d < a.tmps.size := by rw [hh.size]; exact h8
            rw [if_pos rfl, if_pos hlt]
            exact ⟨v, rfl, hv⟩
          · have hl : listed.getD j false = true := by
              rw [Array.getD_eq_getD_getElem?, Array.getElem?_setIfInBounds, if_neg (by omega)] at hj
              rw [Array.getD_eq_getD_getElem?]
              exact hj
            have hjn : j < n := by
              rcases Nat.lt_trichotomy j n with h | h | h
              · exact h
              · subst h; rw [hl0] at hl; cases hl
              · by_cases e : j = n + 1
                · subst e
                  have := hcl (n + 1) o2 hn2 hl n hw2
                  rw [hl0] at this
                  cases this
                · rw [Array.getElem?_eq_none (by omega)] at ho'; cases ho'
            have hne : d ≠ d' := by
              rintro rfl
              exact h9 j o' (by rw [hget j hjn]; exact ho') hij hd'
            rw [if_neg hne]
            obtain ⟨v', e1, e2⟩ := hhas j hl o' d' k' ho' hd' hk'
            exact ⟨v', e1, Sk.next (k := k') e2 hb⟩
      have h12 := h6 a w hh hs (fun j hj => hhas j (hwt j hj))
      unfold wpOp
      rw [h3]
      simp only
      rcases h12 with ⟨h10, h11⟩ | ⟨h10, h11⟩
      · rw [if_pos h10]
        refine .inl (Oper.wp_mono (fun a' w' h => ?_) h11)
        obtain ⟨v, rfl, hv, hb, hs'⟩ := h
        exact hnext v w' hv hb hs'
      · rw [if_neg (by rw [h10]; simp)]
        exact hnext undef w (by rw [h11]; rfl) (Below.refl _ _) hs
  refine wp_region_any hm (main ops.size _ a0 w0.drew (by simp) ?_ ⟨rfl, rfl, fun _ _ => rfl⟩ hS ?_ ?_ ?_)
  · rw [Array.toList_replicate]
    simp
  · rw [Array.getD_eq_getD_getElem?, Array.getElem?_replicate]
    split <;> rfl
  · intro j o _ hj
    rw [Array.getD_eq_getD_getElem?, Array.getElem?_replicate] at hj
    split at hj <;> simp at hj
  · intro j hj
    rw [Array.getD_eq_getD_getElem?, Array.getElem?_replicate] at hj
    split at hj <;> simp at hj

theorem region_two {P : Program} {id : Nat} {ops : Array Oper} {Q : Exit → Act → World → Prop} {a0 : Act} {w0 : World} (S : World → Prop) (sk : List Sk) (ds : List Nat) (n : Nat) (o1 o2 : Oper)
    (hm : P.follows .mixedOrders = true) (hn : ops[n]? = some o1) (hn2 : ops[n + 1]? = some o2) (hw2 : waitsB o2 n = true) (hsz1 : ops.size = n + 2) (hg1 : o1.guard = none) (hg2 : o2.guard = none) (hdag : dagFrom 0 ops.toList = true) (hlast : lastB ops n = true) (hdst : dstsB a0.tmps.size (ops.toList.take n) = true)
    (hd : (ops.toList.take n).map (·.dst) = ds.map some) (hnd0 : decide ds.Nodup = true) (hS : S w0.drew)
    (hst : ∀ Q', Steps2 P ops (ops.toList.take n).toArray sk a0 S Q' (ops.toList.take n) sk)
    (hend : ∀ K : Act → World → Prop, (∀ a w, Q .normal a w → K a w) → ∀ w, S w → allK sk w (fun vs => o1.wp P ⟨(setAll a0.tmps.toList ds vs).toArray, a0.defers⟩ w (fun a' w' => o2.wp P a' w' K Q) Q)) : (Code.region id ops true).wp P Q a0 w0 := by
  refine region_two0 S sk n o1 o2 hm hn hn2 hw2 hsz1 hdag hlast hdst hS (hst Q) (fun K hK a w hh hs has => ⟨wanted_none hg1, Oper.wp_mono (fun a' w' h => ⟨wanted_none hg2, h⟩) ?_⟩)
  have hlen : ds.length = n := by
    have := congrArg List.length hd
    simp at this
    omega
  have hskl : (ops.toList.take n).length = sk.length := Steps2.len (hst Q)
  have hskn : sk.length = n := by rw [← hskl, List.length_take, Array.length_toList]; omega
  have hop : ∀ (i d : Nat), ds[i]? = some d → i < n ∧ ∃ o, ops[i]? = some o ∧ o.dst = some d := by
    intro i d hi
    have hin : i < n := by
      rcases Nat.lt_or_ge i n with h | h
      · exact h
      · rw [List.getElem?_eq_none (by omega)] at hi; cases hi
    have h1 : ((ops.toList.take n).map (·.dst))[i]? = some (some d) := by rw [hd, List.getElem?_map, hi]; rfl
    rw [List.getElem?_map, List.getElem?_take_of_lt hin, Array.getElem?_toList] at h1
    cases ho : ops[i]? with
    | none => rw [ho] at h1; simp at h1
    | some o => rw [ho] at h1; exact ⟨hin, o, rfl, by simpa using h1⟩
  obtain ⟨vs, h1, h2⟩ := vs_of sk ds a.tmps w (by omega) (fun i d k hi hk => by
    obtain ⟨hin, o, ho, hod⟩ := hop i d hi
    exact has i hin o d k ho hod hk)
  have key := allK_get (hend K hK w hs) h1
  have hnd : ds.Nodup := of_decide_eq_true hnd0
  have he : a = ⟨(setAll a0.tmps.toList ds vs).toArray, a0.defers⟩ := by
    obtain ⟨t, df⟩ := a
    have e1 : df = a0.defers := hh.defers
    subst e1
    congr 1
    refine Array.ext_getElem? (fun k => ?_)
    have e9 : (setAll a0.tmps.toList ds vs).toArray[k]? = (setAll a0.tmps.toList ds vs)[k]? := by simp
    show t[k]? = (setAll a0.tmps.toList ds vs).toArray[k]?
    rw [e9]
    by_cases hk : k ∈ ds
    · obtain ⟨i, hi⟩ := List.getElem?_of_mem hk
      obtain ⟨hin, o, ho, hod⟩ := hop i k hi
      obtain ⟨d', e2, e3, _⟩ := dstsB_get hdst i o (by rw [List.getElem?_take_of_lt hin, Array.getElem?_toList]; exact ho)
      rw [hod] at e2
      cases e2
      rw [setAll_at hnd (by rw [goodK_len h1]; omega) hi (by rw [Array.length_toList]; exact e3)]
      exact h2 i k hi
    · rw [setAll_other hk, Array.getElem?_toList]
      refine hh.rest k ?_
      refine List.all_eq_true.2 (fun o ho => ?_)
      simp only [bne_iff_ne, ne_eq]
      intro e2
      apply hk
      have h3 : o.dst ∈ (ops.toList.take n).map (·.dst) := List.mem_map.2 ⟨o, ho, rfl⟩
      rw [hd, e2] at h3
      simpa using h3
  rw [he]
  exact key
/-- append of a part that lies somewhere, at one operation. -/
theorem app1 {o : Oper} {a : Act} {w : World} {K : Act → World → Prop} {Q : Exit → Act → World → Prop} (s x : Operand) (base : Nat) {v : Value} {ad : Addr} {n c : Nat} {out l : List Mn} (hown : w.ownsRow base 27 8 v out.length (cs out)) (hl : Ms w (some ad) n l)
    (hn : out.length + l.length ≤ 1000000000) (hbase : base ≤ w.heap.size)
    (ho : o.op = .call { callee := .builtin .append, args := #[s, x], argTypes := #[42, 42] }) (hs : a.eval s = v) (hx : a.eval x = .slice (some ad) n c)
    (h : ∀ v' w', w'.ownsRow base 27 8 v' (out ++ l).length (cs (out ++ l)) → w.grownBy w' v.ownBlock → K (a.put o.dst v') w') : o.wp Try.prog a w K Q := by
  obtain ⟨i0, hi, hz0, hz1, hz2⟩ := info_parts infoRow
  have hlen := hl.len
  refine wp_append_own w s x _ ho base 27 i0 (arr nul) 8 64 underSl hi hz0 hz1 hz2 rfl (by decide) v out.length (cs out) hs hown ad n c (cs l) hx (by rw [cs_length, hlen]) ?_ (cs_one_cell l) (by unfold maxLen; omega) (by omega) hbase ?_
  · intro j u hu
    have hj : j < (cs l).length := by
      rcases Nat.lt_or_ge j (cs l).length with h | h
      · exact h
      · rw [List.getElem?_eq_none h] at hu; cases hu
    rw [cs_length] at hj
    obtain ⟨b, q, e, _, hr⟩ := hl.at_ (k := j / 8) (by omega)
    cases e
    have hm : j % 8 < (cls (mg l (j / 8))).toList.length := by simp; omega
    have h5 := cs_get l (j / 8) (j % 8) _ _ (mg_get (by omega)) (List.getElem?_eq_getElem hm)
    rw [show j / 8 * 8 + j % 8 = j by omega, hu] at h5
    have h6 := hr (j % 8) _ (List.getElem?_eq_getElem hm)
    cases h5
    rw [Addr.add_mid, ← h6]
    congr 2
    omega
  · intro v' w' g1 g2 _
    exact h v' w' (by rw [List.length_append, cs_append, hlen]; exact g1) g2
theorem run_two {o : Oper} {ρ : Operand → Value} {x y : Operand} {w : World} {f g : Mn} (ho : o.op = .buildSlice 42 2 #[(0, x), (1, y)]) (hx : ρ x = .agg (cls f)) (hy : ρ y = .agg (cls g)) :
    (execOp ρ o).run Try.prog w = .ok (.value (.slice (some ⟨w.heap.size, 0, none⟩) 2 2)) (w.alloc (.cells (cs [f, g]).toArray 27)) := by
  have hc : (cs [f, g]).toArray = #[Value.int IntKind.i64 (f 0), Value.int IntKind.i64 (f 1), Value.int IntKind.i64 (f 2), Value.int IntKind.i64 (f 3), Value.int IntKind.i64 (f 4), Value.int IntKind.i64 (f 5), Value.int IntKind.i64 (f 6), Value.int IntKind.i64 (f 7), Value.int IntKind.i64 (g 0), Value.int IntKind.i64 (g 1), Value.int IntKind.i64 (g 2), Value.int IntKind.i64 (g 3), Value.int IntKind.i64 (g 4), Value.int IntKind.i64 (g 5), Value.int IntKind.i64 (g 6), Value.int IntKind.i64 (g 7)] := rfl
  rw [hc]
  simp [execOp, ho, hx, hy, go_sem]
theorem lit_ms (w : World) (l : List Mn) (h : l.length ≤ 1000) : Ms (w.alloc (Obj.cells (cs l).toArray 27)) (some ⟨w.heap.size, 0, none⟩) l.length l := by
  obtain ⟨A, n, c, e, _, _, _, h4⟩ := lit_sl w l h
  injection e with e1 e2 e3
  subst e1 e2
  exact h4
end Go.Proofs.Ytchkaaeipafdnaa
