/-
  A region that draws its order, whose last operation waits for all others and may do what it likes.
-/
import Derived.Test.YtchkaaeipafdnaaMonU
namespace Go.Proofs.Ytchkaaeipafdnaa
open Go.RowKit

/-- Each operation but the last has one behind it that waits for it. -/
def lastB (ops : Array Oper) (n : Nat) : Bool := (List.range n).all fun i => (List.range (n + 1)).any fun j => decide (i < j) && ((ops[j]?).map fun o => waitsB o i) == some true
theorem lastB_get {ops : Array Oper} {n i : Nat} (h : lastB ops n = true) (hi : i < n) : ∃ j o, i < j ∧ j ≤ n ∧ ops[j]? = some o ∧ waitsB o i = true := by
  have h1 := List.all_eq_true.1 h i (List.mem_range.2 hi)
  obtain ⟨j, hj, h2⟩ := List.any_eq_true.1 h1
  simp only [Bool.and_eq_true, decide_eq_true_eq, beq_iff_eq] at h2
  cases ho : ops[j]? with
  | none => rw [ho] at h2; simp at h2
  | some o =>
    rw [ho] at h2
    exact ⟨j, o, h2.1, by have := List.mem_range.1 hj; omega, ho, by simpa [ho] using h2.2⟩

theorem region_last0 {P : Program} {id : Nat} {ops : Array Oper} {Q : Exit → Act → World → Prop} {a0 : Act} {w0 : World} (S : World → Prop) (sk : List Sk) (n : Nat) (o1 : Oper)
    (hm : P.follows .mixedOrders = true) (hn : ops[n]? = some o1) (hsz1 : ops.size = n + 1) (hdag : dagFrom 0 ops.toList = true) (hlast : lastB ops n = true) (hdst : dstsB a0.tmps.size (ops.toList.take n) = true) (hS : S w0.drew)
    (hst : Steps P ops sk a0 S Q (ops.toList.take n) sk)
    (hend : ∀ K' : Act → World → Prop, (∀ a w, Q .normal a w → K' a w) → ∀ a w, Held ops a0 a → S w → (∀ j, j < n → Has ops sk a w j) → Region.wanted o1 (yielded ops a.tmps) = true ∧ o1.wp P a w K' Q) : (Code.region id ops true).wp P Q a0 w0 := by
  have hget : ∀ i, i < n → (ops.toList.take n)[i]? = ops[i]? := fun i hi => by rw [List.getElem?_take_of_lt hi, Array.getElem?_toList]
  have main : ∀ (fuel : Nat) (listed : Array Bool) (a : Act) (w : World), listed.size = ops.size → listed.toList.count false ≤ fuel → Held ops a0 a → S w → listed.getD n false = false →
      (∀ j o, ops[j]? = some o → listed.getD j false = true → ∀ i, waitsB o i = true → listed.getD i false = true) →
      (∀ j, listed.getD j false = true → Has ops sk a w j) → wpAny P .any ops Q fuel listed a w := by
    have hne : ∀ (listed : Array Bool), listed.size = ops.size → listed.getD n false = false → Region.ready .any ops listed ≠ [] := by
      intro listed hsz hl0 hr
      have hall : ∀ j, j < ops.size → listed.getD j false = true := by
        intro j hj
        induction j using Nat.strongRecOn with
        | _ j ih =>
          cases hl : listed.getD j false with
          | true => rfl
          | false =>
            exfalso
            have h1 : j ∈ Region.ready .any ops listed := by
              refine ready_mem.2 ⟨hj, ?_, ops[j], Array.getElem?_eq_getElem hj, fun e he hb => ?_⟩
              · rw [Array.getD_eq_getD_getElem?, Array.getElem?_eq_getElem (by omega)] at hl ⊢
                simpa using hl
              · have hlt := dagFrom_get hdag j ops[j] (by rw [Array.getElem?_toList]; exact Array.getElem?_eq_getElem hj) e he hb
                exact ih e.on (by omega) (by omega)
            rw [hr] at h1
            cases h1
      rw [hall n (by omega)] at hl0
      cases hl0
    intro fuel
    induction fuel with
    | zero =>
      intro listed a w hsz hc hh hs hl0 hcl hhas
      exfalso
      have h3 : false ∈ listed.toList := by
        have hlt : n < listed.size := by omega
        rw [Array.getD_eq_getD_getElem?, Array.getElem?_eq_getElem hlt] at hl0
        simp at hl0
        rw [← hl0]
        exact Array.getElem_mem_toList _
      have := List.count_pos_iff.2 h3
      omega
    | succ fuel ih =>
      intro listed a w hsz hc hh hs hl0 hcl hhas
      refine ⟨fun h => absurd h (hne listed hsz hl0), fun i hi => ?_⟩
      obtain ⟨h1, h2, o, h3, h4⟩ := ready_mem.1 hi
      have hwt : ∀ j, waitsB o j = true → listed.getD j false = true := fun j hj => by
        simp only [waitsB, Array.any_eq_true'] at hj
        obtain ⟨e, he, hj⟩ := hj
        simp only [Bool.and_eq_true, beq_iff_eq] at hj
        exact hj.1 ▸ h4 e he hj.2
      by_cases hin : i = n
      · subst hin
        rw [hn] at h3
        cases h3
        have hall : ∀ d j, i - j = d → j < i → listed.getD j false = true := by
          intro d
          induction d using Nat.strongRecOn with
          | _ d ihd =>
            intro j hd hj
            obtain ⟨k, ok, h5, h6, h7, h8⟩ := lastB_get hlast hj
            by_cases hk : k = i
            · subst hk
              rw [hn] at h7
              cases h7
              exact hwt j h8
            · exact hcl k ok h7 (ihd (i - k) (by omega) k rfl (by omega)) j h8
        unfold wpOp
        rw [hn]
        simp only
        obtain ⟨h10, h11⟩ := hend (wpAny P .any ops Q fuel (listed.setIfInBounds i true)) (fun a' w' hq => by
          have hr : Region.ready .any ops (listed.setIfInBounds i true) = [] := by
            rw [List.eq_nil_iff_forall_not_mem]
            intro j hj
            obtain ⟨h5, h6, _⟩ := ready_mem.1 hj
            rw [Array.getD_eq_getD_getElem?, Array.getElem?_setIfInBounds] at h6
            by_cases e : i = j
            · subst e
              rw [if_pos rfl, if_pos (by omega)] at h6
              simp at h6
            · rw [if_neg e] at h6
              have h9 := hall (i - j) j rfl (by omega)
              rw [Array.getD_eq_getD_getElem?, Array.getElem?_eq_getElem (by omega)] at h9
              rw [Array.getElem?_eq_getElem (by omega)] at h6
              simp at h6 h9
              rw [h6] at h9
              cases h9
          cases fuel with
          | zero => exact ⟨hr, hq⟩
          | succ f => exact ⟨fun _ => hq, fun j hj => by rw [hr] at hj; cases hj⟩) a w hh hs (fun j hj => hhas j (hall (i - j) j rfl hj))
        rw [if_pos h10]
        exact .inl h11
      have hi' : i < n := by omega
      obtain ⟨k, h5, h6⟩ := Steps.get hst i o (by rw [hget i hi']; exact h3)
      obtain ⟨d, h7, h8, h9⟩ := dstsB_get hdst i o (by rw [hget i hi']; exact h3)
      have hnext : ∀ (v : Value) (w' : World), k.ok v w' → Below w.heap.size w w' → S w' → wpAny P .any ops Q fuel (listed.setIfInBounds i true) (a.put o.dst v) w' := by
        intro v w' hv hb hs'
        have hput : (a.put o.dst v).tmps = a.tmps.setIfInBounds d v := by rw [h7]; rfl
        refine ih _ _ _ (by simpa using hsz) ?_ ⟨?_, ?_, ?_⟩ hs' ?_ ?_ ?_
        · have hlt : i < listed.toList.length := by rw [Array.length_toList]; omega
          have hf : listed.toList[i] = false := by
            rw [Array.getD_eq_getD_getElem?, Array.getElem?_eq_getElem (by omega)] at h2
            simpa using h2
          rw [Array.toList_setIfInBounds, List.count_set hlt, hf]
          have hp : 0 < listed.toList.count false := List.count_pos_iff.2 (by rw [← hf]; exact List.getElem_mem hlt)
          simp
          simp at hp hc
          omega
        · rw [h7]; exact hh.defers
        · rw [hput]; simpa using hh.size
        · intro j hj
          rw [hput, Array.getElem?_setIfInBounds]
          have hne : d ≠ j := by
            rintro rfl
            have := (List.all_eq_true.1 hj) o (List.mem_of_getElem? (i := i) (by rw [Array.getElem?_toList]; exact h3))
            rw [h7] at this
            simp at this
          rw [if_neg hne]
          exact hh.rest j hj
        · rw [Array.getD_eq_getD_getElem?, Array.getElem?_setIfInBounds, if_neg (by omega), ← Array.getD_eq_getD_getElem?]
          exact hl0
        · intro j oj hoj hl m hwm
          rw [Array.getD_eq_getD_getElem?, Array.getElem?_setIfInBounds]
          by_cases em : i = m
          · rw [if_pos em, if_pos (by omega)]; rfl
          · rw [if_neg em, ← Array.getD_eq_getD_getElem?]
            by_cases ej : j = i
            · subst ej
              rw [h3] at hoj
              cases hoj
              exact hwt m hwm
            · rw [Array.getD_eq_getD_getElem?, Array.getElem?_setIfInBounds, if_neg (by omega), ← Array.getD_eq_getD_getElem?] at hl
              exact hcl j oj hoj hl m hwm
        · intro j hj o' d' k' ho' hd' hk'
          rw [hput, Array.getElem?_setIfInBounds]
          by_cases hij : j = i
          · subst hij
            rw [h3] at ho'
            cases ho'
            rw [h7] at hd'
            cases hd'
            rw [h5] at hk'
            cases hk'
            have hlt : d < a.tmps.size := by rw [hh.size]; exact h8
            rw [if_pos rfl, if_pos hlt]
            exact ⟨v, rfl, hv⟩
          · have hl : listed.getD j false = true := by
              rw [Array.getD_eq_getD_getElem?, Array.getElem?_setIfInBounds, if_neg (by omega)] at hj
              rw [Array.getD_eq_getD_getElem?]
              exact hj
            have hjn : j < n := by
              rcases Nat.lt_trichotomy j n with h | h | h
              · exact h
              · subst h; rw [hl0] at hl; cases hl
              · rw [Array.getElem?_eq_none (by omega)] at ho'; cases ho'
            have hne : d ≠ d' := by
              rintro rfl
              exact h9 j o' (by rw [hget j hjn]; exact ho') hij hd'
            rw [if_neg hne]
            obtain ⟨v', e1, e2⟩ := hhas j hl o' d' k' ho' hd' hk'
            exact ⟨v', e1, Sk.next (k := k') e2 hb⟩
      have h12 := h6 a w hh hs (fun j hj => hhas j (hwt j hj))
      unfold wpOp
      rw [h3]
      simp only
      rcases h12 with ⟨h10, h11⟩ | ⟨h10, h11⟩
      · rw [if_pos h10]
        refine .inl (Oper.wp_mono (fun a' w' h => ?_) h11)
        obtain ⟨v, rfl, hv, hb, hs'⟩ := h
        exact hnext v w' hv hb hs'
      · rw [if_neg (by rw [h10]; simp)]
        exact hnext undef w (by rw [h11]; rfl) (Below.refl _ _) hs
  refine wp_region_any hm (main ops.size _ a0 w0.drew (by simp) ?_ ⟨rfl, rfl, fun _ _ => rfl⟩ hS ?_ ?_ ?_)
  · rw [Array.toList_replicate]
    simp
  · rw [Array.getD_eq_getD_getElem?, Array.getElem?_replicate]
    split <;> rfl
  · intro j o _ hj
    rw [Array.getD_eq_getD_getElem?, Array.getElem?_replicate] at hj
    split at hj <;> simp at hj
  · intro j hj
    rw [Array.getD_eq_getD_getElem?, Array.getElem?_replicate] at hj
    split at hj <;> simp at hj

theorem region_last {P : Program} {id : Nat} {ops : Array Oper} {Q : Exit → Act → World → Prop} {a0 : Act} {w0 : World} (S : World → Prop) (sk : List Sk) (ds : List Nat) (n : Nat) (o1 : Oper)
    (hm : P.follows .mixedOrders = true) (hn : ops[n]? = some o1) (hsz1 : ops.size = n + 1) (hg1 : o1.guard = none) (hdag : dagFrom 0 ops.toList = true) (hlast : lastB ops n = true) (hdst : dstsB a0.tmps.size (ops.toList.take n) = true)
    (hd : (ops.toList.take n).map (·.dst) = ds.map some) (hd1 : o1.dst = none) (hnd0 : decide ds.Nodup = true) (hS : S w0.drew)
    (hst : ∀ Q', Steps P ops sk a0 S Q' (ops.toList.take n) sk)
    (hend : ∀ K : Act → World → Prop, (∀ a w, Q .normal a w → K a w) → ∀ w, S w → allK sk w (fun vs => o1.wp P ⟨(setAll a0.tmps.toList ds vs).toArray, a0.defers⟩ w K Q)) : (Code.region id ops true).wp P Q a0 w0 := by
  refine region_last0 S sk n o1 hm hn hsz1 hdag hlast hdst hS (hst Q) (fun K hK a w hh hs has => ⟨wanted_none hg1, ?_⟩)
  have hlen : ds.length = n := by
    have := congrArg List.length hd
    simp at this
    omega
  have hskl : (ops.toList.take n).length = sk.length := Steps.len (hst Q)
  have hskn : sk.length = n := by rw [← hskl, List.length_take, Array.length_toList]; omega
  have hop : ∀ (i d : Nat), ds[i]? = some d → i < n ∧ ∃ o, ops[i]? = some o ∧ o.dst = some d := by
    intro i d hi
    have hin : i < n := by
      rcases Nat.lt_or_ge i n with h | h
      · exact h
      · rw [List.getElem?_eq_none (by omega)] at hi; cases hi
    have h1 : ((ops.toList.take n).map (·.dst))[i]? = some (some d) := by rw [hd, List.getElem?_map, hi]; rfl
    rw [List.getElem?_map, List.getElem?_take_of_lt hin, Array.getElem?_toList] at h1
    cases ho : ops[i]? with
    | none => rw [ho] at h1; simp at h1
    | some o => rw [ho] at h1; exact ⟨hin, o, rfl, by simpa using h1⟩
  obtain ⟨vs, h1, h2⟩ := vs_of sk ds a.tmps w (by omega) (fun i d k hi hk => by
    obtain ⟨hin, o, ho, hod⟩ := hop i d hi
    exact has i hin o d k ho hod hk)
  have key := allK_get (hend K hK w hs) h1
  have hnd : ds.Nodup := of_decide_eq_true hnd0
  have he : a = ⟨(setAll a0.tmps.toList ds vs).toArray, a0.defers⟩ := by
    obtain ⟨t, df⟩ := a
    have e1 : df = a0.defers := hh.defers
    subst e1
    congr 1
    refine Array.ext_getElem? (fun k => ?_)
    have e9 : (setAll a0.tmps.toList ds vs).toArray[k]? = (setAll a0.tmps.toList ds vs)[k]? := by simp
    show t[k]? = (setAll a0.tmps.toList ds vs).toArray[k]?
    rw [e9]
    by_cases hk : k ∈ ds
    · obtain ⟨i, hi⟩ := List.getElem?_of_mem hk
      obtain ⟨hin, o, ho, hod⟩ := hop i k hi
      obtain ⟨d', e2, e3, _⟩ := dstsB_get hdst i o (by rw [List.getElem?_take_of_lt hin, Array.getElem?_toList]; exact ho)
      rw [hod] at e2
      cases e2
      rw [setAll_at hnd (by rw [goodK_len h1]; omega) hi (by rw [Array.length_toList]; exact e3)]
      exact h2 i k hi
    · rw [setAll_other hk, Array.getElem?_toList]
      refine hh.rest k ?_
      refine List.all_eq_true.2 (fun o ho => ?_)
      simp only [bne_iff_ne, ne_eq]
      intro e2
      obtain ⟨i, hi⟩ := List.getElem?_of_mem ho
      have hi2 : ops[i]? = some o := by rw [← Array.getElem?_toList]; exact hi
      by_cases hin : i < n
      · apply hk
        have h3 : o.dst ∈ (ops.toList.take n).map (·.dst) := List.mem_map.2 ⟨o, List.mem_of_getElem? (i := i) (by rw [List.getElem?_take_of_lt hin]; exact hi), rfl⟩
        rw [hd, e2] at h3
        simpa using h3
      · have hin2 : i = n := by
          rcases Nat.lt_or_ge i ops.size with h | h
          · omega
          · rw [Array.getElem?_eq_none h] at hi2; cases hi2
        subst hin2
        rw [hn] at hi2
        cases hi2
        rw [hd1] at e2
        cases e2
  rw [he]
  exact key
theorem wp_val2 {o : Oper} {a : Act} {w w' : World} {K : Act → World → Prop} {Q : Exit → Act → World → Prop} {v : Value} (hr : (execOp a.eval o).run Try.prog w = .ok (.value v) w') (h : K (a.put o.dst v) w') : o.wp Try.prog a w K Q := by
  unfold Oper.wp
  rw [hr]
  exact h
/-- A new array: its pointer. -/
theorem run_alloc_mono {o : Oper} {ρ : Operand → Value} {w : World} (ho : o.op = .alloc 27) : (execOp ρ o).run Try.prog w = .ok (.value (.pointer (some ⟨w.heap.size, 0, none⟩))) (w.alloc (.cells (cls nul) 27)) := by
  have hz : cls nul = #[Value.int IntKind.i64 0, Value.int IntKind.i64 0, Value.int IntKind.i64 0, Value.int IntKind.i64 0, Value.int IntKind.i64 0, Value.int IntKind.i64 0, Value.int IntKind.i64 0, Value.int IntKind.i64 0] := rfl
  rw [hz]
  simp [execOp, ho, go_sem]
theorem run_load_raw {o : Oper} {ρ : Operand → Value} {w : World} {x : Operand} {g : Nat} {f : Nat → Int} (ho : o.op = .load 24 x) (hv : ρ x = .pointer (some ⟨g, 0, none⟩)) (hb : RowU w g f) : (execOp ρ o).run Try.prog w = .ok (.value (.agg (ucl f))) w := by
  have h := run_loadVar_row (P := Try.prog) w g 24 24 (ucl f) (0, 0) _ hb underRaw rfl infoRaw
  unfold execOp
  simp only [ho, hv, Instr.loadAt, Instr.sureAddr, Sem.run_bind, Sem.run_pure, Result.andThen_ok, h]
theorem run_build_nul {o : Oper} {ρ : Operand → Value} {w : World} (ho : o.op = .build 27 #[]) : (execOp ρ o).run Try.prog w = .ok (.value (.agg (cls nul))) w := by
  have hz : cls nul = #[Value.int IntKind.i64 0, Value.int IntKind.i64 0, Value.int IntKind.i64 0, Value.int IntKind.i64 0, Value.int IntKind.i64 0, Value.int IntKind.i64 0, Value.int IntKind.i64 0, Value.int IntKind.i64 0] := rfl
  rw [hz]
  simp [execOp, ho, go_sem]
theorem run_neg_i64 {o : Oper} {ρ : Operand → Value} {x : Operand} {w : World} {t : TypeId} {n : Int} (ho : o.op = .unOp .neg t x) (hv : ρ x = .int .i64 n) (hn : IntKind.i64.wrap (-n) = -n) : (execOp ρ o).run Try.prog w = .ok (.value (.int .i64 (-n))) w := by
  simp [execOp, ho, hv, go_sem, Op.unary, hn]
theorem run_or_u8 {o : Oper} {ρ : Operand → Value} {x y : Operand} {w : World} {t u : TypeId} {m n r : Nat} (ho : o.op = .binOp .or t x y u) (hx : ρ x = .int .u8 (m : Int)) (hy : ρ y = .int .u8 (n : Int)) (hr : bits .or .u8 (m : Int) (n : Int) = (r : Int)) : (execOp ρ o).run Try.prog w = .ok (.value (.int .u8 (r : Int))) w := by
  simp [execOp, ho, hx, hy, go_sem, hr]
end Go.Proofs.Ytchkaaeipafdnaa
