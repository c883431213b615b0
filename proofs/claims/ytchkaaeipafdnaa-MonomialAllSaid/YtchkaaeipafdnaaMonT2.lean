/-
  The law MonomialAll.
-/
import Derived.Test.YtchkaaeipafdnaaMonL0
import Derived.Test.YtchkaaeipafdnaaMonT1
import Derived.Test.YtchkaaeipafdnaaMonL1
namespace Go.Proofs.Ytchkaaeipafdnaa
open Go.RowKit
set_option linter.unusedVariables false
attribute [local go_sem ↓] Go.wp_at_zero Go.wp_at_succ
theorem sm_nonneg {m : Mn} : ∀ {j : Nat}, (∀ t, t < j → 0 ≤ m t) → 0 ≤ sm m j
  | 0, _ => by simp [sm]
  | j + 1, h => by
    have := sm_nonneg (m := m) (j := j) (fun t ht => h t (by omega))
    have := h j (by omega)
    simp only [sm]
    omega
theorem sm_le {m : Mn} : ∀ {j t : Nat}, (∀ t, t < j → 0 ≤ m t) → t < j → m t ≤ sm m j
  | 0, t, _, h => by omega
  | j + 1, t, h, ht => by
    have h0 := sm_nonneg (m := m) (j := j) (fun t ht => h t (by omega))
    have h1 := h j (by omega)
    simp only [sm]
    by_cases e : t = j
    · subst e; omega
    · have := sm_le (m := m) (j := j) (t := t) (fun t ht => h t (by omega)) (by omega)
      omega
theorem sm_congr {m p : Mn} : ∀ {j : Nat}, (∀ t, t < j → m t = p t) → sm m j = sm p j
  | 0, _ => rfl
  | j + 1, h => by simp only [sm]; rw [sm_congr (fun t ht => h t (by omega)), h j (by omega)]
theorem sm_up (m : Mn) (j : Nat) (r : Int) : sm (up m j r) (j + 1) = sm m j + r := by
  simp only [sm]
  rw [up_self, sm_congr (fun t ht => up_ne m r (by omega))]
theorem up_nonneg {m : Mn} {j t : Nat} {r : Int} (h : ∀ t, t < j → 0 ≤ m t) (hr : 0 ≤ r) (ht : t < j + 1) : 0 ≤ up m j r t := by
  by_cases e : t = j
  · subst e; rw [up_self]; exact hr
  · rw [up_ne _ _ e]; exact h t (by omega)
theorem all_mem {m : Mn} {v D : Nat} {q : Int} (hv : 1 ≤ v) (h8 : v ≤ 8) (hq : q + sm m v = D) (hz : ∀ t, v ≤ t → m t = 0) (hp : ∀ t, t < v → 0 ≤ m t) (hq0 : 0 ≤ q) : up m (v - 1) (m (v - 1) + q) ∈ rs v 0 D nul := by
  refine rs_mem v 0 D nul _ (fun j hj => ?_) (fun j h1 h2 => ?_) ?_
  · rw [up_ne _ _ (by omega)]; exact hz j (by omega)
  · by_cases e : j = v - 1
    · rw [e, up_self]; have := hp (v - 1) (by omega); omega
    · rw [up_ne _ _ e]; exact hp j (by omega)
  · have h1 := sm_sg (up m (v - 1) (m (v - 1) + q)) v 0
    rw [Nat.zero_add] at h1
    have h2 : sm (up m (v - 1) (m (v - 1) + q)) v = sm m v + q := by
      obtain ⟨u, rfl⟩ : ∃ u, v = u + 1 := ⟨v - 1, by omega⟩
      rw [show u + 1 - 1 = u by omega, sm_up]
      simp only [sm]
      omega
    have h3 : sm (up m (v - 1) (m (v - 1) + q)) 0 = 0 := rfl
    omega
theorem elem_prop {l : List Mn} {v D s : Nat} (h8 : v ≤ 8) (hl : l = rs v 0 D nul) (hs : s < l.length) : sm (mg l s) 8 = D ∧ (D ≤ 12 → Va (mg l s)) ∧ ∀ t, v ≤ t → t < 8 → mg l s t = 0 := by
  have hm : mg l s ∈ rs v 0 D nul := by rw [← hl]; exact mg_mem hs
  obtain ⟨h1, h2, h3⟩ := rs_prop v 0 D nul _ hm
  have hz : ∀ t, v ≤ t → mg l s t = 0 := fun t ht => by rw [h1 t (by omega)]; rfl
  refine ⟨?_, fun hD k hk => ?_, fun t ht _ => hz t ht⟩
  · have e1 := sm_sg (mg l s) v 0
    have e2 := sm_sg (mg l s) (8 - v) v
    rw [Nat.zero_add, h3] at e1
    rw [show v + (8 - v) = 8 by omega, sg_zero (fun j h4 _ => hz j h4)] at e2
    have e0 : sm (mg l s) 0 = 0 := rfl
    omega
  · by_cases e : k < v
    · have := h2 k (by omega) (by omega); omega
    · rw [hz k (by omega)]; omega
theorem range_at {w : World} {b o s t : Nat} {f : Mn} (h : ∃ b' o', some (⟨b, o, none⟩ : Addr) = some ⟨b', o', none⟩ ∧ b' < w.heap.size ∧ w.rangeAt b' (o' + s * 8) (cls f).toList) (ht : t < 8) : w.cell? ⟨b, o + s * 8 + t, none⟩ = some (.int .i64 (f t)) := by
  obtain ⟨b', o', e, _, hr⟩ := h
  cases e
  refine hr t _ ?_
  have := cls_get f ht
  rw [← this]; simp
set_option maxHeartbeats 4000000 in
set_option maxRecDepth 100000 in
theorem lawAll_any (a0 a1 : Int) (y : Mn) (w : World) (ha : 0 ≤ a0 ∧ a0 ≤ 255) (hd : 0 ≤ a1 ∧ a1 ≤ 255) (hy : Va y) : Calls Try.prog 10 #[.int .u8 a0, .int .u8 a1, .agg #[Value.int IntKind.u16 (y 0), Value.int IntKind.u16 (y 1), Value.int IntKind.u16 (y 2), Value.int IntKind.u16 (y 3), Value.int IntKind.u16 (y 4), Value.int IntKind.u16 (y 5), Value.int IntKind.u16 (y 6), Value.int IntKind.u16 (y 7)]] w fun e w' => e = .returned (.bool true) ∧ Below w.heap.size w w' := by
  have VY := Lib.hid hy
  clear hy
  obtain ⟨n, rfl⟩ := Int.eq_ofNat_of_zero_le ha.1
  obtain ⟨d, rfl⟩ := Int.eq_ofNat_of_zero_le hd.1
  obtain ⟨v, hv⟩ : ∃ v : Nat, (n : Int) % 9 = (v : Int) := ⟨n % 9, by omega⟩
  obtain ⟨g, hg⟩ : ∃ g : Nat, (d : Int) % 13 = (g : Int) := ⟨d % 13, by omega⟩
  have hv8 : v ≤ 8 := by omega
  have hg12 : g ≤ 12 := by omega
  have e9 := hv
  have e13 := hg
  clear hv hg
  have hn255 : (n : Int) ≤ 255 := ha.2
  have hd255 : (d : Int) ≤ 255 := hd.2
  clear ha hd
  go_enter Try.func10, Try.ntmps10
  go_wp2_with fail
  obtain ⟨W, hW⟩ : ∃ W, W = w.alloc (Obj.cells #[Value.int IntKind.u16 (y 0), Value.int IntKind.u16 (y 1), Value.int IntKind.u16 (y 2), Value.int IntKind.u16 (y 3), Value.int IntKind.u16 (y 4), Value.int IntKind.u16 (y 5), Value.int IntKind.u16 (y 6), Value.int IntKind.u16 (y 7)] 24) := ⟨_, rfl⟩
  rw [← hW]
  have U0 : Hid (RowU W w.heap.size y) := by (rw [hW]; exact RowU.new w y)
  have DW : Hid (Below w.heap.size w W) := by rw [hW]; exact (Below.refl _ _).alloc (Nat.le_refl _) _
  clear hW
  refine (sanity_any _).mono ?_
  rintro e y1 ⟨rfl, hb⟩
  replace U0 := Lib.hid (U0.out.below hb U0.out.lt)
  replace DW := Lib.hid (below_link DW.out hb DW.out.size)
  clear hb
  by_cases hbig : 4 < v
  · obtain ⟨D, hD⟩ : ∃ D : Nat, (g : Int) % 5 = (D : Int) := ⟨g % 5, by omega⟩
    have hD12 : D ≤ 12 := by omega
    have hvd : v ≤ 4 ∨ D ≤ 4 := by omega
    have e5 := hD
    clear hD
    go_upto_region 8 with fail
    rw [e5]
    clear e5
    go_wp2_with fail
    refine (all_ok v D _ hv8 hD12).mono ?_
    rintro e y2 ⟨v10, l, rfl, s10, hl, hb⟩
    replace U0 := Lib.hid (U0.out.below hb U0.out.lt)
    replace DW := Lib.hid (below_link DW.out hb DW.out.size)
    clear hb
    clear e9 e13
    have HL := Lib.hid hl
    obtain ⟨A10, n10, c10, rfl, p1, p2, p3, p4⟩ := s10
    have X10 := Lib.hid p4; have L10 := Lib.hid p4.len; have P1 := Lib.hid p1; have P2 := Lib.hid p2
    clear p1 p2 p3 p4 hl
    have NL := Lib.hid (show n10 = rl v D by have := L10.out; rw [HL.out, rs_length] at this; exact this.symm)
    have NM := Lib.hid (show n10 = mny D v by rw [NL.out]; exact mny_rl v (by omega) D (by omega) hvd (by omega))
    have hn10 : n10 ≤ 1000000 := by rw [NM.out]; exact mny_bd D (by omega) v (by omega)
    go_wp2_with fail
    go_loop [12, 13] (fun s12 s13 => ∃ i : Nat, 1 ≤ i ∧ (i ≤ v ∨ i = 1) ∧ s13 = .int .i64 i ∧ s12 = .int .i64 (mny D i : Nat)) (fun _ s13 => v - (intOf s13).toNat)
    case atStart => exact ⟨1, by omega, by omega, rfl, rfl⟩
    case round =>
      obtain ⟨i, hi1, hi2, rfl, rfl⟩ := hrel
      by_cases hlt : i < v
      · have HM := Lib.hid (mny_next D i hi1)
        have hm6 := mny_bd D (by omega) i (by omega)
        generalize mny D i = M at *
        have hp1 : 0 ≤ (M : Int) * ((D : Int) + (i : Int)) := Int.mul_nonneg (by omega) (by omega)
        have hp2 : (M : Int) * ((D : Int) + (i : Int)) ≤ 1000000 * 21 := Int.mul_le_mul (by omega) (by omega) (by omega) (by omega)
        go_wp2_with fail
        go_round
        case rel => exact ⟨i + 1, by omega, by omega, by go_num, by rw [HM.out, Int.natCast_ediv, Int.natCast_mul, Int.natCast_add]⟩
        case measure => simp [intOf]; omega
      · obtain rfl : i = v := by omega
        have hne : (((n10 : Nat) : Int) != ((mny D i : Nat) : Int)) = false := by rw [NM.out]; simp
        have hv0 : (((i : Nat) : Int) == 0) = false := by simp; omega
        go_upto_region 16 with fail
        go_upto_region 19 with fail
        clear hne
        obtain ⟨wm, hW⟩ : ∃ wm, wm = y2.alloc (Obj.cells #[Value.int IntKind.i64 0, Value.int IntKind.i64 0, Value.int IntKind.i64 0, Value.int IntKind.i64 0, Value.int IntKind.i64 0, Value.int IntKind.i64 0, Value.int IntKind.i64 0, Value.int IntKind.i64 0] 27) := ⟨_, rfl⟩
        rw [← hW]
        have M0 : Hid (Row wm y2.heap.size nul) := by rw [hW]; exact Row.new y2 nul
        have D0 : Hid (Below y2.heap.size y2 wm) := by rw [hW]; exact (Below.refl _ _).alloc (Nat.le_refl _) _
        clear hW
        have hv1 := hv0
        clear hv0
        go_wp2_with fail
        go_loopw [15, 16] (fun s15 s16 wr => ∃ (j : Nat) (m : Mn) (q : Int), j ≤ i ∧ s16 = .int .i64 j ∧ s15 = .int .i64 q ∧ 0 ≤ q ∧ q + sm m j = D ∧ (∀ t, j ≤ t → m t = 0) ∧ (∀ t, t < j → 0 ≤ m t) ∧ Row wr y2.heap.size m ∧ Below y2.heap.size y2 wr) (fun _ s16 _ => i - (intOf s16).toNat)
        case atStart => exact ⟨0, nul, _, by omega, rfl, rfl, by omega, by simp [sm], fun _ _ => rfl, fun t ht => by omega, M0.out, D0.out⟩
        case round =>
          obtain ⟨j, m, q, hj, rfl, rfl, hq0, hqs, hz, hp, hM, hb⟩ := hrel
          obtain ⟨wo, rfl⟩ : ∃ wo : World, wo = wr := ⟨_, rfl⟩
          have U1 := Lib.hid (U0.out.below hb U0.out.lt)
          have D1 := Lib.hid hb; have M1 := Lib.hid hM; have QS := Lib.hid hqs; have MZ := Lib.hid hz; have MP := Lib.hid hp
          clear hb hM hqs hz hp D0 M0
          have hsm : 0 ≤ sm m j := sm_nonneg MP.out
          have hq1 : q ≤ 12 := by have := QS.out; omega
          by_cases hjt : j < i
          · have cU := U1.out.cell (show j < 8 by omega); have cM := M1.out.cell (show j < 8 by omega); have fM := M1.out.frozen j
            obtain ⟨y1, y2⟩ := VY.out j (by omega)
            have r1 : 0 ≤ y j % (q + 1) := Int.emod_nonneg _ (by omega)
            have r2 : y j % (q + 1) ≤ q := by have := Int.emod_lt_of_pos (y j) (show 0 < q + 1 by omega); omega
            go_wp2_with fail
            go_roundw
            case rel => exact ⟨j + 1, up m j (y j % (q + 1)), _, by omega, by go_num, rfl, by omega, by rw [sm_up]; have := QS.out; omega, (fun t ht => by rw [up_ne _ _ (by omega)]; exact MZ.out t (by omega)), (fun t ht => up_nonneg MP.out r1 ht), M1.out.set _ (by omega), D1.out.setCell (by simp) _⟩
            case measure => simp [intOf]; omega
          · obtain rfl : j = i := by omega
            have hjt1 : ((j : Nat) : Int) - 1 = ((j - 1 : Nat) : Int) := by omega
            have cM := M1.out.cell (show j - 1 < 8 by omega); have fM := M1.out.frozen (j - 1)
            have hx : 0 ≤ m (j - 1) := MP.out _ (by omega)
            have hx2 : m (j - 1) ≤ 12 := by have := QS.out; have := sm_le MP.out (t := j - 1) (by omega); omega
            have hmx : ¬ (((j - 1 : Nat)) : Int) < 0 := by omega
            go_upto_region 26 with fail
            obtain ⟨w3, hW⟩ : ∃ w3, w3 = wo.setCell ⟨y2.heap.size, (j - 1), none⟩ (.int .i64 (m (j - 1) + q)) := ⟨_, rfl⟩
            rw [← hW]
            have M2 : Hid (Row w3 y2.heap.size (up m (j - 1) (m (j - 1) + q))) := by rw [hW]; exact M1.out.set _ (by omega)
            have hb : Below y2.heap.size y2 w3 := by rw [hW]; exact D1.out.setCell (by simp) _
            replace U0 := Lib.hid (U0.out.below hb U0.out.lt)
            replace X10 := Lib.hid (X10.out.below hb)
            replace DW := Lib.hid (below_link DW.out hb DW.out.size)
            clear hb hW cM fM U1 D1 M1
            have MM := Lib.hid (all_mem (v := j) (D := D) (by omega) (by omega) QS.out MZ.out MP.out hq0)
            clear hjt hjt1 hx hx2 hmx QS MZ MP hq0 hsm hq1
            generalize up m (j - 1) (m (j - 1) + q) = m2 at *
            go_wp2_with fail
            clear hv1
            go_loopw [17, 18, 19] (fun s17 s18 _ wr => ∃ s : Nat, s ≤ n10 ∧ s18 = .int .i64 s ∧ s17 = .bool (fnd l m2 s) ∧ Below w3.heap.size w3 wr) (fun _ s18 _ _ => n10 - (intOf s18).toNat)
            case atStart => exact ⟨0, by omega, rfl, rfl, Below.refl _ _⟩
            case round =>
              obtain ⟨s, hs1, rfl, rfl, hb⟩ := hrel
              obtain ⟨wp, rfl⟩ : ∃ wp : World, wp = wr := ⟨_, rfl⟩
              replace U0 := Lib.hid (U0.out.below hb U0.out.lt)
              replace X10 := Lib.hid (X10.out.below hb)
              replace M2 := Lib.hid (M2.out.below hb M2.out.lt)
              replace DW := Lib.hid (below_link DW.out hb DW.out.size)
              have LB := Lib.hid hb
              clear hb
              by_cases hst : s < n10
              · have hlen : s < l.length := by rw [L10.out]; exact hst
                have PR := Lib.hid (elem_prop (by omega) HL.out hlen)
                by_cases hs0 : ¬ 0 < s
                · skip
                  have E0 := Lib.hid (show (sm (mg l s) 8 != ((D : Nat) : Int)) = false by rw [PR.out.1]; simp)
                  obtain ⟨b8, o8, e8, hb8, hr8⟩ := X10.out.at_ hst
                  subst e8
                  have H2 := Lib.hid hr8; have HB := Lib.hid hb8
                  clear hr8 hb8
                  have E1 := Lib.hid (show decide ((0 : Int) < ((s : Nat) : Int)) = false by simp; omega)
                  clear hs0
                  go_wp2_with fail
                  refine region_run (fun w' => Below wp.heap.size wp w') [.is (.slice (some ⟨b8, o8, none⟩) n10 c10), .is (Value.int IntKind.i64 ((s : Nat))), .is (.pointer (some ⟨b8, o8 + s * 8, none⟩)), .is (.agg (cls (mg l s))), .is (Value.int IntKind.i64 (sm (mg l s) 8)), .is (Value.int IntKind.i64 ((D : Nat))), .is (Value.bool false), .is (Value.bool false), .is (.slice (some ⟨b8, o8, none⟩) n10 c10), .is (Value.int IntKind.i64 ((s : Nat))), .is (.pointer (some ⟨b8, o8 + s * 8, none⟩)), .is (.agg (cls (mg l s))), .is (Value.bool true), .is (Value.bool false), .is (Value.bool false), .is (Value.bool false), .is (Value.int IntKind.i64 ((s : Nat))), .is (Value.bool false), .is (Value.bool false), .is undef, .is undef, .is undef, .is undef, .is undef, .is undef, .is undef, .is undef, .is undef, .is undef, .is undef, .is (Value.bool false), .is (Value.bool false)] [102, 103, 104, 105, 106, 107, 108, 109, 110, 111, 112, 113, 114, 115, 116, 117, 118, 119, 120, 121, 122, 123, 124, 125, 126, 127, 128, 129, 130, 131, 132, 133] (by kernel_rfl) (by kernel_rfl) (by kernel_rfl) (by rfl) (by kernel_rfl) ((Below.refl _ _).drew) (fun Q' => ?_) (fun K hK wn hs => ?_)
                  · refine ⟨?_, ?_, ?_, ?_, ?_, ?_, ?_, ?_, ?_, ?_, ?_, ?_, ?_, ?_, ?_, ?_, ?_, ?_, ?_, ?_, ?_, ?_, ?_, ?_, ?_, ?_, ?_, ?_, ?_, ?_, ?_, ?_, trivial⟩
                    · intro a' w' ha hs hw
                      have eo10 : a'.tmps[10]? = some (.slice (some ⟨b8, o8, none⟩) n10 c10) := (ha.rest 10 (by kernel_rfl)).trans rfl
                      exact .inl ⟨wanted_none rfl, wp_val (run_move rfl (ev_tmp eo10)) ⟨_, rfl, rfl, Below.refl _ _, hs⟩⟩
                    · intro a' w' ha hs hw
                      have eo18 : a'.tmps[18]? = some (Value.int IntKind.i64 ((s : Nat))) := (ha.rest 18 (by kernel_rfl)).trans rfl
                      exact .inl ⟨wanted_none rfl, wp_val (run_move rfl (ev_tmp eo18)) ⟨_, rfl, rfl, Below.refl _ _, hs⟩⟩
                    · intro a' w' ha hs hw
                      obtain ⟨v0, e0, q0⟩ := hw 0 (by kernel_rfl) _ _ _ rfl rfl rfl
                      obtain rfl : v0 = .slice (some ⟨b8, o8, none⟩) n10 c10 := q0
                      obtain ⟨v1, e1, q1⟩ := hw 1 (by kernel_rfl) _ _ _ rfl rfl rfl
                      obtain rfl : v1 = Value.int IntKind.i64 ((s : Nat)) := q1
                      exact .inl ⟨wanted_none rfl, wp_val (run_at (k := s) rfl (ev_tmp e0) (ev_tmp e1) hst) ⟨_, rfl, rfl, Below.refl _ _, hs⟩⟩
                    · intro a' w' ha hs hw
                      obtain ⟨v2, e2, q2⟩ := hw 2 (by kernel_rfl) _ _ _ rfl rfl rfl
                      obtain rfl : v2 = .pointer (some ⟨b8, o8 + s * 8, none⟩) := q2
                      exact .inl ⟨wanted_none rfl, wp_val (run_load_mid rfl (ev_tmp e2) (rangeAt_keep H2.out (hs.block _ HB.out))) ⟨_, rfl, rfl, Below.refl _ _, hs⟩⟩
                    · intro a' w' ha hs hw
                      obtain ⟨v3, e3, q3⟩ := hw 3 (by kernel_rfl) _ _ _ rfl rfl rfl
                      obtain rfl : v3 = .agg (cls (mg l s)) := q3
                      exact .inl ⟨wanted_none rfl, call_step rfl Try.func25 (by kernel_rfl) rfl (map_one (ev_tmp e3)) (degree_any (mg l s) _ ((PR.out.2.1 hD12))) (fun e w2 he => by obtain ⟨rfl, hb⟩ := he; exact ⟨_, rfl, _, rfl, rfl, hb, hs.trans (hb.mono hs.size)⟩)⟩
                    · intro a' w' ha hs hw
                      have eo9 : a'.tmps[9]? = some (Value.int IntKind.i64 ((D : Nat))) := (ha.rest 9 (by kernel_rfl)).trans rfl
                      exact .inl ⟨wanted_none rfl, wp_val (run_move rfl (ev_tmp eo9)) ⟨_, rfl, rfl, Below.refl _ _, hs⟩⟩
                    · intro a' w' ha hs hw
                      obtain ⟨v4, e4, q4⟩ := hw 4 (by kernel_rfl) _ _ _ rfl rfl rfl
                      obtain rfl : v4 = Value.int IntKind.i64 (sm (mg l s) 8) := q4
                      obtain ⟨v5, e5, q5⟩ := hw 5 (by kernel_rfl) _ _ _ rfl rfl rfl
                      obtain rfl : v5 = Value.int IntKind.i64 ((D : Nat)) := q5
                      exact .inl ⟨wanted_none rfl, wp_val (run_neq_int rfl (ev_tmp e4) (ev_tmp e5)) ⟨_, rfl, congrArg Value.bool (E0.out), Below.refl _ _, hs⟩⟩
                    · intro a' w' ha hs hw
                      obtain ⟨v6, e6, q6⟩ := hw 6 (by kernel_rfl) _ _ _ rfl rfl rfl
                      obtain rfl : v6 = Value.bool false := q6
                      exact .inl ⟨wanted_none rfl, wp_val (run_move rfl (ev_tmp e6)) ⟨_, rfl, rfl, Below.refl _ _, hs⟩⟩
                    · intro a' w' ha hs hw
                      obtain ⟨v7, e7, q7⟩ := hw 7 (by kernel_rfl) _ _ _ rfl rfl rfl
                      obtain rfl : v7 = Value.bool false := q7
                      have eo10 : a'.tmps[10]? = some (.slice (some ⟨b8, o8, none⟩) n10 c10) := (ha.rest 10 (by kernel_rfl)).trans rfl
                      exact .inl ⟨wanted_some rfl rfl rfl e7, wp_val (run_move rfl (ev_tmp eo10)) ⟨_, rfl, rfl, Below.refl _ _, hs⟩⟩
                    · intro a' w' ha hs hw
                      obtain ⟨v7, e7, q7⟩ := hw 7 (by kernel_rfl) _ _ _ rfl rfl rfl
                      obtain rfl : v7 = Value.bool false := q7
                      have eo18 : a'.tmps[18]? = some (Value.int IntKind.i64 ((s : Nat))) := (ha.rest 18 (by kernel_rfl)).trans rfl
                      exact .inl ⟨wanted_some rfl rfl rfl e7, wp_val (run_move rfl (ev_tmp eo18)) ⟨_, rfl, rfl, Below.refl _ _, hs⟩⟩
                    · intro a' w' ha hs hw
                      obtain ⟨v7, e7, q7⟩ := hw 7 (by kernel_rfl) _ _ _ rfl rfl rfl
                      obtain rfl : v7 = Value.bool false := q7
                      obtain ⟨v8, e8, q8⟩ := hw 8 (by kernel_rfl) _ _ _ rfl rfl rfl
                      obtain rfl : v8 = .slice (some ⟨b8, o8, none⟩) n10 c10 := q8
                      obtain ⟨v9, e9, q9⟩ := hw 9 (by kernel_rfl) _ _ _ rfl rfl rfl
                      obtain rfl : v9 = Value.int IntKind.i64 ((s : Nat)) := q9
                      exact .inl ⟨wanted_some rfl rfl rfl e7, wp_val (run_at (k := s) rfl (ev_tmp e8) (ev_tmp e9) hst) ⟨_, rfl, rfl, Below.refl _ _, hs⟩⟩
                    · intro a' w' ha hs hw
                      obtain ⟨v7, e7, q7⟩ := hw 7 (by kernel_rfl) _ _ _ rfl rfl rfl
                      obtain rfl : v7 = Value.bool false := q7
                      obtain ⟨v10, e10, q10⟩ := hw 10 (by kernel_rfl) _ _ _ rfl rfl rfl
                      obtain rfl : v10 = .pointer (some ⟨b8, o8 + s * 8, none⟩) := q10
                      exact .inl ⟨wanted_some rfl rfl rfl e7, wp_val (run_load_mid rfl (ev_tmp e10) (rangeAt_keep H2.out (hs.block _ HB.out))) ⟨_, rfl, rfl, Below.refl _ _, hs⟩⟩
                    · intro a' w' ha hs hw
                      obtain ⟨v7, e7, q7⟩ := hw 7 (by kernel_rfl) _ _ _ rfl rfl rfl
                      obtain rfl : v7 = Value.bool false := q7
                      obtain ⟨v11, e11, q11⟩ := hw 11 (by kernel_rfl) _ _ _ rfl rfl rfl
                      obtain rfl : v11 = .agg (cls (mg l s)) := q11
                      exact .inl ⟨wanted_some rfl rfl rfl e7, call_step rfl Try.func29 (by kernel_rfl) rfl (map_one (ev_tmp e11)) (valid_true (mg l s) _ (PR.out.2.1 hD12)) (fun e w2 he => by obtain ⟨rfl, hb⟩ := he; exact ⟨_, rfl, _, rfl, rfl, hb, hs.trans (hb.mono hs.size)⟩)⟩
                    · intro a' w' ha hs hw
                      obtain ⟨v7, e7, q7⟩ := hw 7 (by kernel_rfl) _ _ _ rfl rfl rfl
                      obtain rfl : v7 = Value.bool false := q7
                      obtain ⟨v12, e12, q12⟩ := hw 12 (by kernel_rfl) _ _ _ rfl rfl rfl
                      obtain rfl : v12 = Value.bool true := q12
                      exact .inl ⟨wanted_some rfl rfl rfl e7, wp_val (run_not rfl (ev_tmp e12)) ⟨_, rfl, rfl, Below.refl _ _, hs⟩⟩
                    · intro a' w' ha hs hw
                      obtain ⟨v7, e7, q7⟩ := hw 7 (by kernel_rfl) _ _ _ rfl rfl rfl
                      obtain rfl : v7 = Value.bool false := q7
                      obtain ⟨v13, e13, q13⟩ := hw 13 (by kernel_rfl) _ _ _ rfl rfl rfl
                      obtain rfl : v13 = Value.bool false := q13
                      exact .inl ⟨wanted_none rfl, wp_val (run_pick (b := false) rfl (ev_tmp e7) (ev_tmp e13)) ⟨_, rfl, rfl, Below.refl _ _, hs⟩⟩
                    · intro a' w' ha hs hw
                      obtain ⟨v14, e14, q14⟩ := hw 14 (by kernel_rfl) _ _ _ rfl rfl rfl
                      obtain rfl : v14 = Value.bool false := q14
                      exact .inl ⟨wanted_none rfl, wp_val (run_move rfl (ev_tmp e14)) ⟨_, rfl, rfl, Below.refl _ _, hs⟩⟩
                    · intro a' w' ha hs hw
                      obtain ⟨v15, e15, q15⟩ := hw 15 (by kernel_rfl) _ _ _ rfl rfl rfl
                      obtain rfl : v15 = Value.bool false := q15
                      have eo18 : a'.tmps[18]? = some (Value.int IntKind.i64 ((s : Nat))) := (ha.rest 18 (by kernel_rfl)).trans rfl
                      exact .inl ⟨wanted_some rfl rfl rfl e15, wp_val (run_move rfl (ev_tmp eo18)) ⟨_, rfl, rfl, Below.refl _ _, hs⟩⟩
                    · intro a' w' ha hs hw
                      obtain ⟨v15, e15, q15⟩ := hw 15 (by kernel_rfl) _ _ _ rfl rfl rfl
                      obtain rfl : v15 = Value.bool false := q15
                      obtain ⟨v16, e16, q16⟩ := hw 16 (by kernel_rfl) _ _ _ rfl rfl rfl
                      obtain rfl : v16 = Value.int IntKind.i64 ((s : Nat)) := q16
                      exact .inl ⟨wanted_some rfl rfl rfl e15, wp_val (run_gtr_int rfl (ev_tmp e16) rfl) ⟨_, rfl, congrArg Value.bool (E1.out), Below.refl _ _, hs⟩⟩
                    · intro a' w' ha hs hw
                      obtain ⟨v15, e15, q15⟩ := hw 15 (by kernel_rfl) _ _ _ rfl rfl rfl
                      obtain rfl : v15 = Value.bool false := q15
                      obtain ⟨v17, e17, q17⟩ := hw 17 (by kernel_rfl) _ _ _ rfl rfl rfl
                      obtain rfl : v17 = Value.bool false := q17
                      exact .inl ⟨wanted_some rfl rfl rfl e15, wp_val (run_move rfl (ev_tmp e17)) ⟨_, rfl, rfl, Below.refl _ _, hs⟩⟩
                    · intro a' w' ha hs hw
                      obtain ⟨v18, e18, q18⟩ := hw 18 (by kernel_rfl) _ _ _ rfl rfl rfl
                      obtain rfl : v18 = Value.bool false := q18
                      exact .inr ⟨wanted_off rfl rfl rfl e18 (by decide), rfl⟩
                    · intro a' w' ha hs hw
                      obtain ⟨v18, e18, q18⟩ := hw 18 (by kernel_rfl) _ _ _ rfl rfl rfl
                      obtain rfl : v18 = Value.bool false := q18
                      exact .inr ⟨wanted_off rfl rfl rfl e18 (by decide), rfl⟩
                    · intro a' w' ha hs hw
                      obtain ⟨v18, e18, q18⟩ := hw 18 (by kernel_rfl) _ _ _ rfl rfl rfl
                      obtain rfl : v18 = Value.bool false := q18
                      exact .inr ⟨wanted_off rfl rfl rfl e18 (by decide), rfl⟩
                    · intro a' w' ha hs hw
                      obtain ⟨v18, e18, q18⟩ := hw 18 (by kernel_rfl) _ _ _ rfl rfl rfl
                      obtain rfl : v18 = Value.bool false := q18
                      exact .inr ⟨wanted_off rfl rfl rfl e18 (by decide), rfl⟩
                    · intro a' w' ha hs hw
                      obtain ⟨v18, e18, q18⟩ := hw 18 (by kernel_rfl) _ _ _ rfl rfl rfl
                      obtain rfl : v18 = Value.bool false := q18
                      exact .inr ⟨wanted_off rfl rfl rfl e18 (by decide), rfl⟩
                    · intro a' w' ha hs hw
                      obtain ⟨v18, e18, q18⟩ := hw 18 (by kernel_rfl) _ _ _ rfl rfl rfl
                      obtain rfl : v18 = Value.bool false := q18
                      exact .inr ⟨wanted_off rfl rfl rfl e18 (by decide), rfl⟩
                    · intro a' w' ha hs hw
                      obtain ⟨v18, e18, q18⟩ := hw 18 (by kernel_rfl) _ _ _ rfl rfl rfl
                      obtain rfl : v18 = Value.bool false := q18
                      exact .inr ⟨wanted_off rfl rfl rfl e18 (by decide), rfl⟩
                    · intro a' w' ha hs hw
                      obtain ⟨v18, e18, q18⟩ := hw 18 (by kernel_rfl) _ _ _ rfl rfl rfl
                      obtain rfl : v18 = Value.bool false := q18
                      exact .inr ⟨wanted_off rfl rfl rfl e18 (by decide), rfl⟩
                    · intro a' w' ha hs hw
                      obtain ⟨v18, e18, q18⟩ := hw 18 (by kernel_rfl) _ _ _ rfl rfl rfl
                      obtain rfl : v18 = Value.bool false := q18
                      exact .inr ⟨wanted_off rfl rfl rfl e18 (by decide), rfl⟩
                    · intro a' w' ha hs hw
                      obtain ⟨v18, e18, q18⟩ := hw 18 (by kernel_rfl) _ _ _ rfl rfl rfl
                      obtain rfl : v18 = Value.bool false := q18
                      exact .inr ⟨wanted_off rfl rfl rfl e18 (by decide), rfl⟩
                    · intro a' w' ha hs hw
                      obtain ⟨v18, e18, q18⟩ := hw 18 (by kernel_rfl) _ _ _ rfl rfl rfl
                      obtain rfl : v18 = Value.bool false := q18
                      exact .inr ⟨wanted_off rfl rfl rfl e18 (by decide), rfl⟩
                    · intro a' w' ha hs hw
                      obtain ⟨v15, e15, q15⟩ := hw 15 (by kernel_rfl) _ _ _ rfl rfl rfl
                      obtain rfl : v15 = Value.bool false := q15
                      obtain ⟨v18, e18, q18⟩ := hw 18 (by kernel_rfl) _ _ _ rfl rfl rfl
                      obtain rfl : v18 = Value.bool false := q18
                      exact .inl ⟨wanted_some rfl rfl rfl e15, wp_val (run_pick (b := false) rfl (ev_tmp e18) rfl) ⟨_, rfl, rfl, Below.refl _ _, hs⟩⟩
                    · intro a' w' ha hs hw
                      obtain ⟨v15, e15, q15⟩ := hw 15 (by kernel_rfl) _ _ _ rfl rfl rfl
                      obtain rfl : v15 = Value.bool false := q15
                      obtain ⟨v30, e30, q30⟩ := hw 30 (by kernel_rfl) _ _ _ rfl rfl rfl
                      obtain rfl : v30 = Value.bool false := q30
                      exact .inl ⟨wanted_none rfl, wp_val (run_pick (b := false) rfl (ev_tmp e15) (ev_tmp e30)) ⟨_, rfl, rfl, Below.refl _ _, hs⟩⟩
                  simp only [allK]
                  simp only [setAll, List.set_cons_succ, List.set_cons_zero]
                  refine hK _ _ ?_
                  clear hK K
                  replace U0 := Lib.hid (U0.out.below hs U0.out.lt)
                  replace X10 := Lib.hid (X10.out.below hs)
                  replace M2 := Lib.hid (M2.out.below hs M2.out.lt)
                  replace LB := Lib.hid (below_link LB.out hs LB.out.size)
                  replace DW := Lib.hid (below_link DW.out hs DW.out.size)
                  clear hs
                  generalize wn = z4 at *
                  go_wp2_with fail
                  go_loop [19] (fun s19 => ∃ t : Nat, j ≤ t ∧ t ≤ 8 ∧ s19 = .int .i64 t) (fun s19 => 8 - (intOf s19).toNat)
                  case atStart => exact ⟨j, Nat.le_refl _, by omega, rfl⟩
                  case round =>
                    obtain ⟨t, ht1, ht2, rfl⟩ := hrel
                    by_cases htl : t < 8
                    · have c0 : z4.cell? ⟨b8, o8 + s * 8 + t, none⟩ = some (.int .i64 0) := by rw [range_at (X10.out.at_ hst) htl, PR.out.2.2 t ht1 htl]
                      have hs8 : ((s : Nat) : Int) < ((n10 : Nat) : Int) := by omega
                      go_wp2_with fail
                      go_round
                      case rel => exact ⟨t + 1, by omega, by omega, by go_num⟩
                      case measure => simp [intOf]; omega
                    · skip
                      cases hfd : fnd l m2 s with
                      | true =>
                        have HS := Lib.hid (fnd_true hfd)
                        clear hfd
                        go_wp2_with fail
                        go_quiet (fail)
                        go_wp2_with fail
                        go_roundw
                        case rel => exact ⟨s + 1, by omega, by go_num, by rw [HS.out], bdrew LB.out⟩
                        case measure => simp [intOf]; omega
                      | false =>
                        have HS := Lib.hid (fnd_false hfd)
                        clear hfd
                        obtain ⟨b9, o9, e9, _, hr9⟩ := X10.out.at_ hst
                        cases e9
                        obtain ⟨f0, f1, f2, f3, f4, f5, f6, f7⟩ := range_all hr9
                        clear hr9
                        obtain ⟨cM20, cM21, cM22, cM23, cM24, cM25, cM26, cM27⟩ := M2.out.all
                        have he := run_equalIn_arr (mg l s) m2
                        have hj1 : ((s : Nat) : Int) < ((n10 : Nat) : Int) := by omega
                        go_wp2_with fail
                        go_quiet (fail)
                        clear hj1 he f0 f1 f2 f3 f4 f5 f6 f7
                        clear cM20 cM21 cM22 cM23 cM24 cM25 cM26 cM27
                        go_wp2_with fail
                        go_roundw
                        case rel => exact ⟨s + 1, by omega, by go_num, by rw [HS.out], bdrew LB.out⟩
                        case measure => simp [intOf]; omega
                · skip
                  have E0 := Lib.hid (show (sm (mg l s) 8 != ((D : Nat) : Int)) = false by rw [PR.out.1]; simp)
                  obtain ⟨b8, o8, e8, hb8, hr8⟩ := X10.out.at_ (k := s - 1) (by omega)
                  obtain ⟨b9, o9, e9, _, hr9⟩ := X10.out.at_ hst
                  subst e8
                  cases e9
                  have H1 := Lib.hid hr8; have H2 := Lib.hid hr9; have HB := Lib.hid hb8
                  clear hr8 hr9 hb8
                  have E1 := Lib.hid (show decide ((0 : Int) < ((s : Nat) : Int)) = true by simp; omega); have E2 := Lib.hid (show CM (mg l (s - 1)) (mg l s) 1 from .inr (.inr ⟨by have := strict_at (s := l) (i := s - 1) (by rw [HL.out]; exact rs_strict j 0 D nul (by omega)) (by omega); rw [show s - 1 + 1 = s by omega] at this; exact this, rfl⟩))
                  have HI := Lib.hid (show ((s : Nat) : Int) - 1 = ((s - 1 : Nat) : Int) by omega)
                  clear hs0
                  go_wp2_with fail
                  refine region_run (fun w' => Below wp.heap.size wp w') [.is (.slice (some ⟨b8, o8, none⟩) n10 c10), .is (Value.int IntKind.i64 ((s : Nat))), .is (.pointer (some ⟨b8, o8 + s * 8, none⟩)), .is (.agg (cls (mg l s))), .is (Value.int IntKind.i64 (sm (mg l s) 8)), .is (Value.int IntKind.i64 ((D : Nat))), .is (Value.bool false), .is (Value.bool false), .is (.slice (some ⟨b8, o8, none⟩) n10 c10), .is (Value.int IntKind.i64 ((s : Nat))), .is (.pointer (some ⟨b8, o8 + s * 8, none⟩)), .is (.agg (cls (mg l s))), .is (Value.bool true), .is (Value.bool false), .is (Value.bool false), .is (Value.bool false), .is (Value.int IntKind.i64 ((s : Nat))), .is (Value.bool true), .is (Value.bool true), .is (.slice (some ⟨b8, o8, none⟩) n10 c10), .is (Value.int IntKind.i64 ((s : Nat))), .is (Value.int IntKind.i64 ((s - 1 : Nat))), .is (.pointer (some ⟨b8, o8 + (s - 1) * 8, none⟩)), .is (.agg (cls (mg l (s - 1)))), .is (.slice (some ⟨b8, o8, none⟩) n10 c10), .is (Value.int IntKind.i64 ((s : Nat))), .is (.pointer (some ⟨b8, o8 + s * 8, none⟩)), .is (.agg (cls (mg l s))), .is (Value.int IntKind.i64 (1)), .is (Value.bool false), .is (Value.bool false), .is (Value.bool false)] [102, 103, 104, 105, 106, 107, 108, 109, 110, 111, 112, 113, 114, 115, 116, 117, 118, 119, 120, 121, 122, 123, 124, 125, 126, 127, 128, 129, 130, 131, 132, 133] (by kernel_rfl) (by kernel_rfl) (by kernel_rfl) (by rfl) (by kernel_rfl) ((Below.refl _ _).drew) (fun Q' => ?_) (fun K hK wn hs => ?_)
                  · refine ⟨?_, ?_, ?_, ?_, ?_, ?_, ?_, ?_, ?_, ?_, ?_, ?_, ?_, ?_, ?_, ?_, ?_, ?_, ?_, ?_, ?_, ?_, ?_, ?_, ?_, ?_, ?_, ?_, ?_, ?_, ?_, ?_, trivial⟩
                    · intro a' w' ha hs hw
                      have eo10 : a'.tmps[10]? = some (.slice (some ⟨b8, o8, none⟩) n10 c10) := (ha.rest 10 (by kernel_rfl)).trans rfl
                      exact .inl ⟨wanted_none rfl, wp_val (run_move rfl (ev_tmp eo10)) ⟨_, rfl, rfl, Below.refl _ _, hs⟩⟩
                    · intro a' w' ha hs hw
                      have eo18 : a'.tmps[18]? = some (Value.int IntKind.i64 ((s : Nat))) := (ha.rest 18 (by kernel_rfl)).trans rfl
                      exact .inl ⟨wanted_none rfl, wp_val (run_move rfl (ev_tmp eo18)) ⟨_, rfl, rfl, Below.refl _ _, hs⟩⟩
                    · intro a' w' ha hs hw
                      obtain ⟨v0, e0, q0⟩ := hw 0 (by kernel_rfl) _ _ _ rfl rfl rfl
                      obtain rfl : v0 = .slice (some ⟨b8, o8, none⟩) n10 c10 := q0
                      obtain ⟨v1, e1, q1⟩ := hw 1 (by kernel_rfl) _ _ _ rfl rfl rfl
                      obtain rfl : v1 = Value.int IntKind.i64 ((s : Nat)) := q1
                      exact .inl ⟨wanted_none rfl, wp_val (run_at (k := s) rfl (ev_tmp e0) (ev_tmp e1) hst) ⟨_, rfl, rfl, Below.refl _ _, hs⟩⟩
                    · intro a' w' ha hs hw
                      obtain ⟨v2, e2, q2⟩ := hw 2 (by kernel_rfl) _ _ _ rfl rfl rfl
                      obtain rfl : v2 = .pointer (some ⟨b8, o8 + s * 8, none⟩) := q2
                      exact .inl ⟨wanted_none rfl, wp_val (run_load_mid rfl (ev_tmp e2) (rangeAt_keep H2.out (hs.block _ HB.out))) ⟨_, rfl, rfl, Below.refl _ _, hs⟩⟩
                    · intro a' w' ha hs hw
                      obtain ⟨v3, e3, q3⟩ := hw 3 (by kernel_rfl) _ _ _ rfl rfl rfl
                      obtain rfl : v3 = .agg (cls (mg l s)) := q3
                      exact .inl ⟨wanted_none rfl, call_step rfl Try.func25 (by kernel_rfl) rfl (map_one (ev_tmp e3)) (degree_any (mg l s) _ ((PR.out.2.1 hD12))) (fun e w2 he => by obtain ⟨rfl, hb⟩ := he; exact ⟨_, rfl, _, rfl, rfl, hb, hs.trans (hb.mono hs.size)⟩)⟩
                    · intro a' w' ha hs hw
                      have eo9 : a'.tmps[9]? = some (Value.int IntKind.i64 ((D : Nat))) := (ha.rest 9 (by kernel_rfl)).trans rfl
                      exact .inl ⟨wanted_none rfl, wp_val (run_move rfl (ev_tmp eo9)) ⟨_, rfl, rfl, Below.refl _ _, hs⟩⟩
                    · intro a' w' ha hs hw
                      obtain ⟨v4, e4, q4⟩ := hw 4 (by kernel_rfl) _ _ _ rfl rfl rfl
                      obtain rfl : v4 = Value.int IntKind.i64 (sm (mg l s) 8) := q4
                      obtain ⟨v5, e5, q5⟩ := hw 5 (by kernel_rfl) _ _ _ rfl rfl rfl
                      obtain rfl : v5 = Value.int IntKind.i64 ((D : Nat)) := q5
                      exact .inl ⟨wanted_none rfl, wp_val (run_neq_int rfl (ev_tmp e4) (ev_tmp e5)) ⟨_, rfl, congrArg Value.bool (E0.out), Below.refl _ _, hs⟩⟩
                    · intro a' w' ha hs hw
                      obtain ⟨v6, e6, q6⟩ := hw 6 (by kernel_rfl) _ _ _ rfl rfl rfl
                      obtain rfl : v6 = Value.bool false := q6
                      exact .inl ⟨wanted_none rfl, wp_val (run_move rfl (ev_tmp e6)) ⟨_, rfl, rfl, Below.refl _ _, hs⟩⟩
                    · intro a' w' ha hs hw
                      obtain ⟨v7, e7, q7⟩ := hw 7 (by kernel_rfl) _ _ _ rfl rfl rfl
                      obtain rfl : v7 = Value.bool false := q7
                      have eo10 : a'.tmps[10]? = some (.slice (some ⟨b8, o8, none⟩) n10 c10) := (ha.rest 10 (by kernel_rfl)).trans rfl
                      exact .inl ⟨wanted_some rfl rfl rfl e7, wp_val (run_move rfl (ev_tmp eo10)) ⟨_, rfl, rfl, Below.refl _ _, hs⟩⟩
                    · intro a' w' ha hs hw
                      obtain ⟨v7, e7, q7⟩ := hw 7 (by kernel_rfl) _ _ _ rfl rfl rfl
                      obtain rfl : v7 = Value.bool false := q7
                      have eo18 : a'.tmps[18]? = some (Value.int IntKind.i64 ((s : Nat))) := (ha.rest 18 (by kernel_rfl)).trans rfl
                      exact .inl ⟨wanted_some rfl rfl rfl e7, wp_val (run_move rfl (ev_tmp eo18)) ⟨_, rfl, rfl, Below.refl _ _, hs⟩⟩
                    · intro a' w' ha hs hw
                      obtain ⟨v7, e7, q7⟩ := hw 7 (by kernel_rfl) _ _ _ rfl rfl rfl
                      obtain rfl : v7 = Value.bool false := q7
                      obtain ⟨v8, e8, q8⟩ := hw 8 (by kernel_rfl) _ _ _ rfl rfl rfl
                      obtain rfl : v8 = .slice (some ⟨b8, o8, none⟩) n10 c10 := q8
                      obtain ⟨v9, e9, q9⟩ := hw 9 (by kernel_rfl) _ _ _ rfl rfl rfl
                      obtain rfl : v9 = Value.int IntKind.i64 ((s : Nat)) := q9
                      exact .inl ⟨wanted_some rfl rfl rfl e7, wp_val (run_at (k := s) rfl (ev_tmp e8) (ev_tmp e9) hst) ⟨_, rfl, rfl, Below.refl _ _, hs⟩⟩
                    · intro a' w' ha hs hw
                      obtain ⟨v7, e7, q7⟩ := hw 7 (by kernel_rfl) _ _ _ rfl rfl rfl
                      obtain rfl : v7 = Value.bool false := q7
                      obtain ⟨v10, e10, q10⟩ := hw 10 (by kernel_rfl) _ _ _ rfl rfl rfl
                      obtain rfl : v10 = .pointer (some ⟨b8, o8 + s * 8, none⟩) := q10
                      exact .inl ⟨wanted_some rfl rfl rfl e7, wp_val (run_load_mid rfl (ev_tmp e10) (rangeAt_keep H2.out (hs.block _ HB.out))) ⟨_, rfl, rfl, Below.refl _ _, hs⟩⟩
                    · intro a' w' ha hs hw
                      obtain ⟨v7, e7, q7⟩ := hw 7 (by kernel_rfl) _ _ _ rfl rfl rfl
                      obtain rfl : v7 = Value.bool false := q7
                      obtain ⟨v11, e11, q11⟩ := hw 11 (by kernel_rfl) _ _ _ rfl rfl rfl
                      obtain rfl : v11 = .agg (cls (mg l s)) := q11
                      exact .inl ⟨wanted_some rfl rfl rfl e7, call_step rfl Try.func29 (by kernel_rfl) rfl (map_one (ev_tmp e11)) (valid_true (mg l s) _ (PR.out.2.1 hD12)) (fun e w2 he => by obtain ⟨rfl, hb⟩ := he; exact ⟨_, rfl, _, rfl, rfl, hb, hs.trans (hb.mono hs.size)⟩)⟩
                    · intro a' w' ha hs hw
                      obtain ⟨v7, e7, q7⟩ := hw 7 (by kernel_rfl) _ _ _ rfl rfl rfl
                      obtain rfl : v7 = Value.bool false := q7
                      obtain ⟨v12, e12, q12⟩ := hw 12 (by kernel_rfl) _ _ _ rfl rfl rfl
                      obtain rfl : v12 = Value.bool true := q12
                      exact .inl ⟨wanted_some rfl rfl rfl e7, wp_val (run_not rfl (ev_tmp e12)) ⟨_, rfl, rfl, Below.refl _ _, hs⟩⟩
                    · intro a' w' ha hs hw
                      obtain ⟨v7, e7, q7⟩ := hw 7 (by kernel_rfl) _ _ _ rfl rfl rfl
                      obtain rfl : v7 = Value.bool false := q7
                      obtain ⟨v13, e13, q13⟩ := hw 13 (by kernel_rfl) _ _ _ rfl rfl rfl
                      obtain rfl : v13 = Value.bool false := q13
                      exact .inl ⟨wanted_none rfl, wp_val (run_pick (b := false) rfl (ev_tmp e7) (ev_tmp e13)) ⟨_, rfl, rfl, Below.refl _ _, hs⟩⟩
                    · intro a' w' ha hs hw
                      obtain ⟨v14, e14, q14⟩ := hw 14 (by kernel_rfl) _ _ _ rfl rfl rfl
                      obtain rfl : v14 = Value.bool false := q14
                      exact .inl ⟨wanted_none rfl, wp_val (run_move rfl (ev_tmp e14)) ⟨_, rfl, rfl, Below.refl _ _, hs⟩⟩
                    · intro a' w' ha hs hw
                      obtain ⟨v15, e15, q15⟩ := hw 15 (by kernel_rfl) _ _ _ rfl rfl rfl
                      obtain rfl : v15 = Value.bool false := q15
                      have eo18 : a'.tmps[18]? = some (Value.int IntKind.i64 ((s : Nat))) := (ha.rest 18 (by kernel_rfl)).trans rfl
                      exact .inl ⟨wanted_some rfl rfl rfl e15, wp_val (run_move rfl (ev_tmp eo18)) ⟨_, rfl, rfl, Below.refl _ _, hs⟩⟩
                    · intro a' w' ha hs hw
                      obtain ⟨v15, e15, q15⟩ := hw 15 (by kernel_rfl) _ _ _ rfl rfl rfl
                      obtain rfl : v15 = Value.bool false := q15
                      obtain ⟨v16, e16, q16⟩ := hw 16 (by kernel_rfl) _ _ _ rfl rfl rfl
                      obtain rfl : v16 = Value.int IntKind.i64 ((s : Nat)) := q16
                      exact .inl ⟨wanted_some rfl rfl rfl e15, wp_val (run_gtr_int rfl (ev_tmp e16) rfl) ⟨_, rfl, congrArg Value.bool (E1.out), Below.refl _ _, hs⟩⟩
                    · intro a' w' ha hs hw
                      obtain ⟨v15, e15, q15⟩ := hw 15 (by kernel_rfl) _ _ _ rfl rfl rfl
                      obtain rfl : v15 = Value.bool false := q15
                      obtain ⟨v17, e17, q17⟩ := hw 17 (by kernel_rfl) _ _ _ rfl rfl rfl
                      obtain rfl : v17 = Value.bool true := q17
                      exact .inl ⟨wanted_some rfl rfl rfl e15, wp_val (run_move rfl (ev_tmp e17)) ⟨_, rfl, rfl, Below.refl _ _, hs⟩⟩
                    · intro a' w' ha hs hw
                      obtain ⟨v18, e18, q18⟩ := hw 18 (by kernel_rfl) _ _ _ rfl rfl rfl
                      obtain rfl : v18 = Value.bool true := q18
                      have eo10 : a'.tmps[10]? = some (.slice (some ⟨b8, o8, none⟩) n10 c10) := (ha.rest 10 (by kernel_rfl)).trans rfl
                      exact .inl ⟨wanted_some rfl rfl rfl e18, wp_val (run_move rfl (ev_tmp eo10)) ⟨_, rfl, rfl, Below.refl _ _, hs⟩⟩
                    · intro a' w' ha hs hw
                      obtain ⟨v18, e18, q18⟩ := hw 18 (by kernel_rfl) _ _ _ rfl rfl rfl
                      obtain rfl : v18 = Value.bool true := q18
                      have eo18 : a'.tmps[18]? = some (Value.int IntKind.i64 ((s : Nat))) := (ha.rest 18 (by kernel_rfl)).trans rfl
                      exact .inl ⟨wanted_some rfl rfl rfl e18, wp_val (run_move rfl (ev_tmp eo18)) ⟨_, rfl, rfl, Below.refl _ _, hs⟩⟩
                    · intro a' w' ha hs hw
                      obtain ⟨v18, e18, q18⟩ := hw 18 (by kernel_rfl) _ _ _ rfl rfl rfl
                      obtain rfl : v18 = Value.bool true := q18
                      obtain ⟨v20, e20, q20⟩ := hw 20 (by kernel_rfl) _ _ _ rfl rfl rfl
                      obtain rfl : v20 = Value.int IntKind.i64 ((s : Nat)) := q20
                      exact .inl ⟨wanted_some rfl rfl rfl e18, wp_val (run_sub_int rfl (ev_tmp e20) rfl (by omega) (by omega)) ⟨_, rfl, congrArg (Value.int IntKind.i64) (HI.out), Below.refl _ _, hs⟩⟩
                    · intro a' w' ha hs hw
                      obtain ⟨v18, e18, q18⟩ := hw 18 (by kernel_rfl) _ _ _ rfl rfl rfl
                      obtain rfl : v18 = Value.bool true := q18
                      obtain ⟨v19, e19, q19⟩ := hw 19 (by kernel_rfl) _ _ _ rfl rfl rfl
                      obtain rfl : v19 = .slice (some ⟨b8, o8, none⟩) n10 c10 := q19
                      obtain ⟨v21, e21, q21⟩ := hw 21 (by kernel_rfl) _ _ _ rfl rfl rfl
                      obtain rfl : v21 = Value.int IntKind.i64 ((s - 1 : Nat)) := q21
                      exact .inl ⟨wanted_some rfl rfl rfl e18, wp_val (run_at (k := (s - 1)) rfl (ev_tmp e19) (ev_tmp e21) (by omega)) ⟨_, rfl, rfl, Below.refl _ _, hs⟩⟩
                    · intro a' w' ha hs hw
                      obtain ⟨v18, e18, q18⟩ := hw 18 (by kernel_rfl) _ _ _ rfl rfl rfl
                      obtain rfl : v18 = Value.bool true := q18
                      obtain ⟨v22, e22, q22⟩ := hw 22 (by kernel_rfl) _ _ _ rfl rfl rfl
                      obtain rfl : v22 = .pointer (some ⟨b8, o8 + (s - 1) * 8, none⟩) := q22
                      exact .inl ⟨wanted_some rfl rfl rfl e18, wp_val (run_load_mid rfl (ev_tmp e22) (rangeAt_keep H1.out (hs.block _ HB.out))) ⟨_, rfl, rfl, Below.refl _ _, hs⟩⟩
                    · intro a' w' ha hs hw
                      obtain ⟨v18, e18, q18⟩ := hw 18 (by kernel_rfl) _ _ _ rfl rfl rfl
                      obtain rfl : v18 = Value.bool true := q18
                      have eo10 : a'.tmps[10]? = some (.slice (some ⟨b8, o8, none⟩) n10 c10) := (ha.rest 10 (by kernel_rfl)).trans rfl
                      exact .inl ⟨wanted_some rfl rfl rfl e18, wp_val (run_move rfl (ev_tmp eo10)) ⟨_, rfl, rfl, Below.refl _ _, hs⟩⟩
                    · intro a' w' ha hs hw
                      obtain ⟨v18, e18, q18⟩ := hw 18 (by kernel_rfl) _ _ _ rfl rfl rfl
                      obtain rfl : v18 = Value.bool true := q18
                      have eo18 : a'.tmps[18]? = some (Value.int IntKind.i64 ((s : Nat))) := (ha.rest 18 (by kernel_rfl)).trans rfl
                      exact .inl ⟨wanted_some rfl rfl rfl e18, wp_val (run_move rfl (ev_tmp eo18)) ⟨_, rfl, rfl, Below.refl _ _, hs⟩⟩
                    · intro a' w' ha hs hw
                      obtain ⟨v18, e18, q18⟩ := hw 18 (by kernel_rfl) _ _ _ rfl rfl rfl
                      obtain rfl : v18 = Value.bool true := q18
                      obtain ⟨v24, e24, q24⟩ := hw 24 (by kernel_rfl) _ _ _ rfl rfl rfl
                      obtain rfl : v24 = .slice (some ⟨b8, o8, none⟩) n10 c10 := q24
                      obtain ⟨v25, e25, q25⟩ := hw 25 (by kernel_rfl) _ _ _ rfl rfl rfl
                      obtain rfl : v25 = Value.int IntKind.i64 ((s : Nat)) := q25
                      exact .inl ⟨wanted_some rfl rfl rfl e18, wp_val (run_at (k := s) rfl (ev_tmp e24) (ev_tmp e25) hst) ⟨_, rfl, rfl, Below.refl _ _, hs⟩⟩
                    · intro a' w' ha hs hw
                      obtain ⟨v18, e18, q18⟩ := hw 18 (by kernel_rfl) _ _ _ rfl rfl rfl
                      obtain rfl : v18 = Value.bool true := q18
                      obtain ⟨v26, e26, q26⟩ := hw 26 (by kernel_rfl) _ _ _ rfl rfl rfl
                      obtain rfl : v26 = .pointer (some ⟨b8, o8 + s * 8, none⟩) := q26
                      exact .inl ⟨wanted_some rfl rfl rfl e18, wp_val (run_load_mid rfl (ev_tmp e26) (rangeAt_keep H2.out (hs.block _ HB.out))) ⟨_, rfl, rfl, Below.refl _ _, hs⟩⟩
                    · intro a' w' ha hs hw
                      obtain ⟨v18, e18, q18⟩ := hw 18 (by kernel_rfl) _ _ _ rfl rfl rfl
                      obtain rfl : v18 = Value.bool true := q18
                      obtain ⟨v23, e23, q23⟩ := hw 23 (by kernel_rfl) _ _ _ rfl rfl rfl
                      obtain rfl : v23 = .agg (cls (mg l (s - 1))) := q23
                      obtain ⟨v27, e27, q27⟩ := hw 27 (by kernel_rfl) _ _ _ rfl rfl rfl
                      obtain rfl : v27 = .agg (cls (mg l s)) := q27
                      exact .inl ⟨wanted_some rfl rfl rfl e18, call_step rfl Try.func19 (by kernel_rfl) rfl (map_two (ev_tmp e23) (ev_tmp e27)) (cmp_is (mg l (s - 1)) (mg l s) (1) _ (E2.out)) (fun e w2 he => by obtain ⟨rfl, hb⟩ := he; exact ⟨_, rfl, _, rfl, rfl, hb, hs.trans (hb.mono hs.size)⟩)⟩
                    · intro a' w' ha hs hw
                      obtain ⟨v18, e18, q18⟩ := hw 18 (by kernel_rfl) _ _ _ rfl rfl rfl
                      obtain rfl : v18 = Value.bool true := q18
                      obtain ⟨v28, e28, q28⟩ := hw 28 (by kernel_rfl) _ _ _ rfl rfl rfl
                      obtain rfl : v28 = Value.int IntKind.i64 (1) := q28
                      exact .inl ⟨wanted_some rfl rfl rfl e18, wp_val (run_leq_int rfl (ev_tmp e28) rfl) ⟨_, rfl, congrArg Value.bool (by decide), Below.refl _ _, hs⟩⟩
                    · intro a' w' ha hs hw
                      obtain ⟨v15, e15, q15⟩ := hw 15 (by kernel_rfl) _ _ _ rfl rfl rfl
                      obtain rfl : v15 = Value.bool false := q15
                      obtain ⟨v18, e18, q18⟩ := hw 18 (by kernel_rfl) _ _ _ rfl rfl rfl
                      obtain rfl : v18 = Value.bool true := q18
                      obtain ⟨v29, e29, q29⟩ := hw 29 (by kernel_rfl) _ _ _ rfl rfl rfl
                      obtain rfl : v29 = Value.bool false := q29
                      exact .inl ⟨wanted_some rfl rfl rfl e15, wp_val (run_pick (b := true) rfl (ev_tmp e18) (ev_tmp e29)) ⟨_, rfl, rfl, Below.refl _ _, hs⟩⟩
                    · intro a' w' ha hs hw
                      obtain ⟨v15, e15, q15⟩ := hw 15 (by kernel_rfl) _ _ _ rfl rfl rfl
                      obtain rfl : v15 = Value.bool false := q15
                      obtain ⟨v30, e30, q30⟩ := hw 30 (by kernel_rfl) _ _ _ rfl rfl rfl
                      obtain rfl : v30 = Value.bool false := q30
                      exact .inl ⟨wanted_none rfl, wp_val (run_pick (b := false) rfl (ev_tmp e15) (ev_tmp e30)) ⟨_, rfl, rfl, Below.refl _ _, hs⟩⟩
                  simp only [allK]
                  simp only [setAll, List.set_cons_succ, List.set_cons_zero]
                  refine hK _ _ ?_
                  clear hK K
                  replace U0 := Lib.hid (U0.out.below hs U0.out.lt)
                  replace X10 := Lib.hid (X10.out.below hs)
                  replace M2 := Lib.hid (M2.out.below hs M2.out.lt)
                  replace LB := Lib.hid (below_link LB.out hs LB.out.size)
                  replace DW := Lib.hid (below_link DW.out hs DW.out.size)
                  clear hs
                  generalize wn = z4 at *
                  go_wp2_with fail
                  go_loop [19] (fun s19 => ∃ t : Nat, j ≤ t ∧ t ≤ 8 ∧ s19 = .int .i64 t) (fun s19 => 8 - (intOf s19).toNat)
                  case atStart => exact ⟨j, Nat.le_refl _, by omega, rfl⟩
                  case round =>
                    obtain ⟨t, ht1, ht2, rfl⟩ := hrel
                    by_cases htl : t < 8
                    · have c0 : z4.cell? ⟨b8, o8 + s * 8 + t, none⟩ = some (.int .i64 0) := by rw [range_at (X10.out.at_ hst) htl, PR.out.2.2 t ht1 htl]
                      have hs8 : ((s : Nat) : Int) < ((n10 : Nat) : Int) := by omega
                      go_wp2_with fail
                      go_round
                      case rel => exact ⟨t + 1, by omega, by omega, by go_num⟩
                      case measure => simp [intOf]; omega
                    · skip
                      cases hfd : fnd l m2 s with
                      | true =>
                        have HS := Lib.hid (fnd_true hfd)
                        clear hfd
                        go_wp2_with fail
                        go_quiet (fail)
                        go_wp2_with fail
                        go_roundw
                        case rel => exact ⟨s + 1, by omega, by go_num, by rw [HS.out], bdrew LB.out⟩
                        case measure => simp [intOf]; omega
                      | false =>
                        have HS := Lib.hid (fnd_false hfd)
                        clear hfd
                        obtain ⟨b9, o9, e9, _, hr9⟩ := X10.out.at_ hst
                        cases e9
                        obtain ⟨f0, f1, f2, f3, f4, f5, f6, f7⟩ := range_all hr9
                        clear hr9
                        obtain ⟨cM20, cM21, cM22, cM23, cM24, cM25, cM26, cM27⟩ := M2.out.all
                        have he := run_equalIn_arr (mg l s) m2
                        have hj1 : ((s : Nat) : Int) < ((n10 : Nat) : Int) := by omega
                        go_wp2_with fail
                        go_quiet (fail)
                        clear hj1 he f0 f1 f2 f3 f4 f5 f6 f7
                        clear cM20 cM21 cM22 cM23 cM24 cM25 cM26 cM27
                        go_wp2_with fail
                        go_roundw
                        case rel => exact ⟨s + 1, by omega, by go_num, by rw [HS.out], bdrew LB.out⟩
                        case measure => simp [intOf]; omega
              · obtain rfl : s = n10 := by omega
                rw [show fnd l m2 s = true from fnd_mem (by rw [HL.out]; exact MM.out) L10.out]
                go_wp2_with fail
                go_ret
                exact ⟨rfl, DW.out⟩
  · have hvd : v ≤ 4 ∨ g ≤ 4 := by omega
    have hD12 := hg12
    obtain ⟨D, hDg⟩ : ∃ D : Nat, D = g := ⟨g, rfl⟩
    subst hDg
    by_cases hz : 1 ≤ v
    · skip
      go_wp2_with fail
      refine (all_ok v D _ hv8 hD12).mono ?_
      rintro e y2 ⟨v10, l, rfl, s10, hl, hb⟩
      replace U0 := Lib.hid (U0.out.below hb U0.out.lt)
      replace DW := Lib.hid (below_link DW.out hb DW.out.size)
      clear hb
      clear e9 e13
      have HL := Lib.hid hl
      obtain ⟨A10, n10, c10, rfl, p1, p2, p3, p4⟩ := s10
      have X10 := Lib.hid p4; have L10 := Lib.hid p4.len; have P1 := Lib.hid p1; have P2 := Lib.hid p2
      clear p1 p2 p3 p4 hl
      have NL := Lib.hid (show n10 = rl v D by have := L10.out; rw [HL.out, rs_length] at this; exact this.symm)
      have NM := Lib.hid (show n10 = mny D v by rw [NL.out]; exact mny_rl v (by omega) D (by omega) hvd (by omega))
      have hn10 : n10 ≤ 1000000 := by rw [NM.out]; exact mny_bd D (by omega) v (by omega)
      go_wp2_with fail
      go_loop [12, 13] (fun s12 s13 => ∃ i : Nat, 1 ≤ i ∧ (i ≤ v ∨ i = 1) ∧ s13 = .int .i64 i ∧ s12 = .int .i64 (mny D i : Nat)) (fun _ s13 => v - (intOf s13).toNat)
      case atStart => exact ⟨1, by omega, by omega, rfl, rfl⟩
      case round =>
        obtain ⟨i, hi1, hi2, rfl, rfl⟩ := hrel
        by_cases hlt : i < v
        · have HM := Lib.hid (mny_next D i hi1)
          have hm6 := mny_bd D (by omega) i (by omega)
          generalize mny D i = M at *
          have hp1 : 0 ≤ (M : Int) * ((D : Int) + (i : Int)) := Int.mul_nonneg (by omega) (by omega)
          have hp2 : (M : Int) * ((D : Int) + (i : Int)) ≤ 1000000 * 21 := Int.mul_le_mul (by omega) (by omega) (by omega) (by omega)
          go_wp2_with fail
          go_round
          case rel => exact ⟨i + 1, by omega, by omega, by go_num, by rw [HM.out, Int.natCast_ediv, Int.natCast_mul, Int.natCast_add]⟩
          case measure => simp [intOf]; omega
        · obtain rfl : i = v := by omega
          have hne : (((n10 : Nat) : Int) != ((mny D i : Nat) : Int)) = false := by rw [NM.out]; simp
          have hv0 : (((i : Nat) : Int) == 0) = false := by simp; omega
          go_upto_region 16 with fail
          go_upto_region 19 with fail
          clear hne
          obtain ⟨wm, hW⟩ : ∃ wm, wm = y2.alloc (Obj.cells #[Value.int IntKind.i64 0, Value.int IntKind.i64 0, Value.int IntKind.i64 0, Value.int IntKind.i64 0, Value.int IntKind.i64 0, Value.int IntKind.i64 0, Value.int IntKind.i64 0, Value.int IntKind.i64 0] 27) := ⟨_, rfl⟩
          rw [← hW]
          have M0 : Hid (Row wm y2.heap.size nul) := by rw [hW]; exact Row.new y2 nul
          have D0 : Hid (Below y2.heap.size y2 wm) := by rw [hW]; exact (Below.refl _ _).alloc (Nat.le_refl _) _
          clear hW
          have hv1 := hv0
          clear hv0
          go_wp2_with fail
          go_loopw [15, 16] (fun s15 s16 wr => ∃ (j : Nat) (m : Mn) (q : Int), j ≤ i ∧ s16 = .int .i64 j ∧ s15 = .int .i64 q ∧ 0 ≤ q ∧ q + sm m j = D ∧ (∀ t, j ≤ t → m t = 0) ∧ (∀ t, t < j → 0 ≤ m t) ∧ Row wr y2.heap.size m ∧ Below y2.heap.size y2 wr) (fun _ s16 _ => i - (intOf s16).toNat)
          case atStart => exact ⟨0, nul, _, by omega, rfl, rfl, by omega, by simp [sm], fun _ _ => rfl, fun t ht => by omega, M0.out, D0.out⟩
          case round =>
            obtain ⟨j, m, q, hj, rfl, rfl, hq0, hqs, hz, hp, hM, hb⟩ := hrel
            obtain ⟨wo, rfl⟩ : ∃ wo : World, wo = wr := ⟨_, rfl⟩
            have U1 := Lib.hid (U0.out.below hb U0.out.lt)
            have D1 := Lib.hid hb; have M1 := Lib.hid hM; have QS := Lib.hid hqs; have MZ := Lib.hid hz; have MP := Lib.hid hp
            clear hb hM hqs hz hp D0 M0
            have hsm : 0 ≤ sm m j := sm_nonneg MP.out
            have hq1 : q ≤ 12 := by have := QS.out; omega
            by_cases hjt : j < i
            · have cU := U1.out.cell (show j < 8 by omega); have cM := M1.out.cell (show j < 8 by omega); have fM := M1.out.frozen j
              obtain ⟨y1, y2⟩ := VY.out j (by omega)
              have r1 : 0 ≤ y j % (q + 1) := Int.emod_nonneg _ (by omega)
              have r2 : y j % (q + 1) ≤ q := by have := Int.emod_lt_of_pos (y j) (show 0 < q + 1 by omega); omega
              go_wp2_with fail
              go_roundw
              case rel => exact ⟨j + 1, up m j (y j % (q + 1)), _, by omega, by go_num, rfl, by omega, by rw [sm_up]; have := QS.out; omega, (fun t ht => by rw [up_ne _ _ (by omega)]; exact MZ.out t (by omega)), (fun t ht => up_nonneg MP.out r1 ht), M1.out.set _ (by omega), D1.out.setCell (by simp) _⟩
              case measure => simp [intOf]; omega
            · obtain rfl : j = i := by omega
              have hjt1 : ((j : Nat) : Int) - 1 = ((j - 1 : Nat) : Int) := by omega
              have cM := M1.out.cell (show j - 1 < 8 by omega); have fM := M1.out.frozen (j - 1)
              have hx : 0 ≤ m (j - 1) := MP.out _ (by omega)
              have hx2 : m (j - 1) ≤ 12 := by have := QS.out; have := sm_le MP.out (t := j - 1) (by omega); omega
              have hmx : ¬ (((j - 1 : Nat)) : Int) < 0 := by omega
              go_upto_region 26 with fail
              obtain ⟨w3, hW⟩ : ∃ w3, w3 = wo.setCell ⟨y2.heap.size, (j - 1), none⟩ (.int .i64 (m (j - 1) + q)) := ⟨_, rfl⟩
              rw [← hW]
              have M2 : Hid (Row w3 y2.heap.size (up m (j - 1) (m (j - 1) + q))) := by rw [hW]; exact M1.out.set _ (by omega)
              have hb : Below y2.heap.size y2 w3 := by rw [hW]; exact D1.out.setCell (by simp) _
              replace U0 := Lib.hid (U0.out.below hb U0.out.lt)
              replace X10 := Lib.hid (X10.out.below hb)
              replace DW := Lib.hid (below_link DW.out hb DW.out.size)
              clear hb hW cM fM U1 D1 M1
              have MM := Lib.hid (all_mem (v := j) (D := D) (by omega) (by omega) QS.out MZ.out MP.out hq0)
              clear hjt hjt1 hx hx2 hmx QS MZ MP hq0 hsm hq1
              generalize up m (j - 1) (m (j - 1) + q) = m2 at *
              go_wp2_with fail
              clear hv1
              go_loopw [17, 18, 19] (fun s17 s18 _ wr => ∃ s : Nat, s ≤ n10 ∧ s18 = .int .i64 s ∧ s17 = .bool (fnd l m2 s) ∧ Below w3.heap.size w3 wr) (fun _ s18 _ _ => n10 - (intOf s18).toNat)
              case atStart => exact ⟨0, by omega, rfl, rfl, Below.refl _ _⟩
              case round =>
                obtain ⟨s, hs1, rfl, rfl, hb⟩ := hrel
                obtain ⟨wp, rfl⟩ : ∃ wp : World, wp = wr := ⟨_, rfl⟩
                replace U0 := Lib.hid (U0.out.below hb U0.out.lt)
                replace X10 := Lib.hid (X10.out.below hb)
                replace M2 := Lib.hid (M2.out.below hb M2.out.lt)
                replace DW := Lib.hid (below_link DW.out hb DW.out.size)
                have LB := Lib.hid hb
                clear hb
                by_cases hst : s < n10
                · have hlen : s < l.length := by rw [L10.out]; exact hst
                  have PR := Lib.hid (elem_prop (by omega) HL.out hlen)
                  by_cases hs0 : ¬ 0 < s
                  · skip
                    have E0 := Lib.hid (show (sm (mg l s) 8 != ((D : Nat) : Int)) = false by rw [PR.out.1]; simp)
                    obtain ⟨b8, o8, e8, hb8, hr8⟩ := X10.out.at_ hst
                    subst e8
                    have H2 := Lib.hid hr8; have HB := Lib.hid hb8
                    clear hr8 hb8
                    have E1 := Lib.hid (show decide ((0 : Int) < ((s : Nat) : Int)) = false by simp; omega)
                    clear hs0
                    go_wp2_with fail
                    refine region_run (fun w' => Below wp.heap.size wp w') [.is (.slice (some ⟨b8, o8, none⟩) n10 c10), .is (Value.int IntKind.i64 ((s : Nat))), .is (.pointer (some ⟨b8, o8 + s * 8, none⟩)), .is (.agg (cls (mg l s))), .is (Value.int IntKind.i64 (sm (mg l s) 8)), .is (Value.int IntKind.i64 ((D : Nat))), .is (Value.bool false), .is (Value.bool false), .is (.slice (some ⟨b8, o8, none⟩) n10 c10), .is (Value.int IntKind.i64 ((s : Nat))), .is (.pointer (some ⟨b8, o8 + s * 8, none⟩)), .is (.agg (cls (mg l s))), .is (Value.bool true), .is (Value.bool false), .is (Value.bool false), .is (Value.bool false), .is (Value.int IntKind.i64 ((s : Nat))), .is (Value.bool false), .is (Value.bool false), .is undef, .is undef, .is undef, .is undef, .is undef, .is undef, .is undef, .is undef, .is undef, .is undef, .is undef, .is (Value.bool false), .is (Value.bool false)] [102, 103, 104, 105, 106, 107, 108, 109, 110, 111, 112, 113, 114, 115, 116, 117, 118, 119, 120, 121, 122, 123, 124, 125, 126, 127, 128, 129, 130, 131, 132, 133] (by kernel_rfl) (by kernel_rfl) (by kernel_rfl) (by rfl) (by kernel_rfl) ((Below.refl _ _).drew) (fun Q' => ?_) (fun K hK wn hs => ?_)
                    · refine ⟨?_, ?_, ?_, ?_, ?_, ?_, ?_, ?_, ?_, ?_, ?_, ?_, ?_, ?_, ?_, ?_, ?_, ?_, ?_, ?_, ?_, ?_, ?_, ?_, ?_, ?_, ?_, ?_, ?_, ?_, ?_, ?_, trivial⟩
                      · intro a' w' ha hs hw
                        have eo10 : a'.tmps[10]? = some (.slice (some ⟨b8, o8, none⟩) n10 c10) := (ha.rest 10 (by kernel_rfl)).trans rfl
                        exact .inl ⟨wanted_none rfl, wp_val (run_move rfl (ev_tmp eo10)) ⟨_, rfl, rfl, Below.refl _ _, hs⟩⟩
                      · intro a' w' ha hs hw
                        have eo18 : a'.tmps[18]? = some (Value.int IntKind.i64 ((s : Nat))) := (ha.rest 18 (by kernel_rfl)).trans rfl
                        exact .inl ⟨wanted_none rfl, wp_val (run_move rfl (ev_tmp eo18)) ⟨_, rfl, rfl, Below.refl _ _, hs⟩⟩
                      · intro a' w' ha hs hw
                        obtain ⟨v0, e0, q0⟩ := hw 0 (by kernel_rfl) _ _ _ rfl rfl rfl
                        obtain rfl : v0 = .slice (some ⟨b8, o8, none⟩) n10 c10 := q0
                        obtain ⟨v1, e1, q1⟩ := hw 1 (by kernel_rfl) _ _ _ rfl rfl rfl
                        obtain rfl : v1 = Value.int IntKind.i64 ((s : Nat)) := q1
                        exact .inl ⟨wanted_none rfl, wp_val (run_at (k := s) rfl (ev_tmp e0) (ev_tmp e1) hst) ⟨_, rfl, rfl, Below.refl _ _, hs⟩⟩
                      · intro a' w' ha hs hw
                        obtain ⟨v2, e2, q2⟩ := hw 2 (by kernel_rfl) _ _ _ rfl rfl rfl
                        obtain rfl : v2 = .pointer (some ⟨b8, o8 + s * 8, none⟩) := q2
                        exact .inl ⟨wanted_none rfl, wp_val (run_load_mid rfl (ev_tmp e2) (rangeAt_keep H2.out (hs.block _ HB.out))) ⟨_, rfl, rfl, Below.refl _ _, hs⟩⟩
                      · intro a' w' ha hs hw
                        obtain ⟨v3, e3, q3⟩ := hw 3 (by kernel_rfl) _ _ _ rfl rfl rfl
                        obtain rfl : v3 = .agg (cls (mg l s)) := q3
                        exact .inl ⟨wanted_none rfl, call_step rfl Try.func25 (by kernel_rfl) rfl (map_one (ev_tmp e3)) (degree_any (mg l s) _ ((PR.out.2.1 hD12))) (fun e w2 he => by obtain ⟨rfl, hb⟩ := he; exact ⟨_, rfl, _, rfl, rfl, hb, hs.trans (hb.mono hs.size)⟩)⟩
                      · intro a' w' ha hs hw
                        have eo9 : a'.tmps[9]? = some (Value.int IntKind.i64 ((D : Nat))) := (ha.rest 9 (by kernel_rfl)).trans rfl
                        exact .inl ⟨wanted_none rfl, wp_val (run_move rfl (ev_tmp eo9)) ⟨_, rfl, rfl, Below.refl _ _, hs⟩⟩
                      · intro a' w' ha hs hw
                        obtain ⟨v4, e4, q4⟩ := hw 4 (by kernel_rfl) _ _ _ rfl rfl rfl
                        obtain rfl : v4 = Value.int IntKind.i64 (sm (mg l s) 8) := q4
                        obtain ⟨v5, e5, q5⟩ := hw 5 (by kernel_rfl) _ _ _ rfl rfl rfl
                        obtain rfl : v5 = Value.int IntKind.i64 ((D : Nat)) := q5
                        exact .inl ⟨wanted_none rfl, wp_val (run_neq_int rfl (ev_tmp e4) (ev_tmp e5)) ⟨_, rfl, congrArg Value.bool (E0.out), Below.refl _ _, hs⟩⟩
                      · intro a' w' ha hs hw
                        obtain ⟨v6, e6, q6⟩ := hw 6 (by kernel_rfl) _ _ _ rfl rfl rfl
                        obtain rfl : v6 = Value.bool false := q6
                        exact .inl ⟨wanted_none rfl, wp_val (run_move rfl (ev_tmp e6)) ⟨_, rfl, rfl, Below.refl _ _, hs⟩⟩
                      · intro a' w' ha hs hw
                        obtain ⟨v7, e7, q7⟩ := hw 7 (by kernel_rfl) _ _ _ rfl rfl rfl
                        obtain rfl : v7 = Value.bool false := q7
                        have eo10 : a'.tmps[10]? = some (.slice (some ⟨b8, o8, none⟩) n10 c10) := (ha.rest 10 (by kernel_rfl)).trans rfl
                        exact .inl ⟨wanted_some rfl rfl rfl e7, wp_val (run_move rfl (ev_tmp eo10)) ⟨_, rfl, rfl, Below.refl _ _, hs⟩⟩
                      · intro a' w' ha hs hw
                        obtain ⟨v7, e7, q7⟩ := hw 7 (by kernel_rfl) _ _ _ rfl rfl rfl
                        obtain rfl : v7 = Value.bool false := q7
                        have eo18 : a'.tmps[18]? = some (Value.int IntKind.i64 ((s : Nat))) := (ha.rest 18 (by kernel_rfl)).trans rfl
                        exact .inl ⟨wanted_some rfl rfl rfl e7, wp_val (run_move rfl (ev_tmp eo18)) ⟨_, rfl, rfl, Below.refl _ _, hs⟩⟩
                      · intro a' w' ha hs hw
                        obtain ⟨v7, e7, q7⟩ := hw 7 (by kernel_rfl) _ _ _ rfl rfl rfl
                        obtain rfl : v7 = Value.bool false := q7
                        obtain ⟨v8, e8, q8⟩ := hw 8 (by kernel_rfl) _ _ _ rfl rfl rfl
                        obtain rfl : v8 = .slice (some ⟨b8, o8, none⟩) n10 c10 := q8
                        obtain ⟨v9, e9, q9⟩ := hw 9 (by kernel_rfl) _ _ _ rfl rfl rfl
                        obtain rfl : v9 = Value.int IntKind.i64 ((s : Nat)) := q9
                        exact .inl ⟨wanted_some rfl rfl rfl e7, wp_val (run_at (k := s) rfl (ev_tmp e8) (ev_tmp e9) hst) ⟨_, rfl, rfl, Below.refl _ _, hs⟩⟩
                      · intro a' w' ha hs hw
                        obtain ⟨v7, e7, q7⟩ := hw 7 (by kernel_rfl) _ _ _ rfl rfl rfl
                        obtain rfl : v7 = Value.bool false := q7
                        obtain ⟨v10, e10, q10⟩ := hw 10 (by kernel_rfl) _ _ _ rfl rfl rfl
                        obtain rfl : v10 = .pointer (some ⟨b8, o8 + s * 8, none⟩) := q10
                        exact .inl ⟨wanted_some rfl rfl rfl e7, wp_val (run_load_mid rfl (ev_tmp e10) (rangeAt_keep H2.out (hs.block _ HB.out))) ⟨_, rfl, rfl, Below.refl _ _, hs⟩⟩
                      · intro a' w' ha hs hw
                        obtain ⟨v7, e7, q7⟩ := hw 7 (by kernel_rfl) _ _ _ rfl rfl rfl
                        obtain rfl : v7 = Value.bool false := q7
                        obtain ⟨v11, e11, q11⟩ := hw 11 (by kernel_rfl) _ _ _ rfl rfl rfl
                        obtain rfl : v11 = .agg (cls (mg l s)) := q11
                        exact .inl ⟨wanted_some rfl rfl rfl e7, call_step rfl Try.func29 (by kernel_rfl) rfl (map_one (ev_tmp e11)) (valid_true (mg l s) _ (PR.out.2.1 hD12)) (fun e w2 he => by obtain ⟨rfl, hb⟩ := he; exact ⟨_, rfl, _, rfl, rfl, hb, hs.trans (hb.mono hs.size)⟩)⟩
                      · intro a' w' ha hs hw
                        obtain ⟨v7, e7, q7⟩ := hw 7 (by kernel_rfl) _ _ _ rfl rfl rfl
                        obtain rfl : v7 = Value.bool false := q7
                        obtain ⟨v12, e12, q12⟩ := hw 12 (by kernel_rfl) _ _ _ rfl rfl rfl
                        obtain rfl : v12 = Value.bool true := q12
                        exact .inl ⟨wanted_some rfl rfl rfl e7, wp_val (run_not rfl (ev_tmp e12)) ⟨_, rfl, rfl, Below.refl _ _, hs⟩⟩
                      · intro a' w' ha hs hw
                        obtain ⟨v7, e7, q7⟩ := hw 7 (by kernel_rfl) _ _ _ rfl rfl rfl
                        obtain rfl : v7 = Value.bool false := q7
                        obtain ⟨v13, e13, q13⟩ := hw 13 (by kernel_rfl) _ _ _ rfl rfl rfl
                        obtain rfl : v13 = Value.bool false := q13
                        exact .inl ⟨wanted_none rfl, wp_val (run_pick (b := false) rfl (ev_tmp e7) (ev_tmp e13)) ⟨_, rfl, rfl, Below.refl _ _, hs⟩⟩
                      · intro a' w' ha hs hw
                        obtain ⟨v14, e14, q14⟩ := hw 14 (by kernel_rfl) _ _ _ rfl rfl rfl
                        obtain rfl : v14 = Value.bool false := q14
                        exact .inl ⟨wanted_none rfl, wp_val (run_move rfl (ev_tmp e14)) ⟨_, rfl, rfl, Below.refl _ _, hs⟩⟩
                      · intro a' w' ha hs hw
                        obtain ⟨v15, e15, q15⟩ := hw 15 (by kernel_rfl) _ _ _ rfl rfl rfl
                        obtain rfl : v15 = Value.bool false := q15
                        have eo18 : a'.tmps[18]? = some (Value.int IntKind.i64 ((s : Nat))) := (ha.rest 18 (by kernel_rfl)).trans rfl
                        exact .inl ⟨wanted_some rfl rfl rfl e15, wp_val (run_move rfl (ev_tmp eo18)) ⟨_, rfl, rfl, Below.refl _ _, hs⟩⟩
                      · intro a' w' ha hs hw
                        obtain ⟨v15, e15, q15⟩ := hw 15 (by kernel_rfl) _ _ _ rfl rfl rfl
                        obtain rfl : v15 = Value.bool false := q15
                        obtain ⟨v16, e16, q16⟩ := hw 16 (by kernel_rfl) _ _ _ rfl rfl rfl
                        obtain rfl : v16 = Value.int IntKind.i64 ((s : Nat)) := q16
                        exact .inl ⟨wanted_some rfl rfl rfl e15, wp_val (run_gtr_int rfl (ev_tmp e16) rfl) ⟨_, rfl, congrArg Value.bool (E1.out), Below.refl _ _, hs⟩⟩
                      · intro a' w' ha hs hw
                        obtain ⟨v15, e15, q15⟩ := hw 15 (by kernel_rfl) _ _ _ rfl rfl rfl
                        obtain rfl : v15 = Value.bool false := q15
                        obtain ⟨v17, e17, q17⟩ := hw 17 (by kernel_rfl) _ _ _ rfl rfl rfl
                        obtain rfl : v17 = Value.bool false := q17
                        exact .inl ⟨wanted_some rfl rfl rfl e15, wp_val (run_move rfl (ev_tmp e17)) ⟨_, rfl, rfl, Below.refl _ _, hs⟩⟩
                      · intro a' w' ha hs hw
                        obtain ⟨v18, e18, q18⟩ := hw 18 (by kernel_rfl) _ _ _ rfl rfl rfl
                        obtain rfl : v18 = Value.bool false := q18
                        exact .inr ⟨wanted_off rfl rfl rfl e18 (by decide), rfl⟩
                      · intro a' w' ha hs hw
                        obtain ⟨v18, e18, q18⟩ := hw 18 (by kernel_rfl) _ _ _ rfl rfl rfl
                        obtain rfl : v18 = Value.bool false := q18
                        exact .inr ⟨wanted_off rfl rfl rfl e18 (by decide), rfl⟩
                      · intro a' w' ha hs hw
                        obtain ⟨v18, e18, q18⟩ := hw 18 (by kernel_rfl) _ _ _ rfl rfl rfl
                        obtain rfl : v18 = Value.bool false := q18
                        exact .inr ⟨wanted_off rfl rfl rfl e18 (by decide), rfl⟩
                      · intro a' w' ha hs hw
                        obtain ⟨v18, e18, q18⟩ := hw 18 (by kernel_rfl) _ _ _ rfl rfl rfl
                        obtain rfl : v18 = Value.bool false := q18
                        exact .inr ⟨wanted_off rfl rfl rfl e18 (by decide), rfl⟩
                      · intro a' w' ha hs hw
                        obtain ⟨v18, e18, q18⟩ := hw 18 (by kernel_rfl) _ _ _ rfl rfl rfl
                        obtain rfl : v18 = Value.bool false := q18
                        exact .inr ⟨wanted_off rfl rfl rfl e18 (by decide), rfl⟩
                      · intro a' w' ha hs hw
                        obtain ⟨v18, e18, q18⟩ := hw 18 (by kernel_rfl) _ _ _ rfl rfl rfl
                        obtain rfl : v18 = Value.bool false := q18
                        exact .inr ⟨wanted_off rfl rfl rfl e18 (by decide), rfl⟩
                      · intro a' w' ha hs hw
                        obtain ⟨v18, e18, q18⟩ := hw 18 (by kernel_rfl) _ _ _ rfl rfl rfl
                        obtain rfl : v18 = Value.bool false := q18
                        exact .inr ⟨wanted_off rfl rfl rfl e18 (by decide), rfl⟩
                      · intro a' w' ha hs hw
                        obtain ⟨v18, e18, q18⟩ := hw 18 (by kernel_rfl) _ _ _ rfl rfl rfl
                        obtain rfl : v18 = Value.bool false := q18
                        exact .inr ⟨wanted_off rfl rfl rfl e18 (by decide), rfl⟩
                      · intro a' w' ha hs hw
                        obtain ⟨v18, e18, q18⟩ := hw 18 (by kernel_rfl) _ _ _ rfl rfl rfl
                        obtain rfl : v18 = Value.bool false := q18
                        exact .inr ⟨wanted_off rfl rfl rfl e18 (by decide), rfl⟩
                      · intro a' w' ha hs hw
                        obtain ⟨v18, e18, q18⟩ := hw 18 (by kernel_rfl) _ _ _ rfl rfl rfl
                        obtain rfl : v18 = Value.bool false := q18
                        exact .inr ⟨wanted_off rfl rfl rfl e18 (by decide), rfl⟩
                      · intro a' w' ha hs hw
                        obtain ⟨v18, e18, q18⟩ := hw 18 (by kernel_rfl) _ _ _ rfl rfl rfl
                        obtain rfl : v18 = Value.bool false := q18
                        exact .inr ⟨wanted_off rfl rfl rfl e18 (by decide), rfl⟩
                      · intro a' w' ha hs hw
                        obtain ⟨v15, e15, q15⟩ := hw 15 (by kernel_rfl) _ _ _ rfl rfl rfl
                        obtain rfl : v15 = Value.bool false := q15
                        obtain ⟨v18, e18, q18⟩ := hw 18 (by kernel_rfl) _ _ _ rfl rfl rfl
                        obtain rfl : v18 = Value.bool false := q18
                        exact .inl ⟨wanted_some rfl rfl rfl e15, wp_val (run_pick (b := false) rfl (ev_tmp e18) rfl) ⟨_, rfl, rfl, Below.refl _ _, hs⟩⟩
                      · intro a' w' ha hs hw
                        obtain ⟨v15, e15, q15⟩ := hw 15 (by kernel_rfl) _ _ _ rfl rfl rfl
                        obtain rfl : v15 = Value.bool false := q15
                        obtain ⟨v30, e30, q30⟩ := hw 30 (by kernel_rfl) _ _ _ rfl rfl rfl
                        obtain rfl : v30 = Value.bool false := q30
                        exact .inl ⟨wanted_none rfl, wp_val (run_pick (b := false) rfl (ev_tmp e15) (ev_tmp e30)) ⟨_, rfl, rfl, Below.refl _ _, hs⟩⟩
                    simp only [allK]
                    simp only [setAll, List.set_cons_succ, List.set_cons_zero]
                    refine hK _ _ ?_
                    clear hK K
                    replace U0 := Lib.hid (U0.out.below hs U0.out.lt)
                    replace X10 := Lib.hid (X10.out.below hs)
                    replace M2 := Lib.hid (M2.out.below hs M2.out.lt)
                    replace LB := Lib.hid (below_link LB.out hs LB.out.size)
                    replace DW := Lib.hid (below_link DW.out hs DW.out.size)
                    clear hs
                    generalize wn = z4 at *
                    go_wp2_with fail
                    go_loop [19] (fun s19 => ∃ t : Nat, j ≤ t ∧ t ≤ 8 ∧ s19 = .int .i64 t) (fun s19 => 8 - (intOf s19).toNat)
                    case atStart => exact ⟨j, Nat.le_refl _, by omega, rfl⟩
                    case round =>
                      obtain ⟨t, ht1, ht2, rfl⟩ := hrel
                      by_cases htl : t < 8
                      · have c0 : z4.cell? ⟨b8, o8 + s * 8 + t, none⟩ = some (.int .i64 0) := by rw [range_at (X10.out.at_ hst) htl, PR.out.2.2 t ht1 htl]
                        have hs8 : ((s : Nat) : Int) < ((n10 : Nat) : Int) := by omega
                        go_wp2_with fail
                        go_round
                        case rel => exact ⟨t + 1, by omega, by omega, by go_num⟩
                        case measure => simp [intOf]; omega
                      · skip
                        cases hfd : fnd l m2 s with
                        | true =>
                          have HS := Lib.hid (fnd_true hfd)
                          clear hfd
                          go_wp2_with fail
                          go_quiet (fail)
                          go_wp2_with fail
                          go_roundw
                          case rel => exact ⟨s + 1, by omega, by go_num, by rw [HS.out], bdrew LB.out⟩
                          case measure => simp [intOf]; omega
                        | false =>
                          have HS := Lib.hid (fnd_false hfd)
                          clear hfd
                          obtain ⟨b9, o9, e9, _, hr9⟩ := X10.out.at_ hst
                          cases e9
                          obtain ⟨f0, f1, f2, f3, f4, f5, f6, f7⟩ := range_all hr9
                          clear hr9
                          obtain ⟨cM20, cM21, cM22, cM23, cM24, cM25, cM26, cM27⟩ := M2.out.all
                          have he := run_equalIn_arr (mg l s) m2
                          have hj1 : ((s : Nat) : Int) < ((n10 : Nat) : Int) := by omega
                          go_wp2_with fail
                          go_quiet (fail)
                          clear hj1 he f0 f1 f2 f3 f4 f5 f6 f7
                          clear cM20 cM21 cM22 cM23 cM24 cM25 cM26 cM27
                          go_wp2_with fail
                          go_roundw
                          case rel => exact ⟨s + 1, by omega, by go_num, by rw [HS.out], bdrew LB.out⟩
                          case measure => simp [intOf]; omega
                  · skip
                    have E0 := Lib.hid (show (sm (mg l s) 8 != ((D : Nat) : Int)) = false by rw [PR.out.1]; simp)
                    obtain ⟨b8, o8, e8, hb8, hr8⟩ := X10.out.at_ (k := s - 1) (by omega)
                    obtain ⟨b9, o9, e9, _, hr9⟩ := X10.out.at_ hst
                    subst e8
                    cases e9
                    have H1 := Lib.hid hr8; have H2 := Lib.hid hr9; have HB := Lib.hid hb8
                    clear hr8 hr9 hb8
                    have E1 := Lib.hid (show decide ((0 : Int) < ((s : Nat) : Int)) = true by simp; omega); have E2 := Lib.hid (show CM (mg l (s - 1)) (mg l s) 1 from .inr (.inr ⟨by have := strict_at (s := l) (i := s - 1) (by rw [HL.out]; exact rs_strict j 0 D nul (by omega)) (by omega); rw [show s - 1 + 1 = s by omega] at this; exact this, rfl⟩))
                    have HI := Lib.hid (show ((s : Nat) : Int) - 1 = ((s - 1 : Nat) : Int) by omega)
                    clear hs0
                    go_wp2_with fail
                    refine region_run (fun w' => Below wp.heap.size wp w') [.is (.slice (some ⟨b8, o8, none⟩) n10 c10), .is (Value.int IntKind.i64 ((s : Nat))), .is (.pointer (some ⟨b8, o8 + s * 8, none⟩)), .is (.agg (cls (mg l s))), .is (Value.int IntKind.i64 (sm (mg l s) 8)), .is (Value.int IntKind.i64 ((D : Nat))), .is (Value.bool false), .is (Value.bool false), .is (.slice (some ⟨b8, o8, none⟩) n10 c10), .is (Value.int IntKind.i64 ((s : Nat))), .is (.pointer (some ⟨b8, o8 + s * 8, none⟩)), .is (.agg (cls (mg l s))), .is (Value.bool true), .is (Value.bool false), .is (Value.bool false), .is (Value.bool false), .is (Value.int IntKind.i64 ((s : Nat))), .is (Value.bool true), .is (Value.bool true), .is (.slice (some ⟨b8, o8, none⟩) n10 c10), .is (Value.int IntKind.i64 ((s : Nat))), .is (Value.int IntKind.i64 ((s - 1 : Nat))), .is (.pointer (some ⟨b8, o8 + (s - 1) * 8, none⟩)), .is (.agg (cls (mg l (s - 1)))), .is (.slice (some ⟨b8, o8, none⟩) n10 c10), .is (Value.int IntKind.i64 ((s : Nat))), .is (.pointer (some ⟨b8, o8 + s * 8, none⟩)), .is (.agg (cls (mg l s))), .is (Value.int IntKind.i64 (1)), .is (Value.bool false), .is (Value.bool false), .is (Value.bool false)] [102, 103, 104, 105, 106, 107, 108, 109, 110, 111, 112, 113, 114, 115, 116, 117, 118, 119, 120, 121, 122, 123, 124, 125, 126, 127, 128, 129, 130, 131, 132, 133] (by kernel_rfl) (by kernel_rfl) (by kernel_rfl) (by rfl) (by kernel_rfl) ((Below.refl _ _).drew) (fun Q' => ?_) (fun K hK wn hs => ?_)
                    · refine ⟨?_, ?_, ?_, ?_, ?_, ?_, ?_, ?_, ?_, ?_, ?_, ?_, ?_, ?_, ?_, ?_, ?_, ?_, ?_, ?_, ?_, ?_, ?_, ?_, ?_, ?_, ?_, ?_, ?_, ?_, ?_, ?_, trivial⟩
                      · intro a' w' ha hs hw
                        have eo10 : a'.tmps[10]? = some (.slice (some ⟨b8, o8, none⟩) n10 c10) := (ha.rest 10 (by kernel_rfl)).trans rfl
                        exact .inl ⟨wanted_none rfl, wp_val (run_move rfl (ev_tmp eo10)) ⟨_, rfl, rfl, Below.refl _ _, hs⟩⟩
                      · intro a' w' ha hs hw
                        have eo18 : a'.tmps[18]? = some (Value.int IntKind.i64 ((s : Nat))) := (ha.rest 18 (by kernel_rfl)).trans rfl
                        exact .inl ⟨wanted_none rfl, wp_val (run_move rfl (ev_tmp eo18)) ⟨_, rfl, rfl, Below.refl _ _, hs⟩⟩
                      · intro a' w' ha hs hw
                        obtain ⟨v0, e0, q0⟩ := hw 0 (by kernel_rfl) _ _ _ rfl rfl rfl
                        obtain rfl : v0 = .slice (some ⟨b8, o8, none⟩) n10 c10 := q0
                        obtain ⟨v1, e1, q1⟩ := hw 1 (by kernel_rfl) _ _ _ rfl rfl rfl
                        obtain rfl : v1 = Value.int IntKind.i64 ((s : Nat)) := q1
                        exact .inl ⟨wanted_none rfl, wp_val (run_at (k := s) rfl (ev_tmp e0) (ev_tmp e1) hst) ⟨_, rfl, rfl, Below.refl _ _, hs⟩⟩
                      · intro a' w' ha hs hw
                        obtain ⟨v2, e2, q2⟩ := hw 2 (by kernel_rfl) _ _ _ rfl rfl rfl
                        obtain rfl : v2 = .pointer (some ⟨b8, o8 + s * 8, none⟩) := q2
                        exact .inl ⟨wanted_none rfl, wp_val (run_load_mid rfl (ev_tmp e2) (rangeAt_keep H2.out (hs.block _ HB.out))) ⟨_, rfl, rfl, Below.refl _ _, hs⟩⟩
                      · intro a' w' ha hs hw
                        obtain ⟨v3, e3, q3⟩ := hw 3 (by kernel_rfl) _ _ _ rfl rfl rfl
                        obtain rfl : v3 = .agg (cls (mg l s)) := q3
                        exact .inl ⟨wanted_none rfl, call_step rfl Try.func25 (by kernel_rfl) rfl (map_one (ev_tmp e3)) (degree_any (mg l s) _ ((PR.out.2.1 hD12))) (fun e w2 he => by obtain ⟨rfl, hb⟩ := he; exact ⟨_, rfl, _, rfl, rfl, hb, hs.trans (hb.mono hs.size)⟩)⟩
                      · intro a' w' ha hs hw
                        have eo9 : a'.tmps[9]? = some (Value.int IntKind.i64 ((D : Nat))) := (ha.rest 9 (by kernel_rfl)).trans rfl
                        exact .inl ⟨wanted_none rfl, wp_val (run_move rfl (ev_tmp eo9)) ⟨_, rfl, rfl, Below.refl _ _, hs⟩⟩
                      · intro a' w' ha hs hw
                        obtain ⟨v4, e4, q4⟩ := hw 4 (by kernel_rfl) _ _ _ rfl rfl rfl
                        obtain rfl : v4 = Value.int IntKind.i64 (sm (mg l s) 8) := q4
                        obtain ⟨v5, e5, q5⟩ := hw 5 (by kernel_rfl) _ _ _ rfl rfl rfl
                        obtain rfl : v5 = Value.int IntKind.i64 ((D : Nat)) := q5
                        exact .inl ⟨wanted_none rfl, wp_val (run_neq_int rfl (ev_tmp e4) (ev_tmp e5)) ⟨_, rfl, congrArg Value.bool (E0.out), Below.refl _ _, hs⟩⟩
                      · intro a' w' ha hs hw
                        obtain ⟨v6, e6, q6⟩ := hw 6 (by kernel_rfl) _ _ _ rfl rfl rfl
                        obtain rfl : v6 = Value.bool false := q6
                        exact .inl ⟨wanted_none rfl, wp_val (run_move rfl (ev_tmp e6)) ⟨_, rfl, rfl, Below.refl _ _, hs⟩⟩
                      · intro a' w' ha hs hw
                        obtain ⟨v7, e7, q7⟩ := hw 7 (by kernel_rfl) _ _ _ rfl rfl rfl
                        obtain rfl : v7 = Value.bool false := q7
                        have eo10 : a'.tmps[10]? = some (.slice (some ⟨b8, o8, none⟩) n10 c10) := (ha.rest 10 (by kernel_rfl)).trans rfl
                        exact .inl ⟨wanted_some rfl rfl rfl e7, wp_val (run_move rfl (ev_tmp eo10)) ⟨_, rfl, rfl, Below.refl _ _, hs⟩⟩
                      · intro a' w' ha hs hw
                        obtain ⟨v7, e7, q7⟩ := hw 7 (by kernel_rfl) _ _ _ rfl rfl rfl
                        obtain rfl : v7 = Value.bool false := q7
                        have eo18 : a'.tmps[18]? = some (Value.int IntKind.i64 ((s : Nat))) := (ha.rest 18 (by kernel_rfl)).trans rfl
                        exact .inl ⟨wanted_some rfl rfl rfl e7, wp_val (run_move rfl (ev_tmp eo18)) ⟨_, rfl, rfl, Below.refl _ _, hs⟩⟩
                      · intro a' w' ha hs hw
                        obtain ⟨v7, e7, q7⟩ := hw 7 (by kernel_rfl) _ _ _ rfl rfl rfl
                        obtain rfl : v7 = Value.bool false := q7
                        obtain ⟨v8, e8, q8⟩ := hw 8 (by kernel_rfl) _ _ _ rfl rfl rfl
                        obtain rfl : v8 = .slice (some ⟨b8, o8, none⟩) n10 c10 := q8
                        obtain ⟨v9, e9, q9⟩ := hw 9 (by kernel_rfl) _ _ _ rfl rfl rfl
                        obtain rfl : v9 = Value.int IntKind.i64 ((s : Nat)) := q9
                        exact .inl ⟨wanted_some rfl rfl rfl e7, wp_val (run_at (k := s) rfl (ev_tmp e8) (ev_tmp e9) hst) ⟨_, rfl, rfl, Below.refl _ _, hs⟩⟩
                      · intro a' w' ha hs hw
                        obtain ⟨v7, e7, q7⟩ := hw 7 (by kernel_rfl) _ _ _ rfl rfl rfl
                        obtain rfl : v7 = Value.bool false := q7
                        obtain ⟨v10, e10, q10⟩ := hw 10 (by kernel_rfl) _ _ _ rfl rfl rfl
                        obtain rfl : v10 = .pointer (some ⟨b8, o8 + s * 8, none⟩) := q10
                        exact .inl ⟨wanted_some rfl rfl rfl e7, wp_val (run_load_mid rfl (ev_tmp e10) (rangeAt_keep H2.out (hs.block _ HB.out))) ⟨_, rfl, rfl, Below.refl _ _, hs⟩⟩
                      · intro a' w' ha hs hw
                        obtain ⟨v7, e7, q7⟩ := hw 7 (by kernel_rfl) _ _ _ rfl rfl rfl
                        obtain rfl : v7 = Value.bool false := q7
                        obtain ⟨v11, e11, q11⟩ := hw 11 (by kernel_rfl) _ _ _ rfl rfl rfl
                        obtain rfl : v11 = .agg (cls (mg l s)) := q11
                        exact .inl ⟨wanted_some rfl rfl rfl e7, call_step rfl Try.func29 (by kernel_rfl) rfl (map_one (ev_tmp e11)) (valid_true (mg l s) _ (PR.out.2.1 hD12)) (fun e w2 he => by obtain ⟨rfl, hb⟩ := he; exact ⟨_, rfl, _, rfl, rfl, hb, hs.trans (hb.mono hs.size)⟩)⟩
                      · intro a' w' ha hs hw
                        obtain ⟨v7, e7, q7⟩ := hw 7 (by kernel_rfl) _ _ _ rfl rfl rfl
                        obtain rfl : v7 = Value.bool false := q7
                        obtain ⟨v12, e12, q12⟩ := hw 12 (by kernel_rfl) _ _ _ rfl rfl rfl
                        obtain rfl : v12 = Value.bool true := q12
                        exact .inl ⟨wanted_some rfl rfl rfl e7, wp_val (run_not rfl (ev_tmp e12)) ⟨_, rfl, rfl, Below.refl _ _, hs⟩⟩
                      · intro a' w' ha hs hw
                        obtain ⟨v7, e7, q7⟩ := hw 7 (by kernel_rfl) _ _ _ rfl rfl rfl
                        obtain rfl : v7 = Value.bool false := q7
                        obtain ⟨v13, e13, q13⟩ := hw 13 (by kernel_rfl) _ _ _ rfl rfl rfl
                        obtain rfl : v13 = Value.bool false := q13
                        exact .inl ⟨wanted_none rfl, wp_val (run_pick (b := false) rfl (ev_tmp e7) (ev_tmp e13)) ⟨_, rfl, rfl, Below.refl _ _, hs⟩⟩
                      · intro a' w' ha hs hw
                        obtain ⟨v14, e14, q14⟩ := hw 14 (by kernel_rfl) _ _ _ rfl rfl rfl
                        obtain rfl : v14 = Value.bool false := q14
                        exact .inl ⟨wanted_none rfl, wp_val (run_move rfl (ev_tmp e14)) ⟨_, rfl, rfl, Below.refl _ _, hs⟩⟩
                      · intro a' w' ha hs hw
                        obtain ⟨v15, e15, q15⟩ := hw 15 (by kernel_rfl) _ _ _ rfl rfl rfl
                        obtain rfl : v15 = Value.bool false := q15
                        have eo18 : a'.tmps[18]? = some (Value.int IntKind.i64 ((s : Nat))) := (ha.rest 18 (by kernel_rfl)).trans rfl
                        exact .inl ⟨wanted_some rfl rfl rfl e15, wp_val (run_move rfl (ev_tmp eo18)) ⟨_, rfl, rfl, Below.refl _ _, hs⟩⟩
                      · intro a' w' ha hs hw
                        obtain ⟨v15, e15, q15⟩ := hw 15 (by kernel_rfl) _ _ _ rfl rfl rfl
                        obtain rfl : v15 = Value.bool false := q15
                        obtain ⟨v16, e16, q16⟩ := hw 16 (by kernel_rfl) _ _ _ rfl rfl rfl
                        obtain rfl : v16 = Value.int IntKind.i64 ((s : Nat)) := q16
                        exact .inl ⟨wanted_some rfl rfl rfl e15, wp_val (run_gtr_int rfl (ev_tmp e16) rfl) ⟨_, rfl, congrArg Value.bool (E1.out), Below.refl _ _, hs⟩⟩
                      · intro a' w' ha hs hw
                        obtain ⟨v15, e15, q15⟩ := hw 15 (by kernel_rfl) _ _ _ rfl rfl rfl
                        obtain rfl : v15 = Value.bool false := q15
                        obtain ⟨v17, e17, q17⟩ := hw 17 (by kernel_rfl) _ _ _ rfl rfl rfl
                        obtain rfl : v17 = Value.bool true := q17
                        exact .inl ⟨wanted_some rfl rfl rfl e15, wp_val (run_move rfl (ev_tmp e17)) ⟨_, rfl, rfl, Below.refl _ _, hs⟩⟩
                      · intro a' w' ha hs hw
                        obtain ⟨v18, e18, q18⟩ := hw 18 (by kernel_rfl) _ _ _ rfl rfl rfl
                        obtain rfl : v18 = Value.bool true := q18
                        have eo10 : a'.tmps[10]? = some (.slice (some ⟨b8, o8, none⟩) n10 c10) := (ha.rest 10 (by kernel_rfl)).trans rfl
                        exact .inl ⟨wanted_some rfl rfl rfl e18, wp_val (run_move rfl (ev_tmp eo10)) ⟨_, rfl, rfl, Below.refl _ _, hs⟩⟩
                      · intro a' w' ha hs hw
                        obtain ⟨v18, e18, q18⟩ := hw 18 (by kernel_rfl) _ _ _ rfl rfl rfl
                        obtain rfl : v18 = Value.bool true := q18
                        have eo18 : a'.tmps[18]? = some (Value.int IntKind.i64 ((s : Nat))) := (ha.rest 18 (by kernel_rfl)).trans rfl
                        exact .inl ⟨wanted_some rfl rfl rfl e18, wp_val (run_move rfl (ev_tmp eo18)) ⟨_, rfl, rfl, Below.refl _ _, hs⟩⟩
                      · intro a' w' ha hs hw
                        obtain ⟨v18, e18, q18⟩ := hw 18 (by kernel_rfl) _ _ _ rfl rfl rfl
                        obtain rfl : v18 = Value.bool true := q18
                        obtain ⟨v20, e20, q20⟩ := hw 20 (by kernel_rfl) _ _ _ rfl rfl rfl
                        obtain rfl : v20 = Value.int IntKind.i64 ((s : Nat)) := q20
                        exact .inl ⟨wanted_some rfl rfl rfl e18, wp_val (run_sub_int rfl (ev_tmp e20) rfl (by omega) (by omega)) ⟨_, rfl, congrArg (Value.int IntKind.i64) (HI.out), Below.refl _ _, hs⟩⟩
                      · intro a' w' ha hs hw
                        obtain ⟨v18, e18, q18⟩ := hw 18 (by kernel_rfl) _ _ _ rfl rfl rfl
                        obtain rfl : v18 = Value.bool true := q18
                        obtain ⟨v19, e19, q19⟩ := hw 19 (by kernel_rfl) _ _ _ rfl rfl rfl
                        obtain rfl : v19 = .slice (some ⟨b8, o8, none⟩) n10 c10 := q19
                        obtain ⟨v21, e21, q21⟩ := hw 21 (by kernel_rfl) _ _ _ rfl rfl rfl
                        obtain rfl : v21 = Value.int IntKind.i64 ((s - 1 : Nat)) := q21
                        exact .inl ⟨wanted_some rfl rfl rfl e18, wp_val (run_at (k := (s - 1)) rfl (ev_tmp e19) (ev_tmp e21) (by omega)) ⟨_, rfl, rfl, Below.refl _ _, hs⟩⟩
                      · intro a' w' ha hs hw
                        obtain ⟨v18, e18, q18⟩ := hw 18 (by kernel_rfl) _ _ _ rfl rfl rfl
                        obtain rfl : v18 = Value.bool true := q18
                        obtain ⟨v22, e22, q22⟩ := hw 22 (by kernel_rfl) _ _ _ rfl rfl rfl
                        obtain rfl : v22 = .pointer (some ⟨b8, o8 + (s - 1) * 8, none⟩) := q22
                        exact .inl ⟨wanted_some rfl rfl rfl e18, wp_val (run_load_mid rfl (ev_tmp e22) (rangeAt_keep H1.out (hs.block _ HB.out))) ⟨_, rfl, rfl, Below.refl _ _, hs⟩⟩
                      · intro a' w' ha hs hw
                        obtain ⟨v18, e18, q18⟩ := hw 18 (by kernel_rfl) _ _ _ rfl rfl rfl
                        obtain rfl : v18 = Value.bool true := q18
                        have eo10 : a'.tmps[10]? = some (.slice (some ⟨b8, o8, none⟩) n10 c10) := (ha.rest 10 (by kernel_rfl)).trans rfl
                        exact .inl ⟨wanted_some rfl rfl rfl e18, wp_val (run_move rfl (ev_tmp eo10)) ⟨_, rfl, rfl, Below.refl _ _, hs⟩⟩
                      · intro a' w' ha hs hw
                        obtain ⟨v18, e18, q18⟩ := hw 18 (by kernel_rfl) _ _ _ rfl rfl rfl
                        obtain rfl : v18 = Value.bool true := q18
                        have eo18 : a'.tmps[18]? = some (Value.int IntKind.i64 ((s : Nat))) := (ha.rest 18 (by kernel_rfl)).trans rfl
                        exact .inl ⟨wanted_some rfl rfl rfl e18, wp_val (run_move rfl (ev_tmp eo18)) ⟨_, rfl, rfl, Below.refl _ _, hs⟩⟩
                      · intro a' w' ha hs hw
                        obtain ⟨v18, e18, q18⟩ := hw 18 (by kernel_rfl) _ _ _ rfl rfl rfl
                        obtain rfl : v18 = Value.bool true := q18
                        obtain ⟨v24, e24, q24⟩ := hw 24 (by kernel_rfl) _ _ _ rfl rfl rfl
                        obtain rfl : v24 = .slice (some ⟨b8, o8, none⟩) n10 c10 := q24
                        obtain ⟨v25, e25, q25⟩ := hw 25 (by kernel_rfl) _ _ _ rfl rfl rfl
                        obtain rfl : v25 = Value.int IntKind.i64 ((s : Nat)) := q25
                        exact .inl ⟨wanted_some rfl rfl rfl e18, wp_val (run_at (k := s) rfl (ev_tmp e24) (ev_tmp e25) hst) ⟨_, rfl, rfl, Below.refl _ _, hs⟩⟩
                      · intro a' w' ha hs hw
                        obtain ⟨v18, e18, q18⟩ := hw 18 (by kernel_rfl) _ _ _ rfl rfl rfl
                        obtain rfl : v18 = Value.bool true := q18
                        obtain ⟨v26, e26, q26⟩ := hw 26 (by kernel_rfl) _ _ _ rfl rfl rfl
                        obtain rfl : v26 = .pointer (some ⟨b8, o8 + s * 8, none⟩) := q26
                        exact .inl ⟨wanted_some rfl rfl rfl e18, wp_val (run_load_mid rfl (ev_tmp e26) (rangeAt_keep H2.out (hs.block _ HB.out))) ⟨_, rfl, rfl, Below.refl _ _, hs⟩⟩
                      · intro a' w' ha hs hw
                        obtain ⟨v18, e18, q18⟩ := hw 18 (by kernel_rfl) _ _ _ rfl rfl rfl
                        obtain rfl : v18 = Value.bool true := q18
                        obtain ⟨v23, e23, q23⟩ := hw 23 (by kernel_rfl) _ _ _ rfl rfl rfl
                        obtain rfl : v23 = .agg (cls (mg l (s - 1))) := q23
                        obtain ⟨v27, e27, q27⟩ := hw 27 (by kernel_rfl) _ _ _ rfl rfl rfl
                        obtain rfl : v27 = .agg (cls (mg l s)) := q27
                        exact .inl ⟨wanted_some rfl rfl rfl e18, call_step rfl Try.func19 (by kernel_rfl) rfl (map_two (ev_tmp e23) (ev_tmp e27)) (cmp_is (mg l (s - 1)) (mg l s) (1) _ (E2.out)) (fun e w2 he => by obtain ⟨rfl, hb⟩ := he; exact ⟨_, rfl, _, rfl, rfl, hb, hs.trans (hb.mono hs.size)⟩)⟩
                      · intro a' w' ha hs hw
                        obtain ⟨v18, e18, q18⟩ := hw 18 (by kernel_rfl) _ _ _ rfl rfl rfl
                        obtain rfl : v18 = Value.bool true := q18
                        obtain ⟨v28, e28, q28⟩ := hw 28 (by kernel_rfl) _ _ _ rfl rfl rfl
                        obtain rfl : v28 = Value.int IntKind.i64 (1) := q28
                        exact .inl ⟨wanted_some rfl rfl rfl e18, wp_val (run_leq_int rfl (ev_tmp e28) rfl) ⟨_, rfl, congrArg Value.bool (by decide), Below.refl _ _, hs⟩⟩
                      · intro a' w' ha hs hw
                        obtain ⟨v15, e15, q15⟩ := hw 15 (by kernel_rfl) _ _ _ rfl rfl rfl
                        obtain rfl : v15 = Value.bool false := q15
                        obtain ⟨v18, e18, q18⟩ := hw 18 (by kernel_rfl) _ _ _ rfl rfl rfl
                        obtain rfl : v18 = Value.bool true := q18
                        obtain ⟨v29, e29, q29⟩ := hw 29 (by kernel_rfl) _ _ _ rfl rfl rfl
                        obtain rfl : v29 = Value.bool false := q29
                        exact .inl ⟨wanted_some rfl rfl rfl e15, wp_val (run_pick (b := true) rfl (ev_tmp e18) (ev_tmp e29)) ⟨_, rfl, rfl, Below.refl _ _, hs⟩⟩
                      · intro a' w' ha hs hw
                        obtain ⟨v15, e15, q15⟩ := hw 15 (by kernel_rfl) _ _ _ rfl rfl rfl
                        obtain rfl : v15 = Value.bool false := q15
                        obtain ⟨v30, e30, q30⟩ := hw 30 (by kernel_rfl) _ _ _ rfl rfl rfl
                        obtain rfl : v30 = Value.bool false := q30
                        exact .inl ⟨wanted_none rfl, wp_val (run_pick (b := false) rfl (ev_tmp e15) (ev_tmp e30)) ⟨_, rfl, rfl, Below.refl _ _, hs⟩⟩
                    simp only [allK]
                    simp only [setAll, List.set_cons_succ, List.set_cons_zero]
                    refine hK _ _ ?_
                    clear hK K
                    replace U0 := Lib.hid (U0.out.below hs U0.out.lt)
                    replace X10 := Lib.hid (X10.out.below hs)
                    replace M2 := Lib.hid (M2.out.below hs M2.out.lt)
                    replace LB := Lib.hid (below_link LB.out hs LB.out.size)
                    replace DW := Lib.hid (below_link DW.out hs DW.out.size)
                    clear hs
                    generalize wn = z4 at *
                    go_wp2_with fail
                    go_loop [19] (fun s19 => ∃ t : Nat, j ≤ t ∧ t ≤ 8 ∧ s19 = .int .i64 t) (fun s19 => 8 - (intOf s19).toNat)
                    case atStart => exact ⟨j, Nat.le_refl _, by omega, rfl⟩
                    case round =>
                      obtain ⟨t, ht1, ht2, rfl⟩ := hrel
                      by_cases htl : t < 8
                      · have c0 : z4.cell? ⟨b8, o8 + s * 8 + t, none⟩ = some (.int .i64 0) := by rw [range_at (X10.out.at_ hst) htl, PR.out.2.2 t ht1 htl]
                        have hs8 : ((s : Nat) : Int) < ((n10 : Nat) : Int) := by omega
                        go_wp2_with fail
                        go_round
                        case rel => exact ⟨t + 1, by omega, by omega, by go_num⟩
                        case measure => simp [intOf]; omega
                      · skip
                        cases hfd : fnd l m2 s with
                        | true =>
                          have HS := Lib.hid (fnd_true hfd)
                          clear hfd
                          go_wp2_with fail
                          go_quiet (fail)
                          go_wp2_with fail
                          go_roundw
                          case rel => exact ⟨s + 1, by omega, by go_num, by rw [HS.out], bdrew LB.out⟩
                          case measure => simp [intOf]; omega
                        | false =>
                          have HS := Lib.hid (fnd_false hfd)
                          clear hfd
                          obtain ⟨b9, o9, e9, _, hr9⟩ := X10.out.at_ hst
                          cases e9
                          obtain ⟨f0, f1, f2, f3, f4, f5, f6, f7⟩ := range_all hr9
                          clear hr9
                          obtain ⟨cM20, cM21, cM22, cM23, cM24, cM25, cM26, cM27⟩ := M2.out.all
                          have he := run_equalIn_arr (mg l s) m2
                          have hj1 : ((s : Nat) : Int) < ((n10 : Nat) : Int) := by omega
                          go_wp2_with fail
                          go_quiet (fail)
                          clear hj1 he f0 f1 f2 f3 f4 f5 f6 f7
                          clear cM20 cM21 cM22 cM23 cM24 cM25 cM26 cM27
                          go_wp2_with fail
                          go_roundw
                          case rel => exact ⟨s + 1, by omega, by go_num, by rw [HS.out], bdrew LB.out⟩
                          case measure => simp [intOf]; omega
                · obtain rfl : s = n10 := by omega
                  rw [show fnd l m2 s = true from fnd_mem (by rw [HL.out]; exact MM.out) L10.out]
                  go_wp2_with fail
                  go_ret
                  exact ⟨rfl, DW.out⟩
    · by_cases hdz : 0 < D
      · skip
        go_wp2_with fail
        refine (all_ok v D _ hv8 hD12).mono ?_
        rintro e y2 ⟨v10, l, rfl, s10, hl, hb⟩
        replace U0 := Lib.hid (U0.out.below hb U0.out.lt)
        replace DW := Lib.hid (below_link DW.out hb DW.out.size)
        clear hb
        clear e9 e13
        have HL := Lib.hid hl
        obtain ⟨A10, n10, c10, rfl, p1, p2, p3, p4⟩ := s10
        have X10 := Lib.hid p4; have L10 := Lib.hid p4.len; have P1 := Lib.hid p1; have P2 := Lib.hid p2
        clear p1 p2 p3 p4 hl
        have NL := Lib.hid (show n10 = rl v D by have := L10.out; rw [HL.out, rs_length] at this; exact this.symm)
        have NM := Lib.hid (show n10 = 0 by (have h0 : v = 0 := (by omega)); rw [NL.out, h0, rl_none D (by omega)]; split <;> omega)
        have hn10 : n10 ≤ 1000000 := by have := NM.out; omega
        go_wp2_with fail
        go_loop [12, 13] (fun s12 s13 => ∃ i : Nat, 1 ≤ i ∧ (i ≤ v ∨ i = 1) ∧ s13 = .int .i64 i ∧ s12 = .int .i64 (mny D i : Nat)) (fun _ s13 => v - (intOf s13).toNat)
        case atStart => exact ⟨1, by omega, by omega, rfl, rfl⟩
        case round =>
          obtain ⟨i, hi1, hi2, rfl, rfl⟩ := hrel
          obtain rfl : i = 1 := by omega
          have hv0 : (((v : Nat) : Int) == 0) = true := by simp; omega
          have hne : (((n10 : Nat) : Int) != 0) = false := by rw [NM.out]; rfl
          go_upto_region 16 with fail
          go_upto_region 19 with fail
          clear hne
          obtain ⟨wm, hW⟩ : ∃ wm, wm = y2.alloc (Obj.cells #[Value.int IntKind.i64 0, Value.int IntKind.i64 0, Value.int IntKind.i64 0, Value.int IntKind.i64 0, Value.int IntKind.i64 0, Value.int IntKind.i64 0, Value.int IntKind.i64 0, Value.int IntKind.i64 0] 27) := ⟨_, rfl⟩
          rw [← hW]
          have M0 : Hid (Row wm y2.heap.size nul) := by rw [hW]; exact Row.new y2 nul
          have D0 : Hid (Below y2.heap.size y2 wm) := by rw [hW]; exact (Below.refl _ _).alloc (Nat.le_refl _) _
          clear hW
          have hv1 := hv0
          clear hv0
          go_wp2_with fail
          go_loopw [15, 16] (fun s15 s16 wr => ∃ (j : Nat) (m : Mn) (q : Int), j ≤ v ∧ s16 = .int .i64 j ∧ s15 = .int .i64 q ∧ 0 ≤ q ∧ q + sm m j = D ∧ (∀ t, j ≤ t → m t = 0) ∧ (∀ t, t < j → 0 ≤ m t) ∧ Row wr y2.heap.size m ∧ Below y2.heap.size y2 wr) (fun _ s16 _ => v - (intOf s16).toNat)
          case atStart => exact ⟨0, nul, _, by omega, rfl, rfl, by omega, by simp [sm], fun _ _ => rfl, fun t ht => by omega, M0.out, D0.out⟩
          case round =>
            obtain ⟨j, m, q, hj, rfl, rfl, hq0, hqs, hz, hp, hM, hb⟩ := hrel
            obtain ⟨wo, rfl⟩ : ∃ wo : World, wo = wr := ⟨_, rfl⟩
            have U1 := Lib.hid (U0.out.below hb U0.out.lt)
            have D1 := Lib.hid hb; have M1 := Lib.hid hM; have QS := Lib.hid hqs; have MZ := Lib.hid hz; have MP := Lib.hid hp
            clear hb hM hqs hz hp D0 M0
            have hsm : 0 ≤ sm m j := sm_nonneg MP.out
            have hq1 : q ≤ 12 := by have := QS.out; omega
            by_cases hjt : j < v
            · exact absurd hjt (by omega)
            · have cM := M1.out.cell (show 0 < 8 by omega); have fM := M1.out.frozen 0
              have hx : m 0 = 0 := MZ.out 0 (by omega)
              have hx1 : 0 ≤ m 0 := by omega
              have hx2 : m 0 ≤ 12 := by omega
              clear hx
              have hvm : ((v : Nat) : Int) - 1 < 0 := by omega
              go_upto_region 26 with fail
              obtain ⟨w3, hW⟩ : ∃ w3, w3 = wo.setCell ⟨y2.heap.size, 0, none⟩ (.int .i64 (m 0 + q)) := ⟨_, rfl⟩
              rw [← hW]
              have M2 : Hid (Row w3 y2.heap.size (up m 0 (m 0 + q))) := by rw [hW]; exact M1.out.set _ (by omega)
              have hb : Below y2.heap.size y2 w3 := by rw [hW]; exact D1.out.setCell (by simp) _
              replace U0 := Lib.hid (U0.out.below hb U0.out.lt)
              replace X10 := Lib.hid (X10.out.below hb)
              replace DW := Lib.hid (below_link DW.out hb DW.out.size)
              clear hb hW cM fM U1 D1 M1
              clear hx1 hx2 hvm QS MZ MP hq0 hsm hq1 hjt
              generalize up m 0 (m 0 + q) = m2 at *
              go_wp2_with fail
              clear hv1
              go_loopw [17, 18, 19] (fun s17 s18 _ wr => ∃ s : Nat, s ≤ n10 ∧ s18 = .int .i64 s ∧ s17 = .bool true ∧ Below w3.heap.size w3 wr) (fun _ s18 _ _ => n10 - (intOf s18).toNat)
              case atStart => exact ⟨0, by omega, rfl, rfl, Below.refl _ _⟩
              case round =>
                obtain ⟨s, hs1, rfl, rfl, hb⟩ := hrel
                obtain ⟨wp, rfl⟩ : ∃ wp : World, wp = wr := ⟨_, rfl⟩
                replace U0 := Lib.hid (U0.out.below hb U0.out.lt)
                replace X10 := Lib.hid (X10.out.below hb)
                replace M2 := Lib.hid (M2.out.below hb M2.out.lt)
                replace DW := Lib.hid (below_link DW.out hb DW.out.size)
                have LB := Lib.hid hb
                clear hb
                by_cases hst : s < n10
                · have hlen : s < l.length := by rw [L10.out]; exact hst
                  have PR := Lib.hid (elem_prop (by omega) HL.out hlen)
                  by_cases hs0 : ¬ 0 < s
                  · skip
                    have E0 := Lib.hid (show (sm (mg l s) 8 != ((D : Nat) : Int)) = false by rw [PR.out.1]; simp)
                    obtain ⟨b8, o8, e8, hb8, hr8⟩ := X10.out.at_ hst
                    subst e8
                    have H2 := Lib.hid hr8; have HB := Lib.hid hb8
                    clear hr8 hb8
                    have E1 := Lib.hid (show decide ((0 : Int) < ((s : Nat) : Int)) = false by simp; omega)
                    clear hs0
                    go_wp2_with fail
                    refine region_run (fun w' => Below wp.heap.size wp w') [.is (.slice (some ⟨b8, o8, none⟩) n10 c10), .is (Value.int IntKind.i64 ((s : Nat))), .is (.pointer (some ⟨b8, o8 + s * 8, none⟩)), .is (.agg (cls (mg l s))), .is (Value.int IntKind.i64 (sm (mg l s) 8)), .is (Value.int IntKind.i64 ((D : Nat))), .is (Value.bool false), .is (Value.bool false), .is (.slice (some ⟨b8, o8, none⟩) n10 c10), .is (Value.int IntKind.i64 ((s : Nat))), .is (.pointer (some ⟨b8, o8 + s * 8, none⟩)), .is (.agg (cls (mg l s))), .is (Value.bool true), .is (Value.bool false), .is (Value.bool false), .is (Value.bool false), .is (Value.int IntKind.i64 ((s : Nat))), .is (Value.bool false), .is (Value.bool false), .is undef, .is undef, .is undef, .is undef, .is undef, .is undef, .is undef, .is undef, .is undef, .is undef, .is undef, .is (Value.bool false), .is (Value.bool false)] [102, 103, 104, 105, 106, 107, 108, 109, 110, 111, 112, 113, 114, 115, 116, 117, 118, 119, 120, 121, 122, 123, 124, 125, 126, 127, 128, 129, 130, 131, 132, 133] (by kernel_rfl) (by kernel_rfl) (by kernel_rfl) (by rfl) (by kernel_rfl) ((Below.refl _ _).drew) (fun Q' => ?_) (fun K hK wn hs => ?_)
                    · refine ⟨?_, ?_, ?_, ?_, ?_, ?_, ?_, ?_, ?_, ?_, ?_, ?_, ?_, ?_, ?_, ?_, ?_, ?_, ?_, ?_, ?_, ?_, ?_, ?_, ?_, ?_, ?_, ?_, ?_, ?_, ?_, ?_, trivial⟩
                      · intro a' w' ha hs hw
                        have eo10 : a'.tmps[10]? = some (.slice (some ⟨b8, o8, none⟩) n10 c10) := (ha.rest 10 (by kernel_rfl)).trans rfl
                        exact .inl ⟨wanted_none rfl, wp_val (run_move rfl (ev_tmp eo10)) ⟨_, rfl, rfl, Below.refl _ _, hs⟩⟩
                      · intro a' w' ha hs hw
                        have eo18 : a'.tmps[18]? = some (Value.int IntKind.i64 ((s : Nat))) := (ha.rest 18 (by kernel_rfl)).trans rfl
                        exact .inl ⟨wanted_none rfl, wp_val (run_move rfl (ev_tmp eo18)) ⟨_, rfl, rfl, Below.refl _ _, hs⟩⟩
                      · intro a' w' ha hs hw
                        obtain ⟨v0, e0, q0⟩ := hw 0 (by kernel_rfl) _ _ _ rfl rfl rfl
                        obtain rfl : v0 = .slice (some ⟨b8, o8, none⟩) n10 c10 := q0
                        obtain ⟨v1, e1, q1⟩ := hw 1 (by kernel_rfl) _ _ _ rfl rfl rfl
                        obtain rfl : v1 = Value.int IntKind.i64 ((s : Nat)) := q1
                        exact .inl ⟨wanted_none rfl, wp_val (run_at (k := s) rfl (ev_tmp e0) (ev_tmp e1) hst) ⟨_, rfl, rfl, Below.refl _ _, hs⟩⟩
                      · intro a' w' ha hs hw
                        obtain ⟨v2, e2, q2⟩ := hw 2 (by kernel_rfl) _ _ _ rfl rfl rfl
                        obtain rfl : v2 = .pointer (some ⟨b8, o8 + s * 8, none⟩) := q2
                        exact .inl ⟨wanted_none rfl, wp_val (run_load_mid rfl (ev_tmp e2) (rangeAt_keep H2.out (hs.block _ HB.out))) ⟨_, rfl, rfl, Below.refl _ _, hs⟩⟩
                      · intro a' w' ha hs hw
                        obtain ⟨v3, e3, q3⟩ := hw 3 (by kernel_rfl) _ _ _ rfl rfl rfl
                        obtain rfl : v3 = .agg (cls (mg l s)) := q3
                        exact .inl ⟨wanted_none rfl, call_step rfl Try.func25 (by kernel_rfl) rfl (map_one (ev_tmp e3)) (degree_any (mg l s) _ ((PR.out.2.1 hD12))) (fun e w2 he => by obtain ⟨rfl, hb⟩ := he; exact ⟨_, rfl, _, rfl, rfl, hb, hs.trans (hb.mono hs.size)⟩)⟩
                      · intro a' w' ha hs hw
                        have eo9 : a'.tmps[9]? = some (Value.int IntKind.i64 ((D : Nat))) := (ha.rest 9 (by kernel_rfl)).trans rfl
                        exact .inl ⟨wanted_none rfl, wp_val (run_move rfl (ev_tmp eo9)) ⟨_, rfl, rfl, Below.refl _ _, hs⟩⟩
                      · intro a' w' ha hs hw
                        obtain ⟨v4, e4, q4⟩ := hw 4 (by kernel_rfl) _ _ _ rfl rfl rfl
                        obtain rfl : v4 = Value.int IntKind.i64 (sm (mg l s) 8) := q4
                        obtain ⟨v5, e5, q5⟩ := hw 5 (by kernel_rfl) _ _ _ rfl rfl rfl
                        obtain rfl : v5 = Value.int IntKind.i64 ((D : Nat)) := q5
                        exact .inl ⟨wanted_none rfl, wp_val (run_neq_int rfl (ev_tmp e4) (ev_tmp e5)) ⟨_, rfl, congrArg Value.bool (E0.out), Below.refl _ _, hs⟩⟩
                      · intro a' w' ha hs hw
                        obtain ⟨v6, e6, q6⟩ := hw 6 (by kernel_rfl) _ _ _ rfl rfl rfl
                        obtain rfl : v6 = Value.bool false := q6
                        exact .inl ⟨wanted_none rfl, wp_val (run_move rfl (ev_tmp e6)) ⟨_, rfl, rfl, Below.refl _ _, hs⟩⟩
                      · intro a' w' ha hs hw
                        obtain ⟨v7, e7, q7⟩ := hw 7 (by kernel_rfl) _ _ _ rfl rfl rfl
                        obtain rfl : v7 = Value.bool false := q7
                        have eo10 : a'.tmps[10]? = some (.slice (some ⟨b8, o8, none⟩) n10 c10) := (ha.rest 10 (by kernel_rfl)).trans rfl
                        exact .inl ⟨wanted_some rfl rfl rfl e7, wp_val (run_move rfl (ev_tmp eo10)) ⟨_, rfl, rfl, Below.refl _ _, hs⟩⟩
                      · intro a' w' ha hs hw
                        obtain ⟨v7, e7, q7⟩ := hw 7 (by kernel_rfl) _ _ _ rfl rfl rfl
                        obtain rfl : v7 = Value.bool false := q7
                        have eo18 : a'.tmps[18]? = some (Value.int IntKind.i64 ((s : Nat))) := (ha.rest 18 (by kernel_rfl)).trans rfl
                        exact .inl ⟨wanted_some rfl rfl rfl e7, wp_val (run_move rfl (ev_tmp eo18)) ⟨_, rfl, rfl, Below.refl _ _, hs⟩⟩
                      · intro a' w' ha hs hw
                        obtain ⟨v7, e7, q7⟩ := hw 7 (by kernel_rfl) _ _ _ rfl rfl rfl
                        obtain rfl : v7 = Value.bool false := q7
                        obtain ⟨v8, e8, q8⟩ := hw 8 (by kernel_rfl) _ _ _ rfl rfl rfl
                        obtain rfl : v8 = .slice (some ⟨b8, o8, none⟩) n10 c10 := q8
                        obtain ⟨v9, e9, q9⟩ := hw 9 (by kernel_rfl) _ _ _ rfl rfl rfl
                        obtain rfl : v9 = Value.int IntKind.i64 ((s : Nat)) := q9
                        exact .inl ⟨wanted_some rfl rfl rfl e7, wp_val (run_at (k := s) rfl (ev_tmp e8) (ev_tmp e9) hst) ⟨_, rfl, rfl, Below.refl _ _, hs⟩⟩
                      · intro a' w' ha hs hw
                        obtain ⟨v7, e7, q7⟩ := hw 7 (by kernel_rfl) _ _ _ rfl rfl rfl
                        obtain rfl : v7 = Value.bool false := q7
                        obtain ⟨v10, e10, q10⟩ := hw 10 (by kernel_rfl) _ _ _ rfl rfl rfl
                        obtain rfl : v10 = .pointer (some ⟨b8, o8 + s * 8, none⟩) := q10
                        exact .inl ⟨wanted_some rfl rfl rfl e7, wp_val (run_load_mid rfl (ev_tmp e10) (rangeAt_keep H2.out (hs.block _ HB.out))) ⟨_, rfl, rfl, Below.refl _ _, hs⟩⟩
                      · intro a' w' ha hs hw
                        obtain ⟨v7, e7, q7⟩ := hw 7 (by kernel_rfl) _ _ _ rfl rfl rfl
                        obtain rfl : v7 = Value.bool false := q7
                        obtain ⟨v11, e11, q11⟩ := hw 11 (by kernel_rfl) _ _ _ rfl rfl rfl
                        obtain rfl : v11 = .agg (cls (mg l s)) := q11
                        exact .inl ⟨wanted_some rfl rfl rfl e7, call_step rfl Try.func29 (by kernel_rfl) rfl (map_one (ev_tmp e11)) (valid_true (mg l s) _ (PR.out.2.1 hD12)) (fun e w2 he => by obtain ⟨rfl, hb⟩ := he; exact ⟨_, rfl, _, rfl, rfl, hb, hs.trans (hb.mono hs.size)⟩)⟩
                      · intro a' w' ha hs hw
                        obtain ⟨v7, e7, q7⟩ := hw 7 (by kernel_rfl) _ _ _ rfl rfl rfl
                        obtain rfl : v7 = Value.bool false := q7
                        obtain ⟨v12, e12, q12⟩ := hw 12 (by kernel_rfl) _ _ _ rfl rfl rfl
                        obtain rfl : v12 = Value.bool true := q12
                        exact .inl ⟨wanted_some rfl rfl rfl e7, wp_val (run_not rfl (ev_tmp e12)) ⟨_, rfl, rfl, Below.refl _ _, hs⟩⟩
                      · intro a' w' ha hs hw
                        obtain ⟨v7, e7, q7⟩ := hw 7 (by kernel_rfl) _ _ _ rfl rfl rfl
                        obtain rfl : v7 = Value.bool false := q7
                        obtain ⟨v13, e13, q13⟩ := hw 13 (by kernel_rfl) _ _ _ rfl rfl rfl
                        obtain rfl : v13 = Value.bool false := q13
                        exact .inl ⟨wanted_none rfl, wp_val (run_pick (b := false) rfl (ev_tmp e7) (ev_tmp e13)) ⟨_, rfl, rfl, Below.refl _ _, hs⟩⟩
                      · intro a' w' ha hs hw
                        obtain ⟨v14, e14, q14⟩ := hw 14 (by kernel_rfl) _ _ _ rfl rfl rfl
                        obtain rfl : v14 = Value.bool false := q14
                        exact .inl ⟨wanted_none rfl, wp_val (run_move rfl (ev_tmp e14)) ⟨_, rfl, rfl, Below.refl _ _, hs⟩⟩
                      · intro a' w' ha hs hw
                        obtain ⟨v15, e15, q15⟩ := hw 15 (by kernel_rfl) _ _ _ rfl rfl rfl
                        obtain rfl : v15 = Value.bool false := q15
                        have eo18 : a'.tmps[18]? = some (Value.int IntKind.i64 ((s : Nat))) := (ha.rest 18 (by kernel_rfl)).trans rfl
                        exact .inl ⟨wanted_some rfl rfl rfl e15, wp_val (run_move rfl (ev_tmp eo18)) ⟨_, rfl, rfl, Below.refl _ _, hs⟩⟩
                      · intro a' w' ha hs hw
                        obtain ⟨v15, e15, q15⟩ := hw 15 (by kernel_rfl) _ _ _ rfl rfl rfl
                        obtain rfl : v15 = Value.bool false := q15
                        obtain ⟨v16, e16, q16⟩ := hw 16 (by kernel_rfl) _ _ _ rfl rfl rfl
                        obtain rfl : v16 = Value.int IntKind.i64 ((s : Nat)) := q16
                        exact .inl ⟨wanted_some rfl rfl rfl e15, wp_val (run_gtr_int rfl (ev_tmp e16) rfl) ⟨_, rfl, congrArg Value.bool (E1.out), Below.refl _ _, hs⟩⟩
                      · intro a' w' ha hs hw
                        obtain ⟨v15, e15, q15⟩ := hw 15 (by kernel_rfl) _ _ _ rfl rfl rfl
                        obtain rfl : v15 = Value.bool false := q15
                        obtain ⟨v17, e17, q17⟩ := hw 17 (by kernel_rfl) _ _ _ rfl rfl rfl
                        obtain rfl : v17 = Value.bool false := q17
                        exact .inl ⟨wanted_some rfl rfl rfl e15, wp_val (run_move rfl (ev_tmp e17)) ⟨_, rfl, rfl, Below.refl _ _, hs⟩⟩
                      · intro a' w' ha hs hw
                        obtain ⟨v18, e18, q18⟩ := hw 18 (by kernel_rfl) _ _ _ rfl rfl rfl
                        obtain rfl : v18 = Value.bool false := q18
                        exact .inr ⟨wanted_off rfl rfl rfl e18 (by decide), rfl⟩
                      · intro a' w' ha hs hw
                        obtain ⟨v18, e18, q18⟩ := hw 18 (by kernel_rfl) _ _ _ rfl rfl rfl
                        obtain rfl : v18 = Value.bool false := q18
                        exact .inr ⟨wanted_off rfl rfl rfl e18 (by decide), rfl⟩
                      · intro a' w' ha hs hw
                        obtain ⟨v18, e18, q18⟩ := hw 18 (by kernel_rfl) _ _ _ rfl rfl rfl
                        obtain rfl : v18 = Value.bool false := q18
                        exact .inr ⟨wanted_off rfl rfl rfl e18 (by decide), rfl⟩
                      · intro a' w' ha hs hw
                        obtain ⟨v18, e18, q18⟩ := hw 18 (by kernel_rfl) _ _ _ rfl rfl rfl
                        obtain rfl : v18 = Value.bool false := q18
                        exact .inr ⟨wanted_off rfl rfl rfl e18 (by decide), rfl⟩
                      · intro a' w' ha hs hw
                        obtain ⟨v18, e18, q18⟩ := hw 18 (by kernel_rfl) _ _ _ rfl rfl rfl
                        obtain rfl : v18 = Value.bool false := q18
                        exact .inr ⟨wanted_off rfl rfl rfl e18 (by decide), rfl⟩
                      · intro a' w' ha hs hw
                        obtain ⟨v18, e18, q18⟩ := hw 18 (by kernel_rfl) _ _ _ rfl rfl rfl
                        obtain rfl : v18 = Value.bool false := q18
                        exact .inr ⟨wanted_off rfl rfl rfl e18 (by decide), rfl⟩
                      · intro a' w' ha hs hw
                        obtain ⟨v18, e18, q18⟩ := hw 18 (by kernel_rfl) _ _ _ rfl rfl rfl
                        obtain rfl : v18 = Value.bool false := q18
                        exact .inr ⟨wanted_off rfl rfl rfl e18 (by decide), rfl⟩
                      · intro a' w' ha hs hw
                        obtain ⟨v18, e18, q18⟩ := hw 18 (by kernel_rfl) _ _ _ rfl rfl rfl
                        obtain rfl : v18 = Value.bool false := q18
                        exact .inr ⟨wanted_off rfl rfl rfl e18 (by decide), rfl⟩
                      · intro a' w' ha hs hw
                        obtain ⟨v18, e18, q18⟩ := hw 18 (by kernel_rfl) _ _ _ rfl rfl rfl
                        obtain rfl : v18 = Value.bool false := q18
                        exact .inr ⟨wanted_off rfl rfl rfl e18 (by decide), rfl⟩
                      · intro a' w' ha hs hw
                        obtain ⟨v18, e18, q18⟩ := hw 18 (by kernel_rfl) _ _ _ rfl rfl rfl
                        obtain rfl : v18 = Value.bool false := q18
                        exact .inr ⟨wanted_off rfl rfl rfl e18 (by decide), rfl⟩
                      · intro a' w' ha hs hw
                        obtain ⟨v18, e18, q18⟩ := hw 18 (by kernel_rfl) _ _ _ rfl rfl rfl
                        obtain rfl : v18 = Value.bool false := q18
                        exact .inr ⟨wanted_off rfl rfl rfl e18 (by decide), rfl⟩
                      · intro a' w' ha hs hw
                        obtain ⟨v15, e15, q15⟩ := hw 15 (by kernel_rfl) _ _ _ rfl rfl rfl
                        obtain rfl : v15 = Value.bool false := q15
                        obtain ⟨v18, e18, q18⟩ := hw 18 (by kernel_rfl) _ _ _ rfl rfl rfl
                        obtain rfl : v18 = Value.bool false := q18
                        exact .inl ⟨wanted_some rfl rfl rfl e15, wp_val (run_pick (b := false) rfl (ev_tmp e18) rfl) ⟨_, rfl, rfl, Below.refl _ _, hs⟩⟩
                      · intro a' w' ha hs hw
                        obtain ⟨v15, e15, q15⟩ := hw 15 (by kernel_rfl) _ _ _ rfl rfl rfl
                        obtain rfl : v15 = Value.bool false := q15
                        obtain ⟨v30, e30, q30⟩ := hw 30 (by kernel_rfl) _ _ _ rfl rfl rfl
                        obtain rfl : v30 = Value.bool false := q30
                        exact .inl ⟨wanted_none rfl, wp_val (run_pick (b := false) rfl (ev_tmp e15) (ev_tmp e30)) ⟨_, rfl, rfl, Below.refl _ _, hs⟩⟩
                    simp only [allK]
                    simp only [setAll, List.set_cons_succ, List.set_cons_zero]
                    refine hK _ _ ?_
                    clear hK K
                    replace U0 := Lib.hid (U0.out.below hs U0.out.lt)
                    replace X10 := Lib.hid (X10.out.below hs)
                    replace M2 := Lib.hid (M2.out.below hs M2.out.lt)
                    replace LB := Lib.hid (below_link LB.out hs LB.out.size)
                    replace DW := Lib.hid (below_link DW.out hs DW.out.size)
                    clear hs
                    generalize wn = z4 at *
                    go_wp2_with fail
                    go_loop [19] (fun s19 => ∃ t : Nat, v ≤ t ∧ t ≤ 8 ∧ s19 = .int .i64 t) (fun s19 => 8 - (intOf s19).toNat)
                    case atStart => exact ⟨v, Nat.le_refl _, by omega, rfl⟩
                    case round =>
                      obtain ⟨t, ht1, ht2, rfl⟩ := hrel
                      by_cases htl : t < 8
                      · have c0 : z4.cell? ⟨b8, o8 + s * 8 + t, none⟩ = some (.int .i64 0) := by rw [range_at (X10.out.at_ hst) htl, PR.out.2.2 t ht1 htl]
                        have hs8 : ((s : Nat) : Int) < ((n10 : Nat) : Int) := by omega
                        go_wp2_with fail
                        go_round
                        case rel => exact ⟨t + 1, by omega, by omega, by go_num⟩
                        case measure => simp [intOf]; omega
                      · skip
                        go_wp2_with fail
                        go_quiet (fail)
                        go_wp2_with fail
                        go_roundw
                        case rel => exact ⟨s + 1, by omega, by go_num, rfl, bdrew LB.out⟩
                        case measure => simp [intOf]; omega
                  · skip
                    have E0 := Lib.hid (show (sm (mg l s) 8 != ((D : Nat) : Int)) = false by rw [PR.out.1]; simp)
                    obtain ⟨b8, o8, e8, hb8, hr8⟩ := X10.out.at_ (k := s - 1) (by omega)
                    obtain ⟨b9, o9, e9, _, hr9⟩ := X10.out.at_ hst
                    subst e8
                    cases e9
                    have H1 := Lib.hid hr8; have H2 := Lib.hid hr9; have HB := Lib.hid hb8
                    clear hr8 hr9 hb8
                    have E1 := Lib.hid (show decide ((0 : Int) < ((s : Nat) : Int)) = true by simp; omega); have E2 := Lib.hid (show CM (mg l (s - 1)) (mg l s) 1 from .inr (.inr ⟨by have := strict_at (s := l) (i := s - 1) (by rw [HL.out]; exact rs_strict v 0 D nul (by omega)) (by omega); rw [show s - 1 + 1 = s by omega] at this; exact this, rfl⟩))
                    have HI := Lib.hid (show ((s : Nat) : Int) - 1 = ((s - 1 : Nat) : Int) by omega)
                    clear hs0
                    go_wp2_with fail
                    refine region_run (fun w' => Below wp.heap.size wp w') [.is (.slice (some ⟨b8, o8, none⟩) n10 c10), .is (Value.int IntKind.i64 ((s : Nat))), .is (.pointer (some ⟨b8, o8 + s * 8, none⟩)), .is (.agg (cls (mg l s))), .is (Value.int IntKind.i64 (sm (mg l s) 8)), .is (Value.int IntKind.i64 ((D : Nat))), .is (Value.bool false), .is (Value.bool false), .is (.slice (some ⟨b8, o8, none⟩) n10 c10), .is (Value.int IntKind.i64 ((s : Nat))), .is (.pointer (some ⟨b8, o8 + s * 8, none⟩)), .is (.agg (cls (mg l s))), .is (Value.bool true), .is (Value.bool false), .is (Value.bool false), .is (Value.bool false), .is (Value.int IntKind.i64 ((s : Nat))), .is (Value.bool true), .is (Value.bool true), .is (.slice (some ⟨b8, o8, none⟩) n10 c10), .is (Value.int IntKind.i64 ((s : Nat))), .is (Value.int IntKind.i64 ((s - 1 : Nat))), .is (.pointer (some ⟨b8, o8 + (s - 1) * 8, none⟩)), .is (.agg (cls (mg l (s - 1)))), .is (.slice (some ⟨b8, o8, none⟩) n10 c10), .is (Value.int IntKind.i64 ((s : Nat))), .is (.pointer (some ⟨b8, o8 + s * 8, none⟩)), .is (.agg (cls (mg l s))), .is (Value.int IntKind.i64 (1)), .is (Value.bool false), .is (Value.bool false), .is (Value.bool false)] [102, 103, 104, 105, 106, 107, 108, 109, 110, 111, 112, 113, 114, 115, 116, 117, 118, 119, 120, 121, 122, 123, 124, 125, 126, 127, 128, 129, 130, 131, 132, 133] (by kernel_rfl) (by kernel_rfl) (by kernel_rfl) (by rfl) (by kernel_rfl) ((Below.refl _ _).drew) (fun Q' => ?_) (fun K hK wn hs => ?_)
                    · refine ⟨?_, ?_, ?_, ?_, ?_, ?_, ?_, ?_, ?_, ?_, ?_, ?_, ?_, ?_, ?_, ?_, ?_, ?_, ?_, ?_, ?_, ?_, ?_, ?_, ?_, ?_, ?_, ?_, ?_, ?_, ?_, ?_, trivial⟩
                      · intro a' w' ha hs hw
                        have eo10 : a'.tmps[10]? = some (.slice (some ⟨b8, o8, none⟩) n10 c10) := (ha.rest 10 (by kernel_rfl)).trans rfl
                        exact .inl ⟨wanted_none rfl, wp_val (run_move rfl (ev_tmp eo10)) ⟨_, rfl, rfl, Below.refl _ _, hs⟩⟩
                      · intro a' w' ha hs hw
                        have eo18 : a'.tmps[18]? = some (Value.int IntKind.i64 ((s : Nat))) := (ha.rest 18 (by kernel_rfl)).trans rfl
                        exact .inl ⟨wanted_none rfl, wp_val (run_move rfl (ev_tmp eo18)) ⟨_, rfl, rfl, Below.refl _ _, hs⟩⟩
                      · intro a' w' ha hs hw
                        obtain ⟨v0, e0, q0⟩ := hw 0 (by kernel_rfl) _ _ _ rfl rfl rfl
                        obtain rfl : v0 = .slice (some ⟨b8, o8, none⟩) n10 c10 := q0
                        obtain ⟨v1, e1, q1⟩ := hw 1 (by kernel_rfl) _ _ _ rfl rfl rfl
                        obtain rfl : v1 = Value.int IntKind.i64 ((s : Nat)) := q1
                        exact .inl ⟨wanted_none rfl, wp_val (run_at (k := s) rfl (ev_tmp e0) (ev_tmp e1) hst) ⟨_, rfl, rfl, Below.refl _ _, hs⟩⟩
                      · intro a' w' ha hs hw
                        obtain ⟨v2, e2, q2⟩ := hw 2 (by kernel_rfl) _ _ _ rfl rfl rfl
                        obtain rfl : v2 = .pointer (some ⟨b8, o8 + s * 8, none⟩) := q2
                        exact .inl ⟨wanted_none rfl, wp_val (run_load_mid rfl (ev_tmp e2) (rangeAt_keep H2.out (hs.block _ HB.out))) ⟨_, rfl, rfl, Below.refl _ _, hs⟩⟩
                      · intro a' w' ha hs hw
                        obtain ⟨v3, e3, q3⟩ := hw 3 (by kernel_rfl) _ _ _ rfl rfl rfl
                        obtain rfl : v3 = .agg (cls (mg l s)) := q3
                        exact .inl ⟨wanted_none rfl, call_step rfl Try.func25 (by kernel_rfl) rfl (map_one (ev_tmp e3)) (degree_any (mg l s) _ ((PR.out.2.1 hD12))) (fun e w2 he => by obtain ⟨rfl, hb⟩ := he; exact ⟨_, rfl, _, rfl, rfl, hb, hs.trans (hb.mono hs.size)⟩)⟩
                      · intro a' w' ha hs hw
                        have eo9 : a'.tmps[9]? = some (Value.int IntKind.i64 ((D : Nat))) := (ha.rest 9 (by kernel_rfl)).trans rfl
                        exact .inl ⟨wanted_none rfl, wp_val (run_move rfl (ev_tmp eo9)) ⟨_, rfl, rfl, Below.refl _ _, hs⟩⟩
                      · intro a' w' ha hs hw
                        obtain ⟨v4, e4, q4⟩ := hw 4 (by kernel_rfl) _ _ _ rfl rfl rfl
                        obtain rfl : v4 = Value.int IntKind.i64 (sm (mg l s) 8) := q4
                        obtain ⟨v5, e5, q5⟩ := hw 5 (by kernel_rfl) _ _ _ rfl rfl rfl
                        obtain rfl : v5 = Value.int IntKind.i64 ((D : Nat)) := q5
                        exact .inl ⟨wanted_none rfl, wp_val (run_neq_int rfl (ev_tmp e4) (ev_tmp e5)) ⟨_, rfl, congrArg Value.bool (E0.out), Below.refl _ _, hs⟩⟩
                      · intro a' w' ha hs hw
                        obtain ⟨v6, e6, q6⟩ := hw 6 (by kernel_rfl) _ _ _ rfl rfl rfl
                        obtain rfl : v6 = Value.bool false := q6
                        exact .inl ⟨wanted_none rfl, wp_val (run_move rfl (ev_tmp e6)) ⟨_, rfl, rfl, Below.refl _ _, hs⟩⟩
                      · intro a' w' ha hs hw
                        obtain ⟨v7, e7, q7⟩ := hw 7 (by kernel_rfl) _ _ _ rfl rfl rfl
                        obtain rfl : v7 = Value.bool false := q7
                        have eo10 : a'.tmps[10]? = some (.slice (some ⟨b8, o8, none⟩) n10 c10) := (ha.rest 10 (by kernel_rfl)).trans rfl
                        exact .inl ⟨wanted_some rfl rfl rfl e7, wp_val (run_move rfl (ev_tmp eo10)) ⟨_, rfl, rfl, Below.refl _ _, hs⟩⟩
                      · intro a' w' ha hs hw
                        obtain ⟨v7, e7, q7⟩ := hw 7 (by kernel_rfl) _ _ _ rfl rfl rfl
                        obtain rfl : v7 = Value.bool false := q7
                        have eo18 : a'.tmps[18]? = some (Value.int IntKind.i64 ((s : Nat))) := (ha.rest 18 (by kernel_rfl)).trans rfl
                        exact .inl ⟨wanted_some rfl rfl rfl e7, wp_val (run_move rfl (ev_tmp eo18)) ⟨_, rfl, rfl, Below.refl _ _, hs⟩⟩
                      · intro a' w' ha hs hw
                        obtain ⟨v7, e7, q7⟩ := hw 7 (by kernel_rfl) _ _ _ rfl rfl rfl
                        obtain rfl : v7 = Value.bool false := q7
                        obtain ⟨v8, e8, q8⟩ := hw 8 (by kernel_rfl) _ _ _ rfl rfl rfl
                        obtain rfl : v8 = .slice (some ⟨b8, o8, none⟩) n10 c10 := q8
                        obtain ⟨v9, e9, q9⟩ := hw 9 (by kernel_rfl) _ _ _ rfl rfl rfl
                        obtain rfl : v9 = Value.int IntKind.i64 ((s : Nat)) := q9
                        exact .inl ⟨wanted_some rfl rfl rfl e7, wp_val (run_at (k := s) rfl (ev_tmp e8) (ev_tmp e9) hst) ⟨_, rfl, rfl, Below.refl _ _, hs⟩⟩
                      · intro a' w' ha hs hw
                        obtain ⟨v7, e7, q7⟩ := hw 7 (by kernel_rfl) _ _ _ rfl rfl rfl
                        obtain rfl : v7 = Value.bool false := q7
                        obtain ⟨v10, e10, q10⟩ := hw 10 (by kernel_rfl) _ _ _ rfl rfl rfl
                        obtain rfl : v10 = .pointer (some ⟨b8, o8 + s * 8, none⟩) := q10
                        exact .inl ⟨wanted_some rfl rfl rfl e7, wp_val (run_load_mid rfl (ev_tmp e10) (rangeAt_keep H2.out (hs.block _ HB.out))) ⟨_, rfl, rfl, Below.refl _ _, hs⟩⟩
                      · intro a' w' ha hs hw
                        obtain ⟨v7, e7, q7⟩ := hw 7 (by kernel_rfl) _ _ _ rfl rfl rfl
                        obtain rfl : v7 = Value.bool false := q7
                        obtain ⟨v11, e11, q11⟩ := hw 11 (by kernel_rfl) _ _ _ rfl rfl rfl
                        obtain rfl : v11 = .agg (cls (mg l s)) := q11
                        exact .inl ⟨wanted_some rfl rfl rfl e7, call_step rfl Try.func29 (by kernel_rfl) rfl (map_one (ev_tmp e11)) (valid_true (mg l s) _ (PR.out.2.1 hD12)) (fun e w2 he => by obtain ⟨rfl, hb⟩ := he; exact ⟨_, rfl, _, rfl, rfl, hb, hs.trans (hb.mono hs.size)⟩)⟩
                      · intro a' w' ha hs hw
                        obtain ⟨v7, e7, q7⟩ := hw 7 (by kernel_rfl) _ _ _ rfl rfl rfl
                        obtain rfl : v7 = Value.bool false := q7
                        obtain ⟨v12, e12, q12⟩ := hw 12 (by kernel_rfl) _ _ _ rfl rfl rfl
                        obtain rfl : v12 = Value.bool true := q12
                        exact .inl ⟨wanted_some rfl rfl rfl e7, wp_val (run_not rfl (ev_tmp e12)) ⟨_, rfl, rfl, Below.refl _ _, hs⟩⟩
                      · intro a' w' ha hs hw
                        obtain ⟨v7, e7, q7⟩ := hw 7 (by kernel_rfl) _ _ _ rfl rfl rfl
                        obtain rfl : v7 = Value.bool false := q7
                        obtain ⟨v13, e13, q13⟩ := hw 13 (by kernel_rfl) _ _ _ rfl rfl rfl
                        obtain rfl : v13 = Value.bool false := q13
                        exact .inl ⟨wanted_none rfl, wp_val (run_pick (b := false) rfl (ev_tmp e7) (ev_tmp e13)) ⟨_, rfl, rfl, Below.refl _ _, hs⟩⟩
                      · intro a' w' ha hs hw
                        obtain ⟨v14, e14, q14⟩ := hw 14 (by kernel_rfl) _ _ _ rfl rfl rfl
                        obtain rfl : v14 = Value.bool false := q14
                        exact .inl ⟨wanted_none rfl, wp_val (run_move rfl (ev_tmp e14)) ⟨_, rfl, rfl, Below.refl _ _, hs⟩⟩
                      · intro a' w' ha hs hw
                        obtain ⟨v15, e15, q15⟩ := hw 15 (by kernel_rfl) _ _ _ rfl rfl rfl
                        obtain rfl : v15 = Value.bool false := q15
                        have eo18 : a'.tmps[18]? = some (Value.int IntKind.i64 ((s : Nat))) := (ha.rest 18 (by kernel_rfl)).trans rfl
                        exact .inl ⟨wanted_some rfl rfl rfl e15, wp_val (run_move rfl (ev_tmp eo18)) ⟨_, rfl, rfl, Below.refl _ _, hs⟩⟩
                      · intro a' w' ha hs hw
                        obtain ⟨v15, e15, q15⟩ := hw 15 (by kernel_rfl) _ _ _ rfl rfl rfl
                        obtain rfl : v15 = Value.bool false := q15
                        obtain ⟨v16, e16, q16⟩ := hw 16 (by kernel_rfl) _ _ _ rfl rfl rfl
                        obtain rfl : v16 = Value.int IntKind.i64 ((s : Nat)) := q16
                        exact .inl ⟨wanted_some rfl rfl rfl e15, wp_val (run_gtr_int rfl (ev_tmp e16) rfl) ⟨_, rfl, congrArg Value.bool (E1.out), Below.refl _ _, hs⟩⟩
                      · intro a' w' ha hs hw
                        obtain ⟨v15, e15, q15⟩ := hw 15 (by kernel_rfl) _ _ _ rfl rfl rfl
                        obtain rfl : v15 = Value.bool false := q15
                        obtain ⟨v17, e17, q17⟩ := hw 17 (by kernel_rfl) _ _ _ rfl rfl rfl
                        obtain rfl : v17 = Value.bool true := q17
                        exact .inl ⟨wanted_some rfl rfl rfl e15, wp_val (run_move rfl (ev_tmp e17)) ⟨_, rfl, rfl, Below.refl _ _, hs⟩⟩
                      · intro a' w' ha hs hw
                        obtain ⟨v18, e18, q18⟩ := hw 18 (by kernel_rfl) _ _ _ rfl rfl rfl
                        obtain rfl : v18 = Value.bool true := q18
                        have eo10 : a'.tmps[10]? = some (.slice (some ⟨b8, o8, none⟩) n10 c10) := (ha.rest 10 (by kernel_rfl)).trans rfl
                        exact .inl ⟨wanted_some rfl rfl rfl e18, wp_val (run_move rfl (ev_tmp eo10)) ⟨_, rfl, rfl, Below.refl _ _, hs⟩⟩
                      · intro a' w' ha hs hw
                        obtain ⟨v18, e18, q18⟩ := hw 18 (by kernel_rfl) _ _ _ rfl rfl rfl
                        obtain rfl : v18 = Value.bool true := q18
                        have eo18 : a'.tmps[18]? = some (Value.int IntKind.i64 ((s : Nat))) := (ha.rest 18 (by kernel_rfl)).trans rfl
                        exact .inl ⟨wanted_some rfl rfl rfl e18, wp_val (run_move rfl (ev_tmp eo18)) ⟨_, rfl, rfl, Below.refl _ _, hs⟩⟩
                      · intro a' w' ha hs hw
                        obtain ⟨v18, e18, q18⟩ := hw 18 (by kernel_rfl) _ _ _ rfl rfl rfl
                        obtain rfl : v18 = Value.bool true := q18
                        obtain ⟨v20, e20, q20⟩ := hw 20 (by kernel_rfl) _ _ _ rfl rfl rfl
                        obtain rfl : v20 = Value.int IntKind.i64 ((s : Nat)) := q20
                        exact .inl ⟨wanted_some rfl rfl rfl e18, wp_val (run_sub_int rfl (ev_tmp e20) rfl (by omega) (by omega)) ⟨_, rfl, congrArg (Value.int IntKind.i64) (HI.out), Below.refl _ _, hs⟩⟩
                      · intro a' w' ha hs hw
                        obtain ⟨v18, e18, q18⟩ := hw 18 (by kernel_rfl) _ _ _ rfl rfl rfl
                        obtain rfl : v18 = Value.bool true := q18
                        obtain ⟨v19, e19, q19⟩ := hw 19 (by kernel_rfl) _ _ _ rfl rfl rfl
                        obtain rfl : v19 = .slice (some ⟨b8, o8, none⟩) n10 c10 := q19
                        obtain ⟨v21, e21, q21⟩ := hw 21 (by kernel_rfl) _ _ _ rfl rfl rfl
                        obtain rfl : v21 = Value.int IntKind.i64 ((s - 1 : Nat)) := q21
                        exact .inl ⟨wanted_some rfl rfl rfl e18, wp_val (run_at (k := (s - 1)) rfl (ev_tmp e19) (ev_tmp e21) (by omega)) ⟨_, rfl, rfl, Below.refl _ _, hs⟩⟩
                      · intro a' w' ha hs hw
                        obtain ⟨v18, e18, q18⟩ := hw 18 (by kernel_rfl) _ _ _ rfl rfl rfl
                        obtain rfl : v18 = Value.bool true := q18
                        obtain ⟨v22, e22, q22⟩ := hw 22 (by kernel_rfl) _ _ _ rfl rfl rfl
                        obtain rfl : v22 = .pointer (some ⟨b8, o8 + (s - 1) * 8, none⟩) := q22
                        exact .inl ⟨wanted_some rfl rfl rfl e18, wp_val (run_load_mid rfl (ev_tmp e22) (rangeAt_keep H1.out (hs.block _ HB.out))) ⟨_, rfl, rfl, Below.refl _ _, hs⟩⟩
                      · intro a' w' ha hs hw
                        obtain ⟨v18, e18, q18⟩ := hw 18 (by kernel_rfl) _ _ _ rfl rfl rfl
                        obtain rfl : v18 = Value.bool true := q18
                        have eo10 : a'.tmps[10]? = some (.slice (some ⟨b8, o8, none⟩) n10 c10) := (ha.rest 10 (by kernel_rfl)).trans rfl
                        exact .inl ⟨wanted_some rfl rfl rfl e18, wp_val (run_move rfl (ev_tmp eo10)) ⟨_, rfl, rfl, Below.refl _ _, hs⟩⟩
                      · intro a' w' ha hs hw
                        obtain ⟨v18, e18, q18⟩ := hw 18 (by kernel_rfl) _ _ _ rfl rfl rfl
                        obtain rfl : v18 = Value.bool true := q18
                        have eo18 : a'.tmps[18]? = some (Value.int IntKind.i64 ((s : Nat))) := (ha.rest 18 (by kernel_rfl)).trans rfl
                        exact .inl ⟨wanted_some rfl rfl rfl e18, wp_val (run_move rfl (ev_tmp eo18)) ⟨_, rfl, rfl, Below.refl _ _, hs⟩⟩
                      · intro a' w' ha hs hw
                        obtain ⟨v18, e18, q18⟩ := hw 18 (by kernel_rfl) _ _ _ rfl rfl rfl
                        obtain rfl : v18 = Value.bool true := q18
                        obtain ⟨v24, e24, q24⟩ := hw 24 (by kernel_rfl) _ _ _ rfl rfl rfl
                        obtain rfl : v24 = .slice (some ⟨b8, o8, none⟩) n10 c10 := q24
                        obtain ⟨v25, e25, q25⟩ := hw 25 (by kernel_rfl) _ _ _ rfl rfl rfl
                        obtain rfl : v25 = Value.int IntKind.i64 ((s : Nat)) := q25
                        exact .inl ⟨wanted_some rfl rfl rfl e18, wp_val (run_at (k := s) rfl (ev_tmp e24) (ev_tmp e25) hst) ⟨_, rfl, rfl, Below.refl _ _, hs⟩⟩
                      · intro a' w' ha hs hw
                        obtain ⟨v18, e18, q18⟩ := hw 18 (by kernel_rfl) _ _ _ rfl rfl rfl
                        obtain rfl : v18 = Value.bool true := q18
                        obtain ⟨v26, e26, q26⟩ := hw 26 (by kernel_rfl) _ _ _ rfl rfl rfl
                        obtain rfl : v26 = .pointer (some ⟨b8, o8 + s * 8, none⟩) := q26
                        exact .inl ⟨wanted_some rfl rfl rfl e18, wp_val (run_load_mid rfl (ev_tmp e26) (rangeAt_keep H2.out (hs.block _ HB.out))) ⟨_, rfl, rfl, Below.refl _ _, hs⟩⟩
                      · intro a' w' ha hs hw
                        obtain ⟨v18, e18, q18⟩ := hw 18 (by kernel_rfl) _ _ _ rfl rfl rfl
                        obtain rfl : v18 = Value.bool true := q18
                        obtain ⟨v23, e23, q23⟩ := hw 23 (by kernel_rfl) _ _ _ rfl rfl rfl
                        obtain rfl : v23 = .agg (cls (mg l (s - 1))) := q23
                        obtain ⟨v27, e27, q27⟩ := hw 27 (by kernel_rfl) _ _ _ rfl rfl rfl
                        obtain rfl : v27 = .agg (cls (mg l s)) := q27
                        exact .inl ⟨wanted_some rfl rfl rfl e18, call_step rfl Try.func19 (by kernel_rfl) rfl (map_two (ev_tmp e23) (ev_tmp e27)) (cmp_is (mg l (s - 1)) (mg l s) (1) _ (E2.out)) (fun e w2 he => by obtain ⟨rfl, hb⟩ := he; exact ⟨_, rfl, _, rfl, rfl, hb, hs.trans (hb.mono hs.size)⟩)⟩
                      · intro a' w' ha hs hw
                        obtain ⟨v18, e18, q18⟩ := hw 18 (by kernel_rfl) _ _ _ rfl rfl rfl
                        obtain rfl : v18 = Value.bool true := q18
                        obtain ⟨v28, e28, q28⟩ := hw 28 (by kernel_rfl) _ _ _ rfl rfl rfl
                        obtain rfl : v28 = Value.int IntKind.i64 (1) := q28
                        exact .inl ⟨wanted_some rfl rfl rfl e18, wp_val (run_leq_int rfl (ev_tmp e28) rfl) ⟨_, rfl, congrArg Value.bool (by decide), Below.refl _ _, hs⟩⟩
                      · intro a' w' ha hs hw
                        obtain ⟨v15, e15, q15⟩ := hw 15 (by kernel_rfl) _ _ _ rfl rfl rfl
                        obtain rfl : v15 = Value.bool false := q15
                        obtain ⟨v18, e18, q18⟩ := hw 18 (by kernel_rfl) _ _ _ rfl rfl rfl
                        obtain rfl : v18 = Value.bool true := q18
                        obtain ⟨v29, e29, q29⟩ := hw 29 (by kernel_rfl) _ _ _ rfl rfl rfl
                        obtain rfl : v29 = Value.bool false := q29
                        exact .inl ⟨wanted_some rfl rfl rfl e15, wp_val (run_pick (b := true) rfl (ev_tmp e18) (ev_tmp e29)) ⟨_, rfl, rfl, Below.refl _ _, hs⟩⟩
                      · intro a' w' ha hs hw
                        obtain ⟨v15, e15, q15⟩ := hw 15 (by kernel_rfl) _ _ _ rfl rfl rfl
                        obtain rfl : v15 = Value.bool false := q15
                        obtain ⟨v30, e30, q30⟩ := hw 30 (by kernel_rfl) _ _ _ rfl rfl rfl
                        obtain rfl : v30 = Value.bool false := q30
                        exact .inl ⟨wanted_none rfl, wp_val (run_pick (b := false) rfl (ev_tmp e15) (ev_tmp e30)) ⟨_, rfl, rfl, Below.refl _ _, hs⟩⟩
                    simp only [allK]
                    simp only [setAll, List.set_cons_succ, List.set_cons_zero]
                    refine hK _ _ ?_
                    clear hK K
                    replace U0 := Lib.hid (U0.out.below hs U0.out.lt)
                    replace X10 := Lib.hid (X10.out.below hs)
                    replace M2 := Lib.hid (M2.out.below hs M2.out.lt)
                    replace LB := Lib.hid (below_link LB.out hs LB.out.size)
                    replace DW := Lib.hid (below_link DW.out hs DW.out.size)
                    clear hs
                    generalize wn = z4 at *
                    go_wp2_with fail
                    go_loop [19] (fun s19 => ∃ t : Nat, v ≤ t ∧ t ≤ 8 ∧ s19 = .int .i64 t) (fun s19 => 8 - (intOf s19).toNat)
                    case atStart => exact ⟨v, Nat.le_refl _, by omega, rfl⟩
                    case round =>
                      obtain ⟨t, ht1, ht2, rfl⟩ := hrel
                      by_cases htl : t < 8
                      · have c0 : z4.cell? ⟨b8, o8 + s * 8 + t, none⟩ = some (.int .i64 0) := by rw [range_at (X10.out.at_ hst) htl, PR.out.2.2 t ht1 htl]
                        have hs8 : ((s : Nat) : Int) < ((n10 : Nat) : Int) := by omega
                        go_wp2_with fail
                        go_round
                        case rel => exact ⟨t + 1, by omega, by omega, by go_num⟩
                        case measure => simp [intOf]; omega
                      · skip
                        go_wp2_with fail
                        go_quiet (fail)
                        go_wp2_with fail
                        go_roundw
                        case rel => exact ⟨s + 1, by omega, by go_num, rfl, bdrew LB.out⟩
                        case measure => simp [intOf]; omega
                · go_wp2_with fail
                  go_ret
                  exact ⟨rfl, DW.out⟩
      · skip
        go_wp2_with fail
        refine (all_ok v D _ hv8 hD12).mono ?_
        rintro e y2 ⟨v10, l, rfl, s10, hl, hb⟩
        replace U0 := Lib.hid (U0.out.below hb U0.out.lt)
        replace DW := Lib.hid (below_link DW.out hb DW.out.size)
        clear hb
        clear e9 e13
        have HL := Lib.hid hl
        obtain ⟨A10, n10, c10, rfl, p1, p2, p3, p4⟩ := s10
        have X10 := Lib.hid p4; have L10 := Lib.hid p4.len; have P1 := Lib.hid p1; have P2 := Lib.hid p2
        clear p1 p2 p3 p4 hl
        have NL := Lib.hid (show n10 = rl v D by have := L10.out; rw [HL.out, rs_length] at this; exact this.symm)
        have NM := Lib.hid (show n10 = 1 by (have h0 : v = 0 := (by omega)); rw [NL.out, h0, rl_none D (by omega)]; split <;> omega)
        have hn10 : n10 ≤ 1000000 := by have := NM.out; omega
        go_wp2_with fail
        go_loop [12, 13] (fun s12 s13 => ∃ i : Nat, 1 ≤ i ∧ (i ≤ v ∨ i = 1) ∧ s13 = .int .i64 i ∧ s12 = .int .i64 (mny D i : Nat)) (fun _ s13 => v - (intOf s13).toNat)
        case atStart => exact ⟨1, by omega, by omega, rfl, rfl⟩
        case round =>
          obtain ⟨i, hi1, hi2, rfl, rfl⟩ := hrel
          obtain rfl : i = 1 := by omega
          have hv0 : (((v : Nat) : Int) == 0) = true := by simp; omega
          have hne : (((n10 : Nat) : Int) != ((mny D 1 : Nat) : Int)) = false := by rw [NM.out]; rfl
          go_upto_region 16 with fail
          go_upto_region 19 with fail
          clear hne
          obtain ⟨wm, hW⟩ : ∃ wm, wm = y2.alloc (Obj.cells #[Value.int IntKind.i64 0, Value.int IntKind.i64 0, Value.int IntKind.i64 0, Value.int IntKind.i64 0, Value.int IntKind.i64 0, Value.int IntKind.i64 0, Value.int IntKind.i64 0, Value.int IntKind.i64 0] 27) := ⟨_, rfl⟩
          rw [← hW]
          have M0 : Hid (Row wm y2.heap.size nul) := by rw [hW]; exact Row.new y2 nul
          have D0 : Hid (Below y2.heap.size y2 wm) := by rw [hW]; exact (Below.refl _ _).alloc (Nat.le_refl _) _
          clear hW
          have hv1 := hv0
          clear hv0
          go_wp2_with fail
          go_loopw [15, 16] (fun s15 s16 wr => ∃ (j : Nat) (m : Mn) (q : Int), j ≤ v ∧ s16 = .int .i64 j ∧ s15 = .int .i64 q ∧ 0 ≤ q ∧ q + sm m j = D ∧ (∀ t, j ≤ t → m t = 0) ∧ (∀ t, t < j → 0 ≤ m t) ∧ Row wr y2.heap.size m ∧ Below y2.heap.size y2 wr) (fun _ s16 _ => v - (intOf s16).toNat)
          case atStart => exact ⟨0, nul, _, by omega, rfl, rfl, by omega, by simp [sm], fun _ _ => rfl, fun t ht => by omega, M0.out, D0.out⟩
          case round =>
            obtain ⟨j, m, q, hj, rfl, rfl, hq0, hqs, hz, hp, hM, hb⟩ := hrel
            obtain ⟨wo, rfl⟩ : ∃ wo : World, wo = wr := ⟨_, rfl⟩
            have U1 := Lib.hid (U0.out.below hb U0.out.lt)
            have D1 := Lib.hid hb; have M1 := Lib.hid hM; have QS := Lib.hid hqs; have MZ := Lib.hid hz; have MP := Lib.hid hp
            clear hb hM hqs hz hp D0 M0
            have hsm : 0 ≤ sm m j := sm_nonneg MP.out
            have hq1 : q ≤ 12 := by have := QS.out; omega
            by_cases hjt : j < v
            · exact absurd hjt (by omega)
            · have cM := M1.out.cell (show 0 < 8 by omega); have fM := M1.out.frozen 0
              have hx : m 0 = 0 := MZ.out 0 (by omega)
              have hx1 : 0 ≤ m 0 := by omega
              have hx2 : m 0 ≤ 12 := by omega
              clear hx
              have hvm : ((v : Nat) : Int) - 1 < 0 := by omega
              go_upto_region 26 with fail
              obtain ⟨w3, hW⟩ : ∃ w3, w3 = wo.setCell ⟨y2.heap.size, 0, none⟩ (.int .i64 (m 0 + q)) := ⟨_, rfl⟩
              rw [← hW]
              have M2 : Hid (Row w3 y2.heap.size (up m 0 (m 0 + q))) := by rw [hW]; exact M1.out.set _ (by omega)
              have hb : Below y2.heap.size y2 w3 := by rw [hW]; exact D1.out.setCell (by simp) _
              replace U0 := Lib.hid (U0.out.below hb U0.out.lt)
              replace X10 := Lib.hid (X10.out.below hb)
              replace DW := Lib.hid (below_link DW.out hb DW.out.size)
              clear hb hW cM fM U1 D1 M1
              clear hx1 hx2 hvm QS MZ MP hq0 hsm hq1 hjt
              generalize up m 0 (m 0 + q) = m2 at *
              go_wp2_with fail
              clear hv1
              go_loopw [17, 18, 19] (fun s17 s18 _ wr => ∃ s : Nat, s ≤ n10 ∧ s18 = .int .i64 s ∧ s17 = .bool true ∧ Below w3.heap.size w3 wr) (fun _ s18 _ _ => n10 - (intOf s18).toNat)
              case atStart => exact ⟨0, by omega, rfl, rfl, Below.refl _ _⟩
              case round =>
                obtain ⟨s, hs1, rfl, rfl, hb⟩ := hrel
                obtain ⟨wp, rfl⟩ : ∃ wp : World, wp = wr := ⟨_, rfl⟩
                replace U0 := Lib.hid (U0.out.below hb U0.out.lt)
                replace X10 := Lib.hid (X10.out.below hb)
                replace M2 := Lib.hid (M2.out.below hb M2.out.lt)
                replace DW := Lib.hid (below_link DW.out hb DW.out.size)
                have LB := Lib.hid hb
                clear hb
                by_cases hst : s < n10
                · have hlen : s < l.length := by rw [L10.out]; exact hst
                  have PR := Lib.hid (elem_prop (by omega) HL.out hlen)
                  by_cases hs0 : ¬ 0 < s
                  · skip
                    have E0 := Lib.hid (show (sm (mg l s) 8 != ((D : Nat) : Int)) = false by rw [PR.out.1]; simp)
                    obtain ⟨b8, o8, e8, hb8, hr8⟩ := X10.out.at_ hst
                    subst e8
                    have H2 := Lib.hid hr8; have HB := Lib.hid hb8
                    clear hr8 hb8
                    have E1 := Lib.hid (show decide ((0 : Int) < ((s : Nat) : Int)) = false by simp; omega)
                    clear hs0
                    go_wp2_with fail
                    refine region_run (fun w' => Below wp.heap.size wp w') [.is (.slice (some ⟨b8, o8, none⟩) n10 c10), .is (Value.int IntKind.i64 ((s : Nat))), .is (.pointer (some ⟨b8, o8 + s * 8, none⟩)), .is (.agg (cls (mg l s))), .is (Value.int IntKind.i64 (sm (mg l s) 8)), .is (Value.int IntKind.i64 ((D : Nat))), .is (Value.bool false), .is (Value.bool false), .is (.slice (some ⟨b8, o8, none⟩) n10 c10), .is (Value.int IntKind.i64 ((s : Nat))), .is (.pointer (some ⟨b8, o8 + s * 8, none⟩)), .is (.agg (cls (mg l s))), .is (Value.bool true), .is (Value.bool false), .is (Value.bool false), .is (Value.bool false), .is (Value.int IntKind.i64 ((s : Nat))), .is (Value.bool false), .is (Value.bool false), .is undef, .is undef, .is undef, .is undef, .is undef, .is undef, .is undef, .is undef, .is undef, .is undef, .is undef, .is (Value.bool false), .is (Value.bool false)] [102, 103, 104, 105, 106, 107, 108, 109, 110, 111, 112, 113, 114, 115, 116, 117, 118, 119, 120, 121, 122, 123, 124, 125, 126, 127, 128, 129, 130, 131, 132, 133] (by kernel_rfl) (by kernel_rfl) (by kernel_rfl) (by rfl) (by kernel_rfl) ((Below.refl _ _).drew) (fun Q' => ?_) (fun K hK wn hs => ?_)
                    · refine ⟨?_, ?_, ?_, ?_, ?_, ?_, ?_, ?_, ?_, ?_, ?_, ?_, ?_, ?_, ?_, ?_, ?_, ?_, ?_, ?_, ?_, ?_, ?_, ?_, ?_, ?_, ?_, ?_, ?_, ?_, ?_, ?_, trivial⟩
                      · intro a' w' ha hs hw
                        have eo10 : a'.tmps[10]? = some (.slice (some ⟨b8, o8, none⟩) n10 c10) := (ha.rest 10 (by kernel_rfl)).trans rfl
                        exact .inl ⟨wanted_none rfl, wp_val (run_move rfl (ev_tmp eo10)) ⟨_, rfl, rfl, Below.refl _ _, hs⟩⟩
                      · intro a' w' ha hs hw
                        have eo18 : a'.tmps[18]? = some (Value.int IntKind.i64 ((s : Nat))) := (ha.rest 18 (by kernel_rfl)).trans rfl
                        exact .inl ⟨wanted_none rfl, wp_val (run_move rfl (ev_tmp eo18)) ⟨_, rfl, rfl, Below.refl _ _, hs⟩⟩
                      · intro a' w' ha hs hw
                        obtain ⟨v0, e0, q0⟩ := hw 0 (by kernel_rfl) _ _ _ rfl rfl rfl
                        obtain rfl : v0 = .slice (some ⟨b8, o8, none⟩) n10 c10 := q0
                        obtain ⟨v1, e1, q1⟩ := hw 1 (by kernel_rfl) _ _ _ rfl rfl rfl
                        obtain rfl : v1 = Value.int IntKind.i64 ((s : Nat)) := q1
                        exact .inl ⟨wanted_none rfl, wp_val (run_at (k := s) rfl (ev_tmp e0) (ev_tmp e1) hst) ⟨_, rfl, rfl, Below.refl _ _, hs⟩⟩
                      · intro a' w' ha hs hw
                        obtain ⟨v2, e2, q2⟩ := hw 2 (by kernel_rfl) _ _ _ rfl rfl rfl
                        obtain rfl : v2 = .pointer (some ⟨b8, o8 + s * 8, none⟩) := q2
                        exact .inl ⟨wanted_none rfl, wp_val (run_load_mid rfl (ev_tmp e2) (rangeAt_keep H2.out (hs.block _ HB.out))) ⟨_, rfl, rfl, Below.refl _ _, hs⟩⟩
                      · intro a' w' ha hs hw
                        obtain ⟨v3, e3, q3⟩ := hw 3 (by kernel_rfl) _ _ _ rfl rfl rfl
                        obtain rfl : v3 = .agg (cls (mg l s)) := q3
                        exact .inl ⟨wanted_none rfl, call_step rfl Try.func25 (by kernel_rfl) rfl (map_one (ev_tmp e3)) (degree_any (mg l s) _ ((PR.out.2.1 hD12))) (fun e w2 he => by obtain ⟨rfl, hb⟩ := he; exact ⟨_, rfl, _, rfl, rfl, hb, hs.trans (hb.mono hs.size)⟩)⟩
                      · intro a' w' ha hs hw
                        have eo9 : a'.tmps[9]? = some (Value.int IntKind.i64 ((D : Nat))) := (ha.rest 9 (by kernel_rfl)).trans rfl
                        exact .inl ⟨wanted_none rfl, wp_val (run_move rfl (ev_tmp eo9)) ⟨_, rfl, rfl, Below.refl _ _, hs⟩⟩
                      · intro a' w' ha hs hw
                        obtain ⟨v4, e4, q4⟩ := hw 4 (by kernel_rfl) _ _ _ rfl rfl rfl
                        obtain rfl : v4 = Value.int IntKind.i64 (sm (mg l s) 8) := q4
                        obtain ⟨v5, e5, q5⟩ := hw 5 (by kernel_rfl) _ _ _ rfl rfl rfl
                        obtain rfl : v5 = Value.int IntKind.i64 ((D : Nat)) := q5
                        exact .inl ⟨wanted_none rfl, wp_val (run_neq_int rfl (ev_tmp e4) (ev_tmp e5)) ⟨_, rfl, congrArg Value.bool (E0.out), Below.refl _ _, hs⟩⟩
                      · intro a' w' ha hs hw
                        obtain ⟨v6, e6, q6⟩ := hw 6 (by kernel_rfl) _ _ _ rfl rfl rfl
                        obtain rfl : v6 = Value.bool false := q6
                        exact .inl ⟨wanted_none rfl, wp_val (run_move rfl (ev_tmp e6)) ⟨_, rfl, rfl, Below.refl _ _, hs⟩⟩
                      · intro a' w' ha hs hw
                        obtain ⟨v7, e7, q7⟩ := hw 7 (by kernel_rfl) _ _ _ rfl rfl rfl
                        obtain rfl : v7 = Value.bool false := q7
                        have eo10 : a'.tmps[10]? = some (.slice (some ⟨b8, o8, none⟩) n10 c10) := (ha.rest 10 (by kernel_rfl)).trans rfl
                        exact .inl ⟨wanted_some rfl rfl rfl e7, wp_val (run_move rfl (ev_tmp eo10)) ⟨_, rfl, rfl, Below.refl _ _, hs⟩⟩
                      · intro a' w' ha hs hw
                        obtain ⟨v7, e7, q7⟩ := hw 7 (by kernel_rfl) _ _ _ rfl rfl rfl
                        obtain rfl : v7 = Value.bool false := q7
                        have eo18 : a'.tmps[18]? = some (Value.int IntKind.i64 ((s : Nat))) := (ha.rest 18 (by kernel_rfl)).trans rfl
                        exact .inl ⟨wanted_some rfl rfl rfl e7, wp_val (run_move rfl (ev_tmp eo18)) ⟨_, rfl, rfl, Below.refl _ _, hs⟩⟩
                      · intro a' w' ha hs hw
                        obtain ⟨v7, e7, q7⟩ := hw 7 (by kernel_rfl) _ _ _ rfl rfl rfl
                        obtain rfl : v7 = Value.bool false := q7
                        obtain ⟨v8, e8, q8⟩ := hw 8 (by kernel_rfl) _ _ _ rfl rfl rfl
                        obtain rfl : v8 = .slice (some ⟨b8, o8, none⟩) n10 c10 := q8
                        obtain ⟨v9, e9, q9⟩ := hw 9 (by kernel_rfl) _ _ _ rfl rfl rfl
                        obtain rfl : v9 = Value.int IntKind.i64 ((s : Nat)) := q9
                        exact .inl ⟨wanted_some rfl rfl rfl e7, wp_val (run_at (k := s) rfl (ev_tmp e8) (ev_tmp e9) hst) ⟨_, rfl, rfl, Below.refl _ _, hs⟩⟩
                      · intro a' w' ha hs hw
                        obtain ⟨v7, e7, q7⟩ := hw 7 (by kernel_rfl) _ _ _ rfl rfl rfl
                        obtain rfl : v7 = Value.bool false := q7
                        obtain ⟨v10, e10, q10⟩ := hw 10 (by kernel_rfl) _ _ _ rfl rfl rfl
                        obtain rfl : v10 = .pointer (some ⟨b8, o8 + s * 8, none⟩) := q10
                        exact .inl ⟨wanted_some rfl rfl rfl e7, wp_val (run_load_mid rfl (ev_tmp e10) (rangeAt_keep H2.out (hs.block _ HB.out))) ⟨_, rfl, rfl, Below.refl _ _, hs⟩⟩
                      · intro a' w' ha hs hw
                        obtain ⟨v7, e7, q7⟩ := hw 7 (by kernel_rfl) _ _ _ rfl rfl rfl
                        obtain rfl : v7 = Value.bool false := q7
                        obtain ⟨v11, e11, q11⟩ := hw 11 (by kernel_rfl) _ _ _ rfl rfl rfl
                        obtain rfl : v11 = .agg (cls (mg l s)) := q11
                        exact .inl ⟨wanted_some rfl rfl rfl e7, call_step rfl Try.func29 (by kernel_rfl) rfl (map_one (ev_tmp e11)) (valid_true (mg l s) _ (PR.out.2.1 hD12)) (fun e w2 he => by obtain ⟨rfl, hb⟩ := he; exact ⟨_, rfl, _, rfl, rfl, hb, hs.trans (hb.mono hs.size)⟩)⟩
                      · intro a' w' ha hs hw
                        obtain ⟨v7, e7, q7⟩ := hw 7 (by kernel_rfl) _ _ _ rfl rfl rfl
                        obtain rfl : v7 = Value.bool false := q7
                        obtain ⟨v12, e12, q12⟩ := hw 12 (by kernel_rfl) _ _ _ rfl rfl rfl
                        obtain rfl : v12 = Value.bool true := q12
                        exact .inl ⟨wanted_some rfl rfl rfl e7, wp_val (run_not rfl (ev_tmp e12)) ⟨_, rfl, rfl, Below.refl _ _, hs⟩⟩
                      · intro a' w' ha hs hw
                        obtain ⟨v7, e7, q7⟩ := hw 7 (by kernel_rfl) _ _ _ rfl rfl rfl
                        obtain rfl : v7 = Value.bool false := q7
                        obtain ⟨v13, e13, q13⟩ := hw 13 (by kernel_rfl) _ _ _ rfl rfl rfl
                        obtain rfl : v13 = Value.bool false := q13
                        exact .inl ⟨wanted_none rfl, wp_val (run_pick (b := false) rfl (ev_tmp e7) (ev_tmp e13)) ⟨_, rfl, rfl, Below.refl _ _, hs⟩⟩
                      · intro a' w' ha hs hw
                        obtain ⟨v14, e14, q14⟩ := hw 14 (by kernel_rfl) _ _ _ rfl rfl rfl
                        obtain rfl : v14 = Value.bool false := q14
                        exact .inl ⟨wanted_none rfl, wp_val (run_move rfl (ev_tmp e14)) ⟨_, rfl, rfl, Below.refl _ _, hs⟩⟩
                      · intro a' w' ha hs hw
                        obtain ⟨v15, e15, q15⟩ := hw 15 (by kernel_rfl) _ _ _ rfl rfl rfl
                        obtain rfl : v15 = Value.bool false := q15
                        have eo18 : a'.tmps[18]? = some (Value.int IntKind.i64 ((s : Nat))) := (ha.rest 18 (by kernel_rfl)).trans rfl
                        exact .inl ⟨wanted_some rfl rfl rfl e15, wp_val (run_move rfl (ev_tmp eo18)) ⟨_, rfl, rfl, Below.refl _ _, hs⟩⟩
                      · intro a' w' ha hs hw
                        obtain ⟨v15, e15, q15⟩ := hw 15 (by kernel_rfl) _ _ _ rfl rfl rfl
                        obtain rfl : v15 = Value.bool false := q15
                        obtain ⟨v16, e16, q16⟩ := hw 16 (by kernel_rfl) _ _ _ rfl rfl rfl
                        obtain rfl : v16 = Value.int IntKind.i64 ((s : Nat)) := q16
                        exact .inl ⟨wanted_some rfl rfl rfl e15, wp_val (run_gtr_int rfl (ev_tmp e16) rfl) ⟨_, rfl, congrArg Value.bool (E1.out), Below.refl _ _, hs⟩⟩
                      · intro a' w' ha hs hw
                        obtain ⟨v15, e15, q15⟩ := hw 15 (by kernel_rfl) _ _ _ rfl rfl rfl
                        obtain rfl : v15 = Value.bool false := q15
                        obtain ⟨v17, e17, q17⟩ := hw 17 (by kernel_rfl) _ _ _ rfl rfl rfl
                        obtain rfl : v17 = Value.bool false := q17
                        exact .inl ⟨wanted_some rfl rfl rfl e15, wp_val (run_move rfl (ev_tmp e17)) ⟨_, rfl, rfl, Below.refl _ _, hs⟩⟩
                      · intro a' w' ha hs hw
                        obtain ⟨v18, e18, q18⟩ := hw 18 (by kernel_rfl) _ _ _ rfl rfl rfl
                        obtain rfl : v18 = Value.bool false := q18
                        exact .inr ⟨wanted_off rfl rfl rfl e18 (by decide), rfl⟩
                      · intro a' w' ha hs hw
                        obtain ⟨v18, e18, q18⟩ := hw 18 (by kernel_rfl) _ _ _ rfl rfl rfl
                        obtain rfl : v18 = Value.bool false := q18
                        exact .inr ⟨wanted_off rfl rfl rfl e18 (by decide), rfl⟩
                      · intro a' w' ha hs hw
                        obtain ⟨v18, e18, q18⟩ := hw 18 (by kernel_rfl) _ _ _ rfl rfl rfl
                        obtain rfl : v18 = Value.bool false := q18
                        exact .inr ⟨wanted_off rfl rfl rfl e18 (by decide), rfl⟩
                      · intro a' w' ha hs hw
                        obtain ⟨v18, e18, q18⟩ := hw 18 (by kernel_rfl) _ _ _ rfl rfl rfl
                        obtain rfl : v18 = Value.bool false := q18
                        exact .inr ⟨wanted_off rfl rfl rfl e18 (by decide), rfl⟩
                      · intro a' w' ha hs hw
                        obtain ⟨v18, e18, q18⟩ := hw 18 (by kernel_rfl) _ _ _ rfl rfl rfl
                        obtain rfl : v18 = Value.bool false := q18
                        exact .inr ⟨wanted_off rfl rfl rfl e18 (by decide), rfl⟩
                      · intro a' w' ha hs hw
                        obtain ⟨v18, e18, q18⟩ := hw 18 (by kernel_rfl) _ _ _ rfl rfl rfl
                        obtain rfl : v18 = Value.bool false := q18
                        exact .inr ⟨wanted_off rfl rfl rfl e18 (by decide), rfl⟩
                      · intro a' w' ha hs hw
                        obtain ⟨v18, e18, q18⟩ := hw 18 (by kernel_rfl) _ _ _ rfl rfl rfl
                        obtain rfl : v18 = Value.bool false := q18
                        exact .inr ⟨wanted_off rfl rfl rfl e18 (by decide), rfl⟩
                      · intro a' w' ha hs hw
                        obtain ⟨v18, e18, q18⟩ := hw 18 (by kernel_rfl) _ _ _ rfl rfl rfl
                        obtain rfl : v18 = Value.bool false := q18
                        exact .inr ⟨wanted_off rfl rfl rfl e18 (by decide), rfl⟩
                      · intro a' w' ha hs hw
                        obtain ⟨v18, e18, q18⟩ := hw 18 (by kernel_rfl) _ _ _ rfl rfl rfl
                        obtain rfl : v18 = Value.bool false := q18
                        exact .inr ⟨wanted_off rfl rfl rfl e18 (by decide), rfl⟩
                      · intro a' w' ha hs hw
                        obtain ⟨v18, e18, q18⟩ := hw 18 (by kernel_rfl) _ _ _ rfl rfl rfl
                        obtain rfl : v18 = Value.bool false := q18
                        exact .inr ⟨wanted_off rfl rfl rfl e18 (by decide), rfl⟩
                      · intro a' w' ha hs hw
                        obtain ⟨v18, e18, q18⟩ := hw 18 (by kernel_rfl) _ _ _ rfl rfl rfl
                        obtain rfl : v18 = Value.bool false := q18
                        exact .inr ⟨wanted_off rfl rfl rfl e18 (by decide), rfl⟩
                      · intro a' w' ha hs hw
                        obtain ⟨v15, e15, q15⟩ := hw 15 (by kernel_rfl) _ _ _ rfl rfl rfl
                        obtain rfl : v15 = Value.bool false := q15
                        obtain ⟨v18, e18, q18⟩ := hw 18 (by kernel_rfl) _ _ _ rfl rfl rfl
                        obtain rfl : v18 = Value.bool false := q18
                        exact .inl ⟨wanted_some rfl rfl rfl e15, wp_val (run_pick (b := false) rfl (ev_tmp e18) rfl) ⟨_, rfl, rfl, Below.refl _ _, hs⟩⟩
                      · intro a' w' ha hs hw
                        obtain ⟨v15, e15, q15⟩ := hw 15 (by kernel_rfl) _ _ _ rfl rfl rfl
                        obtain rfl : v15 = Value.bool false := q15
                        obtain ⟨v30, e30, q30⟩ := hw 30 (by kernel_rfl) _ _ _ rfl rfl rfl
                        obtain rfl : v30 = Value.bool false := q30
                        exact .inl ⟨wanted_none rfl, wp_val (run_pick (b := false) rfl (ev_tmp e15) (ev_tmp e30)) ⟨_, rfl, rfl, Below.refl _ _, hs⟩⟩
                    simp only [allK]
                    simp only [setAll, List.set_cons_succ, List.set_cons_zero]
                    refine hK _ _ ?_
                    clear hK K
                    replace U0 := Lib.hid (U0.out.below hs U0.out.lt)
                    replace X10 := Lib.hid (X10.out.below hs)
                    replace M2 := Lib.hid (M2.out.below hs M2.out.lt)
                    replace LB := Lib.hid (below_link LB.out hs LB.out.size)
                    replace DW := Lib.hid (below_link DW.out hs DW.out.size)
                    clear hs
                    generalize wn = z4 at *
                    go_wp2_with fail
                    go_loop [19] (fun s19 => ∃ t : Nat, v ≤ t ∧ t ≤ 8 ∧ s19 = .int .i64 t) (fun s19 => 8 - (intOf s19).toNat)
                    case atStart => exact ⟨v, Nat.le_refl _, by omega, rfl⟩
                    case round =>
                      obtain ⟨t, ht1, ht2, rfl⟩ := hrel
                      by_cases htl : t < 8
                      · have c0 : z4.cell? ⟨b8, o8 + s * 8 + t, none⟩ = some (.int .i64 0) := by rw [range_at (X10.out.at_ hst) htl, PR.out.2.2 t ht1 htl]
                        have hs8 : ((s : Nat) : Int) < ((n10 : Nat) : Int) := by omega
                        go_wp2_with fail
                        go_round
                        case rel => exact ⟨t + 1, by omega, by omega, by go_num⟩
                        case measure => simp [intOf]; omega
                      · skip
                        go_wp2_with fail
                        go_quiet (fail)
                        go_wp2_with fail
                        go_roundw
                        case rel => exact ⟨s + 1, by omega, by go_num, rfl, bdrew LB.out⟩
                        case measure => simp [intOf]; omega
                  · skip
                    have E0 := Lib.hid (show (sm (mg l s) 8 != ((D : Nat) : Int)) = false by rw [PR.out.1]; simp)
                    obtain ⟨b8, o8, e8, hb8, hr8⟩ := X10.out.at_ (k := s - 1) (by omega)
                    obtain ⟨b9, o9, e9, _, hr9⟩ := X10.out.at_ hst
                    subst e8
                    cases e9
                    have H1 := Lib.hid hr8; have H2 := Lib.hid hr9; have HB := Lib.hid hb8
                    clear hr8 hr9 hb8
                    have E1 := Lib.hid (show decide ((0 : Int) < ((s : Nat) : Int)) = true by simp; omega); have E2 := Lib.hid (show CM (mg l (s - 1)) (mg l s) 1 from .inr (.inr ⟨by have := strict_at (s := l) (i := s - 1) (by rw [HL.out]; exact rs_strict v 0 D nul (by omega)) (by omega); rw [show s - 1 + 1 = s by omega] at this; exact this, rfl⟩))
                    have HI := Lib.hid (show ((s : Nat) : Int) - 1 = ((s - 1 : Nat) : Int) by omega)
                    clear hs0
                    go_wp2_with fail
                    refine region_run (fun w' => Below wp.heap.size wp w') [.is (.slice (some ⟨b8, o8, none⟩) n10 c10), .is (Value.int IntKind.i64 ((s : Nat))), .is (.pointer (some ⟨b8, o8 + s * 8, none⟩)), .is (.agg (cls (mg l s))), .is (Value.int IntKind.i64 (sm (mg l s) 8)), .is (Value.int IntKind.i64 ((D : Nat))), .is (Value.bool false), .is (Value.bool false), .is (.slice (some ⟨b8, o8, none⟩) n10 c10), .is (Value.int IntKind.i64 ((s : Nat))), .is (.pointer (some ⟨b8, o8 + s * 8, none⟩)), .is (.agg (cls (mg l s))), .is (Value.bool true), .is (Value.bool false), .is (Value.bool false), .is (Value.bool false), .is (Value.int IntKind.i64 ((s : Nat))), .is (Value.bool true), .is (Value.bool true), .is (.slice (some ⟨b8, o8, none⟩) n10 c10), .is (Value.int IntKind.i64 ((s : Nat))), .is (Value.int IntKind.i64 ((s - 1 : Nat))), .is (.pointer (some ⟨b8, o8 + (s - 1) * 8, none⟩)), .is (.agg (cls (mg l (s - 1)))), .is (.slice (some ⟨b8, o8, none⟩) n10 c10), .is (Value.int IntKind.i64 ((s : Nat))), .is (.pointer (some ⟨b8, o8 + s * 8, none⟩)), .is (.agg (cls (mg l s))), .is (Value.int IntKind.i64 (1)), .is (Value.bool false), .is (Value.bool false), .is (Value.bool false)] [102, 103, 104, 105, 106, 107, 108, 109, 110, 111, 112, 113, 114, 115, 116, 117, 118, 119, 120, 121, 122, 123, 124, 125, 126, 127, 128, 129, 130, 131, 132, 133] (by kernel_rfl) (by kernel_rfl) (by kernel_rfl) (by rfl) (by kernel_rfl) ((Below.refl _ _).drew) (fun Q' => ?_) (fun K hK wn hs => ?_)
                    · refine ⟨?_, ?_, ?_, ?_, ?_, ?_, ?_, ?_, ?_, ?_, ?_, ?_, ?_, ?_, ?_, ?_, ?_, ?_, ?_, ?_, ?_, ?_, ?_, ?_, ?_, ?_, ?_, ?_, ?_, ?_, ?_, ?_, trivial⟩
                      · intro a' w' ha hs hw
                        have eo10 : a'.tmps[10]? = some (.slice (some ⟨b8, o8, none⟩) n10 c10) := (ha.rest 10 (by kernel_rfl)).trans rfl
                        exact .inl ⟨wanted_none rfl, wp_val (run_move rfl (ev_tmp eo10)) ⟨_, rfl, rfl, Below.refl _ _, hs⟩⟩
                      · intro a' w' ha hs hw
                        have eo18 : a'.tmps[18]? = some (Value.int IntKind.i64 ((s : Nat))) := (ha.rest 18 (by kernel_rfl)).trans rfl
                        exact .inl ⟨wanted_none rfl, wp_val (run_move rfl (ev_tmp eo18)) ⟨_, rfl, rfl, Below.refl _ _, hs⟩⟩
                      · intro a' w' ha hs hw
                        obtain ⟨v0, e0, q0⟩ := hw 0 (by kernel_rfl) _ _ _ rfl rfl rfl
                        obtain rfl : v0 = .slice (some ⟨b8, o8, none⟩) n10 c10 := q0
                        obtain ⟨v1, e1, q1⟩ := hw 1 (by kernel_rfl) _ _ _ rfl rfl rfl
                        obtain rfl : v1 = Value.int IntKind.i64 ((s : Nat)) := q1
                        exact .inl ⟨wanted_none rfl, wp_val (run_at (k := s) rfl (ev_tmp e0) (ev_tmp e1) hst) ⟨_, rfl, rfl, Below.refl _ _, hs⟩⟩
                      · intro a' w' ha hs hw
                        obtain ⟨v2, e2, q2⟩ := hw 2 (by kernel_rfl) _ _ _ rfl rfl rfl
                        obtain rfl : v2 = .pointer (some ⟨b8, o8 + s * 8, none⟩) := q2
                        exact .inl ⟨wanted_none rfl, wp_val (run_load_mid rfl (ev_tmp e2) (rangeAt_keep H2.out (hs.block _ HB.out))) ⟨_, rfl, rfl, Below.refl _ _, hs⟩⟩
                      · intro a' w' ha hs hw
                        obtain ⟨v3, e3, q3⟩ := hw 3 (by kernel_rfl) _ _ _ rfl rfl rfl
                        obtain rfl : v3 = .agg (cls (mg l s)) := q3
                        exact .inl ⟨wanted_none rfl, call_step rfl Try.func25 (by kernel_rfl) rfl (map_one (ev_tmp e3)) (degree_any (mg l s) _ ((PR.out.2.1 hD12))) (fun e w2 he => by obtain ⟨rfl, hb⟩ := he; exact ⟨_, rfl, _, rfl, rfl, hb, hs.trans (hb.mono hs.size)⟩)⟩
                      · intro a' w' ha hs hw
                        have eo9 : a'.tmps[9]? = some (Value.int IntKind.i64 ((D : Nat))) := (ha.rest 9 (by kernel_rfl)).trans rfl
                        exact .inl ⟨wanted_none rfl, wp_val (run_move rfl (ev_tmp eo9)) ⟨_, rfl, rfl, Below.refl _ _, hs⟩⟩
                      · intro a' w' ha hs hw
                        obtain ⟨v4, e4, q4⟩ := hw 4 (by kernel_rfl) _ _ _ rfl rfl rfl
                        obtain rfl : v4 = Value.int IntKind.i64 (sm (mg l s) 8) := q4
                        obtain ⟨v5, e5, q5⟩ := hw 5 (by kernel_rfl) _ _ _ rfl rfl rfl
                        obtain rfl : v5 = Value.int IntKind.i64 ((D : Nat)) := q5
                        exact .inl ⟨wanted_none rfl, wp_val (run_neq_int rfl (ev_tmp e4) (ev_tmp e5)) ⟨_, rfl, congrArg Value.bool (E0.out), Below.refl _ _, hs⟩⟩
                      · intro a' w' ha hs hw
                        obtain ⟨v6, e6, q6⟩ := hw 6 (by kernel_rfl) _ _ _ rfl rfl rfl
                        obtain rfl : v6 = Value.bool false := q6
                        exact .inl ⟨wanted_none rfl, wp_val (run_move rfl (ev_tmp e6)) ⟨_, rfl, rfl, Below.refl _ _, hs⟩⟩
                      · intro a' w' ha hs hw
                        obtain ⟨v7, e7, q7⟩ := hw 7 (by kernel_rfl) _ _ _ rfl rfl rfl
                        obtain rfl : v7 = Value.bool false := q7
                        have eo10 : a'.tmps[10]? = some (.slice (some ⟨b8, o8, none⟩) n10 c10) := (ha.rest 10 (by kernel_rfl)).trans rfl
                        exact .inl ⟨wanted_some rfl rfl rfl e7, wp_val (run_move rfl (ev_tmp eo10)) ⟨_, rfl, rfl, Below.refl _ _, hs⟩⟩
                      · intro a' w' ha hs hw
                        obtain ⟨v7, e7, q7⟩ := hw 7 (by kernel_rfl) _ _ _ rfl rfl rfl
                        obtain rfl : v7 = Value.bool false := q7
                        have eo18 : a'.tmps[18]? = some (Value.int IntKind.i64 ((s : Nat))) := (ha.rest 18 (by kernel_rfl)).trans rfl
                        exact .inl ⟨wanted_some rfl rfl rfl e7, wp_val (run_move rfl (ev_tmp eo18)) ⟨_, rfl, rfl, Below.refl _ _, hs⟩⟩
                      · intro a' w' ha hs hw
                        obtain ⟨v7, e7, q7⟩ := hw 7 (by kernel_rfl) _ _ _ rfl rfl rfl
                        obtain rfl : v7 = Value.bool false := q7
                        obtain ⟨v8, e8, q8⟩ := hw 8 (by kernel_rfl) _ _ _ rfl rfl rfl
                        obtain rfl : v8 = .slice (some ⟨b8, o8, none⟩) n10 c10 := q8
                        obtain ⟨v9, e9, q9⟩ := hw 9 (by kernel_rfl) _ _ _ rfl rfl rfl
                        obtain rfl : v9 = Value.int IntKind.i64 ((s : Nat)) := q9
                        exact .inl ⟨wanted_some rfl rfl rfl e7, wp_val (run_at (k := s) rfl (ev_tmp e8) (ev_tmp e9) hst) ⟨_, rfl, rfl, Below.refl _ _, hs⟩⟩
                      · intro a' w' ha hs hw
                        obtain ⟨v7, e7, q7⟩ := hw 7 (by kernel_rfl) _ _ _ rfl rfl rfl
                        obtain rfl : v7 = Value.bool false := q7
                        obtain ⟨v10, e10, q10⟩ := hw 10 (by kernel_rfl) _ _ _ rfl rfl rfl
                        obtain rfl : v10 = .pointer (some ⟨b8, o8 + s * 8, none⟩) := q10
                        exact .inl ⟨wanted_some rfl rfl rfl e7, wp_val (run_load_mid rfl (ev_tmp e10) (rangeAt_keep H2.out (hs.block _ HB.out))) ⟨_, rfl, rfl, Below.refl _ _, hs⟩⟩
                      · intro a' w' ha hs hw
                        obtain ⟨v7, e7, q7⟩ := hw 7 (by kernel_rfl) _ _ _ rfl rfl rfl
                        obtain rfl : v7 = Value.bool false := q7
                        obtain ⟨v11, e11, q11⟩ := hw 11 (by kernel_rfl) _ _ _ rfl rfl rfl
                        obtain rfl : v11 = .agg (cls (mg l s)) := q11
                        exact .inl ⟨wanted_some rfl rfl rfl e7, call_step rfl Try.func29 (by kernel_rfl) rfl (map_one (ev_tmp e11)) (valid_true (mg l s) _ (PR.out.2.1 hD12)) (fun e w2 he => by obtain ⟨rfl, hb⟩ := he; exact ⟨_, rfl, _, rfl, rfl, hb, hs.trans (hb.mono hs.size)⟩)⟩
                      · intro a' w' ha hs hw
                        obtain ⟨v7, e7, q7⟩ := hw 7 (by kernel_rfl) _ _ _ rfl rfl rfl
                        obtain rfl : v7 = Value.bool false := q7
                        obtain ⟨v12, e12, q12⟩ := hw 12 (by kernel_rfl) _ _ _ rfl rfl rfl
                        obtain rfl : v12 = Value.bool true := q12
                        exact .inl ⟨wanted_some rfl rfl rfl e7, wp_val (run_not rfl (ev_tmp e12)) ⟨_, rfl, rfl, Below.refl _ _, hs⟩⟩
                      · intro a' w' ha hs hw
                        obtain ⟨v7, e7, q7⟩ := hw 7 (by kernel_rfl) _ _ _ rfl rfl rfl
                        obtain rfl : v7 = Value.bool false := q7
                        obtain ⟨v13, e13, q13⟩ := hw 13 (by kernel_rfl) _ _ _ rfl rfl rfl
                        obtain rfl : v13 = Value.bool false := q13
                        exact .inl ⟨wanted_none rfl, wp_val (run_pick (b := false) rfl (ev_tmp e7) (ev_tmp e13)) ⟨_, rfl, rfl, Below.refl _ _, hs⟩⟩
                      · intro a' w' ha hs hw
                        obtain ⟨v14, e14, q14⟩ := hw 14 (by kernel_rfl) _ _ _ rfl rfl rfl
                        obtain rfl : v14 = Value.bool false := q14
                        exact .inl ⟨wanted_none rfl, wp_val (run_move rfl (ev_tmp e14)) ⟨_, rfl, rfl, Below.refl _ _, hs⟩⟩
                      · intro a' w' ha hs hw
                        obtain ⟨v15, e15, q15⟩ := hw 15 (by kernel_rfl) _ _ _ rfl rfl rfl
                        obtain rfl : v15 = Value.bool false := q15
                        have eo18 : a'.tmps[18]? = some (Value.int IntKind.i64 ((s : Nat))) := (ha.rest 18 (by kernel_rfl)).trans rfl
                        exact .inl ⟨wanted_some rfl rfl rfl e15, wp_val (run_move rfl (ev_tmp eo18)) ⟨_, rfl, rfl, Below.refl _ _, hs⟩⟩
                      · intro a' w' ha hs hw
                        obtain ⟨v15, e15, q15⟩ := hw 15 (by kernel_rfl) _ _ _ rfl rfl rfl
                        obtain rfl : v15 = Value.bool false := q15
                        obtain ⟨v16, e16, q16⟩ := hw 16 (by kernel_rfl) _ _ _ rfl rfl rfl
                        obtain rfl : v16 = Value.int IntKind.i64 ((s : Nat)) := q16
                        exact .inl ⟨wanted_some rfl rfl rfl e15, wp_val (run_gtr_int rfl (ev_tmp e16) rfl) ⟨_, rfl, congrArg Value.bool (E1.out), Below.refl _ _, hs⟩⟩
                      · intro a' w' ha hs hw
                        obtain ⟨v15, e15, q15⟩ := hw 15 (by kernel_rfl) _ _ _ rfl rfl rfl
                        obtain rfl : v15 = Value.bool false := q15
                        obtain ⟨v17, e17, q17⟩ := hw 17 (by kernel_rfl) _ _ _ rfl rfl rfl
                        obtain rfl : v17 = Value.bool true := q17
                        exact .inl ⟨wanted_some rfl rfl rfl e15, wp_val (run_move rfl (ev_tmp e17)) ⟨_, rfl, rfl, Below.refl _ _, hs⟩⟩
                      · intro a' w' ha hs hw
                        obtain ⟨v18, e18, q18⟩ := hw 18 (by kernel_rfl) _ _ _ rfl rfl rfl
                        obtain rfl : v18 = Value.bool true := q18
                        have eo10 : a'.tmps[10]? = some (.slice (some ⟨b8, o8, none⟩) n10 c10) := (ha.rest 10 (by kernel_rfl)).trans rfl
                        exact .inl ⟨wanted_some rfl rfl rfl e18, wp_val (run_move rfl (ev_tmp eo10)) ⟨_, rfl, rfl, Below.refl _ _, hs⟩⟩
                      · intro a' w' ha hs hw
                        obtain ⟨v18, e18, q18⟩ := hw 18 (by kernel_rfl) _ _ _ rfl rfl rfl
                        obtain rfl : v18 = Value.bool true := q18
                        have eo18 : a'.tmps[18]? = some (Value.int IntKind.i64 ((s : Nat))) := (ha.rest 18 (by kernel_rfl)).trans rfl
                        exact .inl ⟨wanted_some rfl rfl rfl e18, wp_val (run_move rfl (ev_tmp eo18)) ⟨_, rfl, rfl, Below.refl _ _, hs⟩⟩
                      · intro a' w' ha hs hw
                        obtain ⟨v18, e18, q18⟩ := hw 18 (by kernel_rfl) _ _ _ rfl rfl rfl
                        obtain rfl : v18 = Value.bool true := q18
                        obtain ⟨v20, e20, q20⟩ := hw 20 (by kernel_rfl) _ _ _ rfl rfl rfl
                        obtain rfl : v20 = Value.int IntKind.i64 ((s : Nat)) := q20
                        exact .inl ⟨wanted_some rfl rfl rfl e18, wp_val (run_sub_int rfl (ev_tmp e20) rfl (by omega) (by omega)) ⟨_, rfl, congrArg (Value.int IntKind.i64) (HI.out), Below.refl _ _, hs⟩⟩
                      · intro a' w' ha hs hw
                        obtain ⟨v18, e18, q18⟩ := hw 18 (by kernel_rfl) _ _ _ rfl rfl rfl
                        obtain rfl : v18 = Value.bool true := q18
                        obtain ⟨v19, e19, q19⟩ := hw 19 (by kernel_rfl) _ _ _ rfl rfl rfl
                        obtain rfl : v19 = .slice (some ⟨b8, o8, none⟩) n10 c10 := q19
                        obtain ⟨v21, e21, q21⟩ := hw 21 (by kernel_rfl) _ _ _ rfl rfl rfl
                        obtain rfl : v21 = Value.int IntKind.i64 ((s - 1 : Nat)) := q21
                        exact .inl ⟨wanted_some rfl rfl rfl e18, wp_val (run_at (k := (s - 1)) rfl (ev_tmp e19) (ev_tmp e21) (by omega)) ⟨_, rfl, rfl, Below.refl _ _, hs⟩⟩
                      · intro a' w' ha hs hw
                        obtain ⟨v18, e18, q18⟩ := hw 18 (by kernel_rfl) _ _ _ rfl rfl rfl
                        obtain rfl : v18 = Value.bool true := q18
                        obtain ⟨v22, e22, q22⟩ := hw 22 (by kernel_rfl) _ _ _ rfl rfl rfl
                        obtain rfl : v22 = .pointer (some ⟨b8, o8 + (s - 1) * 8, none⟩) := q22
                        exact .inl ⟨wanted_some rfl rfl rfl e18, wp_val (run_load_mid rfl (ev_tmp e22) (rangeAt_keep H1.out (hs.block _ HB.out))) ⟨_, rfl, rfl, Below.refl _ _, hs⟩⟩
                      · intro a' w' ha hs hw
                        obtain ⟨v18, e18, q18⟩ := hw 18 (by kernel_rfl) _ _ _ rfl rfl rfl
                        obtain rfl : v18 = Value.bool true := q18
                        have eo10 : a'.tmps[10]? = some (.slice (some ⟨b8, o8, none⟩) n10 c10) := (ha.rest 10 (by kernel_rfl)).trans rfl
                        exact .inl ⟨wanted_some rfl rfl rfl e18, wp_val (run_move rfl (ev_tmp eo10)) ⟨_, rfl, rfl, Below.refl _ _, hs⟩⟩
                      · intro a' w' ha hs hw
                        obtain ⟨v18, e18, q18⟩ := hw 18 (by kernel_rfl) _ _ _ rfl rfl rfl
                        obtain rfl : v18 = Value.bool true := q18
                        have eo18 : a'.tmps[18]? = some (Value.int IntKind.i64 ((s : Nat))) := (ha.rest 18 (by kernel_rfl)).trans rfl
                        exact .inl ⟨wanted_some rfl rfl rfl e18, wp_val (run_move rfl (ev_tmp eo18)) ⟨_, rfl, rfl, Below.refl _ _, hs⟩⟩
                      · intro a' w' ha hs hw
                        obtain ⟨v18, e18, q18⟩ := hw 18 (by kernel_rfl) _ _ _ rfl rfl rfl
                        obtain rfl : v18 = Value.bool true := q18
                        obtain ⟨v24, e24, q24⟩ := hw 24 (by kernel_rfl) _ _ _ rfl rfl rfl
                        obtain rfl : v24 = .slice (some ⟨b8, o8, none⟩) n10 c10 := q24
                        obtain ⟨v25, e25, q25⟩ := hw 25 (by kernel_rfl) _ _ _ rfl rfl rfl
                        obtain rfl : v25 = Value.int IntKind.i64 ((s : Nat)) := q25
                        exact .inl ⟨wanted_some rfl rfl rfl e18, wp_val (run_at (k := s) rfl (ev_tmp e24) (ev_tmp e25) hst) ⟨_, rfl, rfl, Below.refl _ _, hs⟩⟩
                      · intro a' w' ha hs hw
                        obtain ⟨v18, e18, q18⟩ := hw 18 (by kernel_rfl) _ _ _ rfl rfl rfl
                        obtain rfl : v18 = Value.bool true := q18
                        obtain ⟨v26, e26, q26⟩ := hw 26 (by kernel_rfl) _ _ _ rfl rfl rfl
                        obtain rfl : v26 = .pointer (some ⟨b8, o8 + s * 8, none⟩) := q26
                        exact .inl ⟨wanted_some rfl rfl rfl e18, wp_val (run_load_mid rfl (ev_tmp e26) (rangeAt_keep H2.out (hs.block _ HB.out))) ⟨_, rfl, rfl, Below.refl _ _, hs⟩⟩
                      · intro a' w' ha hs hw
                        obtain ⟨v18, e18, q18⟩ := hw 18 (by kernel_rfl) _ _ _ rfl rfl rfl
                        obtain rfl : v18 = Value.bool true := q18
                        obtain ⟨v23, e23, q23⟩ := hw 23 (by kernel_rfl) _ _ _ rfl rfl rfl
                        obtain rfl : v23 = .agg (cls (mg l (s - 1))) := q23
                        obtain ⟨v27, e27, q27⟩ := hw 27 (by kernel_rfl) _ _ _ rfl rfl rfl
                        obtain rfl : v27 = .agg (cls (mg l s)) := q27
                        exact .inl ⟨wanted_some rfl rfl rfl e18, call_step rfl Try.func19 (by kernel_rfl) rfl (map_two (ev_tmp e23) (ev_tmp e27)) (cmp_is (mg l (s - 1)) (mg l s) (1) _ (E2.out)) (fun e w2 he => by obtain ⟨rfl, hb⟩ := he; exact ⟨_, rfl, _, rfl, rfl, hb, hs.trans (hb.mono hs.size)⟩)⟩
                      · intro a' w' ha hs hw
                        obtain ⟨v18, e18, q18⟩ := hw 18 (by kernel_rfl) _ _ _ rfl rfl rfl
                        obtain rfl : v18 = Value.bool true := q18
                        obtain ⟨v28, e28, q28⟩ := hw 28 (by kernel_rfl) _ _ _ rfl rfl rfl
                        obtain rfl : v28 = Value.int IntKind.i64 (1) := q28
                        exact .inl ⟨wanted_some rfl rfl rfl e18, wp_val (run_leq_int rfl (ev_tmp e28) rfl) ⟨_, rfl, congrArg Value.bool (by decide), Below.refl _ _, hs⟩⟩
                      · intro a' w' ha hs hw
                        obtain ⟨v15, e15, q15⟩ := hw 15 (by kernel_rfl) _ _ _ rfl rfl rfl
                        obtain rfl : v15 = Value.bool false := q15
                        obtain ⟨v18, e18, q18⟩ := hw 18 (by kernel_rfl) _ _ _ rfl rfl rfl
                        obtain rfl : v18 = Value.bool true := q18
                        obtain ⟨v29, e29, q29⟩ := hw 29 (by kernel_rfl) _ _ _ rfl rfl rfl
                        obtain rfl : v29 = Value.bool false := q29
                        exact .inl ⟨wanted_some rfl rfl rfl e15, wp_val (run_pick (b := true) rfl (ev_tmp e18) (ev_tmp e29)) ⟨_, rfl, rfl, Below.refl _ _, hs⟩⟩
                      · intro a' w' ha hs hw
                        obtain ⟨v15, e15, q15⟩ := hw 15 (by kernel_rfl) _ _ _ rfl rfl rfl
                        obtain rfl : v15 = Value.bool false := q15
                        obtain ⟨v30, e30, q30⟩ := hw 30 (by kernel_rfl) _ _ _ rfl rfl rfl
                        obtain rfl : v30 = Value.bool false := q30
                        exact .inl ⟨wanted_none rfl, wp_val (run_pick (b := false) rfl (ev_tmp e15) (ev_tmp e30)) ⟨_, rfl, rfl, Below.refl _ _, hs⟩⟩
                    simp only [allK]
                    simp only [setAll, List.set_cons_succ, List.set_cons_zero]
                    refine hK _ _ ?_
                    clear hK K
                    replace U0 := Lib.hid (U0.out.below hs U0.out.lt)
                    replace X10 := Lib.hid (X10.out.below hs)
                    replace M2 := Lib.hid (M2.out.below hs M2.out.lt)
                    replace LB := Lib.hid (below_link LB.out hs LB.out.size)
                    replace DW := Lib.hid (below_link DW.out hs DW.out.size)
                    clear hs
                    generalize wn = z4 at *
                    go_wp2_with fail
                    go_loop [19] (fun s19 => ∃ t : Nat, v ≤ t ∧ t ≤ 8 ∧ s19 = .int .i64 t) (fun s19 => 8 - (intOf s19).toNat)
                    case atStart => exact ⟨v, Nat.le_refl _, by omega, rfl⟩
                    case round =>
                      obtain ⟨t, ht1, ht2, rfl⟩ := hrel
                      by_cases htl : t < 8
                      · have c0 : z4.cell? ⟨b8, o8 + s * 8 + t, none⟩ = some (.int .i64 0) := by rw [range_at (X10.out.at_ hst) htl, PR.out.2.2 t ht1 htl]
                        have hs8 : ((s : Nat) : Int) < ((n10 : Nat) : Int) := by omega
                        go_wp2_with fail
                        go_round
                        case rel => exact ⟨t + 1, by omega, by omega, by go_num⟩
                        case measure => simp [intOf]; omega
                      · skip
                        go_wp2_with fail
                        go_quiet (fail)
                        go_wp2_with fail
                        go_roundw
                        case rel => exact ⟨s + 1, by omega, by go_num, rfl, bdrew LB.out⟩
                        case measure => simp [intOf]; omega
                · go_wp2_with fail
                  go_ret
                  exact ⟨rfl, DW.out⟩
end Go.Proofs.Ytchkaaeipafdnaa
