/-
  The reference's Ints.
-/
import Derived.Test.YtfigimfdojbkeaaGreatRatN
import Derived.Deep.DeepCutAuto
import Derived.Handy
set_option linter.unusedSimpArgs false
set_option linter.unusedVariables false
namespace Go.Proofs.YtfigimfdojbkeaaGreat
open Go.RowKit
attribute [local go_sem ↓] Go.wp_at_zero Go.wp_at_succ

set_option maxHeartbeats 8000000 in
set_option maxRecDepth 100000 in
theorem ints_any (b : Bool) (A : Option Addr) (n c : Nat) (ws : List Nat) (w : World) (h : Wd w A n ws) (hnc : n ≤ c) (hc : c ≤ 9223372036854775807) : Calls Tryz.prog 50 #[.agg #[.bool b, .slice A n c]] w (RetIv (sgn b (val (ws.take 12))) w) := by
  obtain ⟨M, hM⟩ : ∃ M, M = min n 12 := ⟨_, rfl⟩
  have hMn : M ≤ n := by omega
  have hM12 : M ≤ 12 := by omega
  obtain ⟨ts, hts⟩ : ∃ t, ws.take M = t := ⟨_, rfl⟩
  have HT0 : Wd w A M ts := hts ▸ wd_take h hMn
  have e12 : ws.take 12 = ts := by
    rw [← hts]
    rcases Nat.lt_or_ge n 12 with k | k
    · rw [List.take_of_length_le (by rw [h.len]; omega), List.take_of_length_le (by rw [h.len]; omega)]
    · rw [show M = 12 by omega]
  rw [e12]
  have HMM : Hid (min (n : Int) 12 = (M : Int)) := by unfold Hid; omega
  clear hts e12 hM h
  replace HT0 := Lib.hid HT0
  go_enter Tryz.func50, Tryz.ntmps50
  go_wp2_with fail
  obtain ⟨W, hW⟩ : ∃ W, W = (w.alloc (Obj.cells #[Value.bool b, Value.slice A n c] 29)).alloc (Obj.cells #[Value.bool false, Value.slice none 0 0] 29) := ⟨_, rfl⟩
  rw [← hW]
  have BXa : Hid (Box W w.heap.size b (.slice A n c)) := by rw [hW]; have := (Box.new w b (.slice A n c)).alloc (Obj.cells #[Value.bool false, Value.slice none 0 0] 29); simpa [Hid] using this
  have RXr : Hid (Box W (w.heap.size + 1) false (.slice none 0 0)) := by rw [hW]; have := Box.new (w.alloc (Obj.cells #[Value.bool b, Value.slice A n c] 29)) false (.slice none 0 0); simpa [Hid] using this
  have HT : Hid (Wd W A M ts) := by rw [hW]; exact (HT0.out.alloc _).alloc _
  have DW : Hid (Below w.heap.size w W) := by rw [hW]; exact ((Below.refl _ _).alloc (by simp <;> omega) _).alloc (by simp <;> omega) _
  clear hW HT0
  generalize hg : w.heap.size = g at *
  replace hg := Lib.hid hg
  have c0 := BXa.out.cell0
  have c1 := BXa.out.cell1
  go_wp2_with fail
  rw [HMM.out]
  go_loop [3] (fun v => ∃ m : Nat, m ≤ M ∧ v = .int .i64 m ∧ TrimRel M ts m) (fun v => (intOf v).toNat)
  case atStart => exact ⟨M, Nat.le_refl _, rfl, fun k h1 h2 => by omega⟩
  case round =>
    obtain ⟨m, hm, rfl, hz⟩ := hrel
    have HZ := Lib.hid hz
    clear hz
    by_cases hpos : 0 < m
    · obtain ⟨ad, rfl, _, hcell⟩ := HT.out.cell (show m - 1 < M by omega)
      obtain ⟨m, rfl⟩ : ∃ m', m = m' + 1 := ⟨m - 1, by omega⟩
      rw [Nat.add_sub_cancel] at hcell
      by_cases hx : gd ts m = 0
      · rw [hx] at hcell
        have HX := Lib.hid hx
        clear hx
        go_wp2
        go_round
        case rel => exact ⟨m, by omega, rfl, fun k h1 h2 => by
          rcases Nat.eq_or_lt_of_le h1 with e | e
          · rw [← e]; exact HX.out
          · exact HZ.out k e h2⟩
        case measure => simp [intOf] <;> omega
      · have hx2 : (((gd ts m : Nat) : Int) == 0) = false := by rw [beq_eq_false_iff_ne]; omega
        have HX := Lib.hid hx
        clear hx
        have hcan : ts.take (m + 1) = mag (val ts) := trim_done HT.out.wds HT.out.len (by omega) HZ.out (.inr (by simpa using HX.out))
        have HV : Hid (Wd W (some ad) (m + 1) (mag (val ts))) := by rw [← hcan]; exact wd_take HT.out (by omega)
        have HL : Hid (m + 1 ≤ 12) := by unfold Hid; omega
        have HLn : Hid (m + 1 ≤ n) := by unfold Hid; omega
        replace hcan := Lib.hid hcan
        obtain ⟨z, hz⟩ : ∃ z, sgn b (val ts) = z := ⟨_, rfl⟩
        rw [hz]
        have HN : Hid (mag (val ts) = mag z.natAbs) := by rw [← hz]; cases b <;> simp [sgn, Hid]
        have HP : Hid (0 < val ts) := by
          have h1 := congrArg List.length hcan.out
          rw [List.length_take, HT.out.len] at h1
          rcases Nat.eq_zero_or_pos (val ts) with e | e
          · rw [e, mag_zero] at h1; simp at h1; omega
          · exact e
        replace hz := Lib.hid hz
        cases b
        · have HB : Hid (false = decide (z < 0)) := by
            have h1 := hz.out; have h2 := HP.out
            rw [sgn] at h1
            simp at h1
            unfold Hid
            symm
            simp
            omega
          go_upto_region 4 with fail
          refine Rg.region_gg W [.is (.pointer (some ⟨g, 0, none⟩)), .is (.bool false), .is (.bool false), .is (undef), .is (undef), .is (Value.bool false), .own (pRow) (pRow_keep), .is (.pointer (some ⟨g, 1, none⟩)), .is (.slice (some ad) n c), .is (.int .i64 ((m + 1 : Nat) : Int)), .is (.slice (some ad) (m + 1) c), .sat (pWd (mag (val ts))) (pWd_keep _), .sat (pIv (z)) (pIv_keep _), .sto (g + 1) (sI (g + 1) (z)) (sI_keep _ _)] [(g + 1)] [some 21, some 22, some 23, some 24, some 25, some 26, some 27, some 28, some 29, some 30, some 31, some 32, some 33, none] (by kernel_rfl) (by kernel_rfl) (by kernel_rfl) (by kernel_rfl) (by kernel_rfl) (by simp [Rg.stos]) (by rfl) (by rfl) (by kernel_rfl) (by intro g hg; simp only [List.mem_cons, List.not_mem_nil, or_false] at hg; subst hg; exact RXr.out.lt) ((Below.refl _ _).drew) (fun Q' => ?_) (fun K hK wn hs => ?_)
          · refine ⟨?_, ?_, ?_, ?_, ?_, ?_, ?_, ?_, ?_, ?_, ?_, ?_, ?_, ?_, trivial⟩
            · intro a' w' ha hs hw hold
              have eo1 : a'.tmps[1]? = some (ptr g) := (ha.rest 1 (by kernel_rfl)).trans rfl
              exact ⟨rfl, .inl ⟨wanted_none rfl, wp_val (run_ifield0 rfl (ev_tmp eo1)) ⟨rfl, Below.refl _ _⟩⟩⟩
            · intro a' w' ha hs hw hold
              have e0 : a'.tmps[21]? = some (.pointer (some ⟨g, 0, none⟩)) := Rg.slot_get rfl rfl (hw 0 (by kernel_rfl) _ rfl)
              exact ⟨rfl, .inl ⟨wanted_none rfl, wp_val (run_loadb rfl (ev_tmp e0) (BXa.out.bel hs (by simp)).cell0) ⟨rfl, Below.refl _ _⟩⟩⟩
            · intro a' w' ha hs hw hold
              have e1 : a'.tmps[22]? = some (.bool false) := Rg.slot_get rfl rfl (hw 1 (by kernel_rfl) _ rfl)
              exact ⟨rfl, .inl ⟨wanted_none rfl, wp_val (run_move rfl (ev_tmp e1)) ⟨rfl, Below.refl _ _⟩⟩⟩
            · intro a' w' ha hs hw hold
              have e2 : a'.tmps[23]? = some (.bool false) := Rg.slot_get rfl rfl (hw 2 (by kernel_rfl) _ rfl)
              exact ⟨rfl, .inr ⟨wanted_off rfl rfl rfl e2 (by decide), rfl⟩⟩
            · intro a' w' ha hs hw hold
              have e2 : a'.tmps[23]? = some (.bool false) := Rg.slot_get rfl rfl (hw 2 (by kernel_rfl) _ rfl)
              exact ⟨rfl, .inr ⟨wanted_off rfl rfl rfl e2 (by decide), rfl⟩⟩
            · intro a' w' ha hs hw hold
              have e2 : a'.tmps[23]? = some (.bool false) := Rg.slot_get rfl rfl (hw 2 (by kernel_rfl) _ rfl)
              exact ⟨rfl, .inl ⟨wanted_none rfl, wp_val (run_pick (b := false) rfl (ev_tmp e2) rfl) ⟨rfl, Below.refl _ _⟩⟩⟩
            · intro a' w' ha hs hw hold
              exact ⟨rfl, wanted_none rfl, step_row rfl⟩
            · intro a' w' ha hs hw hold
              have eo1 : a'.tmps[1]? = some (ptr g) := (ha.rest 1 (by kernel_rfl)).trans rfl
              exact ⟨rfl, .inl ⟨wanted_none rfl, wp_val (run_ifield1 rfl (ev_tmp eo1)) ⟨rfl, Below.refl _ _⟩⟩⟩
            · intro a' w' ha hs hw hold
              have e7 : a'.tmps[28]? = some (.pointer (some ⟨g, 1, none⟩)) := Rg.slot_get rfl rfl (hw 7 (by kernel_rfl) _ rfl)
              exact ⟨rfl, .inl ⟨wanted_none rfl, wp_val (run_loads rfl (ev_tmp e7) (BXa.out.bel hs (by simp)).cell1) ⟨rfl, Below.refl _ _⟩⟩⟩
            · intro a' w' ha hs hw hold
              have eo3 : a'.tmps[3]? = some (.int .i64 ((m + 1 : Nat) : Int)) := (ha.rest 3 (by kernel_rfl)).trans rfl
              exact ⟨rfl, .inl ⟨wanted_none rfl, wp_val (run_move rfl (ev_tmp eo3)) ⟨rfl, Below.refl _ _⟩⟩⟩
            · intro a' w' ha hs hw hold
              have e8 : a'.tmps[29]? = some (.slice (some ad) n c) := Rg.slot_get rfl rfl (hw 8 (by kernel_rfl) _ rfl)
              have e9 : a'.tmps[30]? = some (.int .i64 ((m + 1 : Nat) : Int)) := Rg.slot_get rfl rfl (hw 9 (by kernel_rfl) _ rfl)
              exact ⟨rfl, .inl ⟨wanted_none rfl, wp_val (run_slicel rfl (ev_tmp e8) (ev_tmp e9) (by have := HLn.out; omega)) ⟨rfl, Below.refl _ _⟩⟩⟩
            · intro a' w' ha hs hw hold
              obtain ⟨v6, g6, h6, q6⟩ := hw 6 (by kernel_rfl) _ rfl
              have e6 : a'.tmps[27]? = some v6 := Rg.slot_get rfl rfl h6.1
              replace q6 := q6 (by kernel_rfl)
              have e10 : a'.tmps[31]? = some (.slice (some ad) (m + 1) c) := Rg.slot_get rfl rfl (hw 10 (by kernel_rfl) _ rfl)
              exact ⟨rfl, wanted_none rfl, step_grow rfl (ev_tmp e6) q6 (ev_tmp e10) (wd_kn HV.out hs.kn) (by have := HL.out; omega)⟩
            · intro a' w' ha hs hw hold
              have e5 : a'.tmps[26]? = some (Value.bool false) := Rg.slot_get rfl rfl (hw 5 (by kernel_rfl) _ rfl)
              obtain ⟨v11, e11, q11⟩ := hw 11 (by kernel_rfl) _ rfl
              replace e11 : a'.tmps[32]? = some v11 := Rg.slot_get rfl rfl e11
              exact ⟨rfl, wanted_none rfl, step_int rfl (ev_tmp e5) (ev_tmp e11) q11 HN.out HB.out⟩
            · intro a' w' ha hs hw hold
              obtain ⟨v12, e12, q12⟩ := hw 12 (by kernel_rfl) _ rfl
              replace e12 : a'.tmps[33]? = some v12 := Rg.slot_get rfl rfl e12
              have eo2 : a'.tmps[2]? = some (ptr (g + 1)) := (ha.rest 2 (by kernel_rfl)).trans rfl
              exact ⟨rfl, wanted_none rfl, fun he => step_stoi rfl rfl (ev_tmp eo2) (ev_tmp e12) q12 RXr.out he⟩
          simp only [Rg.allG]
          intro r1x6 _ _ _ _ _ _
          intro r1x11 _
          intro r1x12 _
          intro hSr
          simp only [setOpt, Rg.setOpt, List.set_cons_succ, List.set_cons_zero]
          refine hK _ _ ?_
          clear hK K
          have DN : Hid (Below g w wn) := hs.base DW.out (by have := hg.out; omega) (by simp only [List.mem_cons, List.not_mem_nil, or_false]; omega)
          obtain ⟨Ar, ir, cr, hcr, hir⟩ := hSr
          have kra := hcr.cell0; have krb := hcr.cell1
          have HIr := Lib.hid hir; clear hir
          go_wp2
          exact bodyPost_ret (v := .agg #[.bool (decide (z < 0)), .slice Ar ir cr]) (by simp [results, Tryz.results50, go_sem, kra, krb]) rfl ⟨_, rfl, by rw [hz.out]; exact HIr.out, by rw [hg.out]; exact DN.out⟩
        · have HB : Hid (true = decide (z < 0)) := by
            have h1 := hz.out; have h2 := HP.out
            rw [sgn] at h1
            simp at h1
            unfold Hid
            symm
            simp
            omega
          go_upto_region 4 with fail
          refine Rg.region_gg W [.is (.pointer (some ⟨g, 0, none⟩)), .is (.bool true), .is (.bool true), .is (.int .i64 ((m + 1 : Nat) : Int)), .is (.bool true), .is (.bool true), .own (pRow) (pRow_keep), .is (.pointer (some ⟨g, 1, none⟩)), .is (.slice (some ad) n c), .is (.int .i64 ((m + 1 : Nat) : Int)), .is (.slice (some ad) (m + 1) c), .sat (pWd (mag (val ts))) (pWd_keep _), .sat (pIv (z)) (pIv_keep _), .sto (g + 1) (sI (g + 1) (z)) (sI_keep _ _)] [(g + 1)] [some 21, some 22, some 23, some 24, some 25, some 26, some 27, some 28, some 29, some 30, some 31, some 32, some 33, none] (by kernel_rfl) (by kernel_rfl) (by kernel_rfl) (by kernel_rfl) (by kernel_rfl) (by simp [Rg.stos]) (by rfl) (by rfl) (by kernel_rfl) (by intro g hg; simp only [List.mem_cons, List.not_mem_nil, or_false] at hg; subst hg; exact RXr.out.lt) ((Below.refl _ _).drew) (fun Q' => ?_) (fun K hK wn hs => ?_)
          · refine ⟨?_, ?_, ?_, ?_, ?_, ?_, ?_, ?_, ?_, ?_, ?_, ?_, ?_, ?_, trivial⟩
            · intro a' w' ha hs hw hold
              have eo1 : a'.tmps[1]? = some (ptr g) := (ha.rest 1 (by kernel_rfl)).trans rfl
              exact ⟨rfl, .inl ⟨wanted_none rfl, wp_val (run_ifield0 rfl (ev_tmp eo1)) ⟨rfl, Below.refl _ _⟩⟩⟩
            · intro a' w' ha hs hw hold
              have e0 : a'.tmps[21]? = some (.pointer (some ⟨g, 0, none⟩)) := Rg.slot_get rfl rfl (hw 0 (by kernel_rfl) _ rfl)
              exact ⟨rfl, .inl ⟨wanted_none rfl, wp_val (run_loadb rfl (ev_tmp e0) (BXa.out.bel hs (by simp)).cell0) ⟨rfl, Below.refl _ _⟩⟩⟩
            · intro a' w' ha hs hw hold
              have e1 : a'.tmps[22]? = some (.bool true) := Rg.slot_get rfl rfl (hw 1 (by kernel_rfl) _ rfl)
              exact ⟨rfl, .inl ⟨wanted_none rfl, wp_val (run_move rfl (ev_tmp e1)) ⟨rfl, Below.refl _ _⟩⟩⟩
            · intro a' w' ha hs hw hold
              have e2 : a'.tmps[23]? = some (.bool true) := Rg.slot_get rfl rfl (hw 2 (by kernel_rfl) _ rfl)
              have eo3 : a'.tmps[3]? = some (.int .i64 ((m + 1 : Nat) : Int)) := (ha.rest 3 (by kernel_rfl)).trans rfl
              exact ⟨rfl, .inl ⟨wanted_some rfl rfl rfl e2, wp_val (run_move rfl (ev_tmp eo3)) ⟨rfl, Below.refl _ _⟩⟩⟩
            · intro a' w' ha hs hw hold
              have e2 : a'.tmps[23]? = some (.bool true) := Rg.slot_get rfl rfl (hw 2 (by kernel_rfl) _ rfl)
              have e3 : a'.tmps[24]? = some (.int .i64 ((m + 1 : Nat) : Int)) := Rg.slot_get rfl rfl (hw 3 (by kernel_rfl) _ rfl)
              exact ⟨rfl, .inl ⟨wanted_some rfl rfl rfl e2, wp_val ((run_gtr_int rfl (ev_tmp e3) rfl).trans (by simp)) ⟨rfl, Below.refl _ _⟩⟩⟩
            · intro a' w' ha hs hw hold
              have e2 : a'.tmps[23]? = some (.bool true) := Rg.slot_get rfl rfl (hw 2 (by kernel_rfl) _ rfl)
              have e4 : a'.tmps[25]? = some (.bool true) := Rg.slot_get rfl rfl (hw 4 (by kernel_rfl) _ rfl)
              exact ⟨rfl, .inl ⟨wanted_none rfl, wp_val (run_pick (b := true) rfl (ev_tmp e2) (ev_tmp e4)) ⟨rfl, Below.refl _ _⟩⟩⟩
            · intro a' w' ha hs hw hold
              exact ⟨rfl, wanted_none rfl, step_row rfl⟩
            · intro a' w' ha hs hw hold
              have eo1 : a'.tmps[1]? = some (ptr g) := (ha.rest 1 (by kernel_rfl)).trans rfl
              exact ⟨rfl, .inl ⟨wanted_none rfl, wp_val (run_ifield1 rfl (ev_tmp eo1)) ⟨rfl, Below.refl _ _⟩⟩⟩
            · intro a' w' ha hs hw hold
              have e7 : a'.tmps[28]? = some (.pointer (some ⟨g, 1, none⟩)) := Rg.slot_get rfl rfl (hw 7 (by kernel_rfl) _ rfl)
              exact ⟨rfl, .inl ⟨wanted_none rfl, wp_val (run_loads rfl (ev_tmp e7) (BXa.out.bel hs (by simp)).cell1) ⟨rfl, Below.refl _ _⟩⟩⟩
            · intro a' w' ha hs hw hold
              have eo3 : a'.tmps[3]? = some (.int .i64 ((m + 1 : Nat) : Int)) := (ha.rest 3 (by kernel_rfl)).trans rfl
              exact ⟨rfl, .inl ⟨wanted_none rfl, wp_val (run_move rfl (ev_tmp eo3)) ⟨rfl, Below.refl _ _⟩⟩⟩
            · intro a' w' ha hs hw hold
              have e8 : a'.tmps[29]? = some (.slice (some ad) n c) := Rg.slot_get rfl rfl (hw 8 (by kernel_rfl) _ rfl)
              have e9 : a'.tmps[30]? = some (.int .i64 ((m + 1 : Nat) : Int)) := Rg.slot_get rfl rfl (hw 9 (by kernel_rfl) _ rfl)
              exact ⟨rfl, .inl ⟨wanted_none rfl, wp_val (run_slicel rfl (ev_tmp e8) (ev_tmp e9) (by have := HLn.out; omega)) ⟨rfl, Below.refl _ _⟩⟩⟩
            · intro a' w' ha hs hw hold
              obtain ⟨v6, g6, h6, q6⟩ := hw 6 (by kernel_rfl) _ rfl
              have e6 : a'.tmps[27]? = some v6 := Rg.slot_get rfl rfl h6.1
              replace q6 := q6 (by kernel_rfl)
              have e10 : a'.tmps[31]? = some (.slice (some ad) (m + 1) c) := Rg.slot_get rfl rfl (hw 10 (by kernel_rfl) _ rfl)
              exact ⟨rfl, wanted_none rfl, step_grow rfl (ev_tmp e6) q6 (ev_tmp e10) (wd_kn HV.out hs.kn) (by have := HL.out; omega)⟩
            · intro a' w' ha hs hw hold
              have e5 : a'.tmps[26]? = some (.bool true) := Rg.slot_get rfl rfl (hw 5 (by kernel_rfl) _ rfl)
              obtain ⟨v11, e11, q11⟩ := hw 11 (by kernel_rfl) _ rfl
              replace e11 : a'.tmps[32]? = some v11 := Rg.slot_get rfl rfl e11
              exact ⟨rfl, wanted_none rfl, step_int rfl (ev_tmp e5) (ev_tmp e11) q11 HN.out HB.out⟩
            · intro a' w' ha hs hw hold
              obtain ⟨v12, e12, q12⟩ := hw 12 (by kernel_rfl) _ rfl
              replace e12 : a'.tmps[33]? = some v12 := Rg.slot_get rfl rfl e12
              have eo2 : a'.tmps[2]? = some (ptr (g + 1)) := (ha.rest 2 (by kernel_rfl)).trans rfl
              exact ⟨rfl, wanted_none rfl, fun he => step_stoi rfl rfl (ev_tmp eo2) (ev_tmp e12) q12 RXr.out he⟩
          simp only [Rg.allG]
          intro r2x6 _ _ _ _ _ _
          intro r2x11 _
          intro r2x12 _
          intro hSr
          simp only [setOpt, Rg.setOpt, List.set_cons_succ, List.set_cons_zero]
          refine hK _ _ ?_
          clear hK K
          have DN : Hid (Below g w wn) := hs.base DW.out (by have := hg.out; omega) (by simp only [List.mem_cons, List.not_mem_nil, or_false]; omega)
          obtain ⟨Ar, ir, cr, hcr, hir⟩ := hSr
          have kra := hcr.cell0; have krb := hcr.cell1
          have HIr := Lib.hid hir; clear hir
          go_wp2
          exact bodyPost_ret (v := .agg #[.bool (decide (z < 0)), .slice Ar ir cr]) (by simp [results, Tryz.results50, go_sem, kra, krb]) rfl ⟨_, rfl, by rw [hz.out]; exact HIr.out, by rw [hg.out]; exact DN.out⟩
    · have hm0 : ¬ (0 : Int) < (m : Int) := by omega
      have hm1 : m = 0 := by omega
      have hcan : ts.take (m) = mag (val ts) := trim_done HT.out.wds HT.out.len (by omega) HZ.out (.inl (by omega))
      have HV : Hid (Wd W A (m) (mag (val ts))) := by rw [← hcan]; exact wd_take HT.out (by omega)
      have HL : Hid (m ≤ 12) := by unfold Hid; omega
      have HLn : Hid (m ≤ n) := by unfold Hid; omega
      replace hcan := Lib.hid hcan
      obtain ⟨z, hz⟩ : ∃ z, sgn b (val ts) = z := ⟨_, rfl⟩
      rw [hz]
      have HN : Hid (mag (val ts) = mag z.natAbs) := by rw [← hz]; cases b <;> simp [sgn, Hid]
      have HP : Hid (val ts = 0) := by
        have h1 := congrArg List.length hcan.out
        rw [show m = 0 by omega] at h1
        exact mag_length_zero.1 (by simpa using h1.symm)
      replace hz := Lib.hid hz
      cases b
      · have HB : Hid (false = decide (z < 0)) := by
          have h1 := hz.out; have h2 := HP.out
          rw [sgn] at h1
          simp at h1
          unfold Hid
          symm
          simp
          omega
        go_upto_region 4 with fail
        refine Rg.region_gg W [.is (.pointer (some ⟨g, 0, none⟩)), .is (.bool false), .is (.bool false), .is (undef), .is (undef), .is (Value.bool false), .own (pRow) (pRow_keep), .is (.pointer (some ⟨g, 1, none⟩)), .is (.slice A n c), .is (.int .i64 ((m : Nat) : Int)), .is (.slice A (m) c), .sat (pWd (mag (val ts))) (pWd_keep _), .sat (pIv (z)) (pIv_keep _), .sto (g + 1) (sI (g + 1) (z)) (sI_keep _ _)] [(g + 1)] [some 21, some 22, some 23, some 24, some 25, some 26, some 27, some 28, some 29, some 30, some 31, some 32, some 33, none] (by kernel_rfl) (by kernel_rfl) (by kernel_rfl) (by kernel_rfl) (by kernel_rfl) (by simp [Rg.stos]) (by rfl) (by rfl) (by kernel_rfl) (by intro g hg; simp only [List.mem_cons, List.not_mem_nil, or_false] at hg; subst hg; exact RXr.out.lt) ((Below.refl _ _).drew) (fun Q' => ?_) (fun K hK wn hs => ?_)
        · refine ⟨?_, ?_, ?_, ?_, ?_, ?_, ?_, ?_, ?_, ?_, ?_, ?_, ?_, ?_, trivial⟩
          · intro a' w' ha hs hw hold
            have eo1 : a'.tmps[1]? = some (ptr g) := (ha.rest 1 (by kernel_rfl)).trans rfl
            exact ⟨rfl, .inl ⟨wanted_none rfl, wp_val (run_ifield0 rfl (ev_tmp eo1)) ⟨rfl, Below.refl _ _⟩⟩⟩
          · intro a' w' ha hs hw hold
            have e0 : a'.tmps[21]? = some (.pointer (some ⟨g, 0, none⟩)) := Rg.slot_get rfl rfl (hw 0 (by kernel_rfl) _ rfl)
            exact ⟨rfl, .inl ⟨wanted_none rfl, wp_val (run_loadb rfl (ev_tmp e0) (BXa.out.bel hs (by simp)).cell0) ⟨rfl, Below.refl _ _⟩⟩⟩
          · intro a' w' ha hs hw hold
            have e1 : a'.tmps[22]? = some (.bool false) := Rg.slot_get rfl rfl (hw 1 (by kernel_rfl) _ rfl)
            exact ⟨rfl, .inl ⟨wanted_none rfl, wp_val (run_move rfl (ev_tmp e1)) ⟨rfl, Below.refl _ _⟩⟩⟩
          · intro a' w' ha hs hw hold
            have e2 : a'.tmps[23]? = some (.bool false) := Rg.slot_get rfl rfl (hw 2 (by kernel_rfl) _ rfl)
            exact ⟨rfl, .inr ⟨wanted_off rfl rfl rfl e2 (by decide), rfl⟩⟩
          · intro a' w' ha hs hw hold
            have e2 : a'.tmps[23]? = some (.bool false) := Rg.slot_get rfl rfl (hw 2 (by kernel_rfl) _ rfl)
            exact ⟨rfl, .inr ⟨wanted_off rfl rfl rfl e2 (by decide), rfl⟩⟩
          · intro a' w' ha hs hw hold
            have e2 : a'.tmps[23]? = some (.bool false) := Rg.slot_get rfl rfl (hw 2 (by kernel_rfl) _ rfl)
            exact ⟨rfl, .inl ⟨wanted_none rfl, wp_val (run_pick (b := false) rfl (ev_tmp e2) rfl) ⟨rfl, Below.refl _ _⟩⟩⟩
          · intro a' w' ha hs hw hold
            exact ⟨rfl, wanted_none rfl, step_row rfl⟩
          · intro a' w' ha hs hw hold
            have eo1 : a'.tmps[1]? = some (ptr g) := (ha.rest 1 (by kernel_rfl)).trans rfl
            exact ⟨rfl, .inl ⟨wanted_none rfl, wp_val (run_ifield1 rfl (ev_tmp eo1)) ⟨rfl, Below.refl _ _⟩⟩⟩
          · intro a' w' ha hs hw hold
            have e7 : a'.tmps[28]? = some (.pointer (some ⟨g, 1, none⟩)) := Rg.slot_get rfl rfl (hw 7 (by kernel_rfl) _ rfl)
            exact ⟨rfl, .inl ⟨wanted_none rfl, wp_val (run_loads rfl (ev_tmp e7) (BXa.out.bel hs (by simp)).cell1) ⟨rfl, Below.refl _ _⟩⟩⟩
          · intro a' w' ha hs hw hold
            have eo3 : a'.tmps[3]? = some (.int .i64 ((m : Nat) : Int)) := (ha.rest 3 (by kernel_rfl)).trans rfl
            exact ⟨rfl, .inl ⟨wanted_none rfl, wp_val (run_move rfl (ev_tmp eo3)) ⟨rfl, Below.refl _ _⟩⟩⟩
          · intro a' w' ha hs hw hold
            have e8 : a'.tmps[29]? = some (.slice A n c) := Rg.slot_get rfl rfl (hw 8 (by kernel_rfl) _ rfl)
            have e9 : a'.tmps[30]? = some (.int .i64 ((m : Nat) : Int)) := Rg.slot_get rfl rfl (hw 9 (by kernel_rfl) _ rfl)
            exact ⟨rfl, .inl ⟨wanted_none rfl, wp_val (run_slicel rfl (ev_tmp e8) (ev_tmp e9) (by have := HLn.out; omega)) ⟨rfl, Below.refl _ _⟩⟩⟩
          · intro a' w' ha hs hw hold
            obtain ⟨v6, g6, h6, q6⟩ := hw 6 (by kernel_rfl) _ rfl
            have e6 : a'.tmps[27]? = some v6 := Rg.slot_get rfl rfl h6.1
            replace q6 := q6 (by kernel_rfl)
            have e10 : a'.tmps[31]? = some (.slice A (m) c) := Rg.slot_get rfl rfl (hw 10 (by kernel_rfl) _ rfl)
            exact ⟨rfl, wanted_none rfl, step_grow rfl (ev_tmp e6) q6 (ev_tmp e10) (wd_kn HV.out hs.kn) (by have := HL.out; omega)⟩
          · intro a' w' ha hs hw hold
            have e5 : a'.tmps[26]? = some (Value.bool false) := Rg.slot_get rfl rfl (hw 5 (by kernel_rfl) _ rfl)
            obtain ⟨v11, e11, q11⟩ := hw 11 (by kernel_rfl) _ rfl
            replace e11 : a'.tmps[32]? = some v11 := Rg.slot_get rfl rfl e11
            exact ⟨rfl, wanted_none rfl, step_int rfl (ev_tmp e5) (ev_tmp e11) q11 HN.out HB.out⟩
          · intro a' w' ha hs hw hold
            obtain ⟨v12, e12, q12⟩ := hw 12 (by kernel_rfl) _ rfl
            replace e12 : a'.tmps[33]? = some v12 := Rg.slot_get rfl rfl e12
            have eo2 : a'.tmps[2]? = some (ptr (g + 1)) := (ha.rest 2 (by kernel_rfl)).trans rfl
            exact ⟨rfl, wanted_none rfl, fun he => step_stoi rfl rfl (ev_tmp eo2) (ev_tmp e12) q12 RXr.out he⟩
        simp only [Rg.allG]
        intro r3x6 _ _ _ _ _ _
        intro r3x11 _
        intro r3x12 _
        intro hSr
        simp only [setOpt, Rg.setOpt, List.set_cons_succ, List.set_cons_zero]
        refine hK _ _ ?_
        clear hK K
        have DN : Hid (Below g w wn) := hs.base DW.out (by have := hg.out; omega) (by simp only [List.mem_cons, List.not_mem_nil, or_false]; omega)
        obtain ⟨Ar, ir, cr, hcr, hir⟩ := hSr
        have kra := hcr.cell0; have krb := hcr.cell1
        have HIr := Lib.hid hir; clear hir
        go_wp2
        exact bodyPost_ret (v := .agg #[.bool (decide (z < 0)), .slice Ar ir cr]) (by simp [results, Tryz.results50, go_sem, kra, krb]) rfl ⟨_, rfl, by rw [hz.out]; exact HIr.out, by rw [hg.out]; exact DN.out⟩
      · have HB : Hid (false = decide (z < 0)) := by
          have h1 := hz.out; have h2 := HP.out
          rw [sgn] at h1
          simp at h1
          unfold Hid
          symm
          simp
          omega
        go_upto_region 4 with fail
        refine Rg.region_gg W [.is (.pointer (some ⟨g, 0, none⟩)), .is (.bool true), .is (.bool true), .is (.int .i64 ((m : Nat) : Int)), .is (.bool false), .is (.bool false), .own (pRow) (pRow_keep), .is (.pointer (some ⟨g, 1, none⟩)), .is (.slice A n c), .is (.int .i64 ((m : Nat) : Int)), .is (.slice A (m) c), .sat (pWd (mag (val ts))) (pWd_keep _), .sat (pIv (z)) (pIv_keep _), .sto (g + 1) (sI (g + 1) (z)) (sI_keep _ _)] [(g + 1)] [some 21, some 22, some 23, some 24, some 25, some 26, some 27, some 28, some 29, some 30, some 31, some 32, some 33, none] (by kernel_rfl) (by kernel_rfl) (by kernel_rfl) (by kernel_rfl) (by kernel_rfl) (by simp [Rg.stos]) (by rfl) (by rfl) (by kernel_rfl) (by intro g hg; simp only [List.mem_cons, List.not_mem_nil, or_false] at hg; subst hg; exact RXr.out.lt) ((Below.refl _ _).drew) (fun Q' => ?_) (fun K hK wn hs => ?_)
        · refine ⟨?_, ?_, ?_, ?_, ?_, ?_, ?_, ?_, ?_, ?_, ?_, ?_, ?_, ?_, trivial⟩
          · intro a' w' ha hs hw hold
            have eo1 : a'.tmps[1]? = some (ptr g) := (ha.rest 1 (by kernel_rfl)).trans rfl
            exact ⟨rfl, .inl ⟨wanted_none rfl, wp_val (run_ifield0 rfl (ev_tmp eo1)) ⟨rfl, Below.refl _ _⟩⟩⟩
          · intro a' w' ha hs hw hold
            have e0 : a'.tmps[21]? = some (.pointer (some ⟨g, 0, none⟩)) := Rg.slot_get rfl rfl (hw 0 (by kernel_rfl) _ rfl)
            exact ⟨rfl, .inl ⟨wanted_none rfl, wp_val (run_loadb rfl (ev_tmp e0) (BXa.out.bel hs (by simp)).cell0) ⟨rfl, Below.refl _ _⟩⟩⟩
          · intro a' w' ha hs hw hold
            have e1 : a'.tmps[22]? = some (.bool true) := Rg.slot_get rfl rfl (hw 1 (by kernel_rfl) _ rfl)
            exact ⟨rfl, .inl ⟨wanted_none rfl, wp_val (run_move rfl (ev_tmp e1)) ⟨rfl, Below.refl _ _⟩⟩⟩
          · intro a' w' ha hs hw hold
            have e2 : a'.tmps[23]? = some (.bool true) := Rg.slot_get rfl rfl (hw 2 (by kernel_rfl) _ rfl)
            have eo3 : a'.tmps[3]? = some (.int .i64 ((m : Nat) : Int)) := (ha.rest 3 (by kernel_rfl)).trans rfl
            exact ⟨rfl, .inl ⟨wanted_some rfl rfl rfl e2, wp_val (run_move rfl (ev_tmp eo3)) ⟨rfl, Below.refl _ _⟩⟩⟩
          · intro a' w' ha hs hw hold
            have e2 : a'.tmps[23]? = some (.bool true) := Rg.slot_get rfl rfl (hw 2 (by kernel_rfl) _ rfl)
            have e3 : a'.tmps[24]? = some (.int .i64 ((m : Nat) : Int)) := Rg.slot_get rfl rfl (hw 3 (by kernel_rfl) _ rfl)
            exact ⟨rfl, .inl ⟨wanted_some rfl rfl rfl e2, wp_val ((run_gtr_int rfl (ev_tmp e3) rfl).trans (by simp; omega)) ⟨rfl, Below.refl _ _⟩⟩⟩
          · intro a' w' ha hs hw hold
            have e2 : a'.tmps[23]? = some (.bool true) := Rg.slot_get rfl rfl (hw 2 (by kernel_rfl) _ rfl)
            have e4 : a'.tmps[25]? = some (.bool false) := Rg.slot_get rfl rfl (hw 4 (by kernel_rfl) _ rfl)
            exact ⟨rfl, .inl ⟨wanted_none rfl, wp_val (run_pick (b := true) rfl (ev_tmp e2) (ev_tmp e4)) ⟨rfl, Below.refl _ _⟩⟩⟩
          · intro a' w' ha hs hw hold
            exact ⟨rfl, wanted_none rfl, step_row rfl⟩
          · intro a' w' ha hs hw hold
            have eo1 : a'.tmps[1]? = some (ptr g) := (ha.rest 1 (by kernel_rfl)).trans rfl
            exact ⟨rfl, .inl ⟨wanted_none rfl, wp_val (run_ifield1 rfl (ev_tmp eo1)) ⟨rfl, Below.refl _ _⟩⟩⟩
          · intro a' w' ha hs hw hold
            have e7 : a'.tmps[28]? = some (.pointer (some ⟨g, 1, none⟩)) := Rg.slot_get rfl rfl (hw 7 (by kernel_rfl) _ rfl)
            exact ⟨rfl, .inl ⟨wanted_none rfl, wp_val (run_loads rfl (ev_tmp e7) (BXa.out.bel hs (by simp)).cell1) ⟨rfl, Below.refl _ _⟩⟩⟩
          · intro a' w' ha hs hw hold
            have eo3 : a'.tmps[3]? = some (.int .i64 ((m : Nat) : Int)) := (ha.rest 3 (by kernel_rfl)).trans rfl
            exact ⟨rfl, .inl ⟨wanted_none rfl, wp_val (run_move rfl (ev_tmp eo3)) ⟨rfl, Below.refl _ _⟩⟩⟩
          · intro a' w' ha hs hw hold
            have e8 : a'.tmps[29]? = some (.slice A n c) := Rg.slot_get rfl rfl (hw 8 (by kernel_rfl) _ rfl)
            have e9 : a'.tmps[30]? = some (.int .i64 ((m : Nat) : Int)) := Rg.slot_get rfl rfl (hw 9 (by kernel_rfl) _ rfl)
            exact ⟨rfl, .inl ⟨wanted_none rfl, wp_val (run_slicel rfl (ev_tmp e8) (ev_tmp e9) (by have := HLn.out; omega)) ⟨rfl, Below.refl _ _⟩⟩⟩
          · intro a' w' ha hs hw hold
            obtain ⟨v6, g6, h6, q6⟩ := hw 6 (by kernel_rfl) _ rfl
            have e6 : a'.tmps[27]? = some v6 := Rg.slot_get rfl rfl h6.1
            replace q6 := q6 (by kernel_rfl)
            have e10 : a'.tmps[31]? = some (.slice A (m) c) := Rg.slot_get rfl rfl (hw 10 (by kernel_rfl) _ rfl)
            exact ⟨rfl, wanted_none rfl, step_grow rfl (ev_tmp e6) q6 (ev_tmp e10) (wd_kn HV.out hs.kn) (by have := HL.out; omega)⟩
          · intro a' w' ha hs hw hold
            have e5 : a'.tmps[26]? = some (.bool false) := Rg.slot_get rfl rfl (hw 5 (by kernel_rfl) _ rfl)
            obtain ⟨v11, e11, q11⟩ := hw 11 (by kernel_rfl) _ rfl
            replace e11 : a'.tmps[32]? = some v11 := Rg.slot_get rfl rfl e11
            exact ⟨rfl, wanted_none rfl, step_int rfl (ev_tmp e5) (ev_tmp e11) q11 HN.out HB.out⟩
          · intro a' w' ha hs hw hold
            obtain ⟨v12, e12, q12⟩ := hw 12 (by kernel_rfl) _ rfl
            replace e12 : a'.tmps[33]? = some v12 := Rg.slot_get rfl rfl e12
            have eo2 : a'.tmps[2]? = some (ptr (g + 1)) := (ha.rest 2 (by kernel_rfl)).trans rfl
            exact ⟨rfl, wanted_none rfl, fun he => step_stoi rfl rfl (ev_tmp eo2) (ev_tmp e12) q12 RXr.out he⟩
        simp only [Rg.allG]
        intro r4x6 _ _ _ _ _ _
        intro r4x11 _
        intro r4x12 _
        intro hSr
        simp only [setOpt, Rg.setOpt, List.set_cons_succ, List.set_cons_zero]
        refine hK _ _ ?_
        clear hK K
        have DN : Hid (Below g w wn) := hs.base DW.out (by have := hg.out; omega) (by simp only [List.mem_cons, List.not_mem_nil, or_false]; omega)
        obtain ⟨Ar, ir, cr, hcr, hir⟩ := hSr
        have kra := hcr.cell0; have krb := hcr.cell1
        have HIr := Lib.hid hir; clear hir
        go_wp2
        exact bodyPost_ret (v := .agg #[.bool (decide (z < 0)), .slice Ar ir cr]) (by simp [results, Tryz.results50, go_sem, kra, krb]) rfl ⟨_, rfl, by rw [hz.out]; exact HIr.out, by rw [hg.out]; exact DN.out⟩
end Go.Proofs.YtfigimfdojbkeaaGreat
