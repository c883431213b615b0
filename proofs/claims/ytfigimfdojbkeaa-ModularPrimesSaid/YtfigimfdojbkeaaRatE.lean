/-
  The program's functions on fractions.
-/
import Derived.Test.YtfigimfdojbkeaaRatC
import Derived.Deep.DeepCutAuto
import Derived.Handy
set_option linter.unusedSimpArgs false
set_option linter.unusedVariables false
namespace Go.Proofs.Ytfigimfdojbkeaa
open Go.RowKit
attribute [local go_sem ↓] Go.wp_at_zero Go.wp_at_succ

set_option maxHeartbeats 8000000 in
set_option maxRecDepth 100000 in
theorem qadd_at (va vb : Value) (zan zad zbn zbd N D : Int) (w : World) (ha : Qv w va zan zad) (san : Sz zan 100000) (sad : Sz zad 100000) (pa : 0 < zad) (hb : Qv w vb zbn zbd) (sbn : Sz zbn 100000) (sbd : Sz zbd 100000) (pb : 0 < zbd)
    (h1 : Nat.gcd zad.natAbs zbd.natAbs = 1 → N = zan * zbd + zbn * zad ∧ D = zad * zbd)
    (h2 : Nat.gcd zad.natAbs zbd.natAbs ≠ 1 → ∀ x y n h : Int, x = zad / (Nat.gcd zad.natAbs zbd.natAbs : Nat) → y = zbd / (Nat.gcd zad.natAbs zbd.natAbs : Nat) → n = zan * y + zbn * x → h = (Nat.gcd n.natAbs (Nat.gcd zad.natAbs zbd.natAbs) : Nat) → N = n / h ∧ D = x * y * ((Nat.gcd zad.natAbs zbd.natAbs : Nat) / h)) :
    Calls Try.prog 195 #[va, vb] w (RetQ N D w) := by
  have Pa := Lib.hid pa
  have PSa : Hid (zad = sgn false zad.natAbs) := by unfold Hid sgn; simp; omega
  clear pa
  have Pb := Lib.hid pb
  have PSb : Hid (zbd = sgn false zbd.natAbs) := by unfold Hid sgn; simp; omega
  clear pb
  obtain ⟨Xan, pan, qan, Xad, pad, qad, rfl, han, had⟩ := ha
  have Han := Lib.hid han
  have Had := Lib.hid had
  have SZan := Lib.hid san
  have SZad := Lib.hid sad
  clear han had san sad
  generalize hs : decide (zan < 0) = san at *
  clear hs
  generalize hs : decide (zad < 0) = sad at *
  clear hs
  obtain ⟨Xbn, pbn, qbn, Xbd, pbd, qbd, rfl, hbn, hbd⟩ := hb
  have Hbn := Lib.hid hbn
  have Hbd := Lib.hid hbd
  have SZbn := Lib.hid sbn
  have SZbd := Lib.hid sbd
  clear hbn hbd sbn sbd
  generalize hs : decide (zbn < 0) = sbn at *
  clear hs
  generalize hs : decide (zbd < 0) = sbd at *
  clear hs

  obtain ⟨G, hG⟩ : ∃ G : Int, ((Nat.gcd zad.natAbs zbd.natAbs : Nat) : Int) = G := ⟨_, rfl⟩
  have SG : Hid (Sz G 100000) := by
    refine ⟨?_⟩
    rw [← hG, Int.natAbs_natCast]
    exact Nat.lt_of_le_of_lt (Nat.gcd_le_right _ (by have := Pb.out; omega)) SZbd.out.lt
  have NG : Hid (0 < G) := by
    have := Nat.gcd_pos_of_pos_right zad.natAbs (show 0 < zbd.natAbs by have := Pb.out; omega)
    unfold Hid; omega
  have hG1 : Hid (Nat.gcd zad.natAbs zbd.natAbs = G.natAbs) := by unfold Hid; omega
  replace h1 := Lib.hid h1
  replace h2 := Lib.hid h2
  rw [hG1.out] at h1
  replace hG := Lib.hid hG
  go_enter Try.func195, Try.ntmps195
  go_wp2_with fail
  obtain ⟨W, hW⟩ : ∃ W, W = (((w.alloc (Obj.cells #[Value.bool san, Value.slice Xan pan qan, Value.bool sad, Value.slice Xad pad qad] 60)).alloc (Obj.cells #[Value.bool sbn, Value.slice Xbn pbn qbn, Value.bool sbd, Value.slice Xbd pbd qbd] 60)).alloc (Obj.cells #[Value.bool false, Value.slice none 0 0, Value.bool false, Value.slice none 0 0] 60)) := ⟨_, rfl⟩
  rw [← hW]
  have QXa : Hid (QBox W (w.heap.size) san (.slice Xan pan qan) sad (.slice Xad pad qad)) := by rw [hW]; have := ((QBox.new w san (Value.slice Xan pan qan) sad (Value.slice Xad pad qad)).alloc (Obj.cells #[Value.bool sbn, Value.slice Xbn pbn qbn, Value.bool sbd, Value.slice Xbd pbd qbd] 60)).alloc (Obj.cells #[Value.bool false, Value.slice none 0 0, Value.bool false, Value.slice none 0 0] 60); simpa [Hid] using this
  have QXb : Hid (QBox W (w.heap.size + 1) sbn (.slice Xbn pbn qbn) sbd (.slice Xbd pbd qbd)) := by rw [hW]; have := (QBox.new (w.alloc (Obj.cells #[Value.bool san, Value.slice Xan pan qan, Value.bool sad, Value.slice Xad pad qad] 60)) sbn (Value.slice Xbn pbn qbn) sbd (Value.slice Xbd pbd qbd)).alloc (Obj.cells #[Value.bool false, Value.slice none 0 0, Value.bool false, Value.slice none 0 0] 60); simpa [Hid] using this
  have RXr : Hid (QBox W (w.heap.size + 1 + 1) false (.slice none 0 0) false (.slice none 0 0)) := by rw [hW]; have := QBox.new ((w.alloc (Obj.cells #[Value.bool san, Value.slice Xan pan qan, Value.bool sad, Value.slice Xad pad qad] 60)).alloc (Obj.cells #[Value.bool sbn, Value.slice Xbn pbn qbn, Value.bool sbd, Value.slice Xbd pbd qbd] 60)) false (Value.slice none 0 0) false (Value.slice none 0 0); simpa [Hid] using this
  have IVna : Hid (Iv W (.agg #[.bool san, .slice Xan pan qan]) (zan)) := by rw [hW]; exact (((Han.out).alloc _).alloc _).alloc _
  have IVda : Hid (Iv W (.agg #[.bool sad, .slice Xad pad qad]) (zad)) := by rw [hW]; exact (((Had.out).alloc _).alloc _).alloc _
  have IVnb : Hid (Iv W (.agg #[.bool sbn, .slice Xbn pbn qbn]) (zbn)) := by rw [hW]; exact (((Hbn.out).alloc _).alloc _).alloc _
  have IVdb : Hid (Iv W (.agg #[.bool sbd, .slice Xbd pbd qbd]) (zbd)) := by rw [hW]; exact (((Hbd.out).alloc _).alloc _).alloc _
  have DW : Hid (Below w.heap.size w W) := by rw [hW]; exact (((Below.refl _ _).alloc (by simp <;> omega) _).alloc (by simp <;> omega) _).alloc (by simp <;> omega) _
  clear hW
  generalize hg : w.heap.size = g at *
  replace hg := Lib.hid hg
  go_upto_region 1 with fail
  have u1a := QXa.out.cell0; have u1b := QXa.out.cell1; have u1c := QXa.out.cell2; have u1d := QXa.out.cell3
  have u2a := QXb.out.cell0; have u2b := QXb.out.cell1; have u2c := QXb.out.cell2; have u2d := QXb.out.cell3
  go_wp2_with fail
  clear u1a u1b u1c u1d u2a u2b u2c u2d
  refine (gcdI_any _ _ zad zbd _ IVda.out IVdb.out (SZad.out.mono (by omega)) (SZbd.out.mono (by omega))).mono ?_
  rintro e y3 ⟨_, rfl, hq, hb⟩
  rw [hG.out] at hq
  obtain ⟨Xg, pg, qg, rfl, _, _, _⟩ := hq.form
  have Qg := Lib.hid hq; clear hq
  have B := Lib.hid hb; clear hb
  generalize hs : decide ((G : Int) < 0) = sg at *
  clear hs
  go_upto_region 2 with fail
  obtain ⟨W4, hW⟩ : ∃ W4, W4 = (y3.alloc (Obj.cells #[Value.bool sg, Value.slice Xg pg qg] 27)) := ⟨_, rfl⟩
  rw [← hW]
  have BXg : Hid (Box W4 (y3.heap.size) sg (.slice Xg pg qg)) := by rw [hW]; have := Box.new y3 sg (.slice Xg pg qg); simpa [Hid] using this
  have IVg : Hid (Iv W4 (.agg #[.bool sg, .slice Xg pg qg]) (G)) := by rw [hW]; exact (Qg.out).alloc _
  have hd : Below W.heap.size W W4 := by rw [hW]; exact (B.out).alloc (by have := B.out.size; simp <;> omega) _
  have NEgr : Hid ((y3.heap.size) ≠ (g + 1 + 1)) := by have := RXr.out.lt; have := B.out.size; unfold Hid; omega
  clear hW B Qg
  generalize hgn4 : y3.heap.size = gg at *
  clear hgn4
  replace QXa := nxq QXa hd rfl; replace IVna := nxv IVna hd rfl; replace IVda := nxv IVda hd rfl
  replace QXb := nxq QXb hd rfl; replace IVnb := nxv IVnb hd rfl; replace IVdb := nxv IVdb hd rfl
  replace RXr := Lib.hid (RXr.out.next hd rfl)
  replace DW := nxd DW hg hd rfl rfl rfl rfl
  clear hd
  have u5a := BXg.out.cell0; have u5b := BXg.out.cell1
  go_wp2_with fail
  clear u5a u5b
  refine (qIsOne_any _ G _ IVg.out (SG.out.mono (by omega))).mono ?_
  rintro e y9 ⟨rfl, hb⟩
  replace BXg := nxb BXg hb rfl; replace IVg := nxv IVg hb rfl
  replace QXa := nxq QXa hb rfl; replace IVna := nxv IVna hb rfl; replace IVda := nxv IVda hb rfl
  replace QXb := nxq QXb hb rfl; replace IVnb := nxv IVnb hb rfl; replace IVdb := nxv IVdb hb rfl
  replace RXr := Lib.hid (RXr.out.next hb rfl)
  replace DW := nxd DW hg hb rfl rfl rfl rfl
  clear hb
  by_cases c1 : G = 1
  · have hd : decide (G = 1) = true := decide_eq_true c1
    rw [hd]
    clear hd
    obtain ⟨rfl, rfl⟩ := h1.out (by omega)
    clear c1 h2
    go_upto_region 3 with fail
    have SN : Hid (Sz (zan * zbd + zbn * zad) 200001) := (SZan.out.mul SZbd.out).add (SZbn.out.mul SZad.out)
    refine Rg.region_gg y9 [.is (.pointer (some ⟨g, 0, none⟩)), .is (.agg #[.bool san, .slice Xan pan qan]), .is (.pointer (some ⟨(g + 1), 2, none⟩)), .is (.agg #[.bool sbd, .slice Xbd pbd qbd]), .own (pL1 (zbd)) (pL1_keep _), .sat (pIv (zan * zbd)) (pIv_keep _), .is (.pointer (some ⟨(g + 1), 0, none⟩)), .is (.agg #[.bool sbn, .slice Xbn pbn qbn]), .is (.pointer (some ⟨g, 2, none⟩)), .is (.agg #[.bool sad, .slice Xad pad qad]), .own (pL1 (zad)) (pL1_keep _), .sat (pIv (zbn * zad)) (pIv_keep _), .sat (pIv (zan * zbd + zbn * zad)) (pIv_keep _), .own pNew pNew_keep, .put 13 (pPut (zan * zbd + zbn * zad)) (pPut_keep _)] [] [some 18, some 19, some 20, some 21, some 22, some 23, some 24, some 25, some 26, some 27, some 28, some 29, some 30, some 6, none] (by kernel_rfl) (by kernel_rfl) (by kernel_rfl) (by kernel_rfl) (by kernel_rfl) (by simp [Rg.stos]) (by rfl) (by rfl) (by kernel_rfl) (by simp) ((Below.refl _ _).drew) (fun Q' => ?_) (fun K hK wn hs => ?_)
    · refine ⟨?_, ?_, ?_, ?_, ?_, ?_, ?_, ?_, ?_, ?_, ?_, ?_, ?_, ?_, ?_, trivial⟩
      · intro a' w' ha hs hw hold
        have eo2 : a'.tmps[2]? = some (ptr g) := (ha.rest 2 (by kernel_rfl)).trans rfl
        exact ⟨rfl, .inl ⟨wanted_none rfl, wp_val (run_qfield0 rfl (ev_tmp eo2)) ⟨rfl, Below.refl _ _⟩⟩⟩
      · intro a' w' ha hs hw hold
        have e0 : a'.tmps[18]? = some (.pointer (some ⟨g, 0, none⟩)) := Rg.slot_get rfl rfl (hw 0 (by kernel_rfl) _ rfl)
        exact ⟨rfl, .inl ⟨wanted_none rfl, wp_val (run_qload0 rfl (ev_tmp e0) (QXa.out.bel hs (by simp))) ⟨rfl, Below.refl _ _⟩⟩⟩
      · intro a' w' ha hs hw hold
        have eo3 : a'.tmps[3]? = some (ptr (g + 1)) := (ha.rest 3 (by kernel_rfl)).trans rfl
        exact ⟨rfl, .inl ⟨wanted_none rfl, wp_val (run_qfield1 rfl (ev_tmp eo3)) ⟨rfl, Below.refl _ _⟩⟩⟩
      · intro a' w' ha hs hw hold
        have e2 : a'.tmps[20]? = some (.pointer (some ⟨(g + 1), 2, none⟩)) := Rg.slot_get rfl rfl (hw 2 (by kernel_rfl) _ rfl)
        exact ⟨rfl, .inl ⟨wanted_none rfl, wp_val (run_qload1 rfl (ev_tmp e2) (QXb.out.bel hs (by simp))) ⟨rfl, Below.refl _ _⟩⟩⟩
      · intro a' w' ha hs hw hold
        have e3 : a'.tmps[21]? = some (.agg #[.bool sbd, .slice Xbd pbd qbd]) := Rg.slot_get rfl rfl (hw 3 (by kernel_rfl) _ rfl)
        exact ⟨rfl, wanted_none rfl, step_list1 rfl (ev_tmp e3) (IVdb.out.kn hs.kn)⟩
      · intro a' w' ha hs hw hold
        have e1 : a'.tmps[19]? = some (.agg #[.bool san, .slice Xan pan qan]) := Rg.slot_get rfl rfl (hw 1 (by kernel_rfl) _ rfl)
        obtain ⟨v4, g4, h4, q4⟩ := hw 4 (by kernel_rfl) _ rfl
        have e4 : a'.tmps[22]? = some v4 := Rg.slot_get rfl rfl h4.1
        replace q4 := q4 (by kernel_rfl)
        exact ⟨rfl, wanted_none rfl, call_step rfl Try.func198 (by kernel_rfl) rfl (map_two (ev_tmp e1) (ev_tmp e4)) (product1_any _ _ zan zbd _ (IVna.out.kn hs.kn) q4 (SZan.out.mono (by omega)) (SZbd.out.mono (by omega))) (fun e w2 he => by obtain ⟨v, rfl, hv, hb⟩ := he; exact ⟨v, rfl, v, rfl, hv, hb⟩)⟩
      · intro a' w' ha hs hw hold
        have eo3 : a'.tmps[3]? = some (ptr (g + 1)) := (ha.rest 3 (by kernel_rfl)).trans rfl
        exact ⟨rfl, .inl ⟨wanted_none rfl, wp_val (run_qfield0 rfl (ev_tmp eo3)) ⟨rfl, Below.refl _ _⟩⟩⟩
      · intro a' w' ha hs hw hold
        have e6 : a'.tmps[24]? = some (.pointer (some ⟨(g + 1), 0, none⟩)) := Rg.slot_get rfl rfl (hw 6 (by kernel_rfl) _ rfl)
        exact ⟨rfl, .inl ⟨wanted_none rfl, wp_val (run_qload0 rfl (ev_tmp e6) (QXb.out.bel hs (by simp))) ⟨rfl, Below.refl _ _⟩⟩⟩
      · intro a' w' ha hs hw hold
        have eo2 : a'.tmps[2]? = some (ptr g) := (ha.rest 2 (by kernel_rfl)).trans rfl
        exact ⟨rfl, .inl ⟨wanted_none rfl, wp_val (run_qfield1 rfl (ev_tmp eo2)) ⟨rfl, Below.refl _ _⟩⟩⟩
      · intro a' w' ha hs hw hold
        have e8 : a'.tmps[26]? = some (.pointer (some ⟨g, 2, none⟩)) := Rg.slot_get rfl rfl (hw 8 (by kernel_rfl) _ rfl)
        exact ⟨rfl, .inl ⟨wanted_none rfl, wp_val (run_qload1 rfl (ev_tmp e8) (QXa.out.bel hs (by simp))) ⟨rfl, Below.refl _ _⟩⟩⟩
      · intro a' w' ha hs hw hold
        have e9 : a'.tmps[27]? = some (.agg #[.bool sad, .slice Xad pad qad]) := Rg.slot_get rfl rfl (hw 9 (by kernel_rfl) _ rfl)
        exact ⟨rfl, wanted_none rfl, step_list1 rfl (ev_tmp e9) (IVda.out.kn hs.kn)⟩
      · intro a' w' ha hs hw hold
        have e7 : a'.tmps[25]? = some (.agg #[.bool sbn, .slice Xbn pbn qbn]) := Rg.slot_get rfl rfl (hw 7 (by kernel_rfl) _ rfl)
        obtain ⟨v10, g10, h10, q10⟩ := hw 10 (by kernel_rfl) _ rfl
        have e10 : a'.tmps[28]? = some v10 := Rg.slot_get rfl rfl h10.1
        replace q10 := q10 (by kernel_rfl)
        exact ⟨rfl, wanted_none rfl, call_step rfl Try.func198 (by kernel_rfl) rfl (map_two (ev_tmp e7) (ev_tmp e10)) (product1_any _ _ zbn zad _ (IVnb.out.kn hs.kn) q10 (SZbn.out.mono (by omega)) (SZad.out.mono (by omega))) (fun e w2 he => by obtain ⟨v, rfl, hv, hb⟩ := he; exact ⟨v, rfl, v, rfl, hv, hb⟩)⟩
      · intro a' w' ha hs hw hold
        obtain ⟨v5, e5, q5⟩ := hw 5 (by kernel_rfl) _ rfl
        replace e5 : a'.tmps[23]? = some v5 := Rg.slot_get rfl rfl e5
        obtain ⟨v11, e11, q11⟩ := hw 11 (by kernel_rfl) _ rfl
        replace e11 : a'.tmps[29]? = some v11 := Rg.slot_get rfl rfl e11
        exact ⟨rfl, wanted_none rfl, call_step rfl Try.func30 (by kernel_rfl) rfl (map_two (ev_tmp e5) (ev_tmp e11)) (add_any _ _ (zan * zbd) (zbn * zad) _ q5 q11 ((SZan.out.mul SZbd.out).mono (by omega)) ((SZbn.out.mul SZad.out).mono (by omega))) (fun e w2 he => by obtain ⟨v, rfl, hv, hb⟩ := he; exact ⟨v, rfl, v, rfl, hv, hb⟩)⟩
      · intro a' w' ha hs hw hold
        exact ⟨rfl, wanted_none rfl, step_new rfl⟩
      · intro a' w' ha hs hw hold
        obtain ⟨v12, e12, q12⟩ := hw 12 (by kernel_rfl) _ rfl
        replace e12 : a'.tmps[30]? = some v12 := Rg.slot_get rfl rfl e12
        refine ⟨rfl, wanted_none rfl, by kernel_rfl, fun pv pg pp ph pe1 pe2 pe3 pe4 => ?_⟩
        cases pe1
        exact step_put rfl rfl (ev_tmp (Rg.slot_get rfl rfl pe2)) (ev_tmp e12) pe3 pe4 q12
    simp only [Rg.allG]
    intro r6x4 _ _ _ _ _ _
    intro r6x5 _
    intro r6x10 _ _ _ _ _ _
    intro r6x11 _
    intro r6x12 _
    intro a6x13 gb6x13 hE6x13 hB6x13 _ hN6x13 _
    intro v6 he hp
    simp only [List.nil_append, List.cons_append, List.getElem?_cons_succ, List.getElem?_cons_zero, Option.some.injEq] at he
    subst he
    obtain ⟨gn, rfl, Xn, pn, qn, BXn, IVn⟩ := hp
    simp only [setOpt, Rg.setOpt, List.set_cons_succ, List.set_cons_zero, ptr]
    refine hK _ _ ?_
    clear hK K
    replace hs := hs.below
    have hgb : gn = gb6x13 := Option.some.inj hE6x13
    have NEnr : Hid (gn ≠ (g + 1 + 1)) := by have h1 := RXr.out.lt; unfold Hid; omega
    clear hgb
    clear hE6x13 hB6x13 hN6x13
    replace BXg := nxb BXg hs rfl; replace IVg := nxv IVg hs rfl
    replace QXa := nxq QXa hs rfl; replace IVna := nxv IVna hs rfl; replace IVda := nxv IVda hs rfl
    replace QXb := nxq QXb hs rfl; replace IVnb := nxv IVnb hs rfl; replace IVdb := nxv IVdb hs rfl
    replace RXr := Lib.hid (RXr.out.next hs rfl)
    replace DW := nxd DW hg hs rfl rfl rfl rfl
    generalize hsg : decide ((zan * zbd + zbn * zad : Int) < 0) = sn at *
    clear hsg
    replace BXn := Lib.hid BXn; replace IVn := Lib.hid IVn
    clear hs
    go_upto_region 4 with fail
    refine Rg.region_gg wn [.is (.agg #[.bool sn, .slice Xn pn qn]), .is (.pointer (some ⟨g, 2, none⟩)), .is (.agg #[.bool sad, .slice Xad pad qad]), .is (.pointer (some ⟨(g + 1), 2, none⟩)), .is (.agg #[.bool sbd, .slice Xbd pbd qbd]), .own (pL1 (zbd)) (pL1_keep _), .sat (pIv (zad * zbd)) (pIv_keep _), .sat (pQv (zan * zbd + zbn * zad) (zad * zbd)) (pQv_keep _ _), .sto (g + 1 + 1) (sQ (g + 1 + 1) (zan * zbd + zbn * zad) (zad * zbd)) (sQ_keep _ _ _)] [(g + 1 + 1)] [some 31, some 32, some 33, some 34, some 35, some 36, some 37, some 38, none] (by kernel_rfl) (by kernel_rfl) (by kernel_rfl) (by kernel_rfl) (by kernel_rfl) (by simp [Rg.stos]) (by rfl) (by rfl) (by kernel_rfl) (by intro g hg; simp only [List.mem_cons, List.not_mem_nil, or_false] at hg; subst hg; exact RXr.out.lt) ((Below.refl _ _).drew) (fun Q' => ?_) (fun K hK wn hs => ?_)
    · refine ⟨?_, ?_, ?_, ?_, ?_, ?_, ?_, ?_, ?_, trivial⟩
      · intro a' w' ha hs hw hold
        have eo6 : a'.tmps[6]? = some (ptr gn) := (ha.rest 6 (by kernel_rfl)).trans rfl
        exact ⟨rfl, .inl ⟨wanted_none rfl, wp_val (run_pload rfl (ev_tmp eo6) (BXn.out.bel hs (by simp only [List.mem_cons, List.not_mem_nil, or_false, not_or]; exact NEnr.out))) ⟨rfl, Below.refl _ _⟩⟩⟩
      · intro a' w' ha hs hw hold
        have eo2 : a'.tmps[2]? = some (ptr g) := (ha.rest 2 (by kernel_rfl)).trans rfl
        exact ⟨rfl, .inl ⟨wanted_none rfl, wp_val (run_qfield1 rfl (ev_tmp eo2)) ⟨rfl, Below.refl _ _⟩⟩⟩
      · intro a' w' ha hs hw hold
        have e1 : a'.tmps[32]? = some (.pointer (some ⟨g, 2, none⟩)) := Rg.slot_get rfl rfl (hw 1 (by kernel_rfl) _ rfl)
        exact ⟨rfl, .inl ⟨wanted_none rfl, wp_val (run_qload1 rfl (ev_tmp e1) (QXa.out.bel hs (by simp only [List.mem_cons, List.not_mem_nil, or_false, not_or]; exact (by omega)))) ⟨rfl, Below.refl _ _⟩⟩⟩
      · intro a' w' ha hs hw hold
        have eo3 : a'.tmps[3]? = some (ptr (g + 1)) := (ha.rest 3 (by kernel_rfl)).trans rfl
        exact ⟨rfl, .inl ⟨wanted_none rfl, wp_val (run_qfield1 rfl (ev_tmp eo3)) ⟨rfl, Below.refl _ _⟩⟩⟩
      · intro a' w' ha hs hw hold
        have e3 : a'.tmps[34]? = some (.pointer (some ⟨(g + 1), 2, none⟩)) := Rg.slot_get rfl rfl (hw 3 (by kernel_rfl) _ rfl)
        exact ⟨rfl, .inl ⟨wanted_none rfl, wp_val (run_qload1 rfl (ev_tmp e3) (QXb.out.bel hs (by simp only [List.mem_cons, List.not_mem_nil, or_false, not_or]; exact (by omega)))) ⟨rfl, Below.refl _ _⟩⟩⟩
      · intro a' w' ha hs hw hold
        have e4 : a'.tmps[35]? = some (.agg #[.bool sbd, .slice Xbd pbd qbd]) := Rg.slot_get rfl rfl (hw 4 (by kernel_rfl) _ rfl)
        exact ⟨rfl, wanted_none rfl, step_list1 rfl (ev_tmp e4) (IVdb.out.kn hs.kn)⟩
      · intro a' w' ha hs hw hold
        have e2 : a'.tmps[33]? = some (.agg #[.bool sad, .slice Xad pad qad]) := Rg.slot_get rfl rfl (hw 2 (by kernel_rfl) _ rfl)
        obtain ⟨v5, g5, h5, q5⟩ := hw 5 (by kernel_rfl) _ rfl
        have e5 : a'.tmps[36]? = some v5 := Rg.slot_get rfl rfl h5.1
        replace q5 := q5 (by kernel_rfl)
        exact ⟨rfl, wanted_none rfl, call_step rfl Try.func198 (by kernel_rfl) rfl (map_two (ev_tmp e2) (ev_tmp e5)) (product1_any _ _ zad zbd _ (IVda.out.kn hs.kn) q5 (SZad.out.mono (by omega)) (SZbd.out.mono (by omega))) (fun e w2 he => by obtain ⟨v, rfl, hv, hb⟩ := he; exact ⟨v, rfl, v, rfl, hv, hb⟩)⟩
      · intro a' w' ha hs hw hold
        have e0 : a'.tmps[31]? = some (.agg #[.bool sn, .slice Xn pn qn]) := Rg.slot_get rfl rfl (hw 0 (by kernel_rfl) _ rfl)
        obtain ⟨v6, e6, q6⟩ := hw 6 (by kernel_rfl) _ rfl
        replace e6 : a'.tmps[37]? = some v6 := Rg.slot_get rfl rfl e6
        exact ⟨rfl, wanted_none rfl, step_build rfl (ev_tmp e0) (ev_tmp e6) (IVn.out.kn hs.kn) q6⟩
      · intro a' w' ha hs hw hold
        obtain ⟨v7, e7, q7⟩ := hw 7 (by kernel_rfl) _ rfl
        replace e7 : a'.tmps[38]? = some v7 := Rg.slot_get rfl rfl e7
        have eo4 : a'.tmps[4]? = some (ptr (g + 1 + 1)) := (ha.rest 4 (by kernel_rfl)).trans rfl
        exact ⟨rfl, wanted_none rfl, fun he => step_stoq rfl rfl (ev_tmp eo4) (ev_tmp e7) q7 RXr.out he⟩
    simp only [Rg.allG]
    intro r7x5 _ _ _ _ _ _
    intro r7x6 _
    intro r7x7 _
    intro hSr
    simp only [setOpt, Rg.setOpt, List.set_cons_succ, List.set_cons_zero]
    refine hK _ _ ?_
    clear hK K
    have DN : Hid (Below g w wn) := hs.base DW.out (by have := hg.out; omega) (by simp only [List.mem_cons, List.not_mem_nil, or_false]; omega)
    obtain ⟨Ar, ir, cr, Br, jr, dr, hcr, hir, hjr⟩ := hSr
    have kra := hcr.cell0; have krb := hcr.cell1; have krc := hcr.cell2; have krd := hcr.cell3
    have HIr := Lib.hid hir; clear hir
    have HJr := Lib.hid hjr; clear hjr
    go_wp2
    exact bodyPost_ret (v := .agg #[.bool (decide (zan * zbd + zbn * zad < 0)), .slice Ar ir cr, .bool (decide (zad * zbd < 0)), .slice Br jr dr]) (by simp [results, Try.results195, go_sem, kra, krb, krc, krd]) rfl ⟨_, rfl, ⟨Ar, ir, cr, Br, jr, dr, rfl, HIr.out, HJr.out⟩, by rw [hg.out]; exact DN.out⟩
  · have hd : decide (G = 1) = false := decide_eq_false c1
    rw [hd]
    clear hd
    have c2 : Nat.gcd zad.natAbs zbd.natAbs ≠ 1 := by have := hG.out; omega
    obtain ⟨x, ex⟩ : ∃ x, zad / G = x := ⟨_, rfl⟩
    obtain ⟨y, ey⟩ : ∃ y, zbd / G = y := ⟨_, rfl⟩
    obtain ⟨n, en⟩ : ∃ n, zan * y + zbn * x = n := ⟨_, rfl⟩
    obtain ⟨h, eh⟩ : ∃ h : Int, ((Nat.gcd n.natAbs G.natAbs : Nat) : Int) = h := ⟨_, rfl⟩
    have SX : Hid (Sz x 100000) := by rw [← ex]; exact SZad.out.ediv (by have := NG.out; omega)
    have SY : Hid (Sz y 100000) := by rw [← ey]; exact SZbd.out.ediv (by have := NG.out; omega)
    have SN : Hid (Sz n 200001) := by rw [← en]; exact (SZan.out.mul SY.out).add (SZbn.out.mul SX.out)
    have SH : Hid (Sz h 100000) := by
      refine ⟨?_⟩
      rw [← eh, Int.natAbs_natCast]
      exact Nat.lt_of_le_of_lt (Nat.gcd_le_right _ (by have := NG.out; omega)) SG.out.lt
    have NH : Hid (0 < h) := by
      have := Nat.gcd_pos_of_pos_right n.natAbs (show 0 < G.natAbs by have := NG.out; omega)
      unfold Hid; omega
    have SK : Hid (Sz (G / h) 100000) := SG.out.ediv (by have := NH.out; omega)
    obtain ⟨rfl, rfl⟩ : N = n / h ∧ D = x * y * (G / h) := by
      have := h2.out c2 x y n h (by rw [hG.out, ex]) (by rw [hG.out, ey]) en.symm (by rw [hG1.out]; exact eh.symm)
      rwa [hG.out] at this
    replace ex := Lib.hid ex; replace ey := Lib.hid ey; replace en := Lib.hid en; replace eh := Lib.hid eh
    clear c1 c2 h1 h2
    go_upto_region 5 with fail
    refine Rg.region_gg y9 [.is (.pointer (some ⟨g, 2, none⟩)), .is (.agg #[.bool sad, .slice Xad pad qad]), .is (.agg #[.bool sg, .slice Xg pg qg]), .sat (pIv (x)) (pIv_keep _), .is (.pointer (some ⟨(g + 1), 2, none⟩)), .is (.agg #[.bool sbd, .slice Xbd pbd qbd]), .is (.agg #[.bool sg, .slice Xg pg qg]), .sat (pIv (y)) (pIv_keep _), .own pNew pNew_keep, .own pNew pNew_keep, .put 8 (pPut (x)) (pPut_keep _), .put 9 (pPut (y)) (pPut_keep _)] [] [some 39, some 40, some 41, some 42, some 43, some 44, some 45, some 46, some 7, some 8, none, none] (by kernel_rfl) (by kernel_rfl) (by kernel_rfl) (by kernel_rfl) (by kernel_rfl) (by simp [Rg.stos]) (by rfl) (by rfl) (by kernel_rfl) (by simp) ((Below.refl _ _).drew) (fun Q' => ?_) (fun K hK wn hs => ?_)
    · refine ⟨?_, ?_, ?_, ?_, ?_, ?_, ?_, ?_, ?_, ?_, ?_, ?_, trivial⟩
      · intro a' w' ha hs hw hold
        have eo2 : a'.tmps[2]? = some (ptr g) := (ha.rest 2 (by kernel_rfl)).trans rfl
        exact ⟨rfl, .inl ⟨wanted_none rfl, wp_val (run_qfield1 rfl (ev_tmp eo2)) ⟨rfl, Below.refl _ _⟩⟩⟩
      · intro a' w' ha hs hw hold
        have e0 : a'.tmps[39]? = some (.pointer (some ⟨g, 2, none⟩)) := Rg.slot_get rfl rfl (hw 0 (by kernel_rfl) _ rfl)
        exact ⟨rfl, .inl ⟨wanted_none rfl, wp_val (run_qload1 rfl (ev_tmp e0) (QXa.out.bel hs (by simp))) ⟨rfl, Below.refl _ _⟩⟩⟩
      · intro a' w' ha hs hw hold
        have eo5 : a'.tmps[5]? = some (ptr gg) := (ha.rest 5 (by kernel_rfl)).trans rfl
        exact ⟨rfl, .inl ⟨wanted_none rfl, wp_val (run_pload rfl (ev_tmp eo5) (BXg.out.bel hs (by simp))) ⟨rfl, Below.refl _ _⟩⟩⟩
      · intro a' w' ha hs hw hold
        have e1 : a'.tmps[40]? = some (.agg #[.bool sad, .slice Xad pad qad]) := Rg.slot_get rfl rfl (hw 1 (by kernel_rfl) _ rfl)
        have e2 : a'.tmps[41]? = some (.agg #[.bool sg, .slice Xg pg qg]) := Rg.slot_get rfl rfl (hw 2 (by kernel_rfl) _ rfl)
        exact ⟨rfl, wanted_none rfl, call_step rfl Try.func206 (by kernel_rfl) rfl (map_two (ev_tmp e1) (ev_tmp e2)) (quotient_any _ _ zad G x _ (IVda.out.kn hs.kn) (IVg.out.kn hs.kn) (SZad.out.mono (by omega)) (SG.out.mono (by omega)) (by have := NG.out; omega) ex.out) (fun e w2 he => by obtain ⟨v, rfl, hv, hb⟩ := he; exact ⟨v, rfl, v, rfl, hv, hb⟩)⟩
      · intro a' w' ha hs hw hold
        have eo3 : a'.tmps[3]? = some (ptr (g + 1)) := (ha.rest 3 (by kernel_rfl)).trans rfl
        exact ⟨rfl, .inl ⟨wanted_none rfl, wp_val (run_qfield1 rfl (ev_tmp eo3)) ⟨rfl, Below.refl _ _⟩⟩⟩
      · intro a' w' ha hs hw hold
        have e4 : a'.tmps[43]? = some (.pointer (some ⟨(g + 1), 2, none⟩)) := Rg.slot_get rfl rfl (hw 4 (by kernel_rfl) _ rfl)
        exact ⟨rfl, .inl ⟨wanted_none rfl, wp_val (run_qload1 rfl (ev_tmp e4) (QXb.out.bel hs (by simp))) ⟨rfl, Below.refl _ _⟩⟩⟩
      · intro a' w' ha hs hw hold
        have eo5 : a'.tmps[5]? = some (ptr gg) := (ha.rest 5 (by kernel_rfl)).trans rfl
        exact ⟨rfl, .inl ⟨wanted_none rfl, wp_val (run_pload rfl (ev_tmp eo5) (BXg.out.bel hs (by simp))) ⟨rfl, Below.refl _ _⟩⟩⟩
      · intro a' w' ha hs hw hold
        have e5 : a'.tmps[44]? = some (.agg #[.bool sbd, .slice Xbd pbd qbd]) := Rg.slot_get rfl rfl (hw 5 (by kernel_rfl) _ rfl)
        have e6 : a'.tmps[45]? = some (.agg #[.bool sg, .slice Xg pg qg]) := Rg.slot_get rfl rfl (hw 6 (by kernel_rfl) _ rfl)
        exact ⟨rfl, wanted_none rfl, call_step rfl Try.func206 (by kernel_rfl) rfl (map_two (ev_tmp e5) (ev_tmp e6)) (quotient_any _ _ zbd G y _ (IVdb.out.kn hs.kn) (IVg.out.kn hs.kn) (SZbd.out.mono (by omega)) (SG.out.mono (by omega)) (by have := NG.out; omega) ey.out) (fun e w2 he => by obtain ⟨v, rfl, hv, hb⟩ := he; exact ⟨v, rfl, v, rfl, hv, hb⟩)⟩
      · intro a' w' ha hs hw hold
        exact ⟨rfl, wanted_none rfl, step_new rfl⟩
      · intro a' w' ha hs hw hold
        exact ⟨rfl, wanted_none rfl, step_new rfl⟩
      · intro a' w' ha hs hw hold
        obtain ⟨v3, e3, q3⟩ := hw 3 (by kernel_rfl) _ rfl
        replace e3 : a'.tmps[42]? = some v3 := Rg.slot_get rfl rfl e3
        refine ⟨rfl, wanted_none rfl, by kernel_rfl, fun pv pg pp ph pe1 pe2 pe3 pe4 => ?_⟩
        cases pe1
        exact step_put rfl rfl (ev_tmp (Rg.slot_get rfl rfl pe2)) (ev_tmp e3) pe3 pe4 q3
      · intro a' w' ha hs hw hold
        obtain ⟨v7, e7, q7⟩ := hw 7 (by kernel_rfl) _ rfl
        replace e7 : a'.tmps[46]? = some v7 := Rg.slot_get rfl rfl e7
        refine ⟨rfl, wanted_none rfl, by kernel_rfl, fun pv pg pp ph pe1 pe2 pe3 pe4 => ?_⟩
        cases pe1
        exact step_put rfl rfl (ev_tmp (Rg.slot_get rfl rfl pe2)) (ev_tmp e7) pe3 pe4 q7
    simp only [Rg.allG]
    intro r8x3 _
    intro r8x7 _
    intro a8x8 gb8x8 hE8x8 hB8x8 _ hN8x8 _
    intro a8x9 gb8x9 hE8x9 hB8x9 _ hN8x9 _
    intro v8 he hp
    simp only [List.nil_append, List.cons_append, List.getElem?_cons_succ, List.getElem?_cons_zero, Option.some.injEq] at he
    subst he
    obtain ⟨gx, rfl, Xx, px, qx, BXx, IVx⟩ := hp
    intro v8 he hp
    simp only [List.nil_append, List.cons_append, List.getElem?_cons_succ, List.getElem?_cons_zero, Option.some.injEq] at he
    subst he
    obtain ⟨gy, rfl, Xy, py, qy, BXy, IVy⟩ := hp
    simp only [setOpt, Rg.setOpt, List.set_cons_succ, List.set_cons_zero, ptr]
    refine hK _ _ ?_
    clear hK K
    replace hs := hs.below
    have hgb : gx = gb8x8 := Option.some.inj hE8x8
    have NExr : Hid (gx ≠ (g + 1 + 1)) := by have h1 := RXr.out.lt; unfold Hid; omega
    clear hgb
    have hgb : gy = gb8x9 := Option.some.inj hE8x9
    have NEyr : Hid (gy ≠ (g + 1 + 1)) := by have h1 := RXr.out.lt; unfold Hid; omega
    clear hgb
    clear hE8x8 hB8x8 hN8x8 hE8x9 hB8x9 hN8x9
    replace BXg := nxb BXg hs rfl; replace IVg := nxv IVg hs rfl
    replace QXa := nxq QXa hs rfl; replace IVna := nxv IVna hs rfl; replace IVda := nxv IVda hs rfl
    replace QXb := nxq QXb hs rfl; replace IVnb := nxv IVnb hs rfl; replace IVdb := nxv IVdb hs rfl
    replace RXr := Lib.hid (RXr.out.next hs rfl)
    replace DW := nxd DW hg hs rfl rfl rfl rfl
    generalize hsg : decide ((x : Int) < 0) = sx at *
    clear hsg
    replace BXx := Lib.hid BXx; replace IVx := Lib.hid IVx
    generalize hsg : decide ((y : Int) < 0) = sy at *
    clear hsg
    replace BXy := Lib.hid BXy; replace IVy := Lib.hid IVy
    clear hs
    go_upto_region 6 with fail
    refine Rg.region_gg wn [.is (.pointer (some ⟨g, 0, none⟩)), .is (.agg #[.bool san, .slice Xan pan qan]), .is (.agg #[.bool sy, .slice Xy py qy]), .own (pL1 (y)) (pL1_keep _), .sat (pIv (zan * y)) (pIv_keep _), .is (.pointer (some ⟨(g + 1), 0, none⟩)), .is (.agg #[.bool sbn, .slice Xbn pbn qbn]), .is (.agg #[.bool sx, .slice Xx px qx]), .own (pL1 (x)) (pL1_keep _), .sat (pIv (zbn * x)) (pIv_keep _), .sat (pIv (zan * y + zbn * x)) (pIv_keep _), .own pNew pNew_keep, .put 11 (pPut (zan * y + zbn * x)) (pPut_keep _)] [] [some 47, some 48, some 49, some 50, some 51, some 52, some 53, some 54, some 55, some 56, some 57, some 9, none] (by kernel_rfl) (by kernel_rfl) (by kernel_rfl) (by kernel_rfl) (by kernel_rfl) (by simp [Rg.stos]) (by rfl) (by rfl) (by kernel_rfl) (by simp) ((Below.refl _ _).drew) (fun Q' => ?_) (fun K hK wn hs => ?_)
    · refine ⟨?_, ?_, ?_, ?_, ?_, ?_, ?_, ?_, ?_, ?_, ?_, ?_, ?_, trivial⟩
      · intro a' w' ha hs hw hold
        have eo2 : a'.tmps[2]? = some (ptr g) := (ha.rest 2 (by kernel_rfl)).trans rfl
        exact ⟨rfl, .inl ⟨wanted_none rfl, wp_val (run_qfield0 rfl (ev_tmp eo2)) ⟨rfl, Below.refl _ _⟩⟩⟩
      · intro a' w' ha hs hw hold
        have e0 : a'.tmps[47]? = some (.pointer (some ⟨g, 0, none⟩)) := Rg.slot_get rfl rfl (hw 0 (by kernel_rfl) _ rfl)
        exact ⟨rfl, .inl ⟨wanted_none rfl, wp_val (run_qload0 rfl (ev_tmp e0) (QXa.out.bel hs (by simp))) ⟨rfl, Below.refl _ _⟩⟩⟩
      · intro a' w' ha hs hw hold
        have eo8 : a'.tmps[8]? = some (ptr gy) := (ha.rest 8 (by kernel_rfl)).trans rfl
        exact ⟨rfl, .inl ⟨wanted_none rfl, wp_val (run_pload rfl (ev_tmp eo8) (BXy.out.bel hs (by simp))) ⟨rfl, Below.refl _ _⟩⟩⟩
      · intro a' w' ha hs hw hold
        have e2 : a'.tmps[49]? = some (.agg #[.bool sy, .slice Xy py qy]) := Rg.slot_get rfl rfl (hw 2 (by kernel_rfl) _ rfl)
        exact ⟨rfl, wanted_none rfl, step_list1 rfl (ev_tmp e2) (IVy.out.kn hs.kn)⟩
      · intro a' w' ha hs hw hold
        have e1 : a'.tmps[48]? = some (.agg #[.bool san, .slice Xan pan qan]) := Rg.slot_get rfl rfl (hw 1 (by kernel_rfl) _ rfl)
        obtain ⟨v3, g3, h3, q3⟩ := hw 3 (by kernel_rfl) _ rfl
        have e3 : a'.tmps[50]? = some v3 := Rg.slot_get rfl rfl h3.1
        replace q3 := q3 (by kernel_rfl)
        exact ⟨rfl, wanted_none rfl, call_step rfl Try.func198 (by kernel_rfl) rfl (map_two (ev_tmp e1) (ev_tmp e3)) (product1_any _ _ zan y _ (IVna.out.kn hs.kn) q3 (SZan.out.mono (by omega)) (SY.out.mono (by omega))) (fun e w2 he => by obtain ⟨v, rfl, hv, hb⟩ := he; exact ⟨v, rfl, v, rfl, hv, hb⟩)⟩
      · intro a' w' ha hs hw hold
        have eo3 : a'.tmps[3]? = some (ptr (g + 1)) := (ha.rest 3 (by kernel_rfl)).trans rfl
        exact ⟨rfl, .inl ⟨wanted_none rfl, wp_val (run_qfield0 rfl (ev_tmp eo3)) ⟨rfl, Below.refl _ _⟩⟩⟩
      · intro a' w' ha hs hw hold
        have e5 : a'.tmps[52]? = some (.pointer (some ⟨(g + 1), 0, none⟩)) := Rg.slot_get rfl rfl (hw 5 (by kernel_rfl) _ rfl)
        exact ⟨rfl, .inl ⟨wanted_none rfl, wp_val (run_qload0 rfl (ev_tmp e5) (QXb.out.bel hs (by simp))) ⟨rfl, Below.refl _ _⟩⟩⟩
      · intro a' w' ha hs hw hold
        have eo7 : a'.tmps[7]? = some (ptr gx) := (ha.rest 7 (by kernel_rfl)).trans rfl
        exact ⟨rfl, .inl ⟨wanted_none rfl, wp_val (run_pload rfl (ev_tmp eo7) (BXx.out.bel hs (by simp))) ⟨rfl, Below.refl _ _⟩⟩⟩
      · intro a' w' ha hs hw hold
        have e7 : a'.tmps[54]? = some (.agg #[.bool sx, .slice Xx px qx]) := Rg.slot_get rfl rfl (hw 7 (by kernel_rfl) _ rfl)
        exact ⟨rfl, wanted_none rfl, step_list1 rfl (ev_tmp e7) (IVx.out.kn hs.kn)⟩
      · intro a' w' ha hs hw hold
        have e6 : a'.tmps[53]? = some (.agg #[.bool sbn, .slice Xbn pbn qbn]) := Rg.slot_get rfl rfl (hw 6 (by kernel_rfl) _ rfl)
        obtain ⟨v8, g8, h8, q8⟩ := hw 8 (by kernel_rfl) _ rfl
        have e8 : a'.tmps[55]? = some v8 := Rg.slot_get rfl rfl h8.1
        replace q8 := q8 (by kernel_rfl)
        exact ⟨rfl, wanted_none rfl, call_step rfl Try.func198 (by kernel_rfl) rfl (map_two (ev_tmp e6) (ev_tmp e8)) (product1_any _ _ zbn x _ (IVnb.out.kn hs.kn) q8 (SZbn.out.mono (by omega)) (SX.out.mono (by omega))) (fun e w2 he => by obtain ⟨v, rfl, hv, hb⟩ := he; exact ⟨v, rfl, v, rfl, hv, hb⟩)⟩
      · intro a' w' ha hs hw hold
        obtain ⟨v4, e4, q4⟩ := hw 4 (by kernel_rfl) _ rfl
        replace e4 : a'.tmps[51]? = some v4 := Rg.slot_get rfl rfl e4
        obtain ⟨v9, e9, q9⟩ := hw 9 (by kernel_rfl) _ rfl
        replace e9 : a'.tmps[56]? = some v9 := Rg.slot_get rfl rfl e9
        exact ⟨rfl, wanted_none rfl, call_step rfl Try.func30 (by kernel_rfl) rfl (map_two (ev_tmp e4) (ev_tmp e9)) (add_any _ _ (zan * y) (zbn * x) _ q4 q9 ((SZan.out.mul SY.out).mono (by omega)) ((SZbn.out.mul SX.out).mono (by omega))) (fun e w2 he => by obtain ⟨v, rfl, hv, hb⟩ := he; exact ⟨v, rfl, v, rfl, hv, hb⟩)⟩
      · intro a' w' ha hs hw hold
        exact ⟨rfl, wanted_none rfl, step_new rfl⟩
      · intro a' w' ha hs hw hold
        obtain ⟨v10, e10, q10⟩ := hw 10 (by kernel_rfl) _ rfl
        replace e10 : a'.tmps[57]? = some v10 := Rg.slot_get rfl rfl e10
        refine ⟨rfl, wanted_none rfl, by kernel_rfl, fun pv pg pp ph pe1 pe2 pe3 pe4 => ?_⟩
        cases pe1
        exact step_put rfl rfl (ev_tmp (Rg.slot_get rfl rfl pe2)) (ev_tmp e10) pe3 pe4 q10
    simp only [Rg.allG]
    intro r9x3 _ _ _ _ _ _
    intro r9x4 _
    intro r9x8 _ _ _ _ _ _
    intro r9x9 _
    intro r9x10 _
    intro a9x11 gb9x11 hE9x11 hB9x11 _ hN9x11 _
    intro v9 he hp
    simp only [List.nil_append, List.cons_append, List.getElem?_cons_succ, List.getElem?_cons_zero, Option.some.injEq] at he
    subst he
    obtain ⟨gn, rfl, Xn, pn, qn, BXn, IVn⟩ := hp
    simp only [setOpt, Rg.setOpt, List.set_cons_succ, List.set_cons_zero, ptr]
    refine hK _ _ ?_
    clear hK K
    replace hs := hs.below
    have hgb : gn = gb9x11 := Option.some.inj hE9x11
    have NEnr : Hid (gn ≠ (g + 1 + 1)) := by have h1 := RXr.out.lt; unfold Hid; omega
    clear hgb
    clear hE9x11 hB9x11 hN9x11
    replace BXg := nxb BXg hs rfl; replace IVg := nxv IVg hs rfl
    replace BXx := nxb BXx hs rfl; replace IVx := nxv IVx hs rfl
    replace BXy := nxb BXy hs rfl; replace IVy := nxv IVy hs rfl
    replace QXa := nxq QXa hs rfl; replace IVna := nxv IVna hs rfl; replace IVda := nxv IVda hs rfl
    replace QXb := nxq QXb hs rfl; replace IVnb := nxv IVnb hs rfl; replace IVdb := nxv IVdb hs rfl
    replace RXr := Lib.hid (RXr.out.next hs rfl)
    replace DW := nxd DW hg hs rfl rfl rfl rfl
    generalize hsg : decide ((zan * y + zbn * x : Int) < 0) = sn at *
    clear hsg
    replace BXn := Lib.hid BXn; replace IVn := Lib.hid IVn
    clear hs
    rw [en.out] at IVn
    go_upto_region 7 with fail
    have u10a := BXn.out.cell0; have u10b := BXn.out.cell1
    have u11a := BXg.out.cell0; have u11b := BXg.out.cell1
    go_wp2_with fail
    clear u10a u10b u11a u11b
    refine (gcdI_any _ _ n G _ IVn.out IVg.out (SN.out.mono (by omega)) (SG.out.mono (by omega))).mono ?_
    rintro e y12 ⟨_, rfl, hq, hb⟩
    rw [eh.out] at hq
    obtain ⟨Xh, ph, qh, rfl, _, _, _⟩ := hq.form
    have Qh := Lib.hid hq; clear hq
    have B := Lib.hid hb; clear hb
    generalize hs : decide ((h : Int) < 0) = sh at *
    clear hs
    go_upto_region 8 with fail
    obtain ⟨W13, hW⟩ : ∃ W13, W13 = (y12.alloc (Obj.cells #[Value.bool sh, Value.slice Xh ph qh] 27)) := ⟨_, rfl⟩
    rw [← hW]
    have BXh : Hid (Box W13 (y12.heap.size) sh (.slice Xh ph qh)) := by rw [hW]; have := Box.new y12 sh (.slice Xh ph qh); simpa [Hid] using this
    have IVh : Hid (Iv W13 (.agg #[.bool sh, .slice Xh ph qh]) (h)) := by rw [hW]; exact (Qh.out).alloc _
    have hd : Below wn.heap.size wn W13 := by rw [hW]; exact (B.out).alloc (by have := B.out.size; simp <;> omega) _
    have NEhr : Hid ((y12.heap.size) ≠ (g + 1 + 1)) := by have := RXr.out.lt; have := B.out.size; unfold Hid; omega
    clear hW B Qh
    generalize hgn13 : y12.heap.size = gh at *
    clear hgn13
    replace BXg := nxb BXg hd rfl; replace IVg := nxv IVg hd rfl
    replace BXx := nxb BXx hd rfl; replace IVx := nxv IVx hd rfl
    replace BXy := nxb BXy hd rfl; replace IVy := nxv IVy hd rfl
    replace BXn := nxb BXn hd rfl; replace IVn := nxv IVn hd rfl
    replace QXa := nxq QXa hd rfl; replace IVna := nxv IVna hd rfl; replace IVda := nxv IVda hd rfl
    replace QXb := nxq QXb hd rfl; replace IVnb := nxv IVnb hd rfl; replace IVdb := nxv IVdb hd rfl
    replace RXr := Lib.hid (RXr.out.next hd rfl)
    replace DW := nxd DW hg hd rfl rfl rfl rfl
    clear hd
    refine Rg.region_gg W13 [.is (.agg #[.bool sn, .slice Xn pn qn]), .is (.agg #[.bool sh, .slice Xh ph qh]), .sat (pIv (n / h)) (pIv_keep _), .is (.agg #[.bool sx, .slice Xx px qx]), .is (.agg #[.bool sy, .slice Xy py qy]), .is (.agg #[.bool sg, .slice Xg pg qg]), .is (.agg #[.bool sh, .slice Xh ph qh]), .sat (pIv (G / h)) (pIv_keep _), .own (pL2 (y) (G / h)) (pL2_keep _ _), .sat (pIv (x * y * (G / h))) (pIv_keep _), .sat (pQv (n / h) (x * y * (G / h))) (pQv_keep _ _), .sto (g + 1 + 1) (sQ (g + 1 + 1) (n / h) (x * y * (G / h))) (sQ_keep _ _ _)] [(g + 1 + 1)] [some 61, some 62, some 63, some 64, some 65, some 66, some 67, some 68, some 69, some 70, some 71, none] (by kernel_rfl) (by kernel_rfl) (by kernel_rfl) (by kernel_rfl) (by kernel_rfl) (by simp [Rg.stos]) (by rfl) (by rfl) (by kernel_rfl) (by intro g hg; simp only [List.mem_cons, List.not_mem_nil, or_false] at hg; subst hg; exact RXr.out.lt) ((Below.refl _ _).drew) (fun Q' => ?_) (fun K hK wn hs => ?_)
    · refine ⟨?_, ?_, ?_, ?_, ?_, ?_, ?_, ?_, ?_, ?_, ?_, ?_, trivial⟩
      · intro a' w' ha hs hw hold
        have eo9 : a'.tmps[9]? = some (ptr gn) := (ha.rest 9 (by kernel_rfl)).trans rfl
        exact ⟨rfl, .inl ⟨wanted_none rfl, wp_val (run_pload rfl (ev_tmp eo9) (BXn.out.bel hs (by simp only [List.mem_cons, List.not_mem_nil, or_false, not_or]; exact NEnr.out))) ⟨rfl, Below.refl _ _⟩⟩⟩
      · intro a' w' ha hs hw hold
        have eo10 : a'.tmps[10]? = some (ptr gh) := (ha.rest 10 (by kernel_rfl)).trans rfl
        exact ⟨rfl, .inl ⟨wanted_none rfl, wp_val (run_pload rfl (ev_tmp eo10) (BXh.out.bel hs (by simp only [List.mem_cons, List.not_mem_nil, or_false, not_or]; exact NEhr.out))) ⟨rfl, Below.refl _ _⟩⟩⟩
      · intro a' w' ha hs hw hold
        have e0 : a'.tmps[61]? = some (.agg #[.bool sn, .slice Xn pn qn]) := Rg.slot_get rfl rfl (hw 0 (by kernel_rfl) _ rfl)
        have e1 : a'.tmps[62]? = some (.agg #[.bool sh, .slice Xh ph qh]) := Rg.slot_get rfl rfl (hw 1 (by kernel_rfl) _ rfl)
        exact ⟨rfl, wanted_none rfl, call_step rfl Try.func206 (by kernel_rfl) rfl (map_two (ev_tmp e0) (ev_tmp e1)) (quotient_any _ _ n h _ _ (IVn.out.kn hs.kn) (IVh.out.kn hs.kn) (SN.out.mono (by omega)) (SH.out.mono (by omega)) (by have := NH.out; omega) rfl) (fun e w2 he => by obtain ⟨v, rfl, hv, hb⟩ := he; exact ⟨v, rfl, v, rfl, hv, hb⟩)⟩
      · intro a' w' ha hs hw hold
        have eo7 : a'.tmps[7]? = some (ptr gx) := (ha.rest 7 (by kernel_rfl)).trans rfl
        exact ⟨rfl, .inl ⟨wanted_none rfl, wp_val (run_pload rfl (ev_tmp eo7) (BXx.out.bel hs (by simp only [List.mem_cons, List.not_mem_nil, or_false, not_or]; exact NExr.out))) ⟨rfl, Below.refl _ _⟩⟩⟩
      · intro a' w' ha hs hw hold
        have eo8 : a'.tmps[8]? = some (ptr gy) := (ha.rest 8 (by kernel_rfl)).trans rfl
        exact ⟨rfl, .inl ⟨wanted_none rfl, wp_val (run_pload rfl (ev_tmp eo8) (BXy.out.bel hs (by simp only [List.mem_cons, List.not_mem_nil, or_false, not_or]; exact NEyr.out))) ⟨rfl, Below.refl _ _⟩⟩⟩
      · intro a' w' ha hs hw hold
        have eo5 : a'.tmps[5]? = some (ptr gg) := (ha.rest 5 (by kernel_rfl)).trans rfl
        exact ⟨rfl, .inl ⟨wanted_none rfl, wp_val (run_pload rfl (ev_tmp eo5) (BXg.out.bel hs (by simp only [List.mem_cons, List.not_mem_nil, or_false, not_or]; exact NEgr.out))) ⟨rfl, Below.refl _ _⟩⟩⟩
      · intro a' w' ha hs hw hold
        have eo10 : a'.tmps[10]? = some (ptr gh) := (ha.rest 10 (by kernel_rfl)).trans rfl
        exact ⟨rfl, .inl ⟨wanted_none rfl, wp_val (run_pload rfl (ev_tmp eo10) (BXh.out.bel hs (by simp only [List.mem_cons, List.not_mem_nil, or_false, not_or]; exact NEhr.out))) ⟨rfl, Below.refl _ _⟩⟩⟩
      · intro a' w' ha hs hw hold
        have e5 : a'.tmps[66]? = some (.agg #[.bool sg, .slice Xg pg qg]) := Rg.slot_get rfl rfl (hw 5 (by kernel_rfl) _ rfl)
        have e6 : a'.tmps[67]? = some (.agg #[.bool sh, .slice Xh ph qh]) := Rg.slot_get rfl rfl (hw 6 (by kernel_rfl) _ rfl)
        exact ⟨rfl, wanted_none rfl, call_step rfl Try.func206 (by kernel_rfl) rfl (map_two (ev_tmp e5) (ev_tmp e6)) (quotient_any _ _ G h _ _ (IVg.out.kn hs.kn) (IVh.out.kn hs.kn) (SG.out.mono (by omega)) (SH.out.mono (by omega)) (by have := NH.out; omega) rfl) (fun e w2 he => by obtain ⟨v, rfl, hv, hb⟩ := he; exact ⟨v, rfl, v, rfl, hv, hb⟩)⟩
      · intro a' w' ha hs hw hold
        have e4 : a'.tmps[65]? = some (.agg #[.bool sy, .slice Xy py qy]) := Rg.slot_get rfl rfl (hw 4 (by kernel_rfl) _ rfl)
        obtain ⟨v7, e7, q7⟩ := hw 7 (by kernel_rfl) _ rfl
        replace e7 : a'.tmps[68]? = some v7 := Rg.slot_get rfl rfl e7
        exact ⟨rfl, wanted_none rfl, step_list2 rfl (ev_tmp e4) (ev_tmp e7) (IVy.out.kn hs.kn) q7⟩
      · intro a' w' ha hs hw hold
        have e3 : a'.tmps[64]? = some (.agg #[.bool sx, .slice Xx px qx]) := Rg.slot_get rfl rfl (hw 3 (by kernel_rfl) _ rfl)
        obtain ⟨v8, g8, h8, q8⟩ := hw 8 (by kernel_rfl) _ rfl
        have e8 : a'.tmps[69]? = some v8 := Rg.slot_get rfl rfl h8.1
        replace q8 := q8 (by kernel_rfl)
        exact ⟨rfl, wanted_none rfl, call_step rfl Try.func198 (by kernel_rfl) rfl (map_two (ev_tmp e3) (ev_tmp e8)) (product2_any _ _ x y (G / h) _ (IVx.out.kn hs.kn) q8 (SX.out.mono (by omega)) (SY.out.mono (by omega)) (SK.out.mono (by omega))) (fun e w2 he => by obtain ⟨v, rfl, hv, hb⟩ := he; exact ⟨v, rfl, v, rfl, hv, hb⟩)⟩
      · intro a' w' ha hs hw hold
        obtain ⟨v2, e2, q2⟩ := hw 2 (by kernel_rfl) _ rfl
        replace e2 : a'.tmps[63]? = some v2 := Rg.slot_get rfl rfl e2
        obtain ⟨v9, e9, q9⟩ := hw 9 (by kernel_rfl) _ rfl
        replace e9 : a'.tmps[70]? = some v9 := Rg.slot_get rfl rfl e9
        exact ⟨rfl, wanted_none rfl, step_build rfl (ev_tmp e2) (ev_tmp e9) q2 q9⟩
      · intro a' w' ha hs hw hold
        obtain ⟨v10, e10, q10⟩ := hw 10 (by kernel_rfl) _ rfl
        replace e10 : a'.tmps[71]? = some v10 := Rg.slot_get rfl rfl e10
        have eo4 : a'.tmps[4]? = some (ptr (g + 1 + 1)) := (ha.rest 4 (by kernel_rfl)).trans rfl
        exact ⟨rfl, wanted_none rfl, fun he => step_stoq rfl rfl (ev_tmp eo4) (ev_tmp e10) q10 RXr.out he⟩
    simp only [Rg.allG]
    intro r14x2 _
    intro r14x7 _
    intro r14x8 _ _ _ _ _ _
    intro r14x9 _
    intro r14x10 _
    intro hSr
    simp only [setOpt, Rg.setOpt, List.set_cons_succ, List.set_cons_zero]
    refine hK _ _ ?_
    clear hK K
    have DN : Hid (Below g w wn) := hs.base DW.out (by have := hg.out; omega) (by simp only [List.mem_cons, List.not_mem_nil, or_false]; omega)
    obtain ⟨Ar, ir, cr, Br, jr, dr, hcr, hir, hjr⟩ := hSr
    have kra := hcr.cell0; have krb := hcr.cell1; have krc := hcr.cell2; have krd := hcr.cell3
    have HIr := Lib.hid hir; clear hir
    have HJr := Lib.hid hjr; clear hjr
    go_wp2
    exact bodyPost_ret (v := .agg #[.bool (decide (n / h < 0)), .slice Ar ir cr, .bool (decide (x * y * (G / h) < 0)), .slice Br jr dr]) (by simp [results, Try.results195, go_sem, kra, krb, krc, krd]) rfl ⟨_, rfl, ⟨Ar, ir, cr, Br, jr, dr, rfl, HIr.out, HJr.out⟩, by rw [hg.out]; exact DN.out⟩
end Go.Proofs.Ytfigimfdojbkeaa

