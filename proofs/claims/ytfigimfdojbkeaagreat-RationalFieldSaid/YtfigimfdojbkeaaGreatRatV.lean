/-
  Layer 2's laws.
-/
import Derived.Test.YtfigimfdojbkeaaGreatRatU
import Derived.Deep.DeepCutAuto
import Derived.Handy
namespace Go.Proofs.YtfigimfdojbkeaaGreat
open Go.RowKit
attribute [local go_sem ↓] Go.wp_at_zero Go.wp_at_succ

theorem fl_div {a b : Rat} (h : b.num ≠ 0) : a * b / b = a := Rat.mul_div_cancel (by intro e; rw [e] at h; exact h rfl)
theorem fl_inv {b : Rat} (h : b.num ≠ 0) : b⁻¹ * b = ((1 : Int) : Rat) := by rw [Rat.inv_mul_cancel b (by intro e; rw [e] at h; exact h rfl)]; rfl
theorem fl_neg (a : Rat) : a + -a = ((0 : Int) : Rat) := by rw [Rat.add_neg_cancel]; rfl
theorem fl_one (a : Rat) : a * ((1 : Int) : Rat) = a := by have : ((1 : Int) : Rat) = 1 := rfl; rw [this, Rat.mul_one]
theorem fl_sub (a b : Rat) : a + b - b = a := by grind
theorem sg_zero {b : Rat} (h : b.num = 0) : sg b.num = 0 := by rw [h]; rfl
theorem sg_ne {b : Rat} (h : b.num ≠ 0) : sg b.num ≠ 0 := by unfold sg; split <;> (try split) <;> omega


set_option maxHeartbeats 8000000 in
set_option maxRecDepth 100000 in
theorem lawField_any (n0 d0 k0 n1 d1 k1 n2 d2 k2 : Int) (w : World) (h0 : Rw n0 d0 k0) (h1 : Rw n1 d1 k1) (h2 : Rw n2 d2 k2) : Calls Tryz.prog 6 #[.agg #[.int .i8 n0, .int .i8 d0, .int .u8 k0, .int .i8 n1, .int .i8 d1, .int .u8 k1, .int .i8 n2, .int .i8 d2, .int .u8 k2]] w (RetV (.bool true) w) := by
  obtain ⟨a, ea⟩ : ∃ r, mkQ n0 d0 k0 = r := ⟨_, rfl⟩
  obtain ⟨b, eb⟩ : ∃ r, mkQ n1 d1 k1 = r := ⟨_, rfl⟩
  obtain ⟨c, ec⟩ : ∃ r, mkQ n2 d2 k2 = r := ⟨_, rfl⟩
  have SA : Hid (Sr a 7) := ea ▸ mkQ_sr h0
  have SB : Hid (Sr b 7) := eb ▸ mkQ_sr h1
  have SC : Hid (Sr c 7) := ec ▸ mkQ_sr h2
  replace ea := Lib.hid ea; replace eb := Lib.hid eb; replace ec := Lib.hid ec
  replace h0 := Lib.hid h0; replace h1 := Lib.hid h1; replace h2 := Lib.hid h2
  go_enter Tryz.func6, Tryz.ntmps6
  go_wp2_with fail
  obtain ⟨W, hW⟩ : ∃ W, W = w.alloc (Obj.cells #[Value.int IntKind.i8 n0, Value.int IntKind.i8 d0, Value.int IntKind.u8 k0, Value.int IntKind.i8 n1, Value.int IntKind.i8 d1, Value.int IntKind.u8 k1, Value.int IntKind.i8 n2, Value.int IntKind.i8 d2, Value.int IntKind.u8 k2] 59) := ⟨_, rfl⟩
  rw [← hW]
  have TX : Hid (T3 W w.heap.size n0 d0 k0 n1 d1 k1 n2 d2 k2) := by rw [hW]; exact T3.new _ _ _ _ _ _ _ _ _ _
  have DW : Hid (Below w.heap.size w W) := by rw [hW]; exact (Below.refl _ _).alloc (Nat.le_refl _) _
  clear hW
  generalize hg : w.heap.size = g at *
  replace hg := Lib.hid hg
  refine (examples_any _).mono ?_
  rintro e y0 ⟨rfl, hb⟩
  replace TX := Lib.hid (TX.out.next hb rfl)
  replace DW := Lib.hid (link_below DW.out hb (by have := DW.out.size; have := hg.out; omega) rfl rfl rfl rfl)
  clear hb
  go_upto_region 4 with fail
  refine Rg.region_gg y0 [.is (.pointer (some ⟨g, 0, none⟩)), .is (.agg #[.int .i8 n0, .int .i8 d0, .int .u8 k0]), .sat (pQv (a.num) ((a.den : Int))) (pQv_keep _ _), .is (.pointer (some ⟨g, 3, none⟩)), .is (.agg #[.int .i8 n1, .int .i8 d1, .int .u8 k1]), .sat (pQv (b.num) ((b.den : Int))) (pQv_keep _ _), .is (.pointer (some ⟨g, 6, none⟩)), .is (.agg #[.int .i8 n2, .int .i8 d2, .int .u8 k2]), .sat (pQv (c.num) ((c.den : Int))) (pQv_keep _ _), .own pNewQ pNewQ_keep, .own pNewQ pNewQ_keep, .own pNewQ pNewQ_keep, .put 9 (pPutQ (a.num) ((a.den : Int))) (pPutQ_keep _ _), .put 10 (pPutQ (b.num) ((b.den : Int))) (pPutQ_keep _ _), .put 11 (pPutQ (c.num) ((c.den : Int))) (pPutQ_keep _ _)] [] [some 16, some 17, some 18, some 19, some 20, some 21, some 22, some 23, some 24, some 4, some 5, some 6, none, none, none] (by kernel_rfl) (by kernel_rfl) (by kernel_rfl) (by kernel_rfl) (by kernel_rfl) (by simp [Rg.stos]) (by rfl) (by rfl) (by kernel_rfl) (by simp) ((Below.refl _ _).drew) (fun Q' => ?_) (fun K hK wn hs => ?_)
  · refine ⟨?_, ?_, ?_, ?_, ?_, ?_, ?_, ?_, ?_, ?_, ?_, ?_, ?_, ?_, ?_, trivial⟩
    · intro a' w' ha hs hw hold
      have eo1 : a'.tmps[1]? = some (ptr g) := (ha.rest 1 (by kernel_rfl)).trans rfl
      exact ⟨rfl, .inl ⟨wanted_none rfl, wp_val (run_at3 0 rfl (ev_tmp eo1) rfl (by omega)) ⟨rfl, Below.refl _ _⟩⟩⟩
    · intro a' w' ha hs hw hold
      have e0 : a'.tmps[16]? = some (.pointer (some ⟨g, 0, none⟩)) := Rg.slot_get rfl rfl (hw 0 (by kernel_rfl) _ rfl)
      exact ⟨rfl, .inl ⟨wanted_none rfl, wp_val (run_load30 rfl (ev_tmp e0) (TX.out.bel hs (by simp))) ⟨rfl, Below.refl _ _⟩⟩⟩
    · intro a' w' ha hs hw hold
      have e1 : a'.tmps[17]? = some (.agg #[.int .i8 n0, .int .i8 d0, .int .u8 k0]) := Rg.slot_get rfl rfl (hw 1 (by kernel_rfl) _ rfl)
      exact ⟨rfl, wanted_none rfl, call_step rfl Tryz.func15 (by kernel_rfl) rfl (map_one (ev_tmp e1)) (made_is a _ h0.out ea.out) (fun e w2 he => by obtain ⟨v, rfl, hv, hb⟩ := he; exact ⟨v, rfl, v, rfl, hv, hb⟩)⟩
    · intro a' w' ha hs hw hold
      have eo1 : a'.tmps[1]? = some (ptr g) := (ha.rest 1 (by kernel_rfl)).trans rfl
      exact ⟨rfl, .inl ⟨wanted_none rfl, wp_val (run_at3 1 rfl (ev_tmp eo1) rfl (by omega)) ⟨rfl, Below.refl _ _⟩⟩⟩
    · intro a' w' ha hs hw hold
      have e3 : a'.tmps[19]? = some (.pointer (some ⟨g, 3, none⟩)) := Rg.slot_get rfl rfl (hw 3 (by kernel_rfl) _ rfl)
      exact ⟨rfl, .inl ⟨wanted_none rfl, wp_val (run_load31 rfl (ev_tmp e3) (TX.out.bel hs (by simp))) ⟨rfl, Below.refl _ _⟩⟩⟩
    · intro a' w' ha hs hw hold
      have e4 : a'.tmps[20]? = some (.agg #[.int .i8 n1, .int .i8 d1, .int .u8 k1]) := Rg.slot_get rfl rfl (hw 4 (by kernel_rfl) _ rfl)
      exact ⟨rfl, wanted_none rfl, call_step rfl Tryz.func15 (by kernel_rfl) rfl (map_one (ev_tmp e4)) (made_is b _ h1.out eb.out) (fun e w2 he => by obtain ⟨v, rfl, hv, hb⟩ := he; exact ⟨v, rfl, v, rfl, hv, hb⟩)⟩
    · intro a' w' ha hs hw hold
      have eo1 : a'.tmps[1]? = some (ptr g) := (ha.rest 1 (by kernel_rfl)).trans rfl
      exact ⟨rfl, .inl ⟨wanted_none rfl, wp_val (run_at3 2 rfl (ev_tmp eo1) rfl (by omega)) ⟨rfl, Below.refl _ _⟩⟩⟩
    · intro a' w' ha hs hw hold
      have e6 : a'.tmps[22]? = some (.pointer (some ⟨g, 6, none⟩)) := Rg.slot_get rfl rfl (hw 6 (by kernel_rfl) _ rfl)
      exact ⟨rfl, .inl ⟨wanted_none rfl, wp_val (run_load32 rfl (ev_tmp e6) (TX.out.bel hs (by simp))) ⟨rfl, Below.refl _ _⟩⟩⟩
    · intro a' w' ha hs hw hold
      have e7 : a'.tmps[23]? = some (.agg #[.int .i8 n2, .int .i8 d2, .int .u8 k2]) := Rg.slot_get rfl rfl (hw 7 (by kernel_rfl) _ rfl)
      exact ⟨rfl, wanted_none rfl, call_step rfl Tryz.func15 (by kernel_rfl) rfl (map_one (ev_tmp e7)) (made_is c _ h2.out ec.out) (fun e w2 he => by obtain ⟨v, rfl, hv, hb⟩ := he; exact ⟨v, rfl, v, rfl, hv, hb⟩)⟩
    · intro a' w' ha hs hw hold
      exact ⟨rfl, wanted_none rfl, step_newq rfl⟩
    · intro a' w' ha hs hw hold
      exact ⟨rfl, wanted_none rfl, step_newq rfl⟩
    · intro a' w' ha hs hw hold
      exact ⟨rfl, wanted_none rfl, step_newq rfl⟩
    · intro a' w' ha hs hw hold
      obtain ⟨v2, e2, q2⟩ := hw 2 (by kernel_rfl) _ rfl
      replace e2 : a'.tmps[18]? = some v2 := Rg.slot_get rfl rfl e2
      refine ⟨rfl, wanted_none rfl, by kernel_rfl, fun pv pg pp ph pe1 pe2 pe3 pe4 => ?_⟩
      cases pe1
      exact step_putq rfl rfl (ev_tmp (Rg.slot_get rfl rfl pe2)) (ev_tmp e2) pe3 pe4 q2
    · intro a' w' ha hs hw hold
      obtain ⟨v5, e5, q5⟩ := hw 5 (by kernel_rfl) _ rfl
      replace e5 : a'.tmps[21]? = some v5 := Rg.slot_get rfl rfl e5
      refine ⟨rfl, wanted_none rfl, by kernel_rfl, fun pv pg pp ph pe1 pe2 pe3 pe4 => ?_⟩
      cases pe1
      exact step_putq rfl rfl (ev_tmp (Rg.slot_get rfl rfl pe2)) (ev_tmp e5) pe3 pe4 q5
    · intro a' w' ha hs hw hold
      obtain ⟨v8, e8, q8⟩ := hw 8 (by kernel_rfl) _ rfl
      replace e8 : a'.tmps[24]? = some v8 := Rg.slot_get rfl rfl e8
      refine ⟨rfl, wanted_none rfl, by kernel_rfl, fun pv pg pp ph pe1 pe2 pe3 pe4 => ?_⟩
      cases pe1
      exact step_putq rfl rfl (ev_tmp (Rg.slot_get rfl rfl pe2)) (ev_tmp e8) pe3 pe4 q8
  simp only [Rg.allG]
  intro r1x2 _
  intro r1x5 _
  intro r1x8 _
  intro a1x9 gb1x9 hE1x9 hB1x9 _ hN1x9 _
  intro a1x10 gb1x10 hE1x10 hB1x10 _ hN1x10 _
  intro a1x11 gb1x11 hE1x11 hB1x11 _ hN1x11 _
  intro v1 he hp
  simp only [List.nil_append, List.cons_append, List.getElem?_cons_succ, List.getElem?_cons_zero, Option.some.injEq] at he
  subst he
  obtain ⟨ga, rfl, Xan, pan, qan, Xad, pad, qad, QXa, IVna, IVda⟩ := hp
  intro v1 he hp
  simp only [List.nil_append, List.cons_append, List.getElem?_cons_succ, List.getElem?_cons_zero, Option.some.injEq] at he
  subst he
  obtain ⟨gb, rfl, Xbn, pbn, qbn, Xbd, pbd, qbd, QXb, IVnb, IVdb⟩ := hp
  intro v1 he hp
  simp only [List.nil_append, List.cons_append, List.getElem?_cons_succ, List.getElem?_cons_zero, Option.some.injEq] at he
  subst he
  obtain ⟨gc, rfl, Xcn, pcn, qcn, Xcd, pcd, qcd, QXc, IVnc, IVdc⟩ := hp
  simp only [setOpt, Rg.setOpt, List.set_cons_succ, List.set_cons_zero, ptr]
  refine hK _ _ ?_
  clear hK K
  replace hs := hs.below
  have hgb : ga = gb1x9 := Option.some.inj hE1x9
  clear hgb
  have hgb : gb = gb1x10 := Option.some.inj hE1x10
  clear hgb
  have hgb : gc = gb1x11 := Option.some.inj hE1x11
  clear hgb
  clear hE1x9 hB1x9 hN1x9 hE1x10 hB1x10 hN1x10 hE1x11 hB1x11 hN1x11
  replace TX := Lib.hid (TX.out.next hs rfl)
  replace DW := Lib.hid (link_below DW.out hs (by have := DW.out.size; have := hg.out; omega) rfl rfl rfl rfl)
  generalize hsg : decide ((a.num : Int) < 0) = san at *
  clear hsg
  generalize hsg : decide (((a.den : Int) : Int) < 0) = sad at *
  clear hsg
  replace QXa := Lib.hid QXa; replace IVna := Lib.hid IVna; replace IVda := Lib.hid IVda
  generalize hsg : decide ((b.num : Int) < 0) = sbn at *
  clear hsg
  generalize hsg : decide (((b.den : Int) : Int) < 0) = sbd at *
  clear hsg
  replace QXb := Lib.hid QXb; replace IVnb := Lib.hid IVnb; replace IVdb := Lib.hid IVdb
  generalize hsg : decide ((c.num : Int) < 0) = scn at *
  clear hsg
  generalize hsg : decide (((c.den : Int) : Int) < 0) = scd at *
  clear hsg
  replace QXc := Lib.hid QXc; replace IVnc := Lib.hid IVnc; replace IVdc := Lib.hid IVdc
  clear hs
  go_upto_region 5 with fail
  have QVa : Hid (Qv wn (.agg #[.bool san, .slice Xan pan qan, .bool sad, .slice Xad pad qad]) (a.num) ((a.den : Int))) := qv_of IVna.out IVda.out
  have QVb : Hid (Qv wn (.agg #[.bool sbn, .slice Xbn pbn qbn, .bool sbd, .slice Xbd pbd qbd]) (b.num) ((b.den : Int))) := qv_of IVnb.out IVdb.out
  refine Rg.region_gg wn [.is (.agg #[.bool san, .slice Xan pan qan, .bool sad, .slice Xad pad qad]), .is (.agg #[.bool sbn, .slice Xbn pbn qbn, .bool sbd, .slice Xbd pbd qbd]), .sat (pQv ((a + b).num) (((a + b).den : Int))) (pQv_keep _ _), .is (.agg #[.bool san, .slice Xan pan qan, .bool sad, .slice Xad pad qad]), .is (.agg #[.bool sbn, .slice Xbn pbn qbn, .bool sbd, .slice Xbd pbd qbd]), .sat (pQv ((a * b).num) (((a * b).den : Int))) (pQv_keep _ _), .own pNewQ pNewQ_keep, .own pNewQ pNewQ_keep, .put 6 (pPutQ ((a + b).num) (((a + b).den : Int))) (pPutQ_keep _ _), .put 7 (pPutQ ((a * b).num) (((a * b).den : Int))) (pPutQ_keep _ _)] [] [some 25, some 26, some 27, some 28, some 29, some 30, some 7, some 8, none, none] (by kernel_rfl) (by kernel_rfl) (by kernel_rfl) (by kernel_rfl) (by kernel_rfl) (by simp [Rg.stos]) (by rfl) (by rfl) (by kernel_rfl) (by simp) ((Below.refl _ _).drew) (fun Q' => ?_) (fun K hK wn hs => ?_)
  · refine ⟨?_, ?_, ?_, ?_, ?_, ?_, ?_, ?_, ?_, ?_, trivial⟩
    · intro a' w' ha hs hw hold
      have eo4 : a'.tmps[4]? = some (ptr ga) := (ha.rest 4 (by kernel_rfl)).trans rfl
      exact ⟨rfl, .inl ⟨wanted_none rfl, wp_val (run_qload rfl (ev_tmp eo4) (QXa.out.bel hs (by simp))) ⟨rfl, Below.refl _ _⟩⟩⟩
    · intro a' w' ha hs hw hold
      have eo5 : a'.tmps[5]? = some (ptr gb) := (ha.rest 5 (by kernel_rfl)).trans rfl
      exact ⟨rfl, .inl ⟨wanted_none rfl, wp_val (run_qload rfl (ev_tmp eo5) (QXb.out.bel hs (by simp))) ⟨rfl, Below.refl _ _⟩⟩⟩
    · intro a' w' ha hs hw hold
      have e0 : a'.tmps[25]? = some (.agg #[.bool san, .slice Xan pan qan, .bool sad, .slice Xad pad qad]) := Rg.slot_get rfl rfl (hw 0 (by kernel_rfl) _ rfl)
      have e1 : a'.tmps[26]? = some (.agg #[.bool sbn, .slice Xbn pbn qbn, .bool sbd, .slice Xbd pbd qbd]) := Rg.slot_get rfl rfl (hw 1 (by kernel_rfl) _ rfl)
      exact ⟨rfl, wanted_none rfl, call_step rfl Tryz.func17 (by kernel_rfl) rfl (map_two (ev_tmp e0) (ev_tmp e1)) (qadd_any _ _ a b _ (QVa.out.kn hs.kn) (QVb.out.kn hs.kn) (SA.out.mono (show 7 ≤ 100000 by decide)) (SB.out.mono (show 7 ≤ 100000 by decide))) (fun e w2 he => by obtain ⟨v, rfl, hv, hb⟩ := he; exact ⟨v, rfl, v, rfl, hv, hb⟩)⟩
    · intro a' w' ha hs hw hold
      have eo4 : a'.tmps[4]? = some (ptr ga) := (ha.rest 4 (by kernel_rfl)).trans rfl
      exact ⟨rfl, .inl ⟨wanted_none rfl, wp_val (run_qload rfl (ev_tmp eo4) (QXa.out.bel hs (by simp))) ⟨rfl, Below.refl _ _⟩⟩⟩
    · intro a' w' ha hs hw hold
      have eo5 : a'.tmps[5]? = some (ptr gb) := (ha.rest 5 (by kernel_rfl)).trans rfl
      exact ⟨rfl, .inl ⟨wanted_none rfl, wp_val (run_qload rfl (ev_tmp eo5) (QXb.out.bel hs (by simp))) ⟨rfl, Below.refl _ _⟩⟩⟩
    · intro a' w' ha hs hw hold
      have e3 : a'.tmps[28]? = some (.agg #[.bool san, .slice Xan pan qan, .bool sad, .slice Xad pad qad]) := Rg.slot_get rfl rfl (hw 3 (by kernel_rfl) _ rfl)
      have e4 : a'.tmps[29]? = some (.agg #[.bool sbn, .slice Xbn pbn qbn, .bool sbd, .slice Xbd pbd qbd]) := Rg.slot_get rfl rfl (hw 4 (by kernel_rfl) _ rfl)
      exact ⟨rfl, wanted_none rfl, call_step rfl Tryz.func21 (by kernel_rfl) rfl (map_two (ev_tmp e3) (ev_tmp e4)) (qmul_any _ _ a b _ (QVa.out.kn hs.kn) (QVb.out.kn hs.kn) (SA.out.mono (show 7 ≤ 100000 by decide)) (SB.out.mono (show 7 ≤ 100000 by decide))) (fun e w2 he => by obtain ⟨v, rfl, hv, hb⟩ := he; exact ⟨v, rfl, v, rfl, hv, hb⟩)⟩
    · intro a' w' ha hs hw hold
      exact ⟨rfl, wanted_none rfl, step_newq rfl⟩
    · intro a' w' ha hs hw hold
      exact ⟨rfl, wanted_none rfl, step_newq rfl⟩
    · intro a' w' ha hs hw hold
      obtain ⟨v2, e2, q2⟩ := hw 2 (by kernel_rfl) _ rfl
      replace e2 : a'.tmps[27]? = some v2 := Rg.slot_get rfl rfl e2
      refine ⟨rfl, wanted_none rfl, by kernel_rfl, fun pv pg pp ph pe1 pe2 pe3 pe4 => ?_⟩
      cases pe1
      exact step_putq rfl rfl (ev_tmp (Rg.slot_get rfl rfl pe2)) (ev_tmp e2) pe3 pe4 q2
    · intro a' w' ha hs hw hold
      obtain ⟨v5, e5, q5⟩ := hw 5 (by kernel_rfl) _ rfl
      replace e5 : a'.tmps[30]? = some v5 := Rg.slot_get rfl rfl e5
      refine ⟨rfl, wanted_none rfl, by kernel_rfl, fun pv pg pp ph pe1 pe2 pe3 pe4 => ?_⟩
      cases pe1
      exact step_putq rfl rfl (ev_tmp (Rg.slot_get rfl rfl pe2)) (ev_tmp e5) pe3 pe4 q5
  simp only [Rg.allG]
  intro r2x2 _
  intro r2x5 _
  intro a2x6 gb2x6 hE2x6 hB2x6 _ hN2x6 _
  intro a2x7 gb2x7 hE2x7 hB2x7 _ hN2x7 _
  intro v2 he hp
  simp only [List.nil_append, List.cons_append, List.getElem?_cons_succ, List.getElem?_cons_zero, Option.some.injEq] at he
  subst he
  obtain ⟨gs, rfl, Xsn, psn, qsn, Xsd, psd, qsd, QXs, IVns, IVds⟩ := hp
  intro v2 he hp
  simp only [List.nil_append, List.cons_append, List.getElem?_cons_succ, List.getElem?_cons_zero, Option.some.injEq] at he
  subst he
  obtain ⟨gp, rfl, Xpn, ppn, qpn, Xpd, ppd, qpd, QXp, IVnp, IVdp⟩ := hp
  simp only [setOpt, Rg.setOpt, List.set_cons_succ, List.set_cons_zero, ptr]
  refine hK _ _ ?_
  clear hK K
  replace hs := hs.below
  have hgb : gs = gb2x6 := Option.some.inj hE2x6
  clear hgb
  have hgb : gp = gb2x7 := Option.some.inj hE2x7
  clear hgb
  clear hE2x6 hB2x6 hN2x6 hE2x7 hB2x7 hN2x7
  replace QXa := Lib.hid (QXa.out.next hs rfl); replace IVna := Lib.hid (iv_next IVna.out hs rfl); replace IVda := Lib.hid (iv_next IVda.out hs rfl)
  replace QXb := Lib.hid (QXb.out.next hs rfl); replace IVnb := Lib.hid (iv_next IVnb.out hs rfl); replace IVdb := Lib.hid (iv_next IVdb.out hs rfl)
  replace QXc := Lib.hid (QXc.out.next hs rfl); replace IVnc := Lib.hid (iv_next IVnc.out hs rfl); replace IVdc := Lib.hid (iv_next IVdc.out hs rfl)
  replace TX := Lib.hid (TX.out.next hs rfl)
  replace DW := Lib.hid (link_below DW.out hs (by have := DW.out.size; have := hg.out; omega) rfl rfl rfl rfl)
  generalize hsg : decide (((a + b).num : Int) < 0) = ssn at *
  clear hsg
  generalize hsg : decide ((((a + b).den : Int) : Int) < 0) = ssd at *
  clear hsg
  replace QXs := Lib.hid QXs; replace IVns := Lib.hid IVns; replace IVds := Lib.hid IVds
  generalize hsg : decide (((a * b).num : Int) < 0) = spn at *
  clear hsg
  generalize hsg : decide ((((a * b).den : Int) : Int) < 0) = spd at *
  clear hsg
  replace QXp := Lib.hid QXp; replace IVnp := Lib.hid IVnp; replace IVdp := Lib.hid IVdp
  clear hs
  go_upto_region 6 with fail
  have QVa : Hid (Qv wn (.agg #[.bool san, .slice Xan pan qan, .bool sad, .slice Xad pad qad]) (a.num) ((a.den : Int))) := qv_of IVna.out IVda.out
  have QVb : Hid (Qv wn (.agg #[.bool sbn, .slice Xbn pbn qbn, .bool sbd, .slice Xbd pbd qbd]) (b.num) ((b.den : Int))) := qv_of IVnb.out IVdb.out
  have QVc : Hid (Qv wn (.agg #[.bool scn, .slice Xcn pcn qcn, .bool scd, .slice Xcd pcd qcd]) (c.num) ((c.den : Int))) := qv_of IVnc.out IVdc.out
  have QVs : Hid (Qv wn (.agg #[.bool ssn, .slice Xsn psn qsn, .bool ssd, .slice Xsd psd qsd]) ((a + b).num) (((a + b).den : Int))) := qv_of IVns.out IVds.out
  have QVp : Hid (Qv wn (.agg #[.bool spn, .slice Xpn ppn qpn, .bool spd, .slice Xpd ppd qpd]) ((a * b).num) (((a * b).den : Int))) := qv_of IVnp.out IVdp.out
  refine Rg.region_gg wn [.is (.agg #[.bool ssn, .slice Xsn psn qsn, .bool ssd, .slice Xsd psd qsd]), .is (.agg #[.bool sbn, .slice Xbn pbn qbn, .bool sbd, .slice Xbd pbd qbd]), .is (.agg #[.bool san, .slice Xan pan qan, .bool sad, .slice Xad pad qad]), .sat (pQv ((b + a).num) (((b + a).den : Int))) (pQv_keep _ _), .is (Value.bool true), .is (Value.bool false), .is (Value.bool false), .is (.agg #[.bool spn, .slice Xpn ppn qpn, .bool spd, .slice Xpd ppd qpd]), .is (.agg #[.bool sbn, .slice Xbn pbn qbn, .bool sbd, .slice Xbd pbd qbd]), .is (.agg #[.bool san, .slice Xan pan qan, .bool sad, .slice Xad pad qad]), .sat (pQv ((b * a).num) (((b * a).den : Int))) (pQv_keep _ _), .is (Value.bool true), .is (Value.bool false), .is (Value.bool false), .is (Value.bool false), .is (.agg #[.bool ssn, .slice Xsn psn qsn, .bool ssd, .slice Xsd psd qsd]), .is (.agg #[.bool scn, .slice Xcn pcn qcn, .bool scd, .slice Xcd pcd qcd]), .sat (pQv (((a + b) + c).num) ((((a + b) + c).den : Int))) (pQv_keep _ _), .is (.agg #[.bool san, .slice Xan pan qan, .bool sad, .slice Xad pad qad]), .is (.agg #[.bool sbn, .slice Xbn pbn qbn, .bool sbd, .slice Xbd pbd qbd]), .is (.agg #[.bool scn, .slice Xcn pcn qcn, .bool scd, .slice Xcd pcd qcd]), .sat (pQv ((b + c).num) (((b + c).den : Int))) (pQv_keep _ _), .sat (pQv ((a + (b + c)).num) (((a + (b + c)).den : Int))) (pQv_keep _ _), .is (Value.bool true), .is (Value.bool false), .is (Value.bool false), .is (Value.bool false), .is (.agg #[.bool spn, .slice Xpn ppn qpn, .bool spd, .slice Xpd ppd qpd]), .is (.agg #[.bool scn, .slice Xcn pcn qcn, .bool scd, .slice Xcd pcd qcd]), .sat (pQv (((a * b) * c).num) ((((a * b) * c).den : Int))) (pQv_keep _ _), .is (.agg #[.bool san, .slice Xan pan qan, .bool sad, .slice Xad pad qad]), .is (.agg #[.bool sbn, .slice Xbn pbn qbn, .bool sbd, .slice Xbd pbd qbd]), .is (.agg #[.bool scn, .slice Xcn pcn qcn, .bool scd, .slice Xcd pcd qcd]), .sat (pQv ((b * c).num) (((b * c).den : Int))) (pQv_keep _ _), .sat (pQv ((a * (b * c)).num) (((a * (b * c)).den : Int))) (pQv_keep _ _), .is (Value.bool true), .is (Value.bool false), .is (Value.bool false)] [] [some 31, some 32, some 33, some 34, some 35, some 36, some 37, some 38, some 39, some 40, some 41, some 42, some 43, some 44, some 45, some 46, some 47, some 48, some 49, some 50, some 51, some 52, some 53, some 54, some 55, some 56, some 57, some 58, some 59, some 60, some 61, some 62, some 63, some 64, some 65, some 66, some 67, some 68] (by kernel_rfl) (by kernel_rfl) (by kernel_rfl) (by kernel_rfl) (by kernel_rfl) (by simp [Rg.stos]) (by rfl) (by rfl) (by kernel_rfl) (by simp) ((Below.refl _ _).drew) (fun Q' => ?_) (fun K hK wn hs => ?_)
  · refine ⟨?_, ?_, ?_, ?_, ?_, ?_, ?_, ?_, ?_, ?_, ?_, ?_, ?_, ?_, ?_, ?_, ?_, ?_, ?_, ?_, ?_, ?_, ?_, ?_, ?_, ?_, ?_, ?_, ?_, ?_, ?_, ?_, ?_, ?_, ?_, ?_, ?_, ?_, trivial⟩
    · intro a' w' ha hs hw hold
      have eo7 : a'.tmps[7]? = some (ptr gs) := (ha.rest 7 (by kernel_rfl)).trans rfl
      exact ⟨rfl, .inl ⟨wanted_none rfl, wp_val (run_qload rfl (ev_tmp eo7) (QXs.out.bel hs (by simp))) ⟨rfl, Below.refl _ _⟩⟩⟩
    · intro a' w' ha hs hw hold
      have eo5 : a'.tmps[5]? = some (ptr gb) := (ha.rest 5 (by kernel_rfl)).trans rfl
      exact ⟨rfl, .inl ⟨wanted_none rfl, wp_val (run_qload rfl (ev_tmp eo5) (QXb.out.bel hs (by simp))) ⟨rfl, Below.refl _ _⟩⟩⟩
    · intro a' w' ha hs hw hold
      have eo4 : a'.tmps[4]? = some (ptr ga) := (ha.rest 4 (by kernel_rfl)).trans rfl
      exact ⟨rfl, .inl ⟨wanted_none rfl, wp_val (run_qload rfl (ev_tmp eo4) (QXa.out.bel hs (by simp))) ⟨rfl, Below.refl _ _⟩⟩⟩
    · intro a' w' ha hs hw hold
      have e1 : a'.tmps[32]? = some (.agg #[.bool sbn, .slice Xbn pbn qbn, .bool sbd, .slice Xbd pbd qbd]) := Rg.slot_get rfl rfl (hw 1 (by kernel_rfl) _ rfl)
      have e2 : a'.tmps[33]? = some (.agg #[.bool san, .slice Xan pan qan, .bool sad, .slice Xad pad qad]) := Rg.slot_get rfl rfl (hw 2 (by kernel_rfl) _ rfl)
      exact ⟨rfl, wanted_none rfl, call_step rfl Tryz.func17 (by kernel_rfl) rfl (map_two (ev_tmp e1) (ev_tmp e2)) (qadd_any _ _ b a _ (QVb.out.kn hs.kn) (QVa.out.kn hs.kn) (SB.out.mono (show 7 ≤ 100000 by decide)) (SA.out.mono (show 7 ≤ 100000 by decide))) (fun e w2 he => by obtain ⟨v, rfl, hv, hb⟩ := he; exact ⟨v, rfl, v, rfl, hv, hb⟩)⟩
    · intro a' w' ha hs hw hold
      have e0 : a'.tmps[31]? = some (.agg #[.bool ssn, .slice Xsn psn qsn, .bool ssd, .slice Xsd psd qsd]) := Rg.slot_get rfl rfl (hw 0 (by kernel_rfl) _ rfl)
      obtain ⟨v3, e3, q3⟩ := hw 3 (by kernel_rfl) _ rfl
      replace e3 : a'.tmps[34]? = some v3 := Rg.slot_get rfl rfl e3
      exact ⟨rfl, .inl ⟨wanted_none rfl, call_step rfl Tryz.func16 (by kernel_rfl) rfl (map_two (ev_tmp e0) (ev_tmp e3)) (qsame_is _ _ (a + b) (b + a) true _ (QVs.out.kn hs.kn) ((SA.out.add SB.out).mono (show 15 ≤ 1000000 by decide)) q3 ((SB.out.add SA.out).mono (show 15 ≤ 1000000 by decide)) (decide_eq_true (Rat.add_comm _ _))) (fun e w2 he => by obtain ⟨rfl, hb⟩ := he; exact ⟨_, rfl, rfl, hb⟩)⟩⟩
    · intro a' w' ha hs hw hold
      have e4 : a'.tmps[35]? = some (Value.bool true) := Rg.slot_get rfl rfl (hw 4 (by kernel_rfl) _ rfl)
      exact ⟨rfl, .inl ⟨wanted_none rfl, wp_val (run_not rfl (ev_tmp e4)) ⟨rfl, Below.refl _ _⟩⟩⟩
    · intro a' w' ha hs hw hold
      have e5 : a'.tmps[36]? = some (Value.bool false) := Rg.slot_get rfl rfl (hw 5 (by kernel_rfl) _ rfl)
      exact ⟨rfl, .inl ⟨wanted_none rfl, wp_val (run_move rfl (ev_tmp e5)) ⟨rfl, Below.refl _ _⟩⟩⟩
    · intro a' w' ha hs hw hold
      have e6 : a'.tmps[37]? = some (Value.bool false) := Rg.slot_get rfl rfl (hw 6 (by kernel_rfl) _ rfl)
      have eo8 : a'.tmps[8]? = some (ptr gp) := (ha.rest 8 (by kernel_rfl)).trans rfl
      exact ⟨rfl, .inl ⟨wanted_some rfl rfl rfl e6, wp_val (run_qload rfl (ev_tmp eo8) (QXp.out.bel hs (by simp))) ⟨rfl, Below.refl _ _⟩⟩⟩
    · intro a' w' ha hs hw hold
      have e6 : a'.tmps[37]? = some (Value.bool false) := Rg.slot_get rfl rfl (hw 6 (by kernel_rfl) _ rfl)
      have eo5 : a'.tmps[5]? = some (ptr gb) := (ha.rest 5 (by kernel_rfl)).trans rfl
      exact ⟨rfl, .inl ⟨wanted_some rfl rfl rfl e6, wp_val (run_qload rfl (ev_tmp eo5) (QXb.out.bel hs (by simp))) ⟨rfl, Below.refl _ _⟩⟩⟩
    · intro a' w' ha hs hw hold
      have e6 : a'.tmps[37]? = some (Value.bool false) := Rg.slot_get rfl rfl (hw 6 (by kernel_rfl) _ rfl)
      have eo4 : a'.tmps[4]? = some (ptr ga) := (ha.rest 4 (by kernel_rfl)).trans rfl
      exact ⟨rfl, .inl ⟨wanted_some rfl rfl rfl e6, wp_val (run_qload rfl (ev_tmp eo4) (QXa.out.bel hs (by simp))) ⟨rfl, Below.refl _ _⟩⟩⟩
    · intro a' w' ha hs hw hold
      have e6 : a'.tmps[37]? = some (Value.bool false) := Rg.slot_get rfl rfl (hw 6 (by kernel_rfl) _ rfl)
      have e8 : a'.tmps[39]? = some (.agg #[.bool sbn, .slice Xbn pbn qbn, .bool sbd, .slice Xbd pbd qbd]) := Rg.slot_get rfl rfl (hw 8 (by kernel_rfl) _ rfl)
      have e9 : a'.tmps[40]? = some (.agg #[.bool san, .slice Xan pan qan, .bool sad, .slice Xad pad qad]) := Rg.slot_get rfl rfl (hw 9 (by kernel_rfl) _ rfl)
      exact ⟨rfl, wanted_some rfl rfl rfl e6, call_step rfl Tryz.func21 (by kernel_rfl) rfl (map_two (ev_tmp e8) (ev_tmp e9)) (qmul_any _ _ b a _ (QVb.out.kn hs.kn) (QVa.out.kn hs.kn) (SB.out.mono (show 7 ≤ 100000 by decide)) (SA.out.mono (show 7 ≤ 100000 by decide))) (fun e w2 he => by obtain ⟨v, rfl, hv, hb⟩ := he; exact ⟨v, rfl, v, rfl, hv, hb⟩)⟩
    · intro a' w' ha hs hw hold
      have e6 : a'.tmps[37]? = some (Value.bool false) := Rg.slot_get rfl rfl (hw 6 (by kernel_rfl) _ rfl)
      have e7 : a'.tmps[38]? = some (.agg #[.bool spn, .slice Xpn ppn qpn, .bool spd, .slice Xpd ppd qpd]) := Rg.slot_get rfl rfl (hw 7 (by kernel_rfl) _ rfl)
      obtain ⟨v10, e10, q10⟩ := hw 10 (by kernel_rfl) _ rfl
      replace e10 : a'.tmps[41]? = some v10 := Rg.slot_get rfl rfl e10
      exact ⟨rfl, .inl ⟨wanted_some rfl rfl rfl e6, call_step rfl Tryz.func16 (by kernel_rfl) rfl (map_two (ev_tmp e7) (ev_tmp e10)) (qsame_is _ _ (a * b) (b * a) true _ (QVp.out.kn hs.kn) ((SA.out.mul SB.out).mono (show 14 ≤ 1000000 by decide)) q10 ((SB.out.mul SA.out).mono (show 14 ≤ 1000000 by decide)) (decide_eq_true (Rat.mul_comm _ _))) (fun e w2 he => by obtain ⟨rfl, hb⟩ := he; exact ⟨_, rfl, rfl, hb⟩)⟩⟩
    · intro a' w' ha hs hw hold
      have e6 : a'.tmps[37]? = some (Value.bool false) := Rg.slot_get rfl rfl (hw 6 (by kernel_rfl) _ rfl)
      have e11 : a'.tmps[42]? = some (Value.bool true) := Rg.slot_get rfl rfl (hw 11 (by kernel_rfl) _ rfl)
      exact ⟨rfl, .inl ⟨wanted_some rfl rfl rfl e6, wp_val (run_not rfl (ev_tmp e11)) ⟨rfl, Below.refl _ _⟩⟩⟩
    · intro a' w' ha hs hw hold
      have e6 : a'.tmps[37]? = some (Value.bool false) := Rg.slot_get rfl rfl (hw 6 (by kernel_rfl) _ rfl)
      have e12 : a'.tmps[43]? = some (Value.bool false) := Rg.slot_get rfl rfl (hw 12 (by kernel_rfl) _ rfl)
      exact ⟨rfl, .inl ⟨wanted_none rfl, wp_val (run_pick (b := false) rfl (ev_tmp e6) (ev_tmp e12)) ⟨rfl, Below.refl _ _⟩⟩⟩
    · intro a' w' ha hs hw hold
      have e13 : a'.tmps[44]? = some (Value.bool false) := Rg.slot_get rfl rfl (hw 13 (by kernel_rfl) _ rfl)
      exact ⟨rfl, .inl ⟨wanted_none rfl, wp_val (run_move rfl (ev_tmp e13)) ⟨rfl, Below.refl _ _⟩⟩⟩
    · intro a' w' ha hs hw hold
      have e14 : a'.tmps[45]? = some (Value.bool false) := Rg.slot_get rfl rfl (hw 14 (by kernel_rfl) _ rfl)
      have eo7 : a'.tmps[7]? = some (ptr gs) := (ha.rest 7 (by kernel_rfl)).trans rfl
      exact ⟨rfl, .inl ⟨wanted_some rfl rfl rfl e14, wp_val (run_qload rfl (ev_tmp eo7) (QXs.out.bel hs (by simp))) ⟨rfl, Below.refl _ _⟩⟩⟩
    · intro a' w' ha hs hw hold
      have e14 : a'.tmps[45]? = some (Value.bool false) := Rg.slot_get rfl rfl (hw 14 (by kernel_rfl) _ rfl)
      have eo6 : a'.tmps[6]? = some (ptr gc) := (ha.rest 6 (by kernel_rfl)).trans rfl
      exact ⟨rfl, .inl ⟨wanted_some rfl rfl rfl e14, wp_val (run_qload rfl (ev_tmp eo6) (QXc.out.bel hs (by simp))) ⟨rfl, Below.refl _ _⟩⟩⟩
    · intro a' w' ha hs hw hold
      have e14 : a'.tmps[45]? = some (Value.bool false) := Rg.slot_get rfl rfl (hw 14 (by kernel_rfl) _ rfl)
      have e15 : a'.tmps[46]? = some (.agg #[.bool ssn, .slice Xsn psn qsn, .bool ssd, .slice Xsd psd qsd]) := Rg.slot_get rfl rfl (hw 15 (by kernel_rfl) _ rfl)
      have e16 : a'.tmps[47]? = some (.agg #[.bool scn, .slice Xcn pcn qcn, .bool scd, .slice Xcd pcd qcd]) := Rg.slot_get rfl rfl (hw 16 (by kernel_rfl) _ rfl)
      exact ⟨rfl, wanted_some rfl rfl rfl e14, call_step rfl Tryz.func17 (by kernel_rfl) rfl (map_two (ev_tmp e15) (ev_tmp e16)) (qadd_any _ _ (a + b) c _ (QVs.out.kn hs.kn) (QVc.out.kn hs.kn) ((SA.out.add SB.out).mono (show 15 ≤ 100000 by decide)) (SC.out.mono (show 7 ≤ 100000 by decide))) (fun e w2 he => by obtain ⟨v, rfl, hv, hb⟩ := he; exact ⟨v, rfl, v, rfl, hv, hb⟩)⟩
    · intro a' w' ha hs hw hold
      have e14 : a'.tmps[45]? = some (Value.bool false) := Rg.slot_get rfl rfl (hw 14 (by kernel_rfl) _ rfl)
      have eo4 : a'.tmps[4]? = some (ptr ga) := (ha.rest 4 (by kernel_rfl)).trans rfl
      exact ⟨rfl, .inl ⟨wanted_some rfl rfl rfl e14, wp_val (run_qload rfl (ev_tmp eo4) (QXa.out.bel hs (by simp))) ⟨rfl, Below.refl _ _⟩⟩⟩
    · intro a' w' ha hs hw hold
      have e14 : a'.tmps[45]? = some (Value.bool false) := Rg.slot_get rfl rfl (hw 14 (by kernel_rfl) _ rfl)
      have eo5 : a'.tmps[5]? = some (ptr gb) := (ha.rest 5 (by kernel_rfl)).trans rfl
      exact ⟨rfl, .inl ⟨wanted_some rfl rfl rfl e14, wp_val (run_qload rfl (ev_tmp eo5) (QXb.out.bel hs (by simp))) ⟨rfl, Below.refl _ _⟩⟩⟩
    · intro a' w' ha hs hw hold
      have e14 : a'.tmps[45]? = some (Value.bool false) := Rg.slot_get rfl rfl (hw 14 (by kernel_rfl) _ rfl)
      have eo6 : a'.tmps[6]? = some (ptr gc) := (ha.rest 6 (by kernel_rfl)).trans rfl
      exact ⟨rfl, .inl ⟨wanted_some rfl rfl rfl e14, wp_val (run_qload rfl (ev_tmp eo6) (QXc.out.bel hs (by simp))) ⟨rfl, Below.refl _ _⟩⟩⟩
    · intro a' w' ha hs hw hold
      have e14 : a'.tmps[45]? = some (Value.bool false) := Rg.slot_get rfl rfl (hw 14 (by kernel_rfl) _ rfl)
      have e19 : a'.tmps[50]? = some (.agg #[.bool sbn, .slice Xbn pbn qbn, .bool sbd, .slice Xbd pbd qbd]) := Rg.slot_get rfl rfl (hw 19 (by kernel_rfl) _ rfl)
      have e20 : a'.tmps[51]? = some (.agg #[.bool scn, .slice Xcn pcn qcn, .bool scd, .slice Xcd pcd qcd]) := Rg.slot_get rfl rfl (hw 20 (by kernel_rfl) _ rfl)
      exact ⟨rfl, wanted_some rfl rfl rfl e14, call_step rfl Tryz.func17 (by kernel_rfl) rfl (map_two (ev_tmp e19) (ev_tmp e20)) (qadd_any _ _ b c _ (QVb.out.kn hs.kn) (QVc.out.kn hs.kn) (SB.out.mono (show 7 ≤ 100000 by decide)) (SC.out.mono (show 7 ≤ 100000 by decide))) (fun e w2 he => by obtain ⟨v, rfl, hv, hb⟩ := he; exact ⟨v, rfl, v, rfl, hv, hb⟩)⟩
    · intro a' w' ha hs hw hold
      have e14 : a'.tmps[45]? = some (Value.bool false) := Rg.slot_get rfl rfl (hw 14 (by kernel_rfl) _ rfl)
      have e18 : a'.tmps[49]? = some (.agg #[.bool san, .slice Xan pan qan, .bool sad, .slice Xad pad qad]) := Rg.slot_get rfl rfl (hw 18 (by kernel_rfl) _ rfl)
      obtain ⟨v21, e21, q21⟩ := hw 21 (by kernel_rfl) _ rfl
      replace e21 : a'.tmps[52]? = some v21 := Rg.slot_get rfl rfl e21
      exact ⟨rfl, wanted_some rfl rfl rfl e14, call_step rfl Tryz.func17 (by kernel_rfl) rfl (map_two (ev_tmp e18) (ev_tmp e21)) (qadd_any _ _ a (b + c) _ (QVa.out.kn hs.kn) q21 (SA.out.mono (show 7 ≤ 100000 by decide)) ((SB.out.add SC.out).mono (show 15 ≤ 100000 by decide))) (fun e w2 he => by obtain ⟨v, rfl, hv, hb⟩ := he; exact ⟨v, rfl, v, rfl, hv, hb⟩)⟩
    · intro a' w' ha hs hw hold
      have e14 : a'.tmps[45]? = some (Value.bool false) := Rg.slot_get rfl rfl (hw 14 (by kernel_rfl) _ rfl)
      obtain ⟨v17, e17, q17⟩ := hw 17 (by kernel_rfl) _ rfl
      replace e17 : a'.tmps[48]? = some v17 := Rg.slot_get rfl rfl e17
      obtain ⟨v22, e22, q22⟩ := hw 22 (by kernel_rfl) _ rfl
      replace e22 : a'.tmps[53]? = some v22 := Rg.slot_get rfl rfl e22
      exact ⟨rfl, .inl ⟨wanted_some rfl rfl rfl e14, call_step rfl Tryz.func16 (by kernel_rfl) rfl (map_two (ev_tmp e17) (ev_tmp e22)) (qsame_is _ _ ((a + b) + c) (a + (b + c)) true _ q17 (((SA.out.add SB.out).add SC.out).mono (show 23 ≤ 1000000 by decide)) q22 ((SA.out.add (SB.out.add SC.out)).mono (show 23 ≤ 1000000 by decide)) (decide_eq_true (Rat.add_assoc _ _ _))) (fun e w2 he => by obtain ⟨rfl, hb⟩ := he; exact ⟨_, rfl, rfl, hb⟩)⟩⟩
    · intro a' w' ha hs hw hold
      have e14 : a'.tmps[45]? = some (Value.bool false) := Rg.slot_get rfl rfl (hw 14 (by kernel_rfl) _ rfl)
      have e23 : a'.tmps[54]? = some (Value.bool true) := Rg.slot_get rfl rfl (hw 23 (by kernel_rfl) _ rfl)
      exact ⟨rfl, .inl ⟨wanted_some rfl rfl rfl e14, wp_val (run_not rfl (ev_tmp e23)) ⟨rfl, Below.refl _ _⟩⟩⟩
    · intro a' w' ha hs hw hold
      have e14 : a'.tmps[45]? = some (Value.bool false) := Rg.slot_get rfl rfl (hw 14 (by kernel_rfl) _ rfl)
      have e24 : a'.tmps[55]? = some (Value.bool false) := Rg.slot_get rfl rfl (hw 24 (by kernel_rfl) _ rfl)
      exact ⟨rfl, .inl ⟨wanted_none rfl, wp_val (run_pick (b := false) rfl (ev_tmp e14) (ev_tmp e24)) ⟨rfl, Below.refl _ _⟩⟩⟩
    · intro a' w' ha hs hw hold
      have e25 : a'.tmps[56]? = some (Value.bool false) := Rg.slot_get rfl rfl (hw 25 (by kernel_rfl) _ rfl)
      exact ⟨rfl, .inl ⟨wanted_none rfl, wp_val (run_move rfl (ev_tmp e25)) ⟨rfl, Below.refl _ _⟩⟩⟩
    · intro a' w' ha hs hw hold
      have e26 : a'.tmps[57]? = some (Value.bool false) := Rg.slot_get rfl rfl (hw 26 (by kernel_rfl) _ rfl)
      have eo8 : a'.tmps[8]? = some (ptr gp) := (ha.rest 8 (by kernel_rfl)).trans rfl
      exact ⟨rfl, .inl ⟨wanted_some rfl rfl rfl e26, wp_val (run_qload rfl (ev_tmp eo8) (QXp.out.bel hs (by simp))) ⟨rfl, Below.refl _ _⟩⟩⟩
    · intro a' w' ha hs hw hold
      have e26 : a'.tmps[57]? = some (Value.bool false) := Rg.slot_get rfl rfl (hw 26 (by kernel_rfl) _ rfl)
      have eo6 : a'.tmps[6]? = some (ptr gc) := (ha.rest 6 (by kernel_rfl)).trans rfl
      exact ⟨rfl, .inl ⟨wanted_some rfl rfl rfl e26, wp_val (run_qload rfl (ev_tmp eo6) (QXc.out.bel hs (by simp))) ⟨rfl, Below.refl _ _⟩⟩⟩
    · intro a' w' ha hs hw hold
      have e26 : a'.tmps[57]? = some (Value.bool false) := Rg.slot_get rfl rfl (hw 26 (by kernel_rfl) _ rfl)
      have e27 : a'.tmps[58]? = some (.agg #[.bool spn, .slice Xpn ppn qpn, .bool spd, .slice Xpd ppd qpd]) := Rg.slot_get rfl rfl (hw 27 (by kernel_rfl) _ rfl)
      have e28 : a'.tmps[59]? = some (.agg #[.bool scn, .slice Xcn pcn qcn, .bool scd, .slice Xcd pcd qcd]) := Rg.slot_get rfl rfl (hw 28 (by kernel_rfl) _ rfl)
      exact ⟨rfl, wanted_some rfl rfl rfl e26, call_step rfl Tryz.func21 (by kernel_rfl) rfl (map_two (ev_tmp e27) (ev_tmp e28)) (qmul_any _ _ (a * b) c _ (QVp.out.kn hs.kn) (QVc.out.kn hs.kn) ((SA.out.mul SB.out).mono (show 14 ≤ 100000 by decide)) (SC.out.mono (show 7 ≤ 100000 by decide))) (fun e w2 he => by obtain ⟨v, rfl, hv, hb⟩ := he; exact ⟨v, rfl, v, rfl, hv, hb⟩)⟩
    · intro a' w' ha hs hw hold
      have e26 : a'.tmps[57]? = some (Value.bool false) := Rg.slot_get rfl rfl (hw 26 (by kernel_rfl) _ rfl)
      have eo4 : a'.tmps[4]? = some (ptr ga) := (ha.rest 4 (by kernel_rfl)).trans rfl
      exact ⟨rfl, .inl ⟨wanted_some rfl rfl rfl e26, wp_val (run_qload rfl (ev_tmp eo4) (QXa.out.bel hs (by simp))) ⟨rfl, Below.refl _ _⟩⟩⟩
    · intro a' w' ha hs hw hold
      have e26 : a'.tmps[57]? = some (Value.bool false) := Rg.slot_get rfl rfl (hw 26 (by kernel_rfl) _ rfl)
      have eo5 : a'.tmps[5]? = some (ptr gb) := (ha.rest 5 (by kernel_rfl)).trans rfl
      exact ⟨rfl, .inl ⟨wanted_some rfl rfl rfl e26, wp_val (run_qload rfl (ev_tmp eo5) (QXb.out.bel hs (by simp))) ⟨rfl, Below.refl _ _⟩⟩⟩
    · intro a' w' ha hs hw hold
      have e26 : a'.tmps[57]? = some (Value.bool false) := Rg.slot_get rfl rfl (hw 26 (by kernel_rfl) _ rfl)
      have eo6 : a'.tmps[6]? = some (ptr gc) := (ha.rest 6 (by kernel_rfl)).trans rfl
      exact ⟨rfl, .inl ⟨wanted_some rfl rfl rfl e26, wp_val (run_qload rfl (ev_tmp eo6) (QXc.out.bel hs (by simp))) ⟨rfl, Below.refl _ _⟩⟩⟩
    · intro a' w' ha hs hw hold
      have e26 : a'.tmps[57]? = some (Value.bool false) := Rg.slot_get rfl rfl (hw 26 (by kernel_rfl) _ rfl)
      have e31 : a'.tmps[62]? = some (.agg #[.bool sbn, .slice Xbn pbn qbn, .bool sbd, .slice Xbd pbd qbd]) := Rg.slot_get rfl rfl (hw 31 (by kernel_rfl) _ rfl)
      have e32 : a'.tmps[63]? = some (.agg #[.bool scn, .slice Xcn pcn qcn, .bool scd, .slice Xcd pcd qcd]) := Rg.slot_get rfl rfl (hw 32 (by kernel_rfl) _ rfl)
      exact ⟨rfl, wanted_some rfl rfl rfl e26, call_step rfl Tryz.func21 (by kernel_rfl) rfl (map_two (ev_tmp e31) (ev_tmp e32)) (qmul_any _ _ b c _ (QVb.out.kn hs.kn) (QVc.out.kn hs.kn) (SB.out.mono (show 7 ≤ 100000 by decide)) (SC.out.mono (show 7 ≤ 100000 by decide))) (fun e w2 he => by obtain ⟨v, rfl, hv, hb⟩ := he; exact ⟨v, rfl, v, rfl, hv, hb⟩)⟩
    · intro a' w' ha hs hw hold
      have e26 : a'.tmps[57]? = some (Value.bool false) := Rg.slot_get rfl rfl (hw 26 (by kernel_rfl) _ rfl)
      have e30 : a'.tmps[61]? = some (.agg #[.bool san, .slice Xan pan qan, .bool sad, .slice Xad pad qad]) := Rg.slot_get rfl rfl (hw 30 (by kernel_rfl) _ rfl)
      obtain ⟨v33, e33, q33⟩ := hw 33 (by kernel_rfl) _ rfl
      replace e33 : a'.tmps[64]? = some v33 := Rg.slot_get rfl rfl e33
      exact ⟨rfl, wanted_some rfl rfl rfl e26, call_step rfl Tryz.func21 (by kernel_rfl) rfl (map_two (ev_tmp e30) (ev_tmp e33)) (qmul_any _ _ a (b * c) _ (QVa.out.kn hs.kn) q33 (SA.out.mono (show 7 ≤ 100000 by decide)) ((SB.out.mul SC.out).mono (show 14 ≤ 100000 by decide))) (fun e w2 he => by obtain ⟨v, rfl, hv, hb⟩ := he; exact ⟨v, rfl, v, rfl, hv, hb⟩)⟩
    · intro a' w' ha hs hw hold
      have e26 : a'.tmps[57]? = some (Value.bool false) := Rg.slot_get rfl rfl (hw 26 (by kernel_rfl) _ rfl)
      obtain ⟨v29, e29, q29⟩ := hw 29 (by kernel_rfl) _ rfl
      replace e29 : a'.tmps[60]? = some v29 := Rg.slot_get rfl rfl e29
      obtain ⟨v34, e34, q34⟩ := hw 34 (by kernel_rfl) _ rfl
      replace e34 : a'.tmps[65]? = some v34 := Rg.slot_get rfl rfl e34
      exact ⟨rfl, .inl ⟨wanted_some rfl rfl rfl e26, call_step rfl Tryz.func16 (by kernel_rfl) rfl (map_two (ev_tmp e29) (ev_tmp e34)) (qsame_is _ _ ((a * b) * c) (a * (b * c)) true _ q29 (((SA.out.mul SB.out).mul SC.out).mono (show 21 ≤ 1000000 by decide)) q34 ((SA.out.mul (SB.out.mul SC.out)).mono (show 21 ≤ 1000000 by decide)) (decide_eq_true (Rat.mul_assoc _ _ _))) (fun e w2 he => by obtain ⟨rfl, hb⟩ := he; exact ⟨_, rfl, rfl, hb⟩)⟩⟩
    · intro a' w' ha hs hw hold
      have e26 : a'.tmps[57]? = some (Value.bool false) := Rg.slot_get rfl rfl (hw 26 (by kernel_rfl) _ rfl)
      have e35 : a'.tmps[66]? = some (Value.bool true) := Rg.slot_get rfl rfl (hw 35 (by kernel_rfl) _ rfl)
      exact ⟨rfl, .inl ⟨wanted_some rfl rfl rfl e26, wp_val (run_not rfl (ev_tmp e35)) ⟨rfl, Below.refl _ _⟩⟩⟩
    · intro a' w' ha hs hw hold
      have e26 : a'.tmps[57]? = some (Value.bool false) := Rg.slot_get rfl rfl (hw 26 (by kernel_rfl) _ rfl)
      have e36 : a'.tmps[67]? = some (Value.bool false) := Rg.slot_get rfl rfl (hw 36 (by kernel_rfl) _ rfl)
      exact ⟨rfl, .inl ⟨wanted_none rfl, wp_val (run_pick (b := false) rfl (ev_tmp e26) (ev_tmp e36)) ⟨rfl, Below.refl _ _⟩⟩⟩
  simp only [Rg.allG]
  intro r3x3 _
  intro r3x10 _
  intro r3x17 _
  intro r3x21 _
  intro r3x22 _
  intro r3x29 _
  intro r3x33 _
  intro r3x34 _
  simp only [setOpt, Rg.setOpt, List.set_cons_succ, List.set_cons_zero]
  refine hK _ _ ?_
  clear hK K
  replace hs := hs.below
  replace QXa := Lib.hid (QXa.out.next hs rfl); replace IVna := Lib.hid (iv_next IVna.out hs rfl); replace IVda := Lib.hid (iv_next IVda.out hs rfl)
  replace QXb := Lib.hid (QXb.out.next hs rfl); replace IVnb := Lib.hid (iv_next IVnb.out hs rfl); replace IVdb := Lib.hid (iv_next IVdb.out hs rfl)
  replace QXc := Lib.hid (QXc.out.next hs rfl); replace IVnc := Lib.hid (iv_next IVnc.out hs rfl); replace IVdc := Lib.hid (iv_next IVdc.out hs rfl)
  replace QXs := Lib.hid (QXs.out.next hs rfl); replace IVns := Lib.hid (iv_next IVns.out hs rfl); replace IVds := Lib.hid (iv_next IVds.out hs rfl)
  replace QXp := Lib.hid (QXp.out.next hs rfl); replace IVnp := Lib.hid (iv_next IVnp.out hs rfl); replace IVdp := Lib.hid (iv_next IVdp.out hs rfl)
  replace TX := Lib.hid (TX.out.next hs rfl)
  replace DW := Lib.hid (link_below DW.out hs (by have := DW.out.size; have := hg.out; omega) rfl rfl rfl rfl)
  clear hs
  go_upto_region 8 with fail
  have QVa : Hid (Qv wn (.agg #[.bool san, .slice Xan pan qan, .bool sad, .slice Xad pad qad]) (a.num) ((a.den : Int))) := qv_of IVna.out IVda.out
  have QVb : Hid (Qv wn (.agg #[.bool sbn, .slice Xbn pbn qbn, .bool sbd, .slice Xbd pbd qbd]) (b.num) ((b.den : Int))) := qv_of IVnb.out IVdb.out
  have QVc : Hid (Qv wn (.agg #[.bool scn, .slice Xcn pcn qcn, .bool scd, .slice Xcd pcd qcd]) (c.num) ((c.den : Int))) := qv_of IVnc.out IVdc.out
  have QVs : Hid (Qv wn (.agg #[.bool ssn, .slice Xsn psn qsn, .bool ssd, .slice Xsd psd qsd]) ((a + b).num) (((a + b).den : Int))) := qv_of IVns.out IVds.out
  refine Rg.region_gg wn [.is (.agg #[.bool scn, .slice Xcn pcn qcn, .bool scd, .slice Xcd pcd qcd]), .is (.agg #[.bool ssn, .slice Xsn psn qsn, .bool ssd, .slice Xsd psd qsd]), .sat (pQv ((c * (a + b)).num) (((c * (a + b)).den : Int))) (pQv_keep _ _), .is (.agg #[.bool scn, .slice Xcn pcn qcn, .bool scd, .slice Xcd pcd qcd]), .is (.agg #[.bool san, .slice Xan pan qan, .bool sad, .slice Xad pad qad]), .sat (pQv ((c * a).num) (((c * a).den : Int))) (pQv_keep _ _), .is (.agg #[.bool scn, .slice Xcn pcn qcn, .bool scd, .slice Xcd pcd qcd]), .is (.agg #[.bool sbn, .slice Xbn pbn qbn, .bool sbd, .slice Xbd pbd qbd]), .sat (pQv ((c * b).num) (((c * b).den : Int))) (pQv_keep _ _), .sat (pQv (((c * a) + (c * b)).num) ((((c * a) + (c * b)).den : Int))) (pQv_keep _ _), .is (Value.bool true), .is (Value.bool false), .is (Value.bool false), .is (.agg #[.bool ssn, .slice Xsn psn qsn, .bool ssd, .slice Xsd psd qsd]), .is (.agg #[.bool sbn, .slice Xbn pbn qbn, .bool sbd, .slice Xbd pbd qbd]), .sat (pQv (((a + b) - b).num) ((((a + b) - b).den : Int))) (pQv_keep _ _), .is (.agg #[.bool san, .slice Xan pan qan, .bool sad, .slice Xad pad qad]), .is (Value.bool true), .is (Value.bool false), .is (Value.bool false), .is (Value.bool false), .is (.agg #[.bool san, .slice Xan pan qan, .bool sad, .slice Xad pad qad]), .is (.agg #[.bool san, .slice Xan pan qan, .bool sad, .slice Xad pad qad]), .sat (pQv ((-a).num) (((-a).den : Int))) (pQv_keep _ _), .sat (pQv ((a + (-a)).num) (((a + (-a)).den : Int))) (pQv_keep _ _), .sat (pQv (((0 : Int) : Rat).num) ((((0 : Int) : Rat).den : Int))) (pQv_keep _ _), .is (Value.bool true), .is (Value.bool false), .is (Value.bool false), .is (Value.bool false), .is (.agg #[.bool san, .slice Xan pan qan, .bool sad, .slice Xad pad qad]), .sat (pQv (((1 : Int) : Rat).num) ((((1 : Int) : Rat).den : Int))) (pQv_keep _ _), .sat (pQv ((a * ((1 : Int) : Rat)).num) (((a * ((1 : Int) : Rat)).den : Int))) (pQv_keep _ _), .is (.agg #[.bool san, .slice Xan pan qan, .bool sad, .slice Xad pad qad]), .is (Value.bool true), .is (Value.bool false), .is (Value.bool false)] [] [some 69, some 70, some 71, some 72, some 73, some 74, some 75, some 76, some 77, some 78, some 79, some 80, some 81, some 82, some 83, some 84, some 85, some 86, some 87, some 88, some 89, some 90, some 91, some 92, some 93, some 94, some 95, some 96, some 97, some 98, some 99, some 100, some 101, some 102, some 103, some 104, some 105] (by kernel_rfl) (by kernel_rfl) (by kernel_rfl) (by kernel_rfl) (by kernel_rfl) (by simp [Rg.stos]) (by rfl) (by rfl) (by kernel_rfl) (by simp) ((Below.refl _ _).drew) (fun Q' => ?_) (fun K hK wn hs => ?_)
  · refine ⟨?_, ?_, ?_, ?_, ?_, ?_, ?_, ?_, ?_, ?_, ?_, ?_, ?_, ?_, ?_, ?_, ?_, ?_, ?_, ?_, ?_, ?_, ?_, ?_, ?_, ?_, ?_, ?_, ?_, ?_, ?_, ?_, ?_, ?_, ?_, ?_, ?_, trivial⟩
    · intro a' w' ha hs hw hold
      have eo6 : a'.tmps[6]? = some (ptr gc) := (ha.rest 6 (by kernel_rfl)).trans rfl
      exact ⟨rfl, .inl ⟨wanted_none rfl, wp_val (run_qload rfl (ev_tmp eo6) (QXc.out.bel hs (by simp))) ⟨rfl, Below.refl _ _⟩⟩⟩
    · intro a' w' ha hs hw hold
      have eo7 : a'.tmps[7]? = some (ptr gs) := (ha.rest 7 (by kernel_rfl)).trans rfl
      exact ⟨rfl, .inl ⟨wanted_none rfl, wp_val (run_qload rfl (ev_tmp eo7) (QXs.out.bel hs (by simp))) ⟨rfl, Below.refl _ _⟩⟩⟩
    · intro a' w' ha hs hw hold
      have e0 : a'.tmps[69]? = some (.agg #[.bool scn, .slice Xcn pcn qcn, .bool scd, .slice Xcd pcd qcd]) := Rg.slot_get rfl rfl (hw 0 (by kernel_rfl) _ rfl)
      have e1 : a'.tmps[70]? = some (.agg #[.bool ssn, .slice Xsn psn qsn, .bool ssd, .slice Xsd psd qsd]) := Rg.slot_get rfl rfl (hw 1 (by kernel_rfl) _ rfl)
      exact ⟨rfl, wanted_none rfl, call_step rfl Tryz.func21 (by kernel_rfl) rfl (map_two (ev_tmp e0) (ev_tmp e1)) (qmul_any _ _ c (a + b) _ (QVc.out.kn hs.kn) (QVs.out.kn hs.kn) (SC.out.mono (show 7 ≤ 100000 by decide)) ((SA.out.add SB.out).mono (show 15 ≤ 100000 by decide))) (fun e w2 he => by obtain ⟨v, rfl, hv, hb⟩ := he; exact ⟨v, rfl, v, rfl, hv, hb⟩)⟩
    · intro a' w' ha hs hw hold
      have eo6 : a'.tmps[6]? = some (ptr gc) := (ha.rest 6 (by kernel_rfl)).trans rfl
      exact ⟨rfl, .inl ⟨wanted_none rfl, wp_val (run_qload rfl (ev_tmp eo6) (QXc.out.bel hs (by simp))) ⟨rfl, Below.refl _ _⟩⟩⟩
    · intro a' w' ha hs hw hold
      have eo4 : a'.tmps[4]? = some (ptr ga) := (ha.rest 4 (by kernel_rfl)).trans rfl
      exact ⟨rfl, .inl ⟨wanted_none rfl, wp_val (run_qload rfl (ev_tmp eo4) (QXa.out.bel hs (by simp))) ⟨rfl, Below.refl _ _⟩⟩⟩
    · intro a' w' ha hs hw hold
      have e3 : a'.tmps[72]? = some (.agg #[.bool scn, .slice Xcn pcn qcn, .bool scd, .slice Xcd pcd qcd]) := Rg.slot_get rfl rfl (hw 3 (by kernel_rfl) _ rfl)
      have e4 : a'.tmps[73]? = some (.agg #[.bool san, .slice Xan pan qan, .bool sad, .slice Xad pad qad]) := Rg.slot_get rfl rfl (hw 4 (by kernel_rfl) _ rfl)
      exact ⟨rfl, wanted_none rfl, call_step rfl Tryz.func21 (by kernel_rfl) rfl (map_two (ev_tmp e3) (ev_tmp e4)) (qmul_any _ _ c a _ (QVc.out.kn hs.kn) (QVa.out.kn hs.kn) (SC.out.mono (show 7 ≤ 100000 by decide)) (SA.out.mono (show 7 ≤ 100000 by decide))) (fun e w2 he => by obtain ⟨v, rfl, hv, hb⟩ := he; exact ⟨v, rfl, v, rfl, hv, hb⟩)⟩
    · intro a' w' ha hs hw hold
      have eo6 : a'.tmps[6]? = some (ptr gc) := (ha.rest 6 (by kernel_rfl)).trans rfl
      exact ⟨rfl, .inl ⟨wanted_none rfl, wp_val (run_qload rfl (ev_tmp eo6) (QXc.out.bel hs (by simp))) ⟨rfl, Below.refl _ _⟩⟩⟩
    · intro a' w' ha hs hw hold
      have eo5 : a'.tmps[5]? = some (ptr gb) := (ha.rest 5 (by kernel_rfl)).trans rfl
      exact ⟨rfl, .inl ⟨wanted_none rfl, wp_val (run_qload rfl (ev_tmp eo5) (QXb.out.bel hs (by simp))) ⟨rfl, Below.refl _ _⟩⟩⟩
    · intro a' w' ha hs hw hold
      have e6 : a'.tmps[75]? = some (.agg #[.bool scn, .slice Xcn pcn qcn, .bool scd, .slice Xcd pcd qcd]) := Rg.slot_get rfl rfl (hw 6 (by kernel_rfl) _ rfl)
      have e7 : a'.tmps[76]? = some (.agg #[.bool sbn, .slice Xbn pbn qbn, .bool sbd, .slice Xbd pbd qbd]) := Rg.slot_get rfl rfl (hw 7 (by kernel_rfl) _ rfl)
      exact ⟨rfl, wanted_none rfl, call_step rfl Tryz.func21 (by kernel_rfl) rfl (map_two (ev_tmp e6) (ev_tmp e7)) (qmul_any _ _ c b _ (QVc.out.kn hs.kn) (QVb.out.kn hs.kn) (SC.out.mono (show 7 ≤ 100000 by decide)) (SB.out.mono (show 7 ≤ 100000 by decide))) (fun e w2 he => by obtain ⟨v, rfl, hv, hb⟩ := he; exact ⟨v, rfl, v, rfl, hv, hb⟩)⟩
    · intro a' w' ha hs hw hold
      obtain ⟨v5, e5, q5⟩ := hw 5 (by kernel_rfl) _ rfl
      replace e5 : a'.tmps[74]? = some v5 := Rg.slot_get rfl rfl e5
      obtain ⟨v8, e8, q8⟩ := hw 8 (by kernel_rfl) _ rfl
      replace e8 : a'.tmps[77]? = some v8 := Rg.slot_get rfl rfl e8
      exact ⟨rfl, wanted_none rfl, call_step rfl Tryz.func17 (by kernel_rfl) rfl (map_two (ev_tmp e5) (ev_tmp e8)) (qadd_any _ _ (c * a) (c * b) _ q5 q8 ((SC.out.mul SA.out).mono (show 14 ≤ 100000 by decide)) ((SC.out.mul SB.out).mono (show 14 ≤ 100000 by decide))) (fun e w2 he => by obtain ⟨v, rfl, hv, hb⟩ := he; exact ⟨v, rfl, v, rfl, hv, hb⟩)⟩
    · intro a' w' ha hs hw hold
      obtain ⟨v2, e2, q2⟩ := hw 2 (by kernel_rfl) _ rfl
      replace e2 : a'.tmps[71]? = some v2 := Rg.slot_get rfl rfl e2
      obtain ⟨v9, e9, q9⟩ := hw 9 (by kernel_rfl) _ rfl
      replace e9 : a'.tmps[78]? = some v9 := Rg.slot_get rfl rfl e9
      exact ⟨rfl, .inl ⟨wanted_none rfl, call_step rfl Tryz.func16 (by kernel_rfl) rfl (map_two (ev_tmp e2) (ev_tmp e9)) (qsame_is _ _ (c * (a + b)) ((c * a) + (c * b)) true _ q2 ((SC.out.mul (SA.out.add SB.out)).mono (show 22 ≤ 1000000 by decide)) q9 (((SC.out.mul SA.out).add (SC.out.mul SB.out)).mono (show 29 ≤ 1000000 by decide)) (decide_eq_true (Rat.mul_add _ _ _))) (fun e w2 he => by obtain ⟨rfl, hb⟩ := he; exact ⟨_, rfl, rfl, hb⟩)⟩⟩
    · intro a' w' ha hs hw hold
      have e10 : a'.tmps[79]? = some (Value.bool true) := Rg.slot_get rfl rfl (hw 10 (by kernel_rfl) _ rfl)
      exact ⟨rfl, .inl ⟨wanted_none rfl, wp_val (run_not rfl (ev_tmp e10)) ⟨rfl, Below.refl _ _⟩⟩⟩
    · intro a' w' ha hs hw hold
      have e11 : a'.tmps[80]? = some (Value.bool false) := Rg.slot_get rfl rfl (hw 11 (by kernel_rfl) _ rfl)
      exact ⟨rfl, .inl ⟨wanted_none rfl, wp_val (run_move rfl (ev_tmp e11)) ⟨rfl, Below.refl _ _⟩⟩⟩
    · intro a' w' ha hs hw hold
      have e12 : a'.tmps[81]? = some (Value.bool false) := Rg.slot_get rfl rfl (hw 12 (by kernel_rfl) _ rfl)
      have eo7 : a'.tmps[7]? = some (ptr gs) := (ha.rest 7 (by kernel_rfl)).trans rfl
      exact ⟨rfl, .inl ⟨wanted_some rfl rfl rfl e12, wp_val (run_qload rfl (ev_tmp eo7) (QXs.out.bel hs (by simp))) ⟨rfl, Below.refl _ _⟩⟩⟩
    · intro a' w' ha hs hw hold
      have e12 : a'.tmps[81]? = some (Value.bool false) := Rg.slot_get rfl rfl (hw 12 (by kernel_rfl) _ rfl)
      have eo5 : a'.tmps[5]? = some (ptr gb) := (ha.rest 5 (by kernel_rfl)).trans rfl
      exact ⟨rfl, .inl ⟨wanted_some rfl rfl rfl e12, wp_val (run_qload rfl (ev_tmp eo5) (QXb.out.bel hs (by simp))) ⟨rfl, Below.refl _ _⟩⟩⟩
    · intro a' w' ha hs hw hold
      have e12 : a'.tmps[81]? = some (Value.bool false) := Rg.slot_get rfl rfl (hw 12 (by kernel_rfl) _ rfl)
      have e13 : a'.tmps[82]? = some (.agg #[.bool ssn, .slice Xsn psn qsn, .bool ssd, .slice Xsd psd qsd]) := Rg.slot_get rfl rfl (hw 13 (by kernel_rfl) _ rfl)
      have e14 : a'.tmps[83]? = some (.agg #[.bool sbn, .slice Xbn pbn qbn, .bool sbd, .slice Xbd pbd qbd]) := Rg.slot_get rfl rfl (hw 14 (by kernel_rfl) _ rfl)
      exact ⟨rfl, wanted_some rfl rfl rfl e12, call_step rfl Tryz.func19 (by kernel_rfl) rfl (map_two (ev_tmp e13) (ev_tmp e14)) (qsub_any _ _ (a + b) b _ (QVs.out.kn hs.kn) ((SA.out.add SB.out).mono (show 15 ≤ 100000 by decide)) (QVb.out.kn hs.kn) (SB.out.mono (show 7 ≤ 100000 by decide))) (fun e w2 he => by obtain ⟨v, rfl, hv, hb⟩ := he; exact ⟨v, rfl, v, rfl, hv, hb⟩)⟩
    · intro a' w' ha hs hw hold
      have e12 : a'.tmps[81]? = some (Value.bool false) := Rg.slot_get rfl rfl (hw 12 (by kernel_rfl) _ rfl)
      have eo4 : a'.tmps[4]? = some (ptr ga) := (ha.rest 4 (by kernel_rfl)).trans rfl
      exact ⟨rfl, .inl ⟨wanted_some rfl rfl rfl e12, wp_val (run_qload rfl (ev_tmp eo4) (QXa.out.bel hs (by simp))) ⟨rfl, Below.refl _ _⟩⟩⟩
    · intro a' w' ha hs hw hold
      have e12 : a'.tmps[81]? = some (Value.bool false) := Rg.slot_get rfl rfl (hw 12 (by kernel_rfl) _ rfl)
      obtain ⟨v15, e15, q15⟩ := hw 15 (by kernel_rfl) _ rfl
      replace e15 : a'.tmps[84]? = some v15 := Rg.slot_get rfl rfl e15
      have e16 : a'.tmps[85]? = some (.agg #[.bool san, .slice Xan pan qan, .bool sad, .slice Xad pad qad]) := Rg.slot_get rfl rfl (hw 16 (by kernel_rfl) _ rfl)
      exact ⟨rfl, .inl ⟨wanted_some rfl rfl rfl e12, call_step rfl Tryz.func16 (by kernel_rfl) rfl (map_two (ev_tmp e15) (ev_tmp e16)) (qsame_is _ _ ((a + b) - b) a true _ q15 (((SA.out.add SB.out).sub SB.out).mono (show 23 ≤ 1000000 by decide)) (QVa.out.kn hs.kn) (SA.out.mono (show 7 ≤ 1000000 by decide)) (decide_eq_true (fl_sub _ _))) (fun e w2 he => by obtain ⟨rfl, hb⟩ := he; exact ⟨_, rfl, rfl, hb⟩)⟩⟩
    · intro a' w' ha hs hw hold
      have e12 : a'.tmps[81]? = some (Value.bool false) := Rg.slot_get rfl rfl (hw 12 (by kernel_rfl) _ rfl)
      have e17 : a'.tmps[86]? = some (Value.bool true) := Rg.slot_get rfl rfl (hw 17 (by kernel_rfl) _ rfl)
      exact ⟨rfl, .inl ⟨wanted_some rfl rfl rfl e12, wp_val (run_not rfl (ev_tmp e17)) ⟨rfl, Below.refl _ _⟩⟩⟩
    · intro a' w' ha hs hw hold
      have e12 : a'.tmps[81]? = some (Value.bool false) := Rg.slot_get rfl rfl (hw 12 (by kernel_rfl) _ rfl)
      have e18 : a'.tmps[87]? = some (Value.bool false) := Rg.slot_get rfl rfl (hw 18 (by kernel_rfl) _ rfl)
      exact ⟨rfl, .inl ⟨wanted_none rfl, wp_val (run_pick (b := false) rfl (ev_tmp e12) (ev_tmp e18)) ⟨rfl, Below.refl _ _⟩⟩⟩
    · intro a' w' ha hs hw hold
      have e19 : a'.tmps[88]? = some (Value.bool false) := Rg.slot_get rfl rfl (hw 19 (by kernel_rfl) _ rfl)
      exact ⟨rfl, .inl ⟨wanted_none rfl, wp_val (run_move rfl (ev_tmp e19)) ⟨rfl, Below.refl _ _⟩⟩⟩
    · intro a' w' ha hs hw hold
      have e20 : a'.tmps[89]? = some (Value.bool false) := Rg.slot_get rfl rfl (hw 20 (by kernel_rfl) _ rfl)
      have eo4 : a'.tmps[4]? = some (ptr ga) := (ha.rest 4 (by kernel_rfl)).trans rfl
      exact ⟨rfl, .inl ⟨wanted_some rfl rfl rfl e20, wp_val (run_qload rfl (ev_tmp eo4) (QXa.out.bel hs (by simp))) ⟨rfl, Below.refl _ _⟩⟩⟩
    · intro a' w' ha hs hw hold
      have e20 : a'.tmps[89]? = some (Value.bool false) := Rg.slot_get rfl rfl (hw 20 (by kernel_rfl) _ rfl)
      have eo4 : a'.tmps[4]? = some (ptr ga) := (ha.rest 4 (by kernel_rfl)).trans rfl
      exact ⟨rfl, .inl ⟨wanted_some rfl rfl rfl e20, wp_val (run_qload rfl (ev_tmp eo4) (QXa.out.bel hs (by simp))) ⟨rfl, Below.refl _ _⟩⟩⟩
    · intro a' w' ha hs hw hold
      have e20 : a'.tmps[89]? = some (Value.bool false) := Rg.slot_get rfl rfl (hw 20 (by kernel_rfl) _ rfl)
      have e22 : a'.tmps[91]? = some (.agg #[.bool san, .slice Xan pan qan, .bool sad, .slice Xad pad qad]) := Rg.slot_get rfl rfl (hw 22 (by kernel_rfl) _ rfl)
      exact ⟨rfl, wanted_some rfl rfl rfl e20, call_step rfl Tryz.func23 (by kernel_rfl) rfl (map_one (ev_tmp e22)) (qneg_any _ a _ (QVa.out.kn hs.kn) (SA.out.mono (show 7 ≤ 100000 by decide))) (fun e w2 he => by obtain ⟨v, rfl, hv, hb⟩ := he; exact ⟨v, rfl, v, rfl, hv, hb⟩)⟩
    · intro a' w' ha hs hw hold
      have e20 : a'.tmps[89]? = some (Value.bool false) := Rg.slot_get rfl rfl (hw 20 (by kernel_rfl) _ rfl)
      have e21 : a'.tmps[90]? = some (.agg #[.bool san, .slice Xan pan qan, .bool sad, .slice Xad pad qad]) := Rg.slot_get rfl rfl (hw 21 (by kernel_rfl) _ rfl)
      obtain ⟨v23, e23, q23⟩ := hw 23 (by kernel_rfl) _ rfl
      replace e23 : a'.tmps[92]? = some v23 := Rg.slot_get rfl rfl e23
      exact ⟨rfl, wanted_some rfl rfl rfl e20, call_step rfl Tryz.func17 (by kernel_rfl) rfl (map_two (ev_tmp e21) (ev_tmp e23)) (qadd_any _ _ a (-a) _ (QVa.out.kn hs.kn) q23 (SA.out.mono (show 7 ≤ 100000 by decide)) ((SA.out.neg).mono (show 7 ≤ 100000 by decide))) (fun e w2 he => by obtain ⟨v, rfl, hv, hb⟩ := he; exact ⟨v, rfl, v, rfl, hv, hb⟩)⟩
    · intro a' w' ha hs hw hold
      have e20 : a'.tmps[89]? = some (Value.bool false) := Rg.slot_get rfl rfl (hw 20 (by kernel_rfl) _ rfl)
      exact ⟨rfl, wanted_some rfl rfl rfl e20, call_step rfl Tryz.func25 (by kernel_rfl) rfl (map_one rfl) (whole_any (0) _ (by decide) (by decide)) (fun e w2 he => by obtain ⟨v, rfl, hv, hb⟩ := he; exact ⟨v, rfl, v, rfl, hv, hb⟩)⟩
    · intro a' w' ha hs hw hold
      have e20 : a'.tmps[89]? = some (Value.bool false) := Rg.slot_get rfl rfl (hw 20 (by kernel_rfl) _ rfl)
      obtain ⟨v24, e24, q24⟩ := hw 24 (by kernel_rfl) _ rfl
      replace e24 : a'.tmps[93]? = some v24 := Rg.slot_get rfl rfl e24
      obtain ⟨v25, e25, q25⟩ := hw 25 (by kernel_rfl) _ rfl
      replace e25 : a'.tmps[94]? = some v25 := Rg.slot_get rfl rfl e25
      exact ⟨rfl, .inl ⟨wanted_some rfl rfl rfl e20, call_step rfl Tryz.func16 (by kernel_rfl) rfl (map_two (ev_tmp e24) (ev_tmp e25)) (qsame_is _ _ (a + (-a)) ((0 : Int) : Rat) true _ q24 ((SA.out.add (SA.out.neg)).mono (show 15 ≤ 1000000 by decide)) q25 ((Sr.whole (by decide)).mono (show 2 ≤ 1000000 by decide)) (decide_eq_true (fl_neg _))) (fun e w2 he => by obtain ⟨rfl, hb⟩ := he; exact ⟨_, rfl, rfl, hb⟩)⟩⟩
    · intro a' w' ha hs hw hold
      have e20 : a'.tmps[89]? = some (Value.bool false) := Rg.slot_get rfl rfl (hw 20 (by kernel_rfl) _ rfl)
      have e26 : a'.tmps[95]? = some (Value.bool true) := Rg.slot_get rfl rfl (hw 26 (by kernel_rfl) _ rfl)
      exact ⟨rfl, .inl ⟨wanted_some rfl rfl rfl e20, wp_val (run_not rfl (ev_tmp e26)) ⟨rfl, Below.refl _ _⟩⟩⟩
    · intro a' w' ha hs hw hold
      have e20 : a'.tmps[89]? = some (Value.bool false) := Rg.slot_get rfl rfl (hw 20 (by kernel_rfl) _ rfl)
      have e27 : a'.tmps[96]? = some (Value.bool false) := Rg.slot_get rfl rfl (hw 27 (by kernel_rfl) _ rfl)
      exact ⟨rfl, .inl ⟨wanted_none rfl, wp_val (run_pick (b := false) rfl (ev_tmp e20) (ev_tmp e27)) ⟨rfl, Below.refl _ _⟩⟩⟩
    · intro a' w' ha hs hw hold
      have e28 : a'.tmps[97]? = some (Value.bool false) := Rg.slot_get rfl rfl (hw 28 (by kernel_rfl) _ rfl)
      exact ⟨rfl, .inl ⟨wanted_none rfl, wp_val (run_move rfl (ev_tmp e28)) ⟨rfl, Below.refl _ _⟩⟩⟩
    · intro a' w' ha hs hw hold
      have e29 : a'.tmps[98]? = some (Value.bool false) := Rg.slot_get rfl rfl (hw 29 (by kernel_rfl) _ rfl)
      have eo4 : a'.tmps[4]? = some (ptr ga) := (ha.rest 4 (by kernel_rfl)).trans rfl
      exact ⟨rfl, .inl ⟨wanted_some rfl rfl rfl e29, wp_val (run_qload rfl (ev_tmp eo4) (QXa.out.bel hs (by simp))) ⟨rfl, Below.refl _ _⟩⟩⟩
    · intro a' w' ha hs hw hold
      have e29 : a'.tmps[98]? = some (Value.bool false) := Rg.slot_get rfl rfl (hw 29 (by kernel_rfl) _ rfl)
      exact ⟨rfl, wanted_some rfl rfl rfl e29, call_step rfl Tryz.func25 (by kernel_rfl) rfl (map_one rfl) (whole_any (1) _ (by decide) (by decide)) (fun e w2 he => by obtain ⟨v, rfl, hv, hb⟩ := he; exact ⟨v, rfl, v, rfl, hv, hb⟩)⟩
    · intro a' w' ha hs hw hold
      have e29 : a'.tmps[98]? = some (Value.bool false) := Rg.slot_get rfl rfl (hw 29 (by kernel_rfl) _ rfl)
      have e30 : a'.tmps[99]? = some (.agg #[.bool san, .slice Xan pan qan, .bool sad, .slice Xad pad qad]) := Rg.slot_get rfl rfl (hw 30 (by kernel_rfl) _ rfl)
      obtain ⟨v31, e31, q31⟩ := hw 31 (by kernel_rfl) _ rfl
      replace e31 : a'.tmps[100]? = some v31 := Rg.slot_get rfl rfl e31
      exact ⟨rfl, wanted_some rfl rfl rfl e29, call_step rfl Tryz.func21 (by kernel_rfl) rfl (map_two (ev_tmp e30) (ev_tmp e31)) (qmul_any _ _ a ((1 : Int) : Rat) _ (QVa.out.kn hs.kn) q31 (SA.out.mono (show 7 ≤ 100000 by decide)) ((Sr.whole (by decide)).mono (show 2 ≤ 100000 by decide))) (fun e w2 he => by obtain ⟨v, rfl, hv, hb⟩ := he; exact ⟨v, rfl, v, rfl, hv, hb⟩)⟩
    · intro a' w' ha hs hw hold
      have e29 : a'.tmps[98]? = some (Value.bool false) := Rg.slot_get rfl rfl (hw 29 (by kernel_rfl) _ rfl)
      have eo4 : a'.tmps[4]? = some (ptr ga) := (ha.rest 4 (by kernel_rfl)).trans rfl
      exact ⟨rfl, .inl ⟨wanted_some rfl rfl rfl e29, wp_val (run_qload rfl (ev_tmp eo4) (QXa.out.bel hs (by simp))) ⟨rfl, Below.refl _ _⟩⟩⟩
    · intro a' w' ha hs hw hold
      have e29 : a'.tmps[98]? = some (Value.bool false) := Rg.slot_get rfl rfl (hw 29 (by kernel_rfl) _ rfl)
      obtain ⟨v32, e32, q32⟩ := hw 32 (by kernel_rfl) _ rfl
      replace e32 : a'.tmps[101]? = some v32 := Rg.slot_get rfl rfl e32
      have e33 : a'.tmps[102]? = some (.agg #[.bool san, .slice Xan pan qan, .bool sad, .slice Xad pad qad]) := Rg.slot_get rfl rfl (hw 33 (by kernel_rfl) _ rfl)
      exact ⟨rfl, .inl ⟨wanted_some rfl rfl rfl e29, call_step rfl Tryz.func16 (by kernel_rfl) rfl (map_two (ev_tmp e32) (ev_tmp e33)) (qsame_is _ _ (a * ((1 : Int) : Rat)) a true _ q32 ((SA.out.mul (Sr.whole (by decide))).mono (show 9 ≤ 1000000 by decide)) (QVa.out.kn hs.kn) (SA.out.mono (show 7 ≤ 1000000 by decide)) (decide_eq_true (fl_one _))) (fun e w2 he => by obtain ⟨rfl, hb⟩ := he; exact ⟨_, rfl, rfl, hb⟩)⟩⟩
    · intro a' w' ha hs hw hold
      have e29 : a'.tmps[98]? = some (Value.bool false) := Rg.slot_get rfl rfl (hw 29 (by kernel_rfl) _ rfl)
      have e34 : a'.tmps[103]? = some (Value.bool true) := Rg.slot_get rfl rfl (hw 34 (by kernel_rfl) _ rfl)
      exact ⟨rfl, .inl ⟨wanted_some rfl rfl rfl e29, wp_val (run_not rfl (ev_tmp e34)) ⟨rfl, Below.refl _ _⟩⟩⟩
    · intro a' w' ha hs hw hold
      have e29 : a'.tmps[98]? = some (Value.bool false) := Rg.slot_get rfl rfl (hw 29 (by kernel_rfl) _ rfl)
      have e35 : a'.tmps[104]? = some (Value.bool false) := Rg.slot_get rfl rfl (hw 35 (by kernel_rfl) _ rfl)
      exact ⟨rfl, .inl ⟨wanted_none rfl, wp_val (run_pick (b := false) rfl (ev_tmp e29) (ev_tmp e35)) ⟨rfl, Below.refl _ _⟩⟩⟩
  simp only [Rg.allG]
  intro r4x2 _
  intro r4x5 _
  intro r4x8 _
  intro r4x9 _
  intro r4x15 _
  intro r4x23 _
  intro r4x24 _
  intro r4x25 _
  intro r4x31 _
  intro r4x32 _
  simp only [setOpt, Rg.setOpt, List.set_cons_succ, List.set_cons_zero]
  refine hK _ _ ?_
  clear hK K
  replace hs := hs.below
  replace QXa := Lib.hid (QXa.out.next hs rfl); replace IVna := Lib.hid (iv_next IVna.out hs rfl); replace IVda := Lib.hid (iv_next IVda.out hs rfl)
  replace QXb := Lib.hid (QXb.out.next hs rfl); replace IVnb := Lib.hid (iv_next IVnb.out hs rfl); replace IVdb := Lib.hid (iv_next IVdb.out hs rfl)
  replace QXc := Lib.hid (QXc.out.next hs rfl); replace IVnc := Lib.hid (iv_next IVnc.out hs rfl); replace IVdc := Lib.hid (iv_next IVdc.out hs rfl)
  replace QXs := Lib.hid (QXs.out.next hs rfl); replace IVns := Lib.hid (iv_next IVns.out hs rfl); replace IVds := Lib.hid (iv_next IVds.out hs rfl)
  replace QXp := Lib.hid (QXp.out.next hs rfl); replace IVnp := Lib.hid (iv_next IVnp.out hs rfl); replace IVdp := Lib.hid (iv_next IVdp.out hs rfl)
  replace TX := Lib.hid (TX.out.next hs rfl)
  replace DW := Lib.hid (link_below DW.out hs (by have := DW.out.size; have := hg.out; omega) rfl rfl rfl rfl)
  clear hs
  go_upto_region 10 with fail
  by_cases hb0 : b.num = 0
  · replace hb0 := Lib.hid hb0
    obtain ⟨z1, hz1⟩ : ∃ z : Int, z = 0 := ⟨_, rfl⟩
    obtain ⟨z2, hz2⟩ : ∃ z : Int, z = 0 := ⟨_, rfl⟩
    obtain ⟨z3, hz3⟩ : ∃ z : Int, z = 0 := ⟨_, rfl⟩
    obtain ⟨z4, hz4⟩ : ∃ z : Int, z = 0 := ⟨_, rfl⟩
    replace hz1 := Lib.hid hz1; replace hz2 := Lib.hid hz2; replace hz3 := Lib.hid hz3; replace hz4 := Lib.hid hz4
    have QVp : Hid (Qv wn (.agg #[.bool spn, .slice Xpn ppn qpn, .bool spd, .slice Xpd ppd qpd]) (a * b).num (a * b).den) := qv_of IVnp.out IVdp.out
    have QVb : Hid (Qv wn (.agg #[.bool sbn, .slice Xbn pbn qbn, .bool sbd, .slice Xbd pbd qbd]) (b).num (b).den) := qv_of IVnb.out IVdb.out
    have u5a := QXp.out.cell0; have u5b := QXp.out.cell1; have u5c := QXp.out.cell2; have u5d := QXp.out.cell3
    have u6a := QXb.out.cell0; have u6b := QXb.out.cell1; have u6c := QXb.out.cell2; have u6d := QXb.out.cell3
    go_wp2_with fail
    clear u5a u5b u5c u5d u6a u6b u6c u6d
    refine ((qdiv_zero _ _ (a * b) b _ QVp.out ((SA.out.mul SB.out).mono (show 14 ≤ 50000 by decide)) QVb.out (SB.out.mono (show 7 ≤ 50000 by decide)) hb0.out).mono fun _ _ h => retqd hz1.out hz2.out h).mono ?_
    rintro e y7 ⟨_, rfl, hq, hb⟩
    clear QVp QVb
    obtain ⟨Xqn, pqn, qqn, Xqd, pqd, qqd, rfl, hqn, hqd⟩ := hq
    have Qqn := Lib.hid hqn; have Qqd := Lib.hid hqd; clear hqn hqd
    have B := Lib.hid hb; clear hb
    generalize hs : decide ((z1 : Int) < 0) = sqn at *
    clear hs
    generalize hs : decide ((z2 : Int) < 0) = sqd at *
    clear hs
    go_upto_region 11 with fail
    obtain ⟨W8, hW⟩ : ∃ W8, W8 = y7.alloc (Obj.cells #[Value.bool sqn, Value.slice Xqn pqn qqn, Value.bool sqd, Value.slice Xqd pqd qqd] 31) := ⟨_, rfl⟩
    rw [← hW]
    have QXq : Hid (QBox W8 y7.heap.size sqn (.slice Xqn pqn qqn) sqd (.slice Xqd pqd qqd)) := by rw [hW]; exact QBox.new _ _ _ _ _
    have IVnq : Hid (Iv W8 (.agg #[.bool sqn, .slice Xqn pqn qqn]) (z1)) := by rw [hW]; exact Qqn.out.alloc _
    have IVdq : Hid (Iv W8 (.agg #[.bool sqd, .slice Xqd pqd qqd]) (z2)) := by rw [hW]; exact Qqd.out.alloc _
    have hd : Below wn.heap.size wn W8 := by rw [hW]; exact B.out.alloc (by have := B.out.size; omega) _
    clear hW B Qqn Qqd
    generalize hgn8 : y7.heap.size = gq at *
    clear hgn8
    replace QXa := Lib.hid (QXa.out.next hd rfl); replace IVna := Lib.hid (iv_next IVna.out hd rfl); replace IVda := Lib.hid (iv_next IVda.out hd rfl)
    replace QXb := Lib.hid (QXb.out.next hd rfl); replace IVnb := Lib.hid (iv_next IVnb.out hd rfl); replace IVdb := Lib.hid (iv_next IVdb.out hd rfl)
    replace QXc := Lib.hid (QXc.out.next hd rfl); replace IVnc := Lib.hid (iv_next IVnc.out hd rfl); replace IVdc := Lib.hid (iv_next IVdc.out hd rfl)
    replace QXs := Lib.hid (QXs.out.next hd rfl); replace IVns := Lib.hid (iv_next IVns.out hd rfl); replace IVds := Lib.hid (iv_next IVds.out hd rfl)
    replace QXp := Lib.hid (QXp.out.next hd rfl); replace IVnp := Lib.hid (iv_next IVnp.out hd rfl); replace IVdp := Lib.hid (iv_next IVdp.out hd rfl)
    replace TX := Lib.hid (TX.out.next hd rfl)
    replace DW := Lib.hid (link_below DW.out hd (by have := DW.out.size; have := hg.out; omega) rfl rfl rfl rfl)
    clear hd
    have QVb : Hid (Qv W8 (.agg #[.bool sbn, .slice Xbn pbn qbn, .bool sbd, .slice Xbd pbd qbd]) (b).num (b).den) := qv_of IVnb.out IVdb.out
    have u9a := QXb.out.cell0; have u9b := QXb.out.cell1; have u9c := QXb.out.cell2; have u9d := QXb.out.cell3
    go_wp2_with fail
    clear u9a u9b u9c u9d
    refine ((qinv_zero _ b _ QVb.out (SB.out.mono (show 7 ≤ 100000 by decide)) hb0.out).mono fun _ _ h => retqd hz3.out hz4.out h).mono ?_
    rintro e y10 ⟨_, rfl, hq, hb⟩
    clear QVb
    obtain ⟨Xin, pin, qin, Xid, pid, qid, rfl, hin, hid⟩ := hq
    have Qin := Lib.hid hin; have Qid := Lib.hid hid; clear hin hid
    have B := Lib.hid hb; clear hb
    generalize hs : decide ((z3 : Int) < 0) = sin at *
    clear hs
    generalize hs : decide ((z4 : Int) < 0) = sid at *
    clear hs
    go_upto_region 12 with fail
    obtain ⟨W11, hW⟩ : ∃ W11, W11 = y10.alloc (Obj.cells #[Value.bool sin, Value.slice Xin pin qin, Value.bool sid, Value.slice Xid pid qid] 31) := ⟨_, rfl⟩
    rw [← hW]
    have QXi : Hid (QBox W11 y10.heap.size sin (.slice Xin pin qin) sid (.slice Xid pid qid)) := by rw [hW]; exact QBox.new _ _ _ _ _
    have IVni : Hid (Iv W11 (.agg #[.bool sin, .slice Xin pin qin]) (z3)) := by rw [hW]; exact Qin.out.alloc _
    have IVdi : Hid (Iv W11 (.agg #[.bool sid, .slice Xid pid qid]) (z4)) := by rw [hW]; exact Qid.out.alloc _
    have hd : Below W8.heap.size W8 W11 := by rw [hW]; exact B.out.alloc (by have := B.out.size; omega) _
    clear hW B Qin Qid
    generalize hgn11 : y10.heap.size = gi at *
    clear hgn11
    replace QXa := Lib.hid (QXa.out.next hd rfl); replace IVna := Lib.hid (iv_next IVna.out hd rfl); replace IVda := Lib.hid (iv_next IVda.out hd rfl)
    replace QXb := Lib.hid (QXb.out.next hd rfl); replace IVnb := Lib.hid (iv_next IVnb.out hd rfl); replace IVdb := Lib.hid (iv_next IVdb.out hd rfl)
    replace QXc := Lib.hid (QXc.out.next hd rfl); replace IVnc := Lib.hid (iv_next IVnc.out hd rfl); replace IVdc := Lib.hid (iv_next IVdc.out hd rfl)
    replace QXs := Lib.hid (QXs.out.next hd rfl); replace IVns := Lib.hid (iv_next IVns.out hd rfl); replace IVds := Lib.hid (iv_next IVds.out hd rfl)
    replace QXp := Lib.hid (QXp.out.next hd rfl); replace IVnp := Lib.hid (iv_next IVnp.out hd rfl); replace IVdp := Lib.hid (iv_next IVdp.out hd rfl)
    replace QXq := Lib.hid (QXq.out.next hd rfl); replace IVnq := Lib.hid (iv_next IVnq.out hd rfl); replace IVdq := Lib.hid (iv_next IVdq.out hd rfl)
    replace TX := Lib.hid (TX.out.next hd rfl)
    replace DW := Lib.hid (link_below DW.out hd (by have := DW.out.size; have := hg.out; omega) rfl rfl rfl rfl)
    clear hd
    have QVb : Hid (Qv W11 (.agg #[.bool sbn, .slice Xbn pbn qbn, .bool sbd, .slice Xbd pbd qbd]) (b).num (b).den) := qv_of IVnb.out IVdb.out
    have u12a := QXb.out.cell0; have u12b := QXb.out.cell1; have u12c := QXb.out.cell2; have u12d := QXb.out.cell3
    go_wp2_with fail
    clear u12a u12b u12c u12d
    refine (qsign_any _ b _ QVb.out (SB.out.mono (show 7 ≤ 1000000 by decide))).mono ?_
    rintro e y9 ⟨rfl, hb⟩
    clear QVb
    replace QXa := Lib.hid (QXa.out.next hb rfl); replace IVna := Lib.hid (iv_next IVna.out hb rfl); replace IVda := Lib.hid (iv_next IVda.out hb rfl)
    replace QXb := Lib.hid (QXb.out.next hb rfl); replace IVnb := Lib.hid (iv_next IVnb.out hb rfl); replace IVdb := Lib.hid (iv_next IVdb.out hb rfl)
    replace QXc := Lib.hid (QXc.out.next hb rfl); replace IVnc := Lib.hid (iv_next IVnc.out hb rfl); replace IVdc := Lib.hid (iv_next IVdc.out hb rfl)
    replace QXs := Lib.hid (QXs.out.next hb rfl); replace IVns := Lib.hid (iv_next IVns.out hb rfl); replace IVds := Lib.hid (iv_next IVds.out hb rfl)
    replace QXp := Lib.hid (QXp.out.next hb rfl); replace IVnp := Lib.hid (iv_next IVnp.out hb rfl); replace IVdp := Lib.hid (iv_next IVdp.out hb rfl)
    replace QXq := Lib.hid (QXq.out.next hb rfl); replace IVnq := Lib.hid (iv_next IVnq.out hb rfl); replace IVdq := Lib.hid (iv_next IVdq.out hb rfl)
    replace QXi := Lib.hid (QXi.out.next hb rfl); replace IVni := Lib.hid (iv_next IVni.out hb rfl); replace IVdi := Lib.hid (iv_next IVdi.out hb rfl)
    replace TX := Lib.hid (TX.out.next hb rfl)
    replace DW := Lib.hid (link_below DW.out hb (by have := DW.out.size; have := hg.out; omega) rfl rfl rfl rfl)
    clear hb
    have hsg := sg_zero hb0.out
    rw [hsg]
    go_upto_region 13 with fail
    have QVq : Hid (Qv y9 (.agg #[.bool sqn, .slice Xqn pqn qqn, .bool sqd, .slice Xqd pqd qqd]) z1 z2) := qv_of IVnq.out IVdq.out
    have u13a := QXq.out.cell0; have u13b := QXq.out.cell1; have u13c := QXq.out.cell2; have u13d := QXq.out.cell3
    go_wp2_with fail
    clear u13a u13b u13c u13d
    refine (fails_zero _ 10 _ (qv00 hz1.out hz2.out QVq.out)).mono ?_
    rintro e y14 ⟨rfl, hb⟩
    clear QVq
    replace QXa := Lib.hid (QXa.out.next hb rfl); replace IVna := Lib.hid (iv_next IVna.out hb rfl); replace IVda := Lib.hid (iv_next IVda.out hb rfl)
    replace QXb := Lib.hid (QXb.out.next hb rfl); replace IVnb := Lib.hid (iv_next IVnb.out hb rfl); replace IVdb := Lib.hid (iv_next IVdb.out hb rfl)
    replace QXc := Lib.hid (QXc.out.next hb rfl); replace IVnc := Lib.hid (iv_next IVnc.out hb rfl); replace IVdc := Lib.hid (iv_next IVdc.out hb rfl)
    replace QXs := Lib.hid (QXs.out.next hb rfl); replace IVns := Lib.hid (iv_next IVns.out hb rfl); replace IVds := Lib.hid (iv_next IVds.out hb rfl)
    replace QXp := Lib.hid (QXp.out.next hb rfl); replace IVnp := Lib.hid (iv_next IVnp.out hb rfl); replace IVdp := Lib.hid (iv_next IVdp.out hb rfl)
    replace QXq := Lib.hid (QXq.out.next hb rfl); replace IVnq := Lib.hid (iv_next IVnq.out hb rfl); replace IVdq := Lib.hid (iv_next IVdq.out hb rfl)
    replace QXi := Lib.hid (QXi.out.next hb rfl); replace IVni := Lib.hid (iv_next IVni.out hb rfl); replace IVdi := Lib.hid (iv_next IVdi.out hb rfl)
    replace TX := Lib.hid (TX.out.next hb rfl)
    replace DW := Lib.hid (link_below DW.out hb (by have := DW.out.size; have := hg.out; omega) rfl rfl rfl rfl)
    clear hb
    have QVi : Hid (Qv y14 (.agg #[.bool sin, .slice Xin pin qin, .bool sid, .slice Xid pid qid]) z3 z4) := qv_of IVni.out IVdi.out
    have u15a := QXi.out.cell0; have u15b := QXi.out.cell1; have u15c := QXi.out.cell2; have u15d := QXi.out.cell3
    go_wp2_with fail
    clear u15a u15b u15c u15d
    refine (fails_zero _ 10 _ (qv00 hz3.out hz4.out QVi.out)).mono ?_
    rintro e y16 ⟨rfl, hb⟩
    clear QVi
    replace QXa := Lib.hid (QXa.out.next hb rfl); replace IVna := Lib.hid (iv_next IVna.out hb rfl); replace IVda := Lib.hid (iv_next IVda.out hb rfl)
    replace QXb := Lib.hid (QXb.out.next hb rfl); replace IVnb := Lib.hid (iv_next IVnb.out hb rfl); replace IVdb := Lib.hid (iv_next IVdb.out hb rfl)
    replace QXc := Lib.hid (QXc.out.next hb rfl); replace IVnc := Lib.hid (iv_next IVnc.out hb rfl); replace IVdc := Lib.hid (iv_next IVdc.out hb rfl)
    replace QXs := Lib.hid (QXs.out.next hb rfl); replace IVns := Lib.hid (iv_next IVns.out hb rfl); replace IVds := Lib.hid (iv_next IVds.out hb rfl)
    replace QXp := Lib.hid (QXp.out.next hb rfl); replace IVnp := Lib.hid (iv_next IVnp.out hb rfl); replace IVdp := Lib.hid (iv_next IVdp.out hb rfl)
    replace QXq := Lib.hid (QXq.out.next hb rfl); replace IVnq := Lib.hid (iv_next IVnq.out hb rfl); replace IVdq := Lib.hid (iv_next IVdq.out hb rfl)
    replace QXi := Lib.hid (QXi.out.next hb rfl); replace IVni := Lib.hid (iv_next IVni.out hb rfl); replace IVdi := Lib.hid (iv_next IVdi.out hb rfl)
    replace TX := Lib.hid (TX.out.next hb rfl)
    replace DW := Lib.hid (link_below DW.out hb (by have := DW.out.size; have := hg.out; omega) rfl rfl rfl rfl)
    clear hb
    go_wp2
    go_ret
    exact ⟨rfl, by rw [hg.out]; exact DW.out⟩
  · replace hb0 : Hid (b.num ≠ 0) := hb0
    have QVp : Hid (Qv wn (.agg #[.bool spn, .slice Xpn ppn qpn, .bool spd, .slice Xpd ppd qpd]) (a * b).num (a * b).den) := qv_of IVnp.out IVdp.out
    have QVb : Hid (Qv wn (.agg #[.bool sbn, .slice Xbn pbn qbn, .bool sbd, .slice Xbd pbd qbd]) (b).num (b).den) := qv_of IVnb.out IVdb.out
    have u17a := QXp.out.cell0; have u17b := QXp.out.cell1; have u17c := QXp.out.cell2; have u17d := QXp.out.cell3
    have u18a := QXb.out.cell0; have u18b := QXb.out.cell1; have u18c := QXb.out.cell2; have u18d := QXb.out.cell3
    go_wp2_with fail
    clear u17a u17b u17c u17d u18a u18b u18c u18d
    refine (qdiv_any _ _ (a * b) b _ QVp.out ((SA.out.mul SB.out).mono (show 14 ≤ 50000 by decide)) QVb.out (SB.out.mono (show 7 ≤ 50000 by decide)) hb0.out).mono ?_
    rintro e y19 ⟨_, rfl, hq, hb⟩
    clear QVp QVb
    obtain ⟨Xqn, pqn, qqn, Xqd, pqd, qqd, rfl, hqn, hqd⟩ := hq
    have Qqn := Lib.hid hqn; have Qqd := Lib.hid hqd; clear hqn hqd
    have B := Lib.hid hb; clear hb
    generalize hs : decide (((a * b / b).num : Int) < 0) = sqn at *
    clear hs
    generalize hs : decide ((((a * b / b).den : Int) : Int) < 0) = sqd at *
    clear hs
    go_upto_region 11 with fail
    obtain ⟨W20, hW⟩ : ∃ W20, W20 = y19.alloc (Obj.cells #[Value.bool sqn, Value.slice Xqn pqn qqn, Value.bool sqd, Value.slice Xqd pqd qqd] 31) := ⟨_, rfl⟩
    rw [← hW]
    have QXq : Hid (QBox W20 y19.heap.size sqn (.slice Xqn pqn qqn) sqd (.slice Xqd pqd qqd)) := by rw [hW]; exact QBox.new _ _ _ _ _
    have IVnq : Hid (Iv W20 (.agg #[.bool sqn, .slice Xqn pqn qqn]) ((a * b / b).num)) := by rw [hW]; exact Qqn.out.alloc _
    have IVdq : Hid (Iv W20 (.agg #[.bool sqd, .slice Xqd pqd qqd]) (((a * b / b).den : Int))) := by rw [hW]; exact Qqd.out.alloc _
    have hd : Below wn.heap.size wn W20 := by rw [hW]; exact B.out.alloc (by have := B.out.size; omega) _
    clear hW B Qqn Qqd
    generalize hgn20 : y19.heap.size = gq at *
    clear hgn20
    replace QXa := Lib.hid (QXa.out.next hd rfl); replace IVna := Lib.hid (iv_next IVna.out hd rfl); replace IVda := Lib.hid (iv_next IVda.out hd rfl)
    replace QXb := Lib.hid (QXb.out.next hd rfl); replace IVnb := Lib.hid (iv_next IVnb.out hd rfl); replace IVdb := Lib.hid (iv_next IVdb.out hd rfl)
    replace QXc := Lib.hid (QXc.out.next hd rfl); replace IVnc := Lib.hid (iv_next IVnc.out hd rfl); replace IVdc := Lib.hid (iv_next IVdc.out hd rfl)
    replace QXs := Lib.hid (QXs.out.next hd rfl); replace IVns := Lib.hid (iv_next IVns.out hd rfl); replace IVds := Lib.hid (iv_next IVds.out hd rfl)
    replace QXp := Lib.hid (QXp.out.next hd rfl); replace IVnp := Lib.hid (iv_next IVnp.out hd rfl); replace IVdp := Lib.hid (iv_next IVdp.out hd rfl)
    replace TX := Lib.hid (TX.out.next hd rfl)
    replace DW := Lib.hid (link_below DW.out hd (by have := DW.out.size; have := hg.out; omega) rfl rfl rfl rfl)
    clear hd
    have QVb : Hid (Qv W20 (.agg #[.bool sbn, .slice Xbn pbn qbn, .bool sbd, .slice Xbd pbd qbd]) (b).num (b).den) := qv_of IVnb.out IVdb.out
    have u21a := QXb.out.cell0; have u21b := QXb.out.cell1; have u21c := QXb.out.cell2; have u21d := QXb.out.cell3
    go_wp2_with fail
    clear u21a u21b u21c u21d
    refine (qinv_any _ b _ QVb.out (SB.out.mono (show 7 ≤ 100000 by decide)) hb0.out).mono ?_
    rintro e y22 ⟨_, rfl, hq, hb⟩
    clear QVb
    obtain ⟨Xin, pin, qin, Xid, pid, qid, rfl, hin, hid⟩ := hq
    have Qin := Lib.hid hin; have Qid := Lib.hid hid; clear hin hid
    have B := Lib.hid hb; clear hb
    generalize hs : decide (((b⁻¹).num : Int) < 0) = sin at *
    clear hs
    generalize hs : decide ((((b⁻¹).den : Int) : Int) < 0) = sid at *
    clear hs
    go_upto_region 12 with fail
    obtain ⟨W23, hW⟩ : ∃ W23, W23 = y22.alloc (Obj.cells #[Value.bool sin, Value.slice Xin pin qin, Value.bool sid, Value.slice Xid pid qid] 31) := ⟨_, rfl⟩
    rw [← hW]
    have QXi : Hid (QBox W23 y22.heap.size sin (.slice Xin pin qin) sid (.slice Xid pid qid)) := by rw [hW]; exact QBox.new _ _ _ _ _
    have IVni : Hid (Iv W23 (.agg #[.bool sin, .slice Xin pin qin]) ((b⁻¹).num)) := by rw [hW]; exact Qin.out.alloc _
    have IVdi : Hid (Iv W23 (.agg #[.bool sid, .slice Xid pid qid]) (((b⁻¹).den : Int))) := by rw [hW]; exact Qid.out.alloc _
    have hd : Below W20.heap.size W20 W23 := by rw [hW]; exact B.out.alloc (by have := B.out.size; omega) _
    clear hW B Qin Qid
    generalize hgn23 : y22.heap.size = gi at *
    clear hgn23
    replace QXa := Lib.hid (QXa.out.next hd rfl); replace IVna := Lib.hid (iv_next IVna.out hd rfl); replace IVda := Lib.hid (iv_next IVda.out hd rfl)
    replace QXb := Lib.hid (QXb.out.next hd rfl); replace IVnb := Lib.hid (iv_next IVnb.out hd rfl); replace IVdb := Lib.hid (iv_next IVdb.out hd rfl)
    replace QXc := Lib.hid (QXc.out.next hd rfl); replace IVnc := Lib.hid (iv_next IVnc.out hd rfl); replace IVdc := Lib.hid (iv_next IVdc.out hd rfl)
    replace QXs := Lib.hid (QXs.out.next hd rfl); replace IVns := Lib.hid (iv_next IVns.out hd rfl); replace IVds := Lib.hid (iv_next IVds.out hd rfl)
    replace QXp := Lib.hid (QXp.out.next hd rfl); replace IVnp := Lib.hid (iv_next IVnp.out hd rfl); replace IVdp := Lib.hid (iv_next IVdp.out hd rfl)
    replace QXq := Lib.hid (QXq.out.next hd rfl); replace IVnq := Lib.hid (iv_next IVnq.out hd rfl); replace IVdq := Lib.hid (iv_next IVdq.out hd rfl)
    replace TX := Lib.hid (TX.out.next hd rfl)
    replace DW := Lib.hid (link_below DW.out hd (by have := DW.out.size; have := hg.out; omega) rfl rfl rfl rfl)
    clear hd
    have QVb : Hid (Qv W23 (.agg #[.bool sbn, .slice Xbn pbn qbn, .bool sbd, .slice Xbd pbd qbd]) (b).num (b).den) := qv_of IVnb.out IVdb.out
    have u24a := QXb.out.cell0; have u24b := QXb.out.cell1; have u24c := QXb.out.cell2; have u24d := QXb.out.cell3
    go_wp2_with fail
    clear u24a u24b u24c u24d
    refine (qsign_any _ b _ QVb.out (SB.out.mono (show 7 ≤ 1000000 by decide))).mono ?_
    rintro e y9 ⟨rfl, hb⟩
    clear QVb
    replace QXa := Lib.hid (QXa.out.next hb rfl); replace IVna := Lib.hid (iv_next IVna.out hb rfl); replace IVda := Lib.hid (iv_next IVda.out hb rfl)
    replace QXb := Lib.hid (QXb.out.next hb rfl); replace IVnb := Lib.hid (iv_next IVnb.out hb rfl); replace IVdb := Lib.hid (iv_next IVdb.out hb rfl)
    replace QXc := Lib.hid (QXc.out.next hb rfl); replace IVnc := Lib.hid (iv_next IVnc.out hb rfl); replace IVdc := Lib.hid (iv_next IVdc.out hb rfl)
    replace QXs := Lib.hid (QXs.out.next hb rfl); replace IVns := Lib.hid (iv_next IVns.out hb rfl); replace IVds := Lib.hid (iv_next IVds.out hb rfl)
    replace QXp := Lib.hid (QXp.out.next hb rfl); replace IVnp := Lib.hid (iv_next IVnp.out hb rfl); replace IVdp := Lib.hid (iv_next IVdp.out hb rfl)
    replace QXq := Lib.hid (QXq.out.next hb rfl); replace IVnq := Lib.hid (iv_next IVnq.out hb rfl); replace IVdq := Lib.hid (iv_next IVdq.out hb rfl)
    replace QXi := Lib.hid (QXi.out.next hb rfl); replace IVni := Lib.hid (iv_next IVni.out hb rfl); replace IVdi := Lib.hid (iv_next IVdi.out hb rfl)
    replace TX := Lib.hid (TX.out.next hb rfl)
    replace DW := Lib.hid (link_below DW.out hb (by have := DW.out.size; have := hg.out; omega) rfl rfl rfl rfl)
    clear hb
    have hsg := sg_ne hb0.out
    generalize sg b.num = u at *
    go_upto_region 14 with first | exact hsg | fail
    replace hsg := Lib.hid hsg
    have qdivSr : Hid (Sr (a * b / b) 100) := by rw [Rat.div_def]; exact ((SA.out.mul SB.out).mul (SB.out.inv (by decide))).mono (by decide)
    have QVq : Hid (Qv y9 (.agg #[.bool sqn, .slice Xqn pqn qqn, .bool sqd, .slice Xqd pqd qqd]) (a * b / b).num (a * b / b).den) := qv_of IVnq.out IVdq.out
    have QVa : Hid (Qv y9 (.agg #[.bool san, .slice Xan pan qan, .bool sad, .slice Xad pad qad]) (a).num (a).den) := qv_of IVna.out IVda.out
    have u25a := QXq.out.cell0; have u25b := QXq.out.cell1; have u25c := QXq.out.cell2; have u25d := QXq.out.cell3
    have u26a := QXa.out.cell0; have u26b := QXa.out.cell1; have u26c := QXa.out.cell2; have u26d := QXa.out.cell3
    go_wp2_with fail
    clear u25a u25b u25c u25d u26a u26b u26c u26d
    refine (is_ok _ _ (a * b / b) a true _ QVq.out (qdivSr.out.mono (by decide)) QVa.out (SA.out.mono (by decide)) (decide_eq_true (fl_div hb0.out))).mono ?_
    rintro e y27 ⟨rfl, hb⟩
    clear QVq QVa
    replace QXa := Lib.hid (QXa.out.next hb rfl); replace IVna := Lib.hid (iv_next IVna.out hb rfl); replace IVda := Lib.hid (iv_next IVda.out hb rfl)
    replace QXb := Lib.hid (QXb.out.next hb rfl); replace IVnb := Lib.hid (iv_next IVnb.out hb rfl); replace IVdb := Lib.hid (iv_next IVdb.out hb rfl)
    replace QXc := Lib.hid (QXc.out.next hb rfl); replace IVnc := Lib.hid (iv_next IVnc.out hb rfl); replace IVdc := Lib.hid (iv_next IVdc.out hb rfl)
    replace QXs := Lib.hid (QXs.out.next hb rfl); replace IVns := Lib.hid (iv_next IVns.out hb rfl); replace IVds := Lib.hid (iv_next IVds.out hb rfl)
    replace QXp := Lib.hid (QXp.out.next hb rfl); replace IVnp := Lib.hid (iv_next IVnp.out hb rfl); replace IVdp := Lib.hid (iv_next IVdp.out hb rfl)
    replace QXq := Lib.hid (QXq.out.next hb rfl); replace IVnq := Lib.hid (iv_next IVnq.out hb rfl); replace IVdq := Lib.hid (iv_next IVdq.out hb rfl)
    replace QXi := Lib.hid (QXi.out.next hb rfl); replace IVni := Lib.hid (iv_next IVni.out hb rfl); replace IVdi := Lib.hid (iv_next IVdi.out hb rfl)
    replace TX := Lib.hid (TX.out.next hb rfl)
    replace DW := Lib.hid (link_below DW.out hb (by have := DW.out.size; have := hg.out; omega) rfl rfl rfl rfl)
    clear hb
    have QVi : Hid (Qv y27 (.agg #[.bool sin, .slice Xin pin qin, .bool sid, .slice Xid pid qid]) (b⁻¹).num (b⁻¹).den) := qv_of IVni.out IVdi.out
    have QVb : Hid (Qv y27 (.agg #[.bool sbn, .slice Xbn pbn qbn, .bool sbd, .slice Xbd pbd qbd]) (b).num (b).den) := qv_of IVnb.out IVdb.out
    have u28a := QXi.out.cell0; have u28b := QXi.out.cell1; have u28c := QXi.out.cell2; have u28d := QXi.out.cell3
    have u29a := QXb.out.cell0; have u29b := QXb.out.cell1; have u29c := QXb.out.cell2; have u29d := QXb.out.cell3
    go_wp2_with fail
    clear u28a u28b u28c u28d u29a u29b u29c u29d
    refine (qmul_any _ _ b⁻¹ b _ QVi.out QVb.out ((SB.out.inv (by decide)).mono (by decide)) (SB.out.mono (by decide))).mono ?_
    rintro e y30 ⟨_, rfl, hq1, hb⟩
    clear QVi QVb
    replace hq1 := Lib.hid hq1
    replace QXa := Lib.hid (QXa.out.next hb rfl); replace IVna := Lib.hid (iv_next IVna.out hb rfl); replace IVda := Lib.hid (iv_next IVda.out hb rfl)
    replace QXb := Lib.hid (QXb.out.next hb rfl); replace IVnb := Lib.hid (iv_next IVnb.out hb rfl); replace IVdb := Lib.hid (iv_next IVdb.out hb rfl)
    replace QXc := Lib.hid (QXc.out.next hb rfl); replace IVnc := Lib.hid (iv_next IVnc.out hb rfl); replace IVdc := Lib.hid (iv_next IVdc.out hb rfl)
    replace QXs := Lib.hid (QXs.out.next hb rfl); replace IVns := Lib.hid (iv_next IVns.out hb rfl); replace IVds := Lib.hid (iv_next IVds.out hb rfl)
    replace QXp := Lib.hid (QXp.out.next hb rfl); replace IVnp := Lib.hid (iv_next IVnp.out hb rfl); replace IVdp := Lib.hid (iv_next IVdp.out hb rfl)
    replace QXq := Lib.hid (QXq.out.next hb rfl); replace IVnq := Lib.hid (iv_next IVnq.out hb rfl); replace IVdq := Lib.hid (iv_next IVdq.out hb rfl)
    replace QXi := Lib.hid (QXi.out.next hb rfl); replace IVni := Lib.hid (iv_next IVni.out hb rfl); replace IVdi := Lib.hid (iv_next IVdi.out hb rfl)
    replace TX := Lib.hid (TX.out.next hb rfl)
    replace DW := Lib.hid (link_below DW.out hb (by have := DW.out.size; have := hg.out; omega) rfl rfl rfl rfl)
    clear hb
    go_wp2_with fail
    refine (whole_any 1 _ (by decide) (by decide)).mono ?_
    rintro e y91 ⟨_, rfl, hq2, hb⟩
    replace hq1 := Lib.hid (hq1.out.next hb rfl); replace hq2 := Lib.hid hq2
    replace QXa := Lib.hid (QXa.out.next hb rfl); replace IVna := Lib.hid (iv_next IVna.out hb rfl); replace IVda := Lib.hid (iv_next IVda.out hb rfl)
    replace QXb := Lib.hid (QXb.out.next hb rfl); replace IVnb := Lib.hid (iv_next IVnb.out hb rfl); replace IVdb := Lib.hid (iv_next IVdb.out hb rfl)
    replace QXc := Lib.hid (QXc.out.next hb rfl); replace IVnc := Lib.hid (iv_next IVnc.out hb rfl); replace IVdc := Lib.hid (iv_next IVdc.out hb rfl)
    replace QXs := Lib.hid (QXs.out.next hb rfl); replace IVns := Lib.hid (iv_next IVns.out hb rfl); replace IVds := Lib.hid (iv_next IVds.out hb rfl)
    replace QXp := Lib.hid (QXp.out.next hb rfl); replace IVnp := Lib.hid (iv_next IVnp.out hb rfl); replace IVdp := Lib.hid (iv_next IVdp.out hb rfl)
    replace QXq := Lib.hid (QXq.out.next hb rfl); replace IVnq := Lib.hid (iv_next IVnq.out hb rfl); replace IVdq := Lib.hid (iv_next IVdq.out hb rfl)
    replace QXi := Lib.hid (QXi.out.next hb rfl); replace IVni := Lib.hid (iv_next IVni.out hb rfl); replace IVdi := Lib.hid (iv_next IVdi.out hb rfl)
    replace TX := Lib.hid (TX.out.next hb rfl)
    replace DW := Lib.hid (link_below DW.out hb (by have := DW.out.size; have := hg.out; omega) rfl rfl rfl rfl)
    clear hb
    go_wp2_with fail
    refine (qsame_is _ _ (b⁻¹ * b) ((1 : Int) : Rat) true _ hq1.out (((SB.out.inv (by decide)).mul SB.out).mono (by decide)) hq2.out ((Sr.whole (by decide)).mono (by decide)) (decide_eq_true (fl_inv hb0.out))).mono ?_
    rintro e y92 ⟨rfl, hb⟩
    clear hq1 hq2
    replace QXa := Lib.hid (QXa.out.next hb rfl); replace IVna := Lib.hid (iv_next IVna.out hb rfl); replace IVda := Lib.hid (iv_next IVda.out hb rfl)
    replace QXb := Lib.hid (QXb.out.next hb rfl); replace IVnb := Lib.hid (iv_next IVnb.out hb rfl); replace IVdb := Lib.hid (iv_next IVdb.out hb rfl)
    replace QXc := Lib.hid (QXc.out.next hb rfl); replace IVnc := Lib.hid (iv_next IVnc.out hb rfl); replace IVdc := Lib.hid (iv_next IVdc.out hb rfl)
    replace QXs := Lib.hid (QXs.out.next hb rfl); replace IVns := Lib.hid (iv_next IVns.out hb rfl); replace IVds := Lib.hid (iv_next IVds.out hb rfl)
    replace QXp := Lib.hid (QXp.out.next hb rfl); replace IVnp := Lib.hid (iv_next IVnp.out hb rfl); replace IVdp := Lib.hid (iv_next IVdp.out hb rfl)
    replace QXq := Lib.hid (QXq.out.next hb rfl); replace IVnq := Lib.hid (iv_next IVnq.out hb rfl); replace IVdq := Lib.hid (iv_next IVdq.out hb rfl)
    replace QXi := Lib.hid (QXi.out.next hb rfl); replace IVni := Lib.hid (iv_next IVni.out hb rfl); replace IVdi := Lib.hid (iv_next IVdi.out hb rfl)
    replace TX := Lib.hid (TX.out.next hb rfl)
    replace DW := Lib.hid (link_below DW.out hb (by have := DW.out.size; have := hg.out; omega) rfl rfl rfl rfl)
    clear hb
    go_wp2
    go_ret
    exact ⟨rfl, by rw [hg.out]; exact DW.out⟩
end Go.Proofs.YtfigimfdojbkeaaGreat
