/-
  Layer 2's law of the texts.
-/
import Derived.Test.YtfigimfdojbkeaaGreatRatS
import Derived.Deep.DeepCutAuto
import Derived.Handy
set_option linter.unusedSimpArgs false
set_option linter.unusedVariables false
namespace Go.Proofs.YtfigimfdojbkeaaGreat
open Go.RowKit
attribute [local go_sem ↓] Go.wp_at_zero Go.wp_at_succ

set_option maxHeartbeats 8000000 in
set_option maxRecDepth 100000 in
theorem lawTexts_any (n0 d0 k0 n1 d1 k1 : Int) (w : World) (h0 : Rw n0 d0 k0) (h1 : Rw n1 d1 k1) : Calls Tryz.prog 9 #[.agg #[.int .i8 n0, .int .i8 d0, .int .u8 k0, .int .i8 n1, .int .i8 d1, .int .u8 k1]] w (RetV (.bool true) w) := by
  obtain ⟨a, ea⟩ : ∃ r, mkQ n0 d0 k0 = r := ⟨_, rfl⟩
  obtain ⟨b, eb⟩ : ∃ r, mkQ n1 d1 k1 = r := ⟨_, rfl⟩
  have SA : Hid (Sr a 7) := ea ▸ mkQ_sr h0
  have SB : Hid (Sr b 7) := eb ▸ mkQ_sr h1
  replace ea := Lib.hid ea; replace eb := Lib.hid eb
  replace h0 := Lib.hid h0; replace h1 := Lib.hid h1
  go_enter Tryz.func9, Tryz.ntmps9
  go_wp2_with fail
  obtain ⟨W, hW⟩ : ∃ W, W = w.alloc (Obj.cells #[Value.int IntKind.i8 n0, Value.int IntKind.i8 d0, Value.int IntKind.u8 k0, Value.int IntKind.i8 n1, Value.int IntKind.i8 d1, Value.int IntKind.u8 k1] 25) := ⟨_, rfl⟩
  rw [← hW]
  have TX : Hid (T2 W w.heap.size n0 d0 k0 n1 d1 k1) := by rw [hW]; exact T2.new _ _ _ _ _ _ _
  have DW : Hid (Below w.heap.size w W) := by rw [hW]; exact (Below.refl _ _).alloc (Nat.le_refl _) _
  clear hW
  generalize hg : w.heap.size = g at *
  replace hg := Lib.hid hg
  refine (examples_any _).mono ?_
  rintro e y0 ⟨rfl, hb⟩
  replace TX := Lib.hid (TX.out.next hb rfl)
  replace DW := Lib.hid (link_below DW.out hb (by have := DW.out.size; have := hg.out; omega) rfl rfl rfl rfl)
  clear hb
  go_upto_region 4 with fail
  refine Rg.region_gg y0 [.is (.pointer (some ⟨g, 0, none⟩)), .is (.agg #[.int .i8 n0, .int .i8 d0, .int .u8 k0]), .sat (pQv (a.num) ((a.den : Int))) (pQv_keep _ _), .is (.pointer (some ⟨g, 3, none⟩)), .is (.agg #[.int .i8 n1, .int .i8 d1, .int .u8 k1]), .sat (pQv (b.num) ((b.den : Int))) (pQv_keep _ _), .own pNewQ pNewQ_keep, .own pNewQ pNewQ_keep, .put 6 (pPutQ (a.num) ((a.den : Int))) (pPutQ_keep _ _), .put 7 (pPutQ (b.num) ((b.den : Int))) (pPutQ_keep _ _)] [] [some 15, some 16, some 17, some 18, some 19, some 20, some 4, some 5, none, none] (by kernel_rfl) (by kernel_rfl) (by kernel_rfl) (by kernel_rfl) (by kernel_rfl) (by simp [Rg.stos]) (by rfl) (by rfl) (by kernel_rfl) (by simp) ((Below.refl _ _).drew) (fun Q' => ?_) (fun K hK wn hs => ?_)
  · refine ⟨?_, ?_, ?_, ?_, ?_, ?_, ?_, ?_, ?_, ?_, trivial⟩
    · intro a' w' ha hs hw hold
      have eo1 : a'.tmps[1]? = some (ptr g) := (ha.rest 1 (by kernel_rfl)).trans rfl
      exact ⟨rfl, .inl ⟨wanted_none rfl, wp_val (run_at2 0 rfl (ev_tmp eo1) rfl (by omega)) ⟨rfl, Below.refl _ _⟩⟩⟩
    · intro a' w' ha hs hw hold
      have e0 : a'.tmps[15]? = some (.pointer (some ⟨g, 0, none⟩)) := Rg.slot_get rfl rfl (hw 0 (by kernel_rfl) _ rfl)
      exact ⟨rfl, .inl ⟨wanted_none rfl, wp_val (run_load20 rfl (ev_tmp e0) (TX.out.bel hs (by simp))) ⟨rfl, Below.refl _ _⟩⟩⟩
    · intro a' w' ha hs hw hold
      have e1 : a'.tmps[16]? = some (.agg #[.int .i8 n0, .int .i8 d0, .int .u8 k0]) := Rg.slot_get rfl rfl (hw 1 (by kernel_rfl) _ rfl)
      exact ⟨rfl, wanted_none rfl, call_step rfl Tryz.func15 (by kernel_rfl) rfl (map_one (ev_tmp e1)) (made_is a _ h0.out ea.out) (fun e w2 he => by obtain ⟨v, rfl, hv, hb⟩ := he; exact ⟨v, rfl, v, rfl, hv, hb⟩)⟩
    · intro a' w' ha hs hw hold
      have eo1 : a'.tmps[1]? = some (ptr g) := (ha.rest 1 (by kernel_rfl)).trans rfl
      exact ⟨rfl, .inl ⟨wanted_none rfl, wp_val (run_at2 1 rfl (ev_tmp eo1) rfl (by omega)) ⟨rfl, Below.refl _ _⟩⟩⟩
    · intro a' w' ha hs hw hold
      have e3 : a'.tmps[18]? = some (.pointer (some ⟨g, 3, none⟩)) := Rg.slot_get rfl rfl (hw 3 (by kernel_rfl) _ rfl)
      exact ⟨rfl, .inl ⟨wanted_none rfl, wp_val (run_load21 rfl (ev_tmp e3) (TX.out.bel hs (by simp))) ⟨rfl, Below.refl _ _⟩⟩⟩
    · intro a' w' ha hs hw hold
      have e4 : a'.tmps[19]? = some (.agg #[.int .i8 n1, .int .i8 d1, .int .u8 k1]) := Rg.slot_get rfl rfl (hw 4 (by kernel_rfl) _ rfl)
      exact ⟨rfl, wanted_none rfl, call_step rfl Tryz.func15 (by kernel_rfl) rfl (map_one (ev_tmp e4)) (made_is b _ h1.out eb.out) (fun e w2 he => by obtain ⟨v, rfl, hv, hb⟩ := he; exact ⟨v, rfl, v, rfl, hv, hb⟩)⟩
    · intro a' w' ha hs hw hold
      exact ⟨rfl, wanted_none rfl, step_newq rfl⟩
    · intro a' w' ha hs hw hold
      exact ⟨rfl, wanted_none rfl, step_newq rfl⟩
    · intro a' w' ha hs hw hold
      obtain ⟨v2, e2, q2⟩ := hw 2 (by kernel_rfl) _ rfl
      replace e2 : a'.tmps[17]? = some v2 := Rg.slot_get rfl rfl e2
      refine ⟨rfl, wanted_none rfl, by kernel_rfl, fun pv pg pp ph pe1 pe2 pe3 pe4 => ?_⟩
      cases pe1
      exact step_putq rfl rfl (ev_tmp (Rg.slot_get rfl rfl pe2)) (ev_tmp e2) pe3 pe4 q2
    · intro a' w' ha hs hw hold
      obtain ⟨v5, e5, q5⟩ := hw 5 (by kernel_rfl) _ rfl
      replace e5 : a'.tmps[20]? = some v5 := Rg.slot_get rfl rfl e5
      refine ⟨rfl, wanted_none rfl, by kernel_rfl, fun pv pg pp ph pe1 pe2 pe3 pe4 => ?_⟩
      cases pe1
      exact step_putq rfl rfl (ev_tmp (Rg.slot_get rfl rfl pe2)) (ev_tmp e5) pe3 pe4 q5
  simp only [Rg.allG]
  intro r1x2 _
  intro r1x5 _
  intro a1x6 gb1x6 hE1x6 hB1x6 _ hN1x6 _
  intro a1x7 gb1x7 hE1x7 hB1x7 _ hN1x7 _
  intro v1 he hp
  simp only [List.nil_append, List.cons_append, List.getElem?_cons_succ, List.getElem?_cons_zero, Option.some.injEq] at he
  subst he
  obtain ⟨ga, rfl, Xan, pan, qan, Xad, pad, qad, QXa, IVna, IVda⟩ := hp
  intro v1 he hp
  simp only [List.nil_append, List.cons_append, List.getElem?_cons_succ, List.getElem?_cons_zero, Option.some.injEq] at he
  subst he
  obtain ⟨gb, rfl, Xbn, pbn, qbn, Xbd, pbd, qbd, QXb, IVnb, IVdb⟩ := hp
  simp only [setOpt, Rg.setOpt, List.set_cons_succ, List.set_cons_zero, ptr]
  refine hK _ _ ?_
  clear hK K
  replace hs := hs.below
  have hgb : ga = gb1x6 := Option.some.inj hE1x6
  clear hgb
  have hgb : gb = gb1x7 := Option.some.inj hE1x7
  clear hgb
  clear hE1x6 hB1x6 hN1x6 hE1x7 hB1x7 hN1x7
  replace TX := Lib.hid (TX.out.next hs rfl)
  replace DW := Lib.hid (link_below DW.out hs (by have := DW.out.size; have := hg.out; omega) rfl rfl rfl rfl)
  generalize hsg : decide ((a.num : Int) < 0) = san at *
  clear hsg
  generalize hsg : decide (((a.den : Int) : Int) < 0) = sad at *
  clear hsg
  replace QXa := Lib.hid QXa; replace IVna := Lib.hid IVna; replace IVda := Lib.hid IVda
  generalize hsg : decide ((b.num : Int) < 0) = sbn at *
  clear hsg
  generalize hsg : decide (((b.den : Int) : Int) < 0) = sbd at *
  clear hsg
  replace QXb := Lib.hid QXb; replace IVnb := Lib.hid IVnb; replace IVdb := Lib.hid IVdb
  clear hs
  go_upto_region 5 with fail
  have QVa : Hid (Qv wn (.agg #[.bool san, .slice Xan pan qan, .bool sad, .slice Xad pad qad]) (a.num) ((a.den : Int))) := qv_of IVna.out IVda.out
  have QVb : Hid (Qv wn (.agg #[.bool sbn, .slice Xbn pbn qbn, .bool sbd, .slice Xbd pbd qbd]) (b.num) ((b.den : Int))) := qv_of IVnb.out IVdb.out
  refine Rg.region_gg wn [.is (.agg #[.bool san, .slice Xan pan qan, .bool sad, .slice Xad pad qad]), .is (Value.string (qtx a)), .is (.agg #[.bool sbn, .slice Xbn pbn qbn, .bool sbd, .slice Xbd pbd qbd]), .is (Value.string (qtx b)), .is (Value.string (qtx a)), .is (Value.string (qtx b))] [] [some 21, some 22, some 23, some 24, some 6, some 7] (by kernel_rfl) (by kernel_rfl) (by kernel_rfl) (by kernel_rfl) (by kernel_rfl) (by simp [Rg.stos]) (by rfl) (by rfl) (by kernel_rfl) (by simp) ((Below.refl _ _).drew) (fun Q' => ?_) (fun K hK wn hs => ?_)
  · refine ⟨?_, ?_, ?_, ?_, ?_, ?_, trivial⟩
    · intro a' w' ha hs hw hold
      have eo4 : a'.tmps[4]? = some (ptr ga) := (ha.rest 4 (by kernel_rfl)).trans rfl
      exact ⟨rfl, .inl ⟨wanted_none rfl, wp_val (run_qload rfl (ev_tmp eo4) (QXa.out.bel hs (by simp))) ⟨rfl, Below.refl _ _⟩⟩⟩
    · intro a' w' ha hs hw hold
      have e0 : a'.tmps[21]? = some (.agg #[.bool san, .slice Xan pan qan, .bool sad, .slice Xad pad qad]) := Rg.slot_get rfl rfl (hw 0 (by kernel_rfl) _ rfl)
      exact ⟨rfl, .inl ⟨wanted_none rfl, call_step rfl Tryz.func43 (by kernel_rfl) rfl (map_one (ev_tmp e0)) (qtext_any _ a _ (QVa.out.kn hs.kn) (SA.out.mono (show 7 ≤ 200000 by decide))) (fun e w2 he => by obtain ⟨rfl, hb⟩ := he; exact ⟨_, rfl, rfl, hb⟩)⟩⟩
    · intro a' w' ha hs hw hold
      have eo5 : a'.tmps[5]? = some (ptr gb) := (ha.rest 5 (by kernel_rfl)).trans rfl
      exact ⟨rfl, .inl ⟨wanted_none rfl, wp_val (run_qload rfl (ev_tmp eo5) (QXb.out.bel hs (by simp))) ⟨rfl, Below.refl _ _⟩⟩⟩
    · intro a' w' ha hs hw hold
      have e2 : a'.tmps[23]? = some (.agg #[.bool sbn, .slice Xbn pbn qbn, .bool sbd, .slice Xbd pbd qbd]) := Rg.slot_get rfl rfl (hw 2 (by kernel_rfl) _ rfl)
      exact ⟨rfl, .inl ⟨wanted_none rfl, call_step rfl Tryz.func43 (by kernel_rfl) rfl (map_one (ev_tmp e2)) (qtext_any _ b _ (QVb.out.kn hs.kn) (SB.out.mono (show 7 ≤ 200000 by decide))) (fun e w2 he => by obtain ⟨rfl, hb⟩ := he; exact ⟨_, rfl, rfl, hb⟩)⟩⟩
    · intro a' w' ha hs hw hold
      have e1 : a'.tmps[22]? = some (Value.string (qtx a)) := Rg.slot_get rfl rfl (hw 1 (by kernel_rfl) _ rfl)
      exact ⟨rfl, .inl ⟨wanted_none rfl, wp_val (run_assign rfl (ev_tmp e1)) ⟨rfl, Below.refl _ _⟩⟩⟩
    · intro a' w' ha hs hw hold
      have e3 : a'.tmps[24]? = some (Value.string (qtx b)) := Rg.slot_get rfl rfl (hw 3 (by kernel_rfl) _ rfl)
      exact ⟨rfl, .inl ⟨wanted_none rfl, wp_val (run_assign rfl (ev_tmp e3)) ⟨rfl, Below.refl _ _⟩⟩⟩
  simp only [Rg.allG]
  simp only [setOpt, Rg.setOpt, List.set_cons_succ, List.set_cons_zero]
  refine hK _ _ ?_
  clear hK K
  replace hs := hs.below
  replace QXa := Lib.hid (QXa.out.next hs rfl); replace IVna := Lib.hid (iv_next IVna.out hs rfl); replace IVda := Lib.hid (iv_next IVda.out hs rfl)
  replace QXb := Lib.hid (QXb.out.next hs rfl); replace IVnb := Lib.hid (iv_next IVnb.out hs rfl); replace IVdb := Lib.hid (iv_next IVdb.out hs rfl)
  replace TX := Lib.hid (TX.out.next hs rfl)
  replace DW := Lib.hid (link_below DW.out hs (by have := DW.out.size; have := hg.out; omega) rfl rfl rfl rfl)
  clear hs
  obtain ⟨r, hr⟩ : ∃ r, decide (a = b) = r := ⟨_, rfl⟩
  replace hr := Lib.hid hr
  obtain ⟨z1, hz1⟩ : ∃ z : Int, z = 0 := ⟨_, rfl⟩
  obtain ⟨z2, hz2⟩ : ∃ z : Int, z = 0 := ⟨_, rfl⟩
  replace hz1 := Lib.hid hz1; replace hz2 := Lib.hid hz2
  have hp := qp_plus a
  have hlen := qtx_size (SA.out.mono (show 7 ≤ 100 by decide))
  replace hp := Lib.hid hp; replace hlen := Lib.hid hlen
  go_wp2_with fail
  refine (qp_text a _ (SA.out.mono (by decide))).mono ?_
  rintro e y1 ⟨_, rfl, hq, hb⟩
  obtain ⟨Xcn, pcn, qcn, Xcd, pcd, qcd, rfl, hcn, hcd⟩ := hq
  have Qcn := Lib.hid hcn; have Qcd := Lib.hid hcd; clear hcn hcd
  have B := Lib.hid hb; clear hb
  generalize hs : decide ((a.num : Int) < 0) = scn at *
  clear hs
  generalize hs : decide (((a.den : Int) : Int) < 0) = scd at *
  clear hs
  go_upto_region 7 with fail
  obtain ⟨W3, hW⟩ : ∃ W3, W3 = y1.alloc (Obj.cells #[Value.bool scn, Value.slice Xcn pcn qcn, Value.bool scd, Value.slice Xcd pcd qcd] 31) := ⟨_, rfl⟩
  rw [← hW]
  have QXc : Hid (QBox W3 y1.heap.size scn (.slice Xcn pcn qcn) scd (.slice Xcd pcd qcd)) := by rw [hW]; exact QBox.new _ _ _ _ _
  have IVnc : Hid (Iv W3 (.agg #[.bool scn, .slice Xcn pcn qcn]) (a.num)) := by rw [hW]; exact Qcn.out.alloc _
  have IVdc : Hid (Iv W3 (.agg #[.bool scd, .slice Xcd pcd qcd]) ((a.den : Int))) := by rw [hW]; exact Qcd.out.alloc _
  have hd : Below wn.heap.size wn W3 := by rw [hW]; exact B.out.alloc (by have := B.out.size; omega) _
  clear hW B Qcn Qcd
  generalize hgn3 : y1.heap.size = gc at *
  clear hgn3
  replace QXa := Lib.hid (QXa.out.next hd rfl); replace IVna := Lib.hid (iv_next IVna.out hd rfl); replace IVda := Lib.hid (iv_next IVda.out hd rfl)
  replace QXb := Lib.hid (QXb.out.next hd rfl); replace IVnb := Lib.hid (iv_next IVnb.out hd rfl); replace IVdb := Lib.hid (iv_next IVdb.out hd rfl)
  replace TX := Lib.hid (TX.out.next hd rfl)
  replace DW := Lib.hid (link_below DW.out hd (by have := DW.out.size; have := hg.out; omega) rfl rfl rfl rfl)
  clear hd
  have hl2 : (1 : Int) + (qtx a).size ≤ 9223372036854775807 := by have := hlen.out; omega
  have hl3 : ByteArray.size { data := #[43] } = 1 := rfl
  go_wp2_with fail
  clear hl2 hl3
  refine ((hp.out _ (SA.out.mono (by decide))).mono fun _ _ h => retqd hz1.out hz2.out h).mono ?_
  rintro e y2 ⟨_, rfl, hq, hb⟩
  obtain ⟨Xdn, pdn, qdn, Xdd, pdd, qdd, rfl, hdn, hdd⟩ := hq
  have Qdn := Lib.hid hdn; have Qdd := Lib.hid hdd; clear hdn hdd
  have B := Lib.hid hb; clear hb
  generalize hs : decide ((z1 : Int) < 0) = sdn at *
  clear hs
  generalize hs : decide ((z2 : Int) < 0) = sdd at *
  clear hs
  go_upto_region 8 with fail
  obtain ⟨W4, hW⟩ : ∃ W4, W4 = y2.alloc (Obj.cells #[Value.bool sdn, Value.slice Xdn pdn qdn, Value.bool sdd, Value.slice Xdd pdd qdd] 31) := ⟨_, rfl⟩
  rw [← hW]
  have QXd : Hid (QBox W4 y2.heap.size sdn (.slice Xdn pdn qdn) sdd (.slice Xdd pdd qdd)) := by rw [hW]; exact QBox.new _ _ _ _ _
  have IVnd : Hid (Iv W4 (.agg #[.bool sdn, .slice Xdn pdn qdn]) (z1)) := by rw [hW]; exact Qdn.out.alloc _
  have IVdd : Hid (Iv W4 (.agg #[.bool sdd, .slice Xdd pdd qdd]) (z2)) := by rw [hW]; exact Qdd.out.alloc _
  have hd : Below W3.heap.size W3 W4 := by rw [hW]; exact B.out.alloc (by have := B.out.size; omega) _
  clear hW B Qdn Qdd
  generalize hgn4 : y2.heap.size = gd at *
  clear hgn4
  replace QXa := Lib.hid (QXa.out.next hd rfl); replace IVna := Lib.hid (iv_next IVna.out hd rfl); replace IVda := Lib.hid (iv_next IVda.out hd rfl)
  replace QXb := Lib.hid (QXb.out.next hd rfl); replace IVnb := Lib.hid (iv_next IVnb.out hd rfl); replace IVdb := Lib.hid (iv_next IVdb.out hd rfl)
  replace QXc := Lib.hid (QXc.out.next hd rfl); replace IVnc := Lib.hid (iv_next IVnc.out hd rfl); replace IVdc := Lib.hid (iv_next IVdc.out hd rfl)
  replace TX := Lib.hid (TX.out.next hd rfl)
  replace DW := Lib.hid (link_below DW.out hd (by have := DW.out.size; have := hg.out; omega) rfl rfl rfl rfl)
  clear hd
  have QVc : Hid (Qv W4 (.agg #[.bool scn, .slice Xcn pcn qcn, .bool scd, .slice Xcd pcd qcd]) a.num (a.den : Int)) := qv_of IVnc.out IVdc.out
  have QVa : Hid (Qv W4 (.agg #[.bool san, .slice Xan pan qan, .bool sad, .slice Xad pad qad]) a.num (a.den : Int)) := qv_of IVna.out IVda.out
  have u5a := QXc.out.cell0; have u5b := QXc.out.cell1; have u5c := QXc.out.cell2; have u5d := QXc.out.cell3
  have u6a := QXa.out.cell0; have u6b := QXa.out.cell1; have u6c := QXa.out.cell2; have u6d := QXa.out.cell3
  go_wp2_with fail
  clear u5a u5b u5c u5d u6a u6b u6c u6d
  refine (is_ok _ _ a a true _ QVc.out (SA.out.mono (by decide)) QVa.out (SA.out.mono (by decide)) (decide_eq_true rfl)).mono ?_
  rintro e y7 ⟨rfl, hb⟩
  clear QVc QVa
  replace QXa := Lib.hid (QXa.out.next hb rfl); replace IVna := Lib.hid (iv_next IVna.out hb rfl); replace IVda := Lib.hid (iv_next IVda.out hb rfl)
  replace QXb := Lib.hid (QXb.out.next hb rfl); replace IVnb := Lib.hid (iv_next IVnb.out hb rfl); replace IVdb := Lib.hid (iv_next IVdb.out hb rfl)
  replace QXc := Lib.hid (QXc.out.next hb rfl); replace IVnc := Lib.hid (iv_next IVnc.out hb rfl); replace IVdc := Lib.hid (iv_next IVdc.out hb rfl)
  replace QXd := Lib.hid (QXd.out.next hb rfl); replace IVnd := Lib.hid (iv_next IVnd.out hb rfl); replace IVdd := Lib.hid (iv_next IVdd.out hb rfl)
  replace TX := Lib.hid (TX.out.next hb rfl)
  replace DW := Lib.hid (link_below DW.out hb (by have := DW.out.size; have := hg.out; omega) rfl rfl rfl rfl)
  clear hb
  have QVd : Hid (Qv y7 (.agg #[.bool sdn, .slice Xdn pdn qdn, .bool sdd, .slice Xdd pdd qdd]) z1 z2) := qv_of IVnd.out IVdd.out
  have u8a := QXd.out.cell0; have u8b := QXd.out.cell1; have u8c := QXd.out.cell2; have u8d := QXd.out.cell3
  go_wp2_with fail
  clear u8a u8b u8c u8d
  refine (fails_zero _ 3 _ (qv00 hz1.out hz2.out QVd.out)).mono ?_
  rintro e y9 ⟨rfl, hb⟩
  clear QVd
  replace QXa := Lib.hid (QXa.out.next hb rfl); replace IVna := Lib.hid (iv_next IVna.out hb rfl); replace IVda := Lib.hid (iv_next IVda.out hb rfl)
  replace QXb := Lib.hid (QXb.out.next hb rfl); replace IVnb := Lib.hid (iv_next IVnb.out hb rfl); replace IVdb := Lib.hid (iv_next IVdb.out hb rfl)
  replace QXc := Lib.hid (QXc.out.next hb rfl); replace IVnc := Lib.hid (iv_next IVnc.out hb rfl); replace IVdc := Lib.hid (iv_next IVdc.out hb rfl)
  replace QXd := Lib.hid (QXd.out.next hb rfl); replace IVnd := Lib.hid (iv_next IVnd.out hb rfl); replace IVdd := Lib.hid (iv_next IVdd.out hb rfl)
  replace TX := Lib.hid (TX.out.next hb rfl)
  replace DW := Lib.hid (link_below DW.out hb (by have := DW.out.size; have := hg.out; omega) rfl rfl rfl rfl)
  clear hb
  have QVa : Hid (Qv y9 (.agg #[.bool san, .slice Xan pan qan, .bool sad, .slice Xad pad qad]) a.num (a.den : Int)) := qv_of IVna.out IVda.out
  have QVb : Hid (Qv y9 (.agg #[.bool sbn, .slice Xbn pbn qbn, .bool sbd, .slice Xbd pbd qbd]) b.num (b.den : Int)) := qv_of IVnb.out IVdb.out
  have hst : ((qtx a).toList == (qtx b).toList) = r := (qtx_eq a b).trans hr.out
  have u10a := QXa.out.cell0; have u10b := QXa.out.cell1; have u10c := QXa.out.cell2; have u10d := QXa.out.cell3
  have u11a := QXb.out.cell0; have u11b := QXb.out.cell1; have u11c := QXb.out.cell2; have u11d := QXb.out.cell3
  go_wp2_with fail
  clear u10a u10b u10c u10d u11a u11b u11c u11d
  refine (qsame_is _ _ a b r _ QVa.out (SA.out.mono (show 7 ≤ 1000000 by decide)) QVb.out (SB.out.mono (show 7 ≤ 1000000 by decide)) hr.out).mono ?_
  rintro e y12 ⟨rfl, hb⟩
  clear QVa QVb
  replace QXa := Lib.hid (QXa.out.next hb rfl); replace IVna := Lib.hid (iv_next IVna.out hb rfl); replace IVda := Lib.hid (iv_next IVda.out hb rfl)
  replace QXb := Lib.hid (QXb.out.next hb rfl); replace IVnb := Lib.hid (iv_next IVnb.out hb rfl); replace IVdb := Lib.hid (iv_next IVdb.out hb rfl)
  replace QXc := Lib.hid (QXc.out.next hb rfl); replace IVnc := Lib.hid (iv_next IVnc.out hb rfl); replace IVdc := Lib.hid (iv_next IVdc.out hb rfl)
  replace QXd := Lib.hid (QXd.out.next hb rfl); replace IVnd := Lib.hid (iv_next IVnd.out hb rfl); replace IVdd := Lib.hid (iv_next IVdd.out hb rfl)
  replace TX := Lib.hid (TX.out.next hb rfl)
  replace DW := Lib.hid (link_below DW.out hb (by have := DW.out.size; have := hg.out; omega) rfl rfl rfl rfl)
  clear hb
  try rw [hst]
  cases r
  all_goals
    go_wp2
    go_ret
    exact ⟨rfl, by rw [hg.out]; exact DW.out⟩
end Go.Proofs.YtfigimfdojbkeaaGreat
