/-
  Layer 2's law of the simplest number.
-/
import Derived.Test.YtfigimfdojbkeaaGreatRatB5
import Derived.Test.YtfigimfdojbkeaaGreatRatS
import Derived.Deep.DeepCutAuto
import Derived.Handy
set_option linter.unusedSimpArgs false
set_option linter.unusedVariables false
namespace Go.Proofs.YtfigimfdojbkeaaGreat
open Go.RowKit
attribute [local go_sem ↓] Go.wp_at_zero Go.wp_at_succ

theorem ofm_is (m : Int) (e : Rat) (w : World) (h : e.num = m) (k : m = -1 ∨ m = 0 ∨ m = 1) : Calls Tryz.prog 55 #[.int .i64 m] w (RetIv e.num w) := by rw [h]; exact of_any m w (by omega) (by omega)
section
variable {o : Oper} {w : World} {ρ : Operand → Value} {x y : Operand} {t u : TypeId}
theorem run_lssF {k : IntKind} {m n : Int} (ho : o.op = .binOp .lss t x y u) (hx : ρ x = .int k m) (hy : ρ y = .int k n) (h : ¬ m < n) : (execOp ρ o).run Tryz.prog w = .ok (.value (.bool false)) w := by
  refine (run_lss_int ho hx hy).trans ?_
  rw [decide_eq_false h]
theorem run_leqF {k : IntKind} {m n : Int} (ho : o.op = .binOp .leq t x y u) (hx : ρ x = .int k m) (hy : ρ y = .int k n) (h : ¬ m ≤ n) : (execOp ρ o).run Tryz.prog w = .ok (.value (.bool false)) w := by
  refine (run_leq_int ho hx hy).trans ?_
  rw [decide_eq_false h]
theorem run_geqI {k : IntKind} {m n : Int} {r : Bool} (ho : o.op = .binOp .geq t x y u) (hx : ρ x = .int k m) (hy : ρ y = .int k n) (h : decide (n ≤ m) = r) : (execOp ρ o).run Tryz.prog w = .ok (.value (.bool r)) w := by
  subst h
  simp [execOp, ho, hx, hy, go_sem]
end

set_option maxHeartbeats 8000000 in
set_option maxRecDepth 100000 in
theorem lawSimplest_any (n0 d0 k0 n1 d1 k1 : Int) (w : World) (h0 : Rw n0 d0 k0) (h1 : Rw n1 d1 k1) : Calls Tryz.prog 8 #[.agg #[.int .i8 n0, .int .i8 d0, .int .u8 k0, .int .i8 n1, .int .i8 d1, .int .u8 k1]] w (RetV (.bool true) w) := by
  obtain ⟨a, ea⟩ : ∃ r, mkQ n0 d0 k0 = r := ⟨_, rfl⟩
  obtain ⟨b, eb⟩ : ∃ r, mkQ n1 d1 k1 = r := ⟨_, rfl⟩
  have SA : Hid (Sr a 7) := ea ▸ mkQ_sr h0
  have SB : Hid (Sr b 7) := eb ▸ mkQ_sr h1
  replace ea := Lib.hid ea; replace eb := Lib.hid eb
  replace h0 := Lib.hid h0; replace h1 := Lib.hid h1
  go_enter Tryz.func8, Tryz.ntmps8
  go_wp2_with fail
  obtain ⟨W, hW⟩ : ∃ W, W = w.alloc (Obj.cells #[Value.int IntKind.i8 n0, Value.int IntKind.i8 d0, Value.int IntKind.u8 k0, Value.int IntKind.i8 n1, Value.int IntKind.i8 d1, Value.int IntKind.u8 k1] 25) := ⟨_, rfl⟩
  rw [← hW]
  have TX : Hid (T2 W w.heap.size n0 d0 k0 n1 d1 k1) := by rw [hW]; exact T2.new _ _ _ _ _ _ _
  have DW : Hid (Below w.heap.size w W) := by rw [hW]; exact (Below.refl _ _).alloc (Nat.le_refl _) _
  clear hW
  generalize hg : w.heap.size = g at *
  replace hg := Lib.hid hg
  refine (examples_any _).mono ?_
  rintro e y0 ⟨rfl, hb⟩
  replace TX := Lib.hid (TX.out.next hb rfl)
  replace DW := Lib.hid (link_below DW.out hb (by have := DW.out.size; have := hg.out; omega) rfl rfl rfl rfl)
  clear hb
  go_upto_region 4 with fail
  refine Rg.region_gg y0 [.is (.pointer (some ⟨g, 0, none⟩)), .is (.agg #[.int .i8 n0, .int .i8 d0, .int .u8 k0]), .sat (pQv (a.num) ((a.den : Int))) (pQv_keep _ _), .is (.pointer (some ⟨g, 3, none⟩)), .is (.agg #[.int .i8 n1, .int .i8 d1, .int .u8 k1]), .sat (pQv (b.num) ((b.den : Int))) (pQv_keep _ _), .own pNewQ pNewQ_keep, .own pNewQ pNewQ_keep, .put 6 (pPutQ (a.num) ((a.den : Int))) (pPutQ_keep _ _), .put 7 (pPutQ (b.num) ((b.den : Int))) (pPutQ_keep _ _)] [] [some 15, some 16, some 17, some 18, some 19, some 20, some 4, some 5, none, none] (by kernel_rfl) (by kernel_rfl) (by kernel_rfl) (by kernel_rfl) (by kernel_rfl) (by simp [Rg.stos]) (by rfl) (by rfl) (by kernel_rfl) (by simp) ((Below.refl _ _).drew) (fun Q' => ?_) (fun K hK wn hs => ?_)
  · refine ⟨?_, ?_, ?_, ?_, ?_, ?_, ?_, ?_, ?_, ?_, trivial⟩
    · intro a' w' ha hs hw hold
      have eo1 : a'.tmps[1]? = some (ptr g) := (ha.rest 1 (by kernel_rfl)).trans rfl
      exact ⟨rfl, .inl ⟨wanted_none rfl, wp_val (run_at2 0 rfl (ev_tmp eo1) rfl (by omega)) ⟨rfl, Below.refl _ _⟩⟩⟩
    · intro a' w' ha hs hw hold
      have e0 : a'.tmps[15]? = some (.pointer (some ⟨g, 0, none⟩)) := Rg.slot_get rfl rfl (hw 0 (by kernel_rfl) _ rfl)
      exact ⟨rfl, .inl ⟨wanted_none rfl, wp_val (run_load20 rfl (ev_tmp e0) (TX.out.bel hs (by simp))) ⟨rfl, Below.refl _ _⟩⟩⟩
    · intro a' w' ha hs hw hold
      have e1 : a'.tmps[16]? = some (.agg #[.int .i8 n0, .int .i8 d0, .int .u8 k0]) := Rg.slot_get rfl rfl (hw 1 (by kernel_rfl) _ rfl)
      exact ⟨rfl, wanted_none rfl, call_step rfl Tryz.func15 (by kernel_rfl) rfl (map_one (ev_tmp e1)) (made_is a _ h0.out ea.out) (fun e w2 he => by obtain ⟨v, rfl, hv, hb⟩ := he; exact ⟨v, rfl, v, rfl, hv, hb⟩)⟩
    · intro a' w' ha hs hw hold
      have eo1 : a'.tmps[1]? = some (ptr g) := (ha.rest 1 (by kernel_rfl)).trans rfl
      exact ⟨rfl, .inl ⟨wanted_none rfl, wp_val (run_at2 1 rfl (ev_tmp eo1) rfl (by omega)) ⟨rfl, Below.refl _ _⟩⟩⟩
    · intro a' w' ha hs hw hold
      have e3 : a'.tmps[18]? = some (.pointer (some ⟨g, 3, none⟩)) := Rg.slot_get rfl rfl (hw 3 (by kernel_rfl) _ rfl)
      exact ⟨rfl, .inl ⟨wanted_none rfl, wp_val (run_load21 rfl (ev_tmp e3) (TX.out.bel hs (by simp))) ⟨rfl, Below.refl _ _⟩⟩⟩
    · intro a' w' ha hs hw hold
      have e4 : a'.tmps[19]? = some (.agg #[.int .i8 n1, .int .i8 d1, .int .u8 k1]) := Rg.slot_get rfl rfl (hw 4 (by kernel_rfl) _ rfl)
      exact ⟨rfl, wanted_none rfl, call_step rfl Tryz.func15 (by kernel_rfl) rfl (map_one (ev_tmp e4)) (made_is b _ h1.out eb.out) (fun e w2 he => by obtain ⟨v, rfl, hv, hb⟩ := he; exact ⟨v, rfl, v, rfl, hv, hb⟩)⟩
    · intro a' w' ha hs hw hold
      exact ⟨rfl, wanted_none rfl, step_newq rfl⟩
    · intro a' w' ha hs hw hold
      exact ⟨rfl, wanted_none rfl, step_newq rfl⟩
    · intro a' w' ha hs hw hold
      obtain ⟨v2, e2, q2⟩ := hw 2 (by kernel_rfl) _ rfl
      replace e2 : a'.tmps[17]? = some v2 := Rg.slot_get rfl rfl e2
      refine ⟨rfl, wanted_none rfl, by kernel_rfl, fun pv pg pp ph pe1 pe2 pe3 pe4 => ?_⟩
      cases pe1
      exact step_putq rfl rfl (ev_tmp (Rg.slot_get rfl rfl pe2)) (ev_tmp e2) pe3 pe4 q2
    · intro a' w' ha hs hw hold
      obtain ⟨v5, e5, q5⟩ := hw 5 (by kernel_rfl) _ rfl
      replace e5 : a'.tmps[20]? = some v5 := Rg.slot_get rfl rfl e5
      refine ⟨rfl, wanted_none rfl, by kernel_rfl, fun pv pg pp ph pe1 pe2 pe3 pe4 => ?_⟩
      cases pe1
      exact step_putq rfl rfl (ev_tmp (Rg.slot_get rfl rfl pe2)) (ev_tmp e5) pe3 pe4 q5
  simp only [Rg.allG]
  intro r1x2 _
  intro r1x5 _
  intro a1x6 gb1x6 hE1x6 hB1x6 _ hN1x6 _
  intro a1x7 gb1x7 hE1x7 hB1x7 _ hN1x7 _
  intro v1 he hp
  simp only [List.nil_append, List.cons_append, List.getElem?_cons_succ, List.getElem?_cons_zero, Option.some.injEq] at he
  subst he
  obtain ⟨ga, rfl, Xan, pan, qan, Xad, pad, qad, QXa, IVna, IVda⟩ := hp
  intro v1 he hp
  simp only [List.nil_append, List.cons_append, List.getElem?_cons_succ, List.getElem?_cons_zero, Option.some.injEq] at he
  subst he
  obtain ⟨gb, rfl, Xbn, pbn, qbn, Xbd, pbd, qbd, QXb, IVnb, IVdb⟩ := hp
  simp only [setOpt, Rg.setOpt, List.set_cons_succ, List.set_cons_zero, ptr]
  refine hK _ _ ?_
  clear hK K
  replace hs := hs.below
  have hgb : ga = gb1x6 := Option.some.inj hE1x6
  have GBa : Hid (g ≤ ga) := by have := DW.out.size; have := hg.out; unfold Hid; omega
  have LTxa : Hid (g < ga) := by have := TX.out.lt; unfold Hid; omega
  clear hgb
  have hgb : gb = gb1x7 := Option.some.inj hE1x7
  have GBb : Hid (g ≤ gb) := by have := DW.out.size; have := hg.out; unfold Hid; omega
  have LTxb : Hid (g < gb) := by have := TX.out.lt; unfold Hid; omega
  have NQab : Hid (ga ≠ gb) := by have h3 := hN1x7 6 _ (by rfl) (by kernel_rfl); unfold Hid; rintro rfl; exact h3 (congrArg some hgb)
  clear hgb
  clear hE1x6 hB1x6 hN1x6 hE1x7 hB1x7 hN1x7
  replace TX := Lib.hid (TX.out.next hs rfl)
  replace DW := Lib.hid (link_below DW.out hs (by have := DW.out.size; have := hg.out; omega) rfl rfl rfl rfl)
  generalize hsg : decide ((a.num : Int) < 0) = san at *
  clear hsg
  generalize hsg : decide (((a.den : Int) : Int) < 0) = sad at *
  clear hsg
  replace QXa := Lib.hid QXa; replace IVna := Lib.hid IVna; replace IVda := Lib.hid IVda
  generalize hsg : decide ((b.num : Int) < 0) = sbn at *
  clear hsg
  generalize hsg : decide (((b.den : Int) : Int) < 0) = sbd at *
  clear hsg
  replace QXb := Lib.hid QXb; replace IVnb := Lib.hid IVnb; replace IVdb := Lib.hid IVdb
  clear hs
  go_upto_region 5 with fail
  by_cases hle : a ≤ b
  · have HLE := Lib.hid hle
    obtain ⟨o, ho⟩ : ∃ o, cq a b = o := ⟨_, rfl⟩
    have d1 : decide (0 < o) = false := decide_eq_false (by have := cq_le.2 hle; omega)
    replace ho := Lib.hid ho
    have u2a := QXa.out.cell0; have u2b := QXa.out.cell1; have u2c := QXa.out.cell2; have u2d := QXa.out.cell3
    have u3a := QXb.out.cell0; have u3b := QXb.out.cell1; have u3c := QXb.out.cell2; have u3d := QXb.out.cell3
    go_wp2_with fail
    clear u2a u2b u2c u2d u3a u3b u3c u3d
    refine (qcmp_is _ _ a b o _ (qv_of IVna.out IVda.out) (SA.out.mono (show 7 ≤ 100000 by decide)) (qv_of IVnb.out IVdb.out) (SB.out.mono (show 7 ≤ 100000 by decide)) ho.out).mono ?_
    rintro e y4 ⟨rfl, hb⟩
    replace QXa := Lib.hid (QXa.out.next hb rfl); replace IVna := Lib.hid (iv_next IVna.out hb rfl); replace IVda := Lib.hid (iv_next IVda.out hb rfl)
    replace QXb := Lib.hid (QXb.out.next hb rfl); replace IVnb := Lib.hid (iv_next IVnb.out hb rfl); replace IVdb := Lib.hid (iv_next IVdb.out hb rfl)
    replace TX := Lib.hid (TX.out.next hb rfl)
    replace DW := Lib.hid (link_below DW.out hb (by have := DW.out.size; have := hg.out; omega) rfl rfl rfl rfl)
    clear hb
    go_upto_region 10 with fail
    clear d1 hle ho
    obtain ⟨c, ec⟩ : ∃ c, btw a b = c := ⟨_, rfl⟩
    have KL : Hid (Lst a b c) := ec ▸ lst_btw HLE.out
    have SC : Hid (Sr c 7) := ec ▸ btw_sr (by decide) HLE.out SA.out SB.out
    have BSG : Hid ((sg c.num == 0) = (decide (sg a.num ≤ 0) && decide (0 ≤ sg b.num))) := ec ▸ btw_sign HLE.out
    replace ec := Lib.hid ec
    have u5a := QXa.out.cell0; have u5b := QXa.out.cell1; have u5c := QXa.out.cell2; have u5d := QXa.out.cell3
    have u6a := QXb.out.cell0; have u6b := QXb.out.cell1; have u6c := QXb.out.cell2; have u6d := QXb.out.cell3
    go_wp2_with fail
    clear u5a u5b u5c u5d u6a u6b u6c u6d
    refine (ec.out ▸ between_is _ _ a b _ (qv_of IVna.out IVda.out) (SA.out.mono (show 7 ≤ 1000 by decide)) (qv_of IVnb.out IVdb.out) (SB.out.mono (show 7 ≤ 1000 by decide)) (cq_le.2 HLE.out)).mono ?_
    rintro e y7 ⟨_, rfl, hq, hb⟩
    obtain ⟨Xcn, pcn, qcn, Xcd, pcd, qcd, rfl, hcn, hcd⟩ := hq
    have Qcn := Lib.hid hcn; have Qcd := Lib.hid hcd; clear hcn hcd
    have B := Lib.hid hb; clear hb
    generalize hs : decide ((c.num : Int) < 0) = scn at *
    clear hs
    generalize hs : decide (((c.den : Int) : Int) < 0) = scd at *
    clear hs
    go_upto_region 11 with fail
    obtain ⟨W8, hW⟩ : ∃ W8, W8 = y7.alloc (Obj.cells #[Value.bool scn, Value.slice Xcn pcn qcn, Value.bool scd, Value.slice Xcd pcd qcd] 31) := ⟨_, rfl⟩
    rw [← hW]
    have QXc : Hid (QBox W8 y7.heap.size scn (.slice Xcn pcn qcn) scd (.slice Xcd pcd qcd)) := by rw [hW]; exact QBox.new _ _ _ _ _
    have IVnc : Hid (Iv W8 (.agg #[.bool scn, .slice Xcn pcn qcn]) (c.num)) := by rw [hW]; exact Qcn.out.alloc _
    have IVdc : Hid (Iv W8 (.agg #[.bool scd, .slice Xcd pcd qcd]) ((c.den : Int))) := by rw [hW]; exact Qcd.out.alloc _
    have hd : Below y4.heap.size y4 W8 := by rw [hW]; exact B.out.alloc (by have := B.out.size; omega) _
    clear hW B Qcn Qcd
    generalize hgn8 : y7.heap.size = gc at *
    clear hgn8
    replace QXa := Lib.hid (QXa.out.next hd rfl); replace IVna := Lib.hid (iv_next IVna.out hd rfl); replace IVda := Lib.hid (iv_next IVda.out hd rfl)
    replace QXb := Lib.hid (QXb.out.next hd rfl); replace IVnb := Lib.hid (iv_next IVnb.out hd rfl); replace IVdb := Lib.hid (iv_next IVdb.out hd rfl)
    replace TX := Lib.hid (TX.out.next hd rfl)
    replace DW := Lib.hid (link_below DW.out hd (by have := DW.out.size; have := hg.out; omega) rfl rfl rfl rfl)
    clear hd
    obtain ⟨u1, hu1⟩ : ∃ u, cq a c = u := ⟨_, rfl⟩
    obtain ⟨u2, hu2⟩ : ∃ u, cq c b = u := ⟨_, rfl⟩
    have d1 : decide (0 < u1) = false := decide_eq_false (by have := cq_le.2 KL.out.low; omega)
    have d2 : decide (0 < u2) = false := decide_eq_false (by have := cq_le.2 KL.out.high; omega)
    replace hu1 := Lib.hid hu1; replace hu2 := Lib.hid hu2
    have u9a := QXc.out.cell0; have u9b := QXc.out.cell1; have u9c := QXc.out.cell2; have u9d := QXc.out.cell3
    go_wp2_with fail
    clear u9a u9b u9c u9d
    refine (valid_is _ c _ (qv_of IVnc.out IVdc.out) (SC.out.mono (show 7 ≤ 1000000 by decide))).mono ?_
    rintro e y10 ⟨rfl, hb⟩
    replace QXa := Lib.hid (QXa.out.next hb rfl); replace IVna := Lib.hid (iv_next IVna.out hb rfl); replace IVda := Lib.hid (iv_next IVda.out hb rfl)
    replace QXb := Lib.hid (QXb.out.next hb rfl); replace IVnb := Lib.hid (iv_next IVnb.out hb rfl); replace IVdb := Lib.hid (iv_next IVdb.out hb rfl)
    replace QXc := Lib.hid (QXc.out.next hb rfl); replace IVnc := Lib.hid (iv_next IVnc.out hb rfl); replace IVdc := Lib.hid (iv_next IVdc.out hb rfl)
    replace TX := Lib.hid (TX.out.next hb rfl)
    replace DW := Lib.hid (link_below DW.out hb (by have := DW.out.size; have := hg.out; omega) rfl rfl rfl rfl)
    clear hb
    have u11a := QXa.out.cell0; have u11b := QXa.out.cell1; have u11c := QXa.out.cell2; have u11d := QXa.out.cell3
    have u12a := QXc.out.cell0; have u12b := QXc.out.cell1; have u12c := QXc.out.cell2; have u12d := QXc.out.cell3
    go_wp2_with fail
    clear u11a u11b u11c u11d u12a u12b u12c u12d
    refine (qcmp_is _ _ a c u1 _ (qv_of IVna.out IVda.out) (SA.out.mono (show 7 ≤ 100000 by decide)) (qv_of IVnc.out IVdc.out) (SC.out.mono (show 7 ≤ 100000 by decide)) hu1.out).mono ?_
    rintro e y13 ⟨rfl, hb⟩
    replace QXa := Lib.hid (QXa.out.next hb rfl); replace IVna := Lib.hid (iv_next IVna.out hb rfl); replace IVda := Lib.hid (iv_next IVda.out hb rfl)
    replace QXb := Lib.hid (QXb.out.next hb rfl); replace IVnb := Lib.hid (iv_next IVnb.out hb rfl); replace IVdb := Lib.hid (iv_next IVdb.out hb rfl)
    replace QXc := Lib.hid (QXc.out.next hb rfl); replace IVnc := Lib.hid (iv_next IVnc.out hb rfl); replace IVdc := Lib.hid (iv_next IVdc.out hb rfl)
    replace TX := Lib.hid (TX.out.next hb rfl)
    replace DW := Lib.hid (link_below DW.out hb (by have := DW.out.size; have := hg.out; omega) rfl rfl rfl rfl)
    clear hb
    have u14a := QXc.out.cell0; have u14b := QXc.out.cell1; have u14c := QXc.out.cell2; have u14d := QXc.out.cell3
    have u15a := QXb.out.cell0; have u15b := QXb.out.cell1; have u15c := QXb.out.cell2; have u15d := QXb.out.cell3
    go_wp2_with fail
    clear u14a u14b u14c u14d u15a u15b u15c u15d
    refine (qcmp_is _ _ c b u2 _ (qv_of IVnc.out IVdc.out) (SC.out.mono (show 7 ≤ 100000 by decide)) (qv_of IVnb.out IVdb.out) (SB.out.mono (show 7 ≤ 100000 by decide)) hu2.out).mono ?_
    rintro e y16 ⟨rfl, hb⟩
    replace QXa := Lib.hid (QXa.out.next hb rfl); replace IVna := Lib.hid (iv_next IVna.out hb rfl); replace IVda := Lib.hid (iv_next IVda.out hb rfl)
    replace QXb := Lib.hid (QXb.out.next hb rfl); replace IVnb := Lib.hid (iv_next IVnb.out hb rfl); replace IVdb := Lib.hid (iv_next IVdb.out hb rfl)
    replace QXc := Lib.hid (QXc.out.next hb rfl); replace IVnc := Lib.hid (iv_next IVnc.out hb rfl); replace IVdc := Lib.hid (iv_next IVdc.out hb rfl)
    replace TX := Lib.hid (TX.out.next hb rfl)
    replace DW := Lib.hid (link_below DW.out hb (by have := DW.out.size; have := hg.out; omega) rfl rfl rfl rfl)
    clear hb
    go_wp2_with fail
    clear d1 d2 hu1 hu2
    go_loopw [10] (fun v wr => ∃ d : Int, 1 ≤ d ∧ d ≤ 41 ∧ v = .int .i64 d ∧ Below y16.heap.size y16 wr) (fun v _ => (41 - intOf v).toNat)
    case atStart => exact ⟨1, by omega, by omega, rfl, Below.refl _ _⟩
    case round =>
      obtain ⟨d, hd1, hd2, rfl, hbl⟩ := hrel
      replace QXa := Lib.hid (QXa.out.next hbl rfl); replace IVna := Lib.hid (iv_next IVna.out hbl rfl); replace IVda := Lib.hid (iv_next IVda.out hbl rfl)
      replace QXb := Lib.hid (QXb.out.next hbl rfl); replace IVnb := Lib.hid (iv_next IVnb.out hbl rfl); replace IVdb := Lib.hid (iv_next IVdb.out hbl rfl)
      replace QXc := Lib.hid (QXc.out.next hbl rfl); replace IVnc := Lib.hid (iv_next IVnc.out hbl rfl); replace IVdc := Lib.hid (iv_next IVdc.out hbl rfl)
      replace TX := Lib.hid (TX.out.next hbl rfl)
      replace DW := Lib.hid (link_below DW.out hbl (by have := DW.out.size; have := hg.out; omega) rfl rfl rfl rfl)
      have BL := Lib.hid hbl
      clear hbl
      by_cases h40 : d ≤ 40
      case' pos =>
        by_cases hdc : d < c.den
        case' pos =>
          have DH : Hid (1 ≤ d ∧ d ≤ 40) := ⟨hd1, h40⟩
          have DC : Hid (d < c.den) := hdc
          go_upto_region 14 with fail
          refine Rg.region_gg wr [.is (Value.int IntKind.i64 d), .is (Value.bool true), .is (Value.bool true), .is (Value.int IntKind.i64 d), .sat (pIv (d)) (pIv_keep _), .is (.pointer (some ⟨gc, 2, none⟩)), .is (.agg #[.bool scd, .slice Xcd pcd qcd]), .is (Value.int IntKind.i64 (-1)), .is (Value.bool true), .is (Value.bool true)] [] [some 62, some 63, some 64, some 65, some 66, some 67, some 68, some 69, some 70, some 71] (by kernel_rfl) (by kernel_rfl) (by kernel_rfl) (by kernel_rfl) (by kernel_rfl) (by simp [Rg.stos]) (by rfl) (by rfl) (by kernel_rfl) (by simp) ((Below.refl _ _).drew) (fun Q' => ?_) (fun K hK wn hs => ?_)
          · refine ⟨?_, ?_, ?_, ?_, ?_, ?_, ?_, ?_, ?_, ?_, trivial⟩
            · intro a' w' ha hs hw hold
              have eo10 : a'.tmps[10]? = some (Value.int IntKind.i64 d) := (ha.rest 10 (by kernel_rfl)).trans rfl
              exact ⟨rfl, .inl ⟨wanted_none rfl, wp_val (run_move rfl (ev_tmp eo10)) ⟨rfl, Below.refl _ _⟩⟩⟩
            · intro a' w' ha hs hw hold
              have e0 : a'.tmps[62]? = some (Value.int IntKind.i64 d) := Rg.slot_get rfl rfl (hw 0 (by kernel_rfl) _ rfl)
              exact ⟨rfl, .inl ⟨wanted_none rfl, wp_val (run_leqT rfl (ev_tmp e0) rfl DH.out.2) ⟨rfl, Below.refl _ _⟩⟩⟩
            · intro a' w' ha hs hw hold
              have e1 : a'.tmps[63]? = some (Value.bool true) := Rg.slot_get rfl rfl (hw 1 (by kernel_rfl) _ rfl)
              exact ⟨rfl, .inl ⟨wanted_none rfl, wp_val (run_move rfl (ev_tmp e1)) ⟨rfl, Below.refl _ _⟩⟩⟩
            · intro a' w' ha hs hw hold
              have e2 : a'.tmps[64]? = some (Value.bool true) := Rg.slot_get rfl rfl (hw 2 (by kernel_rfl) _ rfl)
              have eo10 : a'.tmps[10]? = some (Value.int IntKind.i64 d) := (ha.rest 10 (by kernel_rfl)).trans rfl
              exact ⟨rfl, .inl ⟨wanted_some rfl rfl rfl e2, wp_val (run_move rfl (ev_tmp eo10)) ⟨rfl, Below.refl _ _⟩⟩⟩
            · intro a' w' ha hs hw hold
              have e2 : a'.tmps[64]? = some (Value.bool true) := Rg.slot_get rfl rfl (hw 2 (by kernel_rfl) _ rfl)
              have e3 : a'.tmps[65]? = some (Value.int IntKind.i64 d) := Rg.slot_get rfl rfl (hw 3 (by kernel_rfl) _ rfl)
              exact ⟨rfl, wanted_some rfl rfl rfl e2, call_step rfl Tryz.func55 (by kernel_rfl) rfl (map_one (ev_tmp e3)) (of_any d _ (by have := DH.out; omega) (by have := DH.out; omega)) (fun e w2 he => by obtain ⟨v, rfl, hv, hb⟩ := he; exact ⟨v, rfl, v, rfl, hv, hb⟩)⟩
            · intro a' w' ha hs hw hold
              have e2 : a'.tmps[64]? = some (Value.bool true) := Rg.slot_get rfl rfl (hw 2 (by kernel_rfl) _ rfl)
              have eo8 : a'.tmps[8]? = some (ptr gc) := (ha.rest 8 (by kernel_rfl)).trans rfl
              exact ⟨rfl, .inl ⟨wanted_some rfl rfl rfl e2, wp_val (run_qfield1 rfl (ev_tmp eo8)) ⟨rfl, Below.refl _ _⟩⟩⟩
            · intro a' w' ha hs hw hold
              have e2 : a'.tmps[64]? = some (Value.bool true) := Rg.slot_get rfl rfl (hw 2 (by kernel_rfl) _ rfl)
              have e5 : a'.tmps[67]? = some (.pointer (some ⟨gc, 2, none⟩)) := Rg.slot_get rfl rfl (hw 5 (by kernel_rfl) _ rfl)
              exact ⟨rfl, .inl ⟨wanted_some rfl rfl rfl e2, wp_val (run_qload1 rfl (ev_tmp e5) (QXc.out.bel hs (by simp))) ⟨rfl, Below.refl _ _⟩⟩⟩
            · intro a' w' ha hs hw hold
              have e2 : a'.tmps[64]? = some (Value.bool true) := Rg.slot_get rfl rfl (hw 2 (by kernel_rfl) _ rfl)
              obtain ⟨v4, e4, q4⟩ := hw 4 (by kernel_rfl) _ rfl
              replace e4 : a'.tmps[66]? = some v4 := Rg.slot_get rfl rfl e4
              have e6 : a'.tmps[68]? = some (.agg #[.bool scd, .slice Xcd pcd qcd]) := Rg.slot_get rfl rfl (hw 6 (by kernel_rfl) _ rfl)
              exact ⟨rfl, .inl ⟨wanted_some rfl rfl rfl e2, call_step rfl Tryz.func35 (by kernel_rfl) rfl (map_two (ev_tmp e4) (ev_tmp e6)) (cmp_is _ _ d (c.den : Int) (-1) _ q4 (IVdc.out.kn hs.kn) (Sz.small (by have := DH.out; omega) (by have := DH.out; omega) |>.mono (by decide)) (SC.out.den.mono (by decide)) (cmpZ_lt DC.out)) (fun e w2 he => by obtain ⟨rfl, hb⟩ := he; exact ⟨_, rfl, rfl, hb⟩)⟩⟩
            · intro a' w' ha hs hw hold
              have e2 : a'.tmps[64]? = some (Value.bool true) := Rg.slot_get rfl rfl (hw 2 (by kernel_rfl) _ rfl)
              have e7 : a'.tmps[69]? = some (Value.int IntKind.i64 (-1)) := Rg.slot_get rfl rfl (hw 7 (by kernel_rfl) _ rfl)
              exact ⟨rfl, .inl ⟨wanted_some rfl rfl rfl e2, wp_val (show _ = _ from (run_lss_int rfl (ev_tmp e7) rfl).trans (by rfl)) ⟨rfl, Below.refl _ _⟩⟩⟩
            · intro a' w' ha hs hw hold
              have e2 : a'.tmps[64]? = some (Value.bool true) := Rg.slot_get rfl rfl (hw 2 (by kernel_rfl) _ rfl)
              have e8 : a'.tmps[70]? = some (Value.bool true) := Rg.slot_get rfl rfl (hw 8 (by kernel_rfl) _ rfl)
              exact ⟨rfl, .inl ⟨wanted_none rfl, wp_val (run_pick (b := true) rfl (ev_tmp e2) (ev_tmp e8)) ⟨rfl, Below.refl _ _⟩⟩⟩
          simp only [Rg.allG]
          intro r17x4 _
          simp only [setOpt, Rg.setOpt, List.set_cons_succ, List.set_cons_zero]
          refine hK _ _ ?_
          clear hK K
          replace hs := hs.below
          replace QXa := Lib.hid (QXa.out.next hs rfl); replace IVna := Lib.hid (iv_next IVna.out hs rfl); replace IVda := Lib.hid (iv_next IVda.out hs rfl)
          replace QXb := Lib.hid (QXb.out.next hs rfl); replace IVnb := Lib.hid (iv_next IVnb.out hs rfl); replace IVdb := Lib.hid (iv_next IVdb.out hs rfl)
          replace QXc := Lib.hid (QXc.out.next hs rfl); replace IVnc := Lib.hid (iv_next IVnc.out hs rfl); replace IVdc := Lib.hid (iv_next IVdc.out hs rfl)
          replace TX := Lib.hid (TX.out.next hs rfl)
          replace BL := Lib.hid (link_below BL.out hs (by have := BL.out.size; omega) rfl rfl rfl rfl)
          replace DW := Lib.hid (link_below DW.out hs (by have := DW.out.size; have := hg.out; omega) rfl rfl rfl rfl)
          clear hs
          go_upto_region 16 with fail
          have u18a := QXa.out.cell0; have u18b := QXa.out.cell1; have u18c := QXa.out.cell2; have u18d := QXa.out.cell3
          have u19a := QXb.out.cell0; have u19b := QXb.out.cell1; have u19c := QXb.out.cell2; have u19d := QXb.out.cell3
          go_wp2_with fail
          clear u18a u18b u18c u18d u19a u19b u19c u19d
          refine (empty_true _ _ a b c d _ (qv_of IVna.out IVda.out) (SA.out.mono (show 7 ≤ 1000 by decide)) (qv_of IVnb.out IVdb.out) (SB.out.mono (show 7 ≤ 1000 by decide)) KL.out DH.out DC.out).mono ?_
          rintro e y20 ⟨rfl, hb⟩
          replace QXa := Lib.hid (QXa.out.next hb rfl); replace IVna := Lib.hid (iv_next IVna.out hb rfl); replace IVda := Lib.hid (iv_next IVda.out hb rfl)
          replace QXb := Lib.hid (QXb.out.next hb rfl); replace IVnb := Lib.hid (iv_next IVnb.out hb rfl); replace IVdb := Lib.hid (iv_next IVdb.out hb rfl)
          replace QXc := Lib.hid (QXc.out.next hb rfl); replace IVnc := Lib.hid (iv_next IVnc.out hb rfl); replace IVdc := Lib.hid (iv_next IVdc.out hb rfl)
          replace TX := Lib.hid (TX.out.next hb rfl)
          replace BL := Lib.hid (link_below BL.out hb (by have := BL.out.size; omega) rfl rfl rfl rfl)
          replace DW := Lib.hid (link_below DW.out hb (by have := DW.out.size; have := hg.out; omega) rfl rfl rfl rfl)
          clear hb
          go_wp2
          go_roundw
          case rel => exact ⟨d + 1, by omega, by omega, rfl, BL.out⟩
          case measure => simp [intOf]; omega
        case' neg =>
          have DH : Hid (1 ≤ d ∧ d ≤ 40) := ⟨hd1, h40⟩
          have DC : Hid (¬ d < c.den) := hdc
          obtain ⟨o, ho⟩ : ∃ o, cmpZ d (c.den : Int) = o := ⟨_, rfl⟩
          have WO : Hid (¬ o < 0) := by
            rw [← ho]; unfold cmpZ; rw [if_neg DC.out]; split <;> (unfold Hid; omega)
          replace ho := Lib.hid ho
          go_upto_region 14 with fail
          refine Rg.region_gg wr [.is (Value.int IntKind.i64 d), .is (Value.bool true), .is (Value.bool true), .is (Value.int IntKind.i64 d), .sat (pIv (d)) (pIv_keep _), .is (.pointer (some ⟨gc, 2, none⟩)), .is (.agg #[.bool scd, .slice Xcd pcd qcd]), .is (Value.int IntKind.i64 o), .is (Value.bool false), .is (Value.bool false)] [] [some 62, some 63, some 64, some 65, some 66, some 67, some 68, some 69, some 70, some 71] (by kernel_rfl) (by kernel_rfl) (by kernel_rfl) (by kernel_rfl) (by kernel_rfl) (by simp [Rg.stos]) (by rfl) (by rfl) (by kernel_rfl) (by simp) ((Below.refl _ _).drew) (fun Q' => ?_) (fun K hK wn hs => ?_)
          · refine ⟨?_, ?_, ?_, ?_, ?_, ?_, ?_, ?_, ?_, ?_, trivial⟩
            · intro a' w' ha hs hw hold
              have eo10 : a'.tmps[10]? = some (Value.int IntKind.i64 d) := (ha.rest 10 (by kernel_rfl)).trans rfl
              exact ⟨rfl, .inl ⟨wanted_none rfl, wp_val (run_move rfl (ev_tmp eo10)) ⟨rfl, Below.refl _ _⟩⟩⟩
            · intro a' w' ha hs hw hold
              have e0 : a'.tmps[62]? = some (Value.int IntKind.i64 d) := Rg.slot_get rfl rfl (hw 0 (by kernel_rfl) _ rfl)
              exact ⟨rfl, .inl ⟨wanted_none rfl, wp_val (run_leqT rfl (ev_tmp e0) rfl DH.out.2) ⟨rfl, Below.refl _ _⟩⟩⟩
            · intro a' w' ha hs hw hold
              have e1 : a'.tmps[63]? = some (Value.bool true) := Rg.slot_get rfl rfl (hw 1 (by kernel_rfl) _ rfl)
              exact ⟨rfl, .inl ⟨wanted_none rfl, wp_val (run_move rfl (ev_tmp e1)) ⟨rfl, Below.refl _ _⟩⟩⟩
            · intro a' w' ha hs hw hold
              have e2 : a'.tmps[64]? = some (Value.bool true) := Rg.slot_get rfl rfl (hw 2 (by kernel_rfl) _ rfl)
              have eo10 : a'.tmps[10]? = some (Value.int IntKind.i64 d) := (ha.rest 10 (by kernel_rfl)).trans rfl
              exact ⟨rfl, .inl ⟨wanted_some rfl rfl rfl e2, wp_val (run_move rfl (ev_tmp eo10)) ⟨rfl, Below.refl _ _⟩⟩⟩
            · intro a' w' ha hs hw hold
              have e2 : a'.tmps[64]? = some (Value.bool true) := Rg.slot_get rfl rfl (hw 2 (by kernel_rfl) _ rfl)
              have e3 : a'.tmps[65]? = some (Value.int IntKind.i64 d) := Rg.slot_get rfl rfl (hw 3 (by kernel_rfl) _ rfl)
              exact ⟨rfl, wanted_some rfl rfl rfl e2, call_step rfl Tryz.func55 (by kernel_rfl) rfl (map_one (ev_tmp e3)) (of_any d _ (by have := DH.out; omega) (by have := DH.out; omega)) (fun e w2 he => by obtain ⟨v, rfl, hv, hb⟩ := he; exact ⟨v, rfl, v, rfl, hv, hb⟩)⟩
            · intro a' w' ha hs hw hold
              have e2 : a'.tmps[64]? = some (Value.bool true) := Rg.slot_get rfl rfl (hw 2 (by kernel_rfl) _ rfl)
              have eo8 : a'.tmps[8]? = some (ptr gc) := (ha.rest 8 (by kernel_rfl)).trans rfl
              exact ⟨rfl, .inl ⟨wanted_some rfl rfl rfl e2, wp_val (run_qfield1 rfl (ev_tmp eo8)) ⟨rfl, Below.refl _ _⟩⟩⟩
            · intro a' w' ha hs hw hold
              have e2 : a'.tmps[64]? = some (Value.bool true) := Rg.slot_get rfl rfl (hw 2 (by kernel_rfl) _ rfl)
              have e5 : a'.tmps[67]? = some (.pointer (some ⟨gc, 2, none⟩)) := Rg.slot_get rfl rfl (hw 5 (by kernel_rfl) _ rfl)
              exact ⟨rfl, .inl ⟨wanted_some rfl rfl rfl e2, wp_val (run_qload1 rfl (ev_tmp e5) (QXc.out.bel hs (by simp))) ⟨rfl, Below.refl _ _⟩⟩⟩
            · intro a' w' ha hs hw hold
              have e2 : a'.tmps[64]? = some (Value.bool true) := Rg.slot_get rfl rfl (hw 2 (by kernel_rfl) _ rfl)
              obtain ⟨v4, e4, q4⟩ := hw 4 (by kernel_rfl) _ rfl
              replace e4 : a'.tmps[66]? = some v4 := Rg.slot_get rfl rfl e4
              have e6 : a'.tmps[68]? = some (.agg #[.bool scd, .slice Xcd pcd qcd]) := Rg.slot_get rfl rfl (hw 6 (by kernel_rfl) _ rfl)
              exact ⟨rfl, .inl ⟨wanted_some rfl rfl rfl e2, call_step rfl Tryz.func35 (by kernel_rfl) rfl (map_two (ev_tmp e4) (ev_tmp e6)) (cmp_is _ _ d (c.den : Int) o _ q4 (IVdc.out.kn hs.kn) (Sz.small (by have := DH.out; omega) (by have := DH.out; omega) |>.mono (by decide)) (SC.out.den.mono (by decide)) ho.out) (fun e w2 he => by obtain ⟨rfl, hb⟩ := he; exact ⟨_, rfl, rfl, hb⟩)⟩⟩
            · intro a' w' ha hs hw hold
              have e2 : a'.tmps[64]? = some (Value.bool true) := Rg.slot_get rfl rfl (hw 2 (by kernel_rfl) _ rfl)
              have e7 : a'.tmps[69]? = some (Value.int IntKind.i64 o) := Rg.slot_get rfl rfl (hw 7 (by kernel_rfl) _ rfl)
              exact ⟨rfl, .inl ⟨wanted_some rfl rfl rfl e2, wp_val (run_lssF rfl (ev_tmp e7) rfl WO.out) ⟨rfl, Below.refl _ _⟩⟩⟩
            · intro a' w' ha hs hw hold
              have e2 : a'.tmps[64]? = some (Value.bool true) := Rg.slot_get rfl rfl (hw 2 (by kernel_rfl) _ rfl)
              have e8 : a'.tmps[70]? = some (Value.bool false) := Rg.slot_get rfl rfl (hw 8 (by kernel_rfl) _ rfl)
              exact ⟨rfl, .inl ⟨wanted_none rfl, wp_val (run_pick (b := true) rfl (ev_tmp e2) (ev_tmp e8)) ⟨rfl, Below.refl _ _⟩⟩⟩
          simp only [Rg.allG]
          intro r17x4 _
          simp only [setOpt, Rg.setOpt, List.set_cons_succ, List.set_cons_zero]
          refine hK _ _ ?_
          clear hK K
          replace hs := hs.below
          replace QXa := Lib.hid (QXa.out.next hs rfl); replace IVna := Lib.hid (iv_next IVna.out hs rfl); replace IVda := Lib.hid (iv_next IVda.out hs rfl)
          replace QXb := Lib.hid (QXb.out.next hs rfl); replace IVnb := Lib.hid (iv_next IVnb.out hs rfl); replace IVdb := Lib.hid (iv_next IVdb.out hs rfl)
          replace QXc := Lib.hid (QXc.out.next hs rfl); replace IVnc := Lib.hid (iv_next IVnc.out hs rfl); replace IVdc := Lib.hid (iv_next IVdc.out hs rfl)
          replace TX := Lib.hid (TX.out.next hs rfl)
          replace BL := Lib.hid (link_below BL.out hs (by have := BL.out.size; omega) rfl rfl rfl rfl)
          replace DW := Lib.hid (link_below DW.out hs (by have := DW.out.size; have := hg.out; omega) rfl rfl rfl rfl)
          clear hs
          go_upto_region 18 with fail
          clear DH DC ho WO hdc hd1 hd2 h40
      case' neg =>
        have DH : Hid (¬ d ≤ 40) := h40
        go_upto_region 14 with fail
        refine Rg.region_gg wr [.is (Value.int IntKind.i64 d), .is (Value.bool false), .is (Value.bool false), .is (undef), .is (undef), .is (undef), .is (undef), .is (undef), .is (undef), .is (Value.bool false)] [] [some 62, some 63, some 64, some 65, some 66, some 67, some 68, some 69, some 70, some 71] (by kernel_rfl) (by kernel_rfl) (by kernel_rfl) (by kernel_rfl) (by kernel_rfl) (by simp [Rg.stos]) (by rfl) (by rfl) (by kernel_rfl) (by simp) ((Below.refl _ _).drew) (fun Q' => ?_) (fun K hK wn hs => ?_)
        · refine ⟨?_, ?_, ?_, ?_, ?_, ?_, ?_, ?_, ?_, ?_, trivial⟩
          · intro a' w' ha hs hw hold
            have eo10 : a'.tmps[10]? = some (Value.int IntKind.i64 d) := (ha.rest 10 (by kernel_rfl)).trans rfl
            exact ⟨rfl, .inl ⟨wanted_none rfl, wp_val (run_move rfl (ev_tmp eo10)) ⟨rfl, Below.refl _ _⟩⟩⟩
          · intro a' w' ha hs hw hold
            have e0 : a'.tmps[62]? = some (Value.int IntKind.i64 d) := Rg.slot_get rfl rfl (hw 0 (by kernel_rfl) _ rfl)
            exact ⟨rfl, .inl ⟨wanted_none rfl, wp_val (run_leqF rfl (ev_tmp e0) rfl DH.out) ⟨rfl, Below.refl _ _⟩⟩⟩
          · intro a' w' ha hs hw hold
            have e1 : a'.tmps[63]? = some (Value.bool false) := Rg.slot_get rfl rfl (hw 1 (by kernel_rfl) _ rfl)
            exact ⟨rfl, .inl ⟨wanted_none rfl, wp_val (run_move rfl (ev_tmp e1)) ⟨rfl, Below.refl _ _⟩⟩⟩
          · intro a' w' ha hs hw hold
            have e2 : a'.tmps[64]? = some (Value.bool false) := Rg.slot_get rfl rfl (hw 2 (by kernel_rfl) _ rfl)
            exact ⟨rfl, .inr ⟨wanted_off rfl rfl rfl e2 (by decide), rfl⟩⟩
          · intro a' w' ha hs hw hold
            have e2 : a'.tmps[64]? = some (Value.bool false) := Rg.slot_get rfl rfl (hw 2 (by kernel_rfl) _ rfl)
            exact ⟨rfl, .inr ⟨wanted_off rfl rfl rfl e2 (by decide), rfl⟩⟩
          · intro a' w' ha hs hw hold
            have e2 : a'.tmps[64]? = some (Value.bool false) := Rg.slot_get rfl rfl (hw 2 (by kernel_rfl) _ rfl)
            exact ⟨rfl, .inr ⟨wanted_off rfl rfl rfl e2 (by decide), rfl⟩⟩
          · intro a' w' ha hs hw hold
            have e2 : a'.tmps[64]? = some (Value.bool false) := Rg.slot_get rfl rfl (hw 2 (by kernel_rfl) _ rfl)
            exact ⟨rfl, .inr ⟨wanted_off rfl rfl rfl e2 (by decide), rfl⟩⟩
          · intro a' w' ha hs hw hold
            have e2 : a'.tmps[64]? = some (Value.bool false) := Rg.slot_get rfl rfl (hw 2 (by kernel_rfl) _ rfl)
            exact ⟨rfl, .inr ⟨wanted_off rfl rfl rfl e2 (by decide), rfl⟩⟩
          · intro a' w' ha hs hw hold
            have e2 : a'.tmps[64]? = some (Value.bool false) := Rg.slot_get rfl rfl (hw 2 (by kernel_rfl) _ rfl)
            exact ⟨rfl, .inr ⟨wanted_off rfl rfl rfl e2 (by decide), rfl⟩⟩
          · intro a' w' ha hs hw hold
            have e2 : a'.tmps[64]? = some (Value.bool false) := Rg.slot_get rfl rfl (hw 2 (by kernel_rfl) _ rfl)
            exact ⟨rfl, .inl ⟨wanted_none rfl, wp_val (run_pick (b := false) rfl (ev_tmp e2) rfl) ⟨rfl, Below.refl _ _⟩⟩⟩
        simp only [Rg.allG]
        simp only [setOpt, Rg.setOpt, List.set_cons_succ, List.set_cons_zero]
        refine hK _ _ ?_
        clear hK K
        replace hs := hs.below
        replace QXa := Lib.hid (QXa.out.next hs rfl); replace IVna := Lib.hid (iv_next IVna.out hs rfl); replace IVda := Lib.hid (iv_next IVda.out hs rfl)
        replace QXb := Lib.hid (QXb.out.next hs rfl); replace IVnb := Lib.hid (iv_next IVnb.out hs rfl); replace IVdb := Lib.hid (iv_next IVdb.out hs rfl)
        replace QXc := Lib.hid (QXc.out.next hs rfl); replace IVnc := Lib.hid (iv_next IVnc.out hs rfl); replace IVdc := Lib.hid (iv_next IVdc.out hs rfl)
        replace TX := Lib.hid (TX.out.next hs rfl)
        replace BL := Lib.hid (link_below BL.out hs (by have := BL.out.size; omega) rfl rfl rfl rfl)
        replace DW := Lib.hid (link_below DW.out hs (by have := DW.out.size; have := hg.out; omega) rfl rfl rfl rfl)
        clear hs
        go_upto_region 18 with fail
        clear DH hd1 hd2 h40
      all_goals
        obtain ⟨m, hm⟩ : ∃ m, sg c.num = m := ⟨_, rfl⟩
        obtain ⟨e, ee⟩ : ∃ e, Rat.divInt (sg c.num) c.den = e := ⟨_, rfl⟩
        have HEN : Hid (e.num = sg c.num) := ee ▸ (unit_is c).1
        have HED : Hid ((e.den : Int) = c.den) := ee ▸ (unit_is c).2
        have WM : Hid (m = -1 ∨ m = 0 ∨ m = 1) := by rw [← hm]; have := cq_cases c 0; rwa [← sg_cq] at this
        have HEM : Hid (e.num = m) := HEN.out.trans hm
        have SE : Hid (Sr e 7) := ⟨by rw [HEM.out]; exact (Sz.small (by have := WM.out; omega) (by have := WM.out; omega)).mono (by decide), by rw [HED.out]; exact SC.out.den⟩
        replace hm := Lib.hid hm
        clear ee
        have QVc : Hid (Qv wn (.agg #[.bool scn, .slice Xcn pcn qcn, .bool scd, .slice Xcd pcd qcd]) (c.num) ((c.den : Int))) := qv_of IVnc.out IVdc.out
        refine Rg.region_gg wn [.is (.agg #[.bool scn, .slice Xcn pcn qcn, .bool scd, .slice Xcd pcd qcd]), .is (.agg #[.bool scn, .slice Xcn pcn qcn, .bool scd, .slice Xcd pcd qcd]), .is (Value.int IntKind.i64 (m)), .sat (pIv (e.num)) (pIv_keep _), .is (.pointer (some ⟨gc, 2, none⟩)), .is (.agg #[.bool scd, .slice Xcd pcd qcd]), .sat (pQv (e.num) ((c.den : Int))) (pQv_keep _ _), .sat (pQv ((c - e).num) (((c - e).den : Int))) (pQv_keep _ _), .own pNewQ pNewQ_keep, .put 8 (pPutQ ((c - e).num) (((c - e).den : Int))) (pPutQ_keep _ _)] [] [some 79, some 80, some 81, some 82, some 83, some 84, some 85, some 86, some 11, none] (by kernel_rfl) (by kernel_rfl) (by kernel_rfl) (by kernel_rfl) (by kernel_rfl) (by simp [Rg.stos]) (by rfl) (by rfl) (by kernel_rfl) (by simp) ((Below.refl _ _).drew) (fun Q' => ?_) (fun K hK wn hs => ?_)
        · refine ⟨?_, ?_, ?_, ?_, ?_, ?_, ?_, ?_, ?_, ?_, trivial⟩
          · intro a' w' ha hs hw hold
            have eo8 : a'.tmps[8]? = some (ptr gc) := (ha.rest 8 (by kernel_rfl)).trans rfl
            exact ⟨rfl, .inl ⟨wanted_none rfl, wp_val (run_qload rfl (ev_tmp eo8) (QXc.out.bel hs (by simp))) ⟨rfl, Below.refl _ _⟩⟩⟩
          · intro a' w' ha hs hw hold
            have eo8 : a'.tmps[8]? = some (ptr gc) := (ha.rest 8 (by kernel_rfl)).trans rfl
            exact ⟨rfl, .inl ⟨wanted_none rfl, wp_val (run_qload rfl (ev_tmp eo8) (QXc.out.bel hs (by simp))) ⟨rfl, Below.refl _ _⟩⟩⟩
          · intro a' w' ha hs hw hold
            have e1 : a'.tmps[80]? = some (.agg #[.bool scn, .slice Xcn pcn qcn, .bool scd, .slice Xcd pcd qcd]) := Rg.slot_get rfl rfl (hw 1 (by kernel_rfl) _ rfl)
            exact ⟨rfl, .inl ⟨wanted_none rfl, call_step rfl Tryz.func37 (by kernel_rfl) rfl (map_one (ev_tmp e1)) (qsign_is _ c (m) _ (QVc.out.kn hs.kn) (SC.out.mono (show 7 ≤ 1000000 by decide)) (hm.out)) (fun e w2 he => by obtain ⟨rfl, hb⟩ := he; exact ⟨_, rfl, rfl, hb⟩)⟩⟩
          · intro a' w' ha hs hw hold
            have e2 : a'.tmps[81]? = some (Value.int IntKind.i64 (m)) := Rg.slot_get rfl rfl (hw 2 (by kernel_rfl) _ rfl)
            exact ⟨rfl, wanted_none rfl, call_step rfl Tryz.func55 (by kernel_rfl) rfl (map_one (ev_tmp e2)) (ofm_is m e _ HEM.out WM.out) (fun e w2 he => by obtain ⟨v, rfl, hv, hb⟩ := he; exact ⟨v, rfl, v, rfl, hv, hb⟩)⟩
          · intro a' w' ha hs hw hold
            have eo8 : a'.tmps[8]? = some (ptr gc) := (ha.rest 8 (by kernel_rfl)).trans rfl
            exact ⟨rfl, .inl ⟨wanted_none rfl, wp_val (run_qfield1 rfl (ev_tmp eo8)) ⟨rfl, Below.refl _ _⟩⟩⟩
          · intro a' w' ha hs hw hold
            have e4 : a'.tmps[83]? = some (.pointer (some ⟨gc, 2, none⟩)) := Rg.slot_get rfl rfl (hw 4 (by kernel_rfl) _ rfl)
            exact ⟨rfl, .inl ⟨wanted_none rfl, wp_val (run_qload1 rfl (ev_tmp e4) (QXc.out.bel hs (by simp))) ⟨rfl, Below.refl _ _⟩⟩⟩
          · intro a' w' ha hs hw hold
            obtain ⟨v3, e3, q3⟩ := hw 3 (by kernel_rfl) _ rfl
            replace e3 : a'.tmps[82]? = some v3 := Rg.slot_get rfl rfl e3
            have e5 : a'.tmps[84]? = some (.agg #[.bool scd, .slice Xcd pcd qcd]) := Rg.slot_get rfl rfl (hw 5 (by kernel_rfl) _ rfl)
            exact ⟨rfl, wanted_none rfl, step_build rfl (ev_tmp e3) (ev_tmp e5) q3 (IVdc.out.kn hs.kn)⟩
          · intro a' w' ha hs hw hold
            have e0 : a'.tmps[79]? = some (.agg #[.bool scn, .slice Xcn pcn qcn, .bool scd, .slice Xcd pcd qcd]) := Rg.slot_get rfl rfl (hw 0 (by kernel_rfl) _ rfl)
            obtain ⟨v6, e6, q6⟩ := hw 6 (by kernel_rfl) _ rfl
            replace e6 : a'.tmps[85]? = some v6 := Rg.slot_get rfl rfl e6
            exact ⟨rfl, wanted_none rfl, call_step rfl Tryz.func19 (by kernel_rfl) rfl (map_two (ev_tmp e0) (ev_tmp e6)) (qsub_any _ _ c e _ (QVc.out.kn hs.kn) (SC.out.mono (by decide)) (qv_den HED.out q6) (SE.out.mono (by decide))) (fun e w2 he => by obtain ⟨v, rfl, hv, hb⟩ := he; exact ⟨v, rfl, v, rfl, hv, hb⟩)⟩
          · intro a' w' ha hs hw hold
            exact ⟨rfl, wanted_none rfl, step_newq rfl⟩
          · intro a' w' ha hs hw hold
            obtain ⟨v7, e7, q7⟩ := hw 7 (by kernel_rfl) _ rfl
            replace e7 : a'.tmps[86]? = some v7 := Rg.slot_get rfl rfl e7
            refine ⟨rfl, wanted_none rfl, by kernel_rfl, fun pv pg pp ph pe1 pe2 pe3 pe4 => ?_⟩
            cases pe1
            exact step_putq rfl rfl (ev_tmp (Rg.slot_get rfl rfl pe2)) (ev_tmp e7) pe3 pe4 q7
        simp only [Rg.allG]
        intro r21x3 _
        intro r21x6 _
        intro r21x7 _
        intro a21x8 gb21x8 hE21x8 hB21x8 _ hN21x8 _
        intro v21 he hp
        simp only [List.nil_append, List.cons_append, List.getElem?_cons_succ, List.getElem?_cons_zero, Option.some.injEq] at he
        subst he
        obtain ⟨gn, rfl, Xnn, pnn, qnn, Xnd, pnd, qnd, QXn, IVnn, IVdn⟩ := hp
        simp only [setOpt, Rg.setOpt, List.set_cons_succ, List.set_cons_zero, ptr]
        refine hK _ _ ?_
        clear hK K
        replace hs := hs.below
        have hgb : gn = gb21x8 := Option.some.inj hE21x8
        clear hgb
        clear hE21x8 hB21x8 hN21x8
        replace QXa := Lib.hid (QXa.out.next hs rfl); replace IVna := Lib.hid (iv_next IVna.out hs rfl); replace IVda := Lib.hid (iv_next IVda.out hs rfl)
        replace QXb := Lib.hid (QXb.out.next hs rfl); replace IVnb := Lib.hid (iv_next IVnb.out hs rfl); replace IVdb := Lib.hid (iv_next IVdb.out hs rfl)
        replace QXc := Lib.hid (QXc.out.next hs rfl); replace IVnc := Lib.hid (iv_next IVnc.out hs rfl); replace IVdc := Lib.hid (iv_next IVdc.out hs rfl)
        replace TX := Lib.hid (TX.out.next hs rfl)
        replace BL := Lib.hid (link_below BL.out hs (by have := BL.out.size; omega) rfl rfl rfl rfl)
        replace DW := Lib.hid (link_below DW.out hs (by have := DW.out.size; have := hg.out; omega) rfl rfl rfl rfl)
        generalize hsg : decide (((c - e).num : Int) < 0) = snn at *
        clear hsg
        generalize hsg : decide ((((c - e).den : Int) : Int) < 0) = snd at *
        clear hsg
        replace QXn := Lib.hid QXn; replace IVnn := Lib.hid IVnn; replace IVdn := Lib.hid IVdn
        clear hs
        go_upto_region 19 with fail
        have u22a := QXn.out.cell0; have u22b := QXn.out.cell1; have u22c := QXn.out.cell2; have u22d := QXn.out.cell3
        go_wp2_with fail
        clear u22a u22b u22c u22d
        refine (valid_is _ (c - e) _ (qv_of IVnn.out IVdn.out) ((SC.out.sub SE.out).mono (by decide))).mono ?_
        rintro e y23 ⟨rfl, hb⟩
        replace QXa := Lib.hid (QXa.out.next hb rfl); replace IVna := Lib.hid (iv_next IVna.out hb rfl); replace IVda := Lib.hid (iv_next IVda.out hb rfl)
        replace QXb := Lib.hid (QXb.out.next hb rfl); replace IVnb := Lib.hid (iv_next IVnb.out hb rfl); replace IVdb := Lib.hid (iv_next IVdb.out hb rfl)
        replace QXc := Lib.hid (QXc.out.next hb rfl); replace IVnc := Lib.hid (iv_next IVnc.out hb rfl); replace IVdc := Lib.hid (iv_next IVdc.out hb rfl)
        replace QXn := Lib.hid (QXn.out.next hb rfl); replace IVnn := Lib.hid (iv_next IVnn.out hb rfl); replace IVdn := Lib.hid (iv_next IVdn.out hb rfl)
        replace TX := Lib.hid (TX.out.next hb rfl)
        replace BL := Lib.hid (link_below BL.out hb (by have := BL.out.size; omega) rfl rfl rfl rfl)
        replace DW := Lib.hid (link_below DW.out hb (by have := DW.out.size; have := hg.out; omega) rfl rfl rfl rfl)
        clear hb
        have u24a := QXc.out.cell0; have u24b := QXc.out.cell1; have u24c := QXc.out.cell2; have u24d := QXc.out.cell3
        go_wp2_with fail
        clear u24a u24b u24c u24d
        refine (qsign_is _ c m _ (qv_of IVnc.out IVdc.out) (SC.out.mono (show 7 ≤ 1000000 by decide)) hm.out).mono ?_
        rintro e y25 ⟨rfl, hb⟩
        replace QXa := Lib.hid (QXa.out.next hb rfl); replace IVna := Lib.hid (iv_next IVna.out hb rfl); replace IVda := Lib.hid (iv_next IVda.out hb rfl)
        replace QXb := Lib.hid (QXb.out.next hb rfl); replace IVnb := Lib.hid (iv_next IVnb.out hb rfl); replace IVdb := Lib.hid (iv_next IVdb.out hb rfl)
        replace QXc := Lib.hid (QXc.out.next hb rfl); replace IVnc := Lib.hid (iv_next IVnc.out hb rfl); replace IVdc := Lib.hid (iv_next IVdc.out hb rfl)
        replace QXn := Lib.hid (QXn.out.next hb rfl); replace IVnn := Lib.hid (iv_next IVnn.out hb rfl); replace IVdn := Lib.hid (iv_next IVdn.out hb rfl)
        replace TX := Lib.hid (TX.out.next hb rfl)
        replace BL := Lib.hid (link_below BL.out hb (by have := BL.out.size; omega) rfl rfl rfl rfl)
        replace DW := Lib.hid (link_below DW.out hb (by have := DW.out.size; have := hg.out; omega) rfl rfl rfl rfl)
        clear hb
        by_cases hm0 : m = 0
        case' pos =>
          have dm : (m != 0) = false := by rw [hm0]; rfl
          have dm1 : (m == 0) = true := by rw [hm0]; rfl
          go_upto_region 21 with fail
          clear dm dm1 hm0
          generalize hwj : y25 = WJ at *
          clear hwj
        case' neg =>
          have dm : (m != 0) = true := by simpa using hm0
          have HM0 : Hid (m ≠ 0) := hm0
          obtain ⟨v1, hv1⟩ : ∃ v, cq a (c - e) = v := ⟨_, rfl⟩
          obtain ⟨v2, hv2⟩ : ∃ v, cq (c - e) b = v := ⟨_, rfl⟩
          have HOUT : Hid (v1 ≤ 0 → ¬ v2 ≤ 0) := by
            intro h
            rw [← hv2]
            exact next_out KL.out (by rw [hm.out]; exact HM0.out) HEN.out HED.out (by rw [hv1]; exact h)
          replace hv1 := Lib.hid hv1; replace hv2 := Lib.hid hv2
          have u26a := QXa.out.cell0; have u26b := QXa.out.cell1; have u26c := QXa.out.cell2; have u26d := QXa.out.cell3
          have u27a := QXn.out.cell0; have u27b := QXn.out.cell1; have u27c := QXn.out.cell2; have u27d := QXn.out.cell3
          go_wp2_with fail
          clear u26a u26b u26c u26d u27a u27b u27c u27d
          refine (qcmp_is _ _ a (c - e) v1 _ (qv_of IVna.out IVda.out) (SA.out.mono (show 7 ≤ 100000 by decide)) (qv_of IVnn.out IVdn.out) ((SC.out.sub SE.out).mono (by decide)) hv1.out).mono ?_
          rintro e y28 ⟨rfl, hb⟩
          replace QXa := Lib.hid (QXa.out.next hb rfl); replace IVna := Lib.hid (iv_next IVna.out hb rfl); replace IVda := Lib.hid (iv_next IVda.out hb rfl)
          replace QXb := Lib.hid (QXb.out.next hb rfl); replace IVnb := Lib.hid (iv_next IVnb.out hb rfl); replace IVdb := Lib.hid (iv_next IVdb.out hb rfl)
          replace QXc := Lib.hid (QXc.out.next hb rfl); replace IVnc := Lib.hid (iv_next IVnc.out hb rfl); replace IVdc := Lib.hid (iv_next IVdc.out hb rfl)
          replace QXn := Lib.hid (QXn.out.next hb rfl); replace IVnn := Lib.hid (iv_next IVnn.out hb rfl); replace IVdn := Lib.hid (iv_next IVdn.out hb rfl)
          replace TX := Lib.hid (TX.out.next hb rfl)
          replace BL := Lib.hid (link_below BL.out hb (by have := BL.out.size; omega) rfl rfl rfl rfl)
          replace DW := Lib.hid (link_below DW.out hb (by have := DW.out.size; have := hg.out; omega) rfl rfl rfl rfl)
          clear hb
          by_cases hv : v1 ≤ 0
          case' pos =>
            have e1 : decide (v1 ≤ 0) = true := decide_eq_true hv
            have e2 : decide (v2 ≤ 0) = false := decide_eq_false (by have := HOUT.out hv; omega)
            have u29a := QXn.out.cell0; have u29b := QXn.out.cell1; have u29c := QXn.out.cell2; have u29d := QXn.out.cell3
            have u30a := QXb.out.cell0; have u30b := QXb.out.cell1; have u30c := QXb.out.cell2; have u30d := QXb.out.cell3
            go_wp2_with fail
            clear u29a u29b u29c u29d u30a u30b u30c u30d
            refine (qcmp_is _ _ (c - e) b v2 _ (qv_of IVnn.out IVdn.out) ((SC.out.sub SE.out).mono (by decide)) (qv_of IVnb.out IVdb.out) (SB.out.mono (show 7 ≤ 100000 by decide)) hv2.out).mono ?_
            rintro e y31 ⟨rfl, hb⟩
            replace QXa := Lib.hid (QXa.out.next hb rfl); replace IVna := Lib.hid (iv_next IVna.out hb rfl); replace IVda := Lib.hid (iv_next IVda.out hb rfl)
            replace QXb := Lib.hid (QXb.out.next hb rfl); replace IVnb := Lib.hid (iv_next IVnb.out hb rfl); replace IVdb := Lib.hid (iv_next IVdb.out hb rfl)
            replace QXc := Lib.hid (QXc.out.next hb rfl); replace IVnc := Lib.hid (iv_next IVnc.out hb rfl); replace IVdc := Lib.hid (iv_next IVdc.out hb rfl)
            replace QXn := Lib.hid (QXn.out.next hb rfl); replace IVnn := Lib.hid (iv_next IVnn.out hb rfl); replace IVdn := Lib.hid (iv_next IVdn.out hb rfl)
            replace TX := Lib.hid (TX.out.next hb rfl)
            replace BL := Lib.hid (link_below BL.out hb (by have := BL.out.size; omega) rfl rfl rfl rfl)
            replace DW := Lib.hid (link_below DW.out hb (by have := DW.out.size; have := hg.out; omega) rfl rfl rfl rfl)
            clear hb
            go_upto_region 21 with fail
            clear e1 e2 hv dm
            generalize hwj : y31 = WJ at *
            clear hwj
          case' neg =>
            have e1 : decide (v1 ≤ 0) = false := decide_eq_false hv
            go_upto_region 21 with fail
            clear e1 hv dm
            generalize hwj : y28 = WJ at *
            clear hwj
        all_goals
          obtain ⟨p, hp⟩ : ∃ p, sg a.num = p := ⟨_, rfl⟩
          obtain ⟨q, hq⟩ : ∃ q, sg b.num = q := ⟨_, rfl⟩
          have bs := BSG.out
          rw [hp, hq, hm.out] at bs
          replace hp := Lib.hid hp; replace hq := Lib.hid hq
          by_cases hp0 : p ≤ 0
          · skip
            obtain ⟨z, hz⟩ : ∃ z, (m == 0) = z := ⟨_, rfl⟩
            rw [hz, decide_eq_true hp0, Bool.true_and] at bs
            replace hz := Lib.hid hz; replace bs := Lib.hid bs; replace hp0 := Lib.hid hp0
            have QVa : Hid (Qv WJ (.agg #[.bool san, .slice Xan pan qan, .bool sad, .slice Xad pad qad]) (a.num) ((a.den : Int))) := qv_of IVna.out IVda.out
            have QVb : Hid (Qv WJ (.agg #[.bool sbn, .slice Xbn pbn qbn, .bool sbd, .slice Xbd pbd qbd]) (b.num) ((b.den : Int))) := qv_of IVnb.out IVdb.out
            have QVc : Hid (Qv WJ (.agg #[.bool scn, .slice Xcn pcn qcn, .bool scd, .slice Xcd pcd qcd]) (c.num) ((c.den : Int))) := qv_of IVnc.out IVdc.out
            refine Rg.region_gg WJ [.is (.agg #[.bool scn, .slice Xcn pcn qcn, .bool scd, .slice Xcd pcd qcd]), .is (Value.int IntKind.i64 (m)), .is (Value.bool z), .is (.agg #[.bool san, .slice Xan pan qan, .bool sad, .slice Xad pad qad]), .is (Value.int IntKind.i64 (p)), .is (Value.bool true), .is (Value.bool true), .is (.agg #[.bool sbn, .slice Xbn pbn qbn, .bool sbd, .slice Xbd pbd qbd]), .is (Value.int IntKind.i64 (q)), .is (Value.bool z), .is (Value.bool z), .is (Value.bool true), .is (Value.bool true), .is (Value.bool true), .is (Value.bool true), .is (Value.bool true)] [] [some 106, some 107, some 108, some 109, some 110, some 111, some 112, some 113, some 114, some 115, some 116, some 117, some 118, some 119, some 120, some 2] (by kernel_rfl) (by kernel_rfl) (by kernel_rfl) (by kernel_rfl) (by kernel_rfl) (by simp [Rg.stos]) (by rfl) (by rfl) (by kernel_rfl) (by simp) ((Below.refl _ _).drew) (fun Q' => ?_) (fun K hK wn hs => ?_)
            · refine ⟨?_, ?_, ?_, ?_, ?_, ?_, ?_, ?_, ?_, ?_, ?_, ?_, ?_, ?_, ?_, ?_, trivial⟩
              · intro a' w' ha hs hw hold
                have eo8 : a'.tmps[8]? = some (ptr gc) := (ha.rest 8 (by kernel_rfl)).trans rfl
                exact ⟨rfl, .inl ⟨wanted_none rfl, wp_val (run_qload rfl (ev_tmp eo8) (QXc.out.bel hs (by simp))) ⟨rfl, Below.refl _ _⟩⟩⟩
              · intro a' w' ha hs hw hold
                have e0 : a'.tmps[106]? = some (.agg #[.bool scn, .slice Xcn pcn qcn, .bool scd, .slice Xcd pcd qcd]) := Rg.slot_get rfl rfl (hw 0 (by kernel_rfl) _ rfl)
                exact ⟨rfl, .inl ⟨wanted_none rfl, call_step rfl Tryz.func37 (by kernel_rfl) rfl (map_one (ev_tmp e0)) (qsign_is _ c (m) _ (QVc.out.kn hs.kn) (SC.out.mono (show 7 ≤ 1000000 by decide)) (hm.out)) (fun e w2 he => by obtain ⟨rfl, hb⟩ := he; exact ⟨_, rfl, rfl, hb⟩)⟩⟩
              · intro a' w' ha hs hw hold
                have e1 : a'.tmps[107]? = some (Value.int IntKind.i64 (m)) := Rg.slot_get rfl rfl (hw 1 (by kernel_rfl) _ rfl)
                exact ⟨rfl, .inl ⟨wanted_none rfl, wp_val (run_eqlI rfl (ev_tmp e1) rfl hz.out) ⟨rfl, Below.refl _ _⟩⟩⟩
              · intro a' w' ha hs hw hold
                have eo4 : a'.tmps[4]? = some (ptr ga) := (ha.rest 4 (by kernel_rfl)).trans rfl
                exact ⟨rfl, .inl ⟨wanted_none rfl, wp_val (run_qload rfl (ev_tmp eo4) (QXa.out.bel hs (by simp))) ⟨rfl, Below.refl _ _⟩⟩⟩
              · intro a' w' ha hs hw hold
                have e3 : a'.tmps[109]? = some (.agg #[.bool san, .slice Xan pan qan, .bool sad, .slice Xad pad qad]) := Rg.slot_get rfl rfl (hw 3 (by kernel_rfl) _ rfl)
                exact ⟨rfl, .inl ⟨wanted_none rfl, call_step rfl Tryz.func37 (by kernel_rfl) rfl (map_one (ev_tmp e3)) (qsign_is _ a (p) _ (QVa.out.kn hs.kn) (SA.out.mono (show 7 ≤ 1000000 by decide)) (hp.out)) (fun e w2 he => by obtain ⟨rfl, hb⟩ := he; exact ⟨_, rfl, rfl, hb⟩)⟩⟩
              · intro a' w' ha hs hw hold
                have e4 : a'.tmps[110]? = some (Value.int IntKind.i64 (p)) := Rg.slot_get rfl rfl (hw 4 (by kernel_rfl) _ rfl)
                exact ⟨rfl, .inl ⟨wanted_none rfl, wp_val (run_leqT rfl (ev_tmp e4) rfl hp0.out) ⟨rfl, Below.refl _ _⟩⟩⟩
              · intro a' w' ha hs hw hold
                have e5 : a'.tmps[111]? = some (Value.bool true) := Rg.slot_get rfl rfl (hw 5 (by kernel_rfl) _ rfl)
                exact ⟨rfl, .inl ⟨wanted_none rfl, wp_val (run_move rfl (ev_tmp e5)) ⟨rfl, Below.refl _ _⟩⟩⟩
              · intro a' w' ha hs hw hold
                have e6 : a'.tmps[112]? = some (Value.bool true) := Rg.slot_get rfl rfl (hw 6 (by kernel_rfl) _ rfl)
                have eo5 : a'.tmps[5]? = some (ptr gb) := (ha.rest 5 (by kernel_rfl)).trans rfl
                exact ⟨rfl, .inl ⟨wanted_some rfl rfl rfl e6, wp_val (run_qload rfl (ev_tmp eo5) (QXb.out.bel hs (by simp))) ⟨rfl, Below.refl _ _⟩⟩⟩
              · intro a' w' ha hs hw hold
                have e6 : a'.tmps[112]? = some (Value.bool true) := Rg.slot_get rfl rfl (hw 6 (by kernel_rfl) _ rfl)
                have e7 : a'.tmps[113]? = some (.agg #[.bool sbn, .slice Xbn pbn qbn, .bool sbd, .slice Xbd pbd qbd]) := Rg.slot_get rfl rfl (hw 7 (by kernel_rfl) _ rfl)
                exact ⟨rfl, .inl ⟨wanted_some rfl rfl rfl e6, call_step rfl Tryz.func37 (by kernel_rfl) rfl (map_one (ev_tmp e7)) (qsign_is _ b (q) _ (QVb.out.kn hs.kn) (SB.out.mono (show 7 ≤ 1000000 by decide)) (hq.out)) (fun e w2 he => by obtain ⟨rfl, hb⟩ := he; exact ⟨_, rfl, rfl, hb⟩)⟩⟩
              · intro a' w' ha hs hw hold
                have e6 : a'.tmps[112]? = some (Value.bool true) := Rg.slot_get rfl rfl (hw 6 (by kernel_rfl) _ rfl)
                have e8 : a'.tmps[114]? = some (Value.int IntKind.i64 (q)) := Rg.slot_get rfl rfl (hw 8 (by kernel_rfl) _ rfl)
                exact ⟨rfl, .inl ⟨wanted_some rfl rfl rfl e6, wp_val (run_geqI rfl (ev_tmp e8) rfl bs.out.symm) ⟨rfl, Below.refl _ _⟩⟩⟩
              · intro a' w' ha hs hw hold
                have e6 : a'.tmps[112]? = some (Value.bool true) := Rg.slot_get rfl rfl (hw 6 (by kernel_rfl) _ rfl)
                have e9 : a'.tmps[115]? = some (Value.bool z) := Rg.slot_get rfl rfl (hw 9 (by kernel_rfl) _ rfl)
                exact ⟨rfl, .inl ⟨wanted_none rfl, wp_val (run_pick (b := true) rfl (ev_tmp e6) (ev_tmp e9)) ⟨rfl, Below.refl _ _⟩⟩⟩
              · intro a' w' ha hs hw hold
                have e2 : a'.tmps[108]? = some (Value.bool z) := Rg.slot_get rfl rfl (hw 2 (by kernel_rfl) _ rfl)
                have e10 : a'.tmps[116]? = some (Value.bool z) := Rg.slot_get rfl rfl (hw 10 (by kernel_rfl) _ rfl)
                exact ⟨rfl, .inl ⟨wanted_none rfl, wp_val (run_eqlB rfl (ev_tmp e2) (ev_tmp e10)) ⟨rfl, Below.refl _ _⟩⟩⟩
              · intro a' w' ha hs hw hold
                have e11 : a'.tmps[117]? = some (Value.bool true) := Rg.slot_get rfl rfl (hw 11 (by kernel_rfl) _ rfl)
                exact ⟨rfl, .inl ⟨wanted_none rfl, wp_val (run_move rfl (ev_tmp e11)) ⟨rfl, Below.refl _ _⟩⟩⟩
              · intro a' w' ha hs hw hold
                have e12 : a'.tmps[118]? = some (Value.bool true) := Rg.slot_get rfl rfl (hw 12 (by kernel_rfl) _ rfl)
                have eo3 : a'.tmps[3]? = some (Value.bool true) := (ha.rest 3 (by kernel_rfl)).trans rfl
                exact ⟨rfl, .inl ⟨wanted_some rfl rfl rfl e12, wp_val (run_move rfl (ev_tmp eo3)) ⟨rfl, Below.refl _ _⟩⟩⟩
              · intro a' w' ha hs hw hold
                have e12 : a'.tmps[118]? = some (Value.bool true) := Rg.slot_get rfl rfl (hw 12 (by kernel_rfl) _ rfl)
                have e13 : a'.tmps[119]? = some (Value.bool true) := Rg.slot_get rfl rfl (hw 13 (by kernel_rfl) _ rfl)
                exact ⟨rfl, .inl ⟨wanted_none rfl, wp_val (run_pick (b := true) rfl (ev_tmp e12) (ev_tmp e13)) ⟨rfl, Below.refl _ _⟩⟩⟩
              · intro a' w' ha hs hw hold
                have e14 : a'.tmps[120]? = some (Value.bool true) := Rg.slot_get rfl rfl (hw 14 (by kernel_rfl) _ rfl)
                exact ⟨rfl, .inl ⟨wanted_none rfl, wp_val (run_assign rfl (ev_tmp e14)) ⟨rfl, Below.refl _ _⟩⟩⟩
            simp only [Rg.allG]
            simp only [setOpt, Rg.setOpt, List.set_cons_succ, List.set_cons_zero]
            refine hK _ _ ?_
            clear hK K
            replace hs := hs.below
            replace QXa := Lib.hid (QXa.out.next hs rfl); replace IVna := Lib.hid (iv_next IVna.out hs rfl); replace IVda := Lib.hid (iv_next IVda.out hs rfl)
            replace QXb := Lib.hid (QXb.out.next hs rfl); replace IVnb := Lib.hid (iv_next IVnb.out hs rfl); replace IVdb := Lib.hid (iv_next IVdb.out hs rfl)
            replace QXc := Lib.hid (QXc.out.next hs rfl); replace IVnc := Lib.hid (iv_next IVnc.out hs rfl); replace IVdc := Lib.hid (iv_next IVdc.out hs rfl)
            replace QXn := Lib.hid (QXn.out.next hs rfl); replace IVnn := Lib.hid (iv_next IVnn.out hs rfl); replace IVdn := Lib.hid (iv_next IVdn.out hs rfl)
            replace TX := Lib.hid (TX.out.next hs rfl)
            replace BL := Lib.hid (link_below BL.out hs (by have := BL.out.size; omega) rfl rfl rfl rfl)
            replace DW := Lib.hid (link_below DW.out hs (by have := DW.out.size; have := hg.out; omega) rfl rfl rfl rfl)
            clear hs
            go_wp2
            go_ret
            exact ⟨rfl, by rw [hg.out]; exact DW.out⟩
          · skip
            rw [decide_eq_false hp0, Bool.false_and] at bs
            replace bs := Lib.hid bs; replace hp0 : Hid (¬ p ≤ 0) := hp0
            have QVa : Hid (Qv WJ (.agg #[.bool san, .slice Xan pan qan, .bool sad, .slice Xad pad qad]) (a.num) ((a.den : Int))) := qv_of IVna.out IVda.out
            have QVc : Hid (Qv WJ (.agg #[.bool scn, .slice Xcn pcn qcn, .bool scd, .slice Xcd pcd qcd]) (c.num) ((c.den : Int))) := qv_of IVnc.out IVdc.out
            refine Rg.region_gg WJ [.is (.agg #[.bool scn, .slice Xcn pcn qcn, .bool scd, .slice Xcd pcd qcd]), .is (Value.int IntKind.i64 (m)), .is (Value.bool false), .is (.agg #[.bool san, .slice Xan pan qan, .bool sad, .slice Xad pad qad]), .is (Value.int IntKind.i64 (p)), .is (Value.bool false), .is (Value.bool false), .is (undef), .is (undef), .is (undef), .is (Value.bool false), .is (Value.bool true), .is (Value.bool true), .is (Value.bool true), .is (Value.bool true), .is (Value.bool true)] [] [some 106, some 107, some 108, some 109, some 110, some 111, some 112, some 113, some 114, some 115, some 116, some 117, some 118, some 119, some 120, some 2] (by kernel_rfl) (by kernel_rfl) (by kernel_rfl) (by kernel_rfl) (by kernel_rfl) (by simp [Rg.stos]) (by rfl) (by rfl) (by kernel_rfl) (by simp) ((Below.refl _ _).drew) (fun Q' => ?_) (fun K hK wn hs => ?_)
            · refine ⟨?_, ?_, ?_, ?_, ?_, ?_, ?_, ?_, ?_, ?_, ?_, ?_, ?_, ?_, ?_, ?_, trivial⟩
              · intro a' w' ha hs hw hold
                have eo8 : a'.tmps[8]? = some (ptr gc) := (ha.rest 8 (by kernel_rfl)).trans rfl
                exact ⟨rfl, .inl ⟨wanted_none rfl, wp_val (run_qload rfl (ev_tmp eo8) (QXc.out.bel hs (by simp))) ⟨rfl, Below.refl _ _⟩⟩⟩
              · intro a' w' ha hs hw hold
                have e0 : a'.tmps[106]? = some (.agg #[.bool scn, .slice Xcn pcn qcn, .bool scd, .slice Xcd pcd qcd]) := Rg.slot_get rfl rfl (hw 0 (by kernel_rfl) _ rfl)
                exact ⟨rfl, .inl ⟨wanted_none rfl, call_step rfl Tryz.func37 (by kernel_rfl) rfl (map_one (ev_tmp e0)) (qsign_is _ c (m) _ (QVc.out.kn hs.kn) (SC.out.mono (show 7 ≤ 1000000 by decide)) (hm.out)) (fun e w2 he => by obtain ⟨rfl, hb⟩ := he; exact ⟨_, rfl, rfl, hb⟩)⟩⟩
              · intro a' w' ha hs hw hold
                have e1 : a'.tmps[107]? = some (Value.int IntKind.i64 (m)) := Rg.slot_get rfl rfl (hw 1 (by kernel_rfl) _ rfl)
                exact ⟨rfl, .inl ⟨wanted_none rfl, wp_val (run_eqlI rfl (ev_tmp e1) rfl bs.out) ⟨rfl, Below.refl _ _⟩⟩⟩
              · intro a' w' ha hs hw hold
                have eo4 : a'.tmps[4]? = some (ptr ga) := (ha.rest 4 (by kernel_rfl)).trans rfl
                exact ⟨rfl, .inl ⟨wanted_none rfl, wp_val (run_qload rfl (ev_tmp eo4) (QXa.out.bel hs (by simp))) ⟨rfl, Below.refl _ _⟩⟩⟩
              · intro a' w' ha hs hw hold
                have e3 : a'.tmps[109]? = some (.agg #[.bool san, .slice Xan pan qan, .bool sad, .slice Xad pad qad]) := Rg.slot_get rfl rfl (hw 3 (by kernel_rfl) _ rfl)
                exact ⟨rfl, .inl ⟨wanted_none rfl, call_step rfl Tryz.func37 (by kernel_rfl) rfl (map_one (ev_tmp e3)) (qsign_is _ a (p) _ (QVa.out.kn hs.kn) (SA.out.mono (show 7 ≤ 1000000 by decide)) (hp.out)) (fun e w2 he => by obtain ⟨rfl, hb⟩ := he; exact ⟨_, rfl, rfl, hb⟩)⟩⟩
              · intro a' w' ha hs hw hold
                have e4 : a'.tmps[110]? = some (Value.int IntKind.i64 (p)) := Rg.slot_get rfl rfl (hw 4 (by kernel_rfl) _ rfl)
                exact ⟨rfl, .inl ⟨wanted_none rfl, wp_val (run_leqF rfl (ev_tmp e4) rfl hp0.out) ⟨rfl, Below.refl _ _⟩⟩⟩
              · intro a' w' ha hs hw hold
                have e5 : a'.tmps[111]? = some (Value.bool false) := Rg.slot_get rfl rfl (hw 5 (by kernel_rfl) _ rfl)
                exact ⟨rfl, .inl ⟨wanted_none rfl, wp_val (run_move rfl (ev_tmp e5)) ⟨rfl, Below.refl _ _⟩⟩⟩
              · intro a' w' ha hs hw hold
                have e6 : a'.tmps[112]? = some (Value.bool false) := Rg.slot_get rfl rfl (hw 6 (by kernel_rfl) _ rfl)
                exact ⟨rfl, .inr ⟨wanted_off rfl rfl rfl e6 (by decide), rfl⟩⟩
              · intro a' w' ha hs hw hold
                have e6 : a'.tmps[112]? = some (Value.bool false) := Rg.slot_get rfl rfl (hw 6 (by kernel_rfl) _ rfl)
                exact ⟨rfl, .inr ⟨wanted_off rfl rfl rfl e6 (by decide), rfl⟩⟩
              · intro a' w' ha hs hw hold
                have e6 : a'.tmps[112]? = some (Value.bool false) := Rg.slot_get rfl rfl (hw 6 (by kernel_rfl) _ rfl)
                exact ⟨rfl, .inr ⟨wanted_off rfl rfl rfl e6 (by decide), rfl⟩⟩
              · intro a' w' ha hs hw hold
                have e6 : a'.tmps[112]? = some (Value.bool false) := Rg.slot_get rfl rfl (hw 6 (by kernel_rfl) _ rfl)
                exact ⟨rfl, .inl ⟨wanted_none rfl, wp_val (run_pick (b := false) rfl (ev_tmp e6) rfl) ⟨rfl, Below.refl _ _⟩⟩⟩
              · intro a' w' ha hs hw hold
                have e2 : a'.tmps[108]? = some (Value.bool false) := Rg.slot_get rfl rfl (hw 2 (by kernel_rfl) _ rfl)
                have e10 : a'.tmps[116]? = some (Value.bool false) := Rg.slot_get rfl rfl (hw 10 (by kernel_rfl) _ rfl)
                exact ⟨rfl, .inl ⟨wanted_none rfl, wp_val (run_eqlB rfl (ev_tmp e2) (ev_tmp e10)) ⟨rfl, Below.refl _ _⟩⟩⟩
              · intro a' w' ha hs hw hold
                have e11 : a'.tmps[117]? = some (Value.bool true) := Rg.slot_get rfl rfl (hw 11 (by kernel_rfl) _ rfl)
                exact ⟨rfl, .inl ⟨wanted_none rfl, wp_val (run_move rfl (ev_tmp e11)) ⟨rfl, Below.refl _ _⟩⟩⟩
              · intro a' w' ha hs hw hold
                have e12 : a'.tmps[118]? = some (Value.bool true) := Rg.slot_get rfl rfl (hw 12 (by kernel_rfl) _ rfl)
                have eo3 : a'.tmps[3]? = some (Value.bool true) := (ha.rest 3 (by kernel_rfl)).trans rfl
                exact ⟨rfl, .inl ⟨wanted_some rfl rfl rfl e12, wp_val (run_move rfl (ev_tmp eo3)) ⟨rfl, Below.refl _ _⟩⟩⟩
              · intro a' w' ha hs hw hold
                have e12 : a'.tmps[118]? = some (Value.bool true) := Rg.slot_get rfl rfl (hw 12 (by kernel_rfl) _ rfl)
                have e13 : a'.tmps[119]? = some (Value.bool true) := Rg.slot_get rfl rfl (hw 13 (by kernel_rfl) _ rfl)
                exact ⟨rfl, .inl ⟨wanted_none rfl, wp_val (run_pick (b := true) rfl (ev_tmp e12) (ev_tmp e13)) ⟨rfl, Below.refl _ _⟩⟩⟩
              · intro a' w' ha hs hw hold
                have e14 : a'.tmps[120]? = some (Value.bool true) := Rg.slot_get rfl rfl (hw 14 (by kernel_rfl) _ rfl)
                exact ⟨rfl, .inl ⟨wanted_none rfl, wp_val (run_assign rfl (ev_tmp e14)) ⟨rfl, Below.refl _ _⟩⟩⟩
            simp only [Rg.allG]
            simp only [setOpt, Rg.setOpt, List.set_cons_succ, List.set_cons_zero]
            refine hK _ _ ?_
            clear hK K
            replace hs := hs.below
            replace QXa := Lib.hid (QXa.out.next hs rfl); replace IVna := Lib.hid (iv_next IVna.out hs rfl); replace IVda := Lib.hid (iv_next IVda.out hs rfl)
            replace QXb := Lib.hid (QXb.out.next hs rfl); replace IVnb := Lib.hid (iv_next IVnb.out hs rfl); replace IVdb := Lib.hid (iv_next IVdb.out hs rfl)
            replace QXc := Lib.hid (QXc.out.next hs rfl); replace IVnc := Lib.hid (iv_next IVnc.out hs rfl); replace IVdc := Lib.hid (iv_next IVdc.out hs rfl)
            replace QXn := Lib.hid (QXn.out.next hs rfl); replace IVnn := Lib.hid (iv_next IVnn.out hs rfl); replace IVdn := Lib.hid (iv_next IVdn.out hs rfl)
            replace TX := Lib.hid (TX.out.next hs rfl)
            replace BL := Lib.hid (link_below BL.out hs (by have := BL.out.size; omega) rfl rfl rfl rfl)
            replace DW := Lib.hid (link_below DW.out hs (by have := DW.out.size; have := hg.out; omega) rfl rfl rfl rfl)
            clear hs
            go_wp2
            go_ret
            exact ⟨rfl, by rw [hg.out]; exact DW.out⟩
  · have HLE : Hid (b ≤ a) := by unfold Hid; grind
    have h1 : Hid (cq a b = 1) := cq_gt (by grind)
    obtain ⟨z1, hz1⟩ : ∃ z : Int, z = 0 := ⟨_, rfl⟩
    obtain ⟨z2, hz2⟩ : ∃ z : Int, z = 0 := ⟨_, rfl⟩
    replace hz1 := Lib.hid hz1; replace hz2 := Lib.hid hz2
    clear hle
    have u34a := QXa.out.cell0; have u34b := QXa.out.cell1; have u34c := QXa.out.cell2; have u34d := QXa.out.cell3
    have u35a := QXb.out.cell0; have u35b := QXb.out.cell1; have u35c := QXb.out.cell2; have u35d := QXb.out.cell3
    go_wp2_with fail
    clear u34a u34b u34c u34d u35a u35b u35c u35d
    refine (qcmp_is _ _ a b 1 _ (qv_of IVna.out IVda.out) (SA.out.mono (show 7 ≤ 100000 by decide)) (qv_of IVnb.out IVdb.out) (SB.out.mono (show 7 ≤ 100000 by decide)) h1.out).mono ?_
    rintro e y36 ⟨rfl, hb⟩
    replace QXa := Lib.hid (QXa.out.next hb rfl); replace IVna := Lib.hid (iv_next IVna.out hb rfl); replace IVda := Lib.hid (iv_next IVda.out hb rfl)
    replace QXb := Lib.hid (QXb.out.next hb rfl); replace IVnb := Lib.hid (iv_next IVnb.out hb rfl); replace IVdb := Lib.hid (iv_next IVdb.out hb rfl)
    replace TX := Lib.hid (TX.out.next hb rfl)
    replace DW := Lib.hid (link_below DW.out hb (by have := DW.out.size; have := hg.out; omega) rfl rfl rfl rfl)
    clear hb
    have u37a := QXa.out.cell0; have u37b := QXa.out.cell1; have u37c := QXa.out.cell2; have u37d := QXa.out.cell3
    have u38a := QXb.out.cell0; have u38b := QXb.out.cell1; have u38c := QXb.out.cell2; have u38d := QXb.out.cell3
    go_wp2_with fail
    clear u37a u37b u37c u37d u38a u38b u38c u38d
    refine ((between_arg _ _ a b _ (qv_of IVna.out IVda.out) (SA.out.mono (show 7 ≤ 10000 by decide)) (qv_of IVnb.out IVdb.out) (SB.out.mono (show 7 ≤ 10000 by decide)) h1.out).mono fun _ _ h => retqd hz1.out hz2.out h).mono ?_
    rintro e y39 ⟨_, rfl, hq, hb⟩
    obtain ⟨Xen, pen, qen, Xed, ped, qed, rfl, hen, hed⟩ := hq
    have Qen := Lib.hid hen; have Qed := Lib.hid hed; clear hen hed
    have B := Lib.hid hb; clear hb
    generalize hs : decide ((z1 : Int) < 0) = sen at *
    clear hs
    generalize hs : decide ((z2 : Int) < 0) = sed at *
    clear hs
    go_upto_region 7 with fail
    obtain ⟨W40, hW⟩ : ∃ W40, W40 = y39.alloc (Obj.cells #[Value.bool sen, Value.slice Xen pen qen, Value.bool sed, Value.slice Xed ped qed] 31) := ⟨_, rfl⟩
    rw [← hW]
    have QXe : Hid (QBox W40 y39.heap.size sen (.slice Xen pen qen) sed (.slice Xed ped qed)) := by rw [hW]; exact QBox.new _ _ _ _ _
    have IVne : Hid (Iv W40 (.agg #[.bool sen, .slice Xen pen qen]) (z1)) := by rw [hW]; exact Qen.out.alloc _
    have IVde : Hid (Iv W40 (.agg #[.bool sed, .slice Xed ped qed]) (z2)) := by rw [hW]; exact Qed.out.alloc _
    have hd : Below y36.heap.size y36 W40 := by rw [hW]; exact B.out.alloc (by have := B.out.size; omega) _
    clear hW B Qen Qed
    generalize hgn40 : y39.heap.size = ge at *
    clear hgn40
    replace QXa := Lib.hid (QXa.out.next hd rfl); replace IVna := Lib.hid (iv_next IVna.out hd rfl); replace IVda := Lib.hid (iv_next IVda.out hd rfl)
    replace QXb := Lib.hid (QXb.out.next hd rfl); replace IVnb := Lib.hid (iv_next IVnb.out hd rfl); replace IVdb := Lib.hid (iv_next IVdb.out hd rfl)
    replace TX := Lib.hid (TX.out.next hd rfl)
    replace DW := Lib.hid (link_below DW.out hd (by have := DW.out.size; have := hg.out; omega) rfl rfl rfl rfl)
    clear hd
    have u41a := QXe.out.cell0; have u41b := QXe.out.cell1; have u41c := QXe.out.cell2; have u41d := QXe.out.cell3
    go_wp2_with fail
    clear u41a u41b u41c u41d
    refine (fails_zero _ 1 _ (qv00 hz1.out hz2.out (qv_of IVne.out IVde.out))).mono ?_
    rintro e y42 ⟨rfl, hb⟩
    replace QXa := Lib.hid (QXa.out.next hb rfl); replace IVna := Lib.hid (iv_next IVna.out hb rfl); replace IVda := Lib.hid (iv_next IVda.out hb rfl)
    replace QXb := Lib.hid (QXb.out.next hb rfl); replace IVnb := Lib.hid (iv_next IVnb.out hb rfl); replace IVdb := Lib.hid (iv_next IVdb.out hb rfl)
    replace QXe := Lib.hid (QXe.out.next hb rfl); replace IVne := Lib.hid (iv_next IVne.out hb rfl); replace IVde := Lib.hid (iv_next IVde.out hb rfl)
    replace TX := Lib.hid (TX.out.next hb rfl)
    replace DW := Lib.hid (link_below DW.out hb (by have := DW.out.size; have := hg.out; omega) rfl rfl rfl rfl)
    clear hb
    go_upto_region 9 with fail
    have u43a := QXa.out.cell0; have u43b := QXa.out.cell1; have u43c := QXa.out.cell2; have u43d := QXa.out.cell3
    have u44a := QXb.out.cell0; have u44b := QXb.out.cell1; have u44c := QXb.out.cell2; have u44d := QXb.out.cell3
    have fa0 := QXa.out.frozen 0; have fa1 := QXa.out.frozen 1; have fa2 := QXa.out.frozen 2; have fa3 := QXa.out.frozen 3
    have fb0 := QXb.out.frozen 0; have fb1 := QXb.out.frozen 1; have fb2 := QXb.out.frozen 2; have fb3 := QXb.out.frozen 3
    have hne : ga ≠ gb := NQab.out
    have hne2 : gb ≠ ga := fun e => NQab.out e.symm
    go_upto_region 10 with fail
    clear fa0 fa1 fa2 fa3 fb0 fb1 fb2 fb3 u43a u43b u43c u43d u44a u44b u44c u44d
    obtain ⟨W31, hW1⟩ : ∃ W31, W31 = ((((y42.setCell ⟨ga, 0, none⟩ (.bool sbn)).setCell ⟨ga, 1, none⟩ (.slice Xbn pbn qbn)).setCell ⟨ga, 2, none⟩ (.bool sbd)).setCell ⟨ga, 3, none⟩ (.slice Xbd pbd qbd)) := ⟨_, rfl⟩
    rw [← hW1]
    obtain ⟨W32, hW2⟩ : ∃ W32, W32 = ((((W31.setCell ⟨gb, 0, none⟩ (.bool san)).setCell ⟨gb, 1, none⟩ (.slice Xan pan qan)).setCell ⟨gb, 2, none⟩ (.bool sad)).setCell ⟨gb, 3, none⟩ (.slice Xad pad qad)) := ⟨_, rfl⟩
    rw [← hW2]
    have hc1 := chg_qbox (b' := sbn) (d' := sbd) (A' := Xbn) (n' := pbn) (c' := qbn) (B' := Xbd) (m' := pbd) (e' := qbd) QXa.out
    rw [← hW1] at hc1
    have N1 : QBox W31 ga sbn (.slice Xbn pbn qbn) sbd (.slice Xbd pbd qbd) := by rw [hW1]; exact QBox.set _ QXa.out
    have O1 : QBox W31 gb sbn (.slice Xbn pbn qbn) sbd (.slice Xbd pbd qbd) := (hc1.grown.block gb QXb.out.lt (fun e => hne2 (Option.some.inj e))).trans QXb.out
    have hc2 := chg_qbox (b' := san) (d' := sad) (A' := Xan) (n' := pan) (c' := qan) (B' := Xad) (m' := pad) (e' := qad) O1
    rw [← hW2] at hc2
    have N2 : QBox W32 gb san (.slice Xan pan qan) sad (.slice Xad pad qad) := by rw [hW2]; exact QBox.set _ O1
    have N3 : QBox W32 ga sbn (.slice Xbn pbn qbn) sbd (.slice Xbd pbd qbd) := (hc2.grown.block ga N1.lt (fun e => hne (Option.some.inj e))).trans N1
    have ga0 : g ≤ ga := GBa.out
    have gb0 : g ≤ gb := GBb.out
    replace DW : Hid (Below g w W32) := by
      have d1 : Below g w W31 := by rw [hW1]; exact (((DW.out.setCell (by simp <;> omega) _).setCell (by simp <;> omega) _).setCell (by simp <;> omega) _).setCell (by simp <;> omega) _
      rw [hW2]
      exact (((d1.setCell (by simp <;> omega) _).setCell (by simp <;> omega) _).setCell (by simp <;> omega) _).setCell (by simp <;> omega) _
    replace QXa := Lib.hid N2; replace QXb := Lib.hid N3
    replace IVna := Lib.hid ((IVna.out.kn hc1.kn).kn hc2.kn); replace IVda := Lib.hid ((IVda.out.kn hc1.kn).kn hc2.kn)
    replace IVnb := Lib.hid ((IVnb.out.kn hc1.kn).kn hc2.kn); replace IVdb := Lib.hid ((IVdb.out.kn hc1.kn).kn hc2.kn)
    clear hW1 hW2 hc1 hc2 N1 O1 N2 N3 hne hne2 QXe IVne IVde TX
    obtain ⟨c, ec⟩ : ∃ c, btw b a = c := ⟨_, rfl⟩
    have KL : Hid (Lst b a c) := ec ▸ lst_btw HLE.out
    have SC : Hid (Sr c 7) := ec ▸ btw_sr (by decide) HLE.out SB.out SA.out
    have BSG : Hid ((sg c.num == 0) = (decide (sg b.num ≤ 0) && decide (0 ≤ sg a.num))) := ec ▸ btw_sign HLE.out
    replace ec := Lib.hid ec
    have u45a := QXb.out.cell0; have u45b := QXb.out.cell1; have u45c := QXb.out.cell2; have u45d := QXb.out.cell3
    have u46a := QXa.out.cell0; have u46b := QXa.out.cell1; have u46c := QXa.out.cell2; have u46d := QXa.out.cell3
    go_wp2_with fail
    clear u45a u45b u45c u45d u46a u46b u46c u46d
    refine (ec.out ▸ between_is _ _ b a _ (qv_of IVnb.out IVdb.out) (SB.out.mono (show 7 ≤ 1000 by decide)) (qv_of IVna.out IVda.out) (SA.out.mono (show 7 ≤ 1000 by decide)) (cq_le.2 HLE.out)).mono ?_
    rintro e y47 ⟨_, rfl, hq, hb⟩
    obtain ⟨Xcn, pcn, qcn, Xcd, pcd, qcd, rfl, hcn, hcd⟩ := hq
    have Qcn := Lib.hid hcn; have Qcd := Lib.hid hcd; clear hcn hcd
    have B := Lib.hid hb; clear hb
    generalize hs : decide ((c.num : Int) < 0) = scn at *
    clear hs
    generalize hs : decide (((c.den : Int) : Int) < 0) = scd at *
    clear hs
    go_upto_region 11 with fail
    obtain ⟨W48, hW⟩ : ∃ W48, W48 = y47.alloc (Obj.cells #[Value.bool scn, Value.slice Xcn pcn qcn, Value.bool scd, Value.slice Xcd pcd qcd] 31) := ⟨_, rfl⟩
    rw [← hW]
    have QXc : Hid (QBox W48 y47.heap.size scn (.slice Xcn pcn qcn) scd (.slice Xcd pcd qcd)) := by rw [hW]; exact QBox.new _ _ _ _ _
    have IVnc : Hid (Iv W48 (.agg #[.bool scn, .slice Xcn pcn qcn]) (c.num)) := by rw [hW]; exact Qcn.out.alloc _
    have IVdc : Hid (Iv W48 (.agg #[.bool scd, .slice Xcd pcd qcd]) ((c.den : Int))) := by rw [hW]; exact Qcd.out.alloc _
    have hd : Below W32.heap.size W32 W48 := by rw [hW]; exact B.out.alloc (by have := B.out.size; omega) _
    clear hW B Qcn Qcd
    generalize hgn48 : y47.heap.size = gc at *
    clear hgn48
    replace QXa := Lib.hid (QXa.out.next hd rfl); replace IVna := Lib.hid (iv_next IVna.out hd rfl); replace IVda := Lib.hid (iv_next IVda.out hd rfl)
    replace QXb := Lib.hid (QXb.out.next hd rfl); replace IVnb := Lib.hid (iv_next IVnb.out hd rfl); replace IVdb := Lib.hid (iv_next IVdb.out hd rfl)
    replace DW := Lib.hid (link_below DW.out hd (by have := DW.out.size; have := hg.out; omega) rfl rfl rfl rfl)
    clear hd
    obtain ⟨u1, hu1⟩ : ∃ u, cq b c = u := ⟨_, rfl⟩
    obtain ⟨u2, hu2⟩ : ∃ u, cq c a = u := ⟨_, rfl⟩
    have d1 : decide (0 < u1) = false := decide_eq_false (by have := cq_le.2 KL.out.low; omega)
    have d2 : decide (0 < u2) = false := decide_eq_false (by have := cq_le.2 KL.out.high; omega)
    replace hu1 := Lib.hid hu1; replace hu2 := Lib.hid hu2
    have u49a := QXc.out.cell0; have u49b := QXc.out.cell1; have u49c := QXc.out.cell2; have u49d := QXc.out.cell3
    go_wp2_with fail
    clear u49a u49b u49c u49d
    refine (valid_is _ c _ (qv_of IVnc.out IVdc.out) (SC.out.mono (show 7 ≤ 1000000 by decide))).mono ?_
    rintro e y50 ⟨rfl, hb⟩
    replace QXa := Lib.hid (QXa.out.next hb rfl); replace IVna := Lib.hid (iv_next IVna.out hb rfl); replace IVda := Lib.hid (iv_next IVda.out hb rfl)
    replace QXb := Lib.hid (QXb.out.next hb rfl); replace IVnb := Lib.hid (iv_next IVnb.out hb rfl); replace IVdb := Lib.hid (iv_next IVdb.out hb rfl)
    replace QXc := Lib.hid (QXc.out.next hb rfl); replace IVnc := Lib.hid (iv_next IVnc.out hb rfl); replace IVdc := Lib.hid (iv_next IVdc.out hb rfl)
    replace DW := Lib.hid (link_below DW.out hb (by have := DW.out.size; have := hg.out; omega) rfl rfl rfl rfl)
    clear hb
    have u51a := QXb.out.cell0; have u51b := QXb.out.cell1; have u51c := QXb.out.cell2; have u51d := QXb.out.cell3
    have u52a := QXc.out.cell0; have u52b := QXc.out.cell1; have u52c := QXc.out.cell2; have u52d := QXc.out.cell3
    go_wp2_with fail
    clear u51a u51b u51c u51d u52a u52b u52c u52d
    refine (qcmp_is _ _ b c u1 _ (qv_of IVnb.out IVdb.out) (SB.out.mono (show 7 ≤ 100000 by decide)) (qv_of IVnc.out IVdc.out) (SC.out.mono (show 7 ≤ 100000 by decide)) hu1.out).mono ?_
    rintro e y53 ⟨rfl, hb⟩
    replace QXa := Lib.hid (QXa.out.next hb rfl); replace IVna := Lib.hid (iv_next IVna.out hb rfl); replace IVda := Lib.hid (iv_next IVda.out hb rfl)
    replace QXb := Lib.hid (QXb.out.next hb rfl); replace IVnb := Lib.hid (iv_next IVnb.out hb rfl); replace IVdb := Lib.hid (iv_next IVdb.out hb rfl)
    replace QXc := Lib.hid (QXc.out.next hb rfl); replace IVnc := Lib.hid (iv_next IVnc.out hb rfl); replace IVdc := Lib.hid (iv_next IVdc.out hb rfl)
    replace DW := Lib.hid (link_below DW.out hb (by have := DW.out.size; have := hg.out; omega) rfl rfl rfl rfl)
    clear hb
    have u54a := QXc.out.cell0; have u54b := QXc.out.cell1; have u54c := QXc.out.cell2; have u54d := QXc.out.cell3
    have u55a := QXa.out.cell0; have u55b := QXa.out.cell1; have u55c := QXa.out.cell2; have u55d := QXa.out.cell3
    go_wp2_with fail
    clear u54a u54b u54c u54d u55a u55b u55c u55d
    refine (qcmp_is _ _ c a u2 _ (qv_of IVnc.out IVdc.out) (SC.out.mono (show 7 ≤ 100000 by decide)) (qv_of IVna.out IVda.out) (SA.out.mono (show 7 ≤ 100000 by decide)) hu2.out).mono ?_
    rintro e y56 ⟨rfl, hb⟩
    replace QXa := Lib.hid (QXa.out.next hb rfl); replace IVna := Lib.hid (iv_next IVna.out hb rfl); replace IVda := Lib.hid (iv_next IVda.out hb rfl)
    replace QXb := Lib.hid (QXb.out.next hb rfl); replace IVnb := Lib.hid (iv_next IVnb.out hb rfl); replace IVdb := Lib.hid (iv_next IVdb.out hb rfl)
    replace QXc := Lib.hid (QXc.out.next hb rfl); replace IVnc := Lib.hid (iv_next IVnc.out hb rfl); replace IVdc := Lib.hid (iv_next IVdc.out hb rfl)
    replace DW := Lib.hid (link_below DW.out hb (by have := DW.out.size; have := hg.out; omega) rfl rfl rfl rfl)
    clear hb
    go_wp2_with fail
    clear d1 d2 hu1 hu2
    go_loopw [10] (fun v wr => ∃ d : Int, 1 ≤ d ∧ d ≤ 41 ∧ v = .int .i64 d ∧ Below y56.heap.size y56 wr) (fun v _ => (41 - intOf v).toNat)
    case atStart => exact ⟨1, by omega, by omega, rfl, Below.refl _ _⟩
    case round =>
      obtain ⟨d, hd1, hd2, rfl, hbl⟩ := hrel
      replace QXa := Lib.hid (QXa.out.next hbl rfl); replace IVna := Lib.hid (iv_next IVna.out hbl rfl); replace IVda := Lib.hid (iv_next IVda.out hbl rfl)
      replace QXb := Lib.hid (QXb.out.next hbl rfl); replace IVnb := Lib.hid (iv_next IVnb.out hbl rfl); replace IVdb := Lib.hid (iv_next IVdb.out hbl rfl)
      replace QXc := Lib.hid (QXc.out.next hbl rfl); replace IVnc := Lib.hid (iv_next IVnc.out hbl rfl); replace IVdc := Lib.hid (iv_next IVdc.out hbl rfl)
      replace DW := Lib.hid (link_below DW.out hbl (by have := DW.out.size; have := hg.out; omega) rfl rfl rfl rfl)
      have BL := Lib.hid hbl
      clear hbl
      by_cases h40 : d ≤ 40
      case' pos =>
        by_cases hdc : d < c.den
        case' pos =>
          have DH : Hid (1 ≤ d ∧ d ≤ 40) := ⟨hd1, h40⟩
          have DC : Hid (d < c.den) := hdc
          go_upto_region 14 with fail
          refine Rg.region_gg wr [.is (Value.int IntKind.i64 d), .is (Value.bool true), .is (Value.bool true), .is (Value.int IntKind.i64 d), .sat (pIv (d)) (pIv_keep _), .is (.pointer (some ⟨gc, 2, none⟩)), .is (.agg #[.bool scd, .slice Xcd pcd qcd]), .is (Value.int IntKind.i64 (-1)), .is (Value.bool true), .is (Value.bool true)] [] [some 62, some 63, some 64, some 65, some 66, some 67, some 68, some 69, some 70, some 71] (by kernel_rfl) (by kernel_rfl) (by kernel_rfl) (by kernel_rfl) (by kernel_rfl) (by simp [Rg.stos]) (by rfl) (by rfl) (by kernel_rfl) (by simp) ((Below.refl _ _).drew) (fun Q' => ?_) (fun K hK wn hs => ?_)
          · refine ⟨?_, ?_, ?_, ?_, ?_, ?_, ?_, ?_, ?_, ?_, trivial⟩
            · intro a' w' ha hs hw hold
              have eo10 : a'.tmps[10]? = some (Value.int IntKind.i64 d) := (ha.rest 10 (by kernel_rfl)).trans rfl
              exact ⟨rfl, .inl ⟨wanted_none rfl, wp_val (run_move rfl (ev_tmp eo10)) ⟨rfl, Below.refl _ _⟩⟩⟩
            · intro a' w' ha hs hw hold
              have e0 : a'.tmps[62]? = some (Value.int IntKind.i64 d) := Rg.slot_get rfl rfl (hw 0 (by kernel_rfl) _ rfl)
              exact ⟨rfl, .inl ⟨wanted_none rfl, wp_val (run_leqT rfl (ev_tmp e0) rfl DH.out.2) ⟨rfl, Below.refl _ _⟩⟩⟩
            · intro a' w' ha hs hw hold
              have e1 : a'.tmps[63]? = some (Value.bool true) := Rg.slot_get rfl rfl (hw 1 (by kernel_rfl) _ rfl)
              exact ⟨rfl, .inl ⟨wanted_none rfl, wp_val (run_move rfl (ev_tmp e1)) ⟨rfl, Below.refl _ _⟩⟩⟩
            · intro a' w' ha hs hw hold
              have e2 : a'.tmps[64]? = some (Value.bool true) := Rg.slot_get rfl rfl (hw 2 (by kernel_rfl) _ rfl)
              have eo10 : a'.tmps[10]? = some (Value.int IntKind.i64 d) := (ha.rest 10 (by kernel_rfl)).trans rfl
              exact ⟨rfl, .inl ⟨wanted_some rfl rfl rfl e2, wp_val (run_move rfl (ev_tmp eo10)) ⟨rfl, Below.refl _ _⟩⟩⟩
            · intro a' w' ha hs hw hold
              have e2 : a'.tmps[64]? = some (Value.bool true) := Rg.slot_get rfl rfl (hw 2 (by kernel_rfl) _ rfl)
              have e3 : a'.tmps[65]? = some (Value.int IntKind.i64 d) := Rg.slot_get rfl rfl (hw 3 (by kernel_rfl) _ rfl)
              exact ⟨rfl, wanted_some rfl rfl rfl e2, call_step rfl Tryz.func55 (by kernel_rfl) rfl (map_one (ev_tmp e3)) (of_any d _ (by have := DH.out; omega) (by have := DH.out; omega)) (fun e w2 he => by obtain ⟨v, rfl, hv, hb⟩ := he; exact ⟨v, rfl, v, rfl, hv, hb⟩)⟩
            · intro a' w' ha hs hw hold
              have e2 : a'.tmps[64]? = some (Value.bool true) := Rg.slot_get rfl rfl (hw 2 (by kernel_rfl) _ rfl)
              have eo8 : a'.tmps[8]? = some (ptr gc) := (ha.rest 8 (by kernel_rfl)).trans rfl
              exact ⟨rfl, .inl ⟨wanted_some rfl rfl rfl e2, wp_val (run_qfield1 rfl (ev_tmp eo8)) ⟨rfl, Below.refl _ _⟩⟩⟩
            · intro a' w' ha hs hw hold
              have e2 : a'.tmps[64]? = some (Value.bool true) := Rg.slot_get rfl rfl (hw 2 (by kernel_rfl) _ rfl)
              have e5 : a'.tmps[67]? = some (.pointer (some ⟨gc, 2, none⟩)) := Rg.slot_get rfl rfl (hw 5 (by kernel_rfl) _ rfl)
              exact ⟨rfl, .inl ⟨wanted_some rfl rfl rfl e2, wp_val (run_qload1 rfl (ev_tmp e5) (QXc.out.bel hs (by simp))) ⟨rfl, Below.refl _ _⟩⟩⟩
            · intro a' w' ha hs hw hold
              have e2 : a'.tmps[64]? = some (Value.bool true) := Rg.slot_get rfl rfl (hw 2 (by kernel_rfl) _ rfl)
              obtain ⟨v4, e4, q4⟩ := hw 4 (by kernel_rfl) _ rfl
              replace e4 : a'.tmps[66]? = some v4 := Rg.slot_get rfl rfl e4
              have e6 : a'.tmps[68]? = some (.agg #[.bool scd, .slice Xcd pcd qcd]) := Rg.slot_get rfl rfl (hw 6 (by kernel_rfl) _ rfl)
              exact ⟨rfl, .inl ⟨wanted_some rfl rfl rfl e2, call_step rfl Tryz.func35 (by kernel_rfl) rfl (map_two (ev_tmp e4) (ev_tmp e6)) (cmp_is _ _ d (c.den : Int) (-1) _ q4 (IVdc.out.kn hs.kn) (Sz.small (by have := DH.out; omega) (by have := DH.out; omega) |>.mono (by decide)) (SC.out.den.mono (by decide)) (cmpZ_lt DC.out)) (fun e w2 he => by obtain ⟨rfl, hb⟩ := he; exact ⟨_, rfl, rfl, hb⟩)⟩⟩
            · intro a' w' ha hs hw hold
              have e2 : a'.tmps[64]? = some (Value.bool true) := Rg.slot_get rfl rfl (hw 2 (by kernel_rfl) _ rfl)
              have e7 : a'.tmps[69]? = some (Value.int IntKind.i64 (-1)) := Rg.slot_get rfl rfl (hw 7 (by kernel_rfl) _ rfl)
              exact ⟨rfl, .inl ⟨wanted_some rfl rfl rfl e2, wp_val (show _ = _ from (run_lss_int rfl (ev_tmp e7) rfl).trans (by rfl)) ⟨rfl, Below.refl _ _⟩⟩⟩
            · intro a' w' ha hs hw hold
              have e2 : a'.tmps[64]? = some (Value.bool true) := Rg.slot_get rfl rfl (hw 2 (by kernel_rfl) _ rfl)
              have e8 : a'.tmps[70]? = some (Value.bool true) := Rg.slot_get rfl rfl (hw 8 (by kernel_rfl) _ rfl)
              exact ⟨rfl, .inl ⟨wanted_none rfl, wp_val (run_pick (b := true) rfl (ev_tmp e2) (ev_tmp e8)) ⟨rfl, Below.refl _ _⟩⟩⟩
          simp only [Rg.allG]
          intro r57x4 _
          simp only [setOpt, Rg.setOpt, List.set_cons_succ, List.set_cons_zero]
          refine hK _ _ ?_
          clear hK K
          replace hs := hs.below
          replace QXa := Lib.hid (QXa.out.next hs rfl); replace IVna := Lib.hid (iv_next IVna.out hs rfl); replace IVda := Lib.hid (iv_next IVda.out hs rfl)
          replace QXb := Lib.hid (QXb.out.next hs rfl); replace IVnb := Lib.hid (iv_next IVnb.out hs rfl); replace IVdb := Lib.hid (iv_next IVdb.out hs rfl)
          replace QXc := Lib.hid (QXc.out.next hs rfl); replace IVnc := Lib.hid (iv_next IVnc.out hs rfl); replace IVdc := Lib.hid (iv_next IVdc.out hs rfl)
          replace BL := Lib.hid (link_below BL.out hs (by have := BL.out.size; omega) rfl rfl rfl rfl)
          replace DW := Lib.hid (link_below DW.out hs (by have := DW.out.size; have := hg.out; omega) rfl rfl rfl rfl)
          clear hs
          go_upto_region 16 with fail
          have u58a := QXb.out.cell0; have u58b := QXb.out.cell1; have u58c := QXb.out.cell2; have u58d := QXb.out.cell3
          have u59a := QXa.out.cell0; have u59b := QXa.out.cell1; have u59c := QXa.out.cell2; have u59d := QXa.out.cell3
          go_wp2_with fail
          clear u58a u58b u58c u58d u59a u59b u59c u59d
          refine (empty_true _ _ b a c d _ (qv_of IVnb.out IVdb.out) (SB.out.mono (show 7 ≤ 1000 by decide)) (qv_of IVna.out IVda.out) (SA.out.mono (show 7 ≤ 1000 by decide)) KL.out DH.out DC.out).mono ?_
          rintro e y60 ⟨rfl, hb⟩
          replace QXa := Lib.hid (QXa.out.next hb rfl); replace IVna := Lib.hid (iv_next IVna.out hb rfl); replace IVda := Lib.hid (iv_next IVda.out hb rfl)
          replace QXb := Lib.hid (QXb.out.next hb rfl); replace IVnb := Lib.hid (iv_next IVnb.out hb rfl); replace IVdb := Lib.hid (iv_next IVdb.out hb rfl)
          replace QXc := Lib.hid (QXc.out.next hb rfl); replace IVnc := Lib.hid (iv_next IVnc.out hb rfl); replace IVdc := Lib.hid (iv_next IVdc.out hb rfl)
          replace BL := Lib.hid (link_below BL.out hb (by have := BL.out.size; omega) rfl rfl rfl rfl)
          replace DW := Lib.hid (link_below DW.out hb (by have := DW.out.size; have := hg.out; omega) rfl rfl rfl rfl)
          clear hb
          go_wp2
          go_roundw
          case rel => exact ⟨d + 1, by omega, by omega, rfl, BL.out⟩
          case measure => simp [intOf]; omega
        case' neg =>
          have DH : Hid (1 ≤ d ∧ d ≤ 40) := ⟨hd1, h40⟩
          have DC : Hid (¬ d < c.den) := hdc
          obtain ⟨o, ho⟩ : ∃ o, cmpZ d (c.den : Int) = o := ⟨_, rfl⟩
          have WO : Hid (¬ o < 0) := by
            rw [← ho]; unfold cmpZ; rw [if_neg DC.out]; split <;> (unfold Hid; omega)
          replace ho := Lib.hid ho
          go_upto_region 14 with fail
          refine Rg.region_gg wr [.is (Value.int IntKind.i64 d), .is (Value.bool true), .is (Value.bool true), .is (Value.int IntKind.i64 d), .sat (pIv (d)) (pIv_keep _), .is (.pointer (some ⟨gc, 2, none⟩)), .is (.agg #[.bool scd, .slice Xcd pcd qcd]), .is (Value.int IntKind.i64 o), .is (Value.bool false), .is (Value.bool false)] [] [some 62, some 63, some 64, some 65, some 66, some 67, some 68, some 69, some 70, some 71] (by kernel_rfl) (by kernel_rfl) (by kernel_rfl) (by kernel_rfl) (by kernel_rfl) (by simp [Rg.stos]) (by rfl) (by rfl) (by kernel_rfl) (by simp) ((Below.refl _ _).drew) (fun Q' => ?_) (fun K hK wn hs => ?_)
          · refine ⟨?_, ?_, ?_, ?_, ?_, ?_, ?_, ?_, ?_, ?_, trivial⟩
            · intro a' w' ha hs hw hold
              have eo10 : a'.tmps[10]? = some (Value.int IntKind.i64 d) := (ha.rest 10 (by kernel_rfl)).trans rfl
              exact ⟨rfl, .inl ⟨wanted_none rfl, wp_val (run_move rfl (ev_tmp eo10)) ⟨rfl, Below.refl _ _⟩⟩⟩
            · intro a' w' ha hs hw hold
              have e0 : a'.tmps[62]? = some (Value.int IntKind.i64 d) := Rg.slot_get rfl rfl (hw 0 (by kernel_rfl) _ rfl)
              exact ⟨rfl, .inl ⟨wanted_none rfl, wp_val (run_leqT rfl (ev_tmp e0) rfl DH.out.2) ⟨rfl, Below.refl _ _⟩⟩⟩
            · intro a' w' ha hs hw hold
              have e1 : a'.tmps[63]? = some (Value.bool true) := Rg.slot_get rfl rfl (hw 1 (by kernel_rfl) _ rfl)
              exact ⟨rfl, .inl ⟨wanted_none rfl, wp_val (run_move rfl (ev_tmp e1)) ⟨rfl, Below.refl _ _⟩⟩⟩
            · intro a' w' ha hs hw hold
              have e2 : a'.tmps[64]? = some (Value.bool true) := Rg.slot_get rfl rfl (hw 2 (by kernel_rfl) _ rfl)
              have eo10 : a'.tmps[10]? = some (Value.int IntKind.i64 d) := (ha.rest 10 (by kernel_rfl)).trans rfl
              exact ⟨rfl, .inl ⟨wanted_some rfl rfl rfl e2, wp_val (run_move rfl (ev_tmp eo10)) ⟨rfl, Below.refl _ _⟩⟩⟩
            · intro a' w' ha hs hw hold
              have e2 : a'.tmps[64]? = some (Value.bool true) := Rg.slot_get rfl rfl (hw 2 (by kernel_rfl) _ rfl)
              have e3 : a'.tmps[65]? = some (Value.int IntKind.i64 d) := Rg.slot_get rfl rfl (hw 3 (by kernel_rfl) _ rfl)
              exact ⟨rfl, wanted_some rfl rfl rfl e2, call_step rfl Tryz.func55 (by kernel_rfl) rfl (map_one (ev_tmp e3)) (of_any d _ (by have := DH.out; omega) (by have := DH.out; omega)) (fun e w2 he => by obtain ⟨v, rfl, hv, hb⟩ := he; exact ⟨v, rfl, v, rfl, hv, hb⟩)⟩
            · intro a' w' ha hs hw hold
              have e2 : a'.tmps[64]? = some (Value.bool true) := Rg.slot_get rfl rfl (hw 2 (by kernel_rfl) _ rfl)
              have eo8 : a'.tmps[8]? = some (ptr gc) := (ha.rest 8 (by kernel_rfl)).trans rfl
              exact ⟨rfl, .inl ⟨wanted_some rfl rfl rfl e2, wp_val (run_qfield1 rfl (ev_tmp eo8)) ⟨rfl, Below.refl _ _⟩⟩⟩
            · intro a' w' ha hs hw hold
              have e2 : a'.tmps[64]? = some (Value.bool true) := Rg.slot_get rfl rfl (hw 2 (by kernel_rfl) _ rfl)
              have e5 : a'.tmps[67]? = some (.pointer (some ⟨gc, 2, none⟩)) := Rg.slot_get rfl rfl (hw 5 (by kernel_rfl) _ rfl)
              exact ⟨rfl, .inl ⟨wanted_some rfl rfl rfl e2, wp_val (run_qload1 rfl (ev_tmp e5) (QXc.out.bel hs (by simp))) ⟨rfl, Below.refl _ _⟩⟩⟩
            · intro a' w' ha hs hw hold
              have e2 : a'.tmps[64]? = some (Value.bool true) := Rg.slot_get rfl rfl (hw 2 (by kernel_rfl) _ rfl)
              obtain ⟨v4, e4, q4⟩ := hw 4 (by kernel_rfl) _ rfl
              replace e4 : a'.tmps[66]? = some v4 := Rg.slot_get rfl rfl e4
              have e6 : a'.tmps[68]? = some (.agg #[.bool scd, .slice Xcd pcd qcd]) := Rg.slot_get rfl rfl (hw 6 (by kernel_rfl) _ rfl)
              exact ⟨rfl, .inl ⟨wanted_some rfl rfl rfl e2, call_step rfl Tryz.func35 (by kernel_rfl) rfl (map_two (ev_tmp e4) (ev_tmp e6)) (cmp_is _ _ d (c.den : Int) o _ q4 (IVdc.out.kn hs.kn) (Sz.small (by have := DH.out; omega) (by have := DH.out; omega) |>.mono (by decide)) (SC.out.den.mono (by decide)) ho.out) (fun e w2 he => by obtain ⟨rfl, hb⟩ := he; exact ⟨_, rfl, rfl, hb⟩)⟩⟩
            · intro a' w' ha hs hw hold
              have e2 : a'.tmps[64]? = some (Value.bool true) := Rg.slot_get rfl rfl (hw 2 (by kernel_rfl) _ rfl)
              have e7 : a'.tmps[69]? = some (Value.int IntKind.i64 o) := Rg.slot_get rfl rfl (hw 7 (by kernel_rfl) _ rfl)
              exact ⟨rfl, .inl ⟨wanted_some rfl rfl rfl e2, wp_val (run_lssF rfl (ev_tmp e7) rfl WO.out) ⟨rfl, Below.refl _ _⟩⟩⟩
            · intro a' w' ha hs hw hold
              have e2 : a'.tmps[64]? = some (Value.bool true) := Rg.slot_get rfl rfl (hw 2 (by kernel_rfl) _ rfl)
              have e8 : a'.tmps[70]? = some (Value.bool false) := Rg.slot_get rfl rfl (hw 8 (by kernel_rfl) _ rfl)
              exact ⟨rfl, .inl ⟨wanted_none rfl, wp_val (run_pick (b := true) rfl (ev_tmp e2) (ev_tmp e8)) ⟨rfl, Below.refl _ _⟩⟩⟩
          simp only [Rg.allG]
          intro r57x4 _
          simp only [setOpt, Rg.setOpt, List.set_cons_succ, List.set_cons_zero]
          refine hK _ _ ?_
          clear hK K
          replace hs := hs.below
          replace QXa := Lib.hid (QXa.out.next hs rfl); replace IVna := Lib.hid (iv_next IVna.out hs rfl); replace IVda := Lib.hid (iv_next IVda.out hs rfl)
          replace QXb := Lib.hid (QXb.out.next hs rfl); replace IVnb := Lib.hid (iv_next IVnb.out hs rfl); replace IVdb := Lib.hid (iv_next IVdb.out hs rfl)
          replace QXc := Lib.hid (QXc.out.next hs rfl); replace IVnc := Lib.hid (iv_next IVnc.out hs rfl); replace IVdc := Lib.hid (iv_next IVdc.out hs rfl)
          replace BL := Lib.hid (link_below BL.out hs (by have := BL.out.size; omega) rfl rfl rfl rfl)
          replace DW := Lib.hid (link_below DW.out hs (by have := DW.out.size; have := hg.out; omega) rfl rfl rfl rfl)
          clear hs
          go_upto_region 18 with fail
          clear DH DC ho WO hdc hd1 hd2 h40
      case' neg =>
        have DH : Hid (¬ d ≤ 40) := h40
        go_upto_region 14 with fail
        refine Rg.region_gg wr [.is (Value.int IntKind.i64 d), .is (Value.bool false), .is (Value.bool false), .is (undef), .is (undef), .is (undef), .is (undef), .is (undef), .is (undef), .is (Value.bool false)] [] [some 62, some 63, some 64, some 65, some 66, some 67, some 68, some 69, some 70, some 71] (by kernel_rfl) (by kernel_rfl) (by kernel_rfl) (by kernel_rfl) (by kernel_rfl) (by simp [Rg.stos]) (by rfl) (by rfl) (by kernel_rfl) (by simp) ((Below.refl _ _).drew) (fun Q' => ?_) (fun K hK wn hs => ?_)
        · refine ⟨?_, ?_, ?_, ?_, ?_, ?_, ?_, ?_, ?_, ?_, trivial⟩
          · intro a' w' ha hs hw hold
            have eo10 : a'.tmps[10]? = some (Value.int IntKind.i64 d) := (ha.rest 10 (by kernel_rfl)).trans rfl
            exact ⟨rfl, .inl ⟨wanted_none rfl, wp_val (run_move rfl (ev_tmp eo10)) ⟨rfl, Below.refl _ _⟩⟩⟩
          · intro a' w' ha hs hw hold
            have e0 : a'.tmps[62]? = some (Value.int IntKind.i64 d) := Rg.slot_get rfl rfl (hw 0 (by kernel_rfl) _ rfl)
            exact ⟨rfl, .inl ⟨wanted_none rfl, wp_val (run_leqF rfl (ev_tmp e0) rfl DH.out) ⟨rfl, Below.refl _ _⟩⟩⟩
          · intro a' w' ha hs hw hold
            have e1 : a'.tmps[63]? = some (Value.bool false) := Rg.slot_get rfl rfl (hw 1 (by kernel_rfl) _ rfl)
            exact ⟨rfl, .inl ⟨wanted_none rfl, wp_val (run_move rfl (ev_tmp e1)) ⟨rfl, Below.refl _ _⟩⟩⟩
          · intro a' w' ha hs hw hold
            have e2 : a'.tmps[64]? = some (Value.bool false) := Rg.slot_get rfl rfl (hw 2 (by kernel_rfl) _ rfl)
            exact ⟨rfl, .inr ⟨wanted_off rfl rfl rfl e2 (by decide), rfl⟩⟩
          · intro a' w' ha hs hw hold
            have e2 : a'.tmps[64]? = some (Value.bool false) := Rg.slot_get rfl rfl (hw 2 (by kernel_rfl) _ rfl)
            exact ⟨rfl, .inr ⟨wanted_off rfl rfl rfl e2 (by decide), rfl⟩⟩
          · intro a' w' ha hs hw hold
            have e2 : a'.tmps[64]? = some (Value.bool false) := Rg.slot_get rfl rfl (hw 2 (by kernel_rfl) _ rfl)
            exact ⟨rfl, .inr ⟨wanted_off rfl rfl rfl e2 (by decide), rfl⟩⟩
          · intro a' w' ha hs hw hold
            have e2 : a'.tmps[64]? = some (Value.bool false) := Rg.slot_get rfl rfl (hw 2 (by kernel_rfl) _ rfl)
            exact ⟨rfl, .inr ⟨wanted_off rfl rfl rfl e2 (by decide), rfl⟩⟩
          · intro a' w' ha hs hw hold
            have e2 : a'.tmps[64]? = some (Value.bool false) := Rg.slot_get rfl rfl (hw 2 (by kernel_rfl) _ rfl)
            exact ⟨rfl, .inr ⟨wanted_off rfl rfl rfl e2 (by decide), rfl⟩⟩
          · intro a' w' ha hs hw hold
            have e2 : a'.tmps[64]? = some (Value.bool false) := Rg.slot_get rfl rfl (hw 2 (by kernel_rfl) _ rfl)
            exact ⟨rfl, .inr ⟨wanted_off rfl rfl rfl e2 (by decide), rfl⟩⟩
          · intro a' w' ha hs hw hold
            have e2 : a'.tmps[64]? = some (Value.bool false) := Rg.slot_get rfl rfl (hw 2 (by kernel_rfl) _ rfl)
            exact ⟨rfl, .inl ⟨wanted_none rfl, wp_val (run_pick (b := false) rfl (ev_tmp e2) rfl) ⟨rfl, Below.refl _ _⟩⟩⟩
        simp only [Rg.allG]
        simp only [setOpt, Rg.setOpt, List.set_cons_succ, List.set_cons_zero]
        refine hK _ _ ?_
        clear hK K
        replace hs := hs.below
        replace QXa := Lib.hid (QXa.out.next hs rfl); replace IVna := Lib.hid (iv_next IVna.out hs rfl); replace IVda := Lib.hid (iv_next IVda.out hs rfl)
        replace QXb := Lib.hid (QXb.out.next hs rfl); replace IVnb := Lib.hid (iv_next IVnb.out hs rfl); replace IVdb := Lib.hid (iv_next IVdb.out hs rfl)
        replace QXc := Lib.hid (QXc.out.next hs rfl); replace IVnc := Lib.hid (iv_next IVnc.out hs rfl); replace IVdc := Lib.hid (iv_next IVdc.out hs rfl)
        replace BL := Lib.hid (link_below BL.out hs (by have := BL.out.size; omega) rfl rfl rfl rfl)
        replace DW := Lib.hid (link_below DW.out hs (by have := DW.out.size; have := hg.out; omega) rfl rfl rfl rfl)
        clear hs
        go_upto_region 18 with fail
        clear DH hd1 hd2 h40
      all_goals
        obtain ⟨m, hm⟩ : ∃ m, sg c.num = m := ⟨_, rfl⟩
        obtain ⟨e, ee⟩ : ∃ e, Rat.divInt (sg c.num) c.den = e := ⟨_, rfl⟩
        have HEN : Hid (e.num = sg c.num) := ee ▸ (unit_is c).1
        have HED : Hid ((e.den : Int) = c.den) := ee ▸ (unit_is c).2
        have WM : Hid (m = -1 ∨ m = 0 ∨ m = 1) := by rw [← hm]; have := cq_cases c 0; rwa [← sg_cq] at this
        have HEM : Hid (e.num = m) := HEN.out.trans hm
        have SE : Hid (Sr e 7) := ⟨by rw [HEM.out]; exact (Sz.small (by have := WM.out; omega) (by have := WM.out; omega)).mono (by decide), by rw [HED.out]; exact SC.out.den⟩
        replace hm := Lib.hid hm
        clear ee
        have QVc : Hid (Qv wn (.agg #[.bool scn, .slice Xcn pcn qcn, .bool scd, .slice Xcd pcd qcd]) (c.num) ((c.den : Int))) := qv_of IVnc.out IVdc.out
        refine Rg.region_gg wn [.is (.agg #[.bool scn, .slice Xcn pcn qcn, .bool scd, .slice Xcd pcd qcd]), .is (.agg #[.bool scn, .slice Xcn pcn qcn, .bool scd, .slice Xcd pcd qcd]), .is (Value.int IntKind.i64 (m)), .sat (pIv (e.num)) (pIv_keep _), .is (.pointer (some ⟨gc, 2, none⟩)), .is (.agg #[.bool scd, .slice Xcd pcd qcd]), .sat (pQv (e.num) ((c.den : Int))) (pQv_keep _ _), .sat (pQv ((c - e).num) (((c - e).den : Int))) (pQv_keep _ _), .own pNewQ pNewQ_keep, .put 8 (pPutQ ((c - e).num) (((c - e).den : Int))) (pPutQ_keep _ _)] [] [some 79, some 80, some 81, some 82, some 83, some 84, some 85, some 86, some 11, none] (by kernel_rfl) (by kernel_rfl) (by kernel_rfl) (by kernel_rfl) (by kernel_rfl) (by simp [Rg.stos]) (by rfl) (by rfl) (by kernel_rfl) (by simp) ((Below.refl _ _).drew) (fun Q' => ?_) (fun K hK wn hs => ?_)
        · refine ⟨?_, ?_, ?_, ?_, ?_, ?_, ?_, ?_, ?_, ?_, trivial⟩
          · intro a' w' ha hs hw hold
            have eo8 : a'.tmps[8]? = some (ptr gc) := (ha.rest 8 (by kernel_rfl)).trans rfl
            exact ⟨rfl, .inl ⟨wanted_none rfl, wp_val (run_qload rfl (ev_tmp eo8) (QXc.out.bel hs (by simp))) ⟨rfl, Below.refl _ _⟩⟩⟩
          · intro a' w' ha hs hw hold
            have eo8 : a'.tmps[8]? = some (ptr gc) := (ha.rest 8 (by kernel_rfl)).trans rfl
            exact ⟨rfl, .inl ⟨wanted_none rfl, wp_val (run_qload rfl (ev_tmp eo8) (QXc.out.bel hs (by simp))) ⟨rfl, Below.refl _ _⟩⟩⟩
          · intro a' w' ha hs hw hold
            have e1 : a'.tmps[80]? = some (.agg #[.bool scn, .slice Xcn pcn qcn, .bool scd, .slice Xcd pcd qcd]) := Rg.slot_get rfl rfl (hw 1 (by kernel_rfl) _ rfl)
            exact ⟨rfl, .inl ⟨wanted_none rfl, call_step rfl Tryz.func37 (by kernel_rfl) rfl (map_one (ev_tmp e1)) (qsign_is _ c (m) _ (QVc.out.kn hs.kn) (SC.out.mono (show 7 ≤ 1000000 by decide)) (hm.out)) (fun e w2 he => by obtain ⟨rfl, hb⟩ := he; exact ⟨_, rfl, rfl, hb⟩)⟩⟩
          · intro a' w' ha hs hw hold
            have e2 : a'.tmps[81]? = some (Value.int IntKind.i64 (m)) := Rg.slot_get rfl rfl (hw 2 (by kernel_rfl) _ rfl)
            exact ⟨rfl, wanted_none rfl, call_step rfl Tryz.func55 (by kernel_rfl) rfl (map_one (ev_tmp e2)) (ofm_is m e _ HEM.out WM.out) (fun e w2 he => by obtain ⟨v, rfl, hv, hb⟩ := he; exact ⟨v, rfl, v, rfl, hv, hb⟩)⟩
          · intro a' w' ha hs hw hold
            have eo8 : a'.tmps[8]? = some (ptr gc) := (ha.rest 8 (by kernel_rfl)).trans rfl
            exact ⟨rfl, .inl ⟨wanted_none rfl, wp_val (run_qfield1 rfl (ev_tmp eo8)) ⟨rfl, Below.refl _ _⟩⟩⟩
          · intro a' w' ha hs hw hold
            have e4 : a'.tmps[83]? = some (.pointer (some ⟨gc, 2, none⟩)) := Rg.slot_get rfl rfl (hw 4 (by kernel_rfl) _ rfl)
            exact ⟨rfl, .inl ⟨wanted_none rfl, wp_val (run_qload1 rfl (ev_tmp e4) (QXc.out.bel hs (by simp))) ⟨rfl, Below.refl _ _⟩⟩⟩
          · intro a' w' ha hs hw hold
            obtain ⟨v3, e3, q3⟩ := hw 3 (by kernel_rfl) _ rfl
            replace e3 : a'.tmps[82]? = some v3 := Rg.slot_get rfl rfl e3
            have e5 : a'.tmps[84]? = some (.agg #[.bool scd, .slice Xcd pcd qcd]) := Rg.slot_get rfl rfl (hw 5 (by kernel_rfl) _ rfl)
            exact ⟨rfl, wanted_none rfl, step_build rfl (ev_tmp e3) (ev_tmp e5) q3 (IVdc.out.kn hs.kn)⟩
          · intro a' w' ha hs hw hold
            have e0 : a'.tmps[79]? = some (.agg #[.bool scn, .slice Xcn pcn qcn, .bool scd, .slice Xcd pcd qcd]) := Rg.slot_get rfl rfl (hw 0 (by kernel_rfl) _ rfl)
            obtain ⟨v6, e6, q6⟩ := hw 6 (by kernel_rfl) _ rfl
            replace e6 : a'.tmps[85]? = some v6 := Rg.slot_get rfl rfl e6
            exact ⟨rfl, wanted_none rfl, call_step rfl Tryz.func19 (by kernel_rfl) rfl (map_two (ev_tmp e0) (ev_tmp e6)) (qsub_any _ _ c e _ (QVc.out.kn hs.kn) (SC.out.mono (by decide)) (qv_den HED.out q6) (SE.out.mono (by decide))) (fun e w2 he => by obtain ⟨v, rfl, hv, hb⟩ := he; exact ⟨v, rfl, v, rfl, hv, hb⟩)⟩
          · intro a' w' ha hs hw hold
            exact ⟨rfl, wanted_none rfl, step_newq rfl⟩
          · intro a' w' ha hs hw hold
            obtain ⟨v7, e7, q7⟩ := hw 7 (by kernel_rfl) _ rfl
            replace e7 : a'.tmps[86]? = some v7 := Rg.slot_get rfl rfl e7
            refine ⟨rfl, wanted_none rfl, by kernel_rfl, fun pv pg pp ph pe1 pe2 pe3 pe4 => ?_⟩
            cases pe1
            exact step_putq rfl rfl (ev_tmp (Rg.slot_get rfl rfl pe2)) (ev_tmp e7) pe3 pe4 q7
        simp only [Rg.allG]
        intro r61x3 _
        intro r61x6 _
        intro r61x7 _
        intro a61x8 gb61x8 hE61x8 hB61x8 _ hN61x8 _
        intro v61 he hp
        simp only [List.nil_append, List.cons_append, List.getElem?_cons_succ, List.getElem?_cons_zero, Option.some.injEq] at he
        subst he
        obtain ⟨gn, rfl, Xnn, pnn, qnn, Xnd, pnd, qnd, QXn, IVnn, IVdn⟩ := hp
        simp only [setOpt, Rg.setOpt, List.set_cons_succ, List.set_cons_zero, ptr]
        refine hK _ _ ?_
        clear hK K
        replace hs := hs.below
        have hgb : gn = gb61x8 := Option.some.inj hE61x8
        clear hgb
        clear hE61x8 hB61x8 hN61x8
        replace QXa := Lib.hid (QXa.out.next hs rfl); replace IVna := Lib.hid (iv_next IVna.out hs rfl); replace IVda := Lib.hid (iv_next IVda.out hs rfl)
        replace QXb := Lib.hid (QXb.out.next hs rfl); replace IVnb := Lib.hid (iv_next IVnb.out hs rfl); replace IVdb := Lib.hid (iv_next IVdb.out hs rfl)
        replace QXc := Lib.hid (QXc.out.next hs rfl); replace IVnc := Lib.hid (iv_next IVnc.out hs rfl); replace IVdc := Lib.hid (iv_next IVdc.out hs rfl)
        replace BL := Lib.hid (link_below BL.out hs (by have := BL.out.size; omega) rfl rfl rfl rfl)
        replace DW := Lib.hid (link_below DW.out hs (by have := DW.out.size; have := hg.out; omega) rfl rfl rfl rfl)
        generalize hsg : decide (((c - e).num : Int) < 0) = snn at *
        clear hsg
        generalize hsg : decide ((((c - e).den : Int) : Int) < 0) = snd at *
        clear hsg
        replace QXn := Lib.hid QXn; replace IVnn := Lib.hid IVnn; replace IVdn := Lib.hid IVdn
        clear hs
        go_upto_region 19 with fail
        have u62a := QXn.out.cell0; have u62b := QXn.out.cell1; have u62c := QXn.out.cell2; have u62d := QXn.out.cell3
        go_wp2_with fail
        clear u62a u62b u62c u62d
        refine (valid_is _ (c - e) _ (qv_of IVnn.out IVdn.out) ((SC.out.sub SE.out).mono (by decide))).mono ?_
        rintro e y63 ⟨rfl, hb⟩
        replace QXa := Lib.hid (QXa.out.next hb rfl); replace IVna := Lib.hid (iv_next IVna.out hb rfl); replace IVda := Lib.hid (iv_next IVda.out hb rfl)
        replace QXb := Lib.hid (QXb.out.next hb rfl); replace IVnb := Lib.hid (iv_next IVnb.out hb rfl); replace IVdb := Lib.hid (iv_next IVdb.out hb rfl)
        replace QXc := Lib.hid (QXc.out.next hb rfl); replace IVnc := Lib.hid (iv_next IVnc.out hb rfl); replace IVdc := Lib.hid (iv_next IVdc.out hb rfl)
        replace QXn := Lib.hid (QXn.out.next hb rfl); replace IVnn := Lib.hid (iv_next IVnn.out hb rfl); replace IVdn := Lib.hid (iv_next IVdn.out hb rfl)
        replace BL := Lib.hid (link_below BL.out hb (by have := BL.out.size; omega) rfl rfl rfl rfl)
        replace DW := Lib.hid (link_below DW.out hb (by have := DW.out.size; have := hg.out; omega) rfl rfl rfl rfl)
        clear hb
        have u64a := QXc.out.cell0; have u64b := QXc.out.cell1; have u64c := QXc.out.cell2; have u64d := QXc.out.cell3
        go_wp2_with fail
        clear u64a u64b u64c u64d
        refine (qsign_is _ c m _ (qv_of IVnc.out IVdc.out) (SC.out.mono (show 7 ≤ 1000000 by decide)) hm.out).mono ?_
        rintro e y65 ⟨rfl, hb⟩
        replace QXa := Lib.hid (QXa.out.next hb rfl); replace IVna := Lib.hid (iv_next IVna.out hb rfl); replace IVda := Lib.hid (iv_next IVda.out hb rfl)
        replace QXb := Lib.hid (QXb.out.next hb rfl); replace IVnb := Lib.hid (iv_next IVnb.out hb rfl); replace IVdb := Lib.hid (iv_next IVdb.out hb rfl)
        replace QXc := Lib.hid (QXc.out.next hb rfl); replace IVnc := Lib.hid (iv_next IVnc.out hb rfl); replace IVdc := Lib.hid (iv_next IVdc.out hb rfl)
        replace QXn := Lib.hid (QXn.out.next hb rfl); replace IVnn := Lib.hid (iv_next IVnn.out hb rfl); replace IVdn := Lib.hid (iv_next IVdn.out hb rfl)
        replace BL := Lib.hid (link_below BL.out hb (by have := BL.out.size; omega) rfl rfl rfl rfl)
        replace DW := Lib.hid (link_below DW.out hb (by have := DW.out.size; have := hg.out; omega) rfl rfl rfl rfl)
        clear hb
        by_cases hm0 : m = 0
        case' pos =>
          have dm : (m != 0) = false := by rw [hm0]; rfl
          have dm1 : (m == 0) = true := by rw [hm0]; rfl
          go_upto_region 21 with fail
          clear dm dm1 hm0
          generalize hwj : y65 = WJ at *
          clear hwj
        case' neg =>
          have dm : (m != 0) = true := by simpa using hm0
          have HM0 : Hid (m ≠ 0) := hm0
          obtain ⟨v1, hv1⟩ : ∃ v, cq b (c - e) = v := ⟨_, rfl⟩
          obtain ⟨v2, hv2⟩ : ∃ v, cq (c - e) a = v := ⟨_, rfl⟩
          have HOUT : Hid (v1 ≤ 0 → ¬ v2 ≤ 0) := by
            intro h
            rw [← hv2]
            exact next_out KL.out (by rw [hm.out]; exact HM0.out) HEN.out HED.out (by rw [hv1]; exact h)
          replace hv1 := Lib.hid hv1; replace hv2 := Lib.hid hv2
          have u66a := QXb.out.cell0; have u66b := QXb.out.cell1; have u66c := QXb.out.cell2; have u66d := QXb.out.cell3
          have u67a := QXn.out.cell0; have u67b := QXn.out.cell1; have u67c := QXn.out.cell2; have u67d := QXn.out.cell3
          go_wp2_with fail
          clear u66a u66b u66c u66d u67a u67b u67c u67d
          refine (qcmp_is _ _ b (c - e) v1 _ (qv_of IVnb.out IVdb.out) (SB.out.mono (show 7 ≤ 100000 by decide)) (qv_of IVnn.out IVdn.out) ((SC.out.sub SE.out).mono (by decide)) hv1.out).mono ?_
          rintro e y68 ⟨rfl, hb⟩
          replace QXa := Lib.hid (QXa.out.next hb rfl); replace IVna := Lib.hid (iv_next IVna.out hb rfl); replace IVda := Lib.hid (iv_next IVda.out hb rfl)
          replace QXb := Lib.hid (QXb.out.next hb rfl); replace IVnb := Lib.hid (iv_next IVnb.out hb rfl); replace IVdb := Lib.hid (iv_next IVdb.out hb rfl)
          replace QXc := Lib.hid (QXc.out.next hb rfl); replace IVnc := Lib.hid (iv_next IVnc.out hb rfl); replace IVdc := Lib.hid (iv_next IVdc.out hb rfl)
          replace QXn := Lib.hid (QXn.out.next hb rfl); replace IVnn := Lib.hid (iv_next IVnn.out hb rfl); replace IVdn := Lib.hid (iv_next IVdn.out hb rfl)
          replace BL := Lib.hid (link_below BL.out hb (by have := BL.out.size; omega) rfl rfl rfl rfl)
          replace DW := Lib.hid (link_below DW.out hb (by have := DW.out.size; have := hg.out; omega) rfl rfl rfl rfl)
          clear hb
          by_cases hv : v1 ≤ 0
          case' pos =>
            have e1 : decide (v1 ≤ 0) = true := decide_eq_true hv
            have e2 : decide (v2 ≤ 0) = false := decide_eq_false (by have := HOUT.out hv; omega)
            have u69a := QXn.out.cell0; have u69b := QXn.out.cell1; have u69c := QXn.out.cell2; have u69d := QXn.out.cell3
            have u70a := QXa.out.cell0; have u70b := QXa.out.cell1; have u70c := QXa.out.cell2; have u70d := QXa.out.cell3
            go_wp2_with fail
            clear u69a u69b u69c u69d u70a u70b u70c u70d
            refine (qcmp_is _ _ (c - e) a v2 _ (qv_of IVnn.out IVdn.out) ((SC.out.sub SE.out).mono (by decide)) (qv_of IVna.out IVda.out) (SA.out.mono (show 7 ≤ 100000 by decide)) hv2.out).mono ?_
            rintro e y71 ⟨rfl, hb⟩
            replace QXa := Lib.hid (QXa.out.next hb rfl); replace IVna := Lib.hid (iv_next IVna.out hb rfl); replace IVda := Lib.hid (iv_next IVda.out hb rfl)
            replace QXb := Lib.hid (QXb.out.next hb rfl); replace IVnb := Lib.hid (iv_next IVnb.out hb rfl); replace IVdb := Lib.hid (iv_next IVdb.out hb rfl)
            replace QXc := Lib.hid (QXc.out.next hb rfl); replace IVnc := Lib.hid (iv_next IVnc.out hb rfl); replace IVdc := Lib.hid (iv_next IVdc.out hb rfl)
            replace QXn := Lib.hid (QXn.out.next hb rfl); replace IVnn := Lib.hid (iv_next IVnn.out hb rfl); replace IVdn := Lib.hid (iv_next IVdn.out hb rfl)
            replace BL := Lib.hid (link_below BL.out hb (by have := BL.out.size; omega) rfl rfl rfl rfl)
            replace DW := Lib.hid (link_below DW.out hb (by have := DW.out.size; have := hg.out; omega) rfl rfl rfl rfl)
            clear hb
            go_upto_region 21 with fail
            clear e1 e2 hv dm
            generalize hwj : y71 = WJ at *
            clear hwj
          case' neg =>
            have e1 : decide (v1 ≤ 0) = false := decide_eq_false hv
            go_upto_region 21 with fail
            clear e1 hv dm
            generalize hwj : y68 = WJ at *
            clear hwj
        all_goals
          obtain ⟨p, hp⟩ : ∃ p, sg b.num = p := ⟨_, rfl⟩
          obtain ⟨q, hq⟩ : ∃ q, sg a.num = q := ⟨_, rfl⟩
          have bs := BSG.out
          rw [hp, hq, hm.out] at bs
          replace hp := Lib.hid hp; replace hq := Lib.hid hq
          by_cases hp0 : p ≤ 0
          · skip
            obtain ⟨z, hz⟩ : ∃ z, (m == 0) = z := ⟨_, rfl⟩
            rw [hz, decide_eq_true hp0, Bool.true_and] at bs
            replace hz := Lib.hid hz; replace bs := Lib.hid bs; replace hp0 := Lib.hid hp0
            have QVa : Hid (Qv WJ (.agg #[.bool san, .slice Xan pan qan, .bool sad, .slice Xad pad qad]) (a.num) ((a.den : Int))) := qv_of IVna.out IVda.out
            have QVb : Hid (Qv WJ (.agg #[.bool sbn, .slice Xbn pbn qbn, .bool sbd, .slice Xbd pbd qbd]) (b.num) ((b.den : Int))) := qv_of IVnb.out IVdb.out
            have QVc : Hid (Qv WJ (.agg #[.bool scn, .slice Xcn pcn qcn, .bool scd, .slice Xcd pcd qcd]) (c.num) ((c.den : Int))) := qv_of IVnc.out IVdc.out
            refine Rg.region_gg WJ [.is (.agg #[.bool scn, .slice Xcn pcn qcn, .bool scd, .slice Xcd pcd qcd]), .is (Value.int IntKind.i64 (m)), .is (Value.bool z), .is (.agg #[.bool sbn, .slice Xbn pbn qbn, .bool sbd, .slice Xbd pbd qbd]), .is (Value.int IntKind.i64 (p)), .is (Value.bool true), .is (Value.bool true), .is (.agg #[.bool san, .slice Xan pan qan, .bool sad, .slice Xad pad qad]), .is (Value.int IntKind.i64 (q)), .is (Value.bool z), .is (Value.bool z), .is (Value.bool true), .is (Value.bool true), .is (Value.bool true), .is (Value.bool true), .is (Value.bool true)] [] [some 106, some 107, some 108, some 109, some 110, some 111, some 112, some 113, some 114, some 115, some 116, some 117, some 118, some 119, some 120, some 2] (by kernel_rfl) (by kernel_rfl) (by kernel_rfl) (by kernel_rfl) (by kernel_rfl) (by simp [Rg.stos]) (by rfl) (by rfl) (by kernel_rfl) (by simp) ((Below.refl _ _).drew) (fun Q' => ?_) (fun K hK wn hs => ?_)
            · refine ⟨?_, ?_, ?_, ?_, ?_, ?_, ?_, ?_, ?_, ?_, ?_, ?_, ?_, ?_, ?_, ?_, trivial⟩
              · intro a' w' ha hs hw hold
                have eo8 : a'.tmps[8]? = some (ptr gc) := (ha.rest 8 (by kernel_rfl)).trans rfl
                exact ⟨rfl, .inl ⟨wanted_none rfl, wp_val (run_qload rfl (ev_tmp eo8) (QXc.out.bel hs (by simp))) ⟨rfl, Below.refl _ _⟩⟩⟩
              · intro a' w' ha hs hw hold
                have e0 : a'.tmps[106]? = some (.agg #[.bool scn, .slice Xcn pcn qcn, .bool scd, .slice Xcd pcd qcd]) := Rg.slot_get rfl rfl (hw 0 (by kernel_rfl) _ rfl)
                exact ⟨rfl, .inl ⟨wanted_none rfl, call_step rfl Tryz.func37 (by kernel_rfl) rfl (map_one (ev_tmp e0)) (qsign_is _ c (m) _ (QVc.out.kn hs.kn) (SC.out.mono (show 7 ≤ 1000000 by decide)) (hm.out)) (fun e w2 he => by obtain ⟨rfl, hb⟩ := he; exact ⟨_, rfl, rfl, hb⟩)⟩⟩
              · intro a' w' ha hs hw hold
                have e1 : a'.tmps[107]? = some (Value.int IntKind.i64 (m)) := Rg.slot_get rfl rfl (hw 1 (by kernel_rfl) _ rfl)
                exact ⟨rfl, .inl ⟨wanted_none rfl, wp_val (run_eqlI rfl (ev_tmp e1) rfl hz.out) ⟨rfl, Below.refl _ _⟩⟩⟩
              · intro a' w' ha hs hw hold
                have eo4 : a'.tmps[4]? = some (ptr ga) := (ha.rest 4 (by kernel_rfl)).trans rfl
                exact ⟨rfl, .inl ⟨wanted_none rfl, wp_val (run_qload rfl (ev_tmp eo4) (QXb.out.bel hs (by simp))) ⟨rfl, Below.refl _ _⟩⟩⟩
              · intro a' w' ha hs hw hold
                have e3 : a'.tmps[109]? = some (.agg #[.bool sbn, .slice Xbn pbn qbn, .bool sbd, .slice Xbd pbd qbd]) := Rg.slot_get rfl rfl (hw 3 (by kernel_rfl) _ rfl)
                exact ⟨rfl, .inl ⟨wanted_none rfl, call_step rfl Tryz.func37 (by kernel_rfl) rfl (map_one (ev_tmp e3)) (qsign_is _ b (p) _ (QVb.out.kn hs.kn) (SB.out.mono (show 7 ≤ 1000000 by decide)) (hp.out)) (fun e w2 he => by obtain ⟨rfl, hb⟩ := he; exact ⟨_, rfl, rfl, hb⟩)⟩⟩
              · intro a' w' ha hs hw hold
                have e4 : a'.tmps[110]? = some (Value.int IntKind.i64 (p)) := Rg.slot_get rfl rfl (hw 4 (by kernel_rfl) _ rfl)
                exact ⟨rfl, .inl ⟨wanted_none rfl, wp_val (run_leqT rfl (ev_tmp e4) rfl hp0.out) ⟨rfl, Below.refl _ _⟩⟩⟩
              · intro a' w' ha hs hw hold
                have e5 : a'.tmps[111]? = some (Value.bool true) := Rg.slot_get rfl rfl (hw 5 (by kernel_rfl) _ rfl)
                exact ⟨rfl, .inl ⟨wanted_none rfl, wp_val (run_move rfl (ev_tmp e5)) ⟨rfl, Below.refl _ _⟩⟩⟩
              · intro a' w' ha hs hw hold
                have e6 : a'.tmps[112]? = some (Value.bool true) := Rg.slot_get rfl rfl (hw 6 (by kernel_rfl) _ rfl)
                have eo5 : a'.tmps[5]? = some (ptr gb) := (ha.rest 5 (by kernel_rfl)).trans rfl
                exact ⟨rfl, .inl ⟨wanted_some rfl rfl rfl e6, wp_val (run_qload rfl (ev_tmp eo5) (QXa.out.bel hs (by simp))) ⟨rfl, Below.refl _ _⟩⟩⟩
              · intro a' w' ha hs hw hold
                have e6 : a'.tmps[112]? = some (Value.bool true) := Rg.slot_get rfl rfl (hw 6 (by kernel_rfl) _ rfl)
                have e7 : a'.tmps[113]? = some (.agg #[.bool san, .slice Xan pan qan, .bool sad, .slice Xad pad qad]) := Rg.slot_get rfl rfl (hw 7 (by kernel_rfl) _ rfl)
                exact ⟨rfl, .inl ⟨wanted_some rfl rfl rfl e6, call_step rfl Tryz.func37 (by kernel_rfl) rfl (map_one (ev_tmp e7)) (qsign_is _ a (q) _ (QVa.out.kn hs.kn) (SA.out.mono (show 7 ≤ 1000000 by decide)) (hq.out)) (fun e w2 he => by obtain ⟨rfl, hb⟩ := he; exact ⟨_, rfl, rfl, hb⟩)⟩⟩
              · intro a' w' ha hs hw hold
                have e6 : a'.tmps[112]? = some (Value.bool true) := Rg.slot_get rfl rfl (hw 6 (by kernel_rfl) _ rfl)
                have e8 : a'.tmps[114]? = some (Value.int IntKind.i64 (q)) := Rg.slot_get rfl rfl (hw 8 (by kernel_rfl) _ rfl)
                exact ⟨rfl, .inl ⟨wanted_some rfl rfl rfl e6, wp_val (run_geqI rfl (ev_tmp e8) rfl bs.out.symm) ⟨rfl, Below.refl _ _⟩⟩⟩
              · intro a' w' ha hs hw hold
                have e6 : a'.tmps[112]? = some (Value.bool true) := Rg.slot_get rfl rfl (hw 6 (by kernel_rfl) _ rfl)
                have e9 : a'.tmps[115]? = some (Value.bool z) := Rg.slot_get rfl rfl (hw 9 (by kernel_rfl) _ rfl)
                exact ⟨rfl, .inl ⟨wanted_none rfl, wp_val (run_pick (b := true) rfl (ev_tmp e6) (ev_tmp e9)) ⟨rfl, Below.refl _ _⟩⟩⟩
              · intro a' w' ha hs hw hold
                have e2 : a'.tmps[108]? = some (Value.bool z) := Rg.slot_get rfl rfl (hw 2 (by kernel_rfl) _ rfl)
                have e10 : a'.tmps[116]? = some (Value.bool z) := Rg.slot_get rfl rfl (hw 10 (by kernel_rfl) _ rfl)
                exact ⟨rfl, .inl ⟨wanted_none rfl, wp_val (run_eqlB rfl (ev_tmp e2) (ev_tmp e10)) ⟨rfl, Below.refl _ _⟩⟩⟩
              · intro a' w' ha hs hw hold
                have e11 : a'.tmps[117]? = some (Value.bool true) := Rg.slot_get rfl rfl (hw 11 (by kernel_rfl) _ rfl)
                exact ⟨rfl, .inl ⟨wanted_none rfl, wp_val (run_move rfl (ev_tmp e11)) ⟨rfl, Below.refl _ _⟩⟩⟩
              · intro a' w' ha hs hw hold
                have e12 : a'.tmps[118]? = some (Value.bool true) := Rg.slot_get rfl rfl (hw 12 (by kernel_rfl) _ rfl)
                have eo3 : a'.tmps[3]? = some (Value.bool true) := (ha.rest 3 (by kernel_rfl)).trans rfl
                exact ⟨rfl, .inl ⟨wanted_some rfl rfl rfl e12, wp_val (run_move rfl (ev_tmp eo3)) ⟨rfl, Below.refl _ _⟩⟩⟩
              · intro a' w' ha hs hw hold
                have e12 : a'.tmps[118]? = some (Value.bool true) := Rg.slot_get rfl rfl (hw 12 (by kernel_rfl) _ rfl)
                have e13 : a'.tmps[119]? = some (Value.bool true) := Rg.slot_get rfl rfl (hw 13 (by kernel_rfl) _ rfl)
                exact ⟨rfl, .inl ⟨wanted_none rfl, wp_val (run_pick (b := true) rfl (ev_tmp e12) (ev_tmp e13)) ⟨rfl, Below.refl _ _⟩⟩⟩
              · intro a' w' ha hs hw hold
                have e14 : a'.tmps[120]? = some (Value.bool true) := Rg.slot_get rfl rfl (hw 14 (by kernel_rfl) _ rfl)
                exact ⟨rfl, .inl ⟨wanted_none rfl, wp_val (run_assign rfl (ev_tmp e14)) ⟨rfl, Below.refl _ _⟩⟩⟩
            simp only [Rg.allG]
            simp only [setOpt, Rg.setOpt, List.set_cons_succ, List.set_cons_zero]
            refine hK _ _ ?_
            clear hK K
            replace hs := hs.below
            replace QXa := Lib.hid (QXa.out.next hs rfl); replace IVna := Lib.hid (iv_next IVna.out hs rfl); replace IVda := Lib.hid (iv_next IVda.out hs rfl)
            replace QXb := Lib.hid (QXb.out.next hs rfl); replace IVnb := Lib.hid (iv_next IVnb.out hs rfl); replace IVdb := Lib.hid (iv_next IVdb.out hs rfl)
            replace QXc := Lib.hid (QXc.out.next hs rfl); replace IVnc := Lib.hid (iv_next IVnc.out hs rfl); replace IVdc := Lib.hid (iv_next IVdc.out hs rfl)
            replace QXn := Lib.hid (QXn.out.next hs rfl); replace IVnn := Lib.hid (iv_next IVnn.out hs rfl); replace IVdn := Lib.hid (iv_next IVdn.out hs rfl)
            replace BL := Lib.hid (link_below BL.out hs (by have := BL.out.size; omega) rfl rfl rfl rfl)
            replace DW := Lib.hid (link_below DW.out hs (by have := DW.out.size; have := hg.out; omega) rfl rfl rfl rfl)
            clear hs
            go_wp2
            go_ret
            exact ⟨rfl, by rw [hg.out]; exact DW.out⟩
          · skip
            rw [decide_eq_false hp0, Bool.false_and] at bs
            replace bs := Lib.hid bs; replace hp0 : Hid (¬ p ≤ 0) := hp0
            have QVb : Hid (Qv WJ (.agg #[.bool sbn, .slice Xbn pbn qbn, .bool sbd, .slice Xbd pbd qbd]) (b.num) ((b.den : Int))) := qv_of IVnb.out IVdb.out
            have QVc : Hid (Qv WJ (.agg #[.bool scn, .slice Xcn pcn qcn, .bool scd, .slice Xcd pcd qcd]) (c.num) ((c.den : Int))) := qv_of IVnc.out IVdc.out
            refine Rg.region_gg WJ [.is (.agg #[.bool scn, .slice Xcn pcn qcn, .bool scd, .slice Xcd pcd qcd]), .is (Value.int IntKind.i64 (m)), .is (Value.bool false), .is (.agg #[.bool sbn, .slice Xbn pbn qbn, .bool sbd, .slice Xbd pbd qbd]), .is (Value.int IntKind.i64 (p)), .is (Value.bool false), .is (Value.bool false), .is (undef), .is (undef), .is (undef), .is (Value.bool false), .is (Value.bool true), .is (Value.bool true), .is (Value.bool true), .is (Value.bool true), .is (Value.bool true)] [] [some 106, some 107, some 108, some 109, some 110, some 111, some 112, some 113, some 114, some 115, some 116, some 117, some 118, some 119, some 120, some 2] (by kernel_rfl) (by kernel_rfl) (by kernel_rfl) (by kernel_rfl) (by kernel_rfl) (by simp [Rg.stos]) (by rfl) (by rfl) (by kernel_rfl) (by simp) ((Below.refl _ _).drew) (fun Q' => ?_) (fun K hK wn hs => ?_)
            · refine ⟨?_, ?_, ?_, ?_, ?_, ?_, ?_, ?_, ?_, ?_, ?_, ?_, ?_, ?_, ?_, ?_, trivial⟩
              · intro a' w' ha hs hw hold
                have eo8 : a'.tmps[8]? = some (ptr gc) := (ha.rest 8 (by kernel_rfl)).trans rfl
                exact ⟨rfl, .inl ⟨wanted_none rfl, wp_val (run_qload rfl (ev_tmp eo8) (QXc.out.bel hs (by simp))) ⟨rfl, Below.refl _ _⟩⟩⟩
              · intro a' w' ha hs hw hold
                have e0 : a'.tmps[106]? = some (.agg #[.bool scn, .slice Xcn pcn qcn, .bool scd, .slice Xcd pcd qcd]) := Rg.slot_get rfl rfl (hw 0 (by kernel_rfl) _ rfl)
                exact ⟨rfl, .inl ⟨wanted_none rfl, call_step rfl Tryz.func37 (by kernel_rfl) rfl (map_one (ev_tmp e0)) (qsign_is _ c (m) _ (QVc.out.kn hs.kn) (SC.out.mono (show 7 ≤ 1000000 by decide)) (hm.out)) (fun e w2 he => by obtain ⟨rfl, hb⟩ := he; exact ⟨_, rfl, rfl, hb⟩)⟩⟩
              · intro a' w' ha hs hw hold
                have e1 : a'.tmps[107]? = some (Value.int IntKind.i64 (m)) := Rg.slot_get rfl rfl (hw 1 (by kernel_rfl) _ rfl)
                exact ⟨rfl, .inl ⟨wanted_none rfl, wp_val (run_eqlI rfl (ev_tmp e1) rfl bs.out) ⟨rfl, Below.refl _ _⟩⟩⟩
              · intro a' w' ha hs hw hold
                have eo4 : a'.tmps[4]? = some (ptr ga) := (ha.rest 4 (by kernel_rfl)).trans rfl
                exact ⟨rfl, .inl ⟨wanted_none rfl, wp_val (run_qload rfl (ev_tmp eo4) (QXb.out.bel hs (by simp))) ⟨rfl, Below.refl _ _⟩⟩⟩
              · intro a' w' ha hs hw hold
                have e3 : a'.tmps[109]? = some (.agg #[.bool sbn, .slice Xbn pbn qbn, .bool sbd, .slice Xbd pbd qbd]) := Rg.slot_get rfl rfl (hw 3 (by kernel_rfl) _ rfl)
                exact ⟨rfl, .inl ⟨wanted_none rfl, call_step rfl Tryz.func37 (by kernel_rfl) rfl (map_one (ev_tmp e3)) (qsign_is _ b (p) _ (QVb.out.kn hs.kn) (SB.out.mono (show 7 ≤ 1000000 by decide)) (hp.out)) (fun e w2 he => by obtain ⟨rfl, hb⟩ := he; exact ⟨_, rfl, rfl, hb⟩)⟩⟩
              · intro a' w' ha hs hw hold
                have e4 : a'.tmps[110]? = some (Value.int IntKind.i64 (p)) := Rg.slot_get rfl rfl (hw 4 (by kernel_rfl) _ rfl)
                exact ⟨rfl, .inl ⟨wanted_none rfl, wp_val (run_leqF rfl (ev_tmp e4) rfl hp0.out) ⟨rfl, Below.refl _ _⟩⟩⟩
              · intro a' w' ha hs hw hold
                have e5 : a'.tmps[111]? = some (Value.bool false) := Rg.slot_get rfl rfl (hw 5 (by kernel_rfl) _ rfl)
                exact ⟨rfl, .inl ⟨wanted_none rfl, wp_val (run_move rfl (ev_tmp e5)) ⟨rfl, Below.refl _ _⟩⟩⟩
              · intro a' w' ha hs hw hold
                have e6 : a'.tmps[112]? = some (Value.bool false) := Rg.slot_get rfl rfl (hw 6 (by kernel_rfl) _ rfl)
                exact ⟨rfl, .inr ⟨wanted_off rfl rfl rfl e6 (by decide), rfl⟩⟩
              · intro a' w' ha hs hw hold
                have e6 : a'.tmps[112]? = some (Value.bool false) := Rg.slot_get rfl rfl (hw 6 (by kernel_rfl) _ rfl)
                exact ⟨rfl, .inr ⟨wanted_off rfl rfl rfl e6 (by decide), rfl⟩⟩
              · intro a' w' ha hs hw hold
                have e6 : a'.tmps[112]? = some (Value.bool false) := Rg.slot_get rfl rfl (hw 6 (by kernel_rfl) _ rfl)
                exact ⟨rfl, .inr ⟨wanted_off rfl rfl rfl e6 (by decide), rfl⟩⟩
              · intro a' w' ha hs hw hold
                have e6 : a'.tmps[112]? = some (Value.bool false) := Rg.slot_get rfl rfl (hw 6 (by kernel_rfl) _ rfl)
                exact ⟨rfl, .inl ⟨wanted_none rfl, wp_val (run_pick (b := false) rfl (ev_tmp e6) rfl) ⟨rfl, Below.refl _ _⟩⟩⟩
              · intro a' w' ha hs hw hold
                have e2 : a'.tmps[108]? = some (Value.bool false) := Rg.slot_get rfl rfl (hw 2 (by kernel_rfl) _ rfl)
                have e10 : a'.tmps[116]? = some (Value.bool false) := Rg.slot_get rfl rfl (hw 10 (by kernel_rfl) _ rfl)
                exact ⟨rfl, .inl ⟨wanted_none rfl, wp_val (run_eqlB rfl (ev_tmp e2) (ev_tmp e10)) ⟨rfl, Below.refl _ _⟩⟩⟩
              · intro a' w' ha hs hw hold
                have e11 : a'.tmps[117]? = some (Value.bool true) := Rg.slot_get rfl rfl (hw 11 (by kernel_rfl) _ rfl)
                exact ⟨rfl, .inl ⟨wanted_none rfl, wp_val (run_move rfl (ev_tmp e11)) ⟨rfl, Below.refl _ _⟩⟩⟩
              · intro a' w' ha hs hw hold
                have e12 : a'.tmps[118]? = some (Value.bool true) := Rg.slot_get rfl rfl (hw 12 (by kernel_rfl) _ rfl)
                have eo3 : a'.tmps[3]? = some (Value.bool true) := (ha.rest 3 (by kernel_rfl)).trans rfl
                exact ⟨rfl, .inl ⟨wanted_some rfl rfl rfl e12, wp_val (run_move rfl (ev_tmp eo3)) ⟨rfl, Below.refl _ _⟩⟩⟩
              · intro a' w' ha hs hw hold
                have e12 : a'.tmps[118]? = some (Value.bool true) := Rg.slot_get rfl rfl (hw 12 (by kernel_rfl) _ rfl)
                have e13 : a'.tmps[119]? = some (Value.bool true) := Rg.slot_get rfl rfl (hw 13 (by kernel_rfl) _ rfl)
                exact ⟨rfl, .inl ⟨wanted_none rfl, wp_val (run_pick (b := true) rfl (ev_tmp e12) (ev_tmp e13)) ⟨rfl, Below.refl _ _⟩⟩⟩
              · intro a' w' ha hs hw hold
                have e14 : a'.tmps[120]? = some (Value.bool true) := Rg.slot_get rfl rfl (hw 14 (by kernel_rfl) _ rfl)
                exact ⟨rfl, .inl ⟨wanted_none rfl, wp_val (run_assign rfl (ev_tmp e14)) ⟨rfl, Below.refl _ _⟩⟩⟩
            simp only [Rg.allG]
            simp only [setOpt, Rg.setOpt, List.set_cons_succ, List.set_cons_zero]
            refine hK _ _ ?_
            clear hK K
            replace hs := hs.below
            replace QXa := Lib.hid (QXa.out.next hs rfl); replace IVna := Lib.hid (iv_next IVna.out hs rfl); replace IVda := Lib.hid (iv_next IVda.out hs rfl)
            replace QXb := Lib.hid (QXb.out.next hs rfl); replace IVnb := Lib.hid (iv_next IVnb.out hs rfl); replace IVdb := Lib.hid (iv_next IVdb.out hs rfl)
            replace QXc := Lib.hid (QXc.out.next hs rfl); replace IVnc := Lib.hid (iv_next IVnc.out hs rfl); replace IVdc := Lib.hid (iv_next IVdc.out hs rfl)
            replace QXn := Lib.hid (QXn.out.next hs rfl); replace IVnn := Lib.hid (iv_next IVnn.out hs rfl); replace IVdn := Lib.hid (iv_next IVdn.out hs rfl)
            replace BL := Lib.hid (link_below BL.out hs (by have := BL.out.size; omega) rfl rfl rfl rfl)
            replace DW := Lib.hid (link_below DW.out hs (by have := DW.out.size; have := hg.out; omega) rfl rfl rfl rfl)
            clear hs
            go_wp2
            go_ret
            exact ⟨rfl, by rw [hg.out]; exact DW.out⟩
end Go.Proofs.YtfigimfdojbkeaaGreat
