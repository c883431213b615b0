/-
  The law's function empty.
-/
import Derived.Test.YtfigimfdojbkeaaGreatRatB3
import Derived.Deep.DeepCutAuto
import Derived.Handy
set_option linter.unusedSimpArgs false
set_option linter.unusedVariables false
namespace Go.Proofs.YtfigimfdojbkeaaGreat
open Go.RowKit
attribute [local go_sem ↓] Go.wp_at_zero Go.wp_at_succ

section
variable {o : Oper} {w : World} {ρ : Operand → Value} {x y : Operand} {t u : TypeId}
theorem run_lssT {k : IntKind} {m n : Int} (ho : o.op = .binOp .lss t x y u) (hx : ρ x = .int k m) (hy : ρ y = .int k n) (h : m < n) : (execOp ρ o).run Tryz.prog w = .ok (.value (.bool true)) w := by
  refine (run_lss_int ho hx hy).trans ?_
  rw [decide_eq_true h]
end

set_option maxHeartbeats 8000000 in
set_option maxRecDepth 100000 in
theorem empty_true (va vb : Value) (a b c : Rat) (d : Int) (w : World) (ha : Qv w va a.num a.den) (sa : Sr a 1000) (hb : Qv w vb b.num b.den) (sb : Sr b 1000) (k : Lst a b c) (hd : 0 < d ∧ d ≤ 40) (hdc : d < c.den) : Calls Tryz.prog 57 #[va, vb, .int .i64 d] w (RetV (.bool true) w) := by
  obtain ⟨f, ef⟩ : ∃ f : Rat, (((b * (d : Rat)).num / (b * (d : Rat)).den : Int) : Rat) = f := ⟨_, rfl⟩
  have hfn : Hid (f.num = (b * (d : Rat)).num / (b * (d : Rat)).den) := by rw [← ef]; exact Rat.num_intCast _
  have hfd : Hid ((f.den : Int) = 1) := by rw [← ef, Rat.den_intCast]; rfl
  have SD : Hid (Sr (d : Rat) 2) := Sr.whole (by omega)
  have SF : Hid (Sr f 2000) := ⟨by rw [hfn.out]; exact ((sb.mul SD.out).num.divs).mono (by omega), by rw [hfd.out]; exact szs (by omega) (by omega)⟩
  obtain ⟨u, hu⟩ : ∃ u, cq f (a * (d : Rat)) = u := ⟨_, rfl⟩
  have WU : Hid (u < 0) := by rw [← hu]; exact lst_empty k hd.1 hdc hfn.out hfd.out
  replace hu := Lib.hid hu
  have HD : Hid (-9223372036854775808 ≤ d ∧ d ≤ 9223372036854775807) := by unfold Hid; omega
  clear ef k hd hdc
  obtain ⟨Xan, pan, qan, Xad, pad, qad, rfl, han, had⟩ := ha
  have Han := Lib.hid han
  have Had := Lib.hid had
  have SRa := Lib.hid sa
  clear han had sa
  generalize hs : decide (a.num < 0) = san at *
  clear hs
  generalize hs : decide ((a.den : Int) < 0) = sad at *
  clear hs
  obtain ⟨Xbn, pbn, qbn, Xbd, pbd, qbd, rfl, hbn, hbd⟩ := hb
  have Hbn := Lib.hid hbn
  have Hbd := Lib.hid hbd
  have SRb := Lib.hid sb
  clear hbn hbd sb
  generalize hs : decide (b.num < 0) = sbn at *
  clear hs
  generalize hs : decide ((b.den : Int) < 0) = sbd at *
  clear hs

  go_enter Tryz.func57, Tryz.ntmps57
  go_wp2_with fail
  obtain ⟨W, hW⟩ : ∃ W, W = ((w.alloc (Obj.cells #[Value.bool san, Value.slice Xan pan qan, Value.bool sad, Value.slice Xad pad qad] 31)).alloc (Obj.cells #[Value.bool sbn, Value.slice Xbn pbn qbn, Value.bool sbd, Value.slice Xbd pbd qbd] 31)) := ⟨_, rfl⟩
  rw [← hW]
  have QXa : Hid (QBox W (w.heap.size) san (.slice Xan pan qan) sad (.slice Xad pad qad)) := by rw [hW]; have := (QBox.new w san (Value.slice Xan pan qan) sad (Value.slice Xad pad qad)).alloc (Obj.cells #[Value.bool sbn, Value.slice Xbn pbn qbn, Value.bool sbd, Value.slice Xbd pbd qbd] 31); simpa [Hid] using this
  have QXb : Hid (QBox W (w.heap.size + 1) sbn (.slice Xbn pbn qbn) sbd (.slice Xbd pbd qbd)) := by rw [hW]; have := QBox.new (w.alloc (Obj.cells #[Value.bool san, Value.slice Xan pan qan, Value.bool sad, Value.slice Xad pad qad] 31)) sbn (Value.slice Xbn pbn qbn) sbd (Value.slice Xbd pbd qbd); simpa [Hid] using this
  have IVna : Hid (Iv W (.agg #[.bool san, .slice Xan pan qan]) (a.num)) := by rw [hW]; exact ((Han.out).alloc _).alloc _
  have IVda : Hid (Iv W (.agg #[.bool sad, .slice Xad pad qad]) ((a.den : Int))) := by rw [hW]; exact ((Had.out).alloc _).alloc _
  have IVnb : Hid (Iv W (.agg #[.bool sbn, .slice Xbn pbn qbn]) (b.num)) := by rw [hW]; exact ((Hbn.out).alloc _).alloc _
  have IVdb : Hid (Iv W (.agg #[.bool sbd, .slice Xbd pbd qbd]) ((b.den : Int))) := by rw [hW]; exact ((Hbd.out).alloc _).alloc _
  have DW : Hid (Below w.heap.size w W) := by rw [hW]; exact ((Below.refl _ _).alloc (by simp <;> omega) _).alloc (by simp <;> omega) _
  clear hW
  generalize hg : w.heap.size = g at *
  replace hg := Lib.hid hg
  go_upto_region 1 with fail
  have QVa : Hid (Qv W (.agg #[.bool san, .slice Xan pan qan, .bool sad, .slice Xad pad qad]) (a.num) ((a.den : Int))) := qv_of IVna.out IVda.out
  have QVb : Hid (Qv W (.agg #[.bool sbn, .slice Xbn pbn qbn, .bool sbd, .slice Xbd pbd qbd]) (b.num) ((b.den : Int))) := qv_of IVnb.out IVdb.out
  refine Rg.region_gg W [.is (.agg #[.bool san, .slice Xan pan qan, .bool sad, .slice Xad pad qad]), .is (Value.int IntKind.i64 d), .sat (pQv (((d : Int) : Rat).num) ((((d : Int) : Rat).den : Int))) (pQv_keep _ _), .sat (pQv ((a * ((d : Int) : Rat)).num) (((a * ((d : Int) : Rat)).den : Int))) (pQv_keep _ _), .is (.agg #[.bool sbn, .slice Xbn pbn qbn, .bool sbd, .slice Xbd pbd qbd]), .is (Value.int IntKind.i64 d), .sat (pQv (((d : Int) : Rat).num) ((((d : Int) : Rat).den : Int))) (pQv_keep _ _), .sat (pQv ((b * ((d : Int) : Rat)).num) (((b * ((d : Int) : Rat)).den : Int))) (pQv_keep _ _), .sat (pIv (f.num)) (pIv_keep _), .own pNewQ pNewQ_keep, .own pNew pNew_keep, .put 9 (pPutQ ((a * ((d : Int) : Rat)).num) (((a * ((d : Int) : Rat)).den : Int))) (pPutQ_keep _ _), .put 10 (pPut (f.num)) (pPut_keep _)] [] [some 9, some 10, some 11, some 12, some 13, some 14, some 15, some 16, some 17, some 7, some 8, none, none] (by kernel_rfl) (by kernel_rfl) (by kernel_rfl) (by kernel_rfl) (by kernel_rfl) (by simp [Rg.stos]) (by rfl) (by rfl) (by kernel_rfl) (by simp) ((Below.refl _ _).drew) (fun Q' => ?_) (fun K hK wn hs => ?_)
  · refine ⟨?_, ?_, ?_, ?_, ?_, ?_, ?_, ?_, ?_, ?_, ?_, ?_, ?_, trivial⟩
    · intro a' w' ha hs hw hold
      have eo3 : a'.tmps[3]? = some (ptr g) := (ha.rest 3 (by kernel_rfl)).trans rfl
      exact ⟨rfl, .inl ⟨wanted_none rfl, wp_val (run_qload rfl (ev_tmp eo3) (QXa.out.bel hs (by simp))) ⟨rfl, Below.refl _ _⟩⟩⟩
    · intro a' w' ha hs hw hold
      have eo2 : a'.tmps[2]? = some (Value.int IntKind.i64 d) := (ha.rest 2 (by kernel_rfl)).trans rfl
      exact ⟨rfl, .inl ⟨wanted_none rfl, wp_val (run_move rfl (ev_tmp eo2)) ⟨rfl, Below.refl _ _⟩⟩⟩
    · intro a' w' ha hs hw hold
      have e1 : a'.tmps[10]? = some (Value.int IntKind.i64 d) := Rg.slot_get rfl rfl (hw 1 (by kernel_rfl) _ rfl)
      exact ⟨rfl, wanted_none rfl, call_step rfl Tryz.func25 (by kernel_rfl) rfl (map_one (ev_tmp e1)) (whole_any d _ HD.out.1 HD.out.2) (fun e w2 he => by obtain ⟨v, rfl, hv, hb⟩ := he; exact ⟨v, rfl, v, rfl, hv, hb⟩)⟩
    · intro a' w' ha hs hw hold
      have e0 : a'.tmps[9]? = some (.agg #[.bool san, .slice Xan pan qan, .bool sad, .slice Xad pad qad]) := Rg.slot_get rfl rfl (hw 0 (by kernel_rfl) _ rfl)
      obtain ⟨v2, e2, q2⟩ := hw 2 (by kernel_rfl) _ rfl
      replace e2 : a'.tmps[11]? = some v2 := Rg.slot_get rfl rfl e2
      exact ⟨rfl, wanted_none rfl, call_step rfl Tryz.func21 (by kernel_rfl) rfl (map_two (ev_tmp e0) (ev_tmp e2)) (qmul_any _ _ a ((d : Int) : Rat) _ (QVa.out.kn hs.kn) q2 (SRa.out.mono (show 1000 ≤ 100000 by decide)) (SD.out.mono (show 2 ≤ 100000 by decide))) (fun e w2 he => by obtain ⟨v, rfl, hv, hb⟩ := he; exact ⟨v, rfl, v, rfl, hv, hb⟩)⟩
    · intro a' w' ha hs hw hold
      have eo4 : a'.tmps[4]? = some (ptr (g + 1)) := (ha.rest 4 (by kernel_rfl)).trans rfl
      exact ⟨rfl, .inl ⟨wanted_none rfl, wp_val (run_qload rfl (ev_tmp eo4) (QXb.out.bel hs (by simp))) ⟨rfl, Below.refl _ _⟩⟩⟩
    · intro a' w' ha hs hw hold
      have eo2 : a'.tmps[2]? = some (Value.int IntKind.i64 d) := (ha.rest 2 (by kernel_rfl)).trans rfl
      exact ⟨rfl, .inl ⟨wanted_none rfl, wp_val (run_move rfl (ev_tmp eo2)) ⟨rfl, Below.refl _ _⟩⟩⟩
    · intro a' w' ha hs hw hold
      have e5 : a'.tmps[14]? = some (Value.int IntKind.i64 d) := Rg.slot_get rfl rfl (hw 5 (by kernel_rfl) _ rfl)
      exact ⟨rfl, wanted_none rfl, call_step rfl Tryz.func25 (by kernel_rfl) rfl (map_one (ev_tmp e5)) (whole_any d _ HD.out.1 HD.out.2) (fun e w2 he => by obtain ⟨v, rfl, hv, hb⟩ := he; exact ⟨v, rfl, v, rfl, hv, hb⟩)⟩
    · intro a' w' ha hs hw hold
      have e4 : a'.tmps[13]? = some (.agg #[.bool sbn, .slice Xbn pbn qbn, .bool sbd, .slice Xbd pbd qbd]) := Rg.slot_get rfl rfl (hw 4 (by kernel_rfl) _ rfl)
      obtain ⟨v6, e6, q6⟩ := hw 6 (by kernel_rfl) _ rfl
      replace e6 : a'.tmps[15]? = some v6 := Rg.slot_get rfl rfl e6
      exact ⟨rfl, wanted_none rfl, call_step rfl Tryz.func21 (by kernel_rfl) rfl (map_two (ev_tmp e4) (ev_tmp e6)) (qmul_any _ _ b ((d : Int) : Rat) _ (QVb.out.kn hs.kn) q6 (SRb.out.mono (show 1000 ≤ 100000 by decide)) (SD.out.mono (show 2 ≤ 100000 by decide))) (fun e w2 he => by obtain ⟨v, rfl, hv, hb⟩ := he; exact ⟨v, rfl, v, rfl, hv, hb⟩)⟩
    · intro a' w' ha hs hw hold
      obtain ⟨v7, e7, q7⟩ := hw 7 (by kernel_rfl) _ rfl
      replace e7 : a'.tmps[16]? = some v7 := Rg.slot_get rfl rfl e7
      exact ⟨rfl, wanted_none rfl, call_step rfl Tryz.func33 (by kernel_rfl) rfl (map_one (ev_tmp e7)) (floor_is _ (b * ((d : Int) : Rat)) f _ q7 ((SRb.out.mul SD.out).mono (by decide)) hfn.out) (fun e w2 he => by obtain ⟨v, rfl, hv, hb⟩ := he; exact ⟨v, rfl, v, rfl, hv, hb⟩)⟩
    · intro a' w' ha hs hw hold
      exact ⟨rfl, wanted_none rfl, step_newq rfl⟩
    · intro a' w' ha hs hw hold
      exact ⟨rfl, wanted_none rfl, step_new rfl⟩
    · intro a' w' ha hs hw hold
      obtain ⟨v3, e3, q3⟩ := hw 3 (by kernel_rfl) _ rfl
      replace e3 : a'.tmps[12]? = some v3 := Rg.slot_get rfl rfl e3
      refine ⟨rfl, wanted_none rfl, by kernel_rfl, fun pv pg pp ph pe1 pe2 pe3 pe4 => ?_⟩
      cases pe1
      exact step_putq rfl rfl (ev_tmp (Rg.slot_get rfl rfl pe2)) (ev_tmp e3) pe3 pe4 q3
    · intro a' w' ha hs hw hold
      obtain ⟨v8, e8, q8⟩ := hw 8 (by kernel_rfl) _ rfl
      replace e8 : a'.tmps[17]? = some v8 := Rg.slot_get rfl rfl e8
      refine ⟨rfl, wanted_none rfl, by kernel_rfl, fun pv pg pp ph pe1 pe2 pe3 pe4 => ?_⟩
      cases pe1
      exact step_put rfl rfl (ev_tmp (Rg.slot_get rfl rfl pe2)) (ev_tmp e8) pe3 pe4 q8
  simp only [Rg.allG]
  intro r1x2 _
  intro r1x3 _
  intro r1x6 _
  intro r1x7 _
  intro r1x8 _
  intro a1x9 gb1x9 hE1x9 hB1x9 _ hN1x9 _
  intro a1x10 gb1x10 hE1x10 hB1x10 _ hN1x10 _
  intro v1 he hp
  simp only [List.nil_append, List.cons_append, List.getElem?_cons_succ, List.getElem?_cons_zero, Option.some.injEq] at he
  subst he
  obtain ⟨gl, rfl, Xln, pln, qln, Xld, pld, qld, QXl, IVnl, IVdl⟩ := hp
  intro v1 he hp
  simp only [List.nil_append, List.cons_append, List.getElem?_cons_succ, List.getElem?_cons_zero, Option.some.injEq] at he
  subst he
  obtain ⟨gh, rfl, Xh, ph, qh, BXh, IVh⟩ := hp
  simp only [setOpt, Rg.setOpt, List.set_cons_succ, List.set_cons_zero, ptr]
  refine hK _ _ ?_
  clear hK K
  replace hs := hs.below
  have hgb : gl = gb1x9 := Option.some.inj hE1x9
  clear hgb
  have hgb : gh = gb1x10 := Option.some.inj hE1x10
  clear hgb
  clear hE1x9 hB1x9 hN1x9 hE1x10 hB1x10 hN1x10
  replace QXa := Lib.hid (QXa.out.next hs rfl); replace IVna := Lib.hid (iv_next IVna.out hs rfl); replace IVda := Lib.hid (iv_next IVda.out hs rfl)
  replace QXb := Lib.hid (QXb.out.next hs rfl); replace IVnb := Lib.hid (iv_next IVnb.out hs rfl); replace IVdb := Lib.hid (iv_next IVdb.out hs rfl)
  replace DW := Lib.hid (link_below DW.out hs (by have := DW.out.size; have := hg.out; omega) rfl rfl rfl rfl)
  generalize hsg : decide (((a * ((d : Int) : Rat)).num : Int) < 0) = sln at *
  clear hsg
  generalize hsg : decide ((((a * ((d : Int) : Rat)).den : Int) : Int) < 0) = sld at *
  clear hsg
  replace QXl := Lib.hid QXl; replace IVnl := Lib.hid IVnl; replace IVdl := Lib.hid IVdl
  generalize hsg : decide ((f.num : Int) < 0) = sh at *
  clear hsg
  replace BXh := Lib.hid BXh; replace IVh := Lib.hid IVh
  clear hs
  go_upto_region 2 with fail
  have QVl : Hid (Qv wn (.agg #[.bool sln, .slice Xln pln qln, .bool sld, .slice Xld pld qld]) ((a * ((d : Int) : Rat)).num) (((a * ((d : Int) : Rat)).den : Int))) := qv_of IVnl.out IVdl.out
  refine Rg.region_gg wn [.is (.agg #[.bool sh, .slice Xh ph qh]), .sat (pIv ((f.den : Int))) (pIv_keep _), .sat (pQv (f.num) ((f.den : Int))) (pQv_keep _ _), .is (.agg #[.bool sln, .slice Xln pln qln, .bool sld, .slice Xld pld qld]), .is (Value.int IntKind.i64 u), .is (Value.bool true), .is (Value.bool true)] [] [some 18, some 19, some 20, some 21, some 22, some 23, some 6] (by kernel_rfl) (by kernel_rfl) (by kernel_rfl) (by kernel_rfl) (by kernel_rfl) (by simp [Rg.stos]) (by rfl) (by rfl) (by kernel_rfl) (by simp) ((Below.refl _ _).drew) (fun Q' => ?_) (fun K hK wn hs => ?_)
  · refine ⟨?_, ?_, ?_, ?_, ?_, ?_, ?_, trivial⟩
    · intro a' w' ha hs hw hold
      have eo8 : a'.tmps[8]? = some (ptr gh) := (ha.rest 8 (by kernel_rfl)).trans rfl
      exact ⟨rfl, .inl ⟨wanted_none rfl, wp_val (run_pload rfl (ev_tmp eo8) (BXh.out.bel hs (by simp))) ⟨rfl, Below.refl _ _⟩⟩⟩
    · intro a' w' ha hs hw hold
      exact ⟨rfl, wanted_none rfl, call_step rfl Tryz.func55 (by kernel_rfl) rfl (map_one rfl) (one_is f _ hfd.out) (fun e w2 he => by obtain ⟨v, rfl, hv, hb⟩ := he; exact ⟨v, rfl, v, rfl, hv, hb⟩)⟩
    · intro a' w' ha hs hw hold
      have e0 : a'.tmps[18]? = some (.agg #[.bool sh, .slice Xh ph qh]) := Rg.slot_get rfl rfl (hw 0 (by kernel_rfl) _ rfl)
      obtain ⟨v1, e1, q1⟩ := hw 1 (by kernel_rfl) _ rfl
      replace e1 : a'.tmps[19]? = some v1 := Rg.slot_get rfl rfl e1
      exact ⟨rfl, wanted_none rfl, step_build rfl (ev_tmp e0) (ev_tmp e1) (IVh.out.kn hs.kn) q1⟩
    · intro a' w' ha hs hw hold
      have eo7 : a'.tmps[7]? = some (ptr gl) := (ha.rest 7 (by kernel_rfl)).trans rfl
      exact ⟨rfl, .inl ⟨wanted_none rfl, wp_val (run_qload rfl (ev_tmp eo7) (QXl.out.bel hs (by simp))) ⟨rfl, Below.refl _ _⟩⟩⟩
    · intro a' w' ha hs hw hold
      obtain ⟨v2, e2, q2⟩ := hw 2 (by kernel_rfl) _ rfl
      replace e2 : a'.tmps[20]? = some v2 := Rg.slot_get rfl rfl e2
      have e3 : a'.tmps[21]? = some (.agg #[.bool sln, .slice Xln pln qln, .bool sld, .slice Xld pld qld]) := Rg.slot_get rfl rfl (hw 3 (by kernel_rfl) _ rfl)
      exact ⟨rfl, .inl ⟨wanted_none rfl, call_step rfl Tryz.func39 (by kernel_rfl) rfl (map_two (ev_tmp e2) (ev_tmp e3)) (qcmp_is _ _ f (a * ((d : Int) : Rat)) u _ q2 (SF.out.mono (by decide)) (QVl.out.kn hs.kn) ((SRa.out.mul SD.out).mono (by decide)) hu.out) (fun e w2 he => by obtain ⟨rfl, hb⟩ := he; exact ⟨_, rfl, rfl, hb⟩)⟩⟩
    · intro a' w' ha hs hw hold
      have e4 : a'.tmps[22]? = some (Value.int IntKind.i64 u) := Rg.slot_get rfl rfl (hw 4 (by kernel_rfl) _ rfl)
      exact ⟨rfl, .inl ⟨wanted_none rfl, wp_val (run_lssT rfl (ev_tmp e4) rfl WU.out) ⟨rfl, Below.refl _ _⟩⟩⟩
    · intro a' w' ha hs hw hold
      have e5 : a'.tmps[23]? = some (Value.bool true) := Rg.slot_get rfl rfl (hw 5 (by kernel_rfl) _ rfl)
      exact ⟨rfl, .inl ⟨wanted_none rfl, wp_val (run_assign rfl (ev_tmp e5)) ⟨rfl, Below.refl _ _⟩⟩⟩
  simp only [Rg.allG]
  intro r2x1 _
  intro r2x2 _
  simp only [setOpt, Rg.setOpt, List.set_cons_succ, List.set_cons_zero]
  refine hK _ _ ?_
  clear hK K
  replace hs := hs.below
  replace BXh := Lib.hid (BXh.out.next hs rfl); replace IVh := Lib.hid (iv_next IVh.out hs rfl)
  replace QXa := Lib.hid (QXa.out.next hs rfl); replace IVna := Lib.hid (iv_next IVna.out hs rfl); replace IVda := Lib.hid (iv_next IVda.out hs rfl)
  replace QXb := Lib.hid (QXb.out.next hs rfl); replace IVnb := Lib.hid (iv_next IVnb.out hs rfl); replace IVdb := Lib.hid (iv_next IVdb.out hs rfl)
  replace QXl := Lib.hid (QXl.out.next hs rfl); replace IVnl := Lib.hid (iv_next IVnl.out hs rfl); replace IVdl := Lib.hid (iv_next IVdl.out hs rfl)
  replace DW := Lib.hid (link_below DW.out hs (by have := DW.out.size; have := hg.out; omega) rfl rfl rfl rfl)
  clear hs
  go_wp2
  go_ret
  exact ⟨rfl, by rw [hg.out]; exact DW.out⟩
end Go.Proofs.YtfigimfdojbkeaaGreat
