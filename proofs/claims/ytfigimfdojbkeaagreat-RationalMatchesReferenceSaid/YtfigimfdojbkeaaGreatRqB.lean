/-
 The reference's functions on fractions.
-/
import Derived.Test.YtfigimfdojbkeaaGreatRqA
import Derived.Test.YtfigimfdojbkeaaGreatLawI
import Derived.Test.YtfigimfdojbkeaaGreatRatI
import Derived.Test.YtfigimfdojbkeaaGreatRatZ
import Derived.Deep.DeepCutAuto
import Derived.Handy
set_option linter.unusedSimpArgs false
set_option linter.unusedVariables false
namespace Go.Proofs.YtfigimfdojbkeaaGreat
open Go.RowKit
attribute [local go_sem ↓] Go.wp_at_zero Go.wp_at_succ

theorem rlow_is (va vb : Value) (za zb : Int) (T : Rat) (w : World) (ha : Iv w va za) (sa : Sz za 100000) (hb : Iv w vb zb) (sb : Sz zb 100000) (h0 : zb ≠ 0) (h : Rat.divInt za zb = T) : Calls Tryz.prog 92 #[va, vb] w (RetQ T.num T.den w) := h ▸ rlowest_any va vb za zb w ha sa hb sb h0
theorem den_ne2 (a b : Rat) : (a.den : Int) * b.den ≠ 0 := by have := Int.mul_pos (den_cast a) (den_cast b); omega

set_option maxHeartbeats 8000000 in
set_option maxRecDepth 100000 in
theorem rqadd_any (va vb : Value) (a b : Rat) (w : World) (ha : Qv w va a.num a.den) (sa : Sr a 20000) (hb : Qv w vb b.num b.den) (sb : Sr b 20000) : Calls Tryz.prog 18 #[va, vb] w (RetQ (a + b).num (a + b).den w) := by
 obtain ⟨Xan, pan, qan, Xad, pad, qad, rfl, han, had⟩ := ha
 have Han := Lib.hid han
 have Had := Lib.hid had
 have SRa := Lib.hid sa
 clear han had sa
 generalize hs : decide (a.num < 0) = san at *
 clear hs
 generalize hs : decide ((a.den : Int) < 0) = sad at *
 clear hs
 obtain ⟨Xbn, pbn, qbn, Xbd, pbd, qbd, rfl, hbn, hbd⟩ := hb
 have Hbn := Lib.hid hbn
 have Hbd := Lib.hid hbd
 have SRb := Lib.hid sb
 clear hbn hbd sb
 generalize hs : decide (b.num < 0) = sbn at *
 clear hs
 generalize hs : decide ((b.den : Int) < 0) = sbd at *
 clear hs

 go_enter Tryz.func18, Tryz.ntmps18
 go_wp2_with fail
 obtain ⟨W, hW⟩ : ∃ W, W = (((w.alloc (Obj.cells #[Value.bool san, Value.slice Xan pan qan, Value.bool sad, Value.slice Xad pad qad] 31)).alloc (Obj.cells #[Value.bool sbn, Value.slice Xbn pbn qbn, Value.bool sbd, Value.slice Xbd pbd qbd] 31)).alloc (Obj.cells #[Value.bool false, Value.slice none 0 0, Value.bool false, Value.slice none 0 0] 31)) := ⟨_, rfl⟩
 rw [← hW]
 have QXa : Hid (QBox W (w.heap.size) san (.slice Xan pan qan) sad (.slice Xad pad qad)) := by rw [hW]; have := ((QBox.new w san (Value.slice Xan pan qan) sad (Value.slice Xad pad qad)).alloc (Obj.cells #[Value.bool sbn, Value.slice Xbn pbn qbn, Value.bool sbd, Value.slice Xbd pbd qbd] 31)).alloc (Obj.cells #[Value.bool false, Value.slice none 0 0, Value.bool false, Value.slice none 0 0] 31); simpa [Hid] using this
 have QXb : Hid (QBox W (w.heap.size + 1) sbn (.slice Xbn pbn qbn) sbd (.slice Xbd pbd qbd)) := by rw [hW]; have := (QBox.new (w.alloc (Obj.cells #[Value.bool san, Value.slice Xan pan qan, Value.bool sad, Value.slice Xad pad qad] 31)) sbn (Value.slice Xbn pbn qbn) sbd (Value.slice Xbd pbd qbd)).alloc (Obj.cells #[Value.bool false, Value.slice none 0 0, Value.bool false, Value.slice none 0 0] 31); simpa [Hid] using this
 have RXr : Hid (QBox W (w.heap.size + 1 + 1) false (.slice none 0 0) false (.slice none 0 0)) := by rw [hW]; have := QBox.new ((w.alloc (Obj.cells #[Value.bool san, Value.slice Xan pan qan, Value.bool sad, Value.slice Xad pad qad] 31)).alloc (Obj.cells #[Value.bool sbn, Value.slice Xbn pbn qbn, Value.bool sbd, Value.slice Xbd pbd qbd] 31)) false (Value.slice none 0 0) false (Value.slice none 0 0); simpa [Hid] using this
 have IVna : Hid (Iv W (.agg #[.bool san, .slice Xan pan qan]) (a.num)) := by rw [hW]; exact (((Han.out).alloc _).alloc _).alloc _
 have IVda : Hid (Iv W (.agg #[.bool sad, .slice Xad pad qad]) ((a.den : Int))) := by rw [hW]; exact (((Had.out).alloc _).alloc _).alloc _
 have IVnb : Hid (Iv W (.agg #[.bool sbn, .slice Xbn pbn qbn]) (b.num)) := by rw [hW]; exact (((Hbn.out).alloc _).alloc _).alloc _
 have IVdb : Hid (Iv W (.agg #[.bool sbd, .slice Xbd pbd qbd]) ((b.den : Int))) := by rw [hW]; exact (((Hbd.out).alloc _).alloc _).alloc _
 have DW : Hid (Below w.heap.size w W) := by rw [hW]; exact (((Below.refl _ _).alloc (by simp <;> omega) _).alloc (by simp <;> omega) _).alloc (by simp <;> omega) _
 clear hW
 generalize hg : w.heap.size = g at *
 replace hg := Lib.hid hg
 go_upto_region 1 with fail
 refine Rg.region_gg W [.is (.pointer (some ⟨g, 0, none⟩)), .is (.agg #[.bool san, .slice Xan pan qan]), .is (.pointer (some ⟨(g + 1), 2, none⟩)), .is (.agg #[.bool sbd, .slice Xbd pbd qbd]), .sat (pIv (a.num * (b.den : Int))) (pIv_keep _), .is (.pointer (some ⟨(g + 1), 0, none⟩)), .is (.agg #[.bool sbn, .slice Xbn pbn qbn]), .is (.pointer (some ⟨g, 2, none⟩)), .is (.agg #[.bool sad, .slice Xad pad qad]), .sat (pIv (b.num * (a.den : Int))) (pIv_keep _), .sat (pIv (a.num * (b.den : Int) + b.num * (a.den : Int))) (pIv_keep _), .is (.pointer (some ⟨g, 2, none⟩)), .is (.agg #[.bool sad, .slice Xad pad qad]), .is (.pointer (some ⟨(g + 1), 2, none⟩)), .is (.agg #[.bool sbd, .slice Xbd pbd qbd]), .sat (pIv ((a.den : Int) * (b.den : Int))) (pIv_keep _), .sat (pQv ((a + b).num) (((a + b).den : Int))) (pQv_keep _ _), .sto (g + 1 + 1) (sQ (g + 1 + 1) ((a + b).num) (((a + b).den : Int))) (sQ_keep _ _ _)] [(g + 1 + 1)] [some 5, some 6, some 7, some 8, some 9, some 10, some 11, some 12, some 13, some 14, some 15, some 16, some 17, some 18, some 19, some 20, some 21, none] (by kernel_rfl) (by kernel_rfl) (by kernel_rfl) (by kernel_rfl) (by kernel_rfl) (by simp [Rg.stos]) (by rfl) (by rfl) (by kernel_rfl) (by intro g hg; simp only [List.mem_cons, List.not_mem_nil, or_false] at hg; subst hg; exact RXr.out.lt) ((Below.refl _ _).drew) (fun Q' => ?_) (fun K hK wn hs => ?_)
 ·refine ⟨?_, ?_, ?_, ?_, ?_, ?_, ?_, ?_, ?_, ?_, ?_, ?_, ?_, ?_, ?_, ?_, ?_, ?_, trivial⟩
  ·intro a' w' ha hs hw hold
   have eo2 : a'.tmps[2]? = some (ptr g) := (ha.rest 2 (by kernel_rfl)).trans rfl
   exact ⟨rfl, .inl ⟨wanted_none rfl, wp_val (run_qfield0 rfl (ev_tmp eo2)) ⟨rfl, Below.refl _ _⟩⟩⟩
  ·intro a' w' ha hs hw hold
   have e0 : a'.tmps[5]? = some (.pointer (some ⟨g, 0, none⟩)) := Rg.slot_get rfl rfl (hw 0 (by kernel_rfl) _ rfl)
   exact ⟨rfl, .inl ⟨wanted_none rfl, wp_val (run_qload0 rfl (ev_tmp e0) (QXa.out.bel hs (by simp only [List.mem_cons, List.not_mem_nil, or_false, not_or]; exact (by omega)))) ⟨rfl, Below.refl _ _⟩⟩⟩
  ·intro a' w' ha hs hw hold
   have eo3 : a'.tmps[3]? = some (ptr (g + 1)) := (ha.rest 3 (by kernel_rfl)).trans rfl
   exact ⟨rfl, .inl ⟨wanted_none rfl, wp_val (run_qfield1 rfl (ev_tmp eo3)) ⟨rfl, Below.refl _ _⟩⟩⟩
  ·intro a' w' ha hs hw hold
   have e2 : a'.tmps[7]? = some (.pointer (some ⟨(g + 1), 2, none⟩)) := Rg.slot_get rfl rfl (hw 2 (by kernel_rfl) _ rfl)
   exact ⟨rfl, .inl ⟨wanted_none rfl, wp_val (run_qload1 rfl (ev_tmp e2) (QXb.out.bel hs (by simp only [List.mem_cons, List.not_mem_nil, or_false, not_or]; exact (by omega)))) ⟨rfl, Below.refl _ _⟩⟩⟩
  ·intro a' w' ha hs hw hold
   have e1 : a'.tmps[6]? = some (.agg #[.bool san, .slice Xan pan qan]) := Rg.slot_get rfl rfl (hw 1 (by kernel_rfl) _ rfl)
   have e3 : a'.tmps[8]? = some (.agg #[.bool sbd, .slice Xbd pbd qbd]) := Rg.slot_get rfl rfl (hw 3 (by kernel_rfl) _ rfl)
   exact ⟨rfl, wanted_none rfl, call_step rfl Tryz.func91 (by kernel_rfl) rfl (map_two (ev_tmp e1) (ev_tmp e3)) (rmul_any _ _ (a.num) ((b.den : Int)) _ (IVna.out.kn hs.kn) (IVdb.out.kn hs.kn) (SRa.out.num.mono (by omega)) (SRb.out.den.mono (by omega))) (fun e w2 he => by obtain ⟨v, rfl, hv, hb⟩ := he; exact ⟨v, rfl, v, rfl, hv, hb⟩)⟩
  ·intro a' w' ha hs hw hold
   have eo3 : a'.tmps[3]? = some (ptr (g + 1)) := (ha.rest 3 (by kernel_rfl)).trans rfl
   exact ⟨rfl, .inl ⟨wanted_none rfl, wp_val (run_qfield0 rfl (ev_tmp eo3)) ⟨rfl, Below.refl _ _⟩⟩⟩
  ·intro a' w' ha hs hw hold
   have e5 : a'.tmps[10]? = some (.pointer (some ⟨(g + 1), 0, none⟩)) := Rg.slot_get rfl rfl (hw 5 (by kernel_rfl) _ rfl)
   exact ⟨rfl, .inl ⟨wanted_none rfl, wp_val (run_qload0 rfl (ev_tmp e5) (QXb.out.bel hs (by simp only [List.mem_cons, List.not_mem_nil, or_false, not_or]; exact (by omega)))) ⟨rfl, Below.refl _ _⟩⟩⟩
  ·intro a' w' ha hs hw hold
   have eo2 : a'.tmps[2]? = some (ptr g) := (ha.rest 2 (by kernel_rfl)).trans rfl
   exact ⟨rfl, .inl ⟨wanted_none rfl, wp_val (run_qfield1 rfl (ev_tmp eo2)) ⟨rfl, Below.refl _ _⟩⟩⟩
  ·intro a' w' ha hs hw hold
   have e7 : a'.tmps[12]? = some (.pointer (some ⟨g, 2, none⟩)) := Rg.slot_get rfl rfl (hw 7 (by kernel_rfl) _ rfl)
   exact ⟨rfl, .inl ⟨wanted_none rfl, wp_val (run_qload1 rfl (ev_tmp e7) (QXa.out.bel hs (by simp only [List.mem_cons, List.not_mem_nil, or_false, not_or]; exact (by omega)))) ⟨rfl, Below.refl _ _⟩⟩⟩
  ·intro a' w' ha hs hw hold
   have e6 : a'.tmps[11]? = some (.agg #[.bool sbn, .slice Xbn pbn qbn]) := Rg.slot_get rfl rfl (hw 6 (by kernel_rfl) _ rfl)
   have e8 : a'.tmps[13]? = some (.agg #[.bool sad, .slice Xad pad qad]) := Rg.slot_get rfl rfl (hw 8 (by kernel_rfl) _ rfl)
   exact ⟨rfl, wanted_none rfl, call_step rfl Tryz.func91 (by kernel_rfl) rfl (map_two (ev_tmp e6) (ev_tmp e8)) (rmul_any _ _ (b.num) ((a.den : Int)) _ (IVnb.out.kn hs.kn) (IVda.out.kn hs.kn) (SRb.out.num.mono (by omega)) (SRa.out.den.mono (by omega))) (fun e w2 he => by obtain ⟨v, rfl, hv, hb⟩ := he; exact ⟨v, rfl, v, rfl, hv, hb⟩)⟩
  ·intro a' w' ha hs hw hold
   obtain ⟨v4, e4, q4⟩ := hw 4 (by kernel_rfl) _ rfl
   replace e4 : a'.tmps[9]? = some v4 := Rg.slot_get rfl rfl e4
   obtain ⟨v9, e9, q9⟩ := hw 9 (by kernel_rfl) _ rfl
   replace e9 : a'.tmps[14]? = some v9 := Rg.slot_get rfl rfl e9
   exact ⟨rfl, wanted_none rfl, call_step rfl Tryz.func90 (by kernel_rfl) rfl (map_two (ev_tmp e4) (ev_tmp e9)) (radd_any _ _ (a.num * (b.den : Int)) (b.num * (a.den : Int)) _ q4 q9 (((SRa.out.num).mul (SRb.out.den)).mono (by omega)) (((SRb.out.num).mul (SRa.out.den)).mono (by omega))) (fun e w2 he => by obtain ⟨v, rfl, hv, hb⟩ := he; exact ⟨v, rfl, v, rfl, hv, hb⟩)⟩
  ·intro a' w' ha hs hw hold
   have eo2 : a'.tmps[2]? = some (ptr g) := (ha.rest 2 (by kernel_rfl)).trans rfl
   exact ⟨rfl, .inl ⟨wanted_none rfl, wp_val (run_qfield1 rfl (ev_tmp eo2)) ⟨rfl, Below.refl _ _⟩⟩⟩
  ·intro a' w' ha hs hw hold
   have e11 : a'.tmps[16]? = some (.pointer (some ⟨g, 2, none⟩)) := Rg.slot_get rfl rfl (hw 11 (by kernel_rfl) _ rfl)
   exact ⟨rfl, .inl ⟨wanted_none rfl, wp_val (run_qload1 rfl (ev_tmp e11) (QXa.out.bel hs (by simp only [List.mem_cons, List.not_mem_nil, or_false, not_or]; exact (by omega)))) ⟨rfl, Below.refl _ _⟩⟩⟩
  ·intro a' w' ha hs hw hold
   have eo3 : a'.tmps[3]? = some (ptr (g + 1)) := (ha.rest 3 (by kernel_rfl)).trans rfl
   exact ⟨rfl, .inl ⟨wanted_none rfl, wp_val (run_qfield1 rfl (ev_tmp eo3)) ⟨rfl, Below.refl _ _⟩⟩⟩
  ·intro a' w' ha hs hw hold
   have e13 : a'.tmps[18]? = some (.pointer (some ⟨(g + 1), 2, none⟩)) := Rg.slot_get rfl rfl (hw 13 (by kernel_rfl) _ rfl)
   exact ⟨rfl, .inl ⟨wanted_none rfl, wp_val (run_qload1 rfl (ev_tmp e13) (QXb.out.bel hs (by simp only [List.mem_cons, List.not_mem_nil, or_false, not_or]; exact (by omega)))) ⟨rfl, Below.refl _ _⟩⟩⟩
  ·intro a' w' ha hs hw hold
   have e12 : a'.tmps[17]? = some (.agg #[.bool sad, .slice Xad pad qad]) := Rg.slot_get rfl rfl (hw 12 (by kernel_rfl) _ rfl)
   have e14 : a'.tmps[19]? = some (.agg #[.bool sbd, .slice Xbd pbd qbd]) := Rg.slot_get rfl rfl (hw 14 (by kernel_rfl) _ rfl)
   exact ⟨rfl, wanted_none rfl, call_step rfl Tryz.func91 (by kernel_rfl) rfl (map_two (ev_tmp e12) (ev_tmp e14)) (rmul_any _ _ ((a.den : Int)) ((b.den : Int)) _ (IVda.out.kn hs.kn) (IVdb.out.kn hs.kn) (SRa.out.den.mono (by omega)) (SRb.out.den.mono (by omega))) (fun e w2 he => by obtain ⟨v, rfl, hv, hb⟩ := he; exact ⟨v, rfl, v, rfl, hv, hb⟩)⟩
  ·intro a' w' ha hs hw hold
   obtain ⟨v10, e10, q10⟩ := hw 10 (by kernel_rfl) _ rfl
   replace e10 : a'.tmps[15]? = some v10 := Rg.slot_get rfl rfl e10
   obtain ⟨v15, e15, q15⟩ := hw 15 (by kernel_rfl) _ rfl
   replace e15 : a'.tmps[20]? = some v15 := Rg.slot_get rfl rfl e15
   exact ⟨rfl, wanted_none rfl, call_step rfl Tryz.func92 (by kernel_rfl) rfl (map_two (ev_tmp e10) (ev_tmp e15)) (rlow_is _ _ (a.num * (b.den : Int) + b.num * (a.den : Int)) ((a.den : Int) * (b.den : Int)) (a + b) _ q10 ((Sz.add (N := 40000) (((SRa.out.num).mul (SRb.out.den)).mono (by omega)) (((SRb.out.num).mul (SRa.out.den)).mono (by omega))).mono (by omega)) q15 (((SRa.out.den).mul (SRb.out.den)).mono (by omega)) (den_ne2 a b) (rdi_add a b)) (fun e w2 he => by obtain ⟨v, rfl, hv, hb⟩ := he; exact ⟨v, rfl, v, rfl, hv, hb⟩)⟩
  ·intro a' w' ha hs hw hold
   obtain ⟨v16, e16, q16⟩ := hw 16 (by kernel_rfl) _ rfl
   replace e16 : a'.tmps[21]? = some v16 := Rg.slot_get rfl rfl e16
   have eo4 : a'.tmps[4]? = some (ptr (g + 1 + 1)) := (ha.rest 4 (by kernel_rfl)).trans rfl
   exact ⟨rfl, wanted_none rfl, fun he => step_stoq rfl rfl (ev_tmp eo4) (ev_tmp e16) q16 RXr.out he⟩
 simp only [Rg.allG]
 intro r1x4 _
 intro r1x9 _
 intro r1x10 _
 intro r1x15 _
 intro r1x16 _
 intro hSr
 simp only [setOpt, Rg.setOpt, List.set_cons_succ, List.set_cons_zero]
 refine hK _ _ ?_
 clear hK K
 have DN : Hid (Below g w wn) := hs.base DW.out (by have := hg.out; omega) (by simp only [List.mem_cons, List.not_mem_nil, or_false]; omega)
 obtain ⟨Ar, ir, cr, Br, jr, dr, hcr, hir, hjr⟩ := hSr
 have kra := hcr.cell0; have krb := hcr.cell1; have krc := hcr.cell2; have krd := hcr.cell3
 have HIr := Lib.hid hir; clear hir
 have HJr := Lib.hid hjr; clear hjr
 go_wp2
 exact bodyPost_ret (v := .agg #[.bool (decide ((a + b).num < 0)), .slice Ar ir cr, .bool (decide (((a + b).den : Int) < 0)), .slice Br jr dr]) (by simp [results, Tryz.results18, go_sem, kra, krb, krc, krd]) rfl ⟨_, rfl, ⟨Ar, ir, cr, Br, jr, dr, rfl, HIr.out, HJr.out⟩, by rw [hg.out]; exact DN.out⟩

set_option maxHeartbeats 8000000 in
set_option maxRecDepth 100000 in
theorem rqmul_any (va vb : Value) (a b : Rat) (w : World) (ha : Qv w va a.num a.den) (sa : Sr a 20000) (hb : Qv w vb b.num b.den) (sb : Sr b 20000) : Calls Tryz.prog 22 #[va, vb] w (RetQ (a * b).num (a * b).den w) := by
 obtain ⟨Xan, pan, qan, Xad, pad, qad, rfl, han, had⟩ := ha
 have Han := Lib.hid han
 have Had := Lib.hid had
 have SRa := Lib.hid sa
 clear han had sa
 generalize hs : decide (a.num < 0) = san at *
 clear hs
 generalize hs : decide ((a.den : Int) < 0) = sad at *
 clear hs
 obtain ⟨Xbn, pbn, qbn, Xbd, pbd, qbd, rfl, hbn, hbd⟩ := hb
 have Hbn := Lib.hid hbn
 have Hbd := Lib.hid hbd
 have SRb := Lib.hid sb
 clear hbn hbd sb
 generalize hs : decide (b.num < 0) = sbn at *
 clear hs
 generalize hs : decide ((b.den : Int) < 0) = sbd at *
 clear hs

 go_enter Tryz.func22, Tryz.ntmps22
 go_wp2_with fail
 obtain ⟨W, hW⟩ : ∃ W, W = (((w.alloc (Obj.cells #[Value.bool san, Value.slice Xan pan qan, Value.bool sad, Value.slice Xad pad qad] 31)).alloc (Obj.cells #[Value.bool sbn, Value.slice Xbn pbn qbn, Value.bool sbd, Value.slice Xbd pbd qbd] 31)).alloc (Obj.cells #[Value.bool false, Value.slice none 0 0, Value.bool false, Value.slice none 0 0] 31)) := ⟨_, rfl⟩
 rw [← hW]
 have QXa : Hid (QBox W (w.heap.size) san (.slice Xan pan qan) sad (.slice Xad pad qad)) := by rw [hW]; have := ((QBox.new w san (Value.slice Xan pan qan) sad (Value.slice Xad pad qad)).alloc (Obj.cells #[Value.bool sbn, Value.slice Xbn pbn qbn, Value.bool sbd, Value.slice Xbd pbd qbd] 31)).alloc (Obj.cells #[Value.bool false, Value.slice none 0 0, Value.bool false, Value.slice none 0 0] 31); simpa [Hid] using this
 have QXb : Hid (QBox W (w.heap.size + 1) sbn (.slice Xbn pbn qbn) sbd (.slice Xbd pbd qbd)) := by rw [hW]; have := (QBox.new (w.alloc (Obj.cells #[Value.bool san, Value.slice Xan pan qan, Value.bool sad, Value.slice Xad pad qad] 31)) sbn (Value.slice Xbn pbn qbn) sbd (Value.slice Xbd pbd qbd)).alloc (Obj.cells #[Value.bool false, Value.slice none 0 0, Value.bool false, Value.slice none 0 0] 31); simpa [Hid] using this
 have RXr : Hid (QBox W (w.heap.size + 1 + 1) false (.slice none 0 0) false (.slice none 0 0)) := by rw [hW]; have := QBox.new ((w.alloc (Obj.cells #[Value.bool san, Value.slice Xan pan qan, Value.bool sad, Value.slice Xad pad qad] 31)).alloc (Obj.cells #[Value.bool sbn, Value.slice Xbn pbn qbn, Value.bool sbd, Value.slice Xbd pbd qbd] 31)) false (Value.slice none 0 0) false (Value.slice none 0 0); simpa [Hid] using this
 have IVna : Hid (Iv W (.agg #[.bool san, .slice Xan pan qan]) (a.num)) := by rw [hW]; exact (((Han.out).alloc _).alloc _).alloc _
 have IVda : Hid (Iv W (.agg #[.bool sad, .slice Xad pad qad]) ((a.den : Int))) := by rw [hW]; exact (((Had.out).alloc _).alloc _).alloc _
 have IVnb : Hid (Iv W (.agg #[.bool sbn, .slice Xbn pbn qbn]) (b.num)) := by rw [hW]; exact (((Hbn.out).alloc _).alloc _).alloc _
 have IVdb : Hid (Iv W (.agg #[.bool sbd, .slice Xbd pbd qbd]) ((b.den : Int))) := by rw [hW]; exact (((Hbd.out).alloc _).alloc _).alloc _
 have DW : Hid (Below w.heap.size w W) := by rw [hW]; exact (((Below.refl _ _).alloc (by simp <;> omega) _).alloc (by simp <;> omega) _).alloc (by simp <;> omega) _
 clear hW
 generalize hg : w.heap.size = g at *
 replace hg := Lib.hid hg
 go_upto_region 1 with fail
 refine Rg.region_gg W [.is (.pointer (some ⟨g, 0, none⟩)), .is (.agg #[.bool san, .slice Xan pan qan]), .is (.pointer (some ⟨(g + 1), 0, none⟩)), .is (.agg #[.bool sbn, .slice Xbn pbn qbn]), .sat (pIv (a.num * b.num)) (pIv_keep _), .is (.pointer (some ⟨g, 2, none⟩)), .is (.agg #[.bool sad, .slice Xad pad qad]), .is (.pointer (some ⟨(g + 1), 2, none⟩)), .is (.agg #[.bool sbd, .slice Xbd pbd qbd]), .sat (pIv ((a.den : Int) * (b.den : Int))) (pIv_keep _), .sat (pQv ((a * b).num) (((a * b).den : Int))) (pQv_keep _ _), .sto (g + 1 + 1) (sQ (g + 1 + 1) ((a * b).num) (((a * b).den : Int))) (sQ_keep _ _ _)] [(g + 1 + 1)] [some 5, some 6, some 7, some 8, some 9, some 10, some 11, some 12, some 13, some 14, some 15, none] (by kernel_rfl) (by kernel_rfl) (by kernel_rfl) (by kernel_rfl) (by kernel_rfl) (by simp [Rg.stos]) (by rfl) (by rfl) (by kernel_rfl) (by intro g hg; simp only [List.mem_cons, List.not_mem_nil, or_false] at hg; subst hg; exact RXr.out.lt) ((Below.refl _ _).drew) (fun Q' => ?_) (fun K hK wn hs => ?_)
 ·refine ⟨?_, ?_, ?_, ?_, ?_, ?_, ?_, ?_, ?_, ?_, ?_, ?_, trivial⟩
  ·intro a' w' ha hs hw hold
   have eo2 : a'.tmps[2]? = some (ptr g) := (ha.rest 2 (by kernel_rfl)).trans rfl
   exact ⟨rfl, .inl ⟨wanted_none rfl, wp_val (run_qfield0 rfl (ev_tmp eo2)) ⟨rfl, Below.refl _ _⟩⟩⟩
  ·intro a' w' ha hs hw hold
   have e0 : a'.tmps[5]? = some (.pointer (some ⟨g, 0, none⟩)) := Rg.slot_get rfl rfl (hw 0 (by kernel_rfl) _ rfl)
   exact ⟨rfl, .inl ⟨wanted_none rfl, wp_val (run_qload0 rfl (ev_tmp e0) (QXa.out.bel hs (by simp only [List.mem_cons, List.not_mem_nil, or_false, not_or]; exact (by omega)))) ⟨rfl, Below.refl _ _⟩⟩⟩
  ·intro a' w' ha hs hw hold
   have eo3 : a'.tmps[3]? = some (ptr (g + 1)) := (ha.rest 3 (by kernel_rfl)).trans rfl
   exact ⟨rfl, .inl ⟨wanted_none rfl, wp_val (run_qfield0 rfl (ev_tmp eo3)) ⟨rfl, Below.refl _ _⟩⟩⟩
  ·intro a' w' ha hs hw hold
   have e2 : a'.tmps[7]? = some (.pointer (some ⟨(g + 1), 0, none⟩)) := Rg.slot_get rfl rfl (hw 2 (by kernel_rfl) _ rfl)
   exact ⟨rfl, .inl ⟨wanted_none rfl, wp_val (run_qload0 rfl (ev_tmp e2) (QXb.out.bel hs (by simp only [List.mem_cons, List.not_mem_nil, or_false, not_or]; exact (by omega)))) ⟨rfl, Below.refl _ _⟩⟩⟩
  ·intro a' w' ha hs hw hold
   have e1 : a'.tmps[6]? = some (.agg #[.bool san, .slice Xan pan qan]) := Rg.slot_get rfl rfl (hw 1 (by kernel_rfl) _ rfl)
   have e3 : a'.tmps[8]? = some (.agg #[.bool sbn, .slice Xbn pbn qbn]) := Rg.slot_get rfl rfl (hw 3 (by kernel_rfl) _ rfl)
   exact ⟨rfl, wanted_none rfl, call_step rfl Tryz.func91 (by kernel_rfl) rfl (map_two (ev_tmp e1) (ev_tmp e3)) (rmul_any _ _ (a.num) (b.num) _ (IVna.out.kn hs.kn) (IVnb.out.kn hs.kn) (SRa.out.num.mono (by omega)) (SRb.out.num.mono (by omega))) (fun e w2 he => by obtain ⟨v, rfl, hv, hb⟩ := he; exact ⟨v, rfl, v, rfl, hv, hb⟩)⟩
  ·intro a' w' ha hs hw hold
   have eo2 : a'.tmps[2]? = some (ptr g) := (ha.rest 2 (by kernel_rfl)).trans rfl
   exact ⟨rfl, .inl ⟨wanted_none rfl, wp_val (run_qfield1 rfl (ev_tmp eo2)) ⟨rfl, Below.refl _ _⟩⟩⟩
  ·intro a' w' ha hs hw hold
   have e5 : a'.tmps[10]? = some (.pointer (some ⟨g, 2, none⟩)) := Rg.slot_get rfl rfl (hw 5 (by kernel_rfl) _ rfl)
   exact ⟨rfl, .inl ⟨wanted_none rfl, wp_val (run_qload1 rfl (ev_tmp e5) (QXa.out.bel hs (by simp only [List.mem_cons, List.not_mem_nil, or_false, not_or]; exact (by omega)))) ⟨rfl, Below.refl _ _⟩⟩⟩
  ·intro a' w' ha hs hw hold
   have eo3 : a'.tmps[3]? = some (ptr (g + 1)) := (ha.rest 3 (by kernel_rfl)).trans rfl
   exact ⟨rfl, .inl ⟨wanted_none rfl, wp_val (run_qfield1 rfl (ev_tmp eo3)) ⟨rfl, Below.refl _ _⟩⟩⟩
  ·intro a' w' ha hs hw hold
   have e7 : a'.tmps[12]? = some (.pointer (some ⟨(g + 1), 2, none⟩)) := Rg.slot_get rfl rfl (hw 7 (by kernel_rfl) _ rfl)
   exact ⟨rfl, .inl ⟨wanted_none rfl, wp_val (run_qload1 rfl (ev_tmp e7) (QXb.out.bel hs (by simp only [List.mem_cons, List.not_mem_nil, or_false, not_or]; exact (by omega)))) ⟨rfl, Below.refl _ _⟩⟩⟩
  ·intro a' w' ha hs hw hold
   have e6 : a'.tmps[11]? = some (.agg #[.bool sad, .slice Xad pad qad]) := Rg.slot_get rfl rfl (hw 6 (by kernel_rfl) _ rfl)
   have e8 : a'.tmps[13]? = some (.agg #[.bool sbd, .slice Xbd pbd qbd]) := Rg.slot_get rfl rfl (hw 8 (by kernel_rfl) _ rfl)
   exact ⟨rfl, wanted_none rfl, call_step rfl Tryz.func91 (by kernel_rfl) rfl (map_two (ev_tmp e6) (ev_tmp e8)) (rmul_any _ _ ((a.den : Int)) ((b.den : Int)) _ (IVda.out.kn hs.kn) (IVdb.out.kn hs.kn) (SRa.out.den.mono (by omega)) (SRb.out.den.mono (by omega))) (fun e w2 he => by obtain ⟨v, rfl, hv, hb⟩ := he; exact ⟨v, rfl, v, rfl, hv, hb⟩)⟩
  ·intro a' w' ha hs hw hold
   obtain ⟨v4, e4, q4⟩ := hw 4 (by kernel_rfl) _ rfl
   replace e4 : a'.tmps[9]? = some v4 := Rg.slot_get rfl rfl e4
   obtain ⟨v9, e9, q9⟩ := hw 9 (by kernel_rfl) _ rfl
   replace e9 : a'.tmps[14]? = some v9 := Rg.slot_get rfl rfl e9
   exact ⟨rfl, wanted_none rfl, call_step rfl Tryz.func92 (by kernel_rfl) rfl (map_two (ev_tmp e4) (ev_tmp e9)) (rlow_is _ _ (a.num * b.num) ((a.den : Int) * (b.den : Int)) (a * b) _ q4 (((SRa.out.num).mul (SRb.out.num)).mono (by omega)) q9 (((SRa.out.den).mul (SRb.out.den)).mono (by omega)) (den_ne2 a b) (rdi_mul a b)) (fun e w2 he => by obtain ⟨v, rfl, hv, hb⟩ := he; exact ⟨v, rfl, v, rfl, hv, hb⟩)⟩
  ·intro a' w' ha hs hw hold
   obtain ⟨v10, e10, q10⟩ := hw 10 (by kernel_rfl) _ rfl
   replace e10 : a'.tmps[15]? = some v10 := Rg.slot_get rfl rfl e10
   have eo4 : a'.tmps[4]? = some (ptr (g + 1 + 1)) := (ha.rest 4 (by kernel_rfl)).trans rfl
   exact ⟨rfl, wanted_none rfl, fun he => step_stoq rfl rfl (ev_tmp eo4) (ev_tmp e10) q10 RXr.out he⟩
 simp only [Rg.allG]
 intro r1x4 _
 intro r1x9 _
 intro r1x10 _
 intro hSr
 simp only [setOpt, Rg.setOpt, List.set_cons_succ, List.set_cons_zero]
 refine hK _ _ ?_
 clear hK K
 have DN : Hid (Below g w wn) := hs.base DW.out (by have := hg.out; omega) (by simp only [List.mem_cons, List.not_mem_nil, or_false]; omega)
 obtain ⟨Ar, ir, cr, Br, jr, dr, hcr, hir, hjr⟩ := hSr
 have kra := hcr.cell0; have krb := hcr.cell1; have krc := hcr.cell2; have krd := hcr.cell3
 have HIr := Lib.hid hir; clear hir
 have HJr := Lib.hid hjr; clear hjr
 go_wp2
 exact bodyPost_ret (v := .agg #[.bool (decide ((a * b).num < 0)), .slice Ar ir cr, .bool (decide (((a * b).den : Int) < 0)), .slice Br jr dr]) (by simp [results, Tryz.results22, go_sem, kra, krb, krc, krd]) rfl ⟨_, rfl, ⟨Ar, ir, cr, Br, jr, dr, rfl, HIr.out, HJr.out⟩, by rw [hg.out]; exact DN.out⟩

set_option maxHeartbeats 8000000 in
set_option maxRecDepth 100000 in
theorem rqneg_any (va : Value) (a : Rat) (w : World) (ha : Qv w va a.num a.den) (sa : Sr a 100000) : Calls Tryz.prog 24 #[va] w (RetQ (-a).num (-a).den w) := by
 rw [Rat.neg_num, rneg_den]
 obtain ⟨Xan, pan, qan, Xad, pad, qad, rfl, han, had⟩ := ha
 have Han := Lib.hid han
 have Had := Lib.hid had
 have SRa := Lib.hid sa
 clear han had sa
 generalize hs : decide (a.num < 0) = san at *
 clear hs
 generalize hs : decide ((a.den : Int) < 0) = sad at *
 clear hs

 go_enter Tryz.func24, Tryz.ntmps24
 go_wp2_with fail
 obtain ⟨W, hW⟩ : ∃ W, W = ((w.alloc (Obj.cells #[Value.bool san, Value.slice Xan pan qan, Value.bool sad, Value.slice Xad pad qad] 31)).alloc (Obj.cells #[Value.bool false, Value.slice none 0 0, Value.bool false, Value.slice none 0 0] 31)) := ⟨_, rfl⟩
 rw [← hW]
 have QXa : Hid (QBox W (w.heap.size) san (.slice Xan pan qan) sad (.slice Xad pad qad)) := by rw [hW]; have := (QBox.new w san (Value.slice Xan pan qan) sad (Value.slice Xad pad qad)).alloc (Obj.cells #[Value.bool false, Value.slice none 0 0, Value.bool false, Value.slice none 0 0] 31); simpa [Hid] using this
 have RXr : Hid (QBox W (w.heap.size + 1) false (.slice none 0 0) false (.slice none 0 0)) := by rw [hW]; have := QBox.new (w.alloc (Obj.cells #[Value.bool san, Value.slice Xan pan qan, Value.bool sad, Value.slice Xad pad qad] 31)) false (Value.slice none 0 0) false (Value.slice none 0 0); simpa [Hid] using this
 have IVna : Hid (Iv W (.agg #[.bool san, .slice Xan pan qan]) (a.num)) := by rw [hW]; exact ((Han.out).alloc _).alloc _
 have IVda : Hid (Iv W (.agg #[.bool sad, .slice Xad pad qad]) ((a.den : Int))) := by rw [hW]; exact ((Had.out).alloc _).alloc _
 have DW : Hid (Below w.heap.size w W) := by rw [hW]; exact ((Below.refl _ _).alloc (by simp <;> omega) _).alloc (by simp <;> omega) _
 clear hW
 generalize hg : w.heap.size = g at *
 replace hg := Lib.hid hg
 go_upto_region 1 with fail
 refine Rg.region_gg W [.is (.pointer (some ⟨g, 0, none⟩)), .is (.agg #[.bool san, .slice Xan pan qan]), .sat (pIv (-a.num)) (pIv_keep _), .is (.pointer (some ⟨g, 2, none⟩)), .is (.agg #[.bool sad, .slice Xad pad qad]), .sat (pQv (-a.num) ((a.den : Int))) (pQv_keep _ _), .sto (g + 1) (sQ (g + 1) (-a.num) ((a.den : Int))) (sQ_keep _ _ _)] [(g + 1)] [some 3, some 4, some 5, some 6, some 7, some 8, none] (by kernel_rfl) (by kernel_rfl) (by kernel_rfl) (by kernel_rfl) (by kernel_rfl) (by simp [Rg.stos]) (by rfl) (by rfl) (by kernel_rfl) (by intro g hg; simp only [List.mem_cons, List.not_mem_nil, or_false] at hg; subst hg; exact RXr.out.lt) ((Below.refl _ _).drew) (fun Q' => ?_) (fun K hK wn hs => ?_)
 ·refine ⟨?_, ?_, ?_, ?_, ?_, ?_, ?_, trivial⟩
  ·intro a' w' ha hs hw hold
   have eo1 : a'.tmps[1]? = some (ptr g) := (ha.rest 1 (by kernel_rfl)).trans rfl
   exact ⟨rfl, .inl ⟨wanted_none rfl, wp_val (run_qfield0 rfl (ev_tmp eo1)) ⟨rfl, Below.refl _ _⟩⟩⟩
  ·intro a' w' ha hs hw hold
   have e0 : a'.tmps[3]? = some (.pointer (some ⟨g, 0, none⟩)) := Rg.slot_get rfl rfl (hw 0 (by kernel_rfl) _ rfl)
   exact ⟨rfl, .inl ⟨wanted_none rfl, wp_val (run_qload0 rfl (ev_tmp e0) (QXa.out.bel hs (by simp only [List.mem_cons, List.not_mem_nil, or_false, not_or]; exact (by omega)))) ⟨rfl, Below.refl _ _⟩⟩⟩
  ·intro a' w' ha hs hw hold
   have e1 : a'.tmps[4]? = some (.agg #[.bool san, .slice Xan pan qan]) := Rg.slot_get rfl rfl (hw 1 (by kernel_rfl) _ rfl)
   exact ⟨rfl, wanted_none rfl, call_step rfl Tryz.func101 (by kernel_rfl) rfl (map_one (ev_tmp e1)) (rneg_any _ a.num (-a.num) _ (IVna.out.kn hs.kn) (SRa.out.num.mono (by omega)) rfl) (fun e w2 he => by obtain ⟨v, rfl, hv, hb⟩ := he; exact ⟨v, rfl, v, rfl, hv, hb⟩)⟩
  ·intro a' w' ha hs hw hold
   have eo1 : a'.tmps[1]? = some (ptr g) := (ha.rest 1 (by kernel_rfl)).trans rfl
   exact ⟨rfl, .inl ⟨wanted_none rfl, wp_val (run_qfield1 rfl (ev_tmp eo1)) ⟨rfl, Below.refl _ _⟩⟩⟩
  ·intro a' w' ha hs hw hold
   have e3 : a'.tmps[6]? = some (.pointer (some ⟨g, 2, none⟩)) := Rg.slot_get rfl rfl (hw 3 (by kernel_rfl) _ rfl)
   exact ⟨rfl, .inl ⟨wanted_none rfl, wp_val (run_qload1 rfl (ev_tmp e3) (QXa.out.bel hs (by simp only [List.mem_cons, List.not_mem_nil, or_false, not_or]; exact (by omega)))) ⟨rfl, Below.refl _ _⟩⟩⟩
  ·intro a' w' ha hs hw hold
   obtain ⟨v2, e2, q2⟩ := hw 2 (by kernel_rfl) _ rfl
   replace e2 : a'.tmps[5]? = some v2 := Rg.slot_get rfl rfl e2
   have e4 : a'.tmps[7]? = some (.agg #[.bool sad, .slice Xad pad qad]) := Rg.slot_get rfl rfl (hw 4 (by kernel_rfl) _ rfl)
   exact ⟨rfl, wanted_none rfl, step_build rfl (ev_tmp e2) (ev_tmp e4) q2 (IVda.out.kn hs.kn)⟩
  ·intro a' w' ha hs hw hold
   obtain ⟨v5, e5, q5⟩ := hw 5 (by kernel_rfl) _ rfl
   replace e5 : a'.tmps[8]? = some v5 := Rg.slot_get rfl rfl e5
   have eo2 : a'.tmps[2]? = some (ptr (g + 1)) := (ha.rest 2 (by kernel_rfl)).trans rfl
   exact ⟨rfl, wanted_none rfl, fun he => step_stoq rfl rfl (ev_tmp eo2) (ev_tmp e5) q5 RXr.out he⟩
 simp only [Rg.allG]
 intro r1x2 _
 intro r1x5 _
 intro hSr
 simp only [setOpt, Rg.setOpt, List.set_cons_succ, List.set_cons_zero]
 refine hK _ _ ?_
 clear hK K
 have DN : Hid (Below g w wn) := hs.base DW.out (by have := hg.out; omega) (by simp only [List.mem_cons, List.not_mem_nil, or_false]; omega)
 obtain ⟨Ar, ir, cr, Br, jr, dr, hcr, hir, hjr⟩ := hSr
 have kra := hcr.cell0; have krb := hcr.cell1; have krc := hcr.cell2; have krd := hcr.cell3
 have HIr := Lib.hid hir; clear hir
 have HJr := Lib.hid hjr; clear hjr
 go_wp2
 exact bodyPost_ret (v := .agg #[.bool (decide (-a.num < 0)), .slice Ar ir cr, .bool (decide ((a.den : Int) < 0)), .slice Br jr dr]) (by simp [results, Tryz.results24, go_sem, kra, krb, krc, krd]) rfl ⟨_, rfl, ⟨Ar, ir, cr, Br, jr, dr, rfl, HIr.out, HJr.out⟩, by rw [hg.out]; exact DN.out⟩

set_option maxHeartbeats 8000000 in
set_option maxRecDepth 100000 in
theorem rqsub_any (va vb : Value) (a b : Rat) (w : World) (ha : Qv w va a.num a.den) (sa : Sr a 20000) (hb : Qv w vb b.num b.den) (sb : Sr b 20000) : Calls Tryz.prog 20 #[va, vb] w (RetQ (a - b).num (a - b).den w) := by
 rw [Rat.sub_eq_add_neg]
 obtain ⟨Xan, pan, qan, Xad, pad, qad, rfl, han, had⟩ := ha
 have Han := Lib.hid han
 have Had := Lib.hid had
 have SRa := Lib.hid sa
 clear han had sa
 generalize hs : decide (a.num < 0) = san at *
 clear hs
 generalize hs : decide ((a.den : Int) < 0) = sad at *
 clear hs
 obtain ⟨Xbn, pbn, qbn, Xbd, pbd, qbd, rfl, hbn, hbd⟩ := hb
 have Hbn := Lib.hid hbn
 have Hbd := Lib.hid hbd
 have SRb := Lib.hid sb
 clear hbn hbd sb
 generalize hs : decide (b.num < 0) = sbn at *
 clear hs
 generalize hs : decide ((b.den : Int) < 0) = sbd at *
 clear hs

 go_enter Tryz.func20, Tryz.ntmps20
 go_wp2_with fail
 obtain ⟨W, hW⟩ : ∃ W, W = (((w.alloc (Obj.cells #[Value.bool san, Value.slice Xan pan qan, Value.bool sad, Value.slice Xad pad qad] 31)).alloc (Obj.cells #[Value.bool sbn, Value.slice Xbn pbn qbn, Value.bool sbd, Value.slice Xbd pbd qbd] 31)).alloc (Obj.cells #[Value.bool false, Value.slice none 0 0, Value.bool false, Value.slice none 0 0] 31)) := ⟨_, rfl⟩
 rw [← hW]
 have QXa : Hid (QBox W (w.heap.size) san (.slice Xan pan qan) sad (.slice Xad pad qad)) := by rw [hW]; have := ((QBox.new w san (Value.slice Xan pan qan) sad (Value.slice Xad pad qad)).alloc (Obj.cells #[Value.bool sbn, Value.slice Xbn pbn qbn, Value.bool sbd, Value.slice Xbd pbd qbd] 31)).alloc (Obj.cells #[Value.bool false, Value.slice none 0 0, Value.bool false, Value.slice none 0 0] 31); simpa [Hid] using this
 have QXb : Hid (QBox W (w.heap.size + 1) sbn (.slice Xbn pbn qbn) sbd (.slice Xbd pbd qbd)) := by rw [hW]; have := (QBox.new (w.alloc (Obj.cells #[Value.bool san, Value.slice Xan pan qan, Value.bool sad, Value.slice Xad pad qad] 31)) sbn (Value.slice Xbn pbn qbn) sbd (Value.slice Xbd pbd qbd)).alloc (Obj.cells #[Value.bool false, Value.slice none 0 0, Value.bool false, Value.slice none 0 0] 31); simpa [Hid] using this
 have RXr : Hid (QBox W (w.heap.size + 1 + 1) false (.slice none 0 0) false (.slice none 0 0)) := by rw [hW]; have := QBox.new ((w.alloc (Obj.cells #[Value.bool san, Value.slice Xan pan qan, Value.bool sad, Value.slice Xad pad qad] 31)).alloc (Obj.cells #[Value.bool sbn, Value.slice Xbn pbn qbn, Value.bool sbd, Value.slice Xbd pbd qbd] 31)) false (Value.slice none 0 0) false (Value.slice none 0 0); simpa [Hid] using this
 have IVna : Hid (Iv W (.agg #[.bool san, .slice Xan pan qan]) (a.num)) := by rw [hW]; exact (((Han.out).alloc _).alloc _).alloc _
 have IVda : Hid (Iv W (.agg #[.bool sad, .slice Xad pad qad]) ((a.den : Int))) := by rw [hW]; exact (((Had.out).alloc _).alloc _).alloc _
 have IVnb : Hid (Iv W (.agg #[.bool sbn, .slice Xbn pbn qbn]) (b.num)) := by rw [hW]; exact (((Hbn.out).alloc _).alloc _).alloc _
 have IVdb : Hid (Iv W (.agg #[.bool sbd, .slice Xbd pbd qbd]) ((b.den : Int))) := by rw [hW]; exact (((Hbd.out).alloc _).alloc _).alloc _
 have DW : Hid (Below w.heap.size w W) := by rw [hW]; exact (((Below.refl _ _).alloc (by simp <;> omega) _).alloc (by simp <;> omega) _).alloc (by simp <;> omega) _
 clear hW
 generalize hg : w.heap.size = g at *
 replace hg := Lib.hid hg
 go_upto_region 1 with fail
 have QVa : Hid (Qv W (.agg #[.bool san, .slice Xan pan qan, .bool sad, .slice Xad pad qad]) (a.num) ((a.den : Int))) := qv_of IVna.out IVda.out
 have QVb : Hid (Qv W (.agg #[.bool sbn, .slice Xbn pbn qbn, .bool sbd, .slice Xbd pbd qbd]) (b.num) ((b.den : Int))) := qv_of IVnb.out IVdb.out
 refine Rg.region_gg W [.is (.agg #[.bool san, .slice Xan pan qan, .bool sad, .slice Xad pad qad]), .is (.agg #[.bool sbn, .slice Xbn pbn qbn, .bool sbd, .slice Xbd pbd qbd]), .sat (pQv ((-b).num) (((-b).den : Int))) (pQv_keep _ _), .sat (pQv ((a + -b).num) (((a + -b).den : Int))) (pQv_keep _ _), .sto (g + 1 + 1) (sQ (g + 1 + 1) ((a + -b).num) (((a + -b).den : Int))) (sQ_keep _ _ _)] [(g + 1 + 1)] [some 5, some 6, some 7, some 8, none] (by kernel_rfl) (by kernel_rfl) (by kernel_rfl) (by kernel_rfl) (by kernel_rfl) (by simp [Rg.stos]) (by rfl) (by rfl) (by kernel_rfl) (by intro g hg; simp only [List.mem_cons, List.not_mem_nil, or_false] at hg; subst hg; exact RXr.out.lt) ((Below.refl _ _).drew) (fun Q' => ?_) (fun K hK wn hs => ?_)
 ·refine ⟨?_, ?_, ?_, ?_, ?_, trivial⟩
  ·intro a' w' ha hs hw hold
   have eo2 : a'.tmps[2]? = some (ptr g) := (ha.rest 2 (by kernel_rfl)).trans rfl
   exact ⟨rfl, .inl ⟨wanted_none rfl, wp_val (run_qload rfl (ev_tmp eo2) (QXa.out.bel hs (by simp only [List.mem_cons, List.not_mem_nil, or_false, not_or]; exact (by omega)))) ⟨rfl, Below.refl _ _⟩⟩⟩
  ·intro a' w' ha hs hw hold
   have eo3 : a'.tmps[3]? = some (ptr (g + 1)) := (ha.rest 3 (by kernel_rfl)).trans rfl
   exact ⟨rfl, .inl ⟨wanted_none rfl, wp_val (run_qload rfl (ev_tmp eo3) (QXb.out.bel hs (by simp only [List.mem_cons, List.not_mem_nil, or_false, not_or]; exact (by omega)))) ⟨rfl, Below.refl _ _⟩⟩⟩
  ·intro a' w' ha hs hw hold
   have e1 : a'.tmps[6]? = some (.agg #[.bool sbn, .slice Xbn pbn qbn, .bool sbd, .slice Xbd pbd qbd]) := Rg.slot_get rfl rfl (hw 1 (by kernel_rfl) _ rfl)
   exact ⟨rfl, wanted_none rfl, call_step rfl Tryz.func24 (by kernel_rfl) rfl (map_one (ev_tmp e1)) (rqneg_any _ b _ (QVb.out.kn hs.kn) (SRb.out.mono (by omega))) (fun e w2 he => by obtain ⟨v, rfl, hv, hb⟩ := he; exact ⟨v, rfl, v, rfl, hv, hb⟩)⟩
  ·intro a' w' ha hs hw hold
   have e0 : a'.tmps[5]? = some (.agg #[.bool san, .slice Xan pan qan, .bool sad, .slice Xad pad qad]) := Rg.slot_get rfl rfl (hw 0 (by kernel_rfl) _ rfl)
   obtain ⟨v2, e2, q2⟩ := hw 2 (by kernel_rfl) _ rfl
   replace e2 : a'.tmps[7]? = some v2 := Rg.slot_get rfl rfl e2
   exact ⟨rfl, wanted_none rfl, call_step rfl Tryz.func18 (by kernel_rfl) rfl (map_two (ev_tmp e0) (ev_tmp e2)) (rqadd_any _ _ a (-b) _ (QVa.out.kn hs.kn) SRa.out q2 SRb.out.neg) (fun e w2 he => by obtain ⟨v, rfl, hv, hb⟩ := he; exact ⟨v, rfl, v, rfl, hv, hb⟩)⟩
  ·intro a' w' ha hs hw hold
   obtain ⟨v3, e3, q3⟩ := hw 3 (by kernel_rfl) _ rfl
   replace e3 : a'.tmps[8]? = some v3 := Rg.slot_get rfl rfl e3
   have eo4 : a'.tmps[4]? = some (ptr (g + 1 + 1)) := (ha.rest 4 (by kernel_rfl)).trans rfl
   exact ⟨rfl, wanted_none rfl, fun he => step_stoq rfl rfl (ev_tmp eo4) (ev_tmp e3) q3 RXr.out he⟩
 simp only [Rg.allG]
 intro r1x2 _
 intro r1x3 _
 intro hSr
 simp only [setOpt, Rg.setOpt, List.set_cons_succ, List.set_cons_zero]
 refine hK _ _ ?_
 clear hK K
 have DN : Hid (Below g w wn) := hs.base DW.out (by have := hg.out; omega) (by simp only [List.mem_cons, List.not_mem_nil, or_false]; omega)
 obtain ⟨Ar, ir, cr, Br, jr, dr, hcr, hir, hjr⟩ := hSr
 have kra := hcr.cell0; have krb := hcr.cell1; have krc := hcr.cell2; have krd := hcr.cell3
 have HIr := Lib.hid hir; clear hir
 have HJr := Lib.hid hjr; clear hjr
 go_wp2
 exact bodyPost_ret (v := .agg #[.bool (decide ((a + -b).num < 0)), .slice Ar ir cr, .bool (decide (((a + -b).den : Int) < 0)), .slice Br jr dr]) (by simp [results, Tryz.results20, go_sem, kra, krb, krc, krd]) rfl ⟨_, rfl, ⟨Ar, ir, cr, Br, jr, dr, rfl, HIr.out, HJr.out⟩, by rw [hg.out]; exact DN.out⟩

set_option maxHeartbeats 8000000 in
set_option maxRecDepth 100000 in
theorem rqWhole_any (z : Int) (w : World) (h1 : -9223372036854775808 ≤ z) (h2 : z ≤ 9223372036854775807) : Calls Tryz.prog 26 #[.int .i64 z] w (RetQ (z : Rat).num (z : Rat).den w) := by
 rw [Rat.num_intCast, Rat.den_intCast]
 have HZ : Hid (-9223372036854775808 ≤ z ∧ z ≤ 9223372036854775807) := ⟨h1, h2⟩
 clear h1 h2
 go_enter Tryz.func26, Tryz.ntmps26
 go_wp2_with fail
 obtain ⟨W, hW⟩ : ∃ W, W = (w.alloc (Obj.cells #[Value.bool false, Value.slice none 0 0, Value.bool false, Value.slice none 0 0] 31)) := ⟨_, rfl⟩
 rw [← hW]
 have RXr : Hid (QBox W (w.heap.size) false (.slice none 0 0) false (.slice none 0 0)) := by rw [hW]; have := QBox.new w false (Value.slice none 0 0) false (Value.slice none 0 0); simpa [Hid] using this
 have DW : Hid (Below w.heap.size w W) := by rw [hW]; exact (Below.refl _ _).alloc (by simp <;> omega) _
 clear hW
 generalize hg : w.heap.size = g at *
 replace hg := Lib.hid hg
 go_wp2_with fail
 refine (rof_any z _ HZ.out.1 HZ.out.2).mono ?_
 rintro e y1 ⟨v1, rfl, hv1, hb⟩
 have HV1 := Lib.hid hv1; clear hv1
 replace RXr := Lib.hid (RXr.out.next hb rfl)
 replace DW := nxd DW hg hb rfl rfl rfl rfl
 clear hb
 go_wp2_with fail
 refine (rof_any 1 _ (by omega) (by omega)).mono ?_
 rintro e y2 ⟨v2, rfl, hv2, hb⟩
 obtain ⟨A2, n2, c2, rfl, _, _, _⟩ := hv2.form
 have HV2 := Lib.hid hv2; clear hv2
 replace HV1 := Lib.hid (iv_next HV1.out hb rfl)
 obtain ⟨A1, n1, c1, rfl, _, _, _⟩ := HV1.out.form
 replace RXr := Lib.hid (RXr.out.next hb rfl)
 replace DW := nxd DW hg hb rfl rfl rfl rfl
 clear hb
 generalize hs1 : decide (z < 0) = s1 at *
 replace hs1 := Lib.hid hs1
 have e2 : decide ((1 : Int) < 0) = false := by decide
 rw [e2] at HV2
 rw [e2]
 have u1a := RXr.out.cell0; have u1b := RXr.out.cell1; have u1c := RXr.out.cell2; have u1d := RXr.out.cell3; have u1f := RXr.out.frozen 0; have u1g := RXr.out.frozen 1; have u1h := RXr.out.frozen 2; have u1i := RXr.out.frozen 3
 go_wp2
 refine bodyPost_ret (v := .agg #[.bool s1, .slice A1 n1 c1, .bool false, .slice A2 n2 c2]) (by simp [results, Tryz.results26, go_sem, u1a, u1b, u1c, u1d, u1f, u1g, u1h, u1i]) rfl ⟨_, rfl, ?_, by rw [hg.out]; exact (((DW.out.setCell (by simp <;> omega) _).setCell (by simp <;> omega) _).setCell (by simp <;> omega) _).setCell (by simp <;> omega) _⟩
 have hc := chg_qbox (b' := s1) (d' := false) (A' := A1) (n' := n1) (c' := c1) (B' := A2) (m' := n2) (e' := c2) RXr.out
 exact qv_of (HV1.out.kn hc.kn) (HV2.out.kn hc.kn)

set_option maxHeartbeats 8000000 in
set_option maxRecDepth 100000 in
theorem rqsign_any (va : Value) (a : Rat) (w : World) (ha : Qv w va a.num a.den) (sa : Sr a 1000000) : Calls Tryz.prog 38 #[va] w (RetV (.int .i64 (sg a.num)) w) := by
 obtain ⟨Xan, pan, qan, Xad, pad, qad, rfl, han, had⟩ := ha
 have Han := Lib.hid han
 have Had := Lib.hid had
 have SRa := Lib.hid sa
 clear han had sa
 generalize hs : decide (a.num < 0) = san at *
 clear hs
 generalize hs : decide ((a.den : Int) < 0) = sad at *
 clear hs

 go_enter Tryz.func38, Tryz.ntmps38
 go_wp2_with fail
 obtain ⟨W, hW⟩ : ∃ W, W = (w.alloc (Obj.cells #[Value.bool san, Value.slice Xan pan qan, Value.bool sad, Value.slice Xad pad qad] 31)) := ⟨_, rfl⟩
 rw [← hW]
 have QXa : Hid (QBox W (w.heap.size) san (.slice Xan pan qan) sad (.slice Xad pad qad)) := by rw [hW]; have := QBox.new w san (Value.slice Xan pan qan) sad (Value.slice Xad pad qad); simpa [Hid] using this
 have IVna : Hid (Iv W (.agg #[.bool san, .slice Xan pan qan]) (a.num)) := by rw [hW]; exact (Han.out).alloc _
 have IVda : Hid (Iv W (.agg #[.bool sad, .slice Xad pad qad]) ((a.den : Int))) := by rw [hW]; exact (Had.out).alloc _
 have DW : Hid (Below w.heap.size w W) := by rw [hW]; exact (Below.refl _ _).alloc (by simp <;> omega) _
 clear hW
 generalize hg : w.heap.size = g at *
 replace hg := Lib.hid hg
 go_upto_region 1 with fail
 have u1a := QXa.out.cell0; have u1b := QXa.out.cell1; have u1c := QXa.out.cell2; have u1d := QXa.out.cell3
 go_wp2_with fail
 clear u1a u1b u1c u1d
 refine (rsign_any _ a.num _ IVna.out).mono ?_
 rintro e y2 ⟨rfl, hb⟩
 replace QXa := nxq QXa hb rfl; replace IVna := nxv IVna hb rfl; replace IVda := nxv IVda hb rfl
 replace DW := nxd DW hg hb rfl rfl rfl rfl
 clear hb
 go_wp2
 go_ret
 exact ⟨rfl, by rw [hg.out]; exact DW.out⟩

set_option maxHeartbeats 8000000 in
set_option maxRecDepth 100000 in
theorem rqcmp_any (va vb : Value) (a b : Rat) (w : World) (ha : Qv w va a.num a.den) (sa : Sr a 100000) (hb : Qv w vb b.num b.den) (sb : Sr b 100000) : Calls Tryz.prog 40 #[va, vb] w (RetV (.int .i64 (cq a b)) w) := by
 unfold cq
 obtain ⟨Xan, pan, qan, Xad, pad, qad, rfl, han, had⟩ := ha
 have Han := Lib.hid han
 have Had := Lib.hid had
 have SRa := Lib.hid sa
 clear han had sa
 generalize hs : decide (a.num < 0) = san at *
 clear hs
 generalize hs : decide ((a.den : Int) < 0) = sad at *
 clear hs
 obtain ⟨Xbn, pbn, qbn, Xbd, pbd, qbd, rfl, hbn, hbd⟩ := hb
 have Hbn := Lib.hid hbn
 have Hbd := Lib.hid hbd
 have SRb := Lib.hid sb
 clear hbn hbd sb
 generalize hs : decide (b.num < 0) = sbn at *
 clear hs
 generalize hs : decide ((b.den : Int) < 0) = sbd at *
 clear hs

 go_enter Tryz.func40, Tryz.ntmps40
 go_wp2_with fail
 obtain ⟨W, hW⟩ : ∃ W, W = ((w.alloc (Obj.cells #[Value.bool san, Value.slice Xan pan qan, Value.bool sad, Value.slice Xad pad qad] 31)).alloc (Obj.cells #[Value.bool sbn, Value.slice Xbn pbn qbn, Value.bool sbd, Value.slice Xbd pbd qbd] 31)) := ⟨_, rfl⟩
 rw [← hW]
 have QXa : Hid (QBox W (w.heap.size) san (.slice Xan pan qan) sad (.slice Xad pad qad)) := by rw [hW]; have := (QBox.new w san (Value.slice Xan pan qan) sad (Value.slice Xad pad qad)).alloc (Obj.cells #[Value.bool sbn, Value.slice Xbn pbn qbn, Value.bool sbd, Value.slice Xbd pbd qbd] 31); simpa [Hid] using this
 have QXb : Hid (QBox W (w.heap.size + 1) sbn (.slice Xbn pbn qbn) sbd (.slice Xbd pbd qbd)) := by rw [hW]; have := QBox.new (w.alloc (Obj.cells #[Value.bool san, Value.slice Xan pan qan, Value.bool sad, Value.slice Xad pad qad] 31)) sbn (Value.slice Xbn pbn qbn) sbd (Value.slice Xbd pbd qbd); simpa [Hid] using this
 have IVna : Hid (Iv W (.agg #[.bool san, .slice Xan pan qan]) (a.num)) := by rw [hW]; exact ((Han.out).alloc _).alloc _
 have IVda : Hid (Iv W (.agg #[.bool sad, .slice Xad pad qad]) ((a.den : Int))) := by rw [hW]; exact ((Had.out).alloc _).alloc _
 have IVnb : Hid (Iv W (.agg #[.bool sbn, .slice Xbn pbn qbn]) (b.num)) := by rw [hW]; exact ((Hbn.out).alloc _).alloc _
 have IVdb : Hid (Iv W (.agg #[.bool sbd, .slice Xbd pbd qbd]) ((b.den : Int))) := by rw [hW]; exact ((Hbd.out).alloc _).alloc _
 have DW : Hid (Below w.heap.size w W) := by rw [hW]; exact ((Below.refl _ _).alloc (by simp <;> omega) _).alloc (by simp <;> omega) _
 clear hW
 generalize hg : w.heap.size = g at *
 replace hg := Lib.hid hg
 go_upto_region 1 with fail
 refine Rg.region_gg W [.is (.pointer (some ⟨g, 0, none⟩)), .is (.agg #[.bool san, .slice Xan pan qan]), .is (.pointer (some ⟨(g + 1), 2, none⟩)), .is (.agg #[.bool sbd, .slice Xbd pbd qbd]), .sat (pIv (a.num * (b.den : Int))) (pIv_keep _), .is (.pointer (some ⟨(g + 1), 0, none⟩)), .is (.agg #[.bool sbn, .slice Xbn pbn qbn]), .is (.pointer (some ⟨g, 2, none⟩)), .is (.agg #[.bool sad, .slice Xad pad qad]), .sat (pIv (b.num * (a.den : Int))) (pIv_keep _), .is (Value.int IntKind.i64 (cmpZ (a.num * (b.den : Int)) (b.num * (a.den : Int)))), .is (Value.int IntKind.i64 (cmpZ (a.num * (b.den : Int)) (b.num * (a.den : Int))))] [] [some 5, some 6, some 7, some 8, some 9, some 10, some 11, some 12, some 13, some 14, some 15, some 4] (by kernel_rfl) (by kernel_rfl) (by kernel_rfl) (by kernel_rfl) (by kernel_rfl) (by simp [Rg.stos]) (by rfl) (by rfl) (by kernel_rfl) (by simp) ((Below.refl _ _).drew) (fun Q' => ?_) (fun K hK wn hs => ?_)
 ·refine ⟨?_, ?_, ?_, ?_, ?_, ?_, ?_, ?_, ?_, ?_, ?_, ?_, trivial⟩
  ·intro a' w' ha hs hw hold
   have eo2 : a'.tmps[2]? = some (ptr g) := (ha.rest 2 (by kernel_rfl)).trans rfl
   exact ⟨rfl, .inl ⟨wanted_none rfl, wp_val (run_qfield0 rfl (ev_tmp eo2)) ⟨rfl, Below.refl _ _⟩⟩⟩
  ·intro a' w' ha hs hw hold
   have e0 : a'.tmps[5]? = some (.pointer (some ⟨g, 0, none⟩)) := Rg.slot_get rfl rfl (hw 0 (by kernel_rfl) _ rfl)
   exact ⟨rfl, .inl ⟨wanted_none rfl, wp_val (run_qload0 rfl (ev_tmp e0) (QXa.out.bel hs (by simp))) ⟨rfl, Below.refl _ _⟩⟩⟩
  ·intro a' w' ha hs hw hold
   have eo3 : a'.tmps[3]? = some (ptr (g + 1)) := (ha.rest 3 (by kernel_rfl)).trans rfl
   exact ⟨rfl, .inl ⟨wanted_none rfl, wp_val (run_qfield1 rfl (ev_tmp eo3)) ⟨rfl, Below.refl _ _⟩⟩⟩
  ·intro a' w' ha hs hw hold
   have e2 : a'.tmps[7]? = some (.pointer (some ⟨(g + 1), 2, none⟩)) := Rg.slot_get rfl rfl (hw 2 (by kernel_rfl) _ rfl)
   exact ⟨rfl, .inl ⟨wanted_none rfl, wp_val (run_qload1 rfl (ev_tmp e2) (QXb.out.bel hs (by simp))) ⟨rfl, Below.refl _ _⟩⟩⟩
  ·intro a' w' ha hs hw hold
   have e1 : a'.tmps[6]? = some (.agg #[.bool san, .slice Xan pan qan]) := Rg.slot_get rfl rfl (hw 1 (by kernel_rfl) _ rfl)
   have e3 : a'.tmps[8]? = some (.agg #[.bool sbd, .slice Xbd pbd qbd]) := Rg.slot_get rfl rfl (hw 3 (by kernel_rfl) _ rfl)
   exact ⟨rfl, wanted_none rfl, call_step rfl Tryz.func91 (by kernel_rfl) rfl (map_two (ev_tmp e1) (ev_tmp e3)) (rmul_any _ _ (a.num) ((b.den : Int)) _ (IVna.out.kn hs.kn) (IVdb.out.kn hs.kn) (SRa.out.num.mono (by omega)) (SRb.out.den.mono (by omega))) (fun e w2 he => by obtain ⟨v, rfl, hv, hb⟩ := he; exact ⟨v, rfl, v, rfl, hv, hb⟩)⟩
  ·intro a' w' ha hs hw hold
   have eo3 : a'.tmps[3]? = some (ptr (g + 1)) := (ha.rest 3 (by kernel_rfl)).trans rfl
   exact ⟨rfl, .inl ⟨wanted_none rfl, wp_val (run_qfield0 rfl (ev_tmp eo3)) ⟨rfl, Below.refl _ _⟩⟩⟩
  ·intro a' w' ha hs hw hold
   have e5 : a'.tmps[10]? = some (.pointer (some ⟨(g + 1), 0, none⟩)) := Rg.slot_get rfl rfl (hw 5 (by kernel_rfl) _ rfl)
   exact ⟨rfl, .inl ⟨wanted_none rfl, wp_val (run_qload0 rfl (ev_tmp e5) (QXb.out.bel hs (by simp))) ⟨rfl, Below.refl _ _⟩⟩⟩
  ·intro a' w' ha hs hw hold
   have eo2 : a'.tmps[2]? = some (ptr g) := (ha.rest 2 (by kernel_rfl)).trans rfl
   exact ⟨rfl, .inl ⟨wanted_none rfl, wp_val (run_qfield1 rfl (ev_tmp eo2)) ⟨rfl, Below.refl _ _⟩⟩⟩
  ·intro a' w' ha hs hw hold
   have e7 : a'.tmps[12]? = some (.pointer (some ⟨g, 2, none⟩)) := Rg.slot_get rfl rfl (hw 7 (by kernel_rfl) _ rfl)
   exact ⟨rfl, .inl ⟨wanted_none rfl, wp_val (run_qload1 rfl (ev_tmp e7) (QXa.out.bel hs (by simp))) ⟨rfl, Below.refl _ _⟩⟩⟩
  ·intro a' w' ha hs hw hold
   have e6 : a'.tmps[11]? = some (.agg #[.bool sbn, .slice Xbn pbn qbn]) := Rg.slot_get rfl rfl (hw 6 (by kernel_rfl) _ rfl)
   have e8 : a'.tmps[13]? = some (.agg #[.bool sad, .slice Xad pad qad]) := Rg.slot_get rfl rfl (hw 8 (by kernel_rfl) _ rfl)
   exact ⟨rfl, wanted_none rfl, call_step rfl Tryz.func91 (by kernel_rfl) rfl (map_two (ev_tmp e6) (ev_tmp e8)) (rmul_any _ _ (b.num) ((a.den : Int)) _ (IVnb.out.kn hs.kn) (IVda.out.kn hs.kn) (SRb.out.num.mono (by omega)) (SRa.out.den.mono (by omega))) (fun e w2 he => by obtain ⟨v, rfl, hv, hb⟩ := he; exact ⟨v, rfl, v, rfl, hv, hb⟩)⟩
  ·intro a' w' ha hs hw hold
   obtain ⟨v4, e4, q4⟩ := hw 4 (by kernel_rfl) _ rfl
   replace e4 : a'.tmps[9]? = some v4 := Rg.slot_get rfl rfl e4
   obtain ⟨v9, e9, q9⟩ := hw 9 (by kernel_rfl) _ rfl
   replace e9 : a'.tmps[14]? = some v9 := Rg.slot_get rfl rfl e9
   exact ⟨rfl, .inl ⟨wanted_none rfl, call_step rfl Tryz.func109 (by kernel_rfl) rfl (map_two (ev_tmp e4) (ev_tmp e9)) (rcmp_any _ _ (a.num * (b.den : Int)) (b.num * (a.den : Int)) _ q4 q9 (((SRa.out.num).mul (SRb.out.den)).mono (by omega)) (((SRb.out.num).mul (SRa.out.den)).mono (by omega))) (fun e w2 he => by obtain ⟨rfl, hb⟩ := he; exact ⟨_, rfl, rfl, hb⟩)⟩⟩
  ·intro a' w' ha hs hw hold
   have e10 : a'.tmps[15]? = some (Value.int IntKind.i64 (cmpZ (a.num * (b.den : Int)) (b.num * (a.den : Int)))) := Rg.slot_get rfl rfl (hw 10 (by kernel_rfl) _ rfl)
   exact ⟨rfl, .inl ⟨wanted_none rfl, wp_val (run_assign rfl (ev_tmp e10)) ⟨rfl, Below.refl _ _⟩⟩⟩
 simp only [Rg.allG]
 intro r1x4 _
 intro r1x9 _
 simp only [setOpt, Rg.setOpt, List.set_cons_succ, List.set_cons_zero]
 refine hK _ _ ?_
 clear hK K
 replace hs := hs.below
 replace QXa := nxq QXa hs rfl; replace IVna := nxv IVna hs rfl; replace IVda := nxv IVda hs rfl
 replace QXb := nxq QXb hs rfl; replace IVnb := nxv IVnb hs rfl; replace IVdb := nxv IVdb hs rfl
 replace DW := nxd DW hg hs rfl rfl rfl rfl
 clear hs
 go_wp2
 go_ret
 exact ⟨rfl, by rw [hg.out]; exact DW.out⟩

set_option maxHeartbeats 8000000 in
set_option maxRecDepth 100000 in
theorem rqfloor_any (va : Value) (a : Rat) (w : World) (ha : Qv w va a.num a.den) (sa : Sr a 1000000) : Calls Tryz.prog 36 #[va] w (RetIv (a.num / a.den) w) := by
 obtain ⟨Xan, pan, qan, Xad, pad, qad, rfl, han, had⟩ := ha
 have Han := Lib.hid han
 have Had := Lib.hid had
 have SRa := Lib.hid sa
 clear han had sa
 generalize hs : decide (a.num < 0) = san at *
 clear hs
 generalize hs : decide ((a.den : Int) < 0) = sad at *
 clear hs
 have hd0 : Hid ((a.den : Int) ≠ 0) := by have := den_cast a; unfold Hid; omega
 obtain ⟨F, hF⟩ : ∃ F, a.num / (a.den : Int) = F := ⟨_, rfl⟩
 obtain ⟨M, hM⟩ : ∃ F, a.num % (a.den : Int) = F := ⟨_, rfl⟩
 rw [hF]
 replace hF := Lib.hid hF; replace hM := Lib.hid hM

 go_enter Tryz.func36, Tryz.ntmps36
 go_wp2_with fail
 obtain ⟨W, hW⟩ : ∃ W, W = ((w.alloc (Obj.cells #[Value.bool san, Value.slice Xan pan qan, Value.bool sad, Value.slice Xad pad qad] 31)).alloc (Obj.cells #[Value.bool false, Value.slice none 0 0] 29)) := ⟨_, rfl⟩
 rw [← hW]
 have QXa : Hid (QBox W (w.heap.size) san (.slice Xan pan qan) sad (.slice Xad pad qad)) := by rw [hW]; have := (QBox.new w san (Value.slice Xan pan qan) sad (Value.slice Xad pad qad)).alloc (Obj.cells #[Value.bool false, Value.slice none 0 0] 29); simpa [Hid] using this
 have RXr : Hid (Box W (w.heap.size + 1) false (.slice none 0 0)) := by rw [hW]; have := Box.new (w.alloc (Obj.cells #[Value.bool san, Value.slice Xan pan qan, Value.bool sad, Value.slice Xad pad qad] 31)) false (Value.slice none 0 0); simpa [Hid] using this
 have IVna : Hid (Iv W (.agg #[.bool san, .slice Xan pan qan]) (a.num)) := by rw [hW]; exact ((Han.out).alloc _).alloc _
 have IVda : Hid (Iv W (.agg #[.bool sad, .slice Xad pad qad]) ((a.den : Int))) := by rw [hW]; exact ((Had.out).alloc _).alloc _
 have DW : Hid (Below w.heap.size w W) := by rw [hW]; exact ((Below.refl _ _).alloc (by simp <;> omega) _).alloc (by simp <;> omega) _
 clear hW
 generalize hg : w.heap.size = g at *
 replace hg := Lib.hid hg
 go_upto_region 1 with fail
 have u1a := QXa.out.cell0; have u1b := QXa.out.cell1; have u1c := QXa.out.cell2; have u1d := QXa.out.cell3
 go_wp2_with fail
 clear u1a u1b u1c u1d
 refine (rdivMod_any _ _ a.num (a.den : Int) _ IVna.out IVda.out SRa.out.num SRa.out.den hd0.out).mono ?_
 rintro e y2 ⟨_, _, rfl, hq0, hq1, hb⟩
 rw [hF.out] at hq0
 rw [hM.out] at hq1
 obtain ⟨Xu, pu, qu, rfl, _, _, _⟩ := hq0.form
 have Qu := Lib.hid hq0; clear hq0
 obtain ⟨Xv, pv, qv, rfl, _, _, _⟩ := hq1.form
 have Qv := Lib.hid hq1; clear hq1
 have B := Lib.hid hb; clear hb
 generalize hs : decide ((F : Int) < 0) = su at *
 clear hs
 generalize hs : decide ((M : Int) < 0) = sv at *
 clear hs
 go_upto_region 2 with fail
 obtain ⟨W3, hW⟩ : ∃ W3, W3 = ((y2.alloc (Obj.cells #[Value.bool su, Value.slice Xu pu qu] 29)).alloc (Obj.cells #[Value.bool sv, Value.slice Xv pv qv] 29)) := ⟨_, rfl⟩
 rw [← hW]
 have BXu : Hid (Box W3 (y2.heap.size) su (.slice Xu pu qu)) := by rw [hW]; have := (Box.new y2 su (.slice Xu pu qu)).alloc (Obj.cells #[Value.bool sv, Value.slice Xv pv qv] 29); simpa [Hid] using this
 have IVu : Hid (Iv W3 (.agg #[.bool su, .slice Xu pu qu]) (F)) := by rw [hW]; exact ((Qu.out).alloc _).alloc _
 have BXv : Hid (Box W3 (y2.heap.size + 1) sv (.slice Xv pv qv)) := by rw [hW]; have := Box.new (y2.alloc (Obj.cells #[Value.bool su, Value.slice Xu pu qu] 29)) sv (.slice Xv pv qv); simpa [Hid] using this
 have IVv : Hid (Iv W3 (.agg #[.bool sv, .slice Xv pv qv]) (M)) := by rw [hW]; exact ((Qv.out).alloc _).alloc _
 have hd : Below W.heap.size W W3 := by rw [hW]; exact ((B.out).alloc (by have := B.out.size; simp <;> omega) _).alloc (by have := B.out.size; simp <;> omega) _
 have NEvr : Hid ((y2.heap.size + 1) ≠ (g + 1)) := by have := RXr.out.lt; have := B.out.size; unfold Hid; omega
 have NEur : Hid ((y2.heap.size) ≠ (g + 1)) := by have := RXr.out.lt; have := B.out.size; unfold Hid; omega
 clear hW B Qu Qv
 generalize hgn3 : y2.heap.size + 1 = gv at *
 clear hgn3
 generalize hgn3 : y2.heap.size = gu at *
 clear hgn3
 replace QXa := nxq QXa hd rfl; replace IVna := nxv IVna hd rfl; replace IVda := nxv IVda hd rfl
 replace RXr := Lib.hid (RXr.out.next hd rfl)
 replace DW := nxd DW hg hd rfl rfl rfl rfl
 clear hd
 have u4a := BXu.out.cell0; have u4b := BXu.out.cell1
 have u5a := RXr.out.cell0; have u5b := RXr.out.cell1; have u5f := RXr.out.frozen 0; have u5g := RXr.out.frozen 1
 go_wp2
 refine bodyPost_ret (v := .agg #[.bool su, .slice Xu pu qu]) (by simp [results, Tryz.results36, go_sem, u4a, u4b, u5a, u5b, u5f, u5g]) rfl ⟨_, rfl, ?_, by rw [hg.out]; exact (DW.out.setCell (by simp <;> omega) _).setCell (by simp <;> omega) _⟩
 exact iv_keep IVu.out RXr.out _

set_option maxHeartbeats 8000000 in
set_option maxRecDepth 100000 in
theorem rqbits_any (va : Value) (a : Rat) (w : World) (ha : Qv w va a.num a.den) (sa : Sr a 200000) : Calls Tryz.prog 42 #[va] w (RetV (.int .i64 ((bl a.num.natAbs : Nat) + (bl (a.den : Int).natAbs : Nat))) w) := by
 obtain ⟨Xan, pan, qan, Xad, pad, qad, rfl, han, had⟩ := ha
 have Han := Lib.hid han
 have Had := Lib.hid had
 have SRa := Lib.hid sa
 clear han had sa
 generalize hs : decide (a.num < 0) = san at *
 clear hs
 generalize hs : decide ((a.den : Int) < 0) = sad at *
 clear hs
 have HB : Hid (-9223372036854775808 ≤ ((bl a.num.natAbs : Nat) : Int) + (bl (a.den : Int).natAbs : Nat) ∧ ((bl a.num.natAbs : Nat) : Int) + (bl (a.den : Int).natAbs : Nat) ≤ 9223372036854775807) := by
  have h1 := bl_sz SRa.out.num
  have h2 := bl_sz SRa.out.den
  unfold Hid; omega

 go_enter Tryz.func42, Tryz.ntmps42
 go_wp2_with fail
 obtain ⟨W, hW⟩ : ∃ W, W = (w.alloc (Obj.cells #[Value.bool san, Value.slice Xan pan qan, Value.bool sad, Value.slice Xad pad qad] 31)) := ⟨_, rfl⟩
 rw [← hW]
 have QXa : Hid (QBox W (w.heap.size) san (.slice Xan pan qan) sad (.slice Xad pad qad)) := by rw [hW]; have := QBox.new w san (Value.slice Xan pan qan) sad (Value.slice Xad pad qad); simpa [Hid] using this
 have IVna : Hid (Iv W (.agg #[.bool san, .slice Xan pan qan]) (a.num)) := by rw [hW]; exact (Han.out).alloc _
 have IVda : Hid (Iv W (.agg #[.bool sad, .slice Xad pad qad]) ((a.den : Int))) := by rw [hW]; exact (Had.out).alloc _
 have DW : Hid (Below w.heap.size w W) := by rw [hW]; exact (Below.refl _ _).alloc (by simp <;> omega) _
 clear hW
 generalize hg : w.heap.size = g at *
 replace hg := Lib.hid hg
 go_upto_region 1 with fail
 refine Rg.region_gg W [.is (.pointer (some ⟨g, 0, none⟩)), .is (.agg #[.bool san, .slice Xan pan qan]), .is (Value.int IntKind.i64 (bl a.num.natAbs : Nat)), .is (.pointer (some ⟨g, 2, none⟩)), .is (.agg #[.bool sad, .slice Xad pad qad]), .is (Value.int IntKind.i64 (bl (a.den : Int).natAbs : Nat)), .is (Value.int IntKind.i64 ((bl a.num.natAbs : Nat) + (bl (a.den : Int).natAbs : Nat))), .is (Value.int IntKind.i64 ((bl a.num.natAbs : Nat) + (bl (a.den : Int).natAbs : Nat)))] [] [some 3, some 4, some 5, some 6, some 7, some 8, some 9, some 2] (by kernel_rfl) (by kernel_rfl) (by kernel_rfl) (by kernel_rfl) (by kernel_rfl) (by simp [Rg.stos]) (by rfl) (by rfl) (by kernel_rfl) (by simp) ((Below.refl _ _).drew) (fun Q' => ?_) (fun K hK wn hs => ?_)
 ·refine ⟨?_, ?_, ?_, ?_, ?_, ?_, ?_, ?_, trivial⟩
  ·intro a' w' ha hs hw hold
   have eo1 : a'.tmps[1]? = some (ptr g) := (ha.rest 1 (by kernel_rfl)).trans rfl
   exact ⟨rfl, .inl ⟨wanted_none rfl, wp_val (run_qfield0 rfl (ev_tmp eo1)) ⟨rfl, Below.refl _ _⟩⟩⟩
  ·intro a' w' ha hs hw hold
   have e0 : a'.tmps[3]? = some (.pointer (some ⟨g, 0, none⟩)) := Rg.slot_get rfl rfl (hw 0 (by kernel_rfl) _ rfl)
   exact ⟨rfl, .inl ⟨wanted_none rfl, wp_val (run_qload0 rfl (ev_tmp e0) (QXa.out.bel hs (by simp))) ⟨rfl, Below.refl _ _⟩⟩⟩
  ·intro a' w' ha hs hw hold
   have e1 : a'.tmps[4]? = some (.agg #[.bool san, .slice Xan pan qan]) := Rg.slot_get rfl rfl (hw 1 (by kernel_rfl) _ rfl)
   exact ⟨rfl, .inl ⟨wanted_none rfl, call_step rfl Tryz.func111 (by kernel_rfl) rfl (map_one (ev_tmp e1)) (rbits_any _ a.num _ (IVna.out.kn hs.kn) (SRa.out.num.mono (by omega))) (fun e w2 he => by obtain ⟨rfl, hb⟩ := he; exact ⟨_, rfl, rfl, hb⟩)⟩⟩
  ·intro a' w' ha hs hw hold
   have eo1 : a'.tmps[1]? = some (ptr g) := (ha.rest 1 (by kernel_rfl)).trans rfl
   exact ⟨rfl, .inl ⟨wanted_none rfl, wp_val (run_qfield1 rfl (ev_tmp eo1)) ⟨rfl, Below.refl _ _⟩⟩⟩
  ·intro a' w' ha hs hw hold
   have e3 : a'.tmps[6]? = some (.pointer (some ⟨g, 2, none⟩)) := Rg.slot_get rfl rfl (hw 3 (by kernel_rfl) _ rfl)
   exact ⟨rfl, .inl ⟨wanted_none rfl, wp_val (run_qload1 rfl (ev_tmp e3) (QXa.out.bel hs (by simp))) ⟨rfl, Below.refl _ _⟩⟩⟩
  ·intro a' w' ha hs hw hold
   have e4 : a'.tmps[7]? = some (.agg #[.bool sad, .slice Xad pad qad]) := Rg.slot_get rfl rfl (hw 4 (by kernel_rfl) _ rfl)
   exact ⟨rfl, .inl ⟨wanted_none rfl, call_step rfl Tryz.func111 (by kernel_rfl) rfl (map_one (ev_tmp e4)) (rbits_any _ (a.den : Int) _ (IVda.out.kn hs.kn) (SRa.out.den.mono (by omega))) (fun e w2 he => by obtain ⟨rfl, hb⟩ := he; exact ⟨_, rfl, rfl, hb⟩)⟩⟩
  ·intro a' w' ha hs hw hold
   have e2 : a'.tmps[5]? = some (Value.int IntKind.i64 (bl a.num.natAbs : Nat)) := Rg.slot_get rfl rfl (hw 2 (by kernel_rfl) _ rfl)
   have e5 : a'.tmps[8]? = some (Value.int IntKind.i64 (bl (a.den : Int).natAbs : Nat)) := Rg.slot_get rfl rfl (hw 5 (by kernel_rfl) _ rfl)
   exact ⟨rfl, .inl ⟨wanted_none rfl, wp_val (run_add_i64 rfl (ev_tmp e2) (ev_tmp e5) HB.out) ⟨rfl, Below.refl _ _⟩⟩⟩
  ·intro a' w' ha hs hw hold
   have e6 : a'.tmps[9]? = some (Value.int IntKind.i64 ((bl a.num.natAbs : Nat) + (bl (a.den : Int).natAbs : Nat))) := Rg.slot_get rfl rfl (hw 6 (by kernel_rfl) _ rfl)
   exact ⟨rfl, .inl ⟨wanted_none rfl, wp_val (run_assign rfl (ev_tmp e6)) ⟨rfl, Below.refl _ _⟩⟩⟩
 simp only [Rg.allG]
 simp only [setOpt, Rg.setOpt, List.set_cons_succ, List.set_cons_zero]
 refine hK _ _ ?_
 clear hK K
 replace hs := hs.below
 replace QXa := nxq QXa hs rfl; replace IVna := nxv IVna hs rfl; replace IVda := nxv IVda hs rfl
 replace DW := nxd DW hg hs rfl rfl rfl rfl
 clear hs
 go_wp2
 go_ret
 exact ⟨rfl, by rw [hg.out]; exact DW.out⟩
end Go.Proofs.YtfigimfdojbkeaaGreat
