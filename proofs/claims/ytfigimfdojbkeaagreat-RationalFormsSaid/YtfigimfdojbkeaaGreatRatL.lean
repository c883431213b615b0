/-
  The program's functions on fractions.
-/
import Derived.Test.YtfigimfdojbkeaaGreatRatK
import Derived.Deep.DeepCutAuto
import Derived.Handy
set_option linter.unusedSimpArgs false
set_option linter.unusedVariables false
namespace Go.Proofs.YtfigimfdojbkeaaGreat
open Go.RowKit
attribute [local go_sem ↓] Go.wp_at_zero Go.wp_at_succ

set_option maxHeartbeats 8000000 in
set_option maxRecDepth 100000 in
theorem simplest_at (va vb : Value) (a b : Rat) (N : Nat) (w : World) (ha : Qv w va a.num a.den) (sa : Sr a 10000) (hb : Qv w vb b.num b.den) (sb : Sr b 10000) (hok : SOk N a.num a.den b.num b.den 1 0 0 1) : Calls Tryz.prog 103 #[va, vb] w (RetQ (srch N a.num a.den b.num b.den 1 0 0 1).1 (srch N a.num a.den b.num b.den 1 0 0 1).2 w) := by
  obtain ⟨Xan, pan, qan, Xad, pad, qad, rfl, han, had⟩ := ha
  have Han := Lib.hid han
  have Had := Lib.hid had
  have SRa := Lib.hid sa
  clear han had sa
  generalize hs : decide (a.num < 0) = san at *
  clear hs
  generalize hs : decide ((a.den : Int) < 0) = sad at *
  clear hs
  obtain ⟨Xbn, pbn, qbn, Xbd, pbd, qbd, rfl, hbn, hbd⟩ := hb
  have Hbn := Lib.hid hbn
  have Hbd := Lib.hid hbd
  have SRb := Lib.hid sb
  clear hbn hbd sb
  generalize hs : decide (b.num < 0) = sbn at *
  clear hs
  generalize hs : decide ((b.den : Int) < 0) = sbd at *
  clear hs
  replace hok := Lib.hid hok
  obtain ⟨H1, eH⟩ : ∃ x, (srch N a.num a.den b.num b.den 1 0 0 1).1 = x := ⟨_, rfl⟩
  obtain ⟨K1, eK⟩ : ∃ x, (srch N a.num a.den b.num b.den 1 0 0 1).2 = x := ⟨_, rfl⟩
  rw [eH, eK]
  replace eH := Lib.hid eH; replace eK := Lib.hid eK
  go_enter Tryz.func103, Tryz.ntmps103
  go_wp2_with fail
  obtain ⟨W, hW⟩ : ∃ W, W = (((w.alloc (Obj.cells #[Value.bool san, Value.slice Xan pan qan, Value.bool sad, Value.slice Xad pad qad] 31)).alloc (Obj.cells #[Value.bool sbn, Value.slice Xbn pbn qbn, Value.bool sbd, Value.slice Xbd pbd qbd] 31)).alloc (Obj.cells #[Value.bool false, Value.slice none 0 0, Value.bool false, Value.slice none 0 0] 31)) := ⟨_, rfl⟩
  rw [← hW]
  have QXa : Hid (QBox W (w.heap.size) san (.slice Xan pan qan) sad (.slice Xad pad qad)) := by rw [hW]; have := ((QBox.new w san (Value.slice Xan pan qan) sad (Value.slice Xad pad qad)).alloc (Obj.cells #[Value.bool sbn, Value.slice Xbn pbn qbn, Value.bool sbd, Value.slice Xbd pbd qbd] 31)).alloc (Obj.cells #[Value.bool false, Value.slice none 0 0, Value.bool false, Value.slice none 0 0] 31); simpa [Hid] using this
  have QXb : Hid (QBox W (w.heap.size + 1) sbn (.slice Xbn pbn qbn) sbd (.slice Xbd pbd qbd)) := by rw [hW]; have := (QBox.new (w.alloc (Obj.cells #[Value.bool san, Value.slice Xan pan qan, Value.bool sad, Value.slice Xad pad qad] 31)) sbn (Value.slice Xbn pbn qbn) sbd (Value.slice Xbd pbd qbd)).alloc (Obj.cells #[Value.bool false, Value.slice none 0 0, Value.bool false, Value.slice none 0 0] 31); simpa [Hid] using this
  have RXz : Hid (QBox W (w.heap.size + 1 + 1) false (.slice none 0 0) false (.slice none 0 0)) := by rw [hW]; have := QBox.new ((w.alloc (Obj.cells #[Value.bool san, Value.slice Xan pan qan, Value.bool sad, Value.slice Xad pad qad] 31)).alloc (Obj.cells #[Value.bool sbn, Value.slice Xbn pbn qbn, Value.bool sbd, Value.slice Xbd pbd qbd] 31)) false (Value.slice none 0 0) false (Value.slice none 0 0); simpa [Hid] using this
  have IVna : Hid (Iv W (.agg #[.bool san, .slice Xan pan qan]) (a.num)) := by rw [hW]; exact (((Han.out).alloc _).alloc _).alloc _
  have IVda : Hid (Iv W (.agg #[.bool sad, .slice Xad pad qad]) ((a.den : Int))) := by rw [hW]; exact (((Had.out).alloc _).alloc _).alloc _
  have IVnb : Hid (Iv W (.agg #[.bool sbn, .slice Xbn pbn qbn]) (b.num)) := by rw [hW]; exact (((Hbn.out).alloc _).alloc _).alloc _
  have IVdb : Hid (Iv W (.agg #[.bool sbd, .slice Xbd pbd qbd]) ((b.den : Int))) := by rw [hW]; exact (((Hbd.out).alloc _).alloc _).alloc _
  have DW : Hid (Below w.heap.size w W) := by rw [hW]; exact (((Below.refl _ _).alloc (by simp <;> omega) _).alloc (by simp <;> omega) _).alloc (by simp <;> omega) _
  clear hW
  generalize hg : w.heap.size = g at *
  replace hg := Lib.hid hg
  go_upto_region 1 with fail
  refine Rg.region_gg W [.is (.pointer (some ⟨g, 0, none⟩)), .is (.agg #[.bool san, .slice Xan pan qan]), .is (.pointer (some ⟨g, 2, none⟩)), .is (.agg #[.bool sad, .slice Xad pad qad]), .is (.pointer (some ⟨(g + 1), 0, none⟩)), .is (.agg #[.bool sbn, .slice Xbn pbn qbn]), .is (.pointer (some ⟨(g + 1), 2, none⟩)), .is (.agg #[.bool sbd, .slice Xbd pbd qbd]), .own pNew pNew_keep, .own pNew pNew_keep, .own pNew pNew_keep, .own pNew pNew_keep, .put 8 (pPut (a.num)) (pPut_keep _), .put 9 (pPut ((a.den : Int))) (pPut_keep _), .put 10 (pPut (b.num)) (pPut_keep _), .put 11 (pPut ((b.den : Int))) (pPut_keep _)] [] [some 14, some 15, some 16, some 17, some 18, some 19, some 20, some 21, some 5, some 6, some 7, some 8, none, none, none, none] (by kernel_rfl) (by kernel_rfl) (by kernel_rfl) (by kernel_rfl) (by kernel_rfl) (by simp [Rg.stos]) (by rfl) (by rfl) (by kernel_rfl) (by simp) ((Below.refl _ _).drew) (fun Q' => ?_) (fun K hK wn hs => ?_)
  · refine ⟨?_, ?_, ?_, ?_, ?_, ?_, ?_, ?_, ?_, ?_, ?_, ?_, ?_, ?_, ?_, ?_, trivial⟩
    · intro a' w' ha hs hw hold
      have eo2 : a'.tmps[2]? = some (ptr g) := (ha.rest 2 (by kernel_rfl)).trans rfl
      exact ⟨rfl, .inl ⟨wanted_none rfl, wp_val (run_qfield0 rfl (ev_tmp eo2)) ⟨rfl, Below.refl _ _⟩⟩⟩
    · intro a' w' ha hs hw hold
      have e0 : a'.tmps[14]? = some (.pointer (some ⟨g, 0, none⟩)) := Rg.slot_get rfl rfl (hw 0 (by kernel_rfl) _ rfl)
      exact ⟨rfl, .inl ⟨wanted_none rfl, wp_val (run_qload0 rfl (ev_tmp e0) (QXa.out.bel hs (by simp))) ⟨rfl, Below.refl _ _⟩⟩⟩
    · intro a' w' ha hs hw hold
      have eo2 : a'.tmps[2]? = some (ptr g) := (ha.rest 2 (by kernel_rfl)).trans rfl
      exact ⟨rfl, .inl ⟨wanted_none rfl, wp_val (run_qfield1 rfl (ev_tmp eo2)) ⟨rfl, Below.refl _ _⟩⟩⟩
    · intro a' w' ha hs hw hold
      have e2 : a'.tmps[16]? = some (.pointer (some ⟨g, 2, none⟩)) := Rg.slot_get rfl rfl (hw 2 (by kernel_rfl) _ rfl)
      exact ⟨rfl, .inl ⟨wanted_none rfl, wp_val (run_qload1 rfl (ev_tmp e2) (QXa.out.bel hs (by simp))) ⟨rfl, Below.refl _ _⟩⟩⟩
    · intro a' w' ha hs hw hold
      have eo3 : a'.tmps[3]? = some (ptr (g + 1)) := (ha.rest 3 (by kernel_rfl)).trans rfl
      exact ⟨rfl, .inl ⟨wanted_none rfl, wp_val (run_qfield0 rfl (ev_tmp eo3)) ⟨rfl, Below.refl _ _⟩⟩⟩
    · intro a' w' ha hs hw hold
      have e4 : a'.tmps[18]? = some (.pointer (some ⟨(g + 1), 0, none⟩)) := Rg.slot_get rfl rfl (hw 4 (by kernel_rfl) _ rfl)
      exact ⟨rfl, .inl ⟨wanted_none rfl, wp_val (run_qload0 rfl (ev_tmp e4) (QXb.out.bel hs (by simp))) ⟨rfl, Below.refl _ _⟩⟩⟩
    · intro a' w' ha hs hw hold
      have eo3 : a'.tmps[3]? = some (ptr (g + 1)) := (ha.rest 3 (by kernel_rfl)).trans rfl
      exact ⟨rfl, .inl ⟨wanted_none rfl, wp_val (run_qfield1 rfl (ev_tmp eo3)) ⟨rfl, Below.refl _ _⟩⟩⟩
    · intro a' w' ha hs hw hold
      have e6 : a'.tmps[20]? = some (.pointer (some ⟨(g + 1), 2, none⟩)) := Rg.slot_get rfl rfl (hw 6 (by kernel_rfl) _ rfl)
      exact ⟨rfl, .inl ⟨wanted_none rfl, wp_val (run_qload1 rfl (ev_tmp e6) (QXb.out.bel hs (by simp))) ⟨rfl, Below.refl _ _⟩⟩⟩
    · intro a' w' ha hs hw hold
      exact ⟨rfl, wanted_none rfl, step_new rfl⟩
    · intro a' w' ha hs hw hold
      exact ⟨rfl, wanted_none rfl, step_new rfl⟩
    · intro a' w' ha hs hw hold
      exact ⟨rfl, wanted_none rfl, step_new rfl⟩
    · intro a' w' ha hs hw hold
      exact ⟨rfl, wanted_none rfl, step_new rfl⟩
    · intro a' w' ha hs hw hold
      have e1 : a'.tmps[15]? = some (.agg #[.bool san, .slice Xan pan qan]) := Rg.slot_get rfl rfl (hw 1 (by kernel_rfl) _ rfl)
      refine ⟨rfl, wanted_none rfl, by kernel_rfl, fun pv pg pp ph pe1 pe2 pe3 pe4 => ?_⟩
      cases pe1
      exact step_put rfl rfl (ev_tmp (Rg.slot_get rfl rfl pe2)) (ev_tmp e1) pe3 pe4 (IVna.out.kn hs.kn)
    · intro a' w' ha hs hw hold
      have e3 : a'.tmps[17]? = some (.agg #[.bool sad, .slice Xad pad qad]) := Rg.slot_get rfl rfl (hw 3 (by kernel_rfl) _ rfl)
      refine ⟨rfl, wanted_none rfl, by kernel_rfl, fun pv pg pp ph pe1 pe2 pe3 pe4 => ?_⟩
      cases pe1
      exact step_put rfl rfl (ev_tmp (Rg.slot_get rfl rfl pe2)) (ev_tmp e3) pe3 pe4 (IVda.out.kn hs.kn)
    · intro a' w' ha hs hw hold
      have e5 : a'.tmps[19]? = some (.agg #[.bool sbn, .slice Xbn pbn qbn]) := Rg.slot_get rfl rfl (hw 5 (by kernel_rfl) _ rfl)
      refine ⟨rfl, wanted_none rfl, by kernel_rfl, fun pv pg pp ph pe1 pe2 pe3 pe4 => ?_⟩
      cases pe1
      exact step_put rfl rfl (ev_tmp (Rg.slot_get rfl rfl pe2)) (ev_tmp e5) pe3 pe4 (IVnb.out.kn hs.kn)
    · intro a' w' ha hs hw hold
      have e7 : a'.tmps[21]? = some (.agg #[.bool sbd, .slice Xbd pbd qbd]) := Rg.slot_get rfl rfl (hw 7 (by kernel_rfl) _ rfl)
      refine ⟨rfl, wanted_none rfl, by kernel_rfl, fun pv pg pp ph pe1 pe2 pe3 pe4 => ?_⟩
      cases pe1
      exact step_put rfl rfl (ev_tmp (Rg.slot_get rfl rfl pe2)) (ev_tmp e7) pe3 pe4 (IVdb.out.kn hs.kn)
  simp only [Rg.allG]
  intro a1x8 gb1x8 hE1x8 hB1x8 _ hN1x8 _
  intro a1x9 gb1x9 hE1x9 hB1x9 _ hN1x9 _
  intro a1x10 gb1x10 hE1x10 hB1x10 _ hN1x10 _
  intro a1x11 gb1x11 hE1x11 hB1x11 _ hN1x11 _
  intro v1 he hp
  simp only [List.nil_append, List.cons_append, List.getElem?_cons_succ, List.getElem?_cons_zero, Option.some.injEq] at he
  subst he
  obtain ⟨gp, rfl, Xp, pp, qp, BXp, IVp⟩ := hp
  intro v1 he hp
  simp only [List.nil_append, List.cons_append, List.getElem?_cons_succ, List.getElem?_cons_zero, Option.some.injEq] at he
  subst he
  obtain ⟨gq, rfl, Xq, pq, qq, BXq, IVq⟩ := hp
  intro v1 he hp
  simp only [List.nil_append, List.cons_append, List.getElem?_cons_succ, List.getElem?_cons_zero, Option.some.injEq] at he
  subst he
  obtain ⟨gr, rfl, Xr, pr, qr, BXr, IVr⟩ := hp
  intro v1 he hp
  simp only [List.nil_append, List.cons_append, List.getElem?_cons_succ, List.getElem?_cons_zero, Option.some.injEq] at he
  subst he
  obtain ⟨gs, rfl, Xs, ps, qs, BXs, IVs⟩ := hp
  simp only [setOpt, Rg.setOpt, List.set_cons_succ, List.set_cons_zero, ptr]
  refine hK _ _ ?_
  clear hK K
  replace hs := hs.below
  have hgb : gp = gb1x8 := Option.some.inj hE1x8
  have NEpz : Hid (gp ≠ (g + 1 + 1)) := by have h1 := RXz.out.lt; unfold Hid; omega
  have GBp : Hid (g ≤ gp) := by have := DW.out.size; have := hg.out; unfold Hid; omega
  have LTzp : Hid ((g + 1 + 1) < gp) := by have := RXz.out.lt; unfold Hid; omega
  have LTap : Hid (g < gp) := by have := QXa.out.lt; unfold Hid; omega
  have LTbp : Hid ((g + 1) < gp) := by have := QXb.out.lt; unfold Hid; omega
  clear hgb
  have hgb : gq = gb1x9 := Option.some.inj hE1x9
  have NEqz : Hid (gq ≠ (g + 1 + 1)) := by have h1 := RXz.out.lt; unfold Hid; omega
  have GBq : Hid (g ≤ gq) := by have := DW.out.size; have := hg.out; unfold Hid; omega
  have LTzq : Hid ((g + 1 + 1) < gq) := by have := RXz.out.lt; unfold Hid; omega
  have LTaq : Hid (g < gq) := by have := QXa.out.lt; unfold Hid; omega
  have LTbq : Hid ((g + 1) < gq) := by have := QXb.out.lt; unfold Hid; omega
  have NQpq : Hid (gp ≠ gq) := by have h3 := hN1x9 8 _ (by rfl) (by kernel_rfl); unfold Hid; rintro rfl; exact h3 (congrArg some hgb)
  clear hgb
  have hgb : gr = gb1x10 := Option.some.inj hE1x10
  have NErz : Hid (gr ≠ (g + 1 + 1)) := by have h1 := RXz.out.lt; unfold Hid; omega
  have GBr : Hid (g ≤ gr) := by have := DW.out.size; have := hg.out; unfold Hid; omega
  have LTzr : Hid ((g + 1 + 1) < gr) := by have := RXz.out.lt; unfold Hid; omega
  have LTar : Hid (g < gr) := by have := QXa.out.lt; unfold Hid; omega
  have LTbr : Hid ((g + 1) < gr) := by have := QXb.out.lt; unfold Hid; omega
  have NQpr : Hid (gp ≠ gr) := by have h3 := hN1x10 8 _ (by rfl) (by kernel_rfl); unfold Hid; rintro rfl; exact h3 (congrArg some hgb)
  have NQqr : Hid (gq ≠ gr) := by have h3 := hN1x10 9 _ (by rfl) (by kernel_rfl); unfold Hid; rintro rfl; exact h3 (congrArg some hgb)
  clear hgb
  have hgb : gs = gb1x11 := Option.some.inj hE1x11
  have NEsz : Hid (gs ≠ (g + 1 + 1)) := by have h1 := RXz.out.lt; unfold Hid; omega
  have GBs : Hid (g ≤ gs) := by have := DW.out.size; have := hg.out; unfold Hid; omega
  have LTzs : Hid ((g + 1 + 1) < gs) := by have := RXz.out.lt; unfold Hid; omega
  have LTas : Hid (g < gs) := by have := QXa.out.lt; unfold Hid; omega
  have LTbs : Hid ((g + 1) < gs) := by have := QXb.out.lt; unfold Hid; omega
  have NQps : Hid (gp ≠ gs) := by have h3 := hN1x11 8 _ (by rfl) (by kernel_rfl); unfold Hid; rintro rfl; exact h3 (congrArg some hgb)
  have NQqs : Hid (gq ≠ gs) := by have h3 := hN1x11 9 _ (by rfl) (by kernel_rfl); unfold Hid; rintro rfl; exact h3 (congrArg some hgb)
  have NQrs : Hid (gr ≠ gs) := by have h3 := hN1x11 10 _ (by rfl) (by kernel_rfl); unfold Hid; rintro rfl; exact h3 (congrArg some hgb)
  clear hgb
  clear hE1x8 hB1x8 hN1x8 hE1x9 hB1x9 hN1x9 hE1x10 hB1x10 hN1x10 hE1x11 hB1x11 hN1x11
  replace QXa := nxq QXa hs rfl; replace IVna := nxv IVna hs rfl; replace IVda := nxv IVda hs rfl
  replace QXb := nxq QXb hs rfl; replace IVnb := nxv IVnb hs rfl; replace IVdb := nxv IVdb hs rfl
  replace RXz := Lib.hid (RXz.out.next hs rfl)
  replace DW := nxd DW hg hs rfl rfl rfl rfl
  generalize hsg : decide ((a.num : Int) < 0) = sp at *
  clear hsg
  replace BXp := Lib.hid BXp; replace IVp := Lib.hid IVp
  generalize hsg : decide (((a.den : Int) : Int) < 0) = sq at *
  clear hsg
  replace BXq := Lib.hid BXq; replace IVq := Lib.hid IVq
  generalize hsg : decide ((b.num : Int) < 0) = sr at *
  clear hsg
  replace BXr := Lib.hid BXr; replace IVr := Lib.hid IVr
  generalize hsg : decide (((b.den : Int) : Int) < 0) = ss at *
  clear hsg
  replace BXs := Lib.hid BXs; replace IVs := Lib.hid IVs
  clear hs
  go_upto_region 2 with fail
  go_wp2_with fail
  refine (of_any 1 _ (by omega) (by omega)).mono ?_
  rintro e y50 ⟨v50, rfl, hv50, hb⟩
  replace hv50 := Lib.hid hv50
  replace BXp := nxb BXp hb rfl; replace IVp := nxv IVp hb rfl
  replace BXq := nxb BXq hb rfl; replace IVq := nxv IVq hb rfl
  replace BXr := nxb BXr hb rfl; replace IVr := nxv IVr hb rfl
  replace BXs := nxb BXs hb rfl; replace IVs := nxv IVs hb rfl
  replace QXa := nxq QXa hb rfl; replace IVna := nxv IVna hb rfl; replace IVda := nxv IVda hb rfl
  replace QXb := nxq QXb hb rfl; replace IVnb := nxv IVnb hb rfl; replace IVdb := nxv IVdb hb rfl
  replace RXz := Lib.hid (RXz.out.next hb rfl)
  replace DW := nxd DW hg hb rfl rfl rfl rfl
  clear hb
  go_wp2_with fail
  refine (of_any 0 _ (by omega) (by omega)).mono ?_
  rintro e y51 ⟨v51, rfl, hv51, hb⟩
  replace hv50 := Lib.hid (iv_next hv50.out hb rfl)
  replace hv51 := Lib.hid hv51
  replace BXp := nxb BXp hb rfl; replace IVp := nxv IVp hb rfl
  replace BXq := nxb BXq hb rfl; replace IVq := nxv IVq hb rfl
  replace BXr := nxb BXr hb rfl; replace IVr := nxv IVr hb rfl
  replace BXs := nxb BXs hb rfl; replace IVs := nxv IVs hb rfl
  replace QXa := nxq QXa hb rfl; replace IVna := nxv IVna hb rfl; replace IVda := nxv IVda hb rfl
  replace QXb := nxq QXb hb rfl; replace IVnb := nxv IVnb hb rfl; replace IVdb := nxv IVdb hb rfl
  replace RXz := Lib.hid (RXz.out.next hb rfl)
  replace DW := nxd DW hg hb rfl rfl rfl rfl
  clear hb
  go_wp2_with fail
  refine (of_any 0 _ (by omega) (by omega)).mono ?_
  rintro e y52 ⟨v52, rfl, hv52, hb⟩
  replace hv50 := Lib.hid (iv_next hv50.out hb rfl)
  replace hv51 := Lib.hid (iv_next hv51.out hb rfl)
  replace hv52 := Lib.hid hv52
  replace BXp := nxb BXp hb rfl; replace IVp := nxv IVp hb rfl
  replace BXq := nxb BXq hb rfl; replace IVq := nxv IVq hb rfl
  replace BXr := nxb BXr hb rfl; replace IVr := nxv IVr hb rfl
  replace BXs := nxb BXs hb rfl; replace IVs := nxv IVs hb rfl
  replace QXa := nxq QXa hb rfl; replace IVna := nxv IVna hb rfl; replace IVda := nxv IVda hb rfl
  replace QXb := nxq QXb hb rfl; replace IVnb := nxv IVnb hb rfl; replace IVdb := nxv IVdb hb rfl
  replace RXz := Lib.hid (RXz.out.next hb rfl)
  replace DW := nxd DW hg hb rfl rfl rfl rfl
  clear hb
  go_wp2_with fail
  refine (of_any 1 _ (by omega) (by omega)).mono ?_
  rintro e y53 ⟨v53, rfl, hv53, hb⟩
  replace hv50 := Lib.hid (iv_next hv50.out hb rfl)
  replace hv51 := Lib.hid (iv_next hv51.out hb rfl)
  replace hv52 := Lib.hid (iv_next hv52.out hb rfl)
  replace hv53 := Lib.hid hv53
  replace hv50 := hv50.out; replace hv51 := hv51.out; replace hv52 := hv52.out; replace hv53 := hv53.out
  obtain ⟨cc0, hcc0⟩ : ∃ c : Int, c = 1 := ⟨_, rfl⟩
  replace hv50 : Iv y53 v50 cc0 := by rw [hcc0]; exact hv50
  replace hcc0 := Lib.hid hcc0
  obtain ⟨cc1, hcc1⟩ : ∃ c : Int, c = 0 := ⟨_, rfl⟩
  replace hv51 : Iv y53 v51 cc1 := by rw [hcc1]; exact hv51
  replace hcc1 := Lib.hid hcc1
  obtain ⟨cc2, hcc2⟩ : ∃ c : Int, c = 0 := ⟨_, rfl⟩
  replace hv52 : Iv y53 v52 cc2 := by rw [hcc2]; exact hv52
  replace hcc2 := Lib.hid hcc2
  obtain ⟨cc3, hcc3⟩ : ∃ c : Int, c = 1 := ⟨_, rfl⟩
  replace hv53 : Iv y53 v53 cc3 := by rw [hcc3]; exact hv53
  replace hcc3 := Lib.hid hcc3
  obtain ⟨Xh, ph, qh, rfl, _, _, _⟩ := hv50.form
  have Qh := Lib.hid hv50; clear hv50
  obtain ⟨Xi, pi, qi, rfl, _, _, _⟩ := hv51.form
  have Qi := Lib.hid hv51; clear hv51
  obtain ⟨Xk, pk, qk, rfl, _, _, _⟩ := hv52.form
  have Qk := Lib.hid hv52; clear hv52
  obtain ⟨Xj, pj, qj, rfl, _, _, _⟩ := hv53.form
  have Qj := Lib.hid hv53; clear hv53
  have B := Lib.hid hb; clear hb
  generalize hs : decide ((cc0 : Int) < 0) = sh at *
  clear hs
  generalize hs : decide ((cc1 : Int) < 0) = si at *
  clear hs
  generalize hs : decide ((cc2 : Int) < 0) = sk at *
  clear hs
  generalize hs : decide ((cc3 : Int) < 0) = sj at *
  clear hs
  go_upto_region 3 with fail
  obtain ⟨W2, hW⟩ : ∃ W2, W2 = ((((y53.alloc (Obj.cells #[Value.bool sh, Value.slice Xh ph qh] 29)).alloc (Obj.cells #[Value.bool si, Value.slice Xi pi qi] 29)).alloc (Obj.cells #[Value.bool sk, Value.slice Xk pk qk] 29)).alloc (Obj.cells #[Value.bool sj, Value.slice Xj pj qj] 29)) := ⟨_, rfl⟩
  rw [← hW]
  have BXh : Hid (Box W2 (y53.heap.size) sh (.slice Xh ph qh)) := by rw [hW]; have := (((Box.new y53 sh (.slice Xh ph qh)).alloc (Obj.cells #[Value.bool si, Value.slice Xi pi qi] 29)).alloc (Obj.cells #[Value.bool sk, Value.slice Xk pk qk] 29)).alloc (Obj.cells #[Value.bool sj, Value.slice Xj pj qj] 29); simpa [Hid] using this
  have IVh : Hid (Iv W2 (.agg #[.bool sh, .slice Xh ph qh]) (cc0)) := by rw [hW]; exact ((((Qh.out).alloc _).alloc _).alloc _).alloc _
  have BXi : Hid (Box W2 (y53.heap.size + 1) si (.slice Xi pi qi)) := by rw [hW]; have := ((Box.new (y53.alloc (Obj.cells #[Value.bool sh, Value.slice Xh ph qh] 29)) si (.slice Xi pi qi)).alloc (Obj.cells #[Value.bool sk, Value.slice Xk pk qk] 29)).alloc (Obj.cells #[Value.bool sj, Value.slice Xj pj qj] 29); simpa [Hid] using this
  have IVi : Hid (Iv W2 (.agg #[.bool si, .slice Xi pi qi]) (cc1)) := by rw [hW]; exact ((((Qi.out).alloc _).alloc _).alloc _).alloc _
  have BXk : Hid (Box W2 (y53.heap.size + 1 + 1) sk (.slice Xk pk qk)) := by rw [hW]; have := (Box.new ((y53.alloc (Obj.cells #[Value.bool sh, Value.slice Xh ph qh] 29)).alloc (Obj.cells #[Value.bool si, Value.slice Xi pi qi] 29)) sk (.slice Xk pk qk)).alloc (Obj.cells #[Value.bool sj, Value.slice Xj pj qj] 29); simpa [Hid] using this
  have IVk : Hid (Iv W2 (.agg #[.bool sk, .slice Xk pk qk]) (cc2)) := by rw [hW]; exact ((((Qk.out).alloc _).alloc _).alloc _).alloc _
  have BXj : Hid (Box W2 (y53.heap.size + 1 + 1 + 1) sj (.slice Xj pj qj)) := by rw [hW]; have := Box.new (((y53.alloc (Obj.cells #[Value.bool sh, Value.slice Xh ph qh] 29)).alloc (Obj.cells #[Value.bool si, Value.slice Xi pi qi] 29)).alloc (Obj.cells #[Value.bool sk, Value.slice Xk pk qk] 29)) sj (.slice Xj pj qj); simpa [Hid] using this
  have IVj : Hid (Iv W2 (.agg #[.bool sj, .slice Xj pj qj]) (cc3)) := by rw [hW]; exact ((((Qj.out).alloc _).alloc _).alloc _).alloc _
  have hd : Below y52.heap.size y52 W2 := by rw [hW]; exact ((((B.out).alloc (by have := B.out.size; simp <;> omega) _).alloc (by have := B.out.size; simp <;> omega) _).alloc (by have := B.out.size; simp <;> omega) _).alloc (by have := B.out.size; simp <;> omega) _
  have NEjz : Hid ((y53.heap.size + 1 + 1 + 1) ≠ (g + 1 + 1)) := by have := RXz.out.lt; have := B.out.size; unfold Hid; omega
  have NEkz : Hid ((y53.heap.size + 1 + 1) ≠ (g + 1 + 1)) := by have := RXz.out.lt; have := B.out.size; unfold Hid; omega
  have NEiz : Hid ((y53.heap.size + 1) ≠ (g + 1 + 1)) := by have := RXz.out.lt; have := B.out.size; unfold Hid; omega
  have NEhz : Hid ((y53.heap.size) ≠ (g + 1 + 1)) := by have := RXz.out.lt; have := B.out.size; unfold Hid; omega
  have GBh : Hid (g ≤ y53.heap.size) := by have := DW.out.size; have := hg.out; have := B.out.size; unfold Hid; omega
  have LTzh : Hid ((g + 1 + 1) < y53.heap.size) := by have := RXz.out.lt; have := B.out.size; unfold Hid; omega
  have LTph : Hid (gp < y53.heap.size) := by have := BXp.out.lt; have := B.out.size; unfold Hid; omega
  have LTqh : Hid (gq < y53.heap.size) := by have := BXq.out.lt; have := B.out.size; unfold Hid; omega
  have LTrh : Hid (gr < y53.heap.size) := by have := BXr.out.lt; have := B.out.size; unfold Hid; omega
  have LTsh : Hid (gs < y53.heap.size) := by have := BXs.out.lt; have := B.out.size; unfold Hid; omega
  have LTah : Hid (g < y53.heap.size) := by have := QXa.out.lt; have := B.out.size; unfold Hid; omega
  have LTbh : Hid ((g + 1) < y53.heap.size) := by have := QXb.out.lt; have := B.out.size; unfold Hid; omega
  have GBi : Hid (g ≤ y53.heap.size + 1) := by have := DW.out.size; have := hg.out; have := B.out.size; unfold Hid; omega
  have LTzi : Hid ((g + 1 + 1) < y53.heap.size + 1) := by have := RXz.out.lt; have := B.out.size; unfold Hid; omega
  have LThi : Hid (y53.heap.size < y53.heap.size + 1) := by unfold Hid; omega
  have LTpi : Hid (gp < y53.heap.size + 1) := by have := BXp.out.lt; have := B.out.size; unfold Hid; omega
  have LTqi : Hid (gq < y53.heap.size + 1) := by have := BXq.out.lt; have := B.out.size; unfold Hid; omega
  have LTri : Hid (gr < y53.heap.size + 1) := by have := BXr.out.lt; have := B.out.size; unfold Hid; omega
  have LTsi : Hid (gs < y53.heap.size + 1) := by have := BXs.out.lt; have := B.out.size; unfold Hid; omega
  have LTai : Hid (g < y53.heap.size + 1) := by have := QXa.out.lt; have := B.out.size; unfold Hid; omega
  have LTbi : Hid ((g + 1) < y53.heap.size + 1) := by have := QXb.out.lt; have := B.out.size; unfold Hid; omega
  have GBk : Hid (g ≤ y53.heap.size + 1 + 1) := by have := DW.out.size; have := hg.out; have := B.out.size; unfold Hid; omega
  have LTzk : Hid ((g + 1 + 1) < y53.heap.size + 1 + 1) := by have := RXz.out.lt; have := B.out.size; unfold Hid; omega
  have LThk : Hid (y53.heap.size < y53.heap.size + 1 + 1) := by unfold Hid; omega
  have LTik : Hid (y53.heap.size + 1 < y53.heap.size + 1 + 1) := by unfold Hid; omega
  have LTpk : Hid (gp < y53.heap.size + 1 + 1) := by have := BXp.out.lt; have := B.out.size; unfold Hid; omega
  have LTqk : Hid (gq < y53.heap.size + 1 + 1) := by have := BXq.out.lt; have := B.out.size; unfold Hid; omega
  have LTrk : Hid (gr < y53.heap.size + 1 + 1) := by have := BXr.out.lt; have := B.out.size; unfold Hid; omega
  have LTsk : Hid (gs < y53.heap.size + 1 + 1) := by have := BXs.out.lt; have := B.out.size; unfold Hid; omega
  have LTak : Hid (g < y53.heap.size + 1 + 1) := by have := QXa.out.lt; have := B.out.size; unfold Hid; omega
  have LTbk : Hid ((g + 1) < y53.heap.size + 1 + 1) := by have := QXb.out.lt; have := B.out.size; unfold Hid; omega
  have GBj : Hid (g ≤ y53.heap.size + 1 + 1 + 1) := by have := DW.out.size; have := hg.out; have := B.out.size; unfold Hid; omega
  have LTzj : Hid ((g + 1 + 1) < y53.heap.size + 1 + 1 + 1) := by have := RXz.out.lt; have := B.out.size; unfold Hid; omega
  have LThj : Hid (y53.heap.size < y53.heap.size + 1 + 1 + 1) := by unfold Hid; omega
  have LTij : Hid (y53.heap.size + 1 < y53.heap.size + 1 + 1 + 1) := by unfold Hid; omega
  have LTkj : Hid (y53.heap.size + 1 + 1 < y53.heap.size + 1 + 1 + 1) := by unfold Hid; omega
  have LTpj : Hid (gp < y53.heap.size + 1 + 1 + 1) := by have := BXp.out.lt; have := B.out.size; unfold Hid; omega
  have LTqj : Hid (gq < y53.heap.size + 1 + 1 + 1) := by have := BXq.out.lt; have := B.out.size; unfold Hid; omega
  have LTrj : Hid (gr < y53.heap.size + 1 + 1 + 1) := by have := BXr.out.lt; have := B.out.size; unfold Hid; omega
  have LTsj : Hid (gs < y53.heap.size + 1 + 1 + 1) := by have := BXs.out.lt; have := B.out.size; unfold Hid; omega
  have LTaj : Hid (g < y53.heap.size + 1 + 1 + 1) := by have := QXa.out.lt; have := B.out.size; unfold Hid; omega
  have LTbj : Hid ((g + 1) < y53.heap.size + 1 + 1 + 1) := by have := QXb.out.lt; have := B.out.size; unfold Hid; omega
  clear hW B Qh Qi Qk Qj
  generalize hgn2 : y53.heap.size + 1 + 1 + 1 = gj at *
  clear hgn2
  generalize hgn2 : y53.heap.size + 1 + 1 = gk at *
  clear hgn2
  generalize hgn2 : y53.heap.size + 1 = gi at *
  clear hgn2
  generalize hgn2 : y53.heap.size = gh at *
  clear hgn2
  replace BXp := nxb BXp hd rfl; replace IVp := nxv IVp hd rfl
  replace BXq := nxb BXq hd rfl; replace IVq := nxv IVq hd rfl
  replace BXr := nxb BXr hd rfl; replace IVr := nxv IVr hd rfl
  replace BXs := nxb BXs hd rfl; replace IVs := nxv IVs hd rfl
  replace QXa := nxq QXa hd rfl; replace IVna := nxv IVna hd rfl; replace IVda := nxv IVda hd rfl
  replace QXb := nxq QXb hd rfl; replace IVnb := nxv IVnb hd rfl; replace IVdb := nxv IVdb hd rfl
  replace RXz := Lib.hid (RXz.out.next hd rfl)
  replace DW := nxd DW hg hd rfl rfl rfl rfl
  clear hd
  go_upto_region 5 with fail
  obtain ⟨W8, hW⟩ : ∃ W8, W8 = W2.alloc (Obj.cells #[searchV gp gq gr gs gh gi gk gj W2.heap.size] 1) := ⟨_, rfl⟩
  rw [← hW]
  have FXf : Hid (One W8 W2.heap.size 1 (searchV gp gq gr gs gh gi gk gj W2.heap.size)) := by rw [hW]; exact heap_alloc_new _ _
  have hd : Below W2.heap.size W2 W8 := by rw [hW]; exact (Below.refl _ _).alloc (Nat.le_refl _) _
  clear hW
  have LTpf : Hid (gp < W2.heap.size) := BXp.out.lt
  have LTqf : Hid (gq < W2.heap.size) := BXq.out.lt
  have LTrf : Hid (gr < W2.heap.size) := BXr.out.lt
  have LTsf : Hid (gs < W2.heap.size) := BXs.out.lt
  have LThf : Hid (gh < W2.heap.size) := BXh.out.lt
  have LTif : Hid (gi < W2.heap.size) := BXi.out.lt
  have LTkf : Hid (gk < W2.heap.size) := BXk.out.lt
  have LTjf : Hid (gj < W2.heap.size) := BXj.out.lt
  have LTzf : Hid (g + 1 + 1 < W2.heap.size) := RXz.out.lt
  replace BXp := nxb BXp hd rfl; replace IVp := nxv IVp hd rfl
  replace BXq := nxb BXq hd rfl; replace IVq := nxv IVq hd rfl
  replace BXr := nxb BXr hd rfl; replace IVr := nxv IVr hd rfl
  replace BXs := nxb BXs hd rfl; replace IVs := nxv IVs hd rfl
  replace BXh := nxb BXh hd rfl; replace IVh := nxv IVh hd rfl
  replace BXi := nxb BXi hd rfl; replace IVi := nxv IVi hd rfl
  replace BXk := nxb BXk hd rfl; replace IVk := nxv IVk hd rfl
  replace BXj := nxb BXj hd rfl; replace IVj := nxv IVj hd rfl
  replace QXa := nxq QXa hd rfl; replace IVna := nxv IVna hd rfl; replace IVda := nxv IVda hd rfl
  replace QXb := nxq QXb hd rfl; replace IVnb := nxv IVnb hd rfl; replace IVdb := nxv IVdb hd rfl
  replace RXz := Lib.hid (RXz.out.next hd rfl)
  replace DW := nxd DW hg hd rfl rfl rfl rfl
  clear hd
  generalize hgf : W2.heap.size = gf at *
  clear hgf
  have hdis : [gp, gq, gr, gs, gh, gi, gk, gj, gf].Nodup := by
    simp only [List.nodup_cons, List.mem_cons, List.not_mem_nil, or_false, not_or, List.nodup_nil, and_true, not_false_eq_true]
    exact ⟨⟨NQpq.out, NQpr.out, NQps.out, (Nat.ne_of_lt LTph.out), (Nat.ne_of_lt LTpi.out), (Nat.ne_of_lt LTpk.out), (Nat.ne_of_lt LTpj.out), (Nat.ne_of_lt LTpf.out)⟩, ⟨NQqr.out, NQqs.out, (Nat.ne_of_lt LTqh.out), (Nat.ne_of_lt LTqi.out), (Nat.ne_of_lt LTqk.out), (Nat.ne_of_lt LTqj.out), (Nat.ne_of_lt LTqf.out)⟩, ⟨NQrs.out, (Nat.ne_of_lt LTrh.out), (Nat.ne_of_lt LTri.out), (Nat.ne_of_lt LTrk.out), (Nat.ne_of_lt LTrj.out), (Nat.ne_of_lt LTrf.out)⟩, ⟨(Nat.ne_of_lt LTsh.out), (Nat.ne_of_lt LTsi.out), (Nat.ne_of_lt LTsk.out), (Nat.ne_of_lt LTsj.out), (Nat.ne_of_lt LTsf.out)⟩, ⟨(Nat.ne_of_lt LThi.out), (Nat.ne_of_lt LThk.out), (Nat.ne_of_lt LThj.out), (Nat.ne_of_lt LThf.out)⟩, ⟨(Nat.ne_of_lt LTik.out), (Nat.ne_of_lt LTij.out), (Nat.ne_of_lt LTif.out)⟩, ⟨(Nat.ne_of_lt LTkj.out), (Nat.ne_of_lt LTkf.out)⟩, (Nat.ne_of_lt LTjf.out)⟩
  have hlow : ∀ x ∈ [gp, gq, gr, gs, gh, gi, gk, gj, gf], g + 1 + 1 + 1 ≤ x := by
    intro x hx
    simp only [List.mem_cons, List.not_mem_nil, or_false] at hx
    have := LTzf.out; have := LTzp.out; have := LTzq.out; have := LTzr.out; have := LTzs.out; have := LTzh.out; have := LTzi.out; have := LTzk.out; have := LTzj.out
    rcases hx with rfl | rfl | rfl | rfl | rfl | rfl | rfl | rfl | rfl <;> omega
  replace hdis := Lib.hid hdis; replace hlow := Lib.hid hlow
  have u1 := FXf.out.cell0
  go_wp2_with fail
  clear u1
  refine (search_any N (g + 1 + 1 + 1) gp gq gr gs gh gi gk gj gf a.num a.den b.num b.den 1 0 0 1 _ (ic_of BXp.out IVp.out) (ic_of BXq.out IVq.out) (ic_of BXr.out IVr.out) (ic_of BXs.out IVs.out) (by have h := ic_of BXh.out IVh.out; rw [hcc0.out] at h; exact h) (by have h := ic_of BXi.out IVi.out; rw [hcc1.out] at h; exact h) (by have h := ic_of BXk.out IVk.out; rw [hcc2.out] at h; exact h) (by have h := ic_of BXj.out IVj.out; rw [hcc3.out] at h; exact h) FXf.out hdis.out hlow.out (by have := LTzf.out; have := FXf.out.lt; omega) hok.out).mono ?_
  rintro e w9 ⟨rfl, h7, h8, hb⟩
  rw [eH.out] at h7
  rw [eK.out] at h8
  obtain ⟨Ah, ih, ch, BX7, IV7⟩ := h7
  obtain ⟨Ak, ik, ck, BX8, IV8⟩ := h8
  replace BX7 := Lib.hid BX7; replace IV7 := Lib.hid IV7; replace BX8 := Lib.hid BX8; replace IV8 := Lib.hid IV8
  replace RXz := Lib.hid (QBox.below RXz.out hb (by omega))
  replace DW : Hid (Below g w w9) := DW.out.trans (hb.mono (by omega))
  clear hb
  generalize hs1 : decide (H1 < 0) = s1 at *
  generalize hs2 : decide (K1 < 0) = s2 at *
  clear hs1 hs2
  have u1 := BX7.out.cell0; have u2 := BX7.out.cell1; have u3 := BX8.out.cell0; have u4 := BX8.out.cell1
  have u3a := RXz.out.cell0; have u3b := RXz.out.cell1; have u3c := RXz.out.cell2; have u3d := RXz.out.cell3; have u3f := RXz.out.frozen 0; have u3g := RXz.out.frozen 1; have u3h := RXz.out.frozen 2; have u3i := RXz.out.frozen 3
  go_wp2
  refine bodyPost_ret (v := .agg #[.bool s1, .slice Ah ih ch, .bool s2, .slice Ak ik ck]) (by simp [results, Tryz.results103, go_sem, u3a, u3b, u3c, u3d, u3f, u3g, u3h, u3i]) rfl ⟨_, rfl, ?_, by rw [hg.out]; exact (((DW.out.setCell (by simp <;> omega) _).setCell (by simp <;> omega) _).setCell (by simp <;> omega) _).setCell (by simp <;> omega) _⟩
  have hc := chg_qbox (b' := s1) (d' := s2) (A' := Ah) (n' := ih) (c' := ch) (B' := Ak) (m' := ik) (e' := ck) RXz.out
  exact qv_of (IV7.out.kn hc.kn) (IV8.out.kn hc.kn)

set_option maxHeartbeats 8000000 in
set_option maxRecDepth 100000 in
theorem between_pos (va vb : Value) (a b : Rat) (N : Nat) (w : World) (ha : Qv w va a.num a.den) (sa : Sr a 10000) (hb : Qv w vb b.num b.den) (sb : Sr b 10000) (hok : SOk N a.num a.den b.num b.den 1 0 0 1) (hp : 0 < a.num) (hlt : a.num * b.den < b.num * a.den) : Calls Tryz.prog 31 #[va, vb] w (RetQE (srch N a.num a.den b.num b.den 1 0 0 1).1 (srch N a.num a.den b.num b.den 1 0 0 1).2 w) := by
  obtain ⟨Xan, pan, qan, Xad, pad, qad, rfl, han, had⟩ := ha
  have Han := Lib.hid han
  have Had := Lib.hid had
  have SRa := Lib.hid sa
  clear han had sa
  generalize hs : decide (a.num < 0) = san at *
  clear hs
  generalize hs : decide ((a.den : Int) < 0) = sad at *
  clear hs
  obtain ⟨Xbn, pbn, qbn, Xbd, pbd, qbd, rfl, hbn, hbd⟩ := hb
  have Hbn := Lib.hid hbn
  have Hbd := Lib.hid hbd
  have SRb := Lib.hid sb
  clear hbn hbd sb
  generalize hs : decide (b.num < 0) = sbn at *
  clear hs
  generalize hs : decide ((b.den : Int) < 0) = sbd at *
  clear hs
  have hc : Hid (cmpZ (a.num * b.den) (b.num * a.den) = -1) := cmpZ_lt hlt
  have hsg : Hid (sg a.num = 1) := by rcases sg_cases a.num with ⟨h1, e1⟩ | ⟨h1, e1⟩ | ⟨h1, e1⟩ <;> first | exact e1 | omega
  replace hok := Lib.hid hok
  obtain ⟨H1, eH⟩ : ∃ x, (srch N a.num a.den b.num b.den 1 0 0 1).1 = x := ⟨_, rfl⟩
  obtain ⟨K1, eK⟩ : ∃ x, (srch N a.num a.den b.num b.den 1 0 0 1).2 = x := ⟨_, rfl⟩
  rw [eH, eK]
  replace eH := Lib.hid eH; replace eK := Lib.hid eK
  clear hp hlt
  go_enter Tryz.func31, Tryz.ntmps31
  go_wp2_with fail
  obtain ⟨W, hW⟩ : ∃ W, W = (((w.alloc (Obj.cells #[Value.bool san, Value.slice Xan pan qan, Value.bool sad, Value.slice Xad pad qad] 31)).alloc (Obj.cells #[Value.bool sbn, Value.slice Xbn pbn qbn, Value.bool sbd, Value.slice Xbd pbd qbd] 31)).alloc (Obj.cells #[Value.bool false, Value.slice none 0 0, Value.bool false, Value.slice none 0 0] 31)) := ⟨_, rfl⟩
  rw [← hW]
  have QXa : Hid (QBox W (w.heap.size) san (.slice Xan pan qan) sad (.slice Xad pad qad)) := by rw [hW]; have := ((QBox.new w san (Value.slice Xan pan qan) sad (Value.slice Xad pad qad)).alloc (Obj.cells #[Value.bool sbn, Value.slice Xbn pbn qbn, Value.bool sbd, Value.slice Xbd pbd qbd] 31)).alloc (Obj.cells #[Value.bool false, Value.slice none 0 0, Value.bool false, Value.slice none 0 0] 31); simpa [Hid] using this
  have QXb : Hid (QBox W (w.heap.size + 1) sbn (.slice Xbn pbn qbn) sbd (.slice Xbd pbd qbd)) := by rw [hW]; have := (QBox.new (w.alloc (Obj.cells #[Value.bool san, Value.slice Xan pan qan, Value.bool sad, Value.slice Xad pad qad] 31)) sbn (Value.slice Xbn pbn qbn) sbd (Value.slice Xbd pbd qbd)).alloc (Obj.cells #[Value.bool false, Value.slice none 0 0, Value.bool false, Value.slice none 0 0] 31); simpa [Hid] using this
  have RXr : Hid (QBox W (w.heap.size + 1 + 1) false (.slice none 0 0) false (.slice none 0 0)) := by rw [hW]; have := QBox.new ((w.alloc (Obj.cells #[Value.bool san, Value.slice Xan pan qan, Value.bool sad, Value.slice Xad pad qad] 31)).alloc (Obj.cells #[Value.bool sbn, Value.slice Xbn pbn qbn, Value.bool sbd, Value.slice Xbd pbd qbd] 31)) false (Value.slice none 0 0) false (Value.slice none 0 0); simpa [Hid] using this
  have IVna : Hid (Iv W (.agg #[.bool san, .slice Xan pan qan]) (a.num)) := by rw [hW]; exact (((Han.out).alloc _).alloc _).alloc _
  have IVda : Hid (Iv W (.agg #[.bool sad, .slice Xad pad qad]) ((a.den : Int))) := by rw [hW]; exact (((Had.out).alloc _).alloc _).alloc _
  have IVnb : Hid (Iv W (.agg #[.bool sbn, .slice Xbn pbn qbn]) (b.num)) := by rw [hW]; exact (((Hbn.out).alloc _).alloc _).alloc _
  have IVdb : Hid (Iv W (.agg #[.bool sbd, .slice Xbd pbd qbd]) ((b.den : Int))) := by rw [hW]; exact (((Hbd.out).alloc _).alloc _).alloc _
  have DW : Hid (Below w.heap.size w W) := by rw [hW]; exact (((Below.refl _ _).alloc (by simp <;> omega) _).alloc (by simp <;> omega) _).alloc (by simp <;> omega) _
  clear hW
  generalize hg : w.heap.size = g at *
  replace hg := Lib.hid hg
  go_upto_region 1 with fail
  have u1a := QXa.out.cell0; have u1b := QXa.out.cell1; have u1c := QXa.out.cell2; have u1d := QXa.out.cell3
  have u2a := QXb.out.cell0; have u2b := QXb.out.cell1; have u2c := QXb.out.cell2; have u2d := QXb.out.cell3
  go_wp2_with fail
  clear u1a u1b u1c u1d u2a u2b u2c u2d
  refine (qcmp_any _ _ a b _ (qv_of IVna.out IVda.out) (SRa.out.mono (by omega)) (qv_of IVnb.out IVdb.out) (SRb.out.mono (by omega))).mono ?_
  rintro e y3 ⟨rfl, hb⟩
  replace QXa := nxq QXa hb rfl; replace IVna := nxv IVna hb rfl; replace IVda := nxv IVda hb rfl
  replace QXb := nxq QXb hb rfl; replace IVnb := nxv IVnb hb rfl; replace IVdb := nxv IVdb hb rfl
  replace RXr := Lib.hid (RXr.out.next hb rfl)
  replace DW := nxd DW hg hb rfl rfl rfl rfl
  clear hb
  rw [hc.out]
  have u4a := QXa.out.cell0; have u4b := QXa.out.cell1; have u4c := QXa.out.cell2; have u4d := QXa.out.cell3
  go_wp2_with fail
  clear u4a u4b u4c u4d
  refine (qsign_any _ a _ (qv_of IVna.out IVda.out) (SRa.out.mono (by omega))).mono ?_
  rintro e y5 ⟨rfl, hb⟩
  replace QXa := nxq QXa hb rfl; replace IVna := nxv IVna hb rfl; replace IVda := nxv IVda hb rfl
  replace QXb := nxq QXb hb rfl; replace IVnb := nxv IVnb hb rfl; replace IVdb := nxv IVdb hb rfl
  replace RXr := Lib.hid (RXr.out.next hb rfl)
  replace DW := nxd DW hg hb rfl rfl rfl rfl
  clear hb
  rw [hsg.out]
  have u6a := QXa.out.cell0; have u6b := QXa.out.cell1; have u6c := QXa.out.cell2; have u6d := QXa.out.cell3
  go_wp2_with fail
  clear u6a u6b u6c u6d
  refine (qsign_any _ a _ (qv_of IVna.out IVda.out) (SRa.out.mono (by omega))).mono ?_
  rintro e y7 ⟨rfl, hb⟩
  replace QXa := nxq QXa hb rfl; replace IVna := nxv IVna hb rfl; replace IVda := nxv IVda hb rfl
  replace QXb := nxq QXb hb rfl; replace IVnb := nxv IVnb hb rfl; replace IVdb := nxv IVdb hb rfl
  replace RXr := Lib.hid (RXr.out.next hb rfl)
  replace DW := nxd DW hg hb rfl rfl rfl rfl
  clear hb
  rw [hsg.out]
  have u8a := QXa.out.cell0; have u8b := QXa.out.cell1; have u8c := QXa.out.cell2; have u8d := QXa.out.cell3
  have u9a := QXb.out.cell0; have u9b := QXb.out.cell1; have u9c := QXb.out.cell2; have u9d := QXb.out.cell3
  go_wp2_with fail
  clear u8a u8b u8c u8d u9a u9b u9c u9d
  refine (simplest_at _ _ a b N _ (qv_of IVna.out IVda.out) SRa.out (qv_of IVnb.out IVdb.out) SRb.out hok.out).mono ?_
  rintro e y10 ⟨_, rfl, hq, hb⟩
  rw [eH.out, eK.out] at hq
  obtain ⟨Xz, pz, qz, Yz, uz, tz, rfl, k1, k2⟩ := hq
  replace k1 := Lib.hid k1; replace k2 := Lib.hid k2
  replace QXa := nxq QXa hb rfl; replace IVna := nxv IVna hb rfl; replace IVda := nxv IVda hb rfl
  replace QXb := nxq QXb hb rfl; replace IVnb := nxv IVnb hb rfl; replace IVdb := nxv IVdb hb rfl
  replace RXr := Lib.hid (RXr.out.next hb rfl)
  replace DW := nxd DW hg hb rfl rfl rfl rfl
  clear hb
  generalize hs1 : decide (H1 < 0) = s1 at *
  generalize hs2 : decide (K1 < 0) = s2 at *
  clear hs1 hs2
  have u11a := RXr.out.cell0; have u11b := RXr.out.cell1; have u11c := RXr.out.cell2; have u11d := RXr.out.cell3; have u11f := RXr.out.frozen 0; have u11g := RXr.out.frozen 1; have u11h := RXr.out.frozen 2; have u11i := RXr.out.frozen 3
  go_wp2
  refine bodyPost_ret (v := .tuple #[.agg #[.bool s1, .slice Xz pz qz, .bool s2, .slice Yz uz tz], .int .i64 0]) (by simp [results, Tryz.results31, go_sem, u11a, u11b, u11c, u11d, u11f, u11g, u11h, u11i]) rfl ⟨_, rfl, ?_, by rw [hg.out]; exact (((DW.out.setCell (by simp <;> omega) _).setCell (by simp <;> omega) _).setCell (by simp <;> omega) _).setCell (by simp <;> omega) _⟩
  have hc := chg_qbox (b' := s1) (d' := s2) (A' := Xz) (n' := pz) (c' := qz) (B' := Yz) (m' := uz) (e' := tz) RXr.out
  exact qv_of (k1.out.kn hc.kn) (k2.out.kn hc.kn)
end Go.Proofs.YtfigimfdojbkeaaGreat
