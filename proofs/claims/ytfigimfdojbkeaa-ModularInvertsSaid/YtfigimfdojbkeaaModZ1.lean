/-
  Layer 3: one step of Euclid's table.
-/
import Derived.Test.YtfigimfdojbkeaaModRow
import Derived.Deep.DeepCutAuto
import Derived.Handy
set_option linter.unusedSimpArgs false
set_option linter.unusedVariables false
namespace Go.Proofs.Ytfigimfdojbkeaa.Row
open Go.RowKit
attribute [local go_sem ↓] Go.wp_at_zero Go.wp_at_succ

set_option maxHeartbeats 8000000 in
set_option maxRecDepth 100000 in
theorem step_any (g gb gl : Nat) (r0 t0 r1 t1 : Int) (w : World) (hb : QC w gb r0 t0) (hl : QC w gl r1 t1) (hne : gb ≠ gl) (hgb : g ≤ gb) (hgl : g ≤ gl) (hgw : g ≤ w.heap.size) (h0 : r1 ≠ 0) (s0 : Sz r0 1000) (s1 : Sz t0 1000) (s2 : Sz r1 1000) (s3 : Sz t1 1000) : Calls Try.prog 158 #[.pointer (some ⟨gb, 0, none⟩), .pointer (some ⟨gl, 0, none⟩)] w (fun e w' => e = .returned (.tuple #[]) ∧ QC w' gb r1 t1 ∧ QC w' gl (r0 % r1) (t0 - r0 / r1 * t1) ∧ Below g w w') := by
  obtain ⟨Xbn, pbn, qbn, Xbd, pbd, qbd, QXb, IVnb, IVdb⟩ := hb
  obtain ⟨Xln, pln, qln, Xld, pld, qld, QXl, IVnl, IVdl⟩ := hl
  replace QXb := Lib.hid QXb; replace IVnb := Lib.hid IVnb; replace IVdb := Lib.hid IVdb
  replace QXl := Lib.hid QXl; replace IVnl := Lib.hid IVnl; replace IVdl := Lib.hid IVdl
  generalize hs : decide (r0 < 0) = sbn at *
  clear hs
  generalize hs : decide (t0 < 0) = sbd at *
  clear hs
  generalize hs : decide (r1 < 0) = sln at *
  clear hs
  generalize hs : decide (t1 < 0) = sld at *
  clear hs
  have NQbl := Lib.hid hne; have GBb : Hid (g ≤ gb) := hgb; have GBl : Hid (g ≤ gl) := hgl; have hg := Lib.hid hgw
  replace h0 := Lib.hid h0; replace s0 := Lib.hid s0; replace s1 := Lib.hid s1; replace s2 := Lib.hid s2; replace s3 := Lib.hid s3
  have DW : Hid (Below g w w) := Below.refl _ _
  clear hne hgb hgl hgw
  go_enter Try.func158, Try.ntmps158
  have u1a := QXb.out.cell0; have u1b := QXb.out.cell1; have u1c := QXb.out.cell2; have u1d := QXb.out.cell3
  have u2a := QXl.out.cell0; have u2b := QXl.out.cell1; have u2c := QXl.out.cell2; have u2d := QXl.out.cell3
  go_wp2_with fail
  clear u1a u1b u1c u1d u2a u2b u2c u2d
  refine (divMod_any _ _ r0 r1 _ IVnb.out IVnl.out (s0.out.mono (by omega)) (s2.out.mono (by omega)) h0.out).mono ?_
  rintro e y3 ⟨_, _, rfl, hq0, hq1, hb⟩
  obtain ⟨Xq, pq, qq, rfl, _, _, _⟩ := hq0.form
  have Qq := Lib.hid hq0; clear hq0
  obtain ⟨Xe, pe, qe, rfl, _, _, _⟩ := hq1.form
  have Qe := Lib.hid hq1; clear hq1
  have B := Lib.hid hb; clear hb
  generalize hs : decide ((r0 / r1 : Int) < 0) = sq at *
  clear hs
  generalize hs : decide ((r0 % r1 : Int) < 0) = se at *
  clear hs
  go_upto_region 1 with fail
  obtain ⟨W4, hW⟩ : ∃ W4, W4 = ((y3.alloc (Obj.cells #[Value.bool sq, Value.slice Xq pq qq] 27)).alloc (Obj.cells #[Value.bool se, Value.slice Xe pe qe] 27)) := ⟨_, rfl⟩
  rw [← hW]
  have BXq : Hid (Box W4 (y3.heap.size) sq (.slice Xq pq qq)) := by rw [hW]; have := (Box.new y3 sq (.slice Xq pq qq)).alloc (Obj.cells #[Value.bool se, Value.slice Xe pe qe] 27); simpa [Hid] using this
  have IVq : Hid (Iv W4 (.agg #[.bool sq, .slice Xq pq qq]) (r0 / r1)) := by rw [hW]; exact ((Qq.out).alloc _).alloc _
  have BXe : Hid (Box W4 (y3.heap.size + 1) se (.slice Xe pe qe)) := by rw [hW]; have := Box.new (y3.alloc (Obj.cells #[Value.bool sq, Value.slice Xq pq qq] 27)) se (.slice Xe pe qe); simpa [Hid] using this
  have IVe : Hid (Iv W4 (.agg #[.bool se, .slice Xe pe qe]) (r0 % r1)) := by rw [hW]; exact ((Qe.out).alloc _).alloc _
  have hd : Below w.heap.size w W4 := by rw [hW]; exact ((B.out).alloc (by have := B.out.size; simp <;> omega) _).alloc (by have := B.out.size; simp <;> omega) _
  have GBq : Hid (g ≤ y3.heap.size) := by have := DW.out.size; have := hg.out; have := B.out.size; unfold Hid; omega
  have LTbq : Hid (gb < y3.heap.size) := by have := QXb.out.lt; have := B.out.size; unfold Hid; omega
  have LTlq : Hid (gl < y3.heap.size) := by have := QXl.out.lt; have := B.out.size; unfold Hid; omega
  have GBe : Hid (g ≤ y3.heap.size + 1) := by have := DW.out.size; have := hg.out; have := B.out.size; unfold Hid; omega
  have LTqe : Hid (y3.heap.size < y3.heap.size + 1) := by unfold Hid; omega
  have LTbe : Hid (gb < y3.heap.size + 1) := by have := QXb.out.lt; have := B.out.size; unfold Hid; omega
  have LTle : Hid (gl < y3.heap.size + 1) := by have := QXl.out.lt; have := B.out.size; unfold Hid; omega
  clear hW B Qq Qe
  generalize hgn4 : y3.heap.size + 1 = ge at *
  clear hgn4
  generalize hgn4 : y3.heap.size = gq at *
  clear hgn4
  replace QXb := nxq QXb hd rfl; replace IVnb := nxv IVnb hd rfl; replace IVdb := nxv IVdb hd rfl
  replace QXl := nxq QXl hd rfl; replace IVnl := nxv IVnl hd rfl; replace IVdl := nxv IVdl hd rfl
  replace DW := nxe DW hg hd rfl rfl rfl rfl
  clear hd
  have Sq : Hid (Sz (r0 / r1) 1000) := s0.out.ediv h0.out
  refine Rg.region_gg W4 [.is (.pointer (some ⟨gb, 2, none⟩)), .is (.agg #[.bool sbd, .slice Xbd pbd qbd]), .is (.agg #[.bool sq, .slice Xq pq qq]), .is (.pointer (some ⟨gl, 2, none⟩)), .is (.agg #[.bool sld, .slice Xld pld qld]), .sat (pIv (r0 / r1 * t1)) (pIv_keep _), .sat (pIv (t0 - r0 / r1 * t1)) (pIv_keep _), .own pNew pNew_keep, .put 7 (pPut (t0 - r0 / r1 * t1)) (pPut_keep _)] [] [some 15, some 16, some 17, some 18, some 19, some 20, some 21, some 5, none] (by kernel_rfl) (by kernel_rfl) (by kernel_rfl) (by kernel_rfl) (by kernel_rfl) (by simp [Rg.stos]) (by rfl) (by rfl) (by kernel_rfl) (by simp) ((Below.refl _ _).drew) (fun Q' => ?_) (fun K hK wn hs => ?_)
  · refine ⟨?_, ?_, ?_, ?_, ?_, ?_, ?_, ?_, ?_, trivial⟩
    · intro a' w' ha hs hw hold
      have eo0 : a'.tmps[0]? = some (ptr gb) := (ha.rest 0 (by kernel_rfl)).trans rfl
      exact ⟨rfl, .inl ⟨wanted_none rfl, wp_val (run_qfield1 rfl (ev_tmp eo0)) ⟨rfl, Below.refl _ _⟩⟩⟩
    · intro a' w' ha hs hw hold
      have e0 : a'.tmps[15]? = some (.pointer (some ⟨gb, 2, none⟩)) := Rg.slot_get rfl rfl (hw 0 (by kernel_rfl) _ rfl)
      exact ⟨rfl, .inl ⟨wanted_none rfl, wp_val (run_qload1 rfl (ev_tmp e0) (QXb.out.bel hs (by simp))) ⟨rfl, Below.refl _ _⟩⟩⟩
    · intro a' w' ha hs hw hold
      have eo2 : a'.tmps[2]? = some (ptr gq) := (ha.rest 2 (by kernel_rfl)).trans rfl
      exact ⟨rfl, .inl ⟨wanted_none rfl, wp_val (run_pload rfl (ev_tmp eo2) (BXq.out.bel hs (by simp))) ⟨rfl, Below.refl _ _⟩⟩⟩
    · intro a' w' ha hs hw hold
      have eo1 : a'.tmps[1]? = some (ptr gl) := (ha.rest 1 (by kernel_rfl)).trans rfl
      exact ⟨rfl, .inl ⟨wanted_none rfl, wp_val (run_qfield1 rfl (ev_tmp eo1)) ⟨rfl, Below.refl _ _⟩⟩⟩
    · intro a' w' ha hs hw hold
      have e3 : a'.tmps[18]? = some (.pointer (some ⟨gl, 2, none⟩)) := Rg.slot_get rfl rfl (hw 3 (by kernel_rfl) _ rfl)
      exact ⟨rfl, .inl ⟨wanted_none rfl, wp_val (run_qload1 rfl (ev_tmp e3) (QXl.out.bel hs (by simp))) ⟨rfl, Below.refl _ _⟩⟩⟩
    · intro a' w' ha hs hw hold
      have e2 : a'.tmps[17]? = some (.agg #[.bool sq, .slice Xq pq qq]) := Rg.slot_get rfl rfl (hw 2 (by kernel_rfl) _ rfl)
      have e4 : a'.tmps[19]? = some (.agg #[.bool sld, .slice Xld pld qld]) := Rg.slot_get rfl rfl (hw 4 (by kernel_rfl) _ rfl)
      exact ⟨rfl, wanted_none rfl, call_step rfl Try.func34 (by kernel_rfl) rfl (map_two (ev_tmp e2) (ev_tmp e4)) (mul_any _ _ (r0 / r1) t1 _ (IVq.out.kn hs.kn) (IVdl.out.kn hs.kn) (Sq.out.mono (by omega)) (s3.out.mono (by omega))) (fun e w2 he => by obtain ⟨v, rfl, hv, hb⟩ := he; exact ⟨v, rfl, v, rfl, hv, hb⟩)⟩
    · intro a' w' ha hs hw hold
      have e1 : a'.tmps[16]? = some (.agg #[.bool sbd, .slice Xbd pbd qbd]) := Rg.slot_get rfl rfl (hw 1 (by kernel_rfl) _ rfl)
      obtain ⟨v5, e5, q5⟩ := hw 5 (by kernel_rfl) _ rfl
      replace e5 : a'.tmps[20]? = some v5 := Rg.slot_get rfl rfl e5
      exact ⟨rfl, wanted_none rfl, call_step rfl Try.func32 (by kernel_rfl) rfl (map_two (ev_tmp e1) (ev_tmp e5)) (sub_any _ _ t0 (r0 / r1 * t1) _ (IVdb.out.kn hs.kn) q5 (s1.out.mono (by omega)) ((Sq.out.mul s3.out).mono (by omega))) (fun e w2 he => by obtain ⟨v, rfl, hv, hb⟩ := he; exact ⟨v, rfl, v, rfl, hv, hb⟩)⟩
    · intro a' w' ha hs hw hold
      exact ⟨rfl, wanted_none rfl, step_new rfl⟩
    · intro a' w' ha hs hw hold
      obtain ⟨v6, e6, q6⟩ := hw 6 (by kernel_rfl) _ rfl
      replace e6 : a'.tmps[21]? = some v6 := Rg.slot_get rfl rfl e6
      refine ⟨rfl, wanted_none rfl, by kernel_rfl, fun pv pg pp ph pe1 pe2 pe3 pe4 => ?_⟩
      cases pe1
      exact step_put rfl rfl (ev_tmp (Rg.slot_get rfl rfl pe2)) (ev_tmp e6) pe3 pe4 q6
  simp only [Rg.allG]
  intro r5x5 _
  intro r5x6 _
  intro a5x7 gb5x7 hE5x7 hB5x7 _ hN5x7 _
  intro v5 he hp
  simp only [List.nil_append, List.cons_append, List.getElem?_cons_succ, List.getElem?_cons_zero, Option.some.injEq] at he
  subst he
  obtain ⟨gt, rfl, Xt, pt, qt, BXt, IVt⟩ := hp
  simp only [setOpt, Rg.setOpt, List.set_cons_succ, List.set_cons_zero, ptr]
  refine hK _ _ ?_
  clear hK K
  replace hs := hs.below
  have hgb : gt = gb5x7 := Option.some.inj hE5x7
  have GBt : Hid (g ≤ gt) := by have := DW.out.size; have := hg.out; unfold Hid; omega
  have LTqt : Hid (gq < gt) := by have := BXq.out.lt; unfold Hid; omega
  have LTet : Hid (ge < gt) := by have := BXe.out.lt; unfold Hid; omega
  have LTbt : Hid (gb < gt) := by have := QXb.out.lt; unfold Hid; omega
  have LTlt : Hid (gl < gt) := by have := QXl.out.lt; unfold Hid; omega
  clear hgb
  clear hE5x7 hB5x7 hN5x7
  replace BXq := nxb BXq hs rfl; replace IVq := nxv IVq hs rfl
  replace BXe := nxb BXe hs rfl; replace IVe := nxv IVe hs rfl
  replace QXb := nxq QXb hs rfl; replace IVnb := nxv IVnb hs rfl; replace IVdb := nxv IVdb hs rfl
  replace QXl := nxq QXl hs rfl; replace IVnl := nxv IVnl hs rfl; replace IVdl := nxv IVdl hs rfl
  replace DW := nxe DW hg hs rfl rfl rfl rfl
  generalize hsg : decide ((t0 - r0 / r1 * t1 : Int) < 0) = st at *
  clear hsg
  replace BXt := Lib.hid BXt; replace IVt := Lib.hid IVt
  clear hs
  go_upto_region 2 with fail
  have QVl : Hid (Qv wn (.agg #[.bool sln, .slice Xln pln qln, .bool sld, .slice Xld pld qld]) (r1) (t1)) := qv_of IVnl.out IVdl.out
  refine Rg.region_gg wn [.is (.agg #[.bool sln, .slice Xln pln qln, .bool sld, .slice Xld pld qld]), .is (.agg #[.bool se, .slice Xe pe qe]), .is (.agg #[.bool st, .slice Xt pt qt]), .sat (pQv (r0 % r1) (t0 - r0 / r1 * t1)) (pQv_keep _ _), .sto gb (sQ gb (r1) (t1)) (sQ_keep _ _ _), .sto gl (sQ gl (r0 % r1) (t0 - r0 / r1 * t1)) (sQ_keep _ _ _)] [gb, gl] [some 22, some 23, some 24, some 25, none, none] (by kernel_rfl) (by kernel_rfl) (by kernel_rfl) (by kernel_rfl) (by kernel_rfl) (by simp only [Rg.stos, List.nodup_cons, List.mem_cons, List.not_mem_nil, or_false, not_or, List.nodup_nil, and_true, not_false_eq_true]; exact NQbl.out) (by rfl) (by rfl) (by kernel_rfl) (by intro g hg; simp only [List.mem_cons, List.not_mem_nil, or_false] at hg; rcases hg with rfl | rfl <;> first | exact QXb.out.lt | exact QXl.out.lt) ((Below.refl _ _).drew) (fun Q' => ?_) (fun K hK wn hs => ?_)
  · refine ⟨?_, ?_, ?_, ?_, ?_, ?_, trivial⟩
    · intro a' w' ha hs hw hold
      have eo1 : a'.tmps[1]? = some (ptr gl) := (ha.rest 1 (by kernel_rfl)).trans rfl
      exact ⟨rfl, .inl ⟨wanted_none rfl, wp_val (run_qload rfl (ev_tmp eo1) ((hold 5 _ _ _ _ (by rfl) (by rfl) (by kernel_rfl)).trans QXl.out)) ⟨rfl, Below.refl _ _⟩⟩⟩
    · intro a' w' ha hs hw hold
      have eo3 : a'.tmps[3]? = some (ptr ge) := (ha.rest 3 (by kernel_rfl)).trans rfl
      exact ⟨rfl, .inl ⟨wanted_none rfl, wp_val (run_pload rfl (ev_tmp eo3) (BXe.out.bel hs (by simp only [List.mem_cons, List.not_mem_nil, or_false, not_or]; exact ⟨(Nat.ne_of_gt LTbe.out), (Nat.ne_of_gt LTle.out)⟩))) ⟨rfl, Below.refl _ _⟩⟩⟩
    · intro a' w' ha hs hw hold
      have eo5 : a'.tmps[5]? = some (ptr gt) := (ha.rest 5 (by kernel_rfl)).trans rfl
      exact ⟨rfl, .inl ⟨wanted_none rfl, wp_val (run_pload rfl (ev_tmp eo5) (BXt.out.bel hs (by simp only [List.mem_cons, List.not_mem_nil, or_false, not_or]; exact ⟨(Nat.ne_of_gt LTbt.out), (Nat.ne_of_gt LTlt.out)⟩))) ⟨rfl, Below.refl _ _⟩⟩⟩
    · intro a' w' ha hs hw hold
      have e1 : a'.tmps[23]? = some (.agg #[.bool se, .slice Xe pe qe]) := Rg.slot_get rfl rfl (hw 1 (by kernel_rfl) _ rfl)
      have e2 : a'.tmps[24]? = some (.agg #[.bool st, .slice Xt pt qt]) := Rg.slot_get rfl rfl (hw 2 (by kernel_rfl) _ rfl)
      exact ⟨rfl, wanted_none rfl, step_build rfl (ev_tmp e1) (ev_tmp e2) (IVe.out.kn hs.kn) (IVt.out.kn hs.kn)⟩
    · intro a' w' ha hs hw hold
      have e0 : a'.tmps[22]? = some (.agg #[.bool sln, .slice Xln pln qln, .bool sld, .slice Xld pld qld]) := Rg.slot_get rfl rfl (hw 0 (by kernel_rfl) _ rfl)
      have eo0 : a'.tmps[0]? = some (ptr gb) := (ha.rest 0 (by kernel_rfl)).trans rfl
      exact ⟨rfl, wanted_none rfl, fun he => step_stoq rfl rfl (ev_tmp eo0) (ev_tmp e0) (QVl.out.kn hs.kn) QXb.out he⟩
    · intro a' w' ha hs hw hold
      obtain ⟨v3, e3, q3⟩ := hw 3 (by kernel_rfl) _ rfl
      replace e3 : a'.tmps[25]? = some v3 := Rg.slot_get rfl rfl e3
      have eo1 : a'.tmps[1]? = some (ptr gl) := (ha.rest 1 (by kernel_rfl)).trans rfl
      exact ⟨rfl, wanted_none rfl, fun he => step_stoq rfl rfl (ev_tmp eo1) (ev_tmp e3) q3 QXl.out he⟩
  simp only [Rg.allG]
  intro r6x3 _
  intro hSb
  intro hSl
  simp only [setOpt, Rg.setOpt, List.set_cons_succ, List.set_cons_zero]
  refine hK _ _ ?_
  clear hK K
  replace BXq := Lib.hid (BXq.out.bel hs (by simp only [List.mem_cons, List.not_mem_nil, or_false, not_or]; exact ⟨(Nat.ne_of_gt LTbq.out), (Nat.ne_of_gt LTlq.out)⟩)); replace IVq := Lib.hid (IVq.out.kn hs.kn)
  replace BXe := Lib.hid (BXe.out.bel hs (by simp only [List.mem_cons, List.not_mem_nil, or_false, not_or]; exact ⟨(Nat.ne_of_gt LTbe.out), (Nat.ne_of_gt LTle.out)⟩)); replace IVe := Lib.hid (IVe.out.kn hs.kn)
  replace BXt := Lib.hid (BXt.out.bel hs (by simp only [List.mem_cons, List.not_mem_nil, or_false, not_or]; exact ⟨(Nat.ne_of_gt LTbt.out), (Nat.ne_of_gt LTlt.out)⟩)); replace IVt := Lib.hid (IVt.out.kn hs.kn)
  replace DW := Lib.hid (hs.base DW.out (by have := hg.out; omega) (by intro x hx; simp only [List.mem_cons, List.not_mem_nil, or_false] at hx; rcases hx with rfl | rfl <;> first | (have := GBb.out; omega) | (have := GBl.out; omega) | omega))
  clear QXb IVnb IVdb
  obtain ⟨Xbn, pbn, qbn, Xbd, pbd, qbd, QXb, IVnb, IVdb⟩ := hSb
  generalize hsg : decide ((r1 : Int) < 0) = sbn at *
  clear hsg
  generalize hsg : decide ((t1 : Int) < 0) = sbd at *
  clear hsg
  replace QXb := Lib.hid QXb; replace IVnb := Lib.hid IVnb; replace IVdb := Lib.hid IVdb
  clear QXl IVnl IVdl
  obtain ⟨Xln, pln, qln, Xld, pld, qld, QXl, IVnl, IVdl⟩ := hSl
  generalize hsg : decide ((r0 % r1 : Int) < 0) = sln at *
  clear hsg
  generalize hsg : decide ((t0 - r0 / r1 * t1 : Int) < 0) = sld at *
  clear hsg
  replace QXl := Lib.hid QXl; replace IVnl := Lib.hid IVnl; replace IVdl := Lib.hid IVdl
  clear hs
  go_wp2
  refine bodyPost_end (v := .tuple #[]) (by simp [results, Try.results158, go_sem]) rfl ⟨rfl, qc_of QXb.out IVnb.out IVdb.out, qc_of QXl.out IVnl.out IVdl.out, DW.out⟩
end Go.Proofs.Ytfigimfdojbkeaa.Row
