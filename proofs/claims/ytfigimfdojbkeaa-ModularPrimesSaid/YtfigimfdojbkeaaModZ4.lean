/-
  Layer 3: one step of Euclid's table.
  Layer 3: the first short row of Euclid's table.
  Layer 3: Rebuild.
  Layer 3: the law's sanity.
-/
import Derived.Test.YtfigimfdojbkeaaModRow
import Derived.Deep.DeepCutAuto
import Derived.Handy
import Derived.Test.YtfigimfdojbkeaaLawE
import Derived.Test.YtfigimfdojbkeaaIntE
import Derived.Test.YtfigimfdojbkeaaModV
set_option linter.unusedSimpArgs false
set_option linter.unusedVariables false
section
namespace Go.Proofs.Ytfigimfdojbkeaa.Row
open Go.RowKit
attribute [local go_sem ↓] Go.wp_at_zero Go.wp_at_succ

set_option maxHeartbeats 8000000 in
set_option maxRecDepth 100000 in
theorem step_any (g gb gl : Nat) (r0 t0 r1 t1 : Int) (w : World) (hb : QC w gb r0 t0) (hl : QC w gl r1 t1) (hne : gb ≠ gl) (hgb : g ≤ gb) (hgl : g ≤ gl) (hgw : g ≤ w.heap.size) (h0 : r1 ≠ 0) (s0 : Sz r0 1000) (s1 : Sz t0 1000) (s2 : Sz r1 1000) (s3 : Sz t1 1000) : Calls Try.prog 158 #[.pointer (some ⟨gb, 0, none⟩), .pointer (some ⟨gl, 0, none⟩)] w (fun e w' => e = .returned (.tuple #[]) ∧ QC w' gb r1 t1 ∧ QC w' gl (r0 % r1) (t0 - r0 / r1 * t1) ∧ Below g w w') := by
  obtain ⟨Xbn, pbn, qbn, Xbd, pbd, qbd, QXb, IVnb, IVdb⟩ := hb
  obtain ⟨Xln, pln, qln, Xld, pld, qld, QXl, IVnl, IVdl⟩ := hl
  replace QXb := Lib.hid QXb; replace IVnb := Lib.hid IVnb; replace IVdb := Lib.hid IVdb
  replace QXl := Lib.hid QXl; replace IVnl := Lib.hid IVnl; replace IVdl := Lib.hid IVdl
  generalize hs : decide (r0 < 0) = sbn at *
  clear hs
  generalize hs : decide (t0 < 0) = sbd at *
  clear hs
  generalize hs : decide (r1 < 0) = sln at *
  clear hs
  generalize hs : decide (t1 < 0) = sld at *
  clear hs
  have NQbl := Lib.hid hne; have GBb : Hid (g ≤ gb) := hgb; have GBl : Hid (g ≤ gl) := hgl; have hg := Lib.hid hgw
  replace h0 := Lib.hid h0; replace s0 := Lib.hid s0; replace s1 := Lib.hid s1; replace s2 := Lib.hid s2; replace s3 := Lib.hid s3
  have DW : Hid (Below g w w) := Below.refl _ _
  clear hne hgb hgl hgw
  go_enter Try.func158, Try.ntmps158
  have u1a := QXb.out.cell0; have u1b := QXb.out.cell1; have u1c := QXb.out.cell2; have u1d := QXb.out.cell3
  have u2a := QXl.out.cell0; have u2b := QXl.out.cell1; have u2c := QXl.out.cell2; have u2d := QXl.out.cell3
  go_wp2_with fail
  clear u1a u1b u1c u1d u2a u2b u2c u2d
  refine (divMod_any _ _ r0 r1 _ IVnb.out IVnl.out (s0.out.mono (by omega)) (s2.out.mono (by omega)) h0.out).mono ?_
  rintro e y3 ⟨_, _, rfl, hq0, hq1, hb⟩
  obtain ⟨Xq, pq, qq, rfl, _, _, _⟩ := hq0.form
  have Qq := Lib.hid hq0; clear hq0
  obtain ⟨Xe, pe, qe, rfl, _, _, _⟩ := hq1.form
  have Qe := Lib.hid hq1; clear hq1
  have B := Lib.hid hb; clear hb
  generalize hs : decide ((r0 / r1 : Int) < 0) = sq at *
  clear hs
  generalize hs : decide ((r0 % r1 : Int) < 0) = se at *
  clear hs
  go_upto_region 1 with fail
  obtain ⟨W4, hW⟩ : ∃ W4, W4 = ((y3.alloc (Obj.cells #[Value.bool sq, Value.slice Xq pq qq] 27)).alloc (Obj.cells #[Value.bool se, Value.slice Xe pe qe] 27)) := ⟨_, rfl⟩
  rw [← hW]
  have BXq : Hid (Box W4 (y3.heap.size) sq (.slice Xq pq qq)) := by rw [hW]; have := (Box.new y3 sq (.slice Xq pq qq)).alloc (Obj.cells #[Value.bool se, Value.slice Xe pe qe] 27); simpa [Hid] using this
  have IVq : Hid (Iv W4 (.agg #[.bool sq, .slice Xq pq qq]) (r0 / r1)) := by rw [hW]; exact ((Qq.out).alloc _).alloc _
  have BXe : Hid (Box W4 (y3.heap.size + 1) se (.slice Xe pe qe)) := by rw [hW]; have := Box.new (y3.alloc (Obj.cells #[Value.bool sq, Value.slice Xq pq qq] 27)) se (.slice Xe pe qe); simpa [Hid] using this
  have IVe : Hid (Iv W4 (.agg #[.bool se, .slice Xe pe qe]) (r0 % r1)) := by rw [hW]; exact ((Qe.out).alloc _).alloc _
  have hd : Below w.heap.size w W4 := by rw [hW]; exact ((B.out).alloc (by have := B.out.size; simp <;> omega) _).alloc (by have := B.out.size; simp <;> omega) _
  have GBq : Hid (g ≤ y3.heap.size) := by have := DW.out.size; have := hg.out; have := B.out.size; unfold Hid; omega
  have LTbq : Hid (gb < y3.heap.size) := by have := QXb.out.lt; have := B.out.size; unfold Hid; omega
  have LTlq : Hid (gl < y3.heap.size) := by have := QXl.out.lt; have := B.out.size; unfold Hid; omega
  have GBe : Hid (g ≤ y3.heap.size + 1) := by have := DW.out.size; have := hg.out; have := B.out.size; unfold Hid; omega
  have LTqe : Hid (y3.heap.size < y3.heap.size + 1) := by unfold Hid; omega
  have LTbe : Hid (gb < y3.heap.size + 1) := by have := QXb.out.lt; have := B.out.size; unfold Hid; omega
  have LTle : Hid (gl < y3.heap.size + 1) := by have := QXl.out.lt; have := B.out.size; unfold Hid; omega
  clear hW B Qq Qe
  generalize hgn4 : y3.heap.size + 1 = ge at *
  clear hgn4
  generalize hgn4 : y3.heap.size = gq at *
  clear hgn4
  replace QXb := nxq QXb hd rfl; replace IVnb := nxv IVnb hd rfl; replace IVdb := nxv IVdb hd rfl
  replace QXl := nxq QXl hd rfl; replace IVnl := nxv IVnl hd rfl; replace IVdl := nxv IVdl hd rfl
  replace DW := nxe DW hg hd rfl rfl rfl rfl
  clear hd
  have Sq : Hid (Sz (r0 / r1) 1000) := s0.out.ediv h0.out
  refine Rg.region_gg W4 [.is (.pointer (some ⟨gb, 2, none⟩)), .is (.agg #[.bool sbd, .slice Xbd pbd qbd]), .is (.agg #[.bool sq, .slice Xq pq qq]), .is (.pointer (some ⟨gl, 2, none⟩)), .is (.agg #[.bool sld, .slice Xld pld qld]), .sat (pIv (r0 / r1 * t1)) (pIv_keep _), .sat (pIv (t0 - r0 / r1 * t1)) (pIv_keep _), .own pNew pNew_keep, .put 7 (pPut (t0 - r0 / r1 * t1)) (pPut_keep _)] [] [some 15, some 16, some 17, some 18, some 19, some 20, some 21, some 5, none] (by kernel_rfl) (by kernel_rfl) (by kernel_rfl) (by kernel_rfl) (by kernel_rfl) (by simp [Rg.stos]) (by rfl) (by rfl) (by kernel_rfl) (by simp) ((Below.refl _ _).drew) (fun Q' => ?_) (fun K hK wn hs => ?_)
  · refine ⟨?_, ?_, ?_, ?_, ?_, ?_, ?_, ?_, ?_, trivial⟩
    · intro a' w' ha hs hw hold
      have eo0 : a'.tmps[0]? = some (ptr gb) := (ha.rest 0 (by kernel_rfl)).trans rfl
      exact ⟨rfl, .inl ⟨wanted_none rfl, wp_val (run_qfield1 rfl (ev_tmp eo0)) ⟨rfl, Below.refl _ _⟩⟩⟩
    · intro a' w' ha hs hw hold
      have e0 : a'.tmps[15]? = some (.pointer (some ⟨gb, 2, none⟩)) := Rg.slot_get rfl rfl (hw 0 (by kernel_rfl) _ rfl)
      exact ⟨rfl, .inl ⟨wanted_none rfl, wp_val (run_qload1 rfl (ev_tmp e0) (QXb.out.bel hs (by simp))) ⟨rfl, Below.refl _ _⟩⟩⟩
    · intro a' w' ha hs hw hold
      have eo2 : a'.tmps[2]? = some (ptr gq) := (ha.rest 2 (by kernel_rfl)).trans rfl
      exact ⟨rfl, .inl ⟨wanted_none rfl, wp_val (run_pload rfl (ev_tmp eo2) (BXq.out.bel hs (by simp))) ⟨rfl, Below.refl _ _⟩⟩⟩
    · intro a' w' ha hs hw hold
      have eo1 : a'.tmps[1]? = some (ptr gl) := (ha.rest 1 (by kernel_rfl)).trans rfl
      exact ⟨rfl, .inl ⟨wanted_none rfl, wp_val (run_qfield1 rfl (ev_tmp eo1)) ⟨rfl, Below.refl _ _⟩⟩⟩
    · intro a' w' ha hs hw hold
      have e3 : a'.tmps[18]? = some (.pointer (some ⟨gl, 2, none⟩)) := Rg.slot_get rfl rfl (hw 3 (by kernel_rfl) _ rfl)
      exact ⟨rfl, .inl ⟨wanted_none rfl, wp_val (run_qload1 rfl (ev_tmp e3) (QXl.out.bel hs (by simp))) ⟨rfl, Below.refl _ _⟩⟩⟩
    · intro a' w' ha hs hw hold
      have e2 : a'.tmps[17]? = some (.agg #[.bool sq, .slice Xq pq qq]) := Rg.slot_get rfl rfl (hw 2 (by kernel_rfl) _ rfl)
      have e4 : a'.tmps[19]? = some (.agg #[.bool sld, .slice Xld pld qld]) := Rg.slot_get rfl rfl (hw 4 (by kernel_rfl) _ rfl)
      exact ⟨rfl, wanted_none rfl, call_step rfl Try.func34 (by kernel_rfl) rfl (map_two (ev_tmp e2) (ev_tmp e4)) (mul_any _ _ (r0 / r1) t1 _ (IVq.out.kn hs.kn) (IVdl.out.kn hs.kn) (Sq.out.mono (by omega)) (s3.out.mono (by omega))) (fun e w2 he => by obtain ⟨v, rfl, hv, hb⟩ := he; exact ⟨v, rfl, v, rfl, hv, hb⟩)⟩
    · intro a' w' ha hs hw hold
      have e1 : a'.tmps[16]? = some (.agg #[.bool sbd, .slice Xbd pbd qbd]) := Rg.slot_get rfl rfl (hw 1 (by kernel_rfl) _ rfl)
      obtain ⟨v5, e5, q5⟩ := hw 5 (by kernel_rfl) _ rfl
      replace e5 : a'.tmps[20]? = some v5 := Rg.slot_get rfl rfl e5
      exact ⟨rfl, wanted_none rfl, call_step rfl Try.func32 (by kernel_rfl) rfl (map_two (ev_tmp e1) (ev_tmp e5)) (sub_any _ _ t0 (r0 / r1 * t1) _ (IVdb.out.kn hs.kn) q5 (s1.out.mono (by omega)) ((Sq.out.mul s3.out).mono (by omega))) (fun e w2 he => by obtain ⟨v, rfl, hv, hb⟩ := he; exact ⟨v, rfl, v, rfl, hv, hb⟩)⟩
    · intro a' w' ha hs hw hold
      exact ⟨rfl, wanted_none rfl, step_new rfl⟩
    · intro a' w' ha hs hw hold
      obtain ⟨v6, e6, q6⟩ := hw 6 (by kernel_rfl) _ rfl
      replace e6 : a'.tmps[21]? = some v6 := Rg.slot_get rfl rfl e6
      refine ⟨rfl, wanted_none rfl, by kernel_rfl, fun pv pg pp ph pe1 pe2 pe3 pe4 => ?_⟩
      cases pe1
      exact step_put rfl rfl (ev_tmp (Rg.slot_get rfl rfl pe2)) (ev_tmp e6) pe3 pe4 q6
  simp only [Rg.allG]
  intro r5x5 _
  intro r5x6 _
  intro a5x7 gb5x7 hE5x7 hB5x7 _ hN5x7 _
  intro v5 he hp
  simp only [List.nil_append, List.cons_append, List.getElem?_cons_succ, List.getElem?_cons_zero, Option.some.injEq] at he
  subst he
  obtain ⟨gt, rfl, Xt, pt, qt, BXt, IVt⟩ := hp
  simp only [setOpt, Rg.setOpt, List.set_cons_succ, List.set_cons_zero, ptr]
  refine hK _ _ ?_
  clear hK K
  replace hs := hs.below
  have hgb : gt = gb5x7 := Option.some.inj hE5x7
  have GBt : Hid (g ≤ gt) := by have := DW.out.size; have := hg.out; unfold Hid; omega
  have LTqt : Hid (gq < gt) := by have := BXq.out.lt; unfold Hid; omega
  have LTet : Hid (ge < gt) := by have := BXe.out.lt; unfold Hid; omega
  have LTbt : Hid (gb < gt) := by have := QXb.out.lt; unfold Hid; omega
  have LTlt : Hid (gl < gt) := by have := QXl.out.lt; unfold Hid; omega
  clear hgb
  clear hE5x7 hB5x7 hN5x7
  replace BXq := nxb BXq hs rfl; replace IVq := nxv IVq hs rfl
  replace BXe := nxb BXe hs rfl; replace IVe := nxv IVe hs rfl
  replace QXb := nxq QXb hs rfl; replace IVnb := nxv IVnb hs rfl; replace IVdb := nxv IVdb hs rfl
  replace QXl := nxq QXl hs rfl; replace IVnl := nxv IVnl hs rfl; replace IVdl := nxv IVdl hs rfl
  replace DW := nxe DW hg hs rfl rfl rfl rfl
  generalize hsg : decide ((t0 - r0 / r1 * t1 : Int) < 0) = st at *
  clear hsg
  replace BXt := Lib.hid BXt; replace IVt := Lib.hid IVt
  clear hs
  go_upto_region 2 with fail
  have QVl : Hid (Qv wn (.agg #[.bool sln, .slice Xln pln qln, .bool sld, .slice Xld pld qld]) (r1) (t1)) := qv_of IVnl.out IVdl.out
  refine Rg.region_gg wn [.is (.agg #[.bool sln, .slice Xln pln qln, .bool sld, .slice Xld pld qld]), .is (.agg #[.bool se, .slice Xe pe qe]), .is (.agg #[.bool st, .slice Xt pt qt]), .sat (pQv (r0 % r1) (t0 - r0 / r1 * t1)) (pQv_keep _ _), .sto gb (sQ gb (r1) (t1)) (sQ_keep _ _ _), .sto gl (sQ gl (r0 % r1) (t0 - r0 / r1 * t1)) (sQ_keep _ _ _)] [gb, gl] [some 22, some 23, some 24, some 25, none, none] (by kernel_rfl) (by kernel_rfl) (by kernel_rfl) (by kernel_rfl) (by kernel_rfl) (by simp only [Rg.stos, List.nodup_cons, List.mem_cons, List.not_mem_nil, or_false, not_or, List.nodup_nil, and_true, not_false_eq_true]; exact NQbl.out) (by rfl) (by rfl) (by kernel_rfl) (by intro g hg; simp only [List.mem_cons, List.not_mem_nil, or_false] at hg; rcases hg with rfl | rfl <;> first | exact QXb.out.lt | exact QXl.out.lt) ((Below.refl _ _).drew) (fun Q' => ?_) (fun K hK wn hs => ?_)
  · refine ⟨?_, ?_, ?_, ?_, ?_, ?_, trivial⟩
    · intro a' w' ha hs hw hold
      have eo1 : a'.tmps[1]? = some (ptr gl) := (ha.rest 1 (by kernel_rfl)).trans rfl
      exact ⟨rfl, .inl ⟨wanted_none rfl, wp_val (run_qload rfl (ev_tmp eo1) ((hold 5 _ _ _ _ (by rfl) (by rfl) (by kernel_rfl)).trans QXl.out)) ⟨rfl, Below.refl _ _⟩⟩⟩
    · intro a' w' ha hs hw hold
      have eo3 : a'.tmps[3]? = some (ptr ge) := (ha.rest 3 (by kernel_rfl)).trans rfl
      exact ⟨rfl, .inl ⟨wanted_none rfl, wp_val (run_pload rfl (ev_tmp eo3) (BXe.out.bel hs (by simp only [List.mem_cons, List.not_mem_nil, or_false, not_or]; exact ⟨(Nat.ne_of_gt LTbe.out), (Nat.ne_of_gt LTle.out)⟩))) ⟨rfl, Below.refl _ _⟩⟩⟩
    · intro a' w' ha hs hw hold
      have eo5 : a'.tmps[5]? = some (ptr gt) := (ha.rest 5 (by kernel_rfl)).trans rfl
      exact ⟨rfl, .inl ⟨wanted_none rfl, wp_val (run_pload rfl (ev_tmp eo5) (BXt.out.bel hs (by simp only [List.mem_cons, List.not_mem_nil, or_false, not_or]; exact ⟨(Nat.ne_of_gt LTbt.out), (Nat.ne_of_gt LTlt.out)⟩))) ⟨rfl, Below.refl _ _⟩⟩⟩
    · intro a' w' ha hs hw hold
      have e1 : a'.tmps[23]? = some (.agg #[.bool se, .slice Xe pe qe]) := Rg.slot_get rfl rfl (hw 1 (by kernel_rfl) _ rfl)
      have e2 : a'.tmps[24]? = some (.agg #[.bool st, .slice Xt pt qt]) := Rg.slot_get rfl rfl (hw 2 (by kernel_rfl) _ rfl)
      exact ⟨rfl, wanted_none rfl, step_build rfl (ev_tmp e1) (ev_tmp e2) (IVe.out.kn hs.kn) (IVt.out.kn hs.kn)⟩
    · intro a' w' ha hs hw hold
      have e0 : a'.tmps[22]? = some (.agg #[.bool sln, .slice Xln pln qln, .bool sld, .slice Xld pld qld]) := Rg.slot_get rfl rfl (hw 0 (by kernel_rfl) _ rfl)
      have eo0 : a'.tmps[0]? = some (ptr gb) := (ha.rest 0 (by kernel_rfl)).trans rfl
      exact ⟨rfl, wanted_none rfl, fun he => step_stoq rfl rfl (ev_tmp eo0) (ev_tmp e0) (QVl.out.kn hs.kn) QXb.out he⟩
    · intro a' w' ha hs hw hold
      obtain ⟨v3, e3, q3⟩ := hw 3 (by kernel_rfl) _ rfl
      replace e3 : a'.tmps[25]? = some v3 := Rg.slot_get rfl rfl e3
      have eo1 : a'.tmps[1]? = some (ptr gl) := (ha.rest 1 (by kernel_rfl)).trans rfl
      exact ⟨rfl, wanted_none rfl, fun he => step_stoq rfl rfl (ev_tmp eo1) (ev_tmp e3) q3 QXl.out he⟩
  simp only [Rg.allG]
  intro r6x3 _
  intro hSb
  intro hSl
  simp only [setOpt, Rg.setOpt, List.set_cons_succ, List.set_cons_zero]
  refine hK _ _ ?_
  clear hK K
  replace BXq := Lib.hid (BXq.out.bel hs (by simp only [List.mem_cons, List.not_mem_nil, or_false, not_or]; exact ⟨(Nat.ne_of_gt LTbq.out), (Nat.ne_of_gt LTlq.out)⟩)); replace IVq := Lib.hid (IVq.out.kn hs.kn)
  replace BXe := Lib.hid (BXe.out.bel hs (by simp only [List.mem_cons, List.not_mem_nil, or_false, not_or]; exact ⟨(Nat.ne_of_gt LTbe.out), (Nat.ne_of_gt LTle.out)⟩)); replace IVe := Lib.hid (IVe.out.kn hs.kn)
  replace BXt := Lib.hid (BXt.out.bel hs (by simp only [List.mem_cons, List.not_mem_nil, or_false, not_or]; exact ⟨(Nat.ne_of_gt LTbt.out), (Nat.ne_of_gt LTlt.out)⟩)); replace IVt := Lib.hid (IVt.out.kn hs.kn)
  replace DW := Lib.hid (hs.base DW.out (by have := hg.out; omega) (by intro x hx; simp only [List.mem_cons, List.not_mem_nil, or_false] at hx; rcases hx with rfl | rfl <;> first | (have := GBb.out; omega) | (have := GBl.out; omega) | omega))
  clear QXb IVnb IVdb
  obtain ⟨Xbn, pbn, qbn, Xbd, pbd, qbd, QXb, IVnb, IVdb⟩ := hSb
  generalize hsg : decide ((r1 : Int) < 0) = sbn at *
  clear hsg
  generalize hsg : decide ((t1 : Int) < 0) = sbd at *
  clear hsg
  replace QXb := Lib.hid QXb; replace IVnb := Lib.hid IVnb; replace IVdb := Lib.hid IVdb
  clear QXl IVnl IVdl
  obtain ⟨Xln, pln, qln, Xld, pld, qld, QXl, IVnl, IVdl⟩ := hSl
  generalize hsg : decide ((r0 % r1 : Int) < 0) = sln at *
  clear hsg
  generalize hsg : decide ((t0 - r0 / r1 * t1 : Int) < 0) = sld at *
  clear hsg
  replace QXl := Lib.hid QXl; replace IVnl := Lib.hid IVnl; replace IVdl := Lib.hid IVdl
  clear hs
  go_wp2
  refine bodyPost_end (v := .tuple #[]) (by simp [results, Try.results158, go_sem]) rfl ⟨rfl, qc_of QXb.out IVnb.out IVdb.out, qc_of QXl.out IVnl.out IVdl.out, DW.out⟩
end Go.Proofs.Ytfigimfdojbkeaa.Row
end

section
namespace Go.Proofs.Ytfigimfdojbkeaa.Row
open Go.RowKit
attribute [local go_sem ↓] Go.wp_at_zero Go.wp_at_succ

/-- The first row of Euclid's table whose rest is at most b. -/
def fsh : Nat → Int → Int → Int → Int → Int → Int × Int
  | 0, _, _, _, r1, t1 => (r1, t1)
  | k + 1, b, r0, t0, r1, t1 => if r1 ≤ b then (r1, t1) else fsh k b r1 t1 (r0 % r1) (t0 - r0 / r1 * t1)
theorem of_z (k z : Int) (w : World) (h1 : -9223372036854775808 ≤ k) (h2 : k ≤ 9223372036854775807) (h : z = k) : Calls Try.prog 103 #[.int .i64 k] w (RetIv z w) := by rw [h]; exact of_any k w h1 h2
theorem rws_sz {m u r0 r1 t0 t1 : Int} (h : Reb.Rws m u r0 r1 t0 t1) (hr : 0 < r1) {N : Nat} (s : Sz m N) : Sz r0 N ∧ Sz t0 N ∧ Sz r1 N ∧ Sz t1 N := by
  obtain ⟨s1, a0, a1, hs, h0, h1, e0, e1, hd⟩ := h.rows
  have hlt := h.lt
  have p0 := Reb.mul_ge (show 1 ≤ a1 by omega) (show 0 ≤ r0 by omega)
  have p1 : 0 ≤ r1 * a0 := Int.mul_nonneg (by omega) h0
  have p2 := Reb.mul_ge (show 1 ≤ r0 by omega) (show 0 ≤ a1 by omega)
  have p3 := Reb.mul_ge (show 1 ≤ r1 by omega) h0
  have p4 : 0 ≤ r0 * a1 := Int.mul_nonneg (by omega) (by omega)
  rw [Int.mul_comm] at p0
  have b0 : r0 ≤ m := by omega
  have b1 : a1 ≤ m := by omega
  have b2 : a0 ≤ m := by omega
  have k : ∀ z : Int, -m ≤ z → z ≤ m → Sz z N := fun z l u => ⟨by have := s.lt; omega⟩
  rcases hs with rfl | rfl
  · exact ⟨k _ (by omega) (by omega), k _ (by omega) (by omega), k _ (by omega) (by omega), k _ (by omega) (by omega)⟩
  · exact ⟨k _ (by omega) (by omega), k _ (by omega) (by omega), k _ (by omega) (by omega), k _ (by omega) (by omega)⟩


set_option maxHeartbeats 8000000 in
set_option maxRecDepth 100000 in
theorem first_any (vu vm vb : Value) (zu zm zb R T : Int) (w : World) (hu : Iv w vu zu) (su : Sz zu 500) (hm : Iv w vm zm) (sm : Sz zm 500) (hb : Iv w vb zb) (sb : Sz zb 500) (hm0 : 0 < zm) (hb0 : 0 ≤ zb) (hbm : zb < zm) (hR : fsh (zm.toNat + 1) zb zm 0 (zu % zm) 1 = (R, T)) : Calls Try.prog 124 #[vu, vm, vb] w (RetQ R T w) := by
  obtain ⟨Xu, pu, qu, rfl, _, _, _⟩ := hu.form
  have Hu := Lib.hid hu
  have SZu := Lib.hid su
  clear hu su
  generalize hs : decide (zu < 0) = su at *
  clear hs
  obtain ⟨Xm, pm, qm, rfl, _, _, _⟩ := hm.form
  have Hm := Lib.hid hm
  have SZm := Lib.hid sm
  clear hm sm
  generalize hs : decide (zm < 0) = sm at *
  clear hs
  obtain ⟨Xb, pb, qb, rfl, _, _, _⟩ := hb.form
  have Hb := Lib.hid hb
  have SZb := Lib.hid sb
  clear hb sb
  generalize hs : decide (zb < 0) = sb at *
  clear hs
  obtain ⟨c0, hc0⟩ : ∃ z : Int, z = 0 := ⟨_, rfl⟩
  obtain ⟨c1, hc1⟩ : ∃ z : Int, z = 1 := ⟨_, rfl⟩
  have FR : Hid (Reb.Rws zm zu zm (zu % zm) c0 c1) := by rw [hc0, hc1]; exact Reb.Rws.first hm0
  have HR : Hid (fsh (zm.toNat + 1) zb zm c0 (zu % zm) c1 = (R, T)) := by rw [hc0, hc1]; exact hR
  have HM : Hid (0 < zm ∧ 0 ≤ zb ∧ zb < zm) := ⟨hm0, hb0, hbm⟩
  have FL : Hid ((zu % zm).toNat < zm.toNat + 1) := by
    have := Int.emod_lt_of_pos zu hm0
    have := Int.emod_nonneg zu (show zm ≠ 0 by omega)
    unfold Hid; omega
  replace hc0 := Lib.hid hc0; replace hc1 := Lib.hid hc1
  clear hR hm0 hb0 hbm
  go_enter Try.func124, Try.ntmps124
  go_wp2_with fail
  obtain ⟨W, hW⟩ : ∃ W, W = ((((w.alloc (Obj.cells #[Value.bool su, Value.slice Xu pu qu] 27)).alloc (Obj.cells #[Value.bool sm, Value.slice Xm pm qm] 27)).alloc (Obj.cells #[Value.bool sb, Value.slice Xb pb qb] 27)).alloc (Obj.cells #[Value.bool false, Value.slice none 0 0, Value.bool false, Value.slice none 0 0] 130)) := ⟨_, rfl⟩
  rw [← hW]
  have BXu : Hid (Box W (w.heap.size) su (.slice Xu pu qu)) := by rw [hW]; have := (((Box.new w su (Value.slice Xu pu qu)).alloc (Obj.cells #[Value.bool sm, Value.slice Xm pm qm] 27)).alloc (Obj.cells #[Value.bool sb, Value.slice Xb pb qb] 27)).alloc (Obj.cells #[Value.bool false, Value.slice none 0 0, Value.bool false, Value.slice none 0 0] 130); simpa [Hid] using this
  have BXm : Hid (Box W (w.heap.size + 1) sm (.slice Xm pm qm)) := by rw [hW]; have := ((Box.new (w.alloc (Obj.cells #[Value.bool su, Value.slice Xu pu qu] 27)) sm (Value.slice Xm pm qm)).alloc (Obj.cells #[Value.bool sb, Value.slice Xb pb qb] 27)).alloc (Obj.cells #[Value.bool false, Value.slice none 0 0, Value.bool false, Value.slice none 0 0] 130); simpa [Hid] using this
  have BXb : Hid (Box W (w.heap.size + 1 + 1) sb (.slice Xb pb qb)) := by rw [hW]; have := (Box.new ((w.alloc (Obj.cells #[Value.bool su, Value.slice Xu pu qu] 27)).alloc (Obj.cells #[Value.bool sm, Value.slice Xm pm qm] 27)) sb (Value.slice Xb pb qb)).alloc (Obj.cells #[Value.bool false, Value.slice none 0 0, Value.bool false, Value.slice none 0 0] 130); simpa [Hid] using this
  have RXr : Hid (QBox W (w.heap.size + 1 + 1 + 1) false (.slice none 0 0) false (.slice none 0 0)) := by rw [hW]; have := QBox.new (((w.alloc (Obj.cells #[Value.bool su, Value.slice Xu pu qu] 27)).alloc (Obj.cells #[Value.bool sm, Value.slice Xm pm qm] 27)).alloc (Obj.cells #[Value.bool sb, Value.slice Xb pb qb] 27)) false (Value.slice none 0 0) false (Value.slice none 0 0); simpa [Hid] using this
  have IVu : Hid (Iv W (.agg #[.bool su, .slice Xu pu qu]) (zu)) := by rw [hW]; exact ((((Hu.out).alloc _).alloc _).alloc _).alloc _
  have IVm : Hid (Iv W (.agg #[.bool sm, .slice Xm pm qm]) (zm)) := by rw [hW]; exact ((((Hm.out).alloc _).alloc _).alloc _).alloc _
  have IVb : Hid (Iv W (.agg #[.bool sb, .slice Xb pb qb]) (zb)) := by rw [hW]; exact ((((Hb.out).alloc _).alloc _).alloc _).alloc _
  have DW : Hid (Below w.heap.size w W) := by rw [hW]; exact ((((Below.refl _ _).alloc (by simp <;> omega) _).alloc (by simp <;> omega) _).alloc (by simp <;> omega) _).alloc (by simp <;> omega) _
  clear hW
  generalize hg : w.heap.size = g at *
  replace hg := Lib.hid hg
  go_upto_region 1 with fail
  have u1a := BXu.out.cell0; have u1b := BXu.out.cell1
  have u2a := BXm.out.cell0; have u2b := BXm.out.cell1
  go_wp2_with fail
  clear u1a u1b u2a u2b
  refine (divMod_any _ _ zu zm _ IVu.out IVm.out (SZu.out.mono (by omega)) (SZm.out.mono (by omega)) (by have := HM.out; omega)).mono ?_
  rintro e y3 ⟨_, _, rfl, hq0, hq1, hb⟩
  obtain ⟨Xq, pq, qq, rfl, _, _, _⟩ := hq0.form
  have Qq := Lib.hid hq0; clear hq0
  obtain ⟨Xe, pe, qe, rfl, _, _, _⟩ := hq1.form
  have Qe := Lib.hid hq1; clear hq1
  have B := Lib.hid hb; clear hb
  generalize hs : decide ((zu / zm : Int) < 0) = sq at *
  clear hs
  generalize hs : decide ((zu % zm : Int) < 0) = se at *
  clear hs
  go_upto_region 2 with fail
  obtain ⟨W4, hW⟩ : ∃ W4, W4 = ((y3.alloc (Obj.cells #[Value.bool sq, Value.slice Xq pq qq] 27)).alloc (Obj.cells #[Value.bool se, Value.slice Xe pe qe] 27)) := ⟨_, rfl⟩
  rw [← hW]
  have BXq : Hid (Box W4 (y3.heap.size) sq (.slice Xq pq qq)) := by rw [hW]; have := (Box.new y3 sq (.slice Xq pq qq)).alloc (Obj.cells #[Value.bool se, Value.slice Xe pe qe] 27); simpa [Hid] using this
  have IVq : Hid (Iv W4 (.agg #[.bool sq, .slice Xq pq qq]) (zu / zm)) := by rw [hW]; exact ((Qq.out).alloc _).alloc _
  have BXe : Hid (Box W4 (y3.heap.size + 1) se (.slice Xe pe qe)) := by rw [hW]; have := Box.new (y3.alloc (Obj.cells #[Value.bool sq, Value.slice Xq pq qq] 27)) se (.slice Xe pe qe); simpa [Hid] using this
  have IVe : Hid (Iv W4 (.agg #[.bool se, .slice Xe pe qe]) (zu % zm)) := by rw [hW]; exact ((Qe.out).alloc _).alloc _
  have hd : Below W.heap.size W W4 := by rw [hW]; exact ((B.out).alloc (by have := B.out.size; simp <;> omega) _).alloc (by have := B.out.size; simp <;> omega) _
  have NEer : Hid ((y3.heap.size + 1) ≠ (g + 1 + 1 + 1)) := by have := RXr.out.lt; have := B.out.size; unfold Hid; omega
  have NEqr : Hid ((y3.heap.size) ≠ (g + 1 + 1 + 1)) := by have := RXr.out.lt; have := B.out.size; unfold Hid; omega
  have GBq : Hid (g ≤ y3.heap.size) := by have := DW.out.size; have := hg.out; have := B.out.size; unfold Hid; omega
  have LTrq : Hid ((g + 1 + 1 + 1) < y3.heap.size) := by have := RXr.out.lt; have := B.out.size; unfold Hid; omega
  have LTuq : Hid (g < y3.heap.size) := by have := BXu.out.lt; have := B.out.size; unfold Hid; omega
  have LTmq : Hid ((g + 1) < y3.heap.size) := by have := BXm.out.lt; have := B.out.size; unfold Hid; omega
  have LTbq : Hid ((g + 1 + 1) < y3.heap.size) := by have := BXb.out.lt; have := B.out.size; unfold Hid; omega
  have GBe : Hid (g ≤ y3.heap.size + 1) := by have := DW.out.size; have := hg.out; have := B.out.size; unfold Hid; omega
  have LTre : Hid ((g + 1 + 1 + 1) < y3.heap.size + 1) := by have := RXr.out.lt; have := B.out.size; unfold Hid; omega
  have LTqe : Hid (y3.heap.size < y3.heap.size + 1) := by unfold Hid; omega
  have LTue : Hid (g < y3.heap.size + 1) := by have := BXu.out.lt; have := B.out.size; unfold Hid; omega
  have LTme : Hid ((g + 1) < y3.heap.size + 1) := by have := BXm.out.lt; have := B.out.size; unfold Hid; omega
  have LTbe : Hid ((g + 1 + 1) < y3.heap.size + 1) := by have := BXb.out.lt; have := B.out.size; unfold Hid; omega
  clear hW B Qq Qe
  generalize hgn4 : y3.heap.size + 1 = ge at *
  clear hgn4
  generalize hgn4 : y3.heap.size = gq at *
  clear hgn4
  replace BXu := nxb BXu hd rfl; replace IVu := nxv IVu hd rfl
  replace BXm := nxb BXm hd rfl; replace IVm := nxv IVm hd rfl
  replace BXb := nxb BXb hd rfl; replace IVb := nxv IVb hd rfl
  replace RXr := Lib.hid (RXr.out.next hd rfl)
  replace DW := nxd DW hg hd rfl rfl rfl rfl
  clear hd
  refine Rg.region_gg W4 [.is (.agg #[.bool sm, .slice Xm pm qm]), .sat (pIv (c0)) (pIv_keep _), .sat (pQv (zm) (c0)) (pQv_keep _ _), .is (.agg #[.bool se, .slice Xe pe qe]), .sat (pIv (c1)) (pIv_keep _), .sat (pQv (zu % zm) (c1)) (pQv_keep _ _), .own pNewQ pNewQ_keep, .own pNewQ pNewQ_keep, .put 6 (pPutQ (zm) (c0)) (pPutQ_keep _ _), .put 7 (pPutQ (zu % zm) (c1)) (pPutQ_keep _ _)] [] [some 20, some 21, some 22, some 23, some 24, some 25, some 10, some 11, none, none] (by kernel_rfl) (by kernel_rfl) (by kernel_rfl) (by kernel_rfl) (by kernel_rfl) (by simp [Rg.stos]) (by rfl) (by rfl) (by kernel_rfl) (by simp) ((Below.refl _ _).drew) (fun Q' => ?_) (fun K hK wn hs => ?_)
  · refine ⟨?_, ?_, ?_, ?_, ?_, ?_, ?_, ?_, ?_, ?_, trivial⟩
    · intro a' w' ha hs hw hold
      have eo4 : a'.tmps[4]? = some (ptr (g + 1)) := (ha.rest 4 (by kernel_rfl)).trans rfl
      exact ⟨rfl, .inl ⟨wanted_none rfl, wp_val (run_pload rfl (ev_tmp eo4) (BXm.out.bel hs (by simp))) ⟨rfl, Below.refl _ _⟩⟩⟩
    · intro a' w' ha hs hw hold
      exact ⟨rfl, wanted_none rfl, call_step rfl Try.func103 (by kernel_rfl) rfl (map_one rfl) (of_z 0 c0 _ (by omega) (by omega) hc0.out) (fun e w2 he => by obtain ⟨v, rfl, hv, hb⟩ := he; exact ⟨v, rfl, v, rfl, hv, hb⟩)⟩
    · intro a' w' ha hs hw hold
      have e0 : a'.tmps[20]? = some (.agg #[.bool sm, .slice Xm pm qm]) := Rg.slot_get rfl rfl (hw 0 (by kernel_rfl) _ rfl)
      obtain ⟨v1, e1, q1⟩ := hw 1 (by kernel_rfl) _ rfl
      replace e1 : a'.tmps[21]? = some v1 := Rg.slot_get rfl rfl e1
      exact ⟨rfl, wanted_none rfl, step_build rfl (ev_tmp e0) (ev_tmp e1) (IVm.out.kn hs.kn) q1⟩
    · intro a' w' ha hs hw hold
      have eo8 : a'.tmps[8]? = some (ptr ge) := (ha.rest 8 (by kernel_rfl)).trans rfl
      exact ⟨rfl, .inl ⟨wanted_none rfl, wp_val (run_pload rfl (ev_tmp eo8) (BXe.out.bel hs (by simp))) ⟨rfl, Below.refl _ _⟩⟩⟩
    · intro a' w' ha hs hw hold
      exact ⟨rfl, wanted_none rfl, call_step rfl Try.func103 (by kernel_rfl) rfl (map_one rfl) (of_z 1 c1 _ (by omega) (by omega) hc1.out) (fun e w2 he => by obtain ⟨v, rfl, hv, hb⟩ := he; exact ⟨v, rfl, v, rfl, hv, hb⟩)⟩
    · intro a' w' ha hs hw hold
      have e3 : a'.tmps[23]? = some (.agg #[.bool se, .slice Xe pe qe]) := Rg.slot_get rfl rfl (hw 3 (by kernel_rfl) _ rfl)
      obtain ⟨v4, e4, q4⟩ := hw 4 (by kernel_rfl) _ rfl
      replace e4 : a'.tmps[24]? = some v4 := Rg.slot_get rfl rfl e4
      exact ⟨rfl, wanted_none rfl, step_build rfl (ev_tmp e3) (ev_tmp e4) (IVe.out.kn hs.kn) q4⟩
    · intro a' w' ha hs hw hold
      exact ⟨rfl, wanted_none rfl, step_newq rfl⟩
    · intro a' w' ha hs hw hold
      exact ⟨rfl, wanted_none rfl, step_newq rfl⟩
    · intro a' w' ha hs hw hold
      obtain ⟨v2, e2, q2⟩ := hw 2 (by kernel_rfl) _ rfl
      replace e2 : a'.tmps[22]? = some v2 := Rg.slot_get rfl rfl e2
      refine ⟨rfl, wanted_none rfl, by kernel_rfl, fun pv pg pp ph pe1 pe2 pe3 pe4 => ?_⟩
      cases pe1
      exact step_putq rfl rfl (ev_tmp (Rg.slot_get rfl rfl pe2)) (ev_tmp e2) pe3 pe4 q2
    · intro a' w' ha hs hw hold
      obtain ⟨v5, e5, q5⟩ := hw 5 (by kernel_rfl) _ rfl
      replace e5 : a'.tmps[25]? = some v5 := Rg.slot_get rfl rfl e5
      refine ⟨rfl, wanted_none rfl, by kernel_rfl, fun pv pg pp ph pe1 pe2 pe3 pe4 => ?_⟩
      cases pe1
      exact step_putq rfl rfl (ev_tmp (Rg.slot_get rfl rfl pe2)) (ev_tmp e5) pe3 pe4 q5
  simp only [Rg.allG]
  intro r5x1 _
  intro r5x2 _
  intro r5x4 _
  intro r5x5 _
  intro a5x6 gb5x6 hE5x6 hB5x6 _ hN5x6 _
  intro a5x7 gb5x7 hE5x7 hB5x7 _ hN5x7 _
  intro v5 he hp
  simp only [List.nil_append, List.cons_append, List.getElem?_cons_succ, List.getElem?_cons_zero, Option.some.injEq] at he
  subst he
  obtain ⟨gc, rfl, Xcn, pcn, qcn, Xcd, pcd, qcd, QXc, IVnc, IVdc⟩ := hp
  intro v5 he hp
  simp only [List.nil_append, List.cons_append, List.getElem?_cons_succ, List.getElem?_cons_zero, Option.some.injEq] at he
  subst he
  obtain ⟨gl, rfl, Xln, pln, qln, Xld, pld, qld, QXl, IVnl, IVdl⟩ := hp
  simp only [setOpt, Rg.setOpt, List.set_cons_succ, List.set_cons_zero, ptr]
  refine hK _ _ ?_
  clear hK K
  replace hs := hs.below
  have hgb : gc = gb5x6 := Option.some.inj hE5x6
  have NEcr : Hid (gc ≠ (g + 1 + 1 + 1)) := by have h1 := RXr.out.lt; unfold Hid; omega
  have GBc : Hid (g ≤ gc) := by have := DW.out.size; have := hg.out; unfold Hid; omega
  have LTrc : Hid ((g + 1 + 1 + 1) < gc) := by have := RXr.out.lt; unfold Hid; omega
  have LTuc : Hid (g < gc) := by have := BXu.out.lt; unfold Hid; omega
  have LTmc : Hid ((g + 1) < gc) := by have := BXm.out.lt; unfold Hid; omega
  have LTbc : Hid ((g + 1 + 1) < gc) := by have := BXb.out.lt; unfold Hid; omega
  have LTqc : Hid (gq < gc) := by have := BXq.out.lt; unfold Hid; omega
  have LTec : Hid (ge < gc) := by have := BXe.out.lt; unfold Hid; omega
  clear hgb
  have hgb : gl = gb5x7 := Option.some.inj hE5x7
  have NElr : Hid (gl ≠ (g + 1 + 1 + 1)) := by have h1 := RXr.out.lt; unfold Hid; omega
  have GBl : Hid (g ≤ gl) := by have := DW.out.size; have := hg.out; unfold Hid; omega
  have LTrl : Hid ((g + 1 + 1 + 1) < gl) := by have := RXr.out.lt; unfold Hid; omega
  have LTul : Hid (g < gl) := by have := BXu.out.lt; unfold Hid; omega
  have LTml : Hid ((g + 1) < gl) := by have := BXm.out.lt; unfold Hid; omega
  have LTbl : Hid ((g + 1 + 1) < gl) := by have := BXb.out.lt; unfold Hid; omega
  have LTql : Hid (gq < gl) := by have := BXq.out.lt; unfold Hid; omega
  have LTel : Hid (ge < gl) := by have := BXe.out.lt; unfold Hid; omega
  have NQcl : Hid (gc ≠ gl) := by have h3 := hN5x7 6 _ (by rfl) (by kernel_rfl); unfold Hid; rintro rfl; exact h3 (congrArg some hgb)
  clear hgb
  clear hE5x6 hB5x6 hN5x6 hE5x7 hB5x7 hN5x7
  replace BXu := nxb BXu hs rfl; replace IVu := nxv IVu hs rfl
  replace BXm := nxb BXm hs rfl; replace IVm := nxv IVm hs rfl
  replace BXb := nxb BXb hs rfl; replace IVb := nxv IVb hs rfl
  replace BXq := nxb BXq hs rfl; replace IVq := nxv IVq hs rfl
  replace BXe := nxb BXe hs rfl; replace IVe := nxv IVe hs rfl
  replace RXr := Lib.hid (RXr.out.next hs rfl)
  replace DW := nxd DW hg hs rfl rfl rfl rfl
  generalize hsg : decide ((zm : Int) < 0) = scn at *
  clear hsg
  generalize hsg : decide ((c0 : Int) < 0) = scd at *
  clear hsg
  replace QXc := Lib.hid QXc; replace IVnc := Lib.hid IVnc; replace IVdc := Lib.hid IVdc
  generalize hsg : decide ((zu % zm : Int) < 0) = sln at *
  clear hsg
  generalize hsg : decide ((c1 : Int) < 0) = sld at *
  clear hsg
  replace QXl := Lib.hid QXl; replace IVnl := Lib.hid IVnl; replace IVdl := Lib.hid IVdl
  clear hs
  have NCL : Hid (gc ≠ gl) := NQcl.out
  have BC : Hid (g + 4 ≤ gc) := by have := LTrc.out; unfold Hid; omega
  have BLL : Hid (g + 4 ≤ gl) := by have := LTrl.out; unfold Hid; omega
  go_wp2_with fail
  go_loopg [31] (zm.toNat + 1) (fun k _ wr => ∃ r0 t0 r1 t1 : Int, r1.toNat < k ∧ fsh k zb r0 t0 r1 t1 = (R, T) ∧ Reb.Rws zm zu r0 r1 t0 t1 ∧ QC wr gc r0 t0 ∧ QC wr gl r1 t1 ∧ Box wr (g + 1 + 1) sb (.slice Xb pb qb) ∧ Iv wr (.agg #[.bool sb, .slice Xb pb qb]) zb ∧ QBox wr (g + 1 + 1 + 1) false (.slice none 0 0) false (.slice none 0 0) ∧ Below g w wr)
  case atStart => exact ⟨_, _, _, _, FL.out, HR.out, FR.out, qc_of QXc.out IVnc.out IVdc.out, qc_of QXl.out IVnl.out IVdl.out, BXb.out, IVb.out, RXr.out, DW.out⟩
  case round =>
    clear QXc IVnc IVdc QXl IVnl IVdl BXb IVb RXr DW BXu IVu BXm IVm BXq IVq BXe IVe
    obtain ⟨r0, t0, r1, t1, hk, hf, hw, hqc, hql, hbb, hib, hrr, hbl⟩ := hrel
    have HK := Lib.hid hk; have HF := Lib.hid hf; have HWS := Lib.hid hw; have HC := Lib.hid hqc
    obtain ⟨Xln, pln, qln, Xld, pld, qld, QXl, IVnl, IVdl⟩ := hql
    generalize hs : decide (r1 < 0) = sln at *
    clear hs
    generalize hs : decide (t1 < 0) = sld at *
    clear hs
    replace QXl := Lib.hid QXl; replace IVnl := Lib.hid IVnl; replace IVdl := Lib.hid IVdl
    have BXb := Lib.hid hbb; have IVb := Lib.hid hib; have RXr := Lib.hid hrr; have DW := Lib.hid hbl
    clear hk hf hw hqc hbb hib hrr hbl
    have SR1 : Hid (Sz r1 500) := ⟨by have := SZm.out.lt; have h1 := HWS.out.pos; have h2 := HWS.out.lt; obtain ⟨s1, a0, a1, hs, g0, g1, _, _, hd⟩ := HWS.out.rows; have p0 := Reb.mul_ge (show 1 ≤ a1 by omega) (show 0 ≤ r0 by omega); have p1 : 0 ≤ r1 * a0 := Int.mul_nonneg (by omega) g0; rw [Int.mul_comm] at p0; omega⟩
    obtain ⟨o, ho⟩ : ∃ o, cmpZ r1 zb = o := ⟨_, rfl⟩
    have HO : Hid (decide (0 < o) = true ↔ ¬ r1 ≤ zb) := by
      rw [← ho]
      rcases Int.lt_trichotomy r1 zb with h | h | h
      · rw [cmpZ_lt h]; exact ⟨fun k => absurd k (by decide), fun k => by omega⟩
      · rw [cmpZ_eq h]; exact ⟨fun k => absurd k (by decide), fun k => by omega⟩
      · rw [cmpZ_gt h]; exact ⟨fun _ => by omega, fun _ => by decide⟩
    replace ho := Lib.hid ho
    have u201a := QXl.out.cell0; have u201b := QXl.out.cell1; have u201c := QXl.out.cell2; have u201d := QXl.out.cell3
    have u202a := BXb.out.cell0; have u202b := BXb.out.cell1
    go_wp2_with fail
    clear u201a u201b u201c u201d u202a u202b
    refine (cmp_is _ _ r1 zb o _ IVnl.out IVb.out (SR1.out.mono (by omega)) (SZb.out.mono (by omega)) ho.out).mono ?_
    rintro e y203 ⟨rfl, hb⟩
    replace HC : Hid (QC y203 gc r0 t0) := by obtain ⟨A, i, c, A', i', c', k1, k2, k3⟩ := HC.out; exact ⟨A, i, c, A', i', c', k1.next hb rfl, iv_next k2 hb rfl, iv_next k3 hb rfl⟩
    replace BXb := nxb BXb hb rfl; replace IVb := nxv IVb hb rfl
    replace QXl := nxq QXl hb rfl; replace IVnl := nxv IVnl hb rfl; replace IVdl := nxv IVdl hb rfl
    replace RXr := Lib.hid (RXr.out.next hb rfl)
    replace DW := nxd DW hg hb rfl rfl rfl rfl
    clear hb
    by_cases hle : r1 ≤ zb
    · have d0 : decide (0 < o) = false := by rw [Bool.eq_false_iff]; intro h; have := HO.out.1 h; omega
      have u204a := QXl.out.cell0; have u204b := QXl.out.cell1; have u204c := QXl.out.cell2; have u204d := QXl.out.cell3
      have u205a := RXr.out.cell0; have u205b := RXr.out.cell1; have u205c := RXr.out.cell2; have u205d := RXr.out.cell3; have u205f := RXr.out.frozen 0; have u205g := RXr.out.frozen 1; have u205h := RXr.out.frozen 2; have u205i := RXr.out.frozen 3
      have e0 : (r1, t1) = (R, T) := by
        have h := HF.out
        have hk := HK.out
        obtain ⟨k, rfl⟩ : ∃ k, gk = k + 1 := ⟨gk - 1, by omega⟩
        unfold fsh at h
        rwa [if_pos hle] at h
      have e1 := Lib.hid (Prod.mk.inj e0)
      clear e0
      go_wp2
      refine bodyPost_ret (v := .agg #[.bool sln, .slice Xln pln qln, .bool sld, .slice Xld pld qld]) (by simp [results, Try.results124, go_sem, u204a, u204b, u204c, u204d, u205a, u205b, u205c, u205d, u205f, u205g, u205h, u205i]) rfl ⟨_, rfl, ?_, by rw [hg.out]; exact (((DW.out.setCell (by simp <;> omega) _).setCell (by simp <;> omega) _).setCell (by simp <;> omega) _).setCell (by simp <;> omega) _⟩
      have hc := chg_qbox (b' := sln) (d' := sld) (A' := Xln) (n' := pln) (c' := qln) (B' := Xld) (m' := pld) (e' := qld) RXr.out
      rw [← e1.out.1, ← e1.out.2]
      exact qv_of (IVnl.out.kn hc.kn) (IVdl.out.kn hc.kn)
    · have d0 : decide (0 < o) = true := HO.out.2 (by omega)
      have hpos : 0 < r1 := by have := HM.out; omega
      have SS := rws_sz HWS.out hpos SZm.out
      have HLE := Lib.hid hle
      have hstep := step_any (g + 4) gc gl r0 t0 r1 t1 y203 HC.out (qc_of QXl.out IVnl.out IVdl.out) NCL.out BC.out BLL.out (by have := QXl.out.lt; have := BLL.out; omega) (by omega) (SS.1.mono (by omega)) (SS.2.1.mono (by omega)) (SS.2.2.1.mono (by omega)) (SS.2.2.2.mono (by omega))
      go_wp2_with fail
      refine hstep.mono ?_
      rintro e w9 ⟨rfl, h1, h2, hb9⟩
      have H1 := Lib.hid h1; have H2 := Lib.hid h2
      replace BXb := Lib.hid (BXb.out.below hb9 (by omega))
      replace RXr := Lib.hid (RXr.out.below hb9 (by omega))
      have DN : Hid (Below g w w9) := DW.out.trans (hb9.mono (by omega))
      replace IVb : Hid (Iv w9 (.agg #[.bool sb, .slice Xb pb qb]) zb) := by have h := DN.out; rw [← hg.out] at h; exact iv_next Hb.out h rfl
      clear h1 h2 hb9 hstep SS
      go_wp2
      go_roundg (gk - 1)
      case measure => have := HK.out; omega
      case rel =>
        have hf := HF.out
        have hk := HK.out
        obtain ⟨k, rfl⟩ : ∃ k, gk = k + 1 := ⟨gk - 1, by omega⟩
        unfold fsh at hf
        rw [if_neg (show ¬ r1 ≤ zb by have := HLE.out; omega)] at hf
        have e1 := Int.emod_lt_of_pos r0 hpos
        have e2 := Int.emod_nonneg r0 (show r1 ≠ 0 by omega)
        exact ⟨r1, t1, r0 % r1, t0 - r0 / r1 * t1, by simp; omega, by simpa using hf, HWS.out.next hpos, H1.out, H2.out, BXb.out, IVb.out, RXr.out, DN.out⟩
end Go.Proofs.Ytfigimfdojbkeaa.Row
end

section
namespace Go.Proofs.Ytfigimfdojbkeaa
open Go.RowKit
attribute [local go_sem ↓] Go.wp_at_zero Go.wp_at_succ

theorem wanted_off {o : Oper} {a : Act} {ops : Array Oper} {j : Nat} {b c : Bool} {o' : Oper} {d : Nat} (h : o.guard = some (j, b)) (ho : ops[j]? = some o') (hd : o'.dst = some d) (hv : a.tmps[d]? = some (.bool c)) (hn : c ≠ b) : Region.wanted o (yielded ops a.tmps) = false := by
  simp [Region.wanted, h, yielded, ho, hd, hv, hn]
theorem wanted_undef {o : Oper} {a : Act} {ops : Array Oper} {j : Nat} {b : Bool} {o' : Oper} {d : Nat} (h : o.guard = some (j, b)) (ho : ops[j]? = some o') (hd : o'.dst = some d) (hv : a.tmps[d]? = some undef) : Region.wanted o (yielded ops a.tmps) = false := by
  simp [Region.wanted, h, yielded, ho, hd, hv, undef]
def RetQB (n d : Int) (ok : Bool) (w : World) (e : Ending) (w' : World) : Prop := ∃ v, e = .returned (.tuple #[v, .bool ok]) ∧ Qv w' v n d ∧ Below w.heap.size w w'
theorem zeroQ_qv3 (w : World) : Qv w zeroQ 0 0 := ⟨none, 0, 0, none, 0, 0, rfl, Iv.zero w, Iv.zero w⟩
section
variable {o : Oper} {w : World} {ρ : Operand → Value} {x y : Operand} {t u : TypeId}
theorem run_gtrB {k : IntKind} {m n : Int} {r : Bool} (ho : o.op = .binOp .gtr t x y u) (hx : ρ x = .int k m) (hy : ρ y = .int k n) (h : decide (n < m) = r) : (execOp ρ o).run Try.prog w = .ok (.value (.bool r)) w := by
  subst h
  simp [execOp, ho, hx, hy, go_sem]
end


set_option maxHeartbeats 8000000 in
set_option maxRecDepth 100000 in
theorem rebuild_ok (vu vm : Value) (zu zm R T : Int) (a b : Nat) (w : World) (hu : Iv w vu zu) (su : Sz zu 400) (hm : Iv w vm zm) (sm : Sz zm 400) (hm0 : 0 < zm) (ha : (zm - 1) / 2 = (a : Int)) (hb1 : b ^ 2 ≤ a) (hb2 : a < (b + 1) ^ 2) (hbm : (b : Int) < zm) (hR : Row.fsh (zm.toNat + 1) b zm 0 (zu % zm) 1 = (R, T)) (sR : Sz R 400) (sT : Sz T 400) (hT : 0 ≤ T) (hd : T ≤ b) (hc : Int.gcd (R) (T) = 1) : Calls Try.prog 68 #[vu, vm] w (RetQB (R) (T) true w) := by
  obtain ⟨Xu, pu, qu, rfl, _, _, _⟩ := hu.form
  have Hu := Lib.hid hu
  have SZu := Lib.hid su
  clear hu su
  generalize hs : decide (zu < 0) = su at *
  clear hs
  obtain ⟨Xm, pm, qm, rfl, _, _, _⟩ := hm.form
  have Hm := Lib.hid hm
  have SZm := Lib.hid sm
  clear hm sm
  generalize hs : decide (zm < 0) = sm at *
  clear hs
  obtain ⟨c1, hc1⟩ : ∃ z : Int, z = 1 := ⟨_, rfl⟩
  have HA : Hid ((zm - c1) / 2 = (a : Int)) := by rw [hc1]; exact ha
  obtain ⟨ze, hze⟩ : ∃ z : Int, (zm - c1) % 2 = z := ⟨_, rfl⟩
  have hgm : Hid (sg zm = 1) := by rcases sg_cases zm with ⟨h1, e1⟩ | ⟨h1, e1⟩ | ⟨h1, e1⟩ <;> first | exact e1 | omega
  have SA : Hid (Sz (a : Int) 400) := ⟨by have := SZm.out.lt; rw [Int.natAbs_natCast]; omega⟩
  have SB : Hid (Sz (b : Int) 400) := ⟨by have := SZm.out.lt; rw [Int.natAbs_natCast]; omega⟩
  have HM0 := Lib.hid hm0; have HB1 := Lib.hid hb1; have HB2 := Lib.hid hb2; have HBM := Lib.hid hbm; have HR := Lib.hid hR; have SR := Lib.hid sR; have ST := Lib.hid sT; have HT := Lib.hid hT; have HD := Lib.hid hd
  have HCc := Lib.hid hc; clear hc
  replace hc1 := Lib.hid hc1; replace hze := Lib.hid hze
  clear hm0 ha hb1 hb2 hbm hR sR sT hT hd
  go_enter Try.func68, Try.ntmps68
  go_wp2_with fail
  obtain ⟨W, hW⟩ : ∃ W, W = (((w.alloc (Obj.cells #[Value.bool su, Value.slice Xu pu qu] 27)).alloc (Obj.cells #[Value.bool sm, Value.slice Xm pm qm] 27)).alloc (Obj.cells #[Value.bool false, Value.slice none 0 0, Value.bool false, Value.slice none 0 0] 60)) := ⟨_, rfl⟩
  rw [← hW]
  have BXu : Hid (Box W (w.heap.size) su (.slice Xu pu qu)) := by rw [hW]; have := ((Box.new w su (Value.slice Xu pu qu)).alloc (Obj.cells #[Value.bool sm, Value.slice Xm pm qm] 27)).alloc (Obj.cells #[Value.bool false, Value.slice none 0 0, Value.bool false, Value.slice none 0 0] 60); simpa [Hid] using this
  have BXm : Hid (Box W (w.heap.size + 1) sm (.slice Xm pm qm)) := by rw [hW]; have := (Box.new (w.alloc (Obj.cells #[Value.bool su, Value.slice Xu pu qu] 27)) sm (Value.slice Xm pm qm)).alloc (Obj.cells #[Value.bool false, Value.slice none 0 0, Value.bool false, Value.slice none 0 0] 60); simpa [Hid] using this
  have RXr : Hid (QBox W (w.heap.size + 1 + 1) false (.slice none 0 0) false (.slice none 0 0)) := by rw [hW]; have := QBox.new ((w.alloc (Obj.cells #[Value.bool su, Value.slice Xu pu qu] 27)).alloc (Obj.cells #[Value.bool sm, Value.slice Xm pm qm] 27)) false (Value.slice none 0 0) false (Value.slice none 0 0); simpa [Hid] using this
  have IVu : Hid (Iv W (.agg #[.bool su, .slice Xu pu qu]) (zu)) := by rw [hW]; exact (((Hu.out).alloc _).alloc _).alloc _
  have IVm : Hid (Iv W (.agg #[.bool sm, .slice Xm pm qm]) (zm)) := by rw [hW]; exact (((Hm.out).alloc _).alloc _).alloc _
  have DW : Hid (Below w.heap.size w W) := by rw [hW]; exact (((Below.refl _ _).alloc (by simp <;> omega) _).alloc (by simp <;> omega) _).alloc (by simp <;> omega) _
  clear hW
  generalize hg : w.heap.size = g at *
  replace hg := Lib.hid hg
  go_upto_region 1 with fail
  have u1a := BXm.out.cell0; have u1b := BXm.out.cell1
  go_wp2_with fail
  clear u1a u1b
  refine (sign_is _ zm 1 _ IVm.out (SZm.out.mono (by omega)) hgm.out).mono ?_
  rintro e y2 ⟨rfl, hb⟩
  replace BXu := nxb BXu hb rfl; replace IVu := nxv IVu hb rfl
  replace BXm := nxb BXm hb rfl; replace IVm := nxv IVm hb rfl
  replace RXr := Lib.hid (RXr.out.next hb rfl)
  replace DW := nxd DW hg hb rfl rfl rfl rfl
  clear hb
  go_upto_region 3 with fail
  go_wp2_with fail
  refine (Row.of_z 1 c1 _ (by omega) (by omega) hc1.out).mono ?_
  rintro e y3 ⟨_, rfl, hq, hb⟩
  obtain ⟨Xo, po, qo, rfl, _, _, _⟩ := hq.form
  have Qo := Lib.hid hq; clear hq
  have B := Lib.hid hb; clear hb
  generalize hs : decide ((c1 : Int) < 0) = so at *
  clear hs
  go_upto_region 4 with fail
  obtain ⟨W4, hW⟩ : ∃ W4, W4 = (y3.alloc (Obj.cells #[Value.bool so, Value.slice Xo po qo] 27)) := ⟨_, rfl⟩
  rw [← hW]
  have BXo : Hid (Box W4 (y3.heap.size) so (.slice Xo po qo)) := by rw [hW]; have := Box.new y3 so (.slice Xo po qo); simpa [Hid] using this
  have IVo : Hid (Iv W4 (.agg #[.bool so, .slice Xo po qo]) (c1)) := by rw [hW]; exact (Qo.out).alloc _
  have hd : Below y2.heap.size y2 W4 := by rw [hW]; exact (B.out).alloc (by have := B.out.size; simp <;> omega) _
  have NEor : Hid ((y3.heap.size) ≠ (g + 1 + 1)) := by have := RXr.out.lt; have := B.out.size; unfold Hid; omega
  have GBo : Hid (g ≤ y3.heap.size) := by have := DW.out.size; have := hg.out; have := B.out.size; unfold Hid; omega
  have LTro : Hid ((g + 1 + 1) < y3.heap.size) := by have := RXr.out.lt; have := B.out.size; unfold Hid; omega
  have LTuo : Hid (g < y3.heap.size) := by have := BXu.out.lt; have := B.out.size; unfold Hid; omega
  have LTmo : Hid ((g + 1) < y3.heap.size) := by have := BXm.out.lt; have := B.out.size; unfold Hid; omega
  clear hW B Qo
  generalize hgn4 : y3.heap.size = go at *
  clear hgn4
  replace BXu := nxb BXu hd rfl; replace IVu := nxv IVu hd rfl
  replace BXm := nxb BXm hd rfl; replace IVm := nxv IVm hd rfl
  replace RXr := Lib.hid (RXr.out.next hd rfl)
  replace DW := nxd DW hg hd rfl rfl rfl rfl
  clear hd
  have u5a := BXm.out.cell0; have u5b := BXm.out.cell1
  have u6a := BXo.out.cell0; have u6b := BXo.out.cell1
  go_wp2_with fail
  clear u5a u5b u6a u6b
  refine (sub_any _ _ zm c1 _ IVm.out IVo.out (SZm.out.mono (by omega)) (hc1.out ▸ (Sz.small (by omega) (by omega)).mono (by omega))).mono ?_
  rintro e y7 ⟨_, rfl, hq, hb⟩
  replace hq := Lib.hid hq
  replace BXu := nxb BXu hb rfl; replace IVu := nxv IVu hb rfl
  replace BXm := nxb BXm hb rfl; replace IVm := nxv IVm hb rfl
  replace BXo := nxb BXo hb rfl; replace IVo := nxv IVo hb rfl
  replace RXr := Lib.hid (RXr.out.next hb rfl)
  replace DW := nxd DW hg hb rfl rfl rfl rfl
  clear hb
  go_wp2_with fail
  refine (of_any 2 _ (by omega) (by omega)).mono ?_
  rintro e y81 ⟨_, rfl, hq1, hb⟩
  replace hq := Lib.hid (iv_next hq.out hb rfl); replace hq1 := Lib.hid hq1
  replace BXu := nxb BXu hb rfl; replace IVu := nxv IVu hb rfl
  replace BXm := nxb BXm hb rfl; replace IVm := nxv IVm hb rfl
  replace BXo := nxb BXo hb rfl; replace IVo := nxv IVo hb rfl
  replace RXr := Lib.hid (RXr.out.next hb rfl)
  replace DW := nxd DW hg hb rfl rfl rfl rfl
  clear hb
  have SM1 : Hid (Sz (zm - c1) 401) := ⟨by have h1 := SZm.out.lt; have h2 := HM0.out; have h3 := hc1.out; have h4 := pw_lt (show 400 < 401 by omega); omega⟩
  go_wp2_with fail
  refine (divMod_any _ _ (zm - c1) 2 _ hq.out hq1.out (SM1.out.mono (by omega)) ((Sz.small (by omega) (by omega)).mono (by omega)) (by omega)).mono ?_
  rintro e y82 ⟨_, _, rfl, hq0, hq2, hb⟩
  rw [HA.out] at hq0
  rw [hze.out] at hq2
  clear hq hq1
  obtain ⟨Xh, ph, qh, rfl, _, _, _⟩ := hq0.form
  have Qh := Lib.hid hq0; clear hq0
  obtain ⟨Xe, pe, qe, rfl, _, _, _⟩ := hq2.form
  have Qe := Lib.hid hq2; clear hq2
  have B := Lib.hid hb; clear hb
  generalize hs : decide (((a : Int) : Int) < 0) = sh at *
  clear hs
  generalize hs : decide ((ze : Int) < 0) = se at *
  clear hs
  go_upto_region 5 with fail
  obtain ⟨W8, hW⟩ : ∃ W8, W8 = ((y82.alloc (Obj.cells #[Value.bool sh, Value.slice Xh ph qh] 27)).alloc (Obj.cells #[Value.bool se, Value.slice Xe pe qe] 27)) := ⟨_, rfl⟩
  rw [← hW]
  have BXh : Hid (Box W8 (y82.heap.size) sh (.slice Xh ph qh)) := by rw [hW]; have := (Box.new y82 sh (.slice Xh ph qh)).alloc (Obj.cells #[Value.bool se, Value.slice Xe pe qe] 27); simpa [Hid] using this
  have IVh : Hid (Iv W8 (.agg #[.bool sh, .slice Xh ph qh]) ((a : Int))) := by rw [hW]; exact ((Qh.out).alloc _).alloc _
  have BXe : Hid (Box W8 (y82.heap.size + 1) se (.slice Xe pe qe)) := by rw [hW]; have := Box.new (y82.alloc (Obj.cells #[Value.bool sh, Value.slice Xh ph qh] 27)) se (.slice Xe pe qe); simpa [Hid] using this
  have IVe : Hid (Iv W8 (.agg #[.bool se, .slice Xe pe qe]) (ze)) := by rw [hW]; exact ((Qe.out).alloc _).alloc _
  have hd : Below y81.heap.size y81 W8 := by rw [hW]; exact ((B.out).alloc (by have := B.out.size; simp <;> omega) _).alloc (by have := B.out.size; simp <;> omega) _
  have NEer : Hid ((y82.heap.size + 1) ≠ (g + 1 + 1)) := by have := RXr.out.lt; have := B.out.size; unfold Hid; omega
  have NEhr : Hid ((y82.heap.size) ≠ (g + 1 + 1)) := by have := RXr.out.lt; have := B.out.size; unfold Hid; omega
  have GBh : Hid (g ≤ y82.heap.size) := by have := DW.out.size; have := hg.out; have := B.out.size; unfold Hid; omega
  have LTrh : Hid ((g + 1 + 1) < y82.heap.size) := by have := RXr.out.lt; have := B.out.size; unfold Hid; omega
  have LTuh : Hid (g < y82.heap.size) := by have := BXu.out.lt; have := B.out.size; unfold Hid; omega
  have LTmh : Hid ((g + 1) < y82.heap.size) := by have := BXm.out.lt; have := B.out.size; unfold Hid; omega
  have LToh : Hid (go < y82.heap.size) := by have := BXo.out.lt; have := B.out.size; unfold Hid; omega
  have GBe : Hid (g ≤ y82.heap.size + 1) := by have := DW.out.size; have := hg.out; have := B.out.size; unfold Hid; omega
  have LTre : Hid ((g + 1 + 1) < y82.heap.size + 1) := by have := RXr.out.lt; have := B.out.size; unfold Hid; omega
  have LThe : Hid (y82.heap.size < y82.heap.size + 1) := by unfold Hid; omega
  have LTue : Hid (g < y82.heap.size + 1) := by have := BXu.out.lt; have := B.out.size; unfold Hid; omega
  have LTme : Hid ((g + 1) < y82.heap.size + 1) := by have := BXm.out.lt; have := B.out.size; unfold Hid; omega
  have LToe : Hid (go < y82.heap.size + 1) := by have := BXo.out.lt; have := B.out.size; unfold Hid; omega
  clear hW B Qh Qe
  generalize hgn8 : y82.heap.size + 1 = ge at *
  clear hgn8
  generalize hgn8 : y82.heap.size = gh at *
  clear hgn8
  replace BXu := nxb BXu hd rfl; replace IVu := nxv IVu hd rfl
  replace BXm := nxb BXm hd rfl; replace IVm := nxv IVm hd rfl
  replace BXo := nxb BXo hd rfl; replace IVo := nxv IVo hd rfl
  replace RXr := Lib.hid (RXr.out.next hd rfl)
  replace DW := nxd DW hg hd rfl rfl rfl rfl
  clear hd
  have u9a := BXh.out.cell0; have u9b := BXh.out.cell1
  go_wp2_with fail
  clear u9a u9b
  refine (root_int _ a 2 b 2 _ IVh.out (SA.out.mono (by omega)) rfl (by omega) (by omega) HB1.out HB2.out).mono ?_
  rintro e y10 ⟨_, rfl, hq, hb⟩
  obtain ⟨Xb, pb, qb, rfl, _, _, _⟩ := hq.form
  have Qb := Lib.hid hq; clear hq
  have B := Lib.hid hb; clear hb
  generalize hs : decide (((b : Int) : Int) < 0) = sb at *
  clear hs
  go_upto_region 6 with fail
  obtain ⟨W11, hW⟩ : ∃ W11, W11 = (y10.alloc (Obj.cells #[Value.bool sb, Value.slice Xb pb qb] 27)) := ⟨_, rfl⟩
  rw [← hW]
  have BXb : Hid (Box W11 (y10.heap.size) sb (.slice Xb pb qb)) := by rw [hW]; have := Box.new y10 sb (.slice Xb pb qb); simpa [Hid] using this
  have IVb : Hid (Iv W11 (.agg #[.bool sb, .slice Xb pb qb]) ((b : Int))) := by rw [hW]; exact (Qb.out).alloc _
  have hd : Below W8.heap.size W8 W11 := by rw [hW]; exact (B.out).alloc (by have := B.out.size; simp <;> omega) _
  have NEbr : Hid ((y10.heap.size) ≠ (g + 1 + 1)) := by have := RXr.out.lt; have := B.out.size; unfold Hid; omega
  have GBb : Hid (g ≤ y10.heap.size) := by have := DW.out.size; have := hg.out; have := B.out.size; unfold Hid; omega
  have LTrb : Hid ((g + 1 + 1) < y10.heap.size) := by have := RXr.out.lt; have := B.out.size; unfold Hid; omega
  have LTub : Hid (g < y10.heap.size) := by have := BXu.out.lt; have := B.out.size; unfold Hid; omega
  have LTmb : Hid ((g + 1) < y10.heap.size) := by have := BXm.out.lt; have := B.out.size; unfold Hid; omega
  have LTob : Hid (go < y10.heap.size) := by have := BXo.out.lt; have := B.out.size; unfold Hid; omega
  have LThb : Hid (gh < y10.heap.size) := by have := BXh.out.lt; have := B.out.size; unfold Hid; omega
  have LTeb : Hid (ge < y10.heap.size) := by have := BXe.out.lt; have := B.out.size; unfold Hid; omega
  clear hW B Qb
  generalize hgn11 : y10.heap.size = gb at *
  clear hgn11
  replace BXu := nxb BXu hd rfl; replace IVu := nxv IVu hd rfl
  replace BXm := nxb BXm hd rfl; replace IVm := nxv IVm hd rfl
  replace BXo := nxb BXo hd rfl; replace IVo := nxv IVo hd rfl
  replace BXh := nxb BXh hd rfl; replace IVh := nxv IVh hd rfl
  replace BXe := nxb BXe hd rfl; replace IVe := nxv IVe hd rfl
  replace RXr := Lib.hid (RXr.out.next hd rfl)
  replace DW := nxd DW hg hd rfl rfl rfl rfl
  clear hd
  have u12a := BXu.out.cell0; have u12b := BXu.out.cell1
  have u13a := BXm.out.cell0; have u13b := BXm.out.cell1
  have u14a := BXb.out.cell0; have u14b := BXb.out.cell1
  go_wp2_with fail
  clear u12a u12b u13a u13b u14a u14b
  refine (Row.first_any _ _ _ zu zm (b : Int) R T _ IVu.out (SZu.out.mono (by omega)) IVm.out (SZm.out.mono (by omega)) IVb.out (SB.out.mono (by omega)) HM0.out (by omega) HBM.out HR.out).mono ?_
  rintro e y15 ⟨_, rfl, hq, hb⟩
  obtain ⟨Xfn, pfn, qfn, Xfd, pfd, qfd, rfl, hfn, hfd⟩ := hq
  have Qfn := Lib.hid hfn; have Qfd := Lib.hid hfd; clear hfn hfd
  have B := Lib.hid hb; clear hb
  generalize hs : decide (R < 0) = sfn at *
  clear hs
  generalize hs : decide (T < 0) = sfd at *
  clear hs
  go_upto_region 7 with fail
  obtain ⟨W90, hW⟩ : ∃ W90, W90 = y15.alloc (Obj.cells #[Value.bool sfn, Value.slice Xfn pfn qfn, Value.bool sfd, Value.slice Xfd pfd qfd] 130) := ⟨_, rfl⟩
  rw [← hW]
  have QXf : Hid (Row.QBox W90 y15.heap.size sfn (.slice Xfn pfn qfn) sfd (.slice Xfd pfd qfd)) := by rw [hW]; exact Row.QBox.new _ _ _ _ _
  have IVnf : Hid (Iv W90 (.agg #[.bool sfn, .slice Xfn pfn qfn]) R) := by rw [hW]; exact Qfn.out.alloc _
  have IVdf : Hid (Iv W90 (.agg #[.bool sfd, .slice Xfd pfd qfd]) T) := by rw [hW]; exact Qfd.out.alloc _
  have hd : Below W11.heap.size W11 W90 := by rw [hW]; exact B.out.alloc (by have := B.out.size; omega) _
  clear hW B Qfn Qfd
  generalize hgn90 : y15.heap.size = gf at *
  clear hgn90
  replace BXu := nxb BXu hd rfl; replace IVu := nxv IVu hd rfl
  replace BXm := nxb BXm hd rfl; replace IVm := nxv IVm hd rfl
  replace BXo := nxb BXo hd rfl; replace IVo := nxv IVo hd rfl
  replace BXh := nxb BXh hd rfl; replace IVh := nxv IVh hd rfl
  replace BXe := nxb BXe hd rfl; replace IVe := nxv IVe hd rfl
  replace BXb := nxb BXb hd rfl; replace IVb := nxv IVb hd rfl
  replace RXr := Lib.hid (RXr.out.next hd rfl)
  replace DW := nxd DW hg hd rfl rfl rfl rfl
  clear hd
  refine Rg.region_gg W90 [.is (.pointer (some ⟨gf, 0, none⟩)), .sat (pIv (R)) (pIv_keep _), .is (.pointer (some ⟨gf, 2, none⟩)), .sat (pIv (T)) (pIv_keep _), .own pNew pNew_keep, .own pNew pNew_keep, .put 4 (pPut (R)) (pPut_keep _), .put 5 (pPut (T)) (pPut_keep _)] [] [some 38, some 39, some 40, some 41, some 13, some 14, none, none] (by kernel_rfl) (by kernel_rfl) (by kernel_rfl) (by kernel_rfl) (by kernel_rfl) (by simp [Rg.stos]) (by rfl) (by rfl) (by kernel_rfl) (by simp) ((Below.refl _ _).drew) (fun Q' => ?_) (fun K hK wn hs => ?_)
  · refine ⟨?_, ?_, ?_, ?_, ?_, ?_, ?_, ?_, trivial⟩
    · intro a' w' ha hs hw hold
      have eo12 : a'.tmps[12]? = some (ptr gf) := (ha.rest 12 (by kernel_rfl)).trans rfl
      exact ⟨rfl, .inl ⟨wanted_none rfl, wp_val (Row.run_qfield0 rfl (ev_tmp eo12)) ⟨rfl, Below.refl _ _⟩⟩⟩
    · intro a' w' ha hs hw hold
      have e0 : a'.tmps[38]? = some (.pointer (some ⟨gf, 0, none⟩)) := Rg.slot_get rfl rfl (hw 0 (by kernel_rfl) _ rfl)
      exact ⟨rfl, wanted_none rfl, wp_val (Row.run_qload0 rfl (ev_tmp e0) (QXf.out.bel hs (by simp))) ⟨_, rfl, IVnf.out.kn hs.kn, Below.refl _ _⟩⟩
    · intro a' w' ha hs hw hold
      have eo12 : a'.tmps[12]? = some (ptr gf) := (ha.rest 12 (by kernel_rfl)).trans rfl
      exact ⟨rfl, .inl ⟨wanted_none rfl, wp_val (Row.run_qfield1 rfl (ev_tmp eo12)) ⟨rfl, Below.refl _ _⟩⟩⟩
    · intro a' w' ha hs hw hold
      have e2 : a'.tmps[40]? = some (.pointer (some ⟨gf, 2, none⟩)) := Rg.slot_get rfl rfl (hw 2 (by kernel_rfl) _ rfl)
      exact ⟨rfl, wanted_none rfl, wp_val (Row.run_qload1 rfl (ev_tmp e2) (QXf.out.bel hs (by simp))) ⟨_, rfl, IVdf.out.kn hs.kn, Below.refl _ _⟩⟩
    · intro a' w' ha hs hw hold
      exact ⟨rfl, wanted_none rfl, step_new rfl⟩
    · intro a' w' ha hs hw hold
      exact ⟨rfl, wanted_none rfl, step_new rfl⟩
    · intro a' w' ha hs hw hold
      obtain ⟨v1, e1, q1⟩ := hw 1 (by kernel_rfl) _ rfl
      replace e1 : a'.tmps[39]? = some v1 := Rg.slot_get rfl rfl e1
      refine ⟨rfl, wanted_none rfl, by kernel_rfl, fun pv pg pp ph pe1 pe2 pe3 pe4 => ?_⟩
      cases pe1
      exact step_put rfl rfl (ev_tmp (Rg.slot_get rfl rfl pe2)) (ev_tmp e1) pe3 pe4 q1
    · intro a' w' ha hs hw hold
      obtain ⟨v3, e3, q3⟩ := hw 3 (by kernel_rfl) _ rfl
      replace e3 : a'.tmps[41]? = some v3 := Rg.slot_get rfl rfl e3
      refine ⟨rfl, wanted_none rfl, by kernel_rfl, fun pv pg pp ph pe1 pe2 pe3 pe4 => ?_⟩
      cases pe1
      exact step_put rfl rfl (ev_tmp (Rg.slot_get rfl rfl pe2)) (ev_tmp e3) pe3 pe4 q3
  simp only [Rg.allG]
  intro r16x1 _
  intro r16x3 _
  intro a16x4 gb16x4 hE16x4 hB16x4 _ hN16x4 _
  intro a16x5 gb16x5 hE16x5 hB16x5 _ hN16x5 _
  intro v16 he hp
  simp only [List.nil_append, List.cons_append, List.getElem?_cons_succ, List.getElem?_cons_zero, Option.some.injEq] at he
  subst he
  obtain ⟨gn, rfl, Xn, pn, qn, BXn, IVn⟩ := hp
  intro v16 he hp
  simp only [List.nil_append, List.cons_append, List.getElem?_cons_succ, List.getElem?_cons_zero, Option.some.injEq] at he
  subst he
  obtain ⟨gd, rfl, Xd, pd, qd, BXd, IVd⟩ := hp
  simp only [setOpt, Rg.setOpt, List.set_cons_succ, List.set_cons_zero, ptr]
  refine hK _ _ ?_
  clear hK K
  replace hs := hs.below
  have hgb : gn = gb16x4 := Option.some.inj hE16x4
  have NEnr : Hid (gn ≠ (g + 1 + 1)) := by have h1 := RXr.out.lt; unfold Hid; omega
  have GBn : Hid (g ≤ gn) := by have := DW.out.size; have := hg.out; unfold Hid; omega
  have LTrn : Hid ((g + 1 + 1) < gn) := by have := RXr.out.lt; unfold Hid; omega
  have LTun : Hid (g < gn) := by have := BXu.out.lt; unfold Hid; omega
  have LTmn : Hid ((g + 1) < gn) := by have := BXm.out.lt; unfold Hid; omega
  have LTon : Hid (go < gn) := by have := BXo.out.lt; unfold Hid; omega
  have LThn : Hid (gh < gn) := by have := BXh.out.lt; unfold Hid; omega
  have LTen : Hid (ge < gn) := by have := BXe.out.lt; unfold Hid; omega
  have LTbn : Hid (gb < gn) := by have := BXb.out.lt; unfold Hid; omega
  clear hgb
  have hgb : gd = gb16x5 := Option.some.inj hE16x5
  have NEdr : Hid (gd ≠ (g + 1 + 1)) := by have h1 := RXr.out.lt; unfold Hid; omega
  have GBd : Hid (g ≤ gd) := by have := DW.out.size; have := hg.out; unfold Hid; omega
  have LTrd : Hid ((g + 1 + 1) < gd) := by have := RXr.out.lt; unfold Hid; omega
  have LTud : Hid (g < gd) := by have := BXu.out.lt; unfold Hid; omega
  have LTmd : Hid ((g + 1) < gd) := by have := BXm.out.lt; unfold Hid; omega
  have LTod : Hid (go < gd) := by have := BXo.out.lt; unfold Hid; omega
  have LThd : Hid (gh < gd) := by have := BXh.out.lt; unfold Hid; omega
  have LTed : Hid (ge < gd) := by have := BXe.out.lt; unfold Hid; omega
  have LTbd : Hid (gb < gd) := by have := BXb.out.lt; unfold Hid; omega
  have NQnd : Hid (gn ≠ gd) := by have h3 := hN16x5 4 _ (by rfl) (by kernel_rfl); unfold Hid; rintro rfl; exact h3 (congrArg some hgb)
  clear hgb
  clear hE16x4 hB16x4 hN16x4 hE16x5 hB16x5 hN16x5
  replace BXu := nxb BXu hs rfl; replace IVu := nxv IVu hs rfl
  replace BXm := nxb BXm hs rfl; replace IVm := nxv IVm hs rfl
  replace BXo := nxb BXo hs rfl; replace IVo := nxv IVo hs rfl
  replace BXh := nxb BXh hs rfl; replace IVh := nxv IVh hs rfl
  replace BXe := nxb BXe hs rfl; replace IVe := nxv IVe hs rfl
  replace BXb := nxb BXb hs rfl; replace IVb := nxv IVb hs rfl
  replace RXr := Lib.hid (RXr.out.next hs rfl)
  replace DW := nxd DW hg hs rfl rfl rfl rfl
  generalize hsg : decide ((R : Int) < 0) = sn at *
  clear hsg
  replace BXn := Lib.hid BXn; replace IVn := Lib.hid IVn
  generalize hsg : decide ((T : Int) < 0) = sd at *
  clear hsg
  replace BXd := Lib.hid BXd; replace IVd := Lib.hid IVd
  clear hs
  clear QXf IVnf IVdf
  go_upto_region 8 with fail
  obtain ⟨sT1, hsT⟩ : ∃ x, sg T = x := ⟨_, rfl⟩
  have dT : decide (sT1 < 0) = false := by
    rw [← hsT]
    have := HT.out
    rcases sg_cases T with ⟨h1, e1⟩ | ⟨h1, e1⟩ | ⟨h1, e1⟩ <;> rw [e1] <;> first | rfl | omega
  replace hsT := Lib.hid hsT
  have u17a := BXd.out.cell0; have u17b := BXd.out.cell1
  go_wp2_with fail
  clear u17a u17b
  refine (sign_is _ T sT1 _ IVd.out (ST.out.mono (by omega)) hsT.out).mono ?_
  rintro e y18 ⟨rfl, hb⟩
  replace BXu := nxb BXu hb rfl; replace IVu := nxv IVu hb rfl
  replace BXm := nxb BXm hb rfl; replace IVm := nxv IVm hb rfl
  replace BXo := nxb BXo hb rfl; replace IVo := nxv IVo hb rfl
  replace BXh := nxb BXh hb rfl; replace IVh := nxv IVh hb rfl
  replace BXe := nxb BXe hb rfl; replace IVe := nxv IVe hb rfl
  replace BXb := nxb BXb hb rfl; replace IVb := nxv IVb hb rfl
  replace BXn := nxb BXn hb rfl; replace IVn := nxv IVn hb rfl
  replace BXd := nxb BXd hb rfl; replace IVd := nxv IVd hb rfl
  replace RXr := Lib.hid (RXr.out.next hb rfl)
  replace DW := nxd DW hg hb rfl rfl rfl rfl
  clear hb
  go_upto_region 10 with fail
  clear dT
  obtain ⟨o, ho⟩ : ∃ o, cmpZ (T) (b : Int) = o := ⟨_, rfl⟩
  have HO : Hid (decide (0 < o) = false) := by
    rw [← ho]
    have := HD.out
    rcases Int.lt_trichotomy (T) (b : Int) with h | h | h
    · rw [cmpZ_lt h]; first | rfl | omega
    · rw [cmpZ_eq h]; first | rfl | omega
    · rw [cmpZ_gt h]; first | rfl | omega
  replace ho := Lib.hid ho
  refine Rg.region_gg y18 [.is (.agg #[.bool sd, .slice Xd pd qd]), .is (.agg #[.bool sb, .slice Xb pb qb]), .is (Value.int IntKind.i64 o), .is (Value.bool false), .is (Value.bool false), .is (.agg #[.bool sn, .slice Xn pn qn]), .is (.agg #[.bool sd, .slice Xd pd qd]), .sat (pIv ((1 : Int))) (pIv_keep _), .is (.agg #[.bool so, .slice Xo po qo]), .is (Value.int IntKind.i64 0), .is (Value.bool false), .is (Value.bool false)] [] [some 49, some 50, some 51, some 52, some 53, some 54, some 55, some 56, some 57, some 58, some 59, some 60] (by kernel_rfl) (by kernel_rfl) (by kernel_rfl) (by kernel_rfl) (by kernel_rfl) (by simp [Rg.stos]) (by rfl) (by rfl) (by kernel_rfl) (by simp) ((Below.refl _ _).drew) (fun Q' => ?_) (fun K hK wn hs => ?_)
  · refine ⟨?_, ?_, ?_, ?_, ?_, ?_, ?_, ?_, ?_, ?_, ?_, ?_, trivial⟩
    · intro a' w' ha hs hw hold
      have eo14 : a'.tmps[14]? = some (ptr gd) := (ha.rest 14 (by kernel_rfl)).trans rfl
      exact ⟨rfl, .inl ⟨wanted_none rfl, wp_val (run_pload rfl (ev_tmp eo14) (BXd.out.bel hs (by simp))) ⟨rfl, Below.refl _ _⟩⟩⟩
    · intro a' w' ha hs hw hold
      have eo10 : a'.tmps[10]? = some (ptr gb) := (ha.rest 10 (by kernel_rfl)).trans rfl
      exact ⟨rfl, .inl ⟨wanted_none rfl, wp_val (run_pload rfl (ev_tmp eo10) (BXb.out.bel hs (by simp))) ⟨rfl, Below.refl _ _⟩⟩⟩
    · intro a' w' ha hs hw hold
      have e0 : a'.tmps[49]? = some (.agg #[.bool sd, .slice Xd pd qd]) := Rg.slot_get rfl rfl (hw 0 (by kernel_rfl) _ rfl)
      have e1 : a'.tmps[50]? = some (.agg #[.bool sb, .slice Xb pb qb]) := Rg.slot_get rfl rfl (hw 1 (by kernel_rfl) _ rfl)
      exact ⟨rfl, .inl ⟨wanted_none rfl, call_step rfl Try.func28 (by kernel_rfl) rfl (map_two (ev_tmp e0) (ev_tmp e1)) (cmp_is _ _ (T) (b : Int) o _ (IVd.out.kn hs.kn) (IVb.out.kn hs.kn) (ST.out.mono (by omega)) (SB.out.mono (by omega)) ho.out) (fun e w2 he => by obtain ⟨rfl, hb⟩ := he; exact ⟨_, rfl, rfl, hb⟩)⟩⟩
    · intro a' w' ha hs hw hold
      have e2 : a'.tmps[51]? = some (Value.int IntKind.i64 o) := Rg.slot_get rfl rfl (hw 2 (by kernel_rfl) _ rfl)
      exact ⟨rfl, .inl ⟨wanted_none rfl, wp_val (run_gtrB rfl (ev_tmp e2) rfl HO.out) ⟨rfl, Below.refl _ _⟩⟩⟩
    · intro a' w' ha hs hw hold
      have e3 : a'.tmps[52]? = some (Value.bool false) := Rg.slot_get rfl rfl (hw 3 (by kernel_rfl) _ rfl)
      exact ⟨rfl, .inl ⟨wanted_none rfl, wp_val (run_move rfl (ev_tmp e3)) ⟨rfl, Below.refl _ _⟩⟩⟩
    · intro a' w' ha hs hw hold
      have e4 : a'.tmps[53]? = some (Value.bool false) := Rg.slot_get rfl rfl (hw 4 (by kernel_rfl) _ rfl)
      have eo13 : a'.tmps[13]? = some (ptr gn) := (ha.rest 13 (by kernel_rfl)).trans rfl
      exact ⟨rfl, .inl ⟨wanted_some rfl rfl rfl e4, wp_val (run_pload rfl (ev_tmp eo13) (BXn.out.bel hs (by simp))) ⟨rfl, Below.refl _ _⟩⟩⟩
    · intro a' w' ha hs hw hold
      have e4 : a'.tmps[53]? = some (Value.bool false) := Rg.slot_get rfl rfl (hw 4 (by kernel_rfl) _ rfl)
      have eo14 : a'.tmps[14]? = some (ptr gd) := (ha.rest 14 (by kernel_rfl)).trans rfl
      exact ⟨rfl, .inl ⟨wanted_some rfl rfl rfl e4, wp_val (run_pload rfl (ev_tmp eo14) (BXd.out.bel hs (by simp))) ⟨rfl, Below.refl _ _⟩⟩⟩
    · intro a' w' ha hs hw hold
      have e4 : a'.tmps[53]? = some (Value.bool false) := Rg.slot_get rfl rfl (hw 4 (by kernel_rfl) _ rfl)
      have e5 : a'.tmps[54]? = some (.agg #[.bool sn, .slice Xn pn qn]) := Rg.slot_get rfl rfl (hw 5 (by kernel_rfl) _ rfl)
      have e6 : a'.tmps[55]? = some (.agg #[.bool sd, .slice Xd pd qd]) := Rg.slot_get rfl rfl (hw 6 (by kernel_rfl) _ rfl)
      exact ⟨rfl, wanted_some rfl rfl rfl e4, call_step rfl Try.func25 (by kernel_rfl) rfl (map_two (ev_tmp e5) (ev_tmp e6)) (gcd_is _ _ (R) (T) 1 _ (IVn.out.kn hs.kn) (IVd.out.kn hs.kn) (SR.out.mono (by omega)) (ST.out.mono (by omega)) (by rw [HCc.out]; rfl)) (fun e w2 he => by obtain ⟨v, rfl, hv, hb⟩ := he; exact ⟨v, rfl, v, rfl, hv, hb⟩)⟩
    · intro a' w' ha hs hw hold
      have e4 : a'.tmps[53]? = some (Value.bool false) := Rg.slot_get rfl rfl (hw 4 (by kernel_rfl) _ rfl)
      have eo6 : a'.tmps[6]? = some (ptr go) := (ha.rest 6 (by kernel_rfl)).trans rfl
      exact ⟨rfl, .inl ⟨wanted_some rfl rfl rfl e4, wp_val (run_pload rfl (ev_tmp eo6) (BXo.out.bel hs (by simp))) ⟨rfl, Below.refl _ _⟩⟩⟩
    · intro a' w' ha hs hw hold
      have e4 : a'.tmps[53]? = some (Value.bool false) := Rg.slot_get rfl rfl (hw 4 (by kernel_rfl) _ rfl)
      obtain ⟨v7, e7, q7⟩ := hw 7 (by kernel_rfl) _ rfl
      replace e7 : a'.tmps[56]? = some v7 := Rg.slot_get rfl rfl e7
      have e8 : a'.tmps[57]? = some (.agg #[.bool so, .slice Xo po qo]) := Rg.slot_get rfl rfl (hw 8 (by kernel_rfl) _ rfl)
      exact ⟨rfl, .inl ⟨wanted_some rfl rfl rfl e4, call_step rfl Try.func28 (by kernel_rfl) rfl (map_two (ev_tmp e7) (ev_tmp e8)) (cmp_is _ _ 1 c1 0 _ q7 (IVo.out.kn hs.kn) ((Sz.small (by omega) (by omega)).mono (by omega)) (hc1.out ▸ (Sz.small (by omega) (by omega)).mono (by omega)) (cmpZ_eq hc1.out.symm)) (fun e w2 he => by obtain ⟨rfl, hb⟩ := he; exact ⟨_, rfl, rfl, hb⟩)⟩⟩
    · intro a' w' ha hs hw hold
      have e4 : a'.tmps[53]? = some (Value.bool false) := Rg.slot_get rfl rfl (hw 4 (by kernel_rfl) _ rfl)
      have e9 : a'.tmps[58]? = some (Value.int IntKind.i64 0) := Rg.slot_get rfl rfl (hw 9 (by kernel_rfl) _ rfl)
      exact ⟨rfl, .inl ⟨wanted_some rfl rfl rfl e4, wp_val (show _ = _ from (run_neq_int rfl (ev_tmp e9) rfl).trans (by rfl)) ⟨rfl, Below.refl _ _⟩⟩⟩
    · intro a' w' ha hs hw hold
      have e4 : a'.tmps[53]? = some (Value.bool false) := Rg.slot_get rfl rfl (hw 4 (by kernel_rfl) _ rfl)
      have e10 : a'.tmps[59]? = some (Value.bool false) := Rg.slot_get rfl rfl (hw 10 (by kernel_rfl) _ rfl)
      exact ⟨rfl, .inl ⟨wanted_none rfl, wp_val (run_pick (b := false) rfl (ev_tmp e4) (ev_tmp e10)) ⟨rfl, Below.refl _ _⟩⟩⟩
  simp only [Rg.allG]
  intro r19x7 _
  simp only [setOpt, Rg.setOpt, List.set_cons_succ, List.set_cons_zero]
  refine hK _ _ ?_
  clear hK K
  replace hs := hs.below
  replace BXu := nxb BXu hs rfl; replace IVu := nxv IVu hs rfl
  replace BXm := nxb BXm hs rfl; replace IVm := nxv IVm hs rfl
  replace BXo := nxb BXo hs rfl; replace IVo := nxv IVo hs rfl
  replace BXh := nxb BXh hs rfl; replace IVh := nxv IVh hs rfl
  replace BXe := nxb BXe hs rfl; replace IVe := nxv IVe hs rfl
  replace BXb := nxb BXb hs rfl; replace IVb := nxv IVb hs rfl
  replace BXn := nxb BXn hs rfl; replace IVn := nxv IVn hs rfl
  replace BXd := nxb BXd hs rfl; replace IVd := nxv IVd hs rfl
  replace RXr := Lib.hid (RXr.out.next hs rfl)
  replace DW := nxd DW hg hs rfl rfl rfl rfl
  clear hs
  go_upto_region 12 with fail
  have u20a := BXn.out.cell0; have u20b := BXn.out.cell1
  have u21a := BXd.out.cell0; have u21b := BXd.out.cell1
  have u22a := RXr.out.cell0; have u22b := RXr.out.cell1; have u22c := RXr.out.cell2; have u22d := RXr.out.cell3; have u22f := RXr.out.frozen 0; have u22g := RXr.out.frozen 1; have u22h := RXr.out.frozen 2; have u22i := RXr.out.frozen 3
  go_wp2
  refine bodyPost_ret (v := .tuple #[.agg #[.bool sn, .slice Xn pn qn, .bool sd, .slice Xd pd qd], .bool true]) (by simp [results, Try.results68, go_sem, u20a, u20b, u21a, u21b, u22a, u22b, u22c, u22d, u22f, u22g, u22h, u22i]) rfl ⟨_, rfl, ?_, by rw [hg.out]; exact (((DW.out.setCell (by simp <;> omega) _).setCell (by simp <;> omega) _).setCell (by simp <;> omega) _).setCell (by simp <;> omega) _⟩
  have hc := chg_qbox (b' := sn) (d' := sd) (A' := Xn) (n' := pn) (c' := qn) (B' := Xd) (m' := pd) (e' := qd) RXr.out
  exact qv_of (IVn.out.kn hc.kn) (IVd.out.kn hc.kn)

set_option maxHeartbeats 8000000 in
set_option maxRecDepth 100000 in
theorem rebuild_big (vu vm : Value) (zu zm R T : Int) (a b : Nat) (w : World) (hu : Iv w vu zu) (su : Sz zu 400) (hm : Iv w vm zm) (sm : Sz zm 400) (hm0 : 0 < zm) (ha : (zm - 1) / 2 = (a : Int)) (hb1 : b ^ 2 ≤ a) (hb2 : a < (b + 1) ^ 2) (hbm : (b : Int) < zm) (hR : Row.fsh (zm.toNat + 1) b zm 0 (zu % zm) 1 = (R, T)) (sR : Sz R 400) (sT : Sz T 400) (hT : 0 ≤ T) (hd : b < T) : Calls Try.prog 68 #[vu, vm] w (RetQB 0 0 false w) := by
  obtain ⟨Xu, pu, qu, rfl, _, _, _⟩ := hu.form
  have Hu := Lib.hid hu
  have SZu := Lib.hid su
  clear hu su
  generalize hs : decide (zu < 0) = su at *
  clear hs
  obtain ⟨Xm, pm, qm, rfl, _, _, _⟩ := hm.form
  have Hm := Lib.hid hm
  have SZm := Lib.hid sm
  clear hm sm
  generalize hs : decide (zm < 0) = sm at *
  clear hs
  obtain ⟨c1, hc1⟩ : ∃ z : Int, z = 1 := ⟨_, rfl⟩
  have HA : Hid ((zm - c1) / 2 = (a : Int)) := by rw [hc1]; exact ha
  obtain ⟨ze, hze⟩ : ∃ z : Int, (zm - c1) % 2 = z := ⟨_, rfl⟩
  have hgm : Hid (sg zm = 1) := by rcases sg_cases zm with ⟨h1, e1⟩ | ⟨h1, e1⟩ | ⟨h1, e1⟩ <;> first | exact e1 | omega
  have SA : Hid (Sz (a : Int) 400) := ⟨by have := SZm.out.lt; rw [Int.natAbs_natCast]; omega⟩
  have SB : Hid (Sz (b : Int) 400) := ⟨by have := SZm.out.lt; rw [Int.natAbs_natCast]; omega⟩
  have HM0 := Lib.hid hm0; have HB1 := Lib.hid hb1; have HB2 := Lib.hid hb2; have HBM := Lib.hid hbm; have HR := Lib.hid hR; have SR := Lib.hid sR; have ST := Lib.hid sT; have HT := Lib.hid hT; have HD := Lib.hid hd
  skip
  replace hc1 := Lib.hid hc1; replace hze := Lib.hid hze
  clear hm0 ha hb1 hb2 hbm hR sR sT hT hd
  go_enter Try.func68, Try.ntmps68
  go_wp2_with fail
  obtain ⟨W, hW⟩ : ∃ W, W = (((w.alloc (Obj.cells #[Value.bool su, Value.slice Xu pu qu] 27)).alloc (Obj.cells #[Value.bool sm, Value.slice Xm pm qm] 27)).alloc (Obj.cells #[Value.bool false, Value.slice none 0 0, Value.bool false, Value.slice none 0 0] 60)) := ⟨_, rfl⟩
  rw [← hW]
  have BXu : Hid (Box W (w.heap.size) su (.slice Xu pu qu)) := by rw [hW]; have := ((Box.new w su (Value.slice Xu pu qu)).alloc (Obj.cells #[Value.bool sm, Value.slice Xm pm qm] 27)).alloc (Obj.cells #[Value.bool false, Value.slice none 0 0, Value.bool false, Value.slice none 0 0] 60); simpa [Hid] using this
  have BXm : Hid (Box W (w.heap.size + 1) sm (.slice Xm pm qm)) := by rw [hW]; have := (Box.new (w.alloc (Obj.cells #[Value.bool su, Value.slice Xu pu qu] 27)) sm (Value.slice Xm pm qm)).alloc (Obj.cells #[Value.bool false, Value.slice none 0 0, Value.bool false, Value.slice none 0 0] 60); simpa [Hid] using this
  have RXr : Hid (QBox W (w.heap.size + 1 + 1) false (.slice none 0 0) false (.slice none 0 0)) := by rw [hW]; have := QBox.new ((w.alloc (Obj.cells #[Value.bool su, Value.slice Xu pu qu] 27)).alloc (Obj.cells #[Value.bool sm, Value.slice Xm pm qm] 27)) false (Value.slice none 0 0) false (Value.slice none 0 0); simpa [Hid] using this
  have IVu : Hid (Iv W (.agg #[.bool su, .slice Xu pu qu]) (zu)) := by rw [hW]; exact (((Hu.out).alloc _).alloc _).alloc _
  have IVm : Hid (Iv W (.agg #[.bool sm, .slice Xm pm qm]) (zm)) := by rw [hW]; exact (((Hm.out).alloc _).alloc _).alloc _
  have DW : Hid (Below w.heap.size w W) := by rw [hW]; exact (((Below.refl _ _).alloc (by simp <;> omega) _).alloc (by simp <;> omega) _).alloc (by simp <;> omega) _
  clear hW
  generalize hg : w.heap.size = g at *
  replace hg := Lib.hid hg
  go_upto_region 1 with fail
  have u1a := BXm.out.cell0; have u1b := BXm.out.cell1
  go_wp2_with fail
  clear u1a u1b
  refine (sign_is _ zm 1 _ IVm.out (SZm.out.mono (by omega)) hgm.out).mono ?_
  rintro e y2 ⟨rfl, hb⟩
  replace BXu := nxb BXu hb rfl; replace IVu := nxv IVu hb rfl
  replace BXm := nxb BXm hb rfl; replace IVm := nxv IVm hb rfl
  replace RXr := Lib.hid (RXr.out.next hb rfl)
  replace DW := nxd DW hg hb rfl rfl rfl rfl
  clear hb
  go_upto_region 3 with fail
  go_wp2_with fail
  refine (Row.of_z 1 c1 _ (by omega) (by omega) hc1.out).mono ?_
  rintro e y3 ⟨_, rfl, hq, hb⟩
  obtain ⟨Xo, po, qo, rfl, _, _, _⟩ := hq.form
  have Qo := Lib.hid hq; clear hq
  have B := Lib.hid hb; clear hb
  generalize hs : decide ((c1 : Int) < 0) = so at *
  clear hs
  go_upto_region 4 with fail
  obtain ⟨W4, hW⟩ : ∃ W4, W4 = (y3.alloc (Obj.cells #[Value.bool so, Value.slice Xo po qo] 27)) := ⟨_, rfl⟩
  rw [← hW]
  have BXo : Hid (Box W4 (y3.heap.size) so (.slice Xo po qo)) := by rw [hW]; have := Box.new y3 so (.slice Xo po qo); simpa [Hid] using this
  have IVo : Hid (Iv W4 (.agg #[.bool so, .slice Xo po qo]) (c1)) := by rw [hW]; exact (Qo.out).alloc _
  have hd : Below y2.heap.size y2 W4 := by rw [hW]; exact (B.out).alloc (by have := B.out.size; simp <;> omega) _
  have NEor : Hid ((y3.heap.size) ≠ (g + 1 + 1)) := by have := RXr.out.lt; have := B.out.size; unfold Hid; omega
  have GBo : Hid (g ≤ y3.heap.size) := by have := DW.out.size; have := hg.out; have := B.out.size; unfold Hid; omega
  have LTro : Hid ((g + 1 + 1) < y3.heap.size) := by have := RXr.out.lt; have := B.out.size; unfold Hid; omega
  have LTuo : Hid (g < y3.heap.size) := by have := BXu.out.lt; have := B.out.size; unfold Hid; omega
  have LTmo : Hid ((g + 1) < y3.heap.size) := by have := BXm.out.lt; have := B.out.size; unfold Hid; omega
  clear hW B Qo
  generalize hgn4 : y3.heap.size = go at *
  clear hgn4
  replace BXu := nxb BXu hd rfl; replace IVu := nxv IVu hd rfl
  replace BXm := nxb BXm hd rfl; replace IVm := nxv IVm hd rfl
  replace RXr := Lib.hid (RXr.out.next hd rfl)
  replace DW := nxd DW hg hd rfl rfl rfl rfl
  clear hd
  have u5a := BXm.out.cell0; have u5b := BXm.out.cell1
  have u6a := BXo.out.cell0; have u6b := BXo.out.cell1
  go_wp2_with fail
  clear u5a u5b u6a u6b
  refine (sub_any _ _ zm c1 _ IVm.out IVo.out (SZm.out.mono (by omega)) (hc1.out ▸ (Sz.small (by omega) (by omega)).mono (by omega))).mono ?_
  rintro e y7 ⟨_, rfl, hq, hb⟩
  replace hq := Lib.hid hq
  replace BXu := nxb BXu hb rfl; replace IVu := nxv IVu hb rfl
  replace BXm := nxb BXm hb rfl; replace IVm := nxv IVm hb rfl
  replace BXo := nxb BXo hb rfl; replace IVo := nxv IVo hb rfl
  replace RXr := Lib.hid (RXr.out.next hb rfl)
  replace DW := nxd DW hg hb rfl rfl rfl rfl
  clear hb
  go_wp2_with fail
  refine (of_any 2 _ (by omega) (by omega)).mono ?_
  rintro e y81 ⟨_, rfl, hq1, hb⟩
  replace hq := Lib.hid (iv_next hq.out hb rfl); replace hq1 := Lib.hid hq1
  replace BXu := nxb BXu hb rfl; replace IVu := nxv IVu hb rfl
  replace BXm := nxb BXm hb rfl; replace IVm := nxv IVm hb rfl
  replace BXo := nxb BXo hb rfl; replace IVo := nxv IVo hb rfl
  replace RXr := Lib.hid (RXr.out.next hb rfl)
  replace DW := nxd DW hg hb rfl rfl rfl rfl
  clear hb
  have SM1 : Hid (Sz (zm - c1) 401) := ⟨by have h1 := SZm.out.lt; have h2 := HM0.out; have h3 := hc1.out; have h4 := pw_lt (show 400 < 401 by omega); omega⟩
  go_wp2_with fail
  refine (divMod_any _ _ (zm - c1) 2 _ hq.out hq1.out (SM1.out.mono (by omega)) ((Sz.small (by omega) (by omega)).mono (by omega)) (by omega)).mono ?_
  rintro e y82 ⟨_, _, rfl, hq0, hq2, hb⟩
  rw [HA.out] at hq0
  rw [hze.out] at hq2
  clear hq hq1
  obtain ⟨Xh, ph, qh, rfl, _, _, _⟩ := hq0.form
  have Qh := Lib.hid hq0; clear hq0
  obtain ⟨Xe, pe, qe, rfl, _, _, _⟩ := hq2.form
  have Qe := Lib.hid hq2; clear hq2
  have B := Lib.hid hb; clear hb
  generalize hs : decide (((a : Int) : Int) < 0) = sh at *
  clear hs
  generalize hs : decide ((ze : Int) < 0) = se at *
  clear hs
  go_upto_region 5 with fail
  obtain ⟨W8, hW⟩ : ∃ W8, W8 = ((y82.alloc (Obj.cells #[Value.bool sh, Value.slice Xh ph qh] 27)).alloc (Obj.cells #[Value.bool se, Value.slice Xe pe qe] 27)) := ⟨_, rfl⟩
  rw [← hW]
  have BXh : Hid (Box W8 (y82.heap.size) sh (.slice Xh ph qh)) := by rw [hW]; have := (Box.new y82 sh (.slice Xh ph qh)).alloc (Obj.cells #[Value.bool se, Value.slice Xe pe qe] 27); simpa [Hid] using this
  have IVh : Hid (Iv W8 (.agg #[.bool sh, .slice Xh ph qh]) ((a : Int))) := by rw [hW]; exact ((Qh.out).alloc _).alloc _
  have BXe : Hid (Box W8 (y82.heap.size + 1) se (.slice Xe pe qe)) := by rw [hW]; have := Box.new (y82.alloc (Obj.cells #[Value.bool sh, Value.slice Xh ph qh] 27)) se (.slice Xe pe qe); simpa [Hid] using this
  have IVe : Hid (Iv W8 (.agg #[.bool se, .slice Xe pe qe]) (ze)) := by rw [hW]; exact ((Qe.out).alloc _).alloc _
  have hd : Below y81.heap.size y81 W8 := by rw [hW]; exact ((B.out).alloc (by have := B.out.size; simp <;> omega) _).alloc (by have := B.out.size; simp <;> omega) _
  have NEer : Hid ((y82.heap.size + 1) ≠ (g + 1 + 1)) := by have := RXr.out.lt; have := B.out.size; unfold Hid; omega
  have NEhr : Hid ((y82.heap.size) ≠ (g + 1 + 1)) := by have := RXr.out.lt; have := B.out.size; unfold Hid; omega
  have GBh : Hid (g ≤ y82.heap.size) := by have := DW.out.size; have := hg.out; have := B.out.size; unfold Hid; omega
  have LTrh : Hid ((g + 1 + 1) < y82.heap.size) := by have := RXr.out.lt; have := B.out.size; unfold Hid; omega
  have LTuh : Hid (g < y82.heap.size) := by have := BXu.out.lt; have := B.out.size; unfold Hid; omega
  have LTmh : Hid ((g + 1) < y82.heap.size) := by have := BXm.out.lt; have := B.out.size; unfold Hid; omega
  have LToh : Hid (go < y82.heap.size) := by have := BXo.out.lt; have := B.out.size; unfold Hid; omega
  have GBe : Hid (g ≤ y82.heap.size + 1) := by have := DW.out.size; have := hg.out; have := B.out.size; unfold Hid; omega
  have LTre : Hid ((g + 1 + 1) < y82.heap.size + 1) := by have := RXr.out.lt; have := B.out.size; unfold Hid; omega
  have LThe : Hid (y82.heap.size < y82.heap.size + 1) := by unfold Hid; omega
  have LTue : Hid (g < y82.heap.size + 1) := by have := BXu.out.lt; have := B.out.size; unfold Hid; omega
  have LTme : Hid ((g + 1) < y82.heap.size + 1) := by have := BXm.out.lt; have := B.out.size; unfold Hid; omega
  have LToe : Hid (go < y82.heap.size + 1) := by have := BXo.out.lt; have := B.out.size; unfold Hid; omega
  clear hW B Qh Qe
  generalize hgn8 : y82.heap.size + 1 = ge at *
  clear hgn8
  generalize hgn8 : y82.heap.size = gh at *
  clear hgn8
  replace BXu := nxb BXu hd rfl; replace IVu := nxv IVu hd rfl
  replace BXm := nxb BXm hd rfl; replace IVm := nxv IVm hd rfl
  replace BXo := nxb BXo hd rfl; replace IVo := nxv IVo hd rfl
  replace RXr := Lib.hid (RXr.out.next hd rfl)
  replace DW := nxd DW hg hd rfl rfl rfl rfl
  clear hd
  have u9a := BXh.out.cell0; have u9b := BXh.out.cell1
  go_wp2_with fail
  clear u9a u9b
  refine (root_int _ a 2 b 2 _ IVh.out (SA.out.mono (by omega)) rfl (by omega) (by omega) HB1.out HB2.out).mono ?_
  rintro e y10 ⟨_, rfl, hq, hb⟩
  obtain ⟨Xb, pb, qb, rfl, _, _, _⟩ := hq.form
  have Qb := Lib.hid hq; clear hq
  have B := Lib.hid hb; clear hb
  generalize hs : decide (((b : Int) : Int) < 0) = sb at *
  clear hs
  go_upto_region 6 with fail
  obtain ⟨W11, hW⟩ : ∃ W11, W11 = (y10.alloc (Obj.cells #[Value.bool sb, Value.slice Xb pb qb] 27)) := ⟨_, rfl⟩
  rw [← hW]
  have BXb : Hid (Box W11 (y10.heap.size) sb (.slice Xb pb qb)) := by rw [hW]; have := Box.new y10 sb (.slice Xb pb qb); simpa [Hid] using this
  have IVb : Hid (Iv W11 (.agg #[.bool sb, .slice Xb pb qb]) ((b : Int))) := by rw [hW]; exact (Qb.out).alloc _
  have hd : Below W8.heap.size W8 W11 := by rw [hW]; exact (B.out).alloc (by have := B.out.size; simp <;> omega) _
  have NEbr : Hid ((y10.heap.size) ≠ (g + 1 + 1)) := by have := RXr.out.lt; have := B.out.size; unfold Hid; omega
  have GBb : Hid (g ≤ y10.heap.size) := by have := DW.out.size; have := hg.out; have := B.out.size; unfold Hid; omega
  have LTrb : Hid ((g + 1 + 1) < y10.heap.size) := by have := RXr.out.lt; have := B.out.size; unfold Hid; omega
  have LTub : Hid (g < y10.heap.size) := by have := BXu.out.lt; have := B.out.size; unfold Hid; omega
  have LTmb : Hid ((g + 1) < y10.heap.size) := by have := BXm.out.lt; have := B.out.size; unfold Hid; omega
  have LTob : Hid (go < y10.heap.size) := by have := BXo.out.lt; have := B.out.size; unfold Hid; omega
  have LThb : Hid (gh < y10.heap.size) := by have := BXh.out.lt; have := B.out.size; unfold Hid; omega
  have LTeb : Hid (ge < y10.heap.size) := by have := BXe.out.lt; have := B.out.size; unfold Hid; omega
  clear hW B Qb
  generalize hgn11 : y10.heap.size = gb at *
  clear hgn11
  replace BXu := nxb BXu hd rfl; replace IVu := nxv IVu hd rfl
  replace BXm := nxb BXm hd rfl; replace IVm := nxv IVm hd rfl
  replace BXo := nxb BXo hd rfl; replace IVo := nxv IVo hd rfl
  replace BXh := nxb BXh hd rfl; replace IVh := nxv IVh hd rfl
  replace BXe := nxb BXe hd rfl; replace IVe := nxv IVe hd rfl
  replace RXr := Lib.hid (RXr.out.next hd rfl)
  replace DW := nxd DW hg hd rfl rfl rfl rfl
  clear hd
  have u12a := BXu.out.cell0; have u12b := BXu.out.cell1
  have u13a := BXm.out.cell0; have u13b := BXm.out.cell1
  have u14a := BXb.out.cell0; have u14b := BXb.out.cell1
  go_wp2_with fail
  clear u12a u12b u13a u13b u14a u14b
  refine (Row.first_any _ _ _ zu zm (b : Int) R T _ IVu.out (SZu.out.mono (by omega)) IVm.out (SZm.out.mono (by omega)) IVb.out (SB.out.mono (by omega)) HM0.out (by omega) HBM.out HR.out).mono ?_
  rintro e y15 ⟨_, rfl, hq, hb⟩
  obtain ⟨Xfn, pfn, qfn, Xfd, pfd, qfd, rfl, hfn, hfd⟩ := hq
  have Qfn := Lib.hid hfn; have Qfd := Lib.hid hfd; clear hfn hfd
  have B := Lib.hid hb; clear hb
  generalize hs : decide (R < 0) = sfn at *
  clear hs
  generalize hs : decide (T < 0) = sfd at *
  clear hs
  go_upto_region 7 with fail
  obtain ⟨W90, hW⟩ : ∃ W90, W90 = y15.alloc (Obj.cells #[Value.bool sfn, Value.slice Xfn pfn qfn, Value.bool sfd, Value.slice Xfd pfd qfd] 130) := ⟨_, rfl⟩
  rw [← hW]
  have QXf : Hid (Row.QBox W90 y15.heap.size sfn (.slice Xfn pfn qfn) sfd (.slice Xfd pfd qfd)) := by rw [hW]; exact Row.QBox.new _ _ _ _ _
  have IVnf : Hid (Iv W90 (.agg #[.bool sfn, .slice Xfn pfn qfn]) R) := by rw [hW]; exact Qfn.out.alloc _
  have IVdf : Hid (Iv W90 (.agg #[.bool sfd, .slice Xfd pfd qfd]) T) := by rw [hW]; exact Qfd.out.alloc _
  have hd : Below W11.heap.size W11 W90 := by rw [hW]; exact B.out.alloc (by have := B.out.size; omega) _
  clear hW B Qfn Qfd
  generalize hgn90 : y15.heap.size = gf at *
  clear hgn90
  replace BXu := nxb BXu hd rfl; replace IVu := nxv IVu hd rfl
  replace BXm := nxb BXm hd rfl; replace IVm := nxv IVm hd rfl
  replace BXo := nxb BXo hd rfl; replace IVo := nxv IVo hd rfl
  replace BXh := nxb BXh hd rfl; replace IVh := nxv IVh hd rfl
  replace BXe := nxb BXe hd rfl; replace IVe := nxv IVe hd rfl
  replace BXb := nxb BXb hd rfl; replace IVb := nxv IVb hd rfl
  replace RXr := Lib.hid (RXr.out.next hd rfl)
  replace DW := nxd DW hg hd rfl rfl rfl rfl
  clear hd
  refine Rg.region_gg W90 [.is (.pointer (some ⟨gf, 0, none⟩)), .sat (pIv (R)) (pIv_keep _), .is (.pointer (some ⟨gf, 2, none⟩)), .sat (pIv (T)) (pIv_keep _), .own pNew pNew_keep, .own pNew pNew_keep, .put 4 (pPut (R)) (pPut_keep _), .put 5 (pPut (T)) (pPut_keep _)] [] [some 38, some 39, some 40, some 41, some 13, some 14, none, none] (by kernel_rfl) (by kernel_rfl) (by kernel_rfl) (by kernel_rfl) (by kernel_rfl) (by simp [Rg.stos]) (by rfl) (by rfl) (by kernel_rfl) (by simp) ((Below.refl _ _).drew) (fun Q' => ?_) (fun K hK wn hs => ?_)
  · refine ⟨?_, ?_, ?_, ?_, ?_, ?_, ?_, ?_, trivial⟩
    · intro a' w' ha hs hw hold
      have eo12 : a'.tmps[12]? = some (ptr gf) := (ha.rest 12 (by kernel_rfl)).trans rfl
      exact ⟨rfl, .inl ⟨wanted_none rfl, wp_val (Row.run_qfield0 rfl (ev_tmp eo12)) ⟨rfl, Below.refl _ _⟩⟩⟩
    · intro a' w' ha hs hw hold
      have e0 : a'.tmps[38]? = some (.pointer (some ⟨gf, 0, none⟩)) := Rg.slot_get rfl rfl (hw 0 (by kernel_rfl) _ rfl)
      exact ⟨rfl, wanted_none rfl, wp_val (Row.run_qload0 rfl (ev_tmp e0) (QXf.out.bel hs (by simp))) ⟨_, rfl, IVnf.out.kn hs.kn, Below.refl _ _⟩⟩
    · intro a' w' ha hs hw hold
      have eo12 : a'.tmps[12]? = some (ptr gf) := (ha.rest 12 (by kernel_rfl)).trans rfl
      exact ⟨rfl, .inl ⟨wanted_none rfl, wp_val (Row.run_qfield1 rfl (ev_tmp eo12)) ⟨rfl, Below.refl _ _⟩⟩⟩
    · intro a' w' ha hs hw hold
      have e2 : a'.tmps[40]? = some (.pointer (some ⟨gf, 2, none⟩)) := Rg.slot_get rfl rfl (hw 2 (by kernel_rfl) _ rfl)
      exact ⟨rfl, wanted_none rfl, wp_val (Row.run_qload1 rfl (ev_tmp e2) (QXf.out.bel hs (by simp))) ⟨_, rfl, IVdf.out.kn hs.kn, Below.refl _ _⟩⟩
    · intro a' w' ha hs hw hold
      exact ⟨rfl, wanted_none rfl, step_new rfl⟩
    · intro a' w' ha hs hw hold
      exact ⟨rfl, wanted_none rfl, step_new rfl⟩
    · intro a' w' ha hs hw hold
      obtain ⟨v1, e1, q1⟩ := hw 1 (by kernel_rfl) _ rfl
      replace e1 : a'.tmps[39]? = some v1 := Rg.slot_get rfl rfl e1
      refine ⟨rfl, wanted_none rfl, by kernel_rfl, fun pv pg pp ph pe1 pe2 pe3 pe4 => ?_⟩
      cases pe1
      exact step_put rfl rfl (ev_tmp (Rg.slot_get rfl rfl pe2)) (ev_tmp e1) pe3 pe4 q1
    · intro a' w' ha hs hw hold
      obtain ⟨v3, e3, q3⟩ := hw 3 (by kernel_rfl) _ rfl
      replace e3 : a'.tmps[41]? = some v3 := Rg.slot_get rfl rfl e3
      refine ⟨rfl, wanted_none rfl, by kernel_rfl, fun pv pg pp ph pe1 pe2 pe3 pe4 => ?_⟩
      cases pe1
      exact step_put rfl rfl (ev_tmp (Rg.slot_get rfl rfl pe2)) (ev_tmp e3) pe3 pe4 q3
  simp only [Rg.allG]
  intro r16x1 _
  intro r16x3 _
  intro a16x4 gb16x4 hE16x4 hB16x4 _ hN16x4 _
  intro a16x5 gb16x5 hE16x5 hB16x5 _ hN16x5 _
  intro v16 he hp
  simp only [List.nil_append, List.cons_append, List.getElem?_cons_succ, List.getElem?_cons_zero, Option.some.injEq] at he
  subst he
  obtain ⟨gn, rfl, Xn, pn, qn, BXn, IVn⟩ := hp
  intro v16 he hp
  simp only [List.nil_append, List.cons_append, List.getElem?_cons_succ, List.getElem?_cons_zero, Option.some.injEq] at he
  subst he
  obtain ⟨gd, rfl, Xd, pd, qd, BXd, IVd⟩ := hp
  simp only [setOpt, Rg.setOpt, List.set_cons_succ, List.set_cons_zero, ptr]
  refine hK _ _ ?_
  clear hK K
  replace hs := hs.below
  have hgb : gn = gb16x4 := Option.some.inj hE16x4
  have NEnr : Hid (gn ≠ (g + 1 + 1)) := by have h1 := RXr.out.lt; unfold Hid; omega
  have GBn : Hid (g ≤ gn) := by have := DW.out.size; have := hg.out; unfold Hid; omega
  have LTrn : Hid ((g + 1 + 1) < gn) := by have := RXr.out.lt; unfold Hid; omega
  have LTun : Hid (g < gn) := by have := BXu.out.lt; unfold Hid; omega
  have LTmn : Hid ((g + 1) < gn) := by have := BXm.out.lt; unfold Hid; omega
  have LTon : Hid (go < gn) := by have := BXo.out.lt; unfold Hid; omega
  have LThn : Hid (gh < gn) := by have := BXh.out.lt; unfold Hid; omega
  have LTen : Hid (ge < gn) := by have := BXe.out.lt; unfold Hid; omega
  have LTbn : Hid (gb < gn) := by have := BXb.out.lt; unfold Hid; omega
  clear hgb
  have hgb : gd = gb16x5 := Option.some.inj hE16x5
  have NEdr : Hid (gd ≠ (g + 1 + 1)) := by have h1 := RXr.out.lt; unfold Hid; omega
  have GBd : Hid (g ≤ gd) := by have := DW.out.size; have := hg.out; unfold Hid; omega
  have LTrd : Hid ((g + 1 + 1) < gd) := by have := RXr.out.lt; unfold Hid; omega
  have LTud : Hid (g < gd) := by have := BXu.out.lt; unfold Hid; omega
  have LTmd : Hid ((g + 1) < gd) := by have := BXm.out.lt; unfold Hid; omega
  have LTod : Hid (go < gd) := by have := BXo.out.lt; unfold Hid; omega
  have LThd : Hid (gh < gd) := by have := BXh.out.lt; unfold Hid; omega
  have LTed : Hid (ge < gd) := by have := BXe.out.lt; unfold Hid; omega
  have LTbd : Hid (gb < gd) := by have := BXb.out.lt; unfold Hid; omega
  have NQnd : Hid (gn ≠ gd) := by have h3 := hN16x5 4 _ (by rfl) (by kernel_rfl); unfold Hid; rintro rfl; exact h3 (congrArg some hgb)
  clear hgb
  clear hE16x4 hB16x4 hN16x4 hE16x5 hB16x5 hN16x5
  replace BXu := nxb BXu hs rfl; replace IVu := nxv IVu hs rfl
  replace BXm := nxb BXm hs rfl; replace IVm := nxv IVm hs rfl
  replace BXo := nxb BXo hs rfl; replace IVo := nxv IVo hs rfl
  replace BXh := nxb BXh hs rfl; replace IVh := nxv IVh hs rfl
  replace BXe := nxb BXe hs rfl; replace IVe := nxv IVe hs rfl
  replace BXb := nxb BXb hs rfl; replace IVb := nxv IVb hs rfl
  replace RXr := Lib.hid (RXr.out.next hs rfl)
  replace DW := nxd DW hg hs rfl rfl rfl rfl
  generalize hsg : decide ((R : Int) < 0) = sn at *
  clear hsg
  replace BXn := Lib.hid BXn; replace IVn := Lib.hid IVn
  generalize hsg : decide ((T : Int) < 0) = sd at *
  clear hsg
  replace BXd := Lib.hid BXd; replace IVd := Lib.hid IVd
  clear hs
  clear QXf IVnf IVdf
  go_upto_region 8 with fail
  obtain ⟨sT1, hsT⟩ : ∃ x, sg T = x := ⟨_, rfl⟩
  have dT : decide (sT1 < 0) = false := by
    rw [← hsT]
    have := HT.out
    rcases sg_cases T with ⟨h1, e1⟩ | ⟨h1, e1⟩ | ⟨h1, e1⟩ <;> rw [e1] <;> first | rfl | omega
  replace hsT := Lib.hid hsT
  have u17a := BXd.out.cell0; have u17b := BXd.out.cell1
  go_wp2_with fail
  clear u17a u17b
  refine (sign_is _ T sT1 _ IVd.out (ST.out.mono (by omega)) hsT.out).mono ?_
  rintro e y18 ⟨rfl, hb⟩
  replace BXu := nxb BXu hb rfl; replace IVu := nxv IVu hb rfl
  replace BXm := nxb BXm hb rfl; replace IVm := nxv IVm hb rfl
  replace BXo := nxb BXo hb rfl; replace IVo := nxv IVo hb rfl
  replace BXh := nxb BXh hb rfl; replace IVh := nxv IVh hb rfl
  replace BXe := nxb BXe hb rfl; replace IVe := nxv IVe hb rfl
  replace BXb := nxb BXb hb rfl; replace IVb := nxv IVb hb rfl
  replace BXn := nxb BXn hb rfl; replace IVn := nxv IVn hb rfl
  replace BXd := nxb BXd hb rfl; replace IVd := nxv IVd hb rfl
  replace RXr := Lib.hid (RXr.out.next hb rfl)
  replace DW := nxd DW hg hb rfl rfl rfl rfl
  clear hb
  go_upto_region 10 with fail
  clear dT
  obtain ⟨o, ho⟩ : ∃ o, cmpZ (T) (b : Int) = o := ⟨_, rfl⟩
  have HO : Hid (decide (0 < o) = true) := by
    rw [← ho]
    have := HD.out
    rcases Int.lt_trichotomy (T) (b : Int) with h | h | h
    · rw [cmpZ_lt h]; first | rfl | omega
    · rw [cmpZ_eq h]; first | rfl | omega
    · rw [cmpZ_gt h]; first | rfl | omega
  replace ho := Lib.hid ho
  refine Rg.region_gg y18 [.is (.agg #[.bool sd, .slice Xd pd qd]), .is (.agg #[.bool sb, .slice Xb pb qb]), .is (Value.int IntKind.i64 o), .is (Value.bool true), .is (Value.bool true), .is (undef), .is (undef), .is (undef), .is (undef), .is (undef), .is (undef), .is (Value.bool true)] [] [some 49, some 50, some 51, some 52, some 53, some 54, some 55, some 56, some 57, some 58, some 59, some 60] (by kernel_rfl) (by kernel_rfl) (by kernel_rfl) (by kernel_rfl) (by kernel_rfl) (by simp [Rg.stos]) (by rfl) (by rfl) (by kernel_rfl) (by simp) ((Below.refl _ _).drew) (fun Q' => ?_) (fun K hK wn hs => ?_)
  · refine ⟨?_, ?_, ?_, ?_, ?_, ?_, ?_, ?_, ?_, ?_, ?_, ?_, trivial⟩
    · intro a' w' ha hs hw hold
      have eo14 : a'.tmps[14]? = some (ptr gd) := (ha.rest 14 (by kernel_rfl)).trans rfl
      exact ⟨rfl, .inl ⟨wanted_none rfl, wp_val (run_pload rfl (ev_tmp eo14) (BXd.out.bel hs (by simp))) ⟨rfl, Below.refl _ _⟩⟩⟩
    · intro a' w' ha hs hw hold
      have eo10 : a'.tmps[10]? = some (ptr gb) := (ha.rest 10 (by kernel_rfl)).trans rfl
      exact ⟨rfl, .inl ⟨wanted_none rfl, wp_val (run_pload rfl (ev_tmp eo10) (BXb.out.bel hs (by simp))) ⟨rfl, Below.refl _ _⟩⟩⟩
    · intro a' w' ha hs hw hold
      have e0 : a'.tmps[49]? = some (.agg #[.bool sd, .slice Xd pd qd]) := Rg.slot_get rfl rfl (hw 0 (by kernel_rfl) _ rfl)
      have e1 : a'.tmps[50]? = some (.agg #[.bool sb, .slice Xb pb qb]) := Rg.slot_get rfl rfl (hw 1 (by kernel_rfl) _ rfl)
      exact ⟨rfl, .inl ⟨wanted_none rfl, call_step rfl Try.func28 (by kernel_rfl) rfl (map_two (ev_tmp e0) (ev_tmp e1)) (cmp_is _ _ (T) (b : Int) o _ (IVd.out.kn hs.kn) (IVb.out.kn hs.kn) (ST.out.mono (by omega)) (SB.out.mono (by omega)) ho.out) (fun e w2 he => by obtain ⟨rfl, hb⟩ := he; exact ⟨_, rfl, rfl, hb⟩)⟩⟩
    · intro a' w' ha hs hw hold
      have e2 : a'.tmps[51]? = some (Value.int IntKind.i64 o) := Rg.slot_get rfl rfl (hw 2 (by kernel_rfl) _ rfl)
      exact ⟨rfl, .inl ⟨wanted_none rfl, wp_val (run_gtrB rfl (ev_tmp e2) rfl HO.out) ⟨rfl, Below.refl _ _⟩⟩⟩
    · intro a' w' ha hs hw hold
      have e3 : a'.tmps[52]? = some (Value.bool true) := Rg.slot_get rfl rfl (hw 3 (by kernel_rfl) _ rfl)
      exact ⟨rfl, .inl ⟨wanted_none rfl, wp_val (run_move rfl (ev_tmp e3)) ⟨rfl, Below.refl _ _⟩⟩⟩
    · intro a' w' ha hs hw hold
      have e4 : a'.tmps[53]? = some (Value.bool true) := Rg.slot_get rfl rfl (hw 4 (by kernel_rfl) _ rfl)
      exact ⟨rfl, .inr ⟨wanted_off rfl rfl rfl e4 (by decide), rfl⟩⟩
    · intro a' w' ha hs hw hold
      have e4 : a'.tmps[53]? = some (Value.bool true) := Rg.slot_get rfl rfl (hw 4 (by kernel_rfl) _ rfl)
      exact ⟨rfl, .inr ⟨wanted_off rfl rfl rfl e4 (by decide), rfl⟩⟩
    · intro a' w' ha hs hw hold
      have e4 : a'.tmps[53]? = some (Value.bool true) := Rg.slot_get rfl rfl (hw 4 (by kernel_rfl) _ rfl)
      exact ⟨rfl, .inr ⟨wanted_off rfl rfl rfl e4 (by decide), rfl⟩⟩
    · intro a' w' ha hs hw hold
      have e4 : a'.tmps[53]? = some (Value.bool true) := Rg.slot_get rfl rfl (hw 4 (by kernel_rfl) _ rfl)
      exact ⟨rfl, .inr ⟨wanted_off rfl rfl rfl e4 (by decide), rfl⟩⟩
    · intro a' w' ha hs hw hold
      have e4 : a'.tmps[53]? = some (Value.bool true) := Rg.slot_get rfl rfl (hw 4 (by kernel_rfl) _ rfl)
      exact ⟨rfl, .inr ⟨wanted_off rfl rfl rfl e4 (by decide), rfl⟩⟩
    · intro a' w' ha hs hw hold
      have e4 : a'.tmps[53]? = some (Value.bool true) := Rg.slot_get rfl rfl (hw 4 (by kernel_rfl) _ rfl)
      exact ⟨rfl, .inr ⟨wanted_off rfl rfl rfl e4 (by decide), rfl⟩⟩
    · intro a' w' ha hs hw hold
      have e4 : a'.tmps[53]? = some (Value.bool true) := Rg.slot_get rfl rfl (hw 4 (by kernel_rfl) _ rfl)
      exact ⟨rfl, .inl ⟨wanted_none rfl, wp_val (run_pick (b := true) rfl (ev_tmp e4) rfl) ⟨rfl, Below.refl _ _⟩⟩⟩
  simp only [Rg.allG]
  simp only [setOpt, Rg.setOpt, List.set_cons_succ, List.set_cons_zero]
  refine hK _ _ ?_
  clear hK K
  replace hs := hs.below
  replace BXu := nxb BXu hs rfl; replace IVu := nxv IVu hs rfl
  replace BXm := nxb BXm hs rfl; replace IVm := nxv IVm hs rfl
  replace BXo := nxb BXo hs rfl; replace IVo := nxv IVo hs rfl
  replace BXh := nxb BXh hs rfl; replace IVh := nxv IVh hs rfl
  replace BXe := nxb BXe hs rfl; replace IVe := nxv IVe hs rfl
  replace BXb := nxb BXb hs rfl; replace IVb := nxv IVb hs rfl
  replace BXn := nxb BXn hs rfl; replace IVn := nxv IVn hs rfl
  replace BXd := nxb BXd hs rfl; replace IVd := nxv IVd hs rfl
  replace RXr := Lib.hid (RXr.out.next hs rfl)
  replace DW := nxd DW hg hs rfl rfl rfl rfl
  clear hs
  have u20a := RXr.out.cell0; have u20b := RXr.out.cell1; have u20c := RXr.out.cell2; have u20d := RXr.out.cell3; have u20f := RXr.out.frozen 0; have u20g := RXr.out.frozen 1; have u20h := RXr.out.frozen 2; have u20i := RXr.out.frozen 3
  go_wp2
  refine bodyPost_ret (v := .tuple #[zeroQ, .bool false]) (by simp [results, Try.results68, go_sem, zeroQ, u20a, u20b, u20c, u20d, u20f, u20g, u20h, u20i]) rfl ⟨_, rfl, zeroQ_qv3 _, ?_⟩
  rw [hg.out]
  first | exact DW.out | exact (((DW.out.setCell (by simp <;> omega) _).setCell (by simp <;> omega) _).setCell (by simp <;> omega) _).setCell (by simp <;> omega) _
end Go.Proofs.Ytfigimfdojbkeaa
end

section
namespace Go.Proofs.Ytfigimfdojbkeaa
open Go.RowKit
attribute [local go_sem ↓] Go.wp_at_zero Go.wp_at_succ

theorem map_three {α β : Type} {f : α → β} {x y z : α} {v u t : β} (h : f x = v) (k : f y = u) (l : f z = t) : #[x, y, z].map f = #[v, u, t] := by simp [h, k, l]
theorem map_none {α β : Type} {f : α → β} : (#[] : Array α).map f = #[] := by simp
theorem u64s_new (w : World) (T : TypeId) (a b : Nat) (ha : a < 18446744073709551616) (hb : b < 18446744073709551616) : U64s (w.alloc (.cells #[.int .u64 (a : Nat), .int .u64 (b : Nat)] T)) (some ⟨w.heap.size, 0, none⟩) 2 [a, b] := by
  refine ⟨rfl, ?_, fun i hi => ⟨w.heap.size, 0, rfl, by simp, ?_⟩⟩
  · intro x hx
    simp only [List.mem_cons, List.not_mem_nil, or_false] at hx
    rcases hx with rfl | rfl <;> assumption
  · rw [cell_of_row _ _ _ _ _ _ (heap_alloc_new w _)]
    rcases (by omega : i = 0 ∨ i = 1) with rfl | rfl <;> rfl
theorem isPr_small {p : Nat} (h : p = 2 ∨ p = 3 ∨ p = 5) : IsPr p := by
  refine ⟨by omega, by omega, fun d h2 hd => ?_⟩
  rcases h with rfl | rfl | rfl
  · have : d = 0 ∨ d = 1 := by rcases (by omega : d = 0 ∨ d = 1 ∨ 2 ≤ d) with k | k | k <;> first | (left; exact k) | (right; exact k) | (have := Nat.mul_le_mul k k; omega)
    omega
  · have : d = 0 ∨ d = 1 := by rcases (by omega : d = 0 ∨ d = 1 ∨ 2 ≤ d) with k | k | k <;> first | (left; exact k) | (right; exact k) | (have := Nat.mul_le_mul k k; omega)
    omega
  · rcases (by omega : d = 2 ∨ 3 ≤ d) with rfl | k
    · decide
    · have := Nat.mul_le_mul k k; omega
theorem reduce_half (v : Value) (w : World) (h : Qv w v 1 2) : Calls Try.prog 55 #[v, .int .u64 7] w (RetV (.tuple #[.int .u64 4, .int .i64 0]) w) := by
  obtain ⟨A, n, c, B, m, d, rfl, h1, h2⟩ := h
  exact oreduce_any _ _ A B n c m d 1 2 7 w h1 ((Sz.small (by omega) (by omega)).mono (by omega)) h2 ((Sz.small (by omega) (by omega)).mono (by omega)) (by omega) (by omega) (by decide)
theorem chin_ex : crt [2, 3] [3, 5] 2 = (8, 15) := by decide
theorem fsh_ex1 : Row.fsh ((101 : Int).toNat + 1) (7 : Nat) 101 0 (51 % 101) 1 = (1, 2) := by decide
theorem fsh_ex2 : Row.fsh ((7 : Int).toNat + 1) (1 : Nat) 7 0 (4 % 7) 1 = (1, 2) := by decide
theorem prime9 (w : World) : Calls Try.prog 50 #[.int .u64 9] w (RetV (.bool false) w) := by
  refine oprime_not 9 1 w (by omega) (by omega) (by omega) (by decide) (fun j hj => ?_) (by decide)
  obtain rfl : j = 0 := by omega
  decide
theorem pow_ex (w : World) : Calls Try.prog 57 #[.int .u64 2, .int .u64 10, .int .u64 1000] w (RetV (.int .u64 24) w) := opow_any 2 10 1000 w (by omega) (by omega) (by omega) (by omega)
theorem inv_ex (w : World) : Calls Try.prog 53 #[.int .u64 3, .int .u64 7] w (RetV (.tuple #[.int .u64 5, .int .i64 0]) w) := oinv_any 3 7 w (by omega) (by omega) (by omega) (by decide)
theorem rof_z (k z : Int) (w : World) (h1 : -9223372036854775808 ≤ k) (h2 : k ≤ 9223372036854775807) (h : z = k) : Calls Try.prog 64 #[.int .i64 k] w (RetIv z w) := by rw [h]; exact rof_any k w h1 h2
theorem chin_call (A B : Option Addr) (c d : Nat) (z8 z15 : Int) (w : World) (h1 : U64s w A 2 [2, 3]) (h2 : U64s w B 2 [3, 5]) (e8 : z8 = 8) (e15 : z15 = 15) : Calls Try.prog 63 #[.slice A 2 c, .slice B 2 d] w (fun e w' => ∃ v x, e = .returned (.tuple #[v, x, .int .i64 0]) ∧ Iv w' v z8 ∧ Iv w' x z15 ∧ Below w.heap.size w w') := by
  have h := ochinese_any A 2 c [2, 3] B d [3, 5] w h1 h2 (by omega) (fun x hx => isPr_small (by simp only [List.mem_cons, List.not_mem_nil, or_false] at hx; omega)) (by decide) (fun i hi => by rcases (by omega : i = 0 ∨ i = 1) with rfl | rfl <;> decide)
  rw [chin_ex] at h
  rw [e8, e15]
  exact h
theorem reb1 (vu vm : Value) (zu zm n d : Int) (w : World) (hu : Iv w vu zu) (hm : Iv w vm zm) (h1 : zu = 51) (h2 : zm = 101) (h3 : n = 1) (h4 : d = 2) : Calls Try.prog 68 #[vu, vm] w (RetQB n d true w) := by
  subst h1 h2 h3 h4
  exact rebuild_ok vu vm 51 101 1 2 50 7 w hu ((Sz.small (by omega) (by omega)).mono (by omega)) hm ((Sz.small (by omega) (by omega)).mono (by omega)) (by omega) (by decide) (by decide) (by decide) (by omega) fsh_ex1 ((Sz.small (by omega) (by omega)).mono (by omega)) ((Sz.small (by omega) (by omega)).mono (by omega)) (by omega) (by omega) (by decide)
theorem reb2 (vu vm : Value) (zu zm n d : Int) (w : World) (hu : Iv w vu zu) (hm : Iv w vm zm) (h1 : zu = 4) (h2 : zm = 7) (h3 : n = 0) (h4 : d = 0) : Calls Try.prog 68 #[vu, vm] w (RetQB n d false w) := by
  subst h1 h2 h3 h4
  exact rebuild_big vu vm 4 7 1 2 3 1 w hu ((Sz.small (by omega) (by omega)).mono (by omega)) hm ((Sz.small (by omega) (by omega)).mono (by omega)) (by omega) (by decide) (by decide) (by decide) (by omega) fsh_ex2 ((Sz.small (by omega) (by omega)).mono (by omega)) ((Sz.small (by omega) (by omega)).mono (by omega)) (by omega) (by omega)
theorem szc {z : Int} {k : Int} (h : z = k) (h1 : -9223372036854775808 ≤ k) (h2 : k ≤ 9223372036854775807) {N : Nat} (hN : 2 ≤ N) : Sz z N := by rw [h]; exact (Sz.small h1 (by omega)).mono hN


set_option maxHeartbeats 8000000 in
set_option maxRecDepth 100000 in
theorem sanity3_any (w : World) : Calls Try.prog 47 #[] w (RetV (.bool true) w) := by

  obtain ⟨k1, hk1⟩ : ∃ z : Int, z = 1 := ⟨_, rfl⟩
  replace hk1 := Lib.hid hk1
  obtain ⟨k2, hk2⟩ : ∃ z : Int, z = 2 := ⟨_, rfl⟩
  replace hk2 := Lib.hid hk2
  obtain ⟨k8, hk8⟩ : ∃ z : Int, z = 8 := ⟨_, rfl⟩
  replace hk8 := Lib.hid hk8
  obtain ⟨k15, hk15⟩ : ∃ z : Int, z = 15 := ⟨_, rfl⟩
  replace hk15 := Lib.hid hk15
  obtain ⟨k51, hk51⟩ : ∃ z : Int, z = 51 := ⟨_, rfl⟩
  replace hk51 := Lib.hid hk51
  obtain ⟨k101, hk101⟩ : ∃ z : Int, z = 101 := ⟨_, rfl⟩
  replace hk101 := Lib.hid hk101
  obtain ⟨k4, hk4⟩ : ∃ z : Int, z = 4 := ⟨_, rfl⟩
  replace hk4 := Lib.hid hk4
  obtain ⟨k7, hk7⟩ : ∃ z : Int, z = 7 := ⟨_, rfl⟩
  replace hk7 := Lib.hid hk7
  obtain ⟨o0, ho0⟩ : ∃ z : Int, z = 0 := ⟨_, rfl⟩
  replace ho0 := Lib.hid ho0
  obtain ⟨o1, ho1⟩ : ∃ z : Int, z = 0 := ⟨_, rfl⟩
  replace ho1 := Lib.hid ho1
  obtain ⟨o2, ho2⟩ : ∃ z : Int, z = 0 := ⟨_, rfl⟩
  replace ho2 := Lib.hid ho2
  obtain ⟨o3, ho3⟩ : ∃ z : Int, z = 0 := ⟨_, rfl⟩
  replace ho3 := Lib.hid ho3
  go_enter Try.func47, Try.ntmps47
  have DW : Hid (Below w.heap.size w w) := Below.refl _ _
  obtain ⟨g, hg⟩ : ∃ g, w.heap.size = g := ⟨_, rfl⟩
  rw [hg] at DW
  replace hg := Lib.hid hg
  go_wp2_with fail
  refine (onext_7 _).mono ?_
  rintro e y1 ⟨rfl, hb⟩
  replace DW := nxd DW hg hb rfl rfl rfl rfl
  clear hb
  go_wp2_with fail
  refine (inv_ex _).mono ?_
  rintro e y2 ⟨rfl, hb⟩
  replace DW := nxd DW hg hb rfl rfl rfl rfl
  clear hb
  go_wp2_with fail
  refine (rof_z 1 k1 _ (by omega) (by omega) hk1.out).mono ?_
  rintro e y3 ⟨_, rfl, hq1, hb⟩
  replace hq1 := Lib.hid hq1
  replace DW := nxd DW hg hb rfl rfl rfl rfl
  clear hb
  go_wp2_with fail
  refine (rof_z 2 k2 _ (by omega) (by omega) hk2.out).mono ?_
  rintro e y4 ⟨_, rfl, hq2, hb⟩
  replace hq1 := Lib.hid (iv_next hq1.out hb rfl); replace hq2 := Lib.hid hq2
  replace DW := nxd DW hg hb rfl rfl rfl rfl
  clear hb
  obtain ⟨X1, p1, q1, rfl, _, _, _⟩ := hq1.out.form
  obtain ⟨X2, p2, q2, rfl, _, _, _⟩ := hq2.out.form
  have QH : Hid (Qv y4 (.agg #[.bool (decide (k1 < 0)), .slice X1 p1 q1, .bool (decide (k2 < 0)), .slice X2 p2 q2]) 1 2) := by have h := qv_of hq1.out hq2.out; rw [hk1.out, hk2.out] at h; rw [hk1.out, hk2.out]; exact h
  generalize hs : decide (k1 < 0) = s1 at *
  clear hs
  generalize hs : decide (k2 < 0) = s2 at *
  clear hs
  go_wp2_with fail
  refine (reduce_half _ _ QH.out).mono ?_
  rintro e y5 ⟨rfl, hb⟩
  replace DW := nxd DW hg hb rfl rfl rfl rfl
  clear hb
  clear QH hq1 hq2
  go_wp2_with fail
  obtain ⟨W40, hW⟩ : ∃ W40, W40 = (y5.alloc (Obj.cells #[Value.int IntKind.u64 2, Value.int IntKind.u64 3] 52)).alloc (Obj.cells #[Value.int IntKind.u64 3, Value.int IntKind.u64 5] 52) := ⟨_, rfl⟩
  rw [← hW]
  have C1 : Hid (U64s W40 (some ⟨y5.heap.size, 0, none⟩) 2 [2, 3]) := by rw [hW]; exact (u64s_new y5 _ 2 3 (by omega) (by omega)).below ((Below.refl _ _).alloc (Nat.le_refl _) _)
  have C2 : Hid (U64s W40 (some ⟨y5.heap.size + 1, 0, none⟩) 2 [3, 5]) := by
    rw [hW]
    have h := u64s_new (y5.alloc (Obj.cells #[Value.int IntKind.u64 2, Value.int IntKind.u64 3] 52)) 52 3 5 (by omega) (by omega)
    simpa [Hid] using h
  have hd : Below y5.heap.size y5 W40 := by rw [hW]; exact ((Below.refl _ _).alloc (Nat.le_refl _) _).alloc (by simp) _
  clear hW
  replace DW := nxd DW hg hd rfl rfl rfl rfl
  clear hd
  refine (chin_call _ _ 2 2 k8 k15 _ C1.out C2.out hk8.out hk15.out).mono ?_
  rintro e y6 ⟨_, _, rfl, hq0, hq1, hb⟩
  clear C1 C2
  obtain ⟨Xu, pu, qu, rfl, _, _, _⟩ := hq0.form
  have Qu := Lib.hid hq0; clear hq0
  obtain ⟨Xm, pm, qm, rfl, _, _, _⟩ := hq1.form
  have Qm := Lib.hid hq1; clear hq1
  have B := Lib.hid hb; clear hb
  generalize hs : decide ((k8 : Int) < 0) = su at *
  clear hs
  generalize hs : decide ((k15 : Int) < 0) = sm at *
  clear hs
  go_upto_region 5 with fail
  obtain ⟨W1, hW⟩ : ∃ W1, W1 = ((y6.alloc (Obj.cells #[Value.bool su, Value.slice Xu pu qu] 27)).alloc (Obj.cells #[Value.bool sm, Value.slice Xm pm qm] 27)) := ⟨_, rfl⟩
  rw [← hW]
  have BXu : Hid (Box W1 (y6.heap.size) su (.slice Xu pu qu)) := by rw [hW]; have := (Box.new y6 su (.slice Xu pu qu)).alloc (Obj.cells #[Value.bool sm, Value.slice Xm pm qm] 27); simpa [Hid] using this
  have IVu : Hid (Iv W1 (.agg #[.bool su, .slice Xu pu qu]) (k8)) := by rw [hW]; exact ((Qu.out).alloc _).alloc _
  have BXm : Hid (Box W1 (y6.heap.size + 1) sm (.slice Xm pm qm)) := by rw [hW]; have := Box.new (y6.alloc (Obj.cells #[Value.bool su, Value.slice Xu pu qu] 27)) sm (.slice Xm pm qm); simpa [Hid] using this
  have IVm : Hid (Iv W1 (.agg #[.bool sm, .slice Xm pm qm]) (k15)) := by rw [hW]; exact ((Qm.out).alloc _).alloc _
  have hd : Below W40.heap.size W40 W1 := by rw [hW]; exact ((B.out).alloc (by have := B.out.size; simp <;> omega) _).alloc (by have := B.out.size; simp <;> omega) _
  clear hW B Qu Qm
  generalize hgn1 : y6.heap.size + 1 = gm at *
  clear hgn1
  generalize hgn1 : y6.heap.size = gu at *
  clear hgn1
  replace DW := nxd DW hg hd rfl rfl rfl rfl
  clear hd
  go_wp2_with fail
  refine (rof_z 51 k51 _ (by omega) (by omega) hk51.out).mono ?_
  rintro e y7 ⟨_, rfl, hq1, hb⟩
  replace hq1 := Lib.hid hq1
  replace BXu := nxb BXu hb rfl; replace IVu := nxv IVu hb rfl
  replace BXm := nxb BXm hb rfl; replace IVm := nxv IVm hb rfl
  replace DW := nxd DW hg hb rfl rfl rfl rfl
  clear hb
  go_wp2_with fail
  refine (rof_z 101 k101 _ (by omega) (by omega) hk101.out).mono ?_
  rintro e y8 ⟨_, rfl, hq2, hb⟩
  replace hq1 := Lib.hid (iv_next hq1.out hb rfl); replace hq2 := Lib.hid hq2
  replace BXu := nxb BXu hb rfl; replace IVu := nxv IVu hb rfl
  replace BXm := nxb BXm hb rfl; replace IVm := nxv IVm hb rfl
  replace DW := nxd DW hg hb rfl rfl rfl rfl
  clear hb
  go_wp2_with fail
  refine (reb1 _ _ k51 k101 k1 k2 _ hq1.out hq2.out hk51.out hk101.out hk1.out hk2.out).mono ?_
  rintro e y9 ⟨_, rfl, hq, hb⟩
  clear hq1 hq2
  obtain ⟨Xxn, pxn, qxn, Xxd, pxd, qxd, rfl, hxn, hxd⟩ := hq
  have Qxn := Lib.hid hxn; have Qxd := Lib.hid hxd; clear hxn hxd
  have B := Lib.hid hb; clear hb
  generalize hs : decide ((k1 : Int) < 0) = sxn at *
  clear hs
  generalize hs : decide ((k2 : Int) < 0) = sxd at *
  clear hs
  go_upto_region 6 with fail
  obtain ⟨W2, hW⟩ : ∃ W2, W2 = y9.alloc (Obj.cells #[Value.bool sxn, Value.slice Xxn pxn qxn, Value.bool sxd, Value.slice Xxd pxd qxd] 60) := ⟨_, rfl⟩
  rw [← hW]
  have QXx : Hid (QBox W2 y9.heap.size sxn (.slice Xxn pxn qxn) sxd (.slice Xxd pxd qxd)) := by rw [hW]; exact QBox.new _ _ _ _ _
  have IVnx : Hid (Iv W2 (.agg #[.bool sxn, .slice Xxn pxn qxn]) (k1)) := by rw [hW]; exact Qxn.out.alloc _
  have IVdx : Hid (Iv W2 (.agg #[.bool sxd, .slice Xxd pxd qxd]) (k2)) := by rw [hW]; exact Qxd.out.alloc _
  have hd : Below y8.heap.size y8 W2 := by rw [hW]; exact B.out.alloc (by have := B.out.size; omega) _
  clear hW B Qxn Qxd
  generalize hgn2 : y9.heap.size = gx at *
  clear hgn2
  replace BXu := nxb BXu hd rfl; replace IVu := nxv IVu hd rfl
  replace BXm := nxb BXm hd rfl; replace IVm := nxv IVm hd rfl
  replace DW := nxd DW hg hd rfl rfl rfl rfl
  clear hd
  go_wp2_with fail
  refine (rof_z 4 k4 _ (by omega) (by omega) hk4.out).mono ?_
  rintro e y10 ⟨_, rfl, hq1, hb⟩
  replace hq1 := Lib.hid hq1
  replace BXu := nxb BXu hb rfl; replace IVu := nxv IVu hb rfl
  replace BXm := nxb BXm hb rfl; replace IVm := nxv IVm hb rfl
  replace QXx := nxq QXx hb rfl; replace IVnx := nxv IVnx hb rfl; replace IVdx := nxv IVdx hb rfl
  replace DW := nxd DW hg hb rfl rfl rfl rfl
  clear hb
  go_wp2_with fail
  refine (rof_z 7 k7 _ (by omega) (by omega) hk7.out).mono ?_
  rintro e y11 ⟨_, rfl, hq2, hb⟩
  replace hq1 := Lib.hid (iv_next hq1.out hb rfl); replace hq2 := Lib.hid hq2
  replace BXu := nxb BXu hb rfl; replace IVu := nxv IVu hb rfl
  replace BXm := nxb BXm hb rfl; replace IVm := nxv IVm hb rfl
  replace QXx := nxq QXx hb rfl; replace IVnx := nxv IVnx hb rfl; replace IVdx := nxv IVdx hb rfl
  replace DW := nxd DW hg hb rfl rfl rfl rfl
  clear hb
  go_wp2_with fail
  refine (reb2 _ _ k4 k7 o0 o1 _ hq1.out hq2.out hk4.out hk7.out ho0.out ho1.out).mono ?_
  rintro e y12 ⟨_, rfl, hq, hb⟩
  clear hq1 hq2
  obtain ⟨Xyn, pyn, qyn, Xyd, pyd, qyd, rfl, hyn, hyd⟩ := hq
  have Qyn := Lib.hid hyn; have Qyd := Lib.hid hyd; clear hyn hyd
  have B := Lib.hid hb; clear hb
  generalize hs : decide ((o0 : Int) < 0) = syn at *
  clear hs
  generalize hs : decide ((o1 : Int) < 0) = syd at *
  clear hs
  go_upto_region 7 with fail
  obtain ⟨W3, hW⟩ : ∃ W3, W3 = y12.alloc (Obj.cells #[Value.bool syn, Value.slice Xyn pyn qyn, Value.bool syd, Value.slice Xyd pyd qyd] 60) := ⟨_, rfl⟩
  rw [← hW]
  have QXy : Hid (QBox W3 y12.heap.size syn (.slice Xyn pyn qyn) syd (.slice Xyd pyd qyd)) := by rw [hW]; exact QBox.new _ _ _ _ _
  have IVny : Hid (Iv W3 (.agg #[.bool syn, .slice Xyn pyn qyn]) (o0)) := by rw [hW]; exact Qyn.out.alloc _
  have IVdy : Hid (Iv W3 (.agg #[.bool syd, .slice Xyd pyd qyd]) (o1)) := by rw [hW]; exact Qyd.out.alloc _
  have hd : Below y11.heap.size y11 W3 := by rw [hW]; exact B.out.alloc (by have := B.out.size; omega) _
  clear hW B Qyn Qyd
  generalize hgn3 : y12.heap.size = gy at *
  clear hgn3
  replace BXu := nxb BXu hd rfl; replace IVu := nxv IVu hd rfl
  replace BXm := nxb BXm hd rfl; replace IVm := nxv IVm hd rfl
  replace QXx := nxq QXx hd rfl; replace IVnx := nxv IVnx hd rfl; replace IVdx := nxv IVdx hd rfl
  replace DW := nxd DW hg hd rfl rfl rfl rfl
  clear hd
  go_upto_region 8 with fail
  refine Rg.region_gg W3 [.is (Value.bool true), .is (Value.bool true), .is (Value.bool true), .is (Value.bool true), .is (Value.bool true), .is (Value.bool false), .is (Value.bool true), .is (Value.bool true), .is (Value.bool true), .is (Value.int IntKind.u64 11), .is (Value.bool true), .is (Value.bool true), .is (Value.bool true), .is (Value.int IntKind.u64 5), .is (Value.bool true), .is (Value.bool true), .is (Value.bool true), .is (Value.int IntKind.u64 4), .is (Value.bool true), .is (Value.bool true), .is (Value.bool true), .is (.agg #[.bool su, .slice Xu pu qu]), .sat (pIv (k8)) (pIv_keep _), .is (Value.bool true), .is (Value.bool true), .is (Value.bool true), .is (.agg #[.bool sm, .slice Xm pm qm]), .sat (pIv (k15)) (pIv_keep _), .is (Value.bool true), .is (Value.bool true), .is (Value.bool true), .is (Value.bool true), .is (Value.bool true), .is (Value.bool true), .is (.pointer (some ⟨gx, 0, none⟩)), .is (.agg #[.bool sxn, .slice Xxn pxn qxn]), .sat (pIv (k1)) (pIv_keep _), .is (Value.bool true), .is (Value.bool true), .is (Value.bool true), .is (.pointer (some ⟨gx, 2, none⟩)), .is (.agg #[.bool sxd, .slice Xxd pxd qxd]), .sat (pIv (k2)) (pIv_keep _), .is (Value.bool true), .is (Value.bool true), .is (Value.bool true), .is (Value.bool false), .is (Value.bool true), .is (Value.bool true), .is (Value.bool true), .is (Value.int IntKind.u64 24), .is (Value.bool true), .is (Value.bool true), .is (Value.bool true)] [] [some 63, some 64, some 65, some 66, some 67, some 68, some 69, some 70, some 71, some 72, some 73, some 74, some 75, some 76, some 77, some 78, some 79, some 80, some 81, some 82, some 83, some 84, some 85, some 86, some 87, some 88, some 89, some 90, some 91, some 92, some 93, some 94, some 95, some 96, some 97, some 98, some 99, some 100, some 101, some 102, some 103, some 104, some 105, some 106, some 107, some 108, some 109, some 110, some 111, some 112, some 113, some 114, some 115, some 0] (by kernel_rfl) (by kernel_rfl) (by kernel_rfl) (by kernel_rfl) (by kernel_rfl) (by simp [Rg.stos]) (by rfl) (by rfl) (by kernel_rfl) (by simp) ((Below.refl _ _).drew) (fun Q' => ?_) (fun K hK wn hs => ?_)
  · refine ⟨?_, ?_, ?_, ?_, ?_, ?_, ?_, ?_, ?_, ?_, ?_, ?_, ?_, ?_, ?_, ?_, ?_, ?_, ?_, ?_, ?_, ?_, ?_, ?_, ?_, ?_, ?_, ?_, ?_, ?_, ?_, ?_, ?_, ?_, ?_, ?_, ?_, ?_, ?_, ?_, ?_, ?_, ?_, ?_, ?_, ?_, ?_, ?_, ?_, ?_, ?_, ?_, ?_, ?_, trivial⟩
    · intro a' w' ha hs hw hold
      have eo14 : a'.tmps[14]? = some (Value.bool true) := (ha.rest 14 (by kernel_rfl)).trans rfl
      exact ⟨rfl, .inl ⟨wanted_none rfl, wp_val (run_move rfl (ev_tmp eo14)) ⟨rfl, Below.refl _ _⟩⟩⟩
    · intro a' w' ha hs hw hold
      have e0 : a'.tmps[63]? = some (Value.bool true) := Rg.slot_get rfl rfl (hw 0 (by kernel_rfl) _ rfl)
      exact ⟨rfl, .inl ⟨wanted_none rfl, wp_val (run_move rfl (ev_tmp e0)) ⟨rfl, Below.refl _ _⟩⟩⟩
    · intro a' w' ha hs hw hold
      have e1 : a'.tmps[64]? = some (Value.bool true) := Rg.slot_get rfl rfl (hw 1 (by kernel_rfl) _ rfl)
      exact ⟨rfl, .inl ⟨wanted_some rfl rfl rfl e1, call_step rfl Try.func50 (by kernel_rfl) rfl (map_one rfl) (oprime_pr 2 _ (isPr_small (by omega))) (fun e w2 he => by obtain ⟨rfl, hb⟩ := he; exact ⟨_, rfl, rfl, hb⟩)⟩⟩
    · intro a' w' ha hs hw hold
      have e1 : a'.tmps[64]? = some (Value.bool true) := Rg.slot_get rfl rfl (hw 1 (by kernel_rfl) _ rfl)
      have e2 : a'.tmps[65]? = some (Value.bool true) := Rg.slot_get rfl rfl (hw 2 (by kernel_rfl) _ rfl)
      exact ⟨rfl, .inl ⟨wanted_none rfl, wp_val (run_pick (b := true) rfl (ev_tmp e1) (ev_tmp e2)) ⟨rfl, Below.refl _ _⟩⟩⟩
    · intro a' w' ha hs hw hold
      have e3 : a'.tmps[66]? = some (Value.bool true) := Rg.slot_get rfl rfl (hw 3 (by kernel_rfl) _ rfl)
      exact ⟨rfl, .inl ⟨wanted_none rfl, wp_val (run_move rfl (ev_tmp e3)) ⟨rfl, Below.refl _ _⟩⟩⟩
    · intro a' w' ha hs hw hold
      have e4 : a'.tmps[67]? = some (Value.bool true) := Rg.slot_get rfl rfl (hw 4 (by kernel_rfl) _ rfl)
      exact ⟨rfl, .inl ⟨wanted_some rfl rfl rfl e4, call_step rfl Try.func50 (by kernel_rfl) rfl (map_one rfl) (prime9 _) (fun e w2 he => by obtain ⟨rfl, hb⟩ := he; exact ⟨_, rfl, rfl, hb⟩)⟩⟩
    · intro a' w' ha hs hw hold
      have e4 : a'.tmps[67]? = some (Value.bool true) := Rg.slot_get rfl rfl (hw 4 (by kernel_rfl) _ rfl)
      have e5 : a'.tmps[68]? = some (Value.bool false) := Rg.slot_get rfl rfl (hw 5 (by kernel_rfl) _ rfl)
      exact ⟨rfl, .inl ⟨wanted_some rfl rfl rfl e4, wp_val (run_not rfl (ev_tmp e5)) ⟨rfl, Below.refl _ _⟩⟩⟩
    · intro a' w' ha hs hw hold
      have e4 : a'.tmps[67]? = some (Value.bool true) := Rg.slot_get rfl rfl (hw 4 (by kernel_rfl) _ rfl)
      have e6 : a'.tmps[69]? = some (Value.bool true) := Rg.slot_get rfl rfl (hw 6 (by kernel_rfl) _ rfl)
      exact ⟨rfl, .inl ⟨wanted_none rfl, wp_val (run_pick (b := true) rfl (ev_tmp e4) (ev_tmp e6)) ⟨rfl, Below.refl _ _⟩⟩⟩
    · intro a' w' ha hs hw hold
      have e7 : a'.tmps[70]? = some (Value.bool true) := Rg.slot_get rfl rfl (hw 7 (by kernel_rfl) _ rfl)
      exact ⟨rfl, .inl ⟨wanted_none rfl, wp_val (run_move rfl (ev_tmp e7)) ⟨rfl, Below.refl _ _⟩⟩⟩
    · intro a' w' ha hs hw hold
      have e8 : a'.tmps[71]? = some (Value.bool true) := Rg.slot_get rfl rfl (hw 8 (by kernel_rfl) _ rfl)
      have eo1 : a'.tmps[1]? = some (Value.int IntKind.u64 11) := (ha.rest 1 (by kernel_rfl)).trans rfl
      exact ⟨rfl, .inl ⟨wanted_some rfl rfl rfl e8, wp_val (run_move rfl (ev_tmp eo1)) ⟨rfl, Below.refl _ _⟩⟩⟩
    · intro a' w' ha hs hw hold
      have e8 : a'.tmps[71]? = some (Value.bool true) := Rg.slot_get rfl rfl (hw 8 (by kernel_rfl) _ rfl)
      have e9 : a'.tmps[72]? = some (Value.int IntKind.u64 11) := Rg.slot_get rfl rfl (hw 9 (by kernel_rfl) _ rfl)
      exact ⟨rfl, .inl ⟨wanted_some rfl rfl rfl e8, wp_val (show _ = _ from (run_eql_int rfl (ev_tmp e9) rfl).trans (by rfl)) ⟨rfl, Below.refl _ _⟩⟩⟩
    · intro a' w' ha hs hw hold
      have e8 : a'.tmps[71]? = some (Value.bool true) := Rg.slot_get rfl rfl (hw 8 (by kernel_rfl) _ rfl)
      have e10 : a'.tmps[73]? = some (Value.bool true) := Rg.slot_get rfl rfl (hw 10 (by kernel_rfl) _ rfl)
      exact ⟨rfl, .inl ⟨wanted_none rfl, wp_val (run_pick (b := true) rfl (ev_tmp e8) (ev_tmp e10)) ⟨rfl, Below.refl _ _⟩⟩⟩
    · intro a' w' ha hs hw hold
      have e11 : a'.tmps[74]? = some (Value.bool true) := Rg.slot_get rfl rfl (hw 11 (by kernel_rfl) _ rfl)
      exact ⟨rfl, .inl ⟨wanted_none rfl, wp_val (run_move rfl (ev_tmp e11)) ⟨rfl, Below.refl _ _⟩⟩⟩
    · intro a' w' ha hs hw hold
      have e12 : a'.tmps[75]? = some (Value.bool true) := Rg.slot_get rfl rfl (hw 12 (by kernel_rfl) _ rfl)
      have eo3 : a'.tmps[3]? = some (Value.int IntKind.u64 5) := (ha.rest 3 (by kernel_rfl)).trans rfl
      exact ⟨rfl, .inl ⟨wanted_some rfl rfl rfl e12, wp_val (run_move rfl (ev_tmp eo3)) ⟨rfl, Below.refl _ _⟩⟩⟩
    · intro a' w' ha hs hw hold
      have e12 : a'.tmps[75]? = some (Value.bool true) := Rg.slot_get rfl rfl (hw 12 (by kernel_rfl) _ rfl)
      have e13 : a'.tmps[76]? = some (Value.int IntKind.u64 5) := Rg.slot_get rfl rfl (hw 13 (by kernel_rfl) _ rfl)
      exact ⟨rfl, .inl ⟨wanted_some rfl rfl rfl e12, wp_val (show _ = _ from (run_eql_int rfl (ev_tmp e13) rfl).trans (by rfl)) ⟨rfl, Below.refl _ _⟩⟩⟩
    · intro a' w' ha hs hw hold
      have e12 : a'.tmps[75]? = some (Value.bool true) := Rg.slot_get rfl rfl (hw 12 (by kernel_rfl) _ rfl)
      have e14 : a'.tmps[77]? = some (Value.bool true) := Rg.slot_get rfl rfl (hw 14 (by kernel_rfl) _ rfl)
      exact ⟨rfl, .inl ⟨wanted_none rfl, wp_val (run_pick (b := true) rfl (ev_tmp e12) (ev_tmp e14)) ⟨rfl, Below.refl _ _⟩⟩⟩
    · intro a' w' ha hs hw hold
      have e15 : a'.tmps[78]? = some (Value.bool true) := Rg.slot_get rfl rfl (hw 15 (by kernel_rfl) _ rfl)
      exact ⟨rfl, .inl ⟨wanted_none rfl, wp_val (run_move rfl (ev_tmp e15)) ⟨rfl, Below.refl _ _⟩⟩⟩
    · intro a' w' ha hs hw hold
      have e16 : a'.tmps[79]? = some (Value.bool true) := Rg.slot_get rfl rfl (hw 16 (by kernel_rfl) _ rfl)
      have eo5 : a'.tmps[5]? = some (Value.int IntKind.u64 4) := (ha.rest 5 (by kernel_rfl)).trans rfl
      exact ⟨rfl, .inl ⟨wanted_some rfl rfl rfl e16, wp_val (run_move rfl (ev_tmp eo5)) ⟨rfl, Below.refl _ _⟩⟩⟩
    · intro a' w' ha hs hw hold
      have e16 : a'.tmps[79]? = some (Value.bool true) := Rg.slot_get rfl rfl (hw 16 (by kernel_rfl) _ rfl)
      have e17 : a'.tmps[80]? = some (Value.int IntKind.u64 4) := Rg.slot_get rfl rfl (hw 17 (by kernel_rfl) _ rfl)
      exact ⟨rfl, .inl ⟨wanted_some rfl rfl rfl e16, wp_val (show _ = _ from (run_eql_int rfl (ev_tmp e17) rfl).trans (by rfl)) ⟨rfl, Below.refl _ _⟩⟩⟩
    · intro a' w' ha hs hw hold
      have e16 : a'.tmps[79]? = some (Value.bool true) := Rg.slot_get rfl rfl (hw 16 (by kernel_rfl) _ rfl)
      have e18 : a'.tmps[81]? = some (Value.bool true) := Rg.slot_get rfl rfl (hw 18 (by kernel_rfl) _ rfl)
      exact ⟨rfl, .inl ⟨wanted_none rfl, wp_val (run_pick (b := true) rfl (ev_tmp e16) (ev_tmp e18)) ⟨rfl, Below.refl _ _⟩⟩⟩
    · intro a' w' ha hs hw hold
      have e19 : a'.tmps[82]? = some (Value.bool true) := Rg.slot_get rfl rfl (hw 19 (by kernel_rfl) _ rfl)
      exact ⟨rfl, .inl ⟨wanted_none rfl, wp_val (run_move rfl (ev_tmp e19)) ⟨rfl, Below.refl _ _⟩⟩⟩
    · intro a' w' ha hs hw hold
      have e20 : a'.tmps[83]? = some (Value.bool true) := Rg.slot_get rfl rfl (hw 20 (by kernel_rfl) _ rfl)
      have eo7 : a'.tmps[7]? = some (ptr gu) := (ha.rest 7 (by kernel_rfl)).trans rfl
      exact ⟨rfl, .inl ⟨wanted_some rfl rfl rfl e20, wp_val (run_pload rfl (ev_tmp eo7) (BXu.out.bel hs (by simp))) ⟨rfl, Below.refl _ _⟩⟩⟩
    · intro a' w' ha hs hw hold
      have e20 : a'.tmps[83]? = some (Value.bool true) := Rg.slot_get rfl rfl (hw 20 (by kernel_rfl) _ rfl)
      exact ⟨rfl, wanted_some rfl rfl rfl e20, call_step rfl Try.func64 (by kernel_rfl) rfl (map_one rfl) (rof_z 8 k8 _ (by omega) (by omega) hk8.out) (fun e w2 he => by obtain ⟨v, rfl, hv, hb⟩ := he; exact ⟨v, rfl, v, rfl, hv, hb⟩)⟩
    · intro a' w' ha hs hw hold
      have e20 : a'.tmps[83]? = some (Value.bool true) := Rg.slot_get rfl rfl (hw 20 (by kernel_rfl) _ rfl)
      have e21 : a'.tmps[84]? = some (.agg #[.bool su, .slice Xu pu qu]) := Rg.slot_get rfl rfl (hw 21 (by kernel_rfl) _ rfl)
      obtain ⟨v22, e22, q22⟩ := hw 22 (by kernel_rfl) _ rfl
      replace e22 : a'.tmps[85]? = some v22 := Rg.slot_get rfl rfl e22
      exact ⟨rfl, .inl ⟨wanted_some rfl rfl rfl e20, call_step rfl Try.func66 (by kernel_rfl) rfl (map_two (ev_tmp e21) (ev_tmp e22)) (esame_true _ _ k8 k8 _ (IVu.out.kn hs.kn) q22 (szc hk8.out (by omega) (by omega) (by omega)) rfl) (fun e w2 he => by obtain ⟨rfl, hb⟩ := he; exact ⟨_, rfl, rfl, hb⟩)⟩⟩
    · intro a' w' ha hs hw hold
      have e20 : a'.tmps[83]? = some (Value.bool true) := Rg.slot_get rfl rfl (hw 20 (by kernel_rfl) _ rfl)
      have e23 : a'.tmps[86]? = some (Value.bool true) := Rg.slot_get rfl rfl (hw 23 (by kernel_rfl) _ rfl)
      exact ⟨rfl, .inl ⟨wanted_none rfl, wp_val (run_pick (b := true) rfl (ev_tmp e20) (ev_tmp e23)) ⟨rfl, Below.refl _ _⟩⟩⟩
    · intro a' w' ha hs hw hold
      have e24 : a'.tmps[87]? = some (Value.bool true) := Rg.slot_get rfl rfl (hw 24 (by kernel_rfl) _ rfl)
      exact ⟨rfl, .inl ⟨wanted_none rfl, wp_val (run_move rfl (ev_tmp e24)) ⟨rfl, Below.refl _ _⟩⟩⟩
    · intro a' w' ha hs hw hold
      have e25 : a'.tmps[88]? = some (Value.bool true) := Rg.slot_get rfl rfl (hw 25 (by kernel_rfl) _ rfl)
      have eo8 : a'.tmps[8]? = some (ptr gm) := (ha.rest 8 (by kernel_rfl)).trans rfl
      exact ⟨rfl, .inl ⟨wanted_some rfl rfl rfl e25, wp_val (run_pload rfl (ev_tmp eo8) (BXm.out.bel hs (by simp))) ⟨rfl, Below.refl _ _⟩⟩⟩
    · intro a' w' ha hs hw hold
      have e25 : a'.tmps[88]? = some (Value.bool true) := Rg.slot_get rfl rfl (hw 25 (by kernel_rfl) _ rfl)
      exact ⟨rfl, wanted_some rfl rfl rfl e25, call_step rfl Try.func64 (by kernel_rfl) rfl (map_one rfl) (rof_z 15 k15 _ (by omega) (by omega) hk15.out) (fun e w2 he => by obtain ⟨v, rfl, hv, hb⟩ := he; exact ⟨v, rfl, v, rfl, hv, hb⟩)⟩
    · intro a' w' ha hs hw hold
      have e25 : a'.tmps[88]? = some (Value.bool true) := Rg.slot_get rfl rfl (hw 25 (by kernel_rfl) _ rfl)
      have e26 : a'.tmps[89]? = some (.agg #[.bool sm, .slice Xm pm qm]) := Rg.slot_get rfl rfl (hw 26 (by kernel_rfl) _ rfl)
      obtain ⟨v27, e27, q27⟩ := hw 27 (by kernel_rfl) _ rfl
      replace e27 : a'.tmps[90]? = some v27 := Rg.slot_get rfl rfl e27
      exact ⟨rfl, .inl ⟨wanted_some rfl rfl rfl e25, call_step rfl Try.func66 (by kernel_rfl) rfl (map_two (ev_tmp e26) (ev_tmp e27)) (esame_true _ _ k15 k15 _ (IVm.out.kn hs.kn) q27 (szc hk15.out (by omega) (by omega) (by omega)) rfl) (fun e w2 he => by obtain ⟨rfl, hb⟩ := he; exact ⟨_, rfl, rfl, hb⟩)⟩⟩
    · intro a' w' ha hs hw hold
      have e25 : a'.tmps[88]? = some (Value.bool true) := Rg.slot_get rfl rfl (hw 25 (by kernel_rfl) _ rfl)
      have e28 : a'.tmps[91]? = some (Value.bool true) := Rg.slot_get rfl rfl (hw 28 (by kernel_rfl) _ rfl)
      exact ⟨rfl, .inl ⟨wanted_none rfl, wp_val (run_pick (b := true) rfl (ev_tmp e25) (ev_tmp e28)) ⟨rfl, Below.refl _ _⟩⟩⟩
    · intro a' w' ha hs hw hold
      have e29 : a'.tmps[92]? = some (Value.bool true) := Rg.slot_get rfl rfl (hw 29 (by kernel_rfl) _ rfl)
      exact ⟨rfl, .inl ⟨wanted_none rfl, wp_val (run_move rfl (ev_tmp e29)) ⟨rfl, Below.refl _ _⟩⟩⟩
    · intro a' w' ha hs hw hold
      have e30 : a'.tmps[93]? = some (Value.bool true) := Rg.slot_get rfl rfl (hw 30 (by kernel_rfl) _ rfl)
      have eo11 : a'.tmps[11]? = some (Value.bool true) := (ha.rest 11 (by kernel_rfl)).trans rfl
      exact ⟨rfl, .inl ⟨wanted_some rfl rfl rfl e30, wp_val (run_move rfl (ev_tmp eo11)) ⟨rfl, Below.refl _ _⟩⟩⟩
    · intro a' w' ha hs hw hold
      have e30 : a'.tmps[93]? = some (Value.bool true) := Rg.slot_get rfl rfl (hw 30 (by kernel_rfl) _ rfl)
      have e31 : a'.tmps[94]? = some (Value.bool true) := Rg.slot_get rfl rfl (hw 31 (by kernel_rfl) _ rfl)
      exact ⟨rfl, .inl ⟨wanted_none rfl, wp_val (run_pick (b := true) rfl (ev_tmp e30) (ev_tmp e31)) ⟨rfl, Below.refl _ _⟩⟩⟩
    · intro a' w' ha hs hw hold
      have e32 : a'.tmps[95]? = some (Value.bool true) := Rg.slot_get rfl rfl (hw 32 (by kernel_rfl) _ rfl)
      exact ⟨rfl, .inl ⟨wanted_none rfl, wp_val (run_move rfl (ev_tmp e32)) ⟨rfl, Below.refl _ _⟩⟩⟩
    · intro a' w' ha hs hw hold
      have e33 : a'.tmps[96]? = some (Value.bool true) := Rg.slot_get rfl rfl (hw 33 (by kernel_rfl) _ rfl)
      have eo10 : a'.tmps[10]? = some (ptr gx) := (ha.rest 10 (by kernel_rfl)).trans rfl
      exact ⟨rfl, .inl ⟨wanted_some rfl rfl rfl e33, wp_val (run_qfield0 rfl (ev_tmp eo10)) ⟨rfl, Below.refl _ _⟩⟩⟩
    · intro a' w' ha hs hw hold
      have e33 : a'.tmps[96]? = some (Value.bool true) := Rg.slot_get rfl rfl (hw 33 (by kernel_rfl) _ rfl)
      have e34 : a'.tmps[97]? = some (.pointer (some ⟨gx, 0, none⟩)) := Rg.slot_get rfl rfl (hw 34 (by kernel_rfl) _ rfl)
      exact ⟨rfl, .inl ⟨wanted_some rfl rfl rfl e33, wp_val (run_qload0 rfl (ev_tmp e34) (QXx.out.bel hs (by simp))) ⟨rfl, Below.refl _ _⟩⟩⟩
    · intro a' w' ha hs hw hold
      have e33 : a'.tmps[96]? = some (Value.bool true) := Rg.slot_get rfl rfl (hw 33 (by kernel_rfl) _ rfl)
      exact ⟨rfl, wanted_some rfl rfl rfl e33, call_step rfl Try.func64 (by kernel_rfl) rfl (map_one rfl) (rof_z 1 k1 _ (by omega) (by omega) hk1.out) (fun e w2 he => by obtain ⟨v, rfl, hv, hb⟩ := he; exact ⟨v, rfl, v, rfl, hv, hb⟩)⟩
    · intro a' w' ha hs hw hold
      have e33 : a'.tmps[96]? = some (Value.bool true) := Rg.slot_get rfl rfl (hw 33 (by kernel_rfl) _ rfl)
      have e35 : a'.tmps[98]? = some (.agg #[.bool sxn, .slice Xxn pxn qxn]) := Rg.slot_get rfl rfl (hw 35 (by kernel_rfl) _ rfl)
      obtain ⟨v36, e36, q36⟩ := hw 36 (by kernel_rfl) _ rfl
      replace e36 : a'.tmps[99]? = some v36 := Rg.slot_get rfl rfl e36
      exact ⟨rfl, .inl ⟨wanted_some rfl rfl rfl e33, call_step rfl Try.func66 (by kernel_rfl) rfl (map_two (ev_tmp e35) (ev_tmp e36)) (esame_true _ _ k1 k1 _ (IVnx.out.kn hs.kn) q36 (szc hk1.out (by omega) (by omega) (by omega)) rfl) (fun e w2 he => by obtain ⟨rfl, hb⟩ := he; exact ⟨_, rfl, rfl, hb⟩)⟩⟩
    · intro a' w' ha hs hw hold
      have e33 : a'.tmps[96]? = some (Value.bool true) := Rg.slot_get rfl rfl (hw 33 (by kernel_rfl) _ rfl)
      have e37 : a'.tmps[100]? = some (Value.bool true) := Rg.slot_get rfl rfl (hw 37 (by kernel_rfl) _ rfl)
      exact ⟨rfl, .inl ⟨wanted_none rfl, wp_val (run_pick (b := true) rfl (ev_tmp e33) (ev_tmp e37)) ⟨rfl, Below.refl _ _⟩⟩⟩
    · intro a' w' ha hs hw hold
      have e38 : a'.tmps[101]? = some (Value.bool true) := Rg.slot_get rfl rfl (hw 38 (by kernel_rfl) _ rfl)
      exact ⟨rfl, .inl ⟨wanted_none rfl, wp_val (run_move rfl (ev_tmp e38)) ⟨rfl, Below.refl _ _⟩⟩⟩
    · intro a' w' ha hs hw hold
      have e39 : a'.tmps[102]? = some (Value.bool true) := Rg.slot_get rfl rfl (hw 39 (by kernel_rfl) _ rfl)
      have eo10 : a'.tmps[10]? = some (ptr gx) := (ha.rest 10 (by kernel_rfl)).trans rfl
      exact ⟨rfl, .inl ⟨wanted_some rfl rfl rfl e39, wp_val (run_qfield1 rfl (ev_tmp eo10)) ⟨rfl, Below.refl _ _⟩⟩⟩
    · intro a' w' ha hs hw hold
      have e39 : a'.tmps[102]? = some (Value.bool true) := Rg.slot_get rfl rfl (hw 39 (by kernel_rfl) _ rfl)
      have e40 : a'.tmps[103]? = some (.pointer (some ⟨gx, 2, none⟩)) := Rg.slot_get rfl rfl (hw 40 (by kernel_rfl) _ rfl)
      exact ⟨rfl, .inl ⟨wanted_some rfl rfl rfl e39, wp_val (run_qload1 rfl (ev_tmp e40) (QXx.out.bel hs (by simp))) ⟨rfl, Below.refl _ _⟩⟩⟩
    · intro a' w' ha hs hw hold
      have e39 : a'.tmps[102]? = some (Value.bool true) := Rg.slot_get rfl rfl (hw 39 (by kernel_rfl) _ rfl)
      exact ⟨rfl, wanted_some rfl rfl rfl e39, call_step rfl Try.func64 (by kernel_rfl) rfl (map_one rfl) (rof_z 2 k2 _ (by omega) (by omega) hk2.out) (fun e w2 he => by obtain ⟨v, rfl, hv, hb⟩ := he; exact ⟨v, rfl, v, rfl, hv, hb⟩)⟩
    · intro a' w' ha hs hw hold
      have e39 : a'.tmps[102]? = some (Value.bool true) := Rg.slot_get rfl rfl (hw 39 (by kernel_rfl) _ rfl)
      have e41 : a'.tmps[104]? = some (.agg #[.bool sxd, .slice Xxd pxd qxd]) := Rg.slot_get rfl rfl (hw 41 (by kernel_rfl) _ rfl)
      obtain ⟨v42, e42, q42⟩ := hw 42 (by kernel_rfl) _ rfl
      replace e42 : a'.tmps[105]? = some v42 := Rg.slot_get rfl rfl e42
      exact ⟨rfl, .inl ⟨wanted_some rfl rfl rfl e39, call_step rfl Try.func66 (by kernel_rfl) rfl (map_two (ev_tmp e41) (ev_tmp e42)) (esame_true _ _ k2 k2 _ (IVdx.out.kn hs.kn) q42 (szc hk2.out (by omega) (by omega) (by omega)) rfl) (fun e w2 he => by obtain ⟨rfl, hb⟩ := he; exact ⟨_, rfl, rfl, hb⟩)⟩⟩
    · intro a' w' ha hs hw hold
      have e39 : a'.tmps[102]? = some (Value.bool true) := Rg.slot_get rfl rfl (hw 39 (by kernel_rfl) _ rfl)
      have e43 : a'.tmps[106]? = some (Value.bool true) := Rg.slot_get rfl rfl (hw 43 (by kernel_rfl) _ rfl)
      exact ⟨rfl, .inl ⟨wanted_none rfl, wp_val (run_pick (b := true) rfl (ev_tmp e39) (ev_tmp e43)) ⟨rfl, Below.refl _ _⟩⟩⟩
    · intro a' w' ha hs hw hold
      have e44 : a'.tmps[107]? = some (Value.bool true) := Rg.slot_get rfl rfl (hw 44 (by kernel_rfl) _ rfl)
      exact ⟨rfl, .inl ⟨wanted_none rfl, wp_val (run_move rfl (ev_tmp e44)) ⟨rfl, Below.refl _ _⟩⟩⟩
    · intro a' w' ha hs hw hold
      have e45 : a'.tmps[108]? = some (Value.bool true) := Rg.slot_get rfl rfl (hw 45 (by kernel_rfl) _ rfl)
      have eo13 : a'.tmps[13]? = some (Value.bool false) := (ha.rest 13 (by kernel_rfl)).trans rfl
      exact ⟨rfl, .inl ⟨wanted_some rfl rfl rfl e45, wp_val (run_move rfl (ev_tmp eo13)) ⟨rfl, Below.refl _ _⟩⟩⟩
    · intro a' w' ha hs hw hold
      have e45 : a'.tmps[108]? = some (Value.bool true) := Rg.slot_get rfl rfl (hw 45 (by kernel_rfl) _ rfl)
      have e46 : a'.tmps[109]? = some (Value.bool false) := Rg.slot_get rfl rfl (hw 46 (by kernel_rfl) _ rfl)
      exact ⟨rfl, .inl ⟨wanted_some rfl rfl rfl e45, wp_val (run_not rfl (ev_tmp e46)) ⟨rfl, Below.refl _ _⟩⟩⟩
    · intro a' w' ha hs hw hold
      have e45 : a'.tmps[108]? = some (Value.bool true) := Rg.slot_get rfl rfl (hw 45 (by kernel_rfl) _ rfl)
      have e47 : a'.tmps[110]? = some (Value.bool true) := Rg.slot_get rfl rfl (hw 47 (by kernel_rfl) _ rfl)
      exact ⟨rfl, .inl ⟨wanted_none rfl, wp_val (run_pick (b := true) rfl (ev_tmp e45) (ev_tmp e47)) ⟨rfl, Below.refl _ _⟩⟩⟩
    · intro a' w' ha hs hw hold
      have e48 : a'.tmps[111]? = some (Value.bool true) := Rg.slot_get rfl rfl (hw 48 (by kernel_rfl) _ rfl)
      exact ⟨rfl, .inl ⟨wanted_none rfl, wp_val (run_move rfl (ev_tmp e48)) ⟨rfl, Below.refl _ _⟩⟩⟩
    · intro a' w' ha hs hw hold
      have e49 : a'.tmps[112]? = some (Value.bool true) := Rg.slot_get rfl rfl (hw 49 (by kernel_rfl) _ rfl)
      exact ⟨rfl, .inl ⟨wanted_some rfl rfl rfl e49, call_step rfl Try.func57 (by kernel_rfl) rfl (map_three rfl rfl rfl) (pow_ex _) (fun e w2 he => by obtain ⟨rfl, hb⟩ := he; exact ⟨_, rfl, rfl, hb⟩)⟩⟩
    · intro a' w' ha hs hw hold
      have e49 : a'.tmps[112]? = some (Value.bool true) := Rg.slot_get rfl rfl (hw 49 (by kernel_rfl) _ rfl)
      have e50 : a'.tmps[113]? = some (Value.int IntKind.u64 24) := Rg.slot_get rfl rfl (hw 50 (by kernel_rfl) _ rfl)
      exact ⟨rfl, .inl ⟨wanted_some rfl rfl rfl e49, wp_val (show _ = _ from (run_eql_int rfl (ev_tmp e50) rfl).trans (by rfl)) ⟨rfl, Below.refl _ _⟩⟩⟩
    · intro a' w' ha hs hw hold
      have e49 : a'.tmps[112]? = some (Value.bool true) := Rg.slot_get rfl rfl (hw 49 (by kernel_rfl) _ rfl)
      have e51 : a'.tmps[114]? = some (Value.bool true) := Rg.slot_get rfl rfl (hw 51 (by kernel_rfl) _ rfl)
      exact ⟨rfl, .inl ⟨wanted_none rfl, wp_val (run_pick (b := true) rfl (ev_tmp e49) (ev_tmp e51)) ⟨rfl, Below.refl _ _⟩⟩⟩
    · intro a' w' ha hs hw hold
      have e52 : a'.tmps[115]? = some (Value.bool true) := Rg.slot_get rfl rfl (hw 52 (by kernel_rfl) _ rfl)
      exact ⟨rfl, .inl ⟨wanted_none rfl, wp_val (run_assign rfl (ev_tmp e52)) ⟨rfl, Below.refl _ _⟩⟩⟩
  simp only [Rg.allG]
  intro r4x22 _
  intro r4x27 _
  intro r4x36 _
  intro r4x42 _
  simp only [setOpt, Rg.setOpt, List.set_cons_succ, List.set_cons_zero]
  refine hK _ _ ?_
  clear hK K
  replace hs := hs.below
  replace BXu := nxb BXu hs rfl; replace IVu := nxv IVu hs rfl
  replace BXm := nxb BXm hs rfl; replace IVm := nxv IVm hs rfl
  replace QXx := nxq QXx hs rfl; replace IVnx := nxv IVnx hs rfl; replace IVdx := nxv IVdx hs rfl
  replace QXy := nxq QXy hs rfl; replace IVny := nxv IVny hs rfl; replace IVdy := nxv IVdy hs rfl
  replace DW := nxd DW hg hs rfl rfl rfl rfl
  clear hs
  go_wp2
  go_ret
  exact ⟨rfl, by rw [hg.out]; exact DW.out⟩
end Go.Proofs.Ytfigimfdojbkeaa
end
