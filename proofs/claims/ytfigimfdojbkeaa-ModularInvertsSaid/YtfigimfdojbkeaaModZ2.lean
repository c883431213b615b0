/-
  Layer 3: the first short row of Euclid's table.
-/
import Derived.Test.YtfigimfdojbkeaaModZ1
import Derived.Test.YtfigimfdojbkeaaLawE
import Derived.Deep.DeepCutAuto
import Derived.Handy
set_option linter.unusedSimpArgs false
set_option linter.unusedVariables false
namespace Go.Proofs.Ytfigimfdojbkeaa.Row
open Go.RowKit
attribute [local go_sem ↓] Go.wp_at_zero Go.wp_at_succ

/-- The first row of Euclid's table whose rest is at most b. -/
def fsh : Nat → Int → Int → Int → Int → Int → Int × Int
  | 0, _, _, _, r1, t1 => (r1, t1)
  | k + 1, b, r0, t0, r1, t1 => if r1 ≤ b then (r1, t1) else fsh k b r1 t1 (r0 % r1) (t0 - r0 / r1 * t1)
theorem of_z (k z : Int) (w : World) (h1 : -9223372036854775808 ≤ k) (h2 : k ≤ 9223372036854775807) (h : z = k) : Calls Try.prog 103 #[.int .i64 k] w (RetIv z w) := by rw [h]; exact of_any k w h1 h2
theorem rws_sz {m u r0 r1 t0 t1 : Int} (h : Reb.Rws m u r0 r1 t0 t1) (hr : 0 < r1) {N : Nat} (s : Sz m N) : Sz r0 N ∧ Sz t0 N ∧ Sz r1 N ∧ Sz t1 N := by
  obtain ⟨s1, a0, a1, hs, h0, h1, e0, e1, hd⟩ := h.rows
  have hlt := h.lt
  have p0 := Reb.mul_ge (show 1 ≤ a1 by omega) (show 0 ≤ r0 by omega)
  have p1 : 0 ≤ r1 * a0 := Int.mul_nonneg (by omega) h0
  have p2 := Reb.mul_ge (show 1 ≤ r0 by omega) (show 0 ≤ a1 by omega)
  have p3 := Reb.mul_ge (show 1 ≤ r1 by omega) h0
  have p4 : 0 ≤ r0 * a1 := Int.mul_nonneg (by omega) (by omega)
  rw [Int.mul_comm] at p0
  have b0 : r0 ≤ m := by omega
  have b1 : a1 ≤ m := by omega
  have b2 : a0 ≤ m := by omega
  have k : ∀ z : Int, -m ≤ z → z ≤ m → Sz z N := fun z l u => ⟨by have := s.lt; omega⟩
  rcases hs with rfl | rfl
  · exact ⟨k _ (by omega) (by omega), k _ (by omega) (by omega), k _ (by omega) (by omega), k _ (by omega) (by omega)⟩
  · exact ⟨k _ (by omega) (by omega), k _ (by omega) (by omega), k _ (by omega) (by omega), k _ (by omega) (by omega)⟩


set_option maxHeartbeats 8000000 in
set_option maxRecDepth 100000 in
theorem first_any (vu vm vb : Value) (zu zm zb R T : Int) (w : World) (hu : Iv w vu zu) (su : Sz zu 500) (hm : Iv w vm zm) (sm : Sz zm 500) (hb : Iv w vb zb) (sb : Sz zb 500) (hm0 : 0 < zm) (hb0 : 0 ≤ zb) (hbm : zb < zm) (hR : fsh (zm.toNat + 1) zb zm 0 (zu % zm) 1 = (R, T)) : Calls Try.prog 124 #[vu, vm, vb] w (RetQ R T w) := by
  obtain ⟨Xu, pu, qu, rfl, _, _, _⟩ := hu.form
  have Hu := Lib.hid hu
  have SZu := Lib.hid su
  clear hu su
  generalize hs : decide (zu < 0) = su at *
  clear hs
  obtain ⟨Xm, pm, qm, rfl, _, _, _⟩ := hm.form
  have Hm := Lib.hid hm
  have SZm := Lib.hid sm
  clear hm sm
  generalize hs : decide (zm < 0) = sm at *
  clear hs
  obtain ⟨Xb, pb, qb, rfl, _, _, _⟩ := hb.form
  have Hb := Lib.hid hb
  have SZb := Lib.hid sb
  clear hb sb
  generalize hs : decide (zb < 0) = sb at *
  clear hs
  obtain ⟨c0, hc0⟩ : ∃ z : Int, z = 0 := ⟨_, rfl⟩
  obtain ⟨c1, hc1⟩ : ∃ z : Int, z = 1 := ⟨_, rfl⟩
  have FR : Hid (Reb.Rws zm zu zm (zu % zm) c0 c1) := by rw [hc0, hc1]; exact Reb.Rws.first hm0
  have HR : Hid (fsh (zm.toNat + 1) zb zm c0 (zu % zm) c1 = (R, T)) := by rw [hc0, hc1]; exact hR
  have HM : Hid (0 < zm ∧ 0 ≤ zb ∧ zb < zm) := ⟨hm0, hb0, hbm⟩
  have FL : Hid ((zu % zm).toNat < zm.toNat + 1) := by
    have := Int.emod_lt_of_pos zu hm0
    have := Int.emod_nonneg zu (show zm ≠ 0 by omega)
    unfold Hid; omega
  replace hc0 := Lib.hid hc0; replace hc1 := Lib.hid hc1
  clear hR hm0 hb0 hbm
  go_enter Try.func124, Try.ntmps124
  go_wp2_with fail
  obtain ⟨W, hW⟩ : ∃ W, W = ((((w.alloc (Obj.cells #[Value.bool su, Value.slice Xu pu qu] 27)).alloc (Obj.cells #[Value.bool sm, Value.slice Xm pm qm] 27)).alloc (Obj.cells #[Value.bool sb, Value.slice Xb pb qb] 27)).alloc (Obj.cells #[Value.bool false, Value.slice none 0 0, Value.bool false, Value.slice none 0 0] 130)) := ⟨_, rfl⟩
  rw [← hW]
  have BXu : Hid (Box W (w.heap.size) su (.slice Xu pu qu)) := by rw [hW]; have := (((Box.new w su (Value.slice Xu pu qu)).alloc (Obj.cells #[Value.bool sm, Value.slice Xm pm qm] 27)).alloc (Obj.cells #[Value.bool sb, Value.slice Xb pb qb] 27)).alloc (Obj.cells #[Value.bool false, Value.slice none 0 0, Value.bool false, Value.slice none 0 0] 130); simpa [Hid] using this
  have BXm : Hid (Box W (w.heap.size + 1) sm (.slice Xm pm qm)) := by rw [hW]; have := ((Box.new (w.alloc (Obj.cells #[Value.bool su, Value.slice Xu pu qu] 27)) sm (Value.slice Xm pm qm)).alloc (Obj.cells #[Value.bool sb, Value.slice Xb pb qb] 27)).alloc (Obj.cells #[Value.bool false, Value.slice none 0 0, Value.bool false, Value.slice none 0 0] 130); simpa [Hid] using this
  have BXb : Hid (Box W (w.heap.size + 1 + 1) sb (.slice Xb pb qb)) := by rw [hW]; have := (Box.new ((w.alloc (Obj.cells #[Value.bool su, Value.slice Xu pu qu] 27)).alloc (Obj.cells #[Value.bool sm, Value.slice Xm pm qm] 27)) sb (Value.slice Xb pb qb)).alloc (Obj.cells #[Value.bool false, Value.slice none 0 0, Value.bool false, Value.slice none 0 0] 130); simpa [Hid] using this
  have RXr : Hid (QBox W (w.heap.size + 1 + 1 + 1) false (.slice none 0 0) false (.slice none 0 0)) := by rw [hW]; have := QBox.new (((w.alloc (Obj.cells #[Value.bool su, Value.slice Xu pu qu] 27)).alloc (Obj.cells #[Value.bool sm, Value.slice Xm pm qm] 27)).alloc (Obj.cells #[Value.bool sb, Value.slice Xb pb qb] 27)) false (Value.slice none 0 0) false (Value.slice none 0 0); simpa [Hid] using this
  have IVu : Hid (Iv W (.agg #[.bool su, .slice Xu pu qu]) (zu)) := by rw [hW]; exact ((((Hu.out).alloc _).alloc _).alloc _).alloc _
  have IVm : Hid (Iv W (.agg #[.bool sm, .slice Xm pm qm]) (zm)) := by rw [hW]; exact ((((Hm.out).alloc _).alloc _).alloc _).alloc _
  have IVb : Hid (Iv W (.agg #[.bool sb, .slice Xb pb qb]) (zb)) := by rw [hW]; exact ((((Hb.out).alloc _).alloc _).alloc _).alloc _
  have DW : Hid (Below w.heap.size w W) := by rw [hW]; exact ((((Below.refl _ _).alloc (by simp <;> omega) _).alloc (by simp <;> omega) _).alloc (by simp <;> omega) _).alloc (by simp <;> omega) _
  clear hW
  generalize hg : w.heap.size = g at *
  replace hg := Lib.hid hg
  go_upto_region 1 with fail
  have u1a := BXu.out.cell0; have u1b := BXu.out.cell1
  have u2a := BXm.out.cell0; have u2b := BXm.out.cell1
  go_wp2_with fail
  clear u1a u1b u2a u2b
  refine (divMod_any _ _ zu zm _ IVu.out IVm.out (SZu.out.mono (by omega)) (SZm.out.mono (by omega)) (by have := HM.out; omega)).mono ?_
  rintro e y3 ⟨_, _, rfl, hq0, hq1, hb⟩
  obtain ⟨Xq, pq, qq, rfl, _, _, _⟩ := hq0.form
  have Qq := Lib.hid hq0; clear hq0
  obtain ⟨Xe, pe, qe, rfl, _, _, _⟩ := hq1.form
  have Qe := Lib.hid hq1; clear hq1
  have B := Lib.hid hb; clear hb
  generalize hs : decide ((zu / zm : Int) < 0) = sq at *
  clear hs
  generalize hs : decide ((zu % zm : Int) < 0) = se at *
  clear hs
  go_upto_region 2 with fail
  obtain ⟨W4, hW⟩ : ∃ W4, W4 = ((y3.alloc (Obj.cells #[Value.bool sq, Value.slice Xq pq qq] 27)).alloc (Obj.cells #[Value.bool se, Value.slice Xe pe qe] 27)) := ⟨_, rfl⟩
  rw [← hW]
  have BXq : Hid (Box W4 (y3.heap.size) sq (.slice Xq pq qq)) := by rw [hW]; have := (Box.new y3 sq (.slice Xq pq qq)).alloc (Obj.cells #[Value.bool se, Value.slice Xe pe qe] 27); simpa [Hid] using this
  have IVq : Hid (Iv W4 (.agg #[.bool sq, .slice Xq pq qq]) (zu / zm)) := by rw [hW]; exact ((Qq.out).alloc _).alloc _
  have BXe : Hid (Box W4 (y3.heap.size + 1) se (.slice Xe pe qe)) := by rw [hW]; have := Box.new (y3.alloc (Obj.cells #[Value.bool sq, Value.slice Xq pq qq] 27)) se (.slice Xe pe qe); simpa [Hid] using this
  have IVe : Hid (Iv W4 (.agg #[.bool se, .slice Xe pe qe]) (zu % zm)) := by rw [hW]; exact ((Qe.out).alloc _).alloc _
  have hd : Below W.heap.size W W4 := by rw [hW]; exact ((B.out).alloc (by have := B.out.size; simp <;> omega) _).alloc (by have := B.out.size; simp <;> omega) _
  have NEer : Hid ((y3.heap.size + 1) ≠ (g + 1 + 1 + 1)) := by have := RXr.out.lt; have := B.out.size; unfold Hid; omega
  have NEqr : Hid ((y3.heap.size) ≠ (g + 1 + 1 + 1)) := by have := RXr.out.lt; have := B.out.size; unfold Hid; omega
  have GBq : Hid (g ≤ y3.heap.size) := by have := DW.out.size; have := hg.out; have := B.out.size; unfold Hid; omega
  have LTrq : Hid ((g + 1 + 1 + 1) < y3.heap.size) := by have := RXr.out.lt; have := B.out.size; unfold Hid; omega
  have LTuq : Hid (g < y3.heap.size) := by have := BXu.out.lt; have := B.out.size; unfold Hid; omega
  have LTmq : Hid ((g + 1) < y3.heap.size) := by have := BXm.out.lt; have := B.out.size; unfold Hid; omega
  have LTbq : Hid ((g + 1 + 1) < y3.heap.size) := by have := BXb.out.lt; have := B.out.size; unfold Hid; omega
  have GBe : Hid (g ≤ y3.heap.size + 1) := by have := DW.out.size; have := hg.out; have := B.out.size; unfold Hid; omega
  have LTre : Hid ((g + 1 + 1 + 1) < y3.heap.size + 1) := by have := RXr.out.lt; have := B.out.size; unfold Hid; omega
  have LTqe : Hid (y3.heap.size < y3.heap.size + 1) := by unfold Hid; omega
  have LTue : Hid (g < y3.heap.size + 1) := by have := BXu.out.lt; have := B.out.size; unfold Hid; omega
  have LTme : Hid ((g + 1) < y3.heap.size + 1) := by have := BXm.out.lt; have := B.out.size; unfold Hid; omega
  have LTbe : Hid ((g + 1 + 1) < y3.heap.size + 1) := by have := BXb.out.lt; have := B.out.size; unfold Hid; omega
  clear hW B Qq Qe
  generalize hgn4 : y3.heap.size + 1 = ge at *
  clear hgn4
  generalize hgn4 : y3.heap.size = gq at *
  clear hgn4
  replace BXu := nxb BXu hd rfl; replace IVu := nxv IVu hd rfl
  replace BXm := nxb BXm hd rfl; replace IVm := nxv IVm hd rfl
  replace BXb := nxb BXb hd rfl; replace IVb := nxv IVb hd rfl
  replace RXr := Lib.hid (RXr.out.next hd rfl)
  replace DW := nxd DW hg hd rfl rfl rfl rfl
  clear hd
  refine Rg.region_gg W4 [.is (.agg #[.bool sm, .slice Xm pm qm]), .sat (pIv (c0)) (pIv_keep _), .sat (pQv (zm) (c0)) (pQv_keep _ _), .is (.agg #[.bool se, .slice Xe pe qe]), .sat (pIv (c1)) (pIv_keep _), .sat (pQv (zu % zm) (c1)) (pQv_keep _ _), .own pNewQ pNewQ_keep, .own pNewQ pNewQ_keep, .put 6 (pPutQ (zm) (c0)) (pPutQ_keep _ _), .put 7 (pPutQ (zu % zm) (c1)) (pPutQ_keep _ _)] [] [some 20, some 21, some 22, some 23, some 24, some 25, some 10, some 11, none, none] (by kernel_rfl) (by kernel_rfl) (by kernel_rfl) (by kernel_rfl) (by kernel_rfl) (by simp [Rg.stos]) (by rfl) (by rfl) (by kernel_rfl) (by simp) ((Below.refl _ _).drew) (fun Q' => ?_) (fun K hK wn hs => ?_)
  · refine ⟨?_, ?_, ?_, ?_, ?_, ?_, ?_, ?_, ?_, ?_, trivial⟩
    · intro a' w' ha hs hw hold
      have eo4 : a'.tmps[4]? = some (ptr (g + 1)) := (ha.rest 4 (by kernel_rfl)).trans rfl
      exact ⟨rfl, .inl ⟨wanted_none rfl, wp_val (run_pload rfl (ev_tmp eo4) (BXm.out.bel hs (by simp))) ⟨rfl, Below.refl _ _⟩⟩⟩
    · intro a' w' ha hs hw hold
      exact ⟨rfl, wanted_none rfl, call_step rfl Try.func103 (by kernel_rfl) rfl (map_one rfl) (of_z 0 c0 _ (by omega) (by omega) hc0.out) (fun e w2 he => by obtain ⟨v, rfl, hv, hb⟩ := he; exact ⟨v, rfl, v, rfl, hv, hb⟩)⟩
    · intro a' w' ha hs hw hold
      have e0 : a'.tmps[20]? = some (.agg #[.bool sm, .slice Xm pm qm]) := Rg.slot_get rfl rfl (hw 0 (by kernel_rfl) _ rfl)
      obtain ⟨v1, e1, q1⟩ := hw 1 (by kernel_rfl) _ rfl
      replace e1 : a'.tmps[21]? = some v1 := Rg.slot_get rfl rfl e1
      exact ⟨rfl, wanted_none rfl, step_build rfl (ev_tmp e0) (ev_tmp e1) (IVm.out.kn hs.kn) q1⟩
    · intro a' w' ha hs hw hold
      have eo8 : a'.tmps[8]? = some (ptr ge) := (ha.rest 8 (by kernel_rfl)).trans rfl
      exact ⟨rfl, .inl ⟨wanted_none rfl, wp_val (run_pload rfl (ev_tmp eo8) (BXe.out.bel hs (by simp))) ⟨rfl, Below.refl _ _⟩⟩⟩
    · intro a' w' ha hs hw hold
      exact ⟨rfl, wanted_none rfl, call_step rfl Try.func103 (by kernel_rfl) rfl (map_one rfl) (of_z 1 c1 _ (by omega) (by omega) hc1.out) (fun e w2 he => by obtain ⟨v, rfl, hv, hb⟩ := he; exact ⟨v, rfl, v, rfl, hv, hb⟩)⟩
    · intro a' w' ha hs hw hold
      have e3 : a'.tmps[23]? = some (.agg #[.bool se, .slice Xe pe qe]) := Rg.slot_get rfl rfl (hw 3 (by kernel_rfl) _ rfl)
      obtain ⟨v4, e4, q4⟩ := hw 4 (by kernel_rfl) _ rfl
      replace e4 : a'.tmps[24]? = some v4 := Rg.slot_get rfl rfl e4
      exact ⟨rfl, wanted_none rfl, step_build rfl (ev_tmp e3) (ev_tmp e4) (IVe.out.kn hs.kn) q4⟩
    · intro a' w' ha hs hw hold
      exact ⟨rfl, wanted_none rfl, step_newq rfl⟩
    · intro a' w' ha hs hw hold
      exact ⟨rfl, wanted_none rfl, step_newq rfl⟩
    · intro a' w' ha hs hw hold
      obtain ⟨v2, e2, q2⟩ := hw 2 (by kernel_rfl) _ rfl
      replace e2 : a'.tmps[22]? = some v2 := Rg.slot_get rfl rfl e2
      refine ⟨rfl, wanted_none rfl, by kernel_rfl, fun pv pg pp ph pe1 pe2 pe3 pe4 => ?_⟩
      cases pe1
      exact step_putq rfl rfl (ev_tmp (Rg.slot_get rfl rfl pe2)) (ev_tmp e2) pe3 pe4 q2
    · intro a' w' ha hs hw hold
      obtain ⟨v5, e5, q5⟩ := hw 5 (by kernel_rfl) _ rfl
      replace e5 : a'.tmps[25]? = some v5 := Rg.slot_get rfl rfl e5
      refine ⟨rfl, wanted_none rfl, by kernel_rfl, fun pv pg pp ph pe1 pe2 pe3 pe4 => ?_⟩
      cases pe1
      exact step_putq rfl rfl (ev_tmp (Rg.slot_get rfl rfl pe2)) (ev_tmp e5) pe3 pe4 q5
  simp only [Rg.allG]
  intro r5x1 _
  intro r5x2 _
  intro r5x4 _
  intro r5x5 _
  intro a5x6 gb5x6 hE5x6 hB5x6 _ hN5x6 _
  intro a5x7 gb5x7 hE5x7 hB5x7 _ hN5x7 _
  intro v5 he hp
  simp only [List.nil_append, List.cons_append, List.getElem?_cons_succ, List.getElem?_cons_zero, Option.some.injEq] at he
  subst he
  obtain ⟨gc, rfl, Xcn, pcn, qcn, Xcd, pcd, qcd, QXc, IVnc, IVdc⟩ := hp
  intro v5 he hp
  simp only [List.nil_append, List.cons_append, List.getElem?_cons_succ, List.getElem?_cons_zero, Option.some.injEq] at he
  subst he
  obtain ⟨gl, rfl, Xln, pln, qln, Xld, pld, qld, QXl, IVnl, IVdl⟩ := hp
  simp only [setOpt, Rg.setOpt, List.set_cons_succ, List.set_cons_zero, ptr]
  refine hK _ _ ?_
  clear hK K
  replace hs := hs.below
  have hgb : gc = gb5x6 := Option.some.inj hE5x6
  have NEcr : Hid (gc ≠ (g + 1 + 1 + 1)) := by have h1 := RXr.out.lt; unfold Hid; omega
  have GBc : Hid (g ≤ gc) := by have := DW.out.size; have := hg.out; unfold Hid; omega
  have LTrc : Hid ((g + 1 + 1 + 1) < gc) := by have := RXr.out.lt; unfold Hid; omega
  have LTuc : Hid (g < gc) := by have := BXu.out.lt; unfold Hid; omega
  have LTmc : Hid ((g + 1) < gc) := by have := BXm.out.lt; unfold Hid; omega
  have LTbc : Hid ((g + 1 + 1) < gc) := by have := BXb.out.lt; unfold Hid; omega
  have LTqc : Hid (gq < gc) := by have := BXq.out.lt; unfold Hid; omega
  have LTec : Hid (ge < gc) := by have := BXe.out.lt; unfold Hid; omega
  clear hgb
  have hgb : gl = gb5x7 := Option.some.inj hE5x7
  have NElr : Hid (gl ≠ (g + 1 + 1 + 1)) := by have h1 := RXr.out.lt; unfold Hid; omega
  have GBl : Hid (g ≤ gl) := by have := DW.out.size; have := hg.out; unfold Hid; omega
  have LTrl : Hid ((g + 1 + 1 + 1) < gl) := by have := RXr.out.lt; unfold Hid; omega
  have LTul : Hid (g < gl) := by have := BXu.out.lt; unfold Hid; omega
  have LTml : Hid ((g + 1) < gl) := by have := BXm.out.lt; unfold Hid; omega
  have LTbl : Hid ((g + 1 + 1) < gl) := by have := BXb.out.lt; unfold Hid; omega
  have LTql : Hid (gq < gl) := by have := BXq.out.lt; unfold Hid; omega
  have LTel : Hid (ge < gl) := by have := BXe.out.lt; unfold Hid; omega
  have NQcl : Hid (gc ≠ gl) := by have h3 := hN5x7 6 _ (by rfl) (by kernel_rfl); unfold Hid; rintro rfl; exact h3 (congrArg some hgb)
  clear hgb
  clear hE5x6 hB5x6 hN5x6 hE5x7 hB5x7 hN5x7
  replace BXu := nxb BXu hs rfl; replace IVu := nxv IVu hs rfl
  replace BXm := nxb BXm hs rfl; replace IVm := nxv IVm hs rfl
  replace BXb := nxb BXb hs rfl; replace IVb := nxv IVb hs rfl
  replace BXq := nxb BXq hs rfl; replace IVq := nxv IVq hs rfl
  replace BXe := nxb BXe hs rfl; replace IVe := nxv IVe hs rfl
  replace RXr := Lib.hid (RXr.out.next hs rfl)
  replace DW := nxd DW hg hs rfl rfl rfl rfl
  generalize hsg : decide ((zm : Int) < 0) = scn at *
  clear hsg
  generalize hsg : decide ((c0 : Int) < 0) = scd at *
  clear hsg
  replace QXc := Lib.hid QXc; replace IVnc := Lib.hid IVnc; replace IVdc := Lib.hid IVdc
  generalize hsg : decide ((zu % zm : Int) < 0) = sln at *
  clear hsg
  generalize hsg : decide ((c1 : Int) < 0) = sld at *
  clear hsg
  replace QXl := Lib.hid QXl; replace IVnl := Lib.hid IVnl; replace IVdl := Lib.hid IVdl
  clear hs
  have NCL : Hid (gc ≠ gl) := NQcl.out
  have BC : Hid (g + 4 ≤ gc) := by have := LTrc.out; unfold Hid; omega
  have BLL : Hid (g + 4 ≤ gl) := by have := LTrl.out; unfold Hid; omega
  go_wp2_with fail
  go_loopg [31] (zm.toNat + 1) (fun k _ wr => ∃ r0 t0 r1 t1 : Int, r1.toNat < k ∧ fsh k zb r0 t0 r1 t1 = (R, T) ∧ Reb.Rws zm zu r0 r1 t0 t1 ∧ QC wr gc r0 t0 ∧ QC wr gl r1 t1 ∧ Box wr (g + 1 + 1) sb (.slice Xb pb qb) ∧ Iv wr (.agg #[.bool sb, .slice Xb pb qb]) zb ∧ QBox wr (g + 1 + 1 + 1) false (.slice none 0 0) false (.slice none 0 0) ∧ Below g w wr)
  case atStart => exact ⟨_, _, _, _, FL.out, HR.out, FR.out, qc_of QXc.out IVnc.out IVdc.out, qc_of QXl.out IVnl.out IVdl.out, BXb.out, IVb.out, RXr.out, DW.out⟩
  case round =>
    clear QXc IVnc IVdc QXl IVnl IVdl BXb IVb RXr DW BXu IVu BXm IVm BXq IVq BXe IVe
    obtain ⟨r0, t0, r1, t1, hk, hf, hw, hqc, hql, hbb, hib, hrr, hbl⟩ := hrel
    have HK := Lib.hid hk; have HF := Lib.hid hf; have HWS := Lib.hid hw; have HC := Lib.hid hqc
    obtain ⟨Xln, pln, qln, Xld, pld, qld, QXl, IVnl, IVdl⟩ := hql
    generalize hs : decide (r1 < 0) = sln at *
    clear hs
    generalize hs : decide (t1 < 0) = sld at *
    clear hs
    replace QXl := Lib.hid QXl; replace IVnl := Lib.hid IVnl; replace IVdl := Lib.hid IVdl
    have BXb := Lib.hid hbb; have IVb := Lib.hid hib; have RXr := Lib.hid hrr; have DW := Lib.hid hbl
    clear hk hf hw hqc hbb hib hrr hbl
    have SR1 : Hid (Sz r1 500) := ⟨by have := SZm.out.lt; have h1 := HWS.out.pos; have h2 := HWS.out.lt; obtain ⟨s1, a0, a1, hs, g0, g1, _, _, hd⟩ := HWS.out.rows; have p0 := Reb.mul_ge (show 1 ≤ a1 by omega) (show 0 ≤ r0 by omega); have p1 : 0 ≤ r1 * a0 := Int.mul_nonneg (by omega) g0; rw [Int.mul_comm] at p0; omega⟩
    obtain ⟨o, ho⟩ : ∃ o, cmpZ r1 zb = o := ⟨_, rfl⟩
    have HO : Hid (decide (0 < o) = true ↔ ¬ r1 ≤ zb) := by
      rw [← ho]
      rcases Int.lt_trichotomy r1 zb with h | h | h
      · rw [cmpZ_lt h]; exact ⟨fun k => absurd k (by decide), fun k => by omega⟩
      · rw [cmpZ_eq h]; exact ⟨fun k => absurd k (by decide), fun k => by omega⟩
      · rw [cmpZ_gt h]; exact ⟨fun _ => by omega, fun _ => by decide⟩
    replace ho := Lib.hid ho
    have u201a := QXl.out.cell0; have u201b := QXl.out.cell1; have u201c := QXl.out.cell2; have u201d := QXl.out.cell3
    have u202a := BXb.out.cell0; have u202b := BXb.out.cell1
    go_wp2_with fail
    clear u201a u201b u201c u201d u202a u202b
    refine (cmp_is _ _ r1 zb o _ IVnl.out IVb.out (SR1.out.mono (by omega)) (SZb.out.mono (by omega)) ho.out).mono ?_
    rintro e y203 ⟨rfl, hb⟩
    replace HC : Hid (QC y203 gc r0 t0) := by obtain ⟨A, i, c, A', i', c', k1, k2, k3⟩ := HC.out; exact ⟨A, i, c, A', i', c', k1.next hb rfl, iv_next k2 hb rfl, iv_next k3 hb rfl⟩
    replace BXb := nxb BXb hb rfl; replace IVb := nxv IVb hb rfl
    replace QXl := nxq QXl hb rfl; replace IVnl := nxv IVnl hb rfl; replace IVdl := nxv IVdl hb rfl
    replace RXr := Lib.hid (RXr.out.next hb rfl)
    replace DW := nxd DW hg hb rfl rfl rfl rfl
    clear hb
    by_cases hle : r1 ≤ zb
    · have d0 : decide (0 < o) = false := by rw [Bool.eq_false_iff]; intro h; have := HO.out.1 h; omega
      have u204a := QXl.out.cell0; have u204b := QXl.out.cell1; have u204c := QXl.out.cell2; have u204d := QXl.out.cell3
      have u205a := RXr.out.cell0; have u205b := RXr.out.cell1; have u205c := RXr.out.cell2; have u205d := RXr.out.cell3; have u205f := RXr.out.frozen 0; have u205g := RXr.out.frozen 1; have u205h := RXr.out.frozen 2; have u205i := RXr.out.frozen 3
      have e0 : (r1, t1) = (R, T) := by
        have h := HF.out
        have hk := HK.out
        obtain ⟨k, rfl⟩ : ∃ k, gk = k + 1 := ⟨gk - 1, by omega⟩
        unfold fsh at h
        rwa [if_pos hle] at h
      have e1 := Lib.hid (Prod.mk.inj e0)
      clear e0
      go_wp2
      refine bodyPost_ret (v := .agg #[.bool sln, .slice Xln pln qln, .bool sld, .slice Xld pld qld]) (by simp [results, Try.results124, go_sem, u204a, u204b, u204c, u204d, u205a, u205b, u205c, u205d, u205f, u205g, u205h, u205i]) rfl ⟨_, rfl, ?_, by rw [hg.out]; exact (((DW.out.setCell (by simp <;> omega) _).setCell (by simp <;> omega) _).setCell (by simp <;> omega) _).setCell (by simp <;> omega) _⟩
      have hc := chg_qbox (b' := sln) (d' := sld) (A' := Xln) (n' := pln) (c' := qln) (B' := Xld) (m' := pld) (e' := qld) RXr.out
      rw [← e1.out.1, ← e1.out.2]
      exact qv_of (IVnl.out.kn hc.kn) (IVdl.out.kn hc.kn)
    · have d0 : decide (0 < o) = true := HO.out.2 (by omega)
      have hpos : 0 < r1 := by have := HM.out; omega
      have SS := rws_sz HWS.out hpos SZm.out
      have HLE := Lib.hid hle
      have hstep := step_any (g + 4) gc gl r0 t0 r1 t1 y203 HC.out (qc_of QXl.out IVnl.out IVdl.out) NCL.out BC.out BLL.out (by have := QXl.out.lt; have := BLL.out; omega) (by omega) (SS.1.mono (by omega)) (SS.2.1.mono (by omega)) (SS.2.2.1.mono (by omega)) (SS.2.2.2.mono (by omega))
      go_wp2_with fail
      refine hstep.mono ?_
      rintro e w9 ⟨rfl, h1, h2, hb9⟩
      have H1 := Lib.hid h1; have H2 := Lib.hid h2
      replace BXb := Lib.hid (BXb.out.below hb9 (by omega))
      replace RXr := Lib.hid (RXr.out.below hb9 (by omega))
      have DN : Hid (Below g w w9) := DW.out.trans (hb9.mono (by omega))
      replace IVb : Hid (Iv w9 (.agg #[.bool sb, .slice Xb pb qb]) zb) := by have h := DN.out; rw [← hg.out] at h; exact iv_next Hb.out h rfl
      clear h1 h2 hb9 hstep SS
      go_wp2
      go_roundg (gk - 1)
      case measure => have := HK.out; omega
      case rel =>
        have hf := HF.out
        have hk := HK.out
        obtain ⟨k, rfl⟩ : ∃ k, gk = k + 1 := ⟨gk - 1, by omega⟩
        unfold fsh at hf
        rw [if_neg (show ¬ r1 ≤ zb by have := HLE.out; omega)] at hf
        have e1 := Int.emod_lt_of_pos r0 hpos
        have e2 := Int.emod_nonneg r0 (show r1 ≠ 0 by omega)
        exact ⟨r1, t1, r0 % r1, t0 - r0 / r1 * t1, by simp; omega, by simpa using hf, HWS.out.next hpos, H1.out, H2.out, BXb.out, IVb.out, RXr.out, DN.out⟩
end Go.Proofs.Ytfigimfdojbkeaa.Row
