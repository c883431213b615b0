/-
  The program's functions on fractions.
-/
import Derived.Test.YtfigimfdojbkeaaRatC
import Derived.Deep.DeepCutAuto
import Derived.Handy
set_option linter.unusedSimpArgs false
set_option linter.unusedVariables false
namespace Go.Proofs.Ytfigimfdojbkeaa
open Go.RowKit
attribute [local go_sem ↓] Go.wp_at_zero Go.wp_at_succ

set_option maxHeartbeats 8000000 in
set_option maxRecDepth 100000 in
theorem qneg_at (va : Value) (zan zad : Int) (w : World) (ha : Qv w va zan zad) (san : Sz zan 100000) (sad : Sz zad 100000) (pa : 0 < zad) : Calls Try.prog 196 #[va] w (RetQ (-zan) zad w) := by
  have Pa := Lib.hid pa
  have PSa : Hid (zad = sgn false zad.natAbs) := by unfold Hid sgn; simp; omega
  clear pa
  obtain ⟨Xan, pan, qan, Xad, pad, qad, rfl, han, had⟩ := ha
  have Han := Lib.hid han
  have Had := Lib.hid had
  have SZan := Lib.hid san
  have SZad := Lib.hid sad
  clear han had san sad
  generalize hs : decide (zan < 0) = san at *
  clear hs
  generalize hs : decide (zad < 0) = sad at *
  clear hs

  go_enter Try.func196, Try.ntmps196
  go_wp2_with fail
  obtain ⟨W, hW⟩ : ∃ W, W = ((w.alloc (Obj.cells #[Value.bool san, Value.slice Xan pan qan, Value.bool sad, Value.slice Xad pad qad] 60)).alloc (Obj.cells #[Value.bool false, Value.slice none 0 0, Value.bool false, Value.slice none 0 0] 60)) := ⟨_, rfl⟩
  rw [← hW]
  have QXa : Hid (QBox W (w.heap.size) san (.slice Xan pan qan) sad (.slice Xad pad qad)) := by rw [hW]; have := (QBox.new w san (Value.slice Xan pan qan) sad (Value.slice Xad pad qad)).alloc (Obj.cells #[Value.bool false, Value.slice none 0 0, Value.bool false, Value.slice none 0 0] 60); simpa [Hid] using this
  have RXr : Hid (QBox W (w.heap.size + 1) false (.slice none 0 0) false (.slice none 0 0)) := by rw [hW]; have := QBox.new (w.alloc (Obj.cells #[Value.bool san, Value.slice Xan pan qan, Value.bool sad, Value.slice Xad pad qad] 60)) false (Value.slice none 0 0) false (Value.slice none 0 0); simpa [Hid] using this
  have IVna : Hid (Iv W (.agg #[.bool san, .slice Xan pan qan]) (zan)) := by rw [hW]; exact ((Han.out).alloc _).alloc _
  have IVda : Hid (Iv W (.agg #[.bool sad, .slice Xad pad qad]) (zad)) := by rw [hW]; exact ((Had.out).alloc _).alloc _
  have DW : Hid (Below w.heap.size w W) := by rw [hW]; exact ((Below.refl _ _).alloc (by simp <;> omega) _).alloc (by simp <;> omega) _
  clear hW
  generalize hg : w.heap.size = g at *
  replace hg := Lib.hid hg
  go_upto_region 1 with fail
  refine Rg.region_gg W [.is (.pointer (some ⟨g, 0, none⟩)), .is (.agg #[.bool san, .slice Xan pan qan]), .sat (pIv (-zan)) (pIv_keep _), .is (.pointer (some ⟨g, 2, none⟩)), .is (.agg #[.bool sad, .slice Xad pad qad]), .sat (pIv (zad)) (pIv_keep _), .sat (pQv (-zan) (zad)) (pQv_keep _ _), .sto (g + 1) (sQ (g + 1) (-zan) (zad)) (sQ_keep _ _ _)] [(g + 1)] [some 3, some 4, some 5, some 6, some 7, some 8, some 9, none] (by kernel_rfl) (by kernel_rfl) (by kernel_rfl) (by kernel_rfl) (by kernel_rfl) (by simp [Rg.stos]) (by rfl) (by rfl) (by kernel_rfl) (by intro g hg; simp only [List.mem_cons, List.not_mem_nil, or_false] at hg; subst hg; exact RXr.out.lt) ((Below.refl _ _).drew) (fun Q' => ?_) (fun K hK wn hs => ?_)
  · refine ⟨?_, ?_, ?_, ?_, ?_, ?_, ?_, ?_, trivial⟩
    · intro a' w' ha hs hw hold
      have eo1 : a'.tmps[1]? = some (ptr g) := (ha.rest 1 (by kernel_rfl)).trans rfl
      exact ⟨rfl, .inl ⟨wanted_none rfl, wp_val (run_qfield0 rfl (ev_tmp eo1)) ⟨rfl, Below.refl _ _⟩⟩⟩
    · intro a' w' ha hs hw hold
      have e0 : a'.tmps[3]? = some (.pointer (some ⟨g, 0, none⟩)) := Rg.slot_get rfl rfl (hw 0 (by kernel_rfl) _ rfl)
      exact ⟨rfl, .inl ⟨wanted_none rfl, wp_val (run_qload0 rfl (ev_tmp e0) (QXa.out.bel hs (by simp only [List.mem_cons, List.not_mem_nil, or_false, not_or]; exact (by omega)))) ⟨rfl, Below.refl _ _⟩⟩⟩
    · intro a' w' ha hs hw hold
      have e1 : a'.tmps[4]? = some (.agg #[.bool san, .slice Xan pan qan]) := Rg.slot_get rfl rfl (hw 1 (by kernel_rfl) _ rfl)
      exact ⟨rfl, wanted_none rfl, call_step rfl Try.func42 (by kernel_rfl) rfl (map_one (ev_tmp e1)) (neg_any _ zan _ (IVna.out.kn hs.kn) (SZan.out.mono (by omega))) (fun e w2 he => by obtain ⟨v, rfl, hv, hb⟩ := he; exact ⟨v, rfl, v, rfl, hv, hb⟩)⟩
    · intro a' w' ha hs hw hold
      have eo1 : a'.tmps[1]? = some (ptr g) := (ha.rest 1 (by kernel_rfl)).trans rfl
      exact ⟨rfl, .inl ⟨wanted_none rfl, wp_val (run_qfield1 rfl (ev_tmp eo1)) ⟨rfl, Below.refl _ _⟩⟩⟩
    · intro a' w' ha hs hw hold
      have e3 : a'.tmps[6]? = some (.pointer (some ⟨g, 2, none⟩)) := Rg.slot_get rfl rfl (hw 3 (by kernel_rfl) _ rfl)
      exact ⟨rfl, .inl ⟨wanted_none rfl, wp_val (run_qload1 rfl (ev_tmp e3) (QXa.out.bel hs (by simp only [List.mem_cons, List.not_mem_nil, or_false, not_or]; exact (by omega)))) ⟨rfl, Below.refl _ _⟩⟩⟩
    · intro a' w' ha hs hw hold
      have e4 : a'.tmps[7]? = some (.agg #[.bool sad, .slice Xad pad qad]) := Rg.slot_get rfl rfl (hw 4 (by kernel_rfl) _ rfl)
      exact ⟨rfl, wanted_none rfl, call_step rfl Try.func204 (by kernel_rfl) rfl (map_two rfl (ev_tmp e4)) (withSign_any false _ zad zad _ (IVda.out.kn hs.kn) (SZad.out.mono (by omega)) PSa.out (fun h => by cases h)) (fun e w2 he => by obtain ⟨v, rfl, hv, hb⟩ := he; exact ⟨v, rfl, v, rfl, hv, hb⟩)⟩
    · intro a' w' ha hs hw hold
      obtain ⟨v2, e2, q2⟩ := hw 2 (by kernel_rfl) _ rfl
      replace e2 : a'.tmps[5]? = some v2 := Rg.slot_get rfl rfl e2
      obtain ⟨v5, e5, q5⟩ := hw 5 (by kernel_rfl) _ rfl
      replace e5 : a'.tmps[8]? = some v5 := Rg.slot_get rfl rfl e5
      exact ⟨rfl, wanted_none rfl, step_build rfl (ev_tmp e2) (ev_tmp e5) q2 q5⟩
    · intro a' w' ha hs hw hold
      obtain ⟨v6, e6, q6⟩ := hw 6 (by kernel_rfl) _ rfl
      replace e6 : a'.tmps[9]? = some v6 := Rg.slot_get rfl rfl e6
      have eo2 : a'.tmps[2]? = some (ptr (g + 1)) := (ha.rest 2 (by kernel_rfl)).trans rfl
      exact ⟨rfl, wanted_none rfl, fun he => step_stoq rfl rfl (ev_tmp eo2) (ev_tmp e6) q6 RXr.out he⟩
  simp only [Rg.allG]
  intro r1x2 _
  intro r1x5 _
  intro r1x6 _
  intro hSr
  simp only [setOpt, Rg.setOpt, List.set_cons_succ, List.set_cons_zero]
  refine hK _ _ ?_
  clear hK K
  have DN : Hid (Below g w wn) := hs.base DW.out (by have := hg.out; omega) (by simp only [List.mem_cons, List.not_mem_nil, or_false]; omega)
  obtain ⟨Ar, ir, cr, Br, jr, dr, hcr, hir, hjr⟩ := hSr
  have kra := hcr.cell0; have krb := hcr.cell1; have krc := hcr.cell2; have krd := hcr.cell3
  have HIr := Lib.hid hir; clear hir
  have HJr := Lib.hid hjr; clear hjr
  go_wp2
  exact bodyPost_ret (v := .agg #[.bool (decide (-zan < 0)), .slice Ar ir cr, .bool (decide (zad < 0)), .slice Br jr dr]) (by simp [results, Try.results196, go_sem, kra, krb, krc, krd]) rfl ⟨_, rfl, ⟨Ar, ir, cr, Br, jr, dr, rfl, HIr.out, HJr.out⟩, by rw [hg.out]; exact DN.out⟩

set_option maxHeartbeats 8000000 in
set_option maxRecDepth 100000 in
theorem qmul_at (va vb : Value) (zan zad zbn zbd : Int) (w : World) (ha : Qv w va zan zad) (san : Sz zan 100000) (sad : Sz zad 100000) (pa : 0 < zad) (hb : Qv w vb zbn zbd) (sbn : Sz zbn 100000) (sbd : Sz zbd 100000) (pb : 0 < zbd) : Calls Try.prog 183 #[va, vb] w (RetQ (zan / (Nat.gcd zan.natAbs zbd.natAbs : Nat) * (zbn / (Nat.gcd zbn.natAbs zad.natAbs : Nat))) (zad / (Nat.gcd zbn.natAbs zad.natAbs : Nat) * (zbd / (Nat.gcd zan.natAbs zbd.natAbs : Nat))) w) := by
  have Pa := Lib.hid pa
  have PSa : Hid (zad = sgn false zad.natAbs) := by unfold Hid sgn; simp; omega
  clear pa
  have Pb := Lib.hid pb
  have PSb : Hid (zbd = sgn false zbd.natAbs) := by unfold Hid sgn; simp; omega
  clear pb
  obtain ⟨Xan, pan, qan, Xad, pad, qad, rfl, han, had⟩ := ha
  have Han := Lib.hid han
  have Had := Lib.hid had
  have SZan := Lib.hid san
  have SZad := Lib.hid sad
  clear han had san sad
  generalize hs : decide (zan < 0) = san at *
  clear hs
  generalize hs : decide (zad < 0) = sad at *
  clear hs
  obtain ⟨Xbn, pbn, qbn, Xbd, pbd, qbd, rfl, hbn, hbd⟩ := hb
  have Hbn := Lib.hid hbn
  have Hbd := Lib.hid hbd
  have SZbn := Lib.hid sbn
  have SZbd := Lib.hid sbd
  clear hbn hbd sbn sbd
  generalize hs : decide (zbn < 0) = sbn at *
  clear hs
  generalize hs : decide (zbd < 0) = sbd at *
  clear hs

  obtain ⟨G, hG⟩ : ∃ G : Int, ((Nat.gcd (zan).natAbs (zbd).natAbs : Nat) : Int) = G := ⟨_, rfl⟩
  rw [hG]
  have SG : Hid (Sz G 100000) := by
    refine ⟨?_⟩
    rw [← hG, Int.natAbs_natCast]
    exact Nat.lt_of_le_of_lt (Nat.gcd_le_right _ (by have := Pb.out; omega)) SZbd.out.lt
  have NG : Hid (0 < G) := by
    have := Nat.gcd_pos_of_pos_right (zan).natAbs (show 0 < (zbd).natAbs by have := Pb.out; omega)
    unfold Hid; omega
  replace hG := Lib.hid hG
  obtain ⟨H, hH⟩ : ∃ H : Int, ((Nat.gcd (zbn).natAbs (zad).natAbs : Nat) : Int) = H := ⟨_, rfl⟩
  rw [hH]
  have SH : Hid (Sz H 100000) := by
    refine ⟨?_⟩
    rw [← hH, Int.natAbs_natCast]
    exact Nat.lt_of_le_of_lt (Nat.gcd_le_right _ (by have := Pa.out; omega)) SZad.out.lt
  have NH : Hid (0 < H) := by
    have := Nat.gcd_pos_of_pos_right (zbn).natAbs (show 0 < (zad).natAbs by have := Pa.out; omega)
    unfold Hid; omega
  replace hH := Lib.hid hH
  obtain ⟨kn, en⟩ : ∃ k, zan / G = k := ⟨_, rfl⟩
  rw [en]
  have SKn : Hid (Sz kn 100000) := by rw [← en]; exact SZan.out.ediv (by have := NG.out; omega)
  replace en := Lib.hid en
  obtain ⟨ky, ey⟩ : ∃ k, zbd / G = k := ⟨_, rfl⟩
  rw [ey]
  have SKy : Hid (Sz ky 100000) := by rw [← ey]; exact SZbd.out.ediv (by have := NG.out; omega)
  replace ey := Lib.hid ey
  obtain ⟨km, em⟩ : ∃ k, zbn / H = k := ⟨_, rfl⟩
  rw [em]
  have SKm : Hid (Sz km 100000) := by rw [← em]; exact SZbn.out.ediv (by have := NH.out; omega)
  replace em := Lib.hid em
  obtain ⟨kx, ex⟩ : ∃ k, zad / H = k := ⟨_, rfl⟩
  rw [ex]
  have SKx : Hid (Sz kx 100000) := by rw [← ex]; exact SZad.out.ediv (by have := NH.out; omega)
  replace ex := Lib.hid ex
  go_enter Try.func183, Try.ntmps183
  go_wp2_with fail
  obtain ⟨W, hW⟩ : ∃ W, W = (((w.alloc (Obj.cells #[Value.bool san, Value.slice Xan pan qan, Value.bool sad, Value.slice Xad pad qad] 60)).alloc (Obj.cells #[Value.bool sbn, Value.slice Xbn pbn qbn, Value.bool sbd, Value.slice Xbd pbd qbd] 60)).alloc (Obj.cells #[Value.bool false, Value.slice none 0 0, Value.bool false, Value.slice none 0 0] 60)) := ⟨_, rfl⟩
  rw [← hW]
  have QXa : Hid (QBox W (w.heap.size) san (.slice Xan pan qan) sad (.slice Xad pad qad)) := by rw [hW]; have := ((QBox.new w san (Value.slice Xan pan qan) sad (Value.slice Xad pad qad)).alloc (Obj.cells #[Value.bool sbn, Value.slice Xbn pbn qbn, Value.bool sbd, Value.slice Xbd pbd qbd] 60)).alloc (Obj.cells #[Value.bool false, Value.slice none 0 0, Value.bool false, Value.slice none 0 0] 60); simpa [Hid] using this
  have QXb : Hid (QBox W (w.heap.size + 1) sbn (.slice Xbn pbn qbn) sbd (.slice Xbd pbd qbd)) := by rw [hW]; have := (QBox.new (w.alloc (Obj.cells #[Value.bool san, Value.slice Xan pan qan, Value.bool sad, Value.slice Xad pad qad] 60)) sbn (Value.slice Xbn pbn qbn) sbd (Value.slice Xbd pbd qbd)).alloc (Obj.cells #[Value.bool false, Value.slice none 0 0, Value.bool false, Value.slice none 0 0] 60); simpa [Hid] using this
  have RXr : Hid (QBox W (w.heap.size + 1 + 1) false (.slice none 0 0) false (.slice none 0 0)) := by rw [hW]; have := QBox.new ((w.alloc (Obj.cells #[Value.bool san, Value.slice Xan pan qan, Value.bool sad, Value.slice Xad pad qad] 60)).alloc (Obj.cells #[Value.bool sbn, Value.slice Xbn pbn qbn, Value.bool sbd, Value.slice Xbd pbd qbd] 60)) false (Value.slice none 0 0) false (Value.slice none 0 0); simpa [Hid] using this
  have IVna : Hid (Iv W (.agg #[.bool san, .slice Xan pan qan]) (zan)) := by rw [hW]; exact (((Han.out).alloc _).alloc _).alloc _
  have IVda : Hid (Iv W (.agg #[.bool sad, .slice Xad pad qad]) (zad)) := by rw [hW]; exact (((Had.out).alloc _).alloc _).alloc _
  have IVnb : Hid (Iv W (.agg #[.bool sbn, .slice Xbn pbn qbn]) (zbn)) := by rw [hW]; exact (((Hbn.out).alloc _).alloc _).alloc _
  have IVdb : Hid (Iv W (.agg #[.bool sbd, .slice Xbd pbd qbd]) (zbd)) := by rw [hW]; exact (((Hbd.out).alloc _).alloc _).alloc _
  have DW : Hid (Below w.heap.size w W) := by rw [hW]; exact (((Below.refl _ _).alloc (by simp <;> omega) _).alloc (by simp <;> omega) _).alloc (by simp <;> omega) _
  clear hW
  generalize hg : w.heap.size = g at *
  replace hg := Lib.hid hg
  go_upto_region 1 with fail
  have u1a := QXa.out.cell0; have u1b := QXa.out.cell1; have u1c := QXa.out.cell2; have u1d := QXa.out.cell3
  have u2a := QXb.out.cell0; have u2b := QXb.out.cell1; have u2c := QXb.out.cell2; have u2d := QXb.out.cell3
  go_wp2_with fail
  clear u1a u1b u1c u1d u2a u2b u2c u2d
  refine (lowest_any _ _ zan zbd _ IVna.out IVdb.out (SZan.out.mono (by omega)) (SZbd.out.mono (by omega)) (by have := Pb.out; omega)).mono ?_
  rintro e y3 ⟨_, _, rfl, hq0, hq1, hb⟩
  rw [hG.out] at hq0 hq1
  rw [en.out] at hq0
  rw [ey.out] at hq1
  obtain ⟨Xn, pn, qn, rfl, _, _, _⟩ := hq0.form
  have Qn := Lib.hid hq0; clear hq0
  obtain ⟨Xy, py, qy, rfl, _, _, _⟩ := hq1.form
  have Qy := Lib.hid hq1; clear hq1
  have B := Lib.hid hb; clear hb
  generalize hs : decide ((kn : Int) < 0) = sn at *
  clear hs
  generalize hs : decide ((ky : Int) < 0) = sy at *
  clear hs
  go_upto_region 2 with fail
  obtain ⟨W4, hW⟩ : ∃ W4, W4 = ((y3.alloc (Obj.cells #[Value.bool sn, Value.slice Xn pn qn] 27)).alloc (Obj.cells #[Value.bool sy, Value.slice Xy py qy] 27)) := ⟨_, rfl⟩
  rw [← hW]
  have BXn : Hid (Box W4 (y3.heap.size) sn (.slice Xn pn qn)) := by rw [hW]; have := (Box.new y3 sn (.slice Xn pn qn)).alloc (Obj.cells #[Value.bool sy, Value.slice Xy py qy] 27); simpa [Hid] using this
  have IVn : Hid (Iv W4 (.agg #[.bool sn, .slice Xn pn qn]) (kn)) := by rw [hW]; exact ((Qn.out).alloc _).alloc _
  have BXy : Hid (Box W4 (y3.heap.size + 1) sy (.slice Xy py qy)) := by rw [hW]; have := Box.new (y3.alloc (Obj.cells #[Value.bool sn, Value.slice Xn pn qn] 27)) sy (.slice Xy py qy); simpa [Hid] using this
  have IVy : Hid (Iv W4 (.agg #[.bool sy, .slice Xy py qy]) (ky)) := by rw [hW]; exact ((Qy.out).alloc _).alloc _
  have hd : Below W.heap.size W W4 := by rw [hW]; exact ((B.out).alloc (by have := B.out.size; simp <;> omega) _).alloc (by have := B.out.size; simp <;> omega) _
  have NEyr : Hid ((y3.heap.size + 1) ≠ (g + 1 + 1)) := by have := RXr.out.lt; have := B.out.size; unfold Hid; omega
  have NEnr : Hid ((y3.heap.size) ≠ (g + 1 + 1)) := by have := RXr.out.lt; have := B.out.size; unfold Hid; omega
  clear hW B Qn Qy
  generalize hgn4 : y3.heap.size + 1 = gy at *
  clear hgn4
  generalize hgn4 : y3.heap.size = gn at *
  clear hgn4
  replace QXa := nxq QXa hd rfl; replace IVna := nxv IVna hd rfl; replace IVda := nxv IVda hd rfl
  replace QXb := nxq QXb hd rfl; replace IVnb := nxv IVnb hd rfl; replace IVdb := nxv IVdb hd rfl
  replace RXr := Lib.hid (RXr.out.next hd rfl)
  replace DW := nxd DW hg hd rfl rfl rfl rfl
  clear hd
  have u5a := QXa.out.cell0; have u5b := QXa.out.cell1; have u5c := QXa.out.cell2; have u5d := QXa.out.cell3
  have u6a := QXb.out.cell0; have u6b := QXb.out.cell1; have u6c := QXb.out.cell2; have u6d := QXb.out.cell3
  go_wp2_with fail
  clear u5a u5b u5c u5d u6a u6b u6c u6d
  refine (lowest_any _ _ zbn zad _ IVnb.out IVda.out (SZbn.out.mono (by omega)) (SZad.out.mono (by omega)) (by have := Pa.out; omega)).mono ?_
  rintro e y7 ⟨_, _, rfl, hq0, hq1, hb⟩
  rw [hH.out] at hq0 hq1
  rw [em.out] at hq0
  rw [ex.out] at hq1
  obtain ⟨Xm, pm, qm, rfl, _, _, _⟩ := hq0.form
  have Qm := Lib.hid hq0; clear hq0
  obtain ⟨Xx, px, qx, rfl, _, _, _⟩ := hq1.form
  have Qx := Lib.hid hq1; clear hq1
  have B := Lib.hid hb; clear hb
  generalize hs : decide ((km : Int) < 0) = sm at *
  clear hs
  generalize hs : decide ((kx : Int) < 0) = sx at *
  clear hs
  go_upto_region 3 with fail
  obtain ⟨W8, hW⟩ : ∃ W8, W8 = ((y7.alloc (Obj.cells #[Value.bool sm, Value.slice Xm pm qm] 27)).alloc (Obj.cells #[Value.bool sx, Value.slice Xx px qx] 27)) := ⟨_, rfl⟩
  rw [← hW]
  have BXm : Hid (Box W8 (y7.heap.size) sm (.slice Xm pm qm)) := by rw [hW]; have := (Box.new y7 sm (.slice Xm pm qm)).alloc (Obj.cells #[Value.bool sx, Value.slice Xx px qx] 27); simpa [Hid] using this
  have IVm : Hid (Iv W8 (.agg #[.bool sm, .slice Xm pm qm]) (km)) := by rw [hW]; exact ((Qm.out).alloc _).alloc _
  have BXx : Hid (Box W8 (y7.heap.size + 1) sx (.slice Xx px qx)) := by rw [hW]; have := Box.new (y7.alloc (Obj.cells #[Value.bool sm, Value.slice Xm pm qm] 27)) sx (.slice Xx px qx); simpa [Hid] using this
  have IVx : Hid (Iv W8 (.agg #[.bool sx, .slice Xx px qx]) (kx)) := by rw [hW]; exact ((Qx.out).alloc _).alloc _
  have hd : Below W4.heap.size W4 W8 := by rw [hW]; exact ((B.out).alloc (by have := B.out.size; simp <;> omega) _).alloc (by have := B.out.size; simp <;> omega) _
  have NExr : Hid ((y7.heap.size + 1) ≠ (g + 1 + 1)) := by have := RXr.out.lt; have := B.out.size; unfold Hid; omega
  have NEmr : Hid ((y7.heap.size) ≠ (g + 1 + 1)) := by have := RXr.out.lt; have := B.out.size; unfold Hid; omega
  clear hW B Qm Qx
  generalize hgn8 : y7.heap.size + 1 = gx at *
  clear hgn8
  generalize hgn8 : y7.heap.size = gm at *
  clear hgn8
  replace BXn := nxb BXn hd rfl; replace IVn := nxv IVn hd rfl
  replace BXy := nxb BXy hd rfl; replace IVy := nxv IVy hd rfl
  replace QXa := nxq QXa hd rfl; replace IVna := nxv IVna hd rfl; replace IVda := nxv IVda hd rfl
  replace QXb := nxq QXb hd rfl; replace IVnb := nxv IVnb hd rfl; replace IVdb := nxv IVdb hd rfl
  replace RXr := Lib.hid (RXr.out.next hd rfl)
  replace DW := nxd DW hg hd rfl rfl rfl rfl
  clear hd
  refine Rg.region_gg W8 [.is (.agg #[.bool sn, .slice Xn pn qn]), .is (.agg #[.bool sm, .slice Xm pm qm]), .own (pL1 (km)) (pL1_keep _), .sat (pIv (kn * km)) (pIv_keep _), .is (.agg #[.bool sx, .slice Xx px qx]), .is (.agg #[.bool sy, .slice Xy py qy]), .own (pL1 (ky)) (pL1_keep _), .sat (pIv (kx * ky)) (pIv_keep _), .sat (pQv (kn * km) (kx * ky)) (pQv_keep _ _), .sto (g + 1 + 1) (sQ (g + 1 + 1) (kn * km) (kx * ky)) (sQ_keep _ _ _)] [(g + 1 + 1)] [some 25, some 26, some 27, some 28, some 29, some 30, some 31, some 32, some 33, none] (by kernel_rfl) (by kernel_rfl) (by kernel_rfl) (by kernel_rfl) (by kernel_rfl) (by simp [Rg.stos]) (by rfl) (by rfl) (by kernel_rfl) (by intro g hg; simp only [List.mem_cons, List.not_mem_nil, or_false] at hg; subst hg; exact RXr.out.lt) ((Below.refl _ _).drew) (fun Q' => ?_) (fun K hK wn hs => ?_)
  · refine ⟨?_, ?_, ?_, ?_, ?_, ?_, ?_, ?_, ?_, ?_, trivial⟩
    · intro a' w' ha hs hw hold
      have eo5 : a'.tmps[5]? = some (ptr gn) := (ha.rest 5 (by kernel_rfl)).trans rfl
      exact ⟨rfl, .inl ⟨wanted_none rfl, wp_val (run_pload rfl (ev_tmp eo5) (BXn.out.bel hs (by simp only [List.mem_cons, List.not_mem_nil, or_false, not_or]; exact NEnr.out))) ⟨rfl, Below.refl _ _⟩⟩⟩
    · intro a' w' ha hs hw hold
      have eo7 : a'.tmps[7]? = some (ptr gm) := (ha.rest 7 (by kernel_rfl)).trans rfl
      exact ⟨rfl, .inl ⟨wanted_none rfl, wp_val (run_pload rfl (ev_tmp eo7) (BXm.out.bel hs (by simp only [List.mem_cons, List.not_mem_nil, or_false, not_or]; exact NEmr.out))) ⟨rfl, Below.refl _ _⟩⟩⟩
    · intro a' w' ha hs hw hold
      have e1 : a'.tmps[26]? = some (.agg #[.bool sm, .slice Xm pm qm]) := Rg.slot_get rfl rfl (hw 1 (by kernel_rfl) _ rfl)
      exact ⟨rfl, wanted_none rfl, step_list1 rfl (ev_tmp e1) (IVm.out.kn hs.kn)⟩
    · intro a' w' ha hs hw hold
      have e0 : a'.tmps[25]? = some (.agg #[.bool sn, .slice Xn pn qn]) := Rg.slot_get rfl rfl (hw 0 (by kernel_rfl) _ rfl)
      obtain ⟨v2, g2, h2, q2⟩ := hw 2 (by kernel_rfl) _ rfl
      have e2 : a'.tmps[27]? = some v2 := Rg.slot_get rfl rfl h2.1
      replace q2 := q2 (by kernel_rfl)
      exact ⟨rfl, wanted_none rfl, call_step rfl Try.func198 (by kernel_rfl) rfl (map_two (ev_tmp e0) (ev_tmp e2)) (product1_any _ _ kn km _ (IVn.out.kn hs.kn) q2 (SKn.out.mono (by omega)) (SKm.out.mono (by omega))) (fun e w2 he => by obtain ⟨v, rfl, hv, hb⟩ := he; exact ⟨v, rfl, v, rfl, hv, hb⟩)⟩
    · intro a' w' ha hs hw hold
      have eo8 : a'.tmps[8]? = some (ptr gx) := (ha.rest 8 (by kernel_rfl)).trans rfl
      exact ⟨rfl, .inl ⟨wanted_none rfl, wp_val (run_pload rfl (ev_tmp eo8) (BXx.out.bel hs (by simp only [List.mem_cons, List.not_mem_nil, or_false, not_or]; exact NExr.out))) ⟨rfl, Below.refl _ _⟩⟩⟩
    · intro a' w' ha hs hw hold
      have eo6 : a'.tmps[6]? = some (ptr gy) := (ha.rest 6 (by kernel_rfl)).trans rfl
      exact ⟨rfl, .inl ⟨wanted_none rfl, wp_val (run_pload rfl (ev_tmp eo6) (BXy.out.bel hs (by simp only [List.mem_cons, List.not_mem_nil, or_false, not_or]; exact NEyr.out))) ⟨rfl, Below.refl _ _⟩⟩⟩
    · intro a' w' ha hs hw hold
      have e5 : a'.tmps[30]? = some (.agg #[.bool sy, .slice Xy py qy]) := Rg.slot_get rfl rfl (hw 5 (by kernel_rfl) _ rfl)
      exact ⟨rfl, wanted_none rfl, step_list1 rfl (ev_tmp e5) (IVy.out.kn hs.kn)⟩
    · intro a' w' ha hs hw hold
      have e4 : a'.tmps[29]? = some (.agg #[.bool sx, .slice Xx px qx]) := Rg.slot_get rfl rfl (hw 4 (by kernel_rfl) _ rfl)
      obtain ⟨v6, g6, h6, q6⟩ := hw 6 (by kernel_rfl) _ rfl
      have e6 : a'.tmps[31]? = some v6 := Rg.slot_get rfl rfl h6.1
      replace q6 := q6 (by kernel_rfl)
      exact ⟨rfl, wanted_none rfl, call_step rfl Try.func198 (by kernel_rfl) rfl (map_two (ev_tmp e4) (ev_tmp e6)) (product1_any _ _ kx ky _ (IVx.out.kn hs.kn) q6 (SKx.out.mono (by omega)) (SKy.out.mono (by omega))) (fun e w2 he => by obtain ⟨v, rfl, hv, hb⟩ := he; exact ⟨v, rfl, v, rfl, hv, hb⟩)⟩
    · intro a' w' ha hs hw hold
      obtain ⟨v3, e3, q3⟩ := hw 3 (by kernel_rfl) _ rfl
      replace e3 : a'.tmps[28]? = some v3 := Rg.slot_get rfl rfl e3
      obtain ⟨v7, e7, q7⟩ := hw 7 (by kernel_rfl) _ rfl
      replace e7 : a'.tmps[32]? = some v7 := Rg.slot_get rfl rfl e7
      exact ⟨rfl, wanted_none rfl, step_build rfl (ev_tmp e3) (ev_tmp e7) q3 q7⟩
    · intro a' w' ha hs hw hold
      obtain ⟨v8, e8, q8⟩ := hw 8 (by kernel_rfl) _ rfl
      replace e8 : a'.tmps[33]? = some v8 := Rg.slot_get rfl rfl e8
      have eo4 : a'.tmps[4]? = some (ptr (g + 1 + 1)) := (ha.rest 4 (by kernel_rfl)).trans rfl
      exact ⟨rfl, wanted_none rfl, fun he => step_stoq rfl rfl (ev_tmp eo4) (ev_tmp e8) q8 RXr.out he⟩
  simp only [Rg.allG]
  intro r9x2 _ _ _ _ _ _
  intro r9x3 _
  intro r9x6 _ _ _ _ _ _
  intro r9x7 _
  intro r9x8 _
  intro hSr
  simp only [setOpt, Rg.setOpt, List.set_cons_succ, List.set_cons_zero]
  refine hK _ _ ?_
  clear hK K
  have DN : Hid (Below g w wn) := hs.base DW.out (by have := hg.out; omega) (by simp only [List.mem_cons, List.not_mem_nil, or_false]; omega)
  obtain ⟨Ar, ir, cr, Br, jr, dr, hcr, hir, hjr⟩ := hSr
  have kra := hcr.cell0; have krb := hcr.cell1; have krc := hcr.cell2; have krd := hcr.cell3
  have HIr := Lib.hid hir; clear hir
  have HJr := Lib.hid hjr; clear hjr
  go_wp2
  exact bodyPost_ret (v := .agg #[.bool (decide (kn * km < 0)), .slice Ar ir cr, .bool (decide (kx * ky < 0)), .slice Br jr dr]) (by simp [results, Try.results183, go_sem, kra, krb, krc, krd]) rfl ⟨_, rfl, ⟨Ar, ir, cr, Br, jr, dr, rfl, HIr.out, HJr.out⟩, by rw [hg.out]; exact DN.out⟩
end Go.Proofs.Ytfigimfdojbkeaa

