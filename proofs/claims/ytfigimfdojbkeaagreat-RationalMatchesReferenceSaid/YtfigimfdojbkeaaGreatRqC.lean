/-
 The reference's functions on fractions.
-/
import Derived.Test.YtfigimfdojbkeaaGreatRqB
import Derived.Deep.DeepCutAuto
import Derived.Handy
set_option linter.unusedSimpArgs false
set_option linter.unusedVariables false
namespace Go.Proofs.YtfigimfdojbkeaaGreat
open Go.RowKit
attribute [local go_sem ↓] Go.wp_at_zero Go.wp_at_succ

theorem rzz {n d c : Int} {w w' : World} {e : Ending} (h1 : n = 0) (h2 : d = 0) (h : RetQC 0 0 c w e w') : RetQC n d c w e w' := by rw [h1, h2]; exact h

set_option maxHeartbeats 8000000 in
set_option maxRecDepth 100000 in
theorem rqtext_one (va : Value) (a : Rat) (w : World) (ha : Qv w va a.num a.den) (sa : Sr a 200000) (h1 : (a.den : Int) = 1) : Calls Tryz.prog 44 #[va] w (RetV (.string (qtx a)) w) := by
 obtain ⟨Xan, pan, qan, Xad, pad, qad, rfl, han, had⟩ := ha
 have Han := Lib.hid han
 have Had := Lib.hid had
 have SRa := Lib.hid sa
 clear han had sa
 generalize hs : decide (a.num < 0) = san at *
 clear hs
 generalize hs : decide ((a.den : Int) < 0) = sad at *
 clear hs
 obtain ⟨o, ho⟩ : ∃ o, cmpZ (a.den : Int) 1 = o := ⟨_, rfl⟩
 have e1 : (o == 0) = true := by
  rw [← ho]
  unfold cmpZ
  rw [h1]; rfl
 have hq : Hid (qtx a = txs a.num) := if_pos h1
 have hz1 := txs_size SRa.out.num
 have hz2 := txs_size SRa.out.den
 have HZ1 := Lib.hid hz1
 have HZ2 := Lib.hid hz2
 replace ho := Lib.hid ho
 clear h1 hz1 hz2
 go_enter Tryz.func44, Tryz.ntmps44
 go_wp2_with fail
 obtain ⟨W, hW⟩ : ∃ W, W = (w.alloc (Obj.cells #[Value.bool san, Value.slice Xan pan qan, Value.bool sad, Value.slice Xad pad qad] 31)) := ⟨_, rfl⟩
 rw [← hW]
 have QXa : Hid (QBox W (w.heap.size) san (.slice Xan pan qan) sad (.slice Xad pad qad)) := by rw [hW]; have := QBox.new w san (Value.slice Xan pan qan) sad (Value.slice Xad pad qad); simpa [Hid] using this
 have IVna : Hid (Iv W (.agg #[.bool san, .slice Xan pan qan]) (a.num)) := by rw [hW]; exact (Han.out).alloc _
 have IVda : Hid (Iv W (.agg #[.bool sad, .slice Xad pad qad]) ((a.den : Int))) := by rw [hW]; exact (Had.out).alloc _
 have DW : Hid (Below w.heap.size w W) := by rw [hW]; exact (Below.refl _ _).alloc (by simp <;> omega) _
 clear hW
 generalize hg : w.heap.size = g at *
 replace hg := Lib.hid hg
 go_upto_region 1 with fail
 refine Rg.region_gg W [.is (.pointer (some ⟨g, 2, none⟩)), .is (.agg #[.bool sad, .slice Xad pad qad]), .sat (pIv ((1 : Int))) (pIv_keep _), .is (Value.int IntKind.i64 o), .is (Value.bool true)] [] [some 3, some 4, some 5, some 6, some 7] (by kernel_rfl) (by kernel_rfl) (by kernel_rfl) (by kernel_rfl) (by kernel_rfl) (by simp [Rg.stos]) (by rfl) (by rfl) (by kernel_rfl) (by simp) ((Below.refl _ _).drew) (fun Q' => ?_) (fun K hK wn hs => ?_)
 ·refine ⟨?_, ?_, ?_, ?_, ?_, trivial⟩
  ·intro a' w' ha hs hw hold
   have eo1 : a'.tmps[1]? = some (ptr g) := (ha.rest 1 (by kernel_rfl)).trans rfl
   exact ⟨rfl, .inl ⟨wanted_none rfl, wp_val (run_qfield1 rfl (ev_tmp eo1)) ⟨rfl, Below.refl _ _⟩⟩⟩
  ·intro a' w' ha hs hw hold
   have e0 : a'.tmps[3]? = some (.pointer (some ⟨g, 2, none⟩)) := Rg.slot_get rfl rfl (hw 0 (by kernel_rfl) _ rfl)
   exact ⟨rfl, .inl ⟨wanted_none rfl, wp_val (run_qload1 rfl (ev_tmp e0) (QXa.out.bel hs (by simp))) ⟨rfl, Below.refl _ _⟩⟩⟩
  ·intro a' w' ha hs hw hold
   exact ⟨rfl, wanted_none rfl, call_step rfl Tryz.func89 (by kernel_rfl) rfl (map_one rfl) (rof_any 1 _ (by omega) (by omega)) (fun e w2 he => by obtain ⟨v, rfl, hv, hb⟩ := he; exact ⟨v, rfl, v, rfl, hv, hb⟩)⟩
  ·intro a' w' ha hs hw hold
   have e1 : a'.tmps[4]? = some (.agg #[.bool sad, .slice Xad pad qad]) := Rg.slot_get rfl rfl (hw 1 (by kernel_rfl) _ rfl)
   obtain ⟨v2, e2, q2⟩ := hw 2 (by kernel_rfl) _ rfl
   replace e2 : a'.tmps[5]? = some v2 := Rg.slot_get rfl rfl e2
   exact ⟨rfl, .inl ⟨wanted_none rfl, call_step rfl Tryz.func109 (by kernel_rfl) rfl (map_two (ev_tmp e1) (ev_tmp e2)) (ho.out ▸ rcmp_any _ _ (a.den : Int) 1 _ (IVda.out.kn hs.kn) q2 (SRa.out.den.mono (by omega)) (szs (by omega) (by omega))) (fun e w2 he => by obtain ⟨rfl, hb⟩ := he; exact ⟨_, rfl, rfl, hb⟩)⟩⟩
  ·intro a' w' ha hs hw hold
   have e3 : a'.tmps[6]? = some (Value.int IntKind.i64 o) := Rg.slot_get rfl rfl (hw 3 (by kernel_rfl) _ rfl)
   exact ⟨rfl, .inl ⟨wanted_none rfl, wp_val (run_eqlI rfl (ev_tmp e3) rfl e1) ⟨rfl, Below.refl _ _⟩⟩⟩
 simp only [Rg.allG]
 intro r1x2 _
 simp only [setOpt, Rg.setOpt, List.set_cons_succ, List.set_cons_zero]
 refine hK _ _ ?_
 clear hK K
 replace hs := hs.below
 replace QXa := nxq QXa hs rfl; replace IVna := nxv IVna hs rfl; replace IVda := nxv IVda hs rfl
 replace DW := nxd DW hg hs rfl rfl rfl rfl
 clear hs
 go_upto_region 2 with fail
 clear e1
 have u2a := QXa.out.cell0; have u2b := QXa.out.cell1; have u2c := QXa.out.cell2; have u2d := QXa.out.cell3
 go_wp2_with fail
 clear u2a u2b u2c u2d
 refine (rtext_any _ a.num _ IVna.out SRa.out.num).mono ?_
 rintro e y3 ⟨rfl, hb⟩
 replace QXa := nxq QXa hb rfl; replace IVna := nxv IVna hb rfl; replace IVda := nxv IVda hb rfl
 replace DW := nxd DW hg hb rfl rfl rfl rfl
 clear hb
 go_wp2
 go_ret
 exact ⟨by rw [hq.out]; rfl, by rw [hg.out]; exact DW.out⟩

set_option maxHeartbeats 8000000 in
set_option maxRecDepth 100000 in
theorem rqtext_two (va : Value) (a : Rat) (w : World) (ha : Qv w va a.num a.den) (sa : Sr a 200000) (h1 : (a.den : Int) ≠ 1) : Calls Tryz.prog 44 #[va] w (RetV (.string (qtx a)) w) := by
 obtain ⟨Xan, pan, qan, Xad, pad, qad, rfl, han, had⟩ := ha
 have Han := Lib.hid han
 have Had := Lib.hid had
 have SRa := Lib.hid sa
 clear han had sa
 generalize hs : decide (a.num < 0) = san at *
 clear hs
 generalize hs : decide ((a.den : Int) < 0) = sad at *
 clear hs
 obtain ⟨o, ho⟩ : ∃ o, cmpZ (a.den : Int) 1 = o := ⟨_, rfl⟩
 have e1 : (o == 0) = false := by
  rw [← ho]
  unfold cmpZ
  split <;> (try split) <;> first | rfl | omega
 have hq : Hid (qtx a = txs a.num ++ slash ++ txs a.den) := if_neg h1
 have hz1 := txs_size SRa.out.num
 have hz2 := txs_size SRa.out.den
 have HZ1 := Lib.hid hz1
 have HZ2 := Lib.hid hz2
 replace ho := Lib.hid ho
 clear h1 hz1 hz2
 go_enter Tryz.func44, Tryz.ntmps44
 go_wp2_with fail
 obtain ⟨W, hW⟩ : ∃ W, W = (w.alloc (Obj.cells #[Value.bool san, Value.slice Xan pan qan, Value.bool sad, Value.slice Xad pad qad] 31)) := ⟨_, rfl⟩
 rw [← hW]
 have QXa : Hid (QBox W (w.heap.size) san (.slice Xan pan qan) sad (.slice Xad pad qad)) := by rw [hW]; have := QBox.new w san (Value.slice Xan pan qan) sad (Value.slice Xad pad qad); simpa [Hid] using this
 have IVna : Hid (Iv W (.agg #[.bool san, .slice Xan pan qan]) (a.num)) := by rw [hW]; exact (Han.out).alloc _
 have IVda : Hid (Iv W (.agg #[.bool sad, .slice Xad pad qad]) ((a.den : Int))) := by rw [hW]; exact (Had.out).alloc _
 have DW : Hid (Below w.heap.size w W) := by rw [hW]; exact (Below.refl _ _).alloc (by simp <;> omega) _
 clear hW
 generalize hg : w.heap.size = g at *
 replace hg := Lib.hid hg
 go_upto_region 1 with fail
 refine Rg.region_gg W [.is (.pointer (some ⟨g, 2, none⟩)), .is (.agg #[.bool sad, .slice Xad pad qad]), .sat (pIv ((1 : Int))) (pIv_keep _), .is (Value.int IntKind.i64 o), .is (Value.bool false)] [] [some 3, some 4, some 5, some 6, some 7] (by kernel_rfl) (by kernel_rfl) (by kernel_rfl) (by kernel_rfl) (by kernel_rfl) (by simp [Rg.stos]) (by rfl) (by rfl) (by kernel_rfl) (by simp) ((Below.refl _ _).drew) (fun Q' => ?_) (fun K hK wn hs => ?_)
 ·refine ⟨?_, ?_, ?_, ?_, ?_, trivial⟩
  ·intro a' w' ha hs hw hold
   have eo1 : a'.tmps[1]? = some (ptr g) := (ha.rest 1 (by kernel_rfl)).trans rfl
   exact ⟨rfl, .inl ⟨wanted_none rfl, wp_val (run_qfield1 rfl (ev_tmp eo1)) ⟨rfl, Below.refl _ _⟩⟩⟩
  ·intro a' w' ha hs hw hold
   have e0 : a'.tmps[3]? = some (.pointer (some ⟨g, 2, none⟩)) := Rg.slot_get rfl rfl (hw 0 (by kernel_rfl) _ rfl)
   exact ⟨rfl, .inl ⟨wanted_none rfl, wp_val (run_qload1 rfl (ev_tmp e0) (QXa.out.bel hs (by simp))) ⟨rfl, Below.refl _ _⟩⟩⟩
  ·intro a' w' ha hs hw hold
   exact ⟨rfl, wanted_none rfl, call_step rfl Tryz.func89 (by kernel_rfl) rfl (map_one rfl) (rof_any 1 _ (by omega) (by omega)) (fun e w2 he => by obtain ⟨v, rfl, hv, hb⟩ := he; exact ⟨v, rfl, v, rfl, hv, hb⟩)⟩
  ·intro a' w' ha hs hw hold
   have e1 : a'.tmps[4]? = some (.agg #[.bool sad, .slice Xad pad qad]) := Rg.slot_get rfl rfl (hw 1 (by kernel_rfl) _ rfl)
   obtain ⟨v2, e2, q2⟩ := hw 2 (by kernel_rfl) _ rfl
   replace e2 : a'.tmps[5]? = some v2 := Rg.slot_get rfl rfl e2
   exact ⟨rfl, .inl ⟨wanted_none rfl, call_step rfl Tryz.func109 (by kernel_rfl) rfl (map_two (ev_tmp e1) (ev_tmp e2)) (ho.out ▸ rcmp_any _ _ (a.den : Int) 1 _ (IVda.out.kn hs.kn) q2 (SRa.out.den.mono (by omega)) (szs (by omega) (by omega))) (fun e w2 he => by obtain ⟨rfl, hb⟩ := he; exact ⟨_, rfl, rfl, hb⟩)⟩⟩
  ·intro a' w' ha hs hw hold
   have e3 : a'.tmps[6]? = some (Value.int IntKind.i64 o) := Rg.slot_get rfl rfl (hw 3 (by kernel_rfl) _ rfl)
   exact ⟨rfl, .inl ⟨wanted_none rfl, wp_val (run_eqlI rfl (ev_tmp e3) rfl e1) ⟨rfl, Below.refl _ _⟩⟩⟩
 simp only [Rg.allG]
 intro r1x2 _
 simp only [setOpt, Rg.setOpt, List.set_cons_succ, List.set_cons_zero]
 refine hK _ _ ?_
 clear hK K
 replace hs := hs.below
 replace QXa := nxq QXa hs rfl; replace IVna := nxv IVna hs rfl; replace IVda := nxv IVda hs rfl
 replace DW := nxd DW hg hs rfl rfl rfl rfl
 clear hs
 go_upto_region 3 with fail
 clear e1
 refine Rg.region_gg wn [.is (.pointer (some ⟨g, 0, none⟩)), .is (.agg #[.bool san, .slice Xan pan qan]), .is (Value.string (txs a.num)), .is (Value.string (txs a.num ++ slash)), .is (.pointer (some ⟨g, 2, none⟩)), .is (.agg #[.bool sad, .slice Xad pad qad]), .is (Value.string (txs a.den)), .is (Value.string (txs a.num ++ slash ++ txs a.den)), .is (Value.string (txs a.num ++ slash ++ txs a.den))] [] [some 11, some 12, some 13, some 14, some 15, some 16, some 17, some 18, some 2] (by kernel_rfl) (by kernel_rfl) (by kernel_rfl) (by kernel_rfl) (by kernel_rfl) (by simp [Rg.stos]) (by rfl) (by rfl) (by kernel_rfl) (by simp) ((Below.refl _ _).drew) (fun Q' => ?_) (fun K hK wn hs => ?_)
 ·refine ⟨?_, ?_, ?_, ?_, ?_, ?_, ?_, ?_, ?_, trivial⟩
  ·intro a' w' ha hs hw hold
   have eo1 : a'.tmps[1]? = some (ptr g) := (ha.rest 1 (by kernel_rfl)).trans rfl
   exact ⟨rfl, .inl ⟨wanted_none rfl, wp_val (run_qfield0 rfl (ev_tmp eo1)) ⟨rfl, Below.refl _ _⟩⟩⟩
  ·intro a' w' ha hs hw hold
   have e0 : a'.tmps[11]? = some (.pointer (some ⟨g, 0, none⟩)) := Rg.slot_get rfl rfl (hw 0 (by kernel_rfl) _ rfl)
   exact ⟨rfl, .inl ⟨wanted_none rfl, wp_val (run_qload0 rfl (ev_tmp e0) (QXa.out.bel hs (by simp))) ⟨rfl, Below.refl _ _⟩⟩⟩
  ·intro a' w' ha hs hw hold
   have e1 : a'.tmps[12]? = some (.agg #[.bool san, .slice Xan pan qan]) := Rg.slot_get rfl rfl (hw 1 (by kernel_rfl) _ rfl)
   exact ⟨rfl, .inl ⟨wanted_none rfl, call_step rfl Tryz.func113 (by kernel_rfl) rfl (map_one (ev_tmp e1)) (rtext_any _ a.num _ (IVna.out.kn hs.kn) SRa.out.num) (fun e w2 he => by obtain ⟨rfl, hb⟩ := he; exact ⟨_, rfl, rfl, hb⟩)⟩⟩
  ·intro a' w' ha hs hw hold
   have e2 : a'.tmps[13]? = some (Value.string (txs a.num)) := Rg.slot_get rfl rfl (hw 2 (by kernel_rfl) _ rfl)
   exact ⟨rfl, .inl ⟨wanted_none rfl, wp_val (run_add_str rfl (ev_tmp e2) rfl (by have := HZ1.out; show _ + 1 ≤ _; omega)) ⟨rfl, Below.refl _ _⟩⟩⟩
  ·intro a' w' ha hs hw hold
   have eo1 : a'.tmps[1]? = some (ptr g) := (ha.rest 1 (by kernel_rfl)).trans rfl
   exact ⟨rfl, .inl ⟨wanted_none rfl, wp_val (run_qfield1 rfl (ev_tmp eo1)) ⟨rfl, Below.refl _ _⟩⟩⟩
  ·intro a' w' ha hs hw hold
   have e4 : a'.tmps[15]? = some (.pointer (some ⟨g, 2, none⟩)) := Rg.slot_get rfl rfl (hw 4 (by kernel_rfl) _ rfl)
   exact ⟨rfl, .inl ⟨wanted_none rfl, wp_val (run_qload1 rfl (ev_tmp e4) (QXa.out.bel hs (by simp))) ⟨rfl, Below.refl _ _⟩⟩⟩
  ·intro a' w' ha hs hw hold
   have e5 : a'.tmps[16]? = some (.agg #[.bool sad, .slice Xad pad qad]) := Rg.slot_get rfl rfl (hw 5 (by kernel_rfl) _ rfl)
   exact ⟨rfl, .inl ⟨wanted_none rfl, call_step rfl Tryz.func113 (by kernel_rfl) rfl (map_one (ev_tmp e5)) (rtext_any _ (a.den : Int) _ (IVda.out.kn hs.kn) SRa.out.den) (fun e w2 he => by obtain ⟨rfl, hb⟩ := he; exact ⟨_, rfl, rfl, hb⟩)⟩⟩
  ·intro a' w' ha hs hw hold
   have e3 : a'.tmps[14]? = some (Value.string (txs a.num ++ slash)) := Rg.slot_get rfl rfl (hw 3 (by kernel_rfl) _ rfl)
   have e6 : a'.tmps[17]? = some (Value.string (txs a.den)) := Rg.slot_get rfl rfl (hw 6 (by kernel_rfl) _ rfl)
   exact ⟨rfl, .inl ⟨wanted_none rfl, wp_val (run_add_str rfl (ev_tmp e3) (ev_tmp e6) (by have := HZ1.out; have := HZ2.out; have e : (txs a.num ++ slash).size = (txs a.num).size + 1 := ByteArray.size_append; omega)) ⟨rfl, Below.refl _ _⟩⟩⟩
  ·intro a' w' ha hs hw hold
   have e7 : a'.tmps[18]? = some (Value.string (txs a.num ++ slash ++ txs a.den)) := Rg.slot_get rfl rfl (hw 7 (by kernel_rfl) _ rfl)
   exact ⟨rfl, .inl ⟨wanted_none rfl, wp_val (run_assign rfl (ev_tmp e7)) ⟨rfl, Below.refl _ _⟩⟩⟩
 simp only [Rg.allG]
 simp only [setOpt, Rg.setOpt, List.set_cons_succ, List.set_cons_zero]
 refine hK _ _ ?_
 clear hK K
 replace hs := hs.below
 replace QXa := nxq QXa hs rfl; replace IVna := nxv IVna hs rfl; replace IVda := nxv IVda hs rfl
 replace DW := nxd DW hg hs rfl rfl rfl rfl
 clear hs
 go_wp2
 go_ret
 exact ⟨by rw [hq.out]; rfl, by rw [hg.out]; exact DW.out⟩

theorem rqtext_any (va : Value) (a : Rat) (w : World) (ha : Qv w va a.num a.den) (sa : Sr a 200000) : Calls Tryz.prog 44 #[va] w (RetV (.string (qtx a)) w) := by
 by_cases h : (a.den : Int) = 1
 ·exact rqtext_one va a w ha sa h
 ·exact rqtext_two va a w ha sa h

set_option maxHeartbeats 8000000 in
set_option maxRecDepth 100000 in
theorem rqnew_zero (va vb : Value) (za zb : Int) (w : World) (ha : Iv w va za) (sa : Sz za 100000) (hb : Iv w vb zb) (sb : Sz zb 100000) (h0 : zb = 0) : Calls Tryz.prog 102 #[va, vb] w (RetQC 0 0 10 w) := by
 have hsg : Hid (sg zb = 0) := by rw [h0]; rfl
 clear h0
 obtain ⟨Xa, pa, qa, rfl, _, _, _⟩ := ha.form
 have Ha := Lib.hid ha
 have SZa := Lib.hid sa
 clear ha sa
 generalize hs : decide (za < 0) = sa at *
 clear hs
 obtain ⟨Xb, pb, qb, rfl, _, _, _⟩ := hb.form
 have Hb := Lib.hid hb
 have SZb := Lib.hid sb
 clear hb sb
 generalize hs : decide (zb < 0) = sb at *
 clear hs

 go_enter Tryz.func102, Tryz.ntmps102
 go_wp2_with fail
 obtain ⟨W, hW⟩ : ∃ W, W = (((w.alloc (Obj.cells #[Value.bool sa, Value.slice Xa pa qa] 29)).alloc (Obj.cells #[Value.bool sb, Value.slice Xb pb qb] 29)).alloc (Obj.cells #[Value.bool false, Value.slice none 0 0, Value.bool false, Value.slice none 0 0] 31)) := ⟨_, rfl⟩
 rw [← hW]
 have BXa : Hid (Box W (w.heap.size) sa (.slice Xa pa qa)) := by rw [hW]; have := ((Box.new w sa (Value.slice Xa pa qa)).alloc (Obj.cells #[Value.bool sb, Value.slice Xb pb qb] 29)).alloc (Obj.cells #[Value.bool false, Value.slice none 0 0, Value.bool false, Value.slice none 0 0] 31); simpa [Hid] using this
 have BXb : Hid (Box W (w.heap.size + 1) sb (.slice Xb pb qb)) := by rw [hW]; have := (Box.new (w.alloc (Obj.cells #[Value.bool sa, Value.slice Xa pa qa] 29)) sb (Value.slice Xb pb qb)).alloc (Obj.cells #[Value.bool false, Value.slice none 0 0, Value.bool false, Value.slice none 0 0] 31); simpa [Hid] using this
 have RXr : Hid (QBox W (w.heap.size + 1 + 1) false (.slice none 0 0) false (.slice none 0 0)) := by rw [hW]; have := QBox.new ((w.alloc (Obj.cells #[Value.bool sa, Value.slice Xa pa qa] 29)).alloc (Obj.cells #[Value.bool sb, Value.slice Xb pb qb] 29)) false (Value.slice none 0 0) false (Value.slice none 0 0); simpa [Hid] using this
 have IVa : Hid (Iv W (.agg #[.bool sa, .slice Xa pa qa]) (za)) := by rw [hW]; exact (((Ha.out).alloc _).alloc _).alloc _
 have IVb : Hid (Iv W (.agg #[.bool sb, .slice Xb pb qb]) (zb)) := by rw [hW]; exact (((Hb.out).alloc _).alloc _).alloc _
 have DW : Hid (Below w.heap.size w W) := by rw [hW]; exact (((Below.refl _ _).alloc (by simp <;> omega) _).alloc (by simp <;> omega) _).alloc (by simp <;> omega) _
 clear hW
 generalize hg : w.heap.size = g at *
 replace hg := Lib.hid hg
 go_upto_region 1 with fail
 have u1a := BXb.out.cell0; have u1b := BXb.out.cell1
 go_wp2_with fail
 clear u1a u1b
 refine (rsign_any _ zb _ IVb.out).mono ?_
 rintro e y2 ⟨rfl, hb⟩
 replace BXa := nxb BXa hb rfl; replace IVa := nxv IVa hb rfl
 replace BXb := nxb BXb hb rfl; replace IVb := nxv IVb hb rfl
 replace RXr := Lib.hid (RXr.out.next hb rfl)
 replace DW := nxd DW hg hb rfl rfl rfl rfl
 clear hb
 rw [hsg.out]
 have u3a := RXr.out.cell0; have u3b := RXr.out.cell1; have u3c := RXr.out.cell2; have u3d := RXr.out.cell3; have u3f := RXr.out.frozen 0; have u3g := RXr.out.frozen 1; have u3h := RXr.out.frozen 2; have u3i := RXr.out.frozen 3
 go_wp2
 refine bodyPost_ret (v := .tuple #[zeroQ, .int .i64 10]) (by simp [results, Tryz.results102, go_sem, zeroQ, u3a, u3b, u3c, u3d, u3f, u3g, u3h, u3i]) rfl ⟨_, rfl, zeroQ_qv _, by rw [hg.out]; exact (((DW.out.setCell (by simp <;> omega) _).setCell (by simp <;> omega) _).setCell (by simp <;> omega) _).setCell (by simp <;> omega) _⟩

set_option maxHeartbeats 8000000 in
set_option maxRecDepth 100000 in
theorem rqnew_is (va vb : Value) (za zb : Int) (T : Rat) (w : World) (ha : Iv w va za) (sa : Sz za 100000) (hb : Iv w vb zb) (sb : Sz zb 100000) (h0 : zb ≠ 0) (hT : Rat.divInt za zb = T) : Calls Tryz.prog 102 #[va, vb] w (RetQC T.num T.den 0 w) := by
 obtain ⟨SB, hSB⟩ : ∃ x, sg zb = x := ⟨_, rfl⟩
 have hsg : (SB == 0) = false := by rw [beq_eq_false_iff_ne, ← hSB]; intro e; rcases sg_cases zb with ⟨h1, e1⟩ | ⟨h1, e1⟩ | ⟨h1, e1⟩ <;> omega
 replace hSB := Lib.hid hSB; replace h0 := Lib.hid h0; replace hT := Lib.hid hT
 obtain ⟨Xa, pa, qa, rfl, _, _, _⟩ := ha.form
 have Ha := Lib.hid ha
 have SZa := Lib.hid sa
 clear ha sa
 generalize hs : decide (za < 0) = sa at *
 clear hs
 obtain ⟨Xb, pb, qb, rfl, _, _, _⟩ := hb.form
 have Hb := Lib.hid hb
 have SZb := Lib.hid sb
 clear hb sb
 generalize hs : decide (zb < 0) = sb at *
 clear hs

 go_enter Tryz.func102, Tryz.ntmps102
 go_wp2_with fail
 obtain ⟨W, hW⟩ : ∃ W, W = (((w.alloc (Obj.cells #[Value.bool sa, Value.slice Xa pa qa] 29)).alloc (Obj.cells #[Value.bool sb, Value.slice Xb pb qb] 29)).alloc (Obj.cells #[Value.bool false, Value.slice none 0 0, Value.bool false, Value.slice none 0 0] 31)) := ⟨_, rfl⟩
 rw [← hW]
 have BXa : Hid (Box W (w.heap.size) sa (.slice Xa pa qa)) := by rw [hW]; have := ((Box.new w sa (Value.slice Xa pa qa)).alloc (Obj.cells #[Value.bool sb, Value.slice Xb pb qb] 29)).alloc (Obj.cells #[Value.bool false, Value.slice none 0 0, Value.bool false, Value.slice none 0 0] 31); simpa [Hid] using this
 have BXb : Hid (Box W (w.heap.size + 1) sb (.slice Xb pb qb)) := by rw [hW]; have := (Box.new (w.alloc (Obj.cells #[Value.bool sa, Value.slice Xa pa qa] 29)) sb (Value.slice Xb pb qb)).alloc (Obj.cells #[Value.bool false, Value.slice none 0 0, Value.bool false, Value.slice none 0 0] 31); simpa [Hid] using this
 have RXr : Hid (QBox W (w.heap.size + 1 + 1) false (.slice none 0 0) false (.slice none 0 0)) := by rw [hW]; have := QBox.new ((w.alloc (Obj.cells #[Value.bool sa, Value.slice Xa pa qa] 29)).alloc (Obj.cells #[Value.bool sb, Value.slice Xb pb qb] 29)) false (Value.slice none 0 0) false (Value.slice none 0 0); simpa [Hid] using this
 have IVa : Hid (Iv W (.agg #[.bool sa, .slice Xa pa qa]) (za)) := by rw [hW]; exact (((Ha.out).alloc _).alloc _).alloc _
 have IVb : Hid (Iv W (.agg #[.bool sb, .slice Xb pb qb]) (zb)) := by rw [hW]; exact (((Hb.out).alloc _).alloc _).alloc _
 have DW : Hid (Below w.heap.size w W) := by rw [hW]; exact (((Below.refl _ _).alloc (by simp <;> omega) _).alloc (by simp <;> omega) _).alloc (by simp <;> omega) _
 clear hW
 generalize hg : w.heap.size = g at *
 replace hg := Lib.hid hg
 go_upto_region 1 with fail
 have u1a := BXb.out.cell0; have u1b := BXb.out.cell1
 go_wp2_with fail
 clear u1a u1b
 refine (rsign_any _ zb _ IVb.out).mono ?_
 rintro e y2 ⟨rfl, hb⟩
 replace BXa := nxb BXa hb rfl; replace IVa := nxv IVa hb rfl
 replace BXb := nxb BXb hb rfl; replace IVb := nxv IVb hb rfl
 replace RXr := Lib.hid (RXr.out.next hb rfl)
 replace DW := nxd DW hg hb rfl rfl rfl rfl
 clear hb
 rw [hSB.out]
 go_upto_region 3 with fail
 clear hsg
 have u3a := BXa.out.cell0; have u3b := BXa.out.cell1
 have u4a := BXb.out.cell0; have u4b := BXb.out.cell1
 go_wp2_with fail
 clear u3a u3b u4a u4b
 refine (rlow_is _ _ za zb T _ IVa.out SZa.out IVb.out SZb.out h0.out hT.out).mono ?_
 rintro e y5 ⟨_, rfl, hq, hb⟩
 obtain ⟨Xz, pz, qz, Yz, uz, tz, rfl, k1, k2⟩ := hq
 replace k1 := Lib.hid k1; replace k2 := Lib.hid k2
 replace BXa := nxb BXa hb rfl; replace IVa := nxv IVa hb rfl
 replace BXb := nxb BXb hb rfl; replace IVb := nxv IVb hb rfl
 replace RXr := Lib.hid (RXr.out.next hb rfl)
 replace DW := nxd DW hg hb rfl rfl rfl rfl
 clear hb
 generalize hs1 : decide ((T.num : Int) < 0) = s1 at *
 generalize hs2 : decide (((T.den : Int) : Int) < 0) = s2 at *
 clear hs1 hs2
 have u6a := RXr.out.cell0; have u6b := RXr.out.cell1; have u6c := RXr.out.cell2; have u6d := RXr.out.cell3; have u6f := RXr.out.frozen 0; have u6g := RXr.out.frozen 1; have u6h := RXr.out.frozen 2; have u6i := RXr.out.frozen 3
 go_wp2
 refine bodyPost_ret (v := .tuple #[.agg #[.bool s1, .slice Xz pz qz, .bool s2, .slice Yz uz tz], .int .i64 0]) (by simp [results, Tryz.results102, go_sem, u6a, u6b, u6c, u6d, u6f, u6g, u6h, u6i]) rfl ⟨_, rfl, ?_, by rw [hg.out]; exact (((DW.out.setCell (by simp <;> omega) _).setCell (by simp <;> omega) _).setCell (by simp <;> omega) _).setCell (by simp <;> omega) _⟩
 have hc := chg_qbox (b' := s1) (d' := s2) (A' := Xz) (n' := pz) (c' := qz) (B' := Yz) (m' := uz) (e' := tz) RXr.out
 exact qv_of (k1.out.kn hc.kn) (k2.out.kn hc.kn)

set_option maxHeartbeats 8000000 in
set_option maxRecDepth 100000 in
theorem rqinv_zero (va : Value) (a : Rat) (w : World) (ha : Qv w va a.num a.den) (sa : Sr a 100000) (h0 : a.num = 0) : Calls Tryz.prog 28 #[va] w (RetQC 0 0 10 w) := by
 obtain ⟨n0, en⟩ : ∃ n : Int, n = 0 := ⟨_, rfl⟩
 obtain ⟨d0, ed⟩ : ∃ n : Int, n = 0 := ⟨_, rfl⟩
 rw [show RetQC 0 0 10 w = RetQC n0 d0 10 w by rw [en, ed]]
 replace en := Lib.hid en; replace ed := Lib.hid ed
 obtain ⟨Xan, pan, qan, Xad, pad, qad, rfl, han, had⟩ := ha
 have Han := Lib.hid han
 have Had := Lib.hid had
 have SRa := Lib.hid sa
 clear han had sa
 generalize hs : decide (a.num < 0) = san at *
 clear hs
 generalize hs : decide ((a.den : Int) < 0) = sad at *
 clear hs
 replace h0 := Lib.hid h0
 go_enter Tryz.func28, Tryz.ntmps28
 go_wp2_with fail
 obtain ⟨W, hW⟩ : ∃ W, W = ((w.alloc (Obj.cells #[Value.bool san, Value.slice Xan pan qan, Value.bool sad, Value.slice Xad pad qad] 31)).alloc (Obj.cells #[Value.bool false, Value.slice none 0 0, Value.bool false, Value.slice none 0 0] 31)) := ⟨_, rfl⟩
 rw [← hW]
 have QXa : Hid (QBox W (w.heap.size) san (.slice Xan pan qan) sad (.slice Xad pad qad)) := by rw [hW]; have := (QBox.new w san (Value.slice Xan pan qan) sad (Value.slice Xad pad qad)).alloc (Obj.cells #[Value.bool false, Value.slice none 0 0, Value.bool false, Value.slice none 0 0] 31); simpa [Hid] using this
 have RXr : Hid (QBox W (w.heap.size + 1) false (.slice none 0 0) false (.slice none 0 0)) := by rw [hW]; have := QBox.new (w.alloc (Obj.cells #[Value.bool san, Value.slice Xan pan qan, Value.bool sad, Value.slice Xad pad qad] 31)) false (Value.slice none 0 0) false (Value.slice none 0 0); simpa [Hid] using this
 have IVna : Hid (Iv W (.agg #[.bool san, .slice Xan pan qan]) (a.num)) := by rw [hW]; exact ((Han.out).alloc _).alloc _
 have IVda : Hid (Iv W (.agg #[.bool sad, .slice Xad pad qad]) ((a.den : Int))) := by rw [hW]; exact ((Had.out).alloc _).alloc _
 have DW : Hid (Below w.heap.size w W) := by rw [hW]; exact ((Below.refl _ _).alloc (by simp <;> omega) _).alloc (by simp <;> omega) _
 clear hW
 generalize hg : w.heap.size = g at *
 replace hg := Lib.hid hg
 go_upto_region 1 with fail
 have u1a := QXa.out.cell0; have u1b := QXa.out.cell1; have u1c := QXa.out.cell2; have u1d := QXa.out.cell3
 go_wp2_with fail
 clear u1a u1b u1c u1d
 refine ((rqnew_zero _ _ (a.den : Int) a.num _ IVda.out SRa.out.den IVna.out SRa.out.num h0.out).mono fun _ _ h => rzz en.out ed.out h).mono ?_
 rintro e y2 ⟨_, rfl, hq, hb⟩
 obtain ⟨Xz, pz, qz, Yz, uz, tz, rfl, k1, k2⟩ := hq
 replace k1 := Lib.hid k1; replace k2 := Lib.hid k2
 replace QXa := nxq QXa hb rfl; replace IVna := nxv IVna hb rfl; replace IVda := nxv IVda hb rfl
 replace RXr := Lib.hid (RXr.out.next hb rfl)
 replace DW := nxd DW hg hb rfl rfl rfl rfl
 clear hb
 generalize hs1 : decide ((n0 : Int) < 0) = s1 at *
 generalize hs2 : decide ((d0 : Int) < 0) = s2 at *
 clear hs1 hs2
 have u3a := RXr.out.cell0; have u3b := RXr.out.cell1; have u3c := RXr.out.cell2; have u3d := RXr.out.cell3; have u3f := RXr.out.frozen 0; have u3g := RXr.out.frozen 1; have u3h := RXr.out.frozen 2; have u3i := RXr.out.frozen 3
 go_wp2
 refine bodyPost_ret (v := .tuple #[.agg #[.bool s1, .slice Xz pz qz, .bool s2, .slice Yz uz tz], .int .i64 10]) (by simp [results, Tryz.results28, go_sem, u3a, u3b, u3c, u3d, u3f, u3g, u3h, u3i]) rfl ⟨_, rfl, ?_, by rw [hg.out]; exact (((DW.out.setCell (by simp <;> omega) _).setCell (by simp <;> omega) _).setCell (by simp <;> omega) _).setCell (by simp <;> omega) _⟩
 have hc := chg_qbox (b' := s1) (d' := s2) (A' := Xz) (n' := pz) (c' := qz) (B' := Yz) (m' := uz) (e' := tz) RXr.out
 exact qv_of (k1.out.kn hc.kn) (k2.out.kn hc.kn)

set_option maxHeartbeats 8000000 in
set_option maxRecDepth 100000 in
theorem rqinv_any (va : Value) (a : Rat) (w : World) (ha : Qv w va a.num a.den) (sa : Sr a 100000) (h0 : a.num ≠ 0) : Calls Tryz.prog 28 #[va] w (RetQC (a⁻¹).num (a⁻¹).den 0 w) := by
 obtain ⟨T, eT⟩ : ∃ T, a⁻¹ = T := ⟨_, rfl⟩
 rw [eT]
 have EQ := Lib.hid ((rdi_inv a).trans eT)
 clear eT
 obtain ⟨Xan, pan, qan, Xad, pad, qad, rfl, han, had⟩ := ha
 have Han := Lib.hid han
 have Had := Lib.hid had
 have SRa := Lib.hid sa
 clear han had sa
 generalize hs : decide (a.num < 0) = san at *
 clear hs
 generalize hs : decide ((a.den : Int) < 0) = sad at *
 clear hs
 replace h0 := Lib.hid h0
 go_enter Tryz.func28, Tryz.ntmps28
 go_wp2_with fail
 obtain ⟨W, hW⟩ : ∃ W, W = ((w.alloc (Obj.cells #[Value.bool san, Value.slice Xan pan qan, Value.bool sad, Value.slice Xad pad qad] 31)).alloc (Obj.cells #[Value.bool false, Value.slice none 0 0, Value.bool false, Value.slice none 0 0] 31)) := ⟨_, rfl⟩
 rw [← hW]
 have QXa : Hid (QBox W (w.heap.size) san (.slice Xan pan qan) sad (.slice Xad pad qad)) := by rw [hW]; have := (QBox.new w san (Value.slice Xan pan qan) sad (Value.slice Xad pad qad)).alloc (Obj.cells #[Value.bool false, Value.slice none 0 0, Value.bool false, Value.slice none 0 0] 31); simpa [Hid] using this
 have RXr : Hid (QBox W (w.heap.size + 1) false (.slice none 0 0) false (.slice none 0 0)) := by rw [hW]; have := QBox.new (w.alloc (Obj.cells #[Value.bool san, Value.slice Xan pan qan, Value.bool sad, Value.slice Xad pad qad] 31)) false (Value.slice none 0 0) false (Value.slice none 0 0); simpa [Hid] using this
 have IVna : Hid (Iv W (.agg #[.bool san, .slice Xan pan qan]) (a.num)) := by rw [hW]; exact ((Han.out).alloc _).alloc _
 have IVda : Hid (Iv W (.agg #[.bool sad, .slice Xad pad qad]) ((a.den : Int))) := by rw [hW]; exact ((Had.out).alloc _).alloc _
 have DW : Hid (Below w.heap.size w W) := by rw [hW]; exact ((Below.refl _ _).alloc (by simp <;> omega) _).alloc (by simp <;> omega) _
 clear hW
 generalize hg : w.heap.size = g at *
 replace hg := Lib.hid hg
 go_upto_region 1 with fail
 have u1a := QXa.out.cell0; have u1b := QXa.out.cell1; have u1c := QXa.out.cell2; have u1d := QXa.out.cell3
 go_wp2_with fail
 clear u1a u1b u1c u1d
 refine (rqnew_is _ _ (a.den : Int) a.num T _ IVda.out SRa.out.den IVna.out SRa.out.num h0.out EQ.out).mono ?_
 rintro e y2 ⟨_, rfl, hq, hb⟩
 obtain ⟨Xz, pz, qz, Yz, uz, tz, rfl, k1, k2⟩ := hq
 replace k1 := Lib.hid k1; replace k2 := Lib.hid k2
 replace QXa := nxq QXa hb rfl; replace IVna := nxv IVna hb rfl; replace IVda := nxv IVda hb rfl
 replace RXr := Lib.hid (RXr.out.next hb rfl)
 replace DW := nxd DW hg hb rfl rfl rfl rfl
 clear hb
 generalize hs1 : decide ((T.num : Int) < 0) = s1 at *
 generalize hs2 : decide (((T.den : Int) : Int) < 0) = s2 at *
 clear hs1 hs2
 have u3a := RXr.out.cell0; have u3b := RXr.out.cell1; have u3c := RXr.out.cell2; have u3d := RXr.out.cell3; have u3f := RXr.out.frozen 0; have u3g := RXr.out.frozen 1; have u3h := RXr.out.frozen 2; have u3i := RXr.out.frozen 3
 go_wp2
 refine bodyPost_ret (v := .tuple #[.agg #[.bool s1, .slice Xz pz qz, .bool s2, .slice Yz uz tz], .int .i64 0]) (by simp [results, Tryz.results28, go_sem, u3a, u3b, u3c, u3d, u3f, u3g, u3h, u3i]) rfl ⟨_, rfl, ?_, by rw [hg.out]; exact (((DW.out.setCell (by simp <;> omega) _).setCell (by simp <;> omega) _).setCell (by simp <;> omega) _).setCell (by simp <;> omega) _⟩
 have hc := chg_qbox (b' := s1) (d' := s2) (A' := Xz) (n' := pz) (c' := qz) (B' := Yz) (m' := uz) (e' := tz) RXr.out
 exact qv_of (k1.out.kn hc.kn) (k2.out.kn hc.kn)

set_option maxHeartbeats 8000000 in
set_option maxRecDepth 100000 in
theorem rqdiv_zero (va vb : Value) (a b : Rat) (w : World) (ha : Qv w va a.num a.den) (sa : Sr a 20000) (hb : Qv w vb b.num b.den) (sb : Sr b 20000) (h0 : b.num = 0) : Calls Tryz.prog 30 #[va, vb] w (RetQC 0 0 10 w) := by
 obtain ⟨Xan, pan, qan, Xad, pad, qad, rfl, han, had⟩ := ha
 have Han := Lib.hid han
 have Had := Lib.hid had
 have SRa := Lib.hid sa
 clear han had sa
 generalize hs : decide (a.num < 0) = san at *
 clear hs
 generalize hs : decide ((a.den : Int) < 0) = sad at *
 clear hs
 obtain ⟨Xbn, pbn, qbn, Xbd, pbd, qbd, rfl, hbn, hbd⟩ := hb
 have Hbn := Lib.hid hbn
 have Hbd := Lib.hid hbd
 have SRb := Lib.hid sb
 clear hbn hbd sb
 generalize hs : decide (b.num < 0) = sbn at *
 clear hs
 generalize hs : decide ((b.den : Int) < 0) = sbd at *
 clear hs
 have hz : Hid ((a.den : Int) * b.num = 0) := by rw [h0, Int.mul_zero]; rfl
 clear h0
 go_enter Tryz.func30, Tryz.ntmps30
 go_wp2_with fail
 obtain ⟨W, hW⟩ : ∃ W, W = (((w.alloc (Obj.cells #[Value.bool san, Value.slice Xan pan qan, Value.bool sad, Value.slice Xad pad qad] 31)).alloc (Obj.cells #[Value.bool sbn, Value.slice Xbn pbn qbn, Value.bool sbd, Value.slice Xbd pbd qbd] 31)).alloc (Obj.cells #[Value.bool false, Value.slice none 0 0, Value.bool false, Value.slice none 0 0] 31)) := ⟨_, rfl⟩
 rw [← hW]
 have QXa : Hid (QBox W (w.heap.size) san (.slice Xan pan qan) sad (.slice Xad pad qad)) := by rw [hW]; have := ((QBox.new w san (Value.slice Xan pan qan) sad (Value.slice Xad pad qad)).alloc (Obj.cells #[Value.bool sbn, Value.slice Xbn pbn qbn, Value.bool sbd, Value.slice Xbd pbd qbd] 31)).alloc (Obj.cells #[Value.bool false, Value.slice none 0 0, Value.bool false, Value.slice none 0 0] 31); simpa [Hid] using this
 have QXb : Hid (QBox W (w.heap.size + 1) sbn (.slice Xbn pbn qbn) sbd (.slice Xbd pbd qbd)) := by rw [hW]; have := (QBox.new (w.alloc (Obj.cells #[Value.bool san, Value.slice Xan pan qan, Value.bool sad, Value.slice Xad pad qad] 31)) sbn (Value.slice Xbn pbn qbn) sbd (Value.slice Xbd pbd qbd)).alloc (Obj.cells #[Value.bool false, Value.slice none 0 0, Value.bool false, Value.slice none 0 0] 31); simpa [Hid] using this
 have RXr : Hid (QBox W (w.heap.size + 1 + 1) false (.slice none 0 0) false (.slice none 0 0)) := by rw [hW]; have := QBox.new ((w.alloc (Obj.cells #[Value.bool san, Value.slice Xan pan qan, Value.bool sad, Value.slice Xad pad qad] 31)).alloc (Obj.cells #[Value.bool sbn, Value.slice Xbn pbn qbn, Value.bool sbd, Value.slice Xbd pbd qbd] 31)) false (Value.slice none 0 0) false (Value.slice none 0 0); simpa [Hid] using this
 have IVna : Hid (Iv W (.agg #[.bool san, .slice Xan pan qan]) (a.num)) := by rw [hW]; exact (((Han.out).alloc _).alloc _).alloc _
 have IVda : Hid (Iv W (.agg #[.bool sad, .slice Xad pad qad]) ((a.den : Int))) := by rw [hW]; exact (((Had.out).alloc _).alloc _).alloc _
 have IVnb : Hid (Iv W (.agg #[.bool sbn, .slice Xbn pbn qbn]) (b.num)) := by rw [hW]; exact (((Hbn.out).alloc _).alloc _).alloc _
 have IVdb : Hid (Iv W (.agg #[.bool sbd, .slice Xbd pbd qbd]) ((b.den : Int))) := by rw [hW]; exact (((Hbd.out).alloc _).alloc _).alloc _
 have DW : Hid (Below w.heap.size w W) := by rw [hW]; exact (((Below.refl _ _).alloc (by simp <;> omega) _).alloc (by simp <;> omega) _).alloc (by simp <;> omega) _
 clear hW
 generalize hg : w.heap.size = g at *
 replace hg := Lib.hid hg
 go_upto_region 1 with fail
 refine Rg.region_gg W [.is (.pointer (some ⟨g, 0, none⟩)), .is (.agg #[.bool san, .slice Xan pan qan]), .is (.pointer (some ⟨(g + 1), 2, none⟩)), .is (.agg #[.bool sbd, .slice Xbd pbd qbd]), .sat (pIv (a.num * (b.den : Int))) (pIv_keep _), .is (.pointer (some ⟨g, 2, none⟩)), .is (.agg #[.bool sad, .slice Xad pad qad]), .is (.pointer (some ⟨(g + 1), 0, none⟩)), .is (.agg #[.bool sbn, .slice Xbn pbn qbn]), .sat (pIv ((a.den : Int) * b.num)) (pIv_keep _), .sat (pQE (0) (0) (10)) (pQE_keep _ _ _), .sat (pQv (0) (0)) (pQv_keep _ _), .is (Value.int IntKind.i64 (10)), .sto (g + 1 + 1) (sQ (g + 1 + 1) (0) (0)) (sQ_keep _ _ _), .is (Value.int IntKind.i64 (10))] [(g + 1 + 1)] [some 6, some 7, some 8, some 9, some 10, some 11, some 12, some 13, some 14, some 15, some 16, some 17, some 18, none, some 5] (by kernel_rfl) (by kernel_rfl) (by kernel_rfl) (by kernel_rfl) (by kernel_rfl) (by simp [Rg.stos]) (by rfl) (by rfl) (by kernel_rfl) (by intro g hg; simp only [List.mem_cons, List.not_mem_nil, or_false] at hg; subst hg; exact RXr.out.lt) ((Below.refl _ _).drew) (fun Q' => ?_) (fun K hK wn hs => ?_)
 ·refine ⟨?_, ?_, ?_, ?_, ?_, ?_, ?_, ?_, ?_, ?_, ?_, ?_, ?_, ?_, ?_, trivial⟩
  ·intro a' w' ha hs hw hold
   have eo2 : a'.tmps[2]? = some (ptr g) := (ha.rest 2 (by kernel_rfl)).trans rfl
   exact ⟨rfl, .inl ⟨wanted_none rfl, wp_val (run_qfield0 rfl (ev_tmp eo2)) ⟨rfl, Below.refl _ _⟩⟩⟩
  ·intro a' w' ha hs hw hold
   have e0 : a'.tmps[6]? = some (.pointer (some ⟨g, 0, none⟩)) := Rg.slot_get rfl rfl (hw 0 (by kernel_rfl) _ rfl)
   exact ⟨rfl, .inl ⟨wanted_none rfl, wp_val (run_qload0 rfl (ev_tmp e0) (QXa.out.bel hs (by simp only [List.mem_cons, List.not_mem_nil, or_false, not_or]; exact (by omega)))) ⟨rfl, Below.refl _ _⟩⟩⟩
  ·intro a' w' ha hs hw hold
   have eo3 : a'.tmps[3]? = some (ptr (g + 1)) := (ha.rest 3 (by kernel_rfl)).trans rfl
   exact ⟨rfl, .inl ⟨wanted_none rfl, wp_val (run_qfield1 rfl (ev_tmp eo3)) ⟨rfl, Below.refl _ _⟩⟩⟩
  ·intro a' w' ha hs hw hold
   have e2 : a'.tmps[8]? = some (.pointer (some ⟨(g + 1), 2, none⟩)) := Rg.slot_get rfl rfl (hw 2 (by kernel_rfl) _ rfl)
   exact ⟨rfl, .inl ⟨wanted_none rfl, wp_val (run_qload1 rfl (ev_tmp e2) (QXb.out.bel hs (by simp only [List.mem_cons, List.not_mem_nil, or_false, not_or]; exact (by omega)))) ⟨rfl, Below.refl _ _⟩⟩⟩
  ·intro a' w' ha hs hw hold
   have e1 : a'.tmps[7]? = some (.agg #[.bool san, .slice Xan pan qan]) := Rg.slot_get rfl rfl (hw 1 (by kernel_rfl) _ rfl)
   have e3 : a'.tmps[9]? = some (.agg #[.bool sbd, .slice Xbd pbd qbd]) := Rg.slot_get rfl rfl (hw 3 (by kernel_rfl) _ rfl)
   exact ⟨rfl, wanted_none rfl, call_step rfl Tryz.func91 (by kernel_rfl) rfl (map_two (ev_tmp e1) (ev_tmp e3)) (rmul_any _ _ (a.num) ((b.den : Int)) _ (IVna.out.kn hs.kn) (IVdb.out.kn hs.kn) (SRa.out.num.mono (by omega)) (SRb.out.den.mono (by omega))) (fun e w2 he => by obtain ⟨v, rfl, hv, hb⟩ := he; exact ⟨v, rfl, v, rfl, hv, hb⟩)⟩
  ·intro a' w' ha hs hw hold
   have eo2 : a'.tmps[2]? = some (ptr g) := (ha.rest 2 (by kernel_rfl)).trans rfl
   exact ⟨rfl, .inl ⟨wanted_none rfl, wp_val (run_qfield1 rfl (ev_tmp eo2)) ⟨rfl, Below.refl _ _⟩⟩⟩
  ·intro a' w' ha hs hw hold
   have e5 : a'.tmps[11]? = some (.pointer (some ⟨g, 2, none⟩)) := Rg.slot_get rfl rfl (hw 5 (by kernel_rfl) _ rfl)
   exact ⟨rfl, .inl ⟨wanted_none rfl, wp_val (run_qload1 rfl (ev_tmp e5) (QXa.out.bel hs (by simp only [List.mem_cons, List.not_mem_nil, or_false, not_or]; exact (by omega)))) ⟨rfl, Below.refl _ _⟩⟩⟩
  ·intro a' w' ha hs hw hold
   have eo3 : a'.tmps[3]? = some (ptr (g + 1)) := (ha.rest 3 (by kernel_rfl)).trans rfl
   exact ⟨rfl, .inl ⟨wanted_none rfl, wp_val (run_qfield0 rfl (ev_tmp eo3)) ⟨rfl, Below.refl _ _⟩⟩⟩
  ·intro a' w' ha hs hw hold
   have e7 : a'.tmps[13]? = some (.pointer (some ⟨(g + 1), 0, none⟩)) := Rg.slot_get rfl rfl (hw 7 (by kernel_rfl) _ rfl)
   exact ⟨rfl, .inl ⟨wanted_none rfl, wp_val (run_qload0 rfl (ev_tmp e7) (QXb.out.bel hs (by simp only [List.mem_cons, List.not_mem_nil, or_false, not_or]; exact (by omega)))) ⟨rfl, Below.refl _ _⟩⟩⟩
  ·intro a' w' ha hs hw hold
   have e6 : a'.tmps[12]? = some (.agg #[.bool sad, .slice Xad pad qad]) := Rg.slot_get rfl rfl (hw 6 (by kernel_rfl) _ rfl)
   have e8 : a'.tmps[14]? = some (.agg #[.bool sbn, .slice Xbn pbn qbn]) := Rg.slot_get rfl rfl (hw 8 (by kernel_rfl) _ rfl)
   exact ⟨rfl, wanted_none rfl, call_step rfl Tryz.func91 (by kernel_rfl) rfl (map_two (ev_tmp e6) (ev_tmp e8)) (rmul_any _ _ ((a.den : Int)) (b.num) _ (IVda.out.kn hs.kn) (IVnb.out.kn hs.kn) (SRa.out.den.mono (by omega)) (SRb.out.num.mono (by omega))) (fun e w2 he => by obtain ⟨v, rfl, hv, hb⟩ := he; exact ⟨v, rfl, v, rfl, hv, hb⟩)⟩
  ·intro a' w' ha hs hw hold
   obtain ⟨v4, e4, q4⟩ := hw 4 (by kernel_rfl) _ rfl
   replace e4 : a'.tmps[10]? = some v4 := Rg.slot_get rfl rfl e4
   obtain ⟨v9, e9, q9⟩ := hw 9 (by kernel_rfl) _ rfl
   replace e9 : a'.tmps[15]? = some v9 := Rg.slot_get rfl rfl e9
   exact ⟨rfl, wanted_none rfl, call_step rfl Tryz.func102 (by kernel_rfl) rfl (map_two (ev_tmp e4) (ev_tmp e9)) (rqnew_zero _ _ (a.num * (b.den : Int)) ((a.den : Int) * b.num) _ q4 (((SRa.out.num).mul (SRb.out.den)).mono (by omega)) q9 (((SRa.out.den).mul (SRb.out.num)).mono (by omega)) hz.out) (fun e w2 he => by obtain ⟨v, rfl, hv, hb⟩ := he; exact ⟨_, rfl, _, rfl, ⟨v, rfl, hv⟩, hb⟩)⟩
  ·intro a' w' ha hs hw hold
   obtain ⟨v10, e10, q10⟩ := hw 10 (by kernel_rfl) _ rfl
   replace e10 : a'.tmps[16]? = some v10 := Rg.slot_get rfl rfl e10
   obtain ⟨xa, rfl, h1⟩ := q10
   exact ⟨rfl, wanted_none rfl, wp_val (run_extract (vs := [xa, .int .i64 (10)]) rfl (ev_tmp e10) rfl) ⟨_, rfl, h1, Below.refl _ _⟩⟩
  ·intro a' w' ha hs hw hold
   obtain ⟨v10, e10, q10⟩ := hw 10 (by kernel_rfl) _ rfl
   replace e10 : a'.tmps[16]? = some v10 := Rg.slot_get rfl rfl e10
   obtain ⟨xa, rfl, h1⟩ := q10
   exact ⟨rfl, .inl ⟨wanted_none rfl, wp_val (run_extract (vs := [xa, .int .i64 (10)]) rfl (ev_tmp e10) rfl) ⟨rfl, Below.refl _ _⟩⟩⟩
  ·intro a' w' ha hs hw hold
   obtain ⟨v11, e11, q11⟩ := hw 11 (by kernel_rfl) _ rfl
   replace e11 : a'.tmps[17]? = some v11 := Rg.slot_get rfl rfl e11
   have eo4 : a'.tmps[4]? = some (ptr (g + 1 + 1)) := (ha.rest 4 (by kernel_rfl)).trans rfl
   exact ⟨rfl, wanted_none rfl, fun he => step_stoq rfl rfl (ev_tmp eo4) (ev_tmp e11) q11 RXr.out he⟩
  ·intro a' w' ha hs hw hold
   have e12 : a'.tmps[18]? = some (Value.int IntKind.i64 (10)) := Rg.slot_get rfl rfl (hw 12 (by kernel_rfl) _ rfl)
   exact ⟨rfl, .inl ⟨wanted_none rfl, wp_val (run_assign rfl (ev_tmp e12)) ⟨rfl, Below.refl _ _⟩⟩⟩
 simp only [Rg.allG]
 intro r1x4 _
 intro r1x9 _
 intro r1x10 _
 intro r1x11 _
 intro hSr
 simp only [setOpt, Rg.setOpt, List.set_cons_succ, List.set_cons_zero]
 refine hK _ _ ?_
 clear hK K
 have DN : Hid (Below g w wn) := hs.base DW.out (by have := hg.out; omega) (by simp only [List.mem_cons, List.not_mem_nil, or_false]; omega)
 obtain ⟨Ar, ir, cr, Br, jr, dr, hcr, hir, hjr⟩ := hSr
 have kra := hcr.cell0; have krb := hcr.cell1; have krc := hcr.cell2; have krd := hcr.cell3
 have HIr := Lib.hid hir; clear hir
 have HJr := Lib.hid hjr; clear hjr
 go_wp2
 exact bodyPost_ret (v := .tuple #[.agg #[.bool (decide ((0 : Int) < 0)), .slice Ar ir cr, .bool (decide ((0 : Int) < 0)), .slice Br jr dr], .int .i64 10]) (by simp [results, Tryz.results30, go_sem, kra, krb, krc, krd]) rfl ⟨_, rfl, ⟨Ar, ir, cr, Br, jr, dr, rfl, HIr.out, HJr.out⟩, by rw [hg.out]; exact DN.out⟩

set_option maxHeartbeats 8000000 in
set_option maxRecDepth 100000 in
theorem rqdiv_any (va vb : Value) (a b : Rat) (w : World) (ha : Qv w va a.num a.den) (sa : Sr a 20000) (hb : Qv w vb b.num b.den) (sb : Sr b 20000) (h0 : b.num ≠ 0) : Calls Tryz.prog 30 #[va, vb] w (RetQC (a / b).num (a / b).den 0 w) := by
 obtain ⟨Xan, pan, qan, Xad, pad, qad, rfl, han, had⟩ := ha
 have Han := Lib.hid han
 have Had := Lib.hid had
 have SRa := Lib.hid sa
 clear han had sa
 generalize hs : decide (a.num < 0) = san at *
 clear hs
 generalize hs : decide ((a.den : Int) < 0) = sad at *
 clear hs
 obtain ⟨Xbn, pbn, qbn, Xbd, pbd, qbd, rfl, hbn, hbd⟩ := hb
 have Hbn := Lib.hid hbn
 have Hbd := Lib.hid hbd
 have SRb := Lib.hid sb
 clear hbn hbd sb
 generalize hs : decide (b.num < 0) = sbn at *
 clear hs
 generalize hs : decide ((b.den : Int) < 0) = sbd at *
 clear hs
 have hz : Hid ((a.den : Int) * b.num ≠ 0) := Int.mul_ne_zero (by have := den_cast a; omega) h0
 clear h0
 go_enter Tryz.func30, Tryz.ntmps30
 go_wp2_with fail
 obtain ⟨W, hW⟩ : ∃ W, W = (((w.alloc (Obj.cells #[Value.bool san, Value.slice Xan pan qan, Value.bool sad, Value.slice Xad pad qad] 31)).alloc (Obj.cells #[Value.bool sbn, Value.slice Xbn pbn qbn, Value.bool sbd, Value.slice Xbd pbd qbd] 31)).alloc (Obj.cells #[Value.bool false, Value.slice none 0 0, Value.bool false, Value.slice none 0 0] 31)) := ⟨_, rfl⟩
 rw [← hW]
 have QXa : Hid (QBox W (w.heap.size) san (.slice Xan pan qan) sad (.slice Xad pad qad)) := by rw [hW]; have := ((QBox.new w san (Value.slice Xan pan qan) sad (Value.slice Xad pad qad)).alloc (Obj.cells #[Value.bool sbn, Value.slice Xbn pbn qbn, Value.bool sbd, Value.slice Xbd pbd qbd] 31)).alloc (Obj.cells #[Value.bool false, Value.slice none 0 0, Value.bool false, Value.slice none 0 0] 31); simpa [Hid] using this
 have QXb : Hid (QBox W (w.heap.size + 1) sbn (.slice Xbn pbn qbn) sbd (.slice Xbd pbd qbd)) := by rw [hW]; have := (QBox.new (w.alloc (Obj.cells #[Value.bool san, Value.slice Xan pan qan, Value.bool sad, Value.slice Xad pad qad] 31)) sbn (Value.slice Xbn pbn qbn) sbd (Value.slice Xbd pbd qbd)).alloc (Obj.cells #[Value.bool false, Value.slice none 0 0, Value.bool false, Value.slice none 0 0] 31); simpa [Hid] using this
 have RXr : Hid (QBox W (w.heap.size + 1 + 1) false (.slice none 0 0) false (.slice none 0 0)) := by rw [hW]; have := QBox.new ((w.alloc (Obj.cells #[Value.bool san, Value.slice Xan pan qan, Value.bool sad, Value.slice Xad pad qad] 31)).alloc (Obj.cells #[Value.bool sbn, Value.slice Xbn pbn qbn, Value.bool sbd, Value.slice Xbd pbd qbd] 31)) false (Value.slice none 0 0) false (Value.slice none 0 0); simpa [Hid] using this
 have IVna : Hid (Iv W (.agg #[.bool san, .slice Xan pan qan]) (a.num)) := by rw [hW]; exact (((Han.out).alloc _).alloc _).alloc _
 have IVda : Hid (Iv W (.agg #[.bool sad, .slice Xad pad qad]) ((a.den : Int))) := by rw [hW]; exact (((Had.out).alloc _).alloc _).alloc _
 have IVnb : Hid (Iv W (.agg #[.bool sbn, .slice Xbn pbn qbn]) (b.num)) := by rw [hW]; exact (((Hbn.out).alloc _).alloc _).alloc _
 have IVdb : Hid (Iv W (.agg #[.bool sbd, .slice Xbd pbd qbd]) ((b.den : Int))) := by rw [hW]; exact (((Hbd.out).alloc _).alloc _).alloc _
 have DW : Hid (Below w.heap.size w W) := by rw [hW]; exact (((Below.refl _ _).alloc (by simp <;> omega) _).alloc (by simp <;> omega) _).alloc (by simp <;> omega) _
 clear hW
 generalize hg : w.heap.size = g at *
 replace hg := Lib.hid hg
 go_upto_region 1 with fail
 refine Rg.region_gg W [.is (.pointer (some ⟨g, 0, none⟩)), .is (.agg #[.bool san, .slice Xan pan qan]), .is (.pointer (some ⟨(g + 1), 2, none⟩)), .is (.agg #[.bool sbd, .slice Xbd pbd qbd]), .sat (pIv (a.num * (b.den : Int))) (pIv_keep _), .is (.pointer (some ⟨g, 2, none⟩)), .is (.agg #[.bool sad, .slice Xad pad qad]), .is (.pointer (some ⟨(g + 1), 0, none⟩)), .is (.agg #[.bool sbn, .slice Xbn pbn qbn]), .sat (pIv ((a.den : Int) * b.num)) (pIv_keep _), .sat (pQE ((a / b).num) (((a / b).den : Int)) (0)) (pQE_keep _ _ _), .sat (pQv ((a / b).num) (((a / b).den : Int))) (pQv_keep _ _), .is (Value.int IntKind.i64 (0)), .sto (g + 1 + 1) (sQ (g + 1 + 1) ((a / b).num) (((a / b).den : Int))) (sQ_keep _ _ _), .is (Value.int IntKind.i64 (0))] [(g + 1 + 1)] [some 6, some 7, some 8, some 9, some 10, some 11, some 12, some 13, some 14, some 15, some 16, some 17, some 18, none, some 5] (by kernel_rfl) (by kernel_rfl) (by kernel_rfl) (by kernel_rfl) (by kernel_rfl) (by simp [Rg.stos]) (by rfl) (by rfl) (by kernel_rfl) (by intro g hg; simp only [List.mem_cons, List.not_mem_nil, or_false] at hg; subst hg; exact RXr.out.lt) ((Below.refl _ _).drew) (fun Q' => ?_) (fun K hK wn hs => ?_)
 ·refine ⟨?_, ?_, ?_, ?_, ?_, ?_, ?_, ?_, ?_, ?_, ?_, ?_, ?_, ?_, ?_, trivial⟩
  ·intro a' w' ha hs hw hold
   have eo2 : a'.tmps[2]? = some (ptr g) := (ha.rest 2 (by kernel_rfl)).trans rfl
   exact ⟨rfl, .inl ⟨wanted_none rfl, wp_val (run_qfield0 rfl (ev_tmp eo2)) ⟨rfl, Below.refl _ _⟩⟩⟩
  ·intro a' w' ha hs hw hold
   have e0 : a'.tmps[6]? = some (.pointer (some ⟨g, 0, none⟩)) := Rg.slot_get rfl rfl (hw 0 (by kernel_rfl) _ rfl)
   exact ⟨rfl, .inl ⟨wanted_none rfl, wp_val (run_qload0 rfl (ev_tmp e0) (QXa.out.bel hs (by simp only [List.mem_cons, List.not_mem_nil, or_false, not_or]; exact (by omega)))) ⟨rfl, Below.refl _ _⟩⟩⟩
  ·intro a' w' ha hs hw hold
   have eo3 : a'.tmps[3]? = some (ptr (g + 1)) := (ha.rest 3 (by kernel_rfl)).trans rfl
   exact ⟨rfl, .inl ⟨wanted_none rfl, wp_val (run_qfield1 rfl (ev_tmp eo3)) ⟨rfl, Below.refl _ _⟩⟩⟩
  ·intro a' w' ha hs hw hold
   have e2 : a'.tmps[8]? = some (.pointer (some ⟨(g + 1), 2, none⟩)) := Rg.slot_get rfl rfl (hw 2 (by kernel_rfl) _ rfl)
   exact ⟨rfl, .inl ⟨wanted_none rfl, wp_val (run_qload1 rfl (ev_tmp e2) (QXb.out.bel hs (by simp only [List.mem_cons, List.not_mem_nil, or_false, not_or]; exact (by omega)))) ⟨rfl, Below.refl _ _⟩⟩⟩
  ·intro a' w' ha hs hw hold
   have e1 : a'.tmps[7]? = some (.agg #[.bool san, .slice Xan pan qan]) := Rg.slot_get rfl rfl (hw 1 (by kernel_rfl) _ rfl)
   have e3 : a'.tmps[9]? = some (.agg #[.bool sbd, .slice Xbd pbd qbd]) := Rg.slot_get rfl rfl (hw 3 (by kernel_rfl) _ rfl)
   exact ⟨rfl, wanted_none rfl, call_step rfl Tryz.func91 (by kernel_rfl) rfl (map_two (ev_tmp e1) (ev_tmp e3)) (rmul_any _ _ (a.num) ((b.den : Int)) _ (IVna.out.kn hs.kn) (IVdb.out.kn hs.kn) (SRa.out.num.mono (by omega)) (SRb.out.den.mono (by omega))) (fun e w2 he => by obtain ⟨v, rfl, hv, hb⟩ := he; exact ⟨v, rfl, v, rfl, hv, hb⟩)⟩
  ·intro a' w' ha hs hw hold
   have eo2 : a'.tmps[2]? = some (ptr g) := (ha.rest 2 (by kernel_rfl)).trans rfl
   exact ⟨rfl, .inl ⟨wanted_none rfl, wp_val (run_qfield1 rfl (ev_tmp eo2)) ⟨rfl, Below.refl _ _⟩⟩⟩
  ·intro a' w' ha hs hw hold
   have e5 : a'.tmps[11]? = some (.pointer (some ⟨g, 2, none⟩)) := Rg.slot_get rfl rfl (hw 5 (by kernel_rfl) _ rfl)
   exact ⟨rfl, .inl ⟨wanted_none rfl, wp_val (run_qload1 rfl (ev_tmp e5) (QXa.out.bel hs (by simp only [List.mem_cons, List.not_mem_nil, or_false, not_or]; exact (by omega)))) ⟨rfl, Below.refl _ _⟩⟩⟩
  ·intro a' w' ha hs hw hold
   have eo3 : a'.tmps[3]? = some (ptr (g + 1)) := (ha.rest 3 (by kernel_rfl)).trans rfl
   exact ⟨rfl, .inl ⟨wanted_none rfl, wp_val (run_qfield0 rfl (ev_tmp eo3)) ⟨rfl, Below.refl _ _⟩⟩⟩
  ·intro a' w' ha hs hw hold
   have e7 : a'.tmps[13]? = some (.pointer (some ⟨(g + 1), 0, none⟩)) := Rg.slot_get rfl rfl (hw 7 (by kernel_rfl) _ rfl)
   exact ⟨rfl, .inl ⟨wanted_none rfl, wp_val (run_qload0 rfl (ev_tmp e7) (QXb.out.bel hs (by simp only [List.mem_cons, List.not_mem_nil, or_false, not_or]; exact (by omega)))) ⟨rfl, Below.refl _ _⟩⟩⟩
  ·intro a' w' ha hs hw hold
   have e6 : a'.tmps[12]? = some (.agg #[.bool sad, .slice Xad pad qad]) := Rg.slot_get rfl rfl (hw 6 (by kernel_rfl) _ rfl)
   have e8 : a'.tmps[14]? = some (.agg #[.bool sbn, .slice Xbn pbn qbn]) := Rg.slot_get rfl rfl (hw 8 (by kernel_rfl) _ rfl)
   exact ⟨rfl, wanted_none rfl, call_step rfl Tryz.func91 (by kernel_rfl) rfl (map_two (ev_tmp e6) (ev_tmp e8)) (rmul_any _ _ ((a.den : Int)) (b.num) _ (IVda.out.kn hs.kn) (IVnb.out.kn hs.kn) (SRa.out.den.mono (by omega)) (SRb.out.num.mono (by omega))) (fun e w2 he => by obtain ⟨v, rfl, hv, hb⟩ := he; exact ⟨v, rfl, v, rfl, hv, hb⟩)⟩
  ·intro a' w' ha hs hw hold
   obtain ⟨v4, e4, q4⟩ := hw 4 (by kernel_rfl) _ rfl
   replace e4 : a'.tmps[10]? = some v4 := Rg.slot_get rfl rfl e4
   obtain ⟨v9, e9, q9⟩ := hw 9 (by kernel_rfl) _ rfl
   replace e9 : a'.tmps[15]? = some v9 := Rg.slot_get rfl rfl e9
   exact ⟨rfl, wanted_none rfl, call_step rfl Tryz.func102 (by kernel_rfl) rfl (map_two (ev_tmp e4) (ev_tmp e9)) (rqnew_is _ _ (a.num * (b.den : Int)) ((a.den : Int) * b.num) (a / b) _ q4 (((SRa.out.num).mul (SRb.out.den)).mono (by omega)) q9 (((SRa.out.den).mul (SRb.out.num)).mono (by omega)) hz.out (rdi_div a b)) (fun e w2 he => by obtain ⟨v, rfl, hv, hb⟩ := he; exact ⟨_, rfl, _, rfl, ⟨v, rfl, hv⟩, hb⟩)⟩
  ·intro a' w' ha hs hw hold
   obtain ⟨v10, e10, q10⟩ := hw 10 (by kernel_rfl) _ rfl
   replace e10 : a'.tmps[16]? = some v10 := Rg.slot_get rfl rfl e10
   obtain ⟨xa, rfl, h1⟩ := q10
   exact ⟨rfl, wanted_none rfl, wp_val (run_extract (vs := [xa, .int .i64 (0)]) rfl (ev_tmp e10) rfl) ⟨_, rfl, h1, Below.refl _ _⟩⟩
  ·intro a' w' ha hs hw hold
   obtain ⟨v10, e10, q10⟩ := hw 10 (by kernel_rfl) _ rfl
   replace e10 : a'.tmps[16]? = some v10 := Rg.slot_get rfl rfl e10
   obtain ⟨xa, rfl, h1⟩ := q10
   exact ⟨rfl, .inl ⟨wanted_none rfl, wp_val (run_extract (vs := [xa, .int .i64 (0)]) rfl (ev_tmp e10) rfl) ⟨rfl, Below.refl _ _⟩⟩⟩
  ·intro a' w' ha hs hw hold
   obtain ⟨v11, e11, q11⟩ := hw 11 (by kernel_rfl) _ rfl
   replace e11 : a'.tmps[17]? = some v11 := Rg.slot_get rfl rfl e11
   have eo4 : a'.tmps[4]? = some (ptr (g + 1 + 1)) := (ha.rest 4 (by kernel_rfl)).trans rfl
   exact ⟨rfl, wanted_none rfl, fun he => step_stoq rfl rfl (ev_tmp eo4) (ev_tmp e11) q11 RXr.out he⟩
  ·intro a' w' ha hs hw hold
   have e12 : a'.tmps[18]? = some (Value.int IntKind.i64 (0)) := Rg.slot_get rfl rfl (hw 12 (by kernel_rfl) _ rfl)
   exact ⟨rfl, .inl ⟨wanted_none rfl, wp_val (run_assign rfl (ev_tmp e12)) ⟨rfl, Below.refl _ _⟩⟩⟩
 simp only [Rg.allG]
 intro r1x4 _
 intro r1x9 _
 intro r1x10 _
 intro r1x11 _
 intro hSr
 simp only [setOpt, Rg.setOpt, List.set_cons_succ, List.set_cons_zero]
 refine hK _ _ ?_
 clear hK K
 have DN : Hid (Below g w wn) := hs.base DW.out (by have := hg.out; omega) (by simp only [List.mem_cons, List.not_mem_nil, or_false]; omega)
 obtain ⟨Ar, ir, cr, Br, jr, dr, hcr, hir, hjr⟩ := hSr
 have kra := hcr.cell0; have krb := hcr.cell1; have krc := hcr.cell2; have krd := hcr.cell3
 have HIr := Lib.hid hir; clear hir
 have HJr := Lib.hid hjr; clear hjr
 go_wp2
 exact bodyPost_ret (v := .tuple #[.agg #[.bool (decide ((a / b).num < 0)), .slice Ar ir cr, .bool (decide (((a / b).den : Int) < 0)), .slice Br jr dr], .int .i64 0]) (by simp [results, Tryz.results30, go_sem, kra, krb, krc, krd]) rfl ⟨_, rfl, ⟨Ar, ir, cr, Br, jr, dr, rfl, HIr.out, HJr.out⟩, by rw [hg.out]; exact DN.out⟩
end Go.Proofs.YtfigimfdojbkeaaGreat
