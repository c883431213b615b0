/-
  The reference's functions on fractions.
-/
import Derived.Test.YtfigimfdojbkeaaGreatRqA
import Derived.Test.YtfigimfdojbkeaaGreatLawI
import Derived.Test.YtfigimfdojbkeaaGreatRatI
import Derived.Test.YtfigimfdojbkeaaGreatRatZ
import Derived.Deep.DeepCutAuto
import Derived.Handy
set_option linter.unusedSimpArgs false
set_option linter.unusedVariables false
namespace Go.Proofs.YtfigimfdojbkeaaGreat
open Go.RowKit
attribute [local go_sem ↓] Go.wp_at_zero Go.wp_at_succ

set_option maxHeartbeats 8000000 in
set_option maxRecDepth 100000 in
theorem rqtext_one (va : Value) (a : Rat) (w : World) (ha : Qv w va a.num a.den) (sa : Sr a 200000) (h1 : (a.den : Int) = 1) : Calls Tryz.prog 44 #[va] w (RetV (.string (qtx a)) w) := by
  obtain ⟨Xan, pan, qan, Xad, pad, qad, rfl, han, had⟩ := ha
  have Han := Lib.hid han
  have Had := Lib.hid had
  have SRa := Lib.hid sa
  clear han had sa
  generalize hs : decide (a.num < 0) = san at *
  clear hs
  generalize hs : decide ((a.den : Int) < 0) = sad at *
  clear hs
  obtain ⟨o, ho⟩ : ∃ o, cmpZ (a.den : Int) 1 = o := ⟨_, rfl⟩
  have e1 : (o == 0) = true := by
    rw [← ho]
    unfold cmpZ
    rw [h1]; rfl
  have hq : Hid (qtx a = txs a.num) := if_pos h1
  have hz1 := txs_size SRa.out.num
  have hz2 := txs_size SRa.out.den
  have HZ1 := Lib.hid hz1
  have HZ2 := Lib.hid hz2
  replace ho := Lib.hid ho
  clear h1 hz1 hz2
  go_enter Tryz.func44, Tryz.ntmps44
  go_wp2_with fail
  obtain ⟨W, hW⟩ : ∃ W, W = (w.alloc (Obj.cells #[Value.bool san, Value.slice Xan pan qan, Value.bool sad, Value.slice Xad pad qad] 31)) := ⟨_, rfl⟩
  rw [← hW]
  have QXa : Hid (QBox W (w.heap.size) san (.slice Xan pan qan) sad (.slice Xad pad qad)) := by rw [hW]; have := QBox.new w san (Value.slice Xan pan qan) sad (Value.slice Xad pad qad); simpa [Hid] using this
  have IVna : Hid (Iv W (.agg #[.bool san, .slice Xan pan qan]) (a.num)) := by rw [hW]; exact (Han.out).alloc _
  have IVda : Hid (Iv W (.agg #[.bool sad, .slice Xad pad qad]) ((a.den : Int))) := by rw [hW]; exact (Had.out).alloc _
  have DW : Hid (Below w.heap.size w W) := by rw [hW]; exact (Below.refl _ _).alloc (by simp <;> omega) _
  clear hW
  generalize hg : w.heap.size = g at *
  replace hg := Lib.hid hg
  go_upto_region 1 with fail
  refine Rg.region_gg W [.is (.pointer (some ⟨g, 2, none⟩)), .is (.agg #[.bool sad, .slice Xad pad qad]), .sat (pIv ((1 : Int))) (pIv_keep _), .is (Value.int IntKind.i64 o), .is (Value.bool true)] [] [some 3, some 4, some 5, some 6, some 7] (by kernel_rfl) (by kernel_rfl) (by kernel_rfl) (by kernel_rfl) (by kernel_rfl) (by simp [Rg.stos]) (by rfl) (by rfl) (by kernel_rfl) (by simp) ((Below.refl _ _).drew) (fun Q' => ?_) (fun K hK wn hs => ?_)
  · refine ⟨?_, ?_, ?_, ?_, ?_, trivial⟩
    · intro a' w' ha hs hw hold
      have eo1 : a'.tmps[1]? = some (ptr g) := (ha.rest 1 (by kernel_rfl)).trans rfl
      exact ⟨rfl, .inl ⟨wanted_none rfl, wp_val (run_qfield1 rfl (ev_tmp eo1)) ⟨rfl, Below.refl _ _⟩⟩⟩
    · intro a' w' ha hs hw hold
      have e0 : a'.tmps[3]? = some (.pointer (some ⟨g, 2, none⟩)) := Rg.slot_get rfl rfl (hw 0 (by kernel_rfl) _ rfl)
      exact ⟨rfl, .inl ⟨wanted_none rfl, wp_val (run_qload1 rfl (ev_tmp e0) (QXa.out.bel hs (by simp))) ⟨rfl, Below.refl _ _⟩⟩⟩
    · intro a' w' ha hs hw hold
      exact ⟨rfl, wanted_none rfl, call_step rfl Tryz.func89 (by kernel_rfl) rfl (map_one rfl) (rof_any 1 _ (by omega) (by omega)) (fun e w2 he => by obtain ⟨v, rfl, hv, hb⟩ := he; exact ⟨v, rfl, v, rfl, hv, hb⟩)⟩
    · intro a' w' ha hs hw hold
      have e1 : a'.tmps[4]? = some (.agg #[.bool sad, .slice Xad pad qad]) := Rg.slot_get rfl rfl (hw 1 (by kernel_rfl) _ rfl)
      obtain ⟨v2, e2, q2⟩ := hw 2 (by kernel_rfl) _ rfl
      replace e2 : a'.tmps[5]? = some v2 := Rg.slot_get rfl rfl e2
      exact ⟨rfl, .inl ⟨wanted_none rfl, call_step rfl Tryz.func109 (by kernel_rfl) rfl (map_two (ev_tmp e1) (ev_tmp e2)) (ho.out ▸ rcmp_any _ _ (a.den : Int) 1 _ (IVda.out.kn hs.kn) q2 (SRa.out.den.mono (by omega)) (szs (by omega) (by omega))) (fun e w2 he => by obtain ⟨rfl, hb⟩ := he; exact ⟨_, rfl, rfl, hb⟩)⟩⟩
    · intro a' w' ha hs hw hold
      have e3 : a'.tmps[6]? = some (Value.int IntKind.i64 o) := Rg.slot_get rfl rfl (hw 3 (by kernel_rfl) _ rfl)
      exact ⟨rfl, .inl ⟨wanted_none rfl, wp_val (run_eqlI rfl (ev_tmp e3) rfl e1) ⟨rfl, Below.refl _ _⟩⟩⟩
  simp only [Rg.allG]
  intro r1x2 _
  simp only [setOpt, Rg.setOpt, List.set_cons_succ, List.set_cons_zero]
  refine hK _ _ ?_
  clear hK K
  replace hs := hs.below
  replace QXa := nxq QXa hs rfl; replace IVna := nxv IVna hs rfl; replace IVda := nxv IVda hs rfl
  replace DW := nxd DW hg hs rfl rfl rfl rfl
  clear hs
  go_upto_region 2 with fail
  clear e1
  have u2a := QXa.out.cell0; have u2b := QXa.out.cell1; have u2c := QXa.out.cell2; have u2d := QXa.out.cell3
  go_wp2_with fail
  clear u2a u2b u2c u2d
  refine (rtext_any _ a.num _ IVna.out SRa.out.num).mono ?_
  rintro e y3 ⟨rfl, hb⟩
  replace QXa := nxq QXa hb rfl; replace IVna := nxv IVna hb rfl; replace IVda := nxv IVda hb rfl
  replace DW := nxd DW hg hb rfl rfl rfl rfl
  clear hb
  go_wp2
  go_ret
  exact ⟨by rw [hq.out]; rfl, by rw [hg.out]; exact DW.out⟩

set_option maxHeartbeats 8000000 in
set_option maxRecDepth 100000 in
theorem rqtext_two (va : Value) (a : Rat) (w : World) (ha : Qv w va a.num a.den) (sa : Sr a 200000) (h1 : (a.den : Int) ≠ 1) : Calls Tryz.prog 44 #[va] w (RetV (.string (qtx a)) w) := by
  obtain ⟨Xan, pan, qan, Xad, pad, qad, rfl, han, had⟩ := ha
  have Han := Lib.hid han
  have Had := Lib.hid had
  have SRa := Lib.hid sa
  clear han had sa
  generalize hs : decide (a.num < 0) = san at *
  clear hs
  generalize hs : decide ((a.den : Int) < 0) = sad at *
  clear hs
  obtain ⟨o, ho⟩ : ∃ o, cmpZ (a.den : Int) 1 = o := ⟨_, rfl⟩
  have e1 : (o == 0) = false := by
    rw [← ho]
    unfold cmpZ
    split <;> (try split) <;> first | rfl | omega
  have hq : Hid (qtx a = txs a.num ++ slash ++ txs a.den) := if_neg h1
  have hz1 := txs_size SRa.out.num
  have hz2 := txs_size SRa.out.den
  have HZ1 := Lib.hid hz1
  have HZ2 := Lib.hid hz2
  replace ho := Lib.hid ho
  clear h1 hz1 hz2
  go_enter Tryz.func44, Tryz.ntmps44
  go_wp2_with fail
  obtain ⟨W, hW⟩ : ∃ W, W = (w.alloc (Obj.cells #[Value.bool san, Value.slice Xan pan qan, Value.bool sad, Value.slice Xad pad qad] 31)) := ⟨_, rfl⟩
  rw [← hW]
  have QXa : Hid (QBox W (w.heap.size) san (.slice Xan pan qan) sad (.slice Xad pad qad)) := by rw [hW]; have := QBox.new w san (Value.slice Xan pan qan) sad (Value.slice Xad pad qad); simpa [Hid] using this
  have IVna : Hid (Iv W (.agg #[.bool san, .slice Xan pan qan]) (a.num)) := by rw [hW]; exact (Han.out).alloc _
  have IVda : Hid (Iv W (.agg #[.bool sad, .slice Xad pad qad]) ((a.den : Int))) := by rw [hW]; exact (Had.out).alloc _
  have DW : Hid (Below w.heap.size w W) := by rw [hW]; exact (Below.refl _ _).alloc (by simp <;> omega) _
  clear hW
  generalize hg : w.heap.size = g at *
  replace hg := Lib.hid hg
  go_upto_region 1 with fail
  refine Rg.region_gg W [.is (.pointer (some ⟨g, 2, none⟩)), .is (.agg #[.bool sad, .slice Xad pad qad]), .sat (pIv ((1 : Int))) (pIv_keep _), .is (Value.int IntKind.i64 o), .is (Value.bool false)] [] [some 3, some 4, some 5, some 6, some 7] (by kernel_rfl) (by kernel_rfl) (by kernel_rfl) (by kernel_rfl) (by kernel_rfl) (by simp [Rg.stos]) (by rfl) (by rfl) (by kernel_rfl) (by simp) ((Below.refl _ _).drew) (fun Q' => ?_) (fun K hK wn hs => ?_)
  · refine ⟨?_, ?_, ?_, ?_, ?_, trivial⟩
    · intro a' w' ha hs hw hold
      have eo1 : a'.tmps[1]? = some (ptr g) := (ha.rest 1 (by kernel_rfl)).trans rfl
      exact ⟨rfl, .inl ⟨wanted_none rfl, wp_val (run_qfield1 rfl (ev_tmp eo1)) ⟨rfl, Below.refl _ _⟩⟩⟩
    · intro a' w' ha hs hw hold
      have e0 : a'.tmps[3]? = some (.pointer (some ⟨g, 2, none⟩)) := Rg.slot_get rfl rfl (hw 0 (by kernel_rfl) _ rfl)
      exact ⟨rfl, .inl ⟨wanted_none rfl, wp_val (run_qload1 rfl (ev_tmp e0) (QXa.out.bel hs (by simp))) ⟨rfl, Below.refl _ _⟩⟩⟩
    · intro a' w' ha hs hw hold
      exact ⟨rfl, wanted_none rfl, call_step rfl Tryz.func89 (by kernel_rfl) rfl (map_one rfl) (rof_any 1 _ (by omega) (by omega)) (fun e w2 he => by obtain ⟨v, rfl, hv, hb⟩ := he; exact ⟨v, rfl, v, rfl, hv, hb⟩)⟩
    · intro a' w' ha hs hw hold
      have e1 : a'.tmps[4]? = some (.agg #[.bool sad, .slice Xad pad qad]) := Rg.slot_get rfl rfl (hw 1 (by kernel_rfl) _ rfl)
      obtain ⟨v2, e2, q2⟩ := hw 2 (by kernel_rfl) _ rfl
      replace e2 : a'.tmps[5]? = some v2 := Rg.slot_get rfl rfl e2
      exact ⟨rfl, .inl ⟨wanted_none rfl, call_step rfl Tryz.func109 (by kernel_rfl) rfl (map_two (ev_tmp e1) (ev_tmp e2)) (ho.out ▸ rcmp_any _ _ (a.den : Int) 1 _ (IVda.out.kn hs.kn) q2 (SRa.out.den.mono (by omega)) (szs (by omega) (by omega))) (fun e w2 he => by obtain ⟨rfl, hb⟩ := he; exact ⟨_, rfl, rfl, hb⟩)⟩⟩
    · intro a' w' ha hs hw hold
      have e3 : a'.tmps[6]? = some (Value.int IntKind.i64 o) := Rg.slot_get rfl rfl (hw 3 (by kernel_rfl) _ rfl)
      exact ⟨rfl, .inl ⟨wanted_none rfl, wp_val (run_eqlI rfl (ev_tmp e3) rfl e1) ⟨rfl, Below.refl _ _⟩⟩⟩
  simp only [Rg.allG]
  intro r1x2 _
  simp only [setOpt, Rg.setOpt, List.set_cons_succ, List.set_cons_zero]
  refine hK _ _ ?_
  clear hK K
  replace hs := hs.below
  replace QXa := nxq QXa hs rfl; replace IVna := nxv IVna hs rfl; replace IVda := nxv IVda hs rfl
  replace DW := nxd DW hg hs rfl rfl rfl rfl
  clear hs
  go_upto_region 3 with fail
  clear e1
  refine Rg.region_gg wn [.is (.pointer (some ⟨g, 0, none⟩)), .is (.agg #[.bool san, .slice Xan pan qan]), .is (Value.string (txs a.num)), .is (Value.string (txs a.num ++ slash)), .is (.pointer (some ⟨g, 2, none⟩)), .is (.agg #[.bool sad, .slice Xad pad qad]), .is (Value.string (txs a.den)), .is (Value.string (txs a.num ++ slash ++ txs a.den)), .is (Value.string (txs a.num ++ slash ++ txs a.den))] [] [some 11, some 12, some 13, some 14, some 15, some 16, some 17, some 18, some 2] (by kernel_rfl) (by kernel_rfl) (by kernel_rfl) (by kernel_rfl) (by kernel_rfl) (by simp [Rg.stos]) (by rfl) (by rfl) (by kernel_rfl) (by simp) ((Below.refl _ _).drew) (fun Q' => ?_) (fun K hK wn hs => ?_)
  · refine ⟨?_, ?_, ?_, ?_, ?_, ?_, ?_, ?_, ?_, trivial⟩
    · intro a' w' ha hs hw hold
      have eo1 : a'.tmps[1]? = some (ptr g) := (ha.rest 1 (by kernel_rfl)).trans rfl
      exact ⟨rfl, .inl ⟨wanted_none rfl, wp_val (run_qfield0 rfl (ev_tmp eo1)) ⟨rfl, Below.refl _ _⟩⟩⟩
    · intro a' w' ha hs hw hold
      have e0 : a'.tmps[11]? = some (.pointer (some ⟨g, 0, none⟩)) := Rg.slot_get rfl rfl (hw 0 (by kernel_rfl) _ rfl)
      exact ⟨rfl, .inl ⟨wanted_none rfl, wp_val (run_qload0 rfl (ev_tmp e0) (QXa.out.bel hs (by simp))) ⟨rfl, Below.refl _ _⟩⟩⟩
    · intro a' w' ha hs hw hold
      have e1 : a'.tmps[12]? = some (.agg #[.bool san, .slice Xan pan qan]) := Rg.slot_get rfl rfl (hw 1 (by kernel_rfl) _ rfl)
      exact ⟨rfl, .inl ⟨wanted_none rfl, call_step rfl Tryz.func113 (by kernel_rfl) rfl (map_one (ev_tmp e1)) (rtext_any _ a.num _ (IVna.out.kn hs.kn) SRa.out.num) (fun e w2 he => by obtain ⟨rfl, hb⟩ := he; exact ⟨_, rfl, rfl, hb⟩)⟩⟩
    · intro a' w' ha hs hw hold
      have e2 : a'.tmps[13]? = some (Value.string (txs a.num)) := Rg.slot_get rfl rfl (hw 2 (by kernel_rfl) _ rfl)
      exact ⟨rfl, .inl ⟨wanted_none rfl, wp_val (run_add_str rfl (ev_tmp e2) rfl (by have := HZ1.out; show _ + 1 ≤ _; omega)) ⟨rfl, Below.refl _ _⟩⟩⟩
    · intro a' w' ha hs hw hold
      have eo1 : a'.tmps[1]? = some (ptr g) := (ha.rest 1 (by kernel_rfl)).trans rfl
      exact ⟨rfl, .inl ⟨wanted_none rfl, wp_val (run_qfield1 rfl (ev_tmp eo1)) ⟨rfl, Below.refl _ _⟩⟩⟩
    · intro a' w' ha hs hw hold
      have e4 : a'.tmps[15]? = some (.pointer (some ⟨g, 2, none⟩)) := Rg.slot_get rfl rfl (hw 4 (by kernel_rfl) _ rfl)
      exact ⟨rfl, .inl ⟨wanted_none rfl, wp_val (run_qload1 rfl (ev_tmp e4) (QXa.out.bel hs (by simp))) ⟨rfl, Below.refl _ _⟩⟩⟩
    · intro a' w' ha hs hw hold
      have e5 : a'.tmps[16]? = some (.agg #[.bool sad, .slice Xad pad qad]) := Rg.slot_get rfl rfl (hw 5 (by kernel_rfl) _ rfl)
      exact ⟨rfl, .inl ⟨wanted_none rfl, call_step rfl Tryz.func113 (by kernel_rfl) rfl (map_one (ev_tmp e5)) (rtext_any _ (a.den : Int) _ (IVda.out.kn hs.kn) SRa.out.den) (fun e w2 he => by obtain ⟨rfl, hb⟩ := he; exact ⟨_, rfl, rfl, hb⟩)⟩⟩
    · intro a' w' ha hs hw hold
      have e3 : a'.tmps[14]? = some (Value.string (txs a.num ++ slash)) := Rg.slot_get rfl rfl (hw 3 (by kernel_rfl) _ rfl)
      have e6 : a'.tmps[17]? = some (Value.string (txs a.den)) := Rg.slot_get rfl rfl (hw 6 (by kernel_rfl) _ rfl)
      exact ⟨rfl, .inl ⟨wanted_none rfl, wp_val (run_add_str rfl (ev_tmp e3) (ev_tmp e6) (by have := HZ1.out; have := HZ2.out; have e : (txs a.num ++ slash).size = (txs a.num).size + 1 := ByteArray.size_append; omega)) ⟨rfl, Below.refl _ _⟩⟩⟩
    · intro a' w' ha hs hw hold
      have e7 : a'.tmps[18]? = some (Value.string (txs a.num ++ slash ++ txs a.den)) := Rg.slot_get rfl rfl (hw 7 (by kernel_rfl) _ rfl)
      exact ⟨rfl, .inl ⟨wanted_none rfl, wp_val (run_assign rfl (ev_tmp e7)) ⟨rfl, Below.refl _ _⟩⟩⟩
  simp only [Rg.allG]
  simp only [setOpt, Rg.setOpt, List.set_cons_succ, List.set_cons_zero]
  refine hK _ _ ?_
  clear hK K
  replace hs := hs.below
  replace QXa := nxq QXa hs rfl; replace IVna := nxv IVna hs rfl; replace IVda := nxv IVda hs rfl
  replace DW := nxd DW hg hs rfl rfl rfl rfl
  clear hs
  go_wp2
  go_ret
  exact ⟨by rw [hq.out]; rfl, by rw [hg.out]; exact DW.out⟩

theorem rqtext_any (va : Value) (a : Rat) (w : World) (ha : Qv w va a.num a.den) (sa : Sr a 200000) : Calls Tryz.prog 44 #[va] w (RetV (.string (qtx a)) w) := by
  by_cases h : (a.den : Int) = 1
  · exact rqtext_one va a w ha sa h
  · exact rqtext_two va a w ha sa h

end Go.Proofs.YtfigimfdojbkeaaGreat
