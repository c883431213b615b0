/-
  The program's functions on fractions.
-/
import Derived.Test.YtfigimfdojbkeaaRatF
import Derived.Deep.DeepCutAuto
import Derived.Handy
set_option linter.unusedSimpArgs false
set_option linter.unusedVariables false
namespace Go.Proofs.Ytfigimfdojbkeaa
open Go.RowKit
attribute [local go_sem ↓] Go.wp_at_zero Go.wp_at_succ

def zeroQ : Value := .agg #[.bool false, .slice none 0 0, .bool false, .slice none 0 0]
def RetQE (n d : Int) (w : World) (e : Ending) (w' : World) : Prop := ∃ v, e = .returned (.tuple #[v, .int .i64 0]) ∧ Qv w' v n d ∧ Below w.heap.size w w'
theorem inv_sgn {a : Rat} : sgn (decide (a.num < 0)) a.den = a.num.sign * a.den ∨ a.num = 0 := by
  rcases Int.lt_trichotomy a.num 0 with h | h | h
  · left; rw [Int.sign_eq_neg_one_of_neg h, decide_eq_true h]; simp [sgn]
  · right; exact h
  · left; rw [Int.sign_eq_one_of_pos h, decide_eq_false (by omega)]; simp [sgn]


set_option maxHeartbeats 8000000 in
set_option maxRecDepth 100000 in
theorem qinv_zero (va : Value) (a : Rat) (w : World) (ha : Qv w va a.num a.den) (sa : Sr a 100000) (h0 : a.num = 0) : Calls Try.prog 194 #[va] w (RetV (.tuple #[zeroQ, .int .i64 10]) w) := by
  obtain ⟨Xan, pan, qan, Xad, pad, qad, rfl, han, had⟩ := ha
  have Han := Lib.hid han
  have Had := Lib.hid had
  have SRa := Lib.hid sa
  clear han had sa
  generalize hs : decide (a.num < 0) = san at *
  clear hs
  generalize hs : decide ((a.den : Int) < 0) = sad at *
  clear hs
  have hsg : Hid (sg a.num = 0) := by rw [h0]; rfl
  clear h0
  go_enter Try.func194, Try.ntmps194
  go_wp2_with fail
  obtain ⟨W, hW⟩ : ∃ W, W = ((w.alloc (Obj.cells #[Value.bool san, Value.slice Xan pan qan, Value.bool sad, Value.slice Xad pad qad] 60)).alloc (Obj.cells #[Value.bool false, Value.slice none 0 0, Value.bool false, Value.slice none 0 0] 60)) := ⟨_, rfl⟩
  rw [← hW]
  have QXa : Hid (QBox W (w.heap.size) san (.slice Xan pan qan) sad (.slice Xad pad qad)) := by rw [hW]; have := (QBox.new w san (Value.slice Xan pan qan) sad (Value.slice Xad pad qad)).alloc (Obj.cells #[Value.bool false, Value.slice none 0 0, Value.bool false, Value.slice none 0 0] 60); simpa [Hid] using this
  have RXr : Hid (QBox W (w.heap.size + 1) false (.slice none 0 0) false (.slice none 0 0)) := by rw [hW]; have := QBox.new (w.alloc (Obj.cells #[Value.bool san, Value.slice Xan pan qan, Value.bool sad, Value.slice Xad pad qad] 60)) false (Value.slice none 0 0) false (Value.slice none 0 0); simpa [Hid] using this
  have IVna : Hid (Iv W (.agg #[.bool san, .slice Xan pan qan]) (a.num)) := by rw [hW]; exact ((Han.out).alloc _).alloc _
  have IVda : Hid (Iv W (.agg #[.bool sad, .slice Xad pad qad]) ((a.den : Int))) := by rw [hW]; exact ((Had.out).alloc _).alloc _
  have DW : Hid (Below w.heap.size w W) := by rw [hW]; exact ((Below.refl _ _).alloc (by simp <;> omega) _).alloc (by simp <;> omega) _
  clear hW
  generalize hg : w.heap.size = g at *
  replace hg := Lib.hid hg
  go_upto_region 1 with fail
  have QVa : Hid (Qv W (.agg #[.bool san, .slice Xan pan qan, .bool sad, .slice Xad pad qad]) a.num a.den) := qv_of IVna.out IVda.out
  have u1a := QXa.out.cell0; have u1b := QXa.out.cell1; have u1c := QXa.out.cell2; have u1d := QXa.out.cell3
  go_wp2_with fail
  clear u1a u1b u1c u1d
  refine (qsign_any _ a _ QVa.out (SRa.out.mono (by omega))).mono ?_
  rintro e y2 ⟨rfl, hb⟩
  replace QXa := nxq QXa hb rfl; replace IVna := nxv IVna hb rfl; replace IVda := nxv IVda hb rfl
  replace RXr := Lib.hid (RXr.out.next hb rfl)
  replace DW := nxd DW hg hb rfl rfl rfl rfl
  clear hb
  rw [hsg.out]
  have u3a := RXr.out.cell0; have u3b := RXr.out.cell1; have u3c := RXr.out.cell2; have u3d := RXr.out.cell3; have u3f := RXr.out.frozen 0; have u3g := RXr.out.frozen 1; have u3h := RXr.out.frozen 2; have u3i := RXr.out.frozen 3
  go_wp2
  refine bodyPost_ret (v := .tuple #[zeroQ, .int .i64 10]) (by simp [results, Try.results194, go_sem, zeroQ, u3a, u3b, u3c, u3d, u3f, u3g, u3h, u3i]) rfl ⟨rfl, by rw [hg.out]; exact (((DW.out.setCell (by simp <;> omega) _).setCell (by simp <;> omega) _).setCell (by simp <;> omega) _).setCell (by simp <;> omega) _⟩

set_option maxHeartbeats 8000000 in
set_option maxRecDepth 100000 in
theorem qinv_any (va : Value) (a : Rat) (w : World) (ha : Qv w va a.num a.den) (sa : Sr a 100000) (h0 : a.num ≠ 0) : Calls Try.prog 194 #[va] w (RetQE (a⁻¹).num (a⁻¹).den w) := by
  have hn : (a⁻¹).num = sgn (decide (a.num < 0)) (a.den : Int).natAbs := by
    rw [Rat.num_inv, Int.natAbs_natCast]
    rcases inv_sgn (a := a) with h | h
    · exact h.symm
    · exact absurd h h0
  have hm : ((a⁻¹).den : Int) = sgn false a.num.natAbs := by rw [Rat.den_inv, if_neg h0]; simp [sgn]
  have hd0 : Hid ((a.den : Int) ≠ 0) := by have := den_cast a; unfold Hid; omega
  obtain ⟨N, eN⟩ : ∃ N : Int, (a⁻¹).num = N := ⟨_, rfl⟩
  obtain ⟨M, eM⟩ : ∃ M : Int, ((a⁻¹).den : Int) = M := ⟨_, rfl⟩
  rw [eN] at hn
  rw [eM] at hm
  rw [eN, eM]
  clear eN eM
  obtain ⟨Xan, pan, qan, Xad, pad, qad, rfl, han, had⟩ := ha
  have Han := Lib.hid han
  have Had := Lib.hid had
  have SRa := Lib.hid sa
  clear han had sa
  generalize hs : decide (a.num < 0) = san at *
  clear hs
  generalize hs : decide ((a.den : Int) < 0) = sad at *
  clear hs
  have hn2 := Lib.hid hn
  have hm2 := Lib.hid hm
  clear hn hm
  obtain ⟨SG, hSG⟩ : ∃ x, sg a.num = x := ⟨_, rfl⟩
  have hsg : (SG == 0) = false := by rw [beq_eq_false_iff_ne, ← hSG]; intro e; rcases sg_cases a.num with ⟨h1, e1⟩ | ⟨h1, e1⟩ | ⟨h1, e1⟩ <;> omega
  replace hsg := Lib.hid hsg
  replace hSG := Lib.hid hSG
  clear h0
  go_enter Try.func194, Try.ntmps194
  go_wp2_with fail
  obtain ⟨W, hW⟩ : ∃ W, W = ((w.alloc (Obj.cells #[Value.bool san, Value.slice Xan pan qan, Value.bool sad, Value.slice Xad pad qad] 60)).alloc (Obj.cells #[Value.bool false, Value.slice none 0 0, Value.bool false, Value.slice none 0 0] 60)) := ⟨_, rfl⟩
  rw [← hW]
  have QXa : Hid (QBox W (w.heap.size) san (.slice Xan pan qan) sad (.slice Xad pad qad)) := by rw [hW]; have := (QBox.new w san (Value.slice Xan pan qan) sad (Value.slice Xad pad qad)).alloc (Obj.cells #[Value.bool false, Value.slice none 0 0, Value.bool false, Value.slice none 0 0] 60); simpa [Hid] using this
  have RXr : Hid (QBox W (w.heap.size + 1) false (.slice none 0 0) false (.slice none 0 0)) := by rw [hW]; have := QBox.new (w.alloc (Obj.cells #[Value.bool san, Value.slice Xan pan qan, Value.bool sad, Value.slice Xad pad qad] 60)) false (Value.slice none 0 0) false (Value.slice none 0 0); simpa [Hid] using this
  have IVna : Hid (Iv W (.agg #[.bool san, .slice Xan pan qan]) (a.num)) := by rw [hW]; exact ((Han.out).alloc _).alloc _
  have IVda : Hid (Iv W (.agg #[.bool sad, .slice Xad pad qad]) ((a.den : Int))) := by rw [hW]; exact ((Had.out).alloc _).alloc _
  have DW : Hid (Below w.heap.size w W) := by rw [hW]; exact ((Below.refl _ _).alloc (by simp <;> omega) _).alloc (by simp <;> omega) _
  clear hW
  generalize hg : w.heap.size = g at *
  replace hg := Lib.hid hg
  go_upto_region 1 with fail
  have QVa : Hid (Qv W (.agg #[.bool san, .slice Xan pan qan, .bool sad, .slice Xad pad qad]) a.num a.den) := qv_of IVna.out IVda.out
  have u1a := QXa.out.cell0; have u1b := QXa.out.cell1; have u1c := QXa.out.cell2; have u1d := QXa.out.cell3
  go_wp2_with fail
  clear u1a u1b u1c u1d
  refine (qsign_any _ a _ QVa.out (SRa.out.mono (by omega))).mono ?_
  rintro e y2 ⟨rfl, hb⟩
  replace QXa := nxq QXa hb rfl; replace IVna := nxv IVna hb rfl; replace IVda := nxv IVda hb rfl
  replace RXr := Lib.hid (RXr.out.next hb rfl)
  replace DW := nxd DW hg hb rfl rfl rfl rfl
  clear hb QVa
  rw [hSG.out]
  have hsg1 := hsg.out
  go_upto_region 3 with fail
  clear hsg1
  refine Rg.region_gg y2 [.is (.pointer (some ⟨g, 0, none⟩)), .is (.pointer (some ⟨g, 0, none⟩)), .is (.bool san), .is (.pointer (some ⟨g, 2, none⟩)), .is (.agg #[.bool sad, .slice Xad pad qad]), .sat (pIv (N)) (pIv_keep _), .is (.pointer (some ⟨g, 0, none⟩)), .is (.agg #[.bool san, .slice Xan pan qan]), .sat (pIv (M)) (pIv_keep _), .sat (pQv (N) (M)) (pQv_keep _ _), .sto (g + 1) (sQ (g + 1) (N) (M)) (sQ_keep _ _ _), .is (Value.int IntKind.i64 0)] [(g + 1)] [some 8, some 9, some 10, some 11, some 12, some 13, some 14, some 15, some 16, some 17, none, some 3] (by kernel_rfl) (by kernel_rfl) (by kernel_rfl) (by kernel_rfl) (by kernel_rfl) (by simp [Rg.stos]) (by rfl) (by rfl) (by kernel_rfl) (by intro g hg; simp only [List.mem_cons, List.not_mem_nil, or_false] at hg; subst hg; exact RXr.out.lt) ((Below.refl _ _).drew) (fun Q' => ?_) (fun K hK wn hs => ?_)
  · refine ⟨?_, ?_, ?_, ?_, ?_, ?_, ?_, ?_, ?_, ?_, ?_, ?_, trivial⟩
    · intro a' w' ha hs hw hold
      have eo1 : a'.tmps[1]? = some (ptr g) := (ha.rest 1 (by kernel_rfl)).trans rfl
      exact ⟨rfl, .inl ⟨wanted_none rfl, wp_val (run_qfield0 rfl (ev_tmp eo1)) ⟨rfl, Below.refl _ _⟩⟩⟩
    · intro a' w' ha hs hw hold
      have e0 : a'.tmps[8]? = some (.pointer (some ⟨g, 0, none⟩)) := Rg.slot_get rfl rfl (hw 0 (by kernel_rfl) _ rfl)
      exact ⟨rfl, .inl ⟨wanted_none rfl, wp_val (run_qfield00 rfl (ev_tmp e0)) ⟨rfl, Below.refl _ _⟩⟩⟩
    · intro a' w' ha hs hw hold
      have e1 : a'.tmps[9]? = some (.pointer (some ⟨g, 0, none⟩)) := Rg.slot_get rfl rfl (hw 1 (by kernel_rfl) _ rfl)
      exact ⟨rfl, .inl ⟨wanted_none rfl, wp_val (run_qbool rfl (ev_tmp e1) (QXa.out.bel hs (by simp only [List.mem_cons, List.not_mem_nil, or_false, not_or]; exact (by omega)))) ⟨rfl, Below.refl _ _⟩⟩⟩
    · intro a' w' ha hs hw hold
      have eo1 : a'.tmps[1]? = some (ptr g) := (ha.rest 1 (by kernel_rfl)).trans rfl
      exact ⟨rfl, .inl ⟨wanted_none rfl, wp_val (run_qfield1 rfl (ev_tmp eo1)) ⟨rfl, Below.refl _ _⟩⟩⟩
    · intro a' w' ha hs hw hold
      have e3 : a'.tmps[11]? = some (.pointer (some ⟨g, 2, none⟩)) := Rg.slot_get rfl rfl (hw 3 (by kernel_rfl) _ rfl)
      exact ⟨rfl, .inl ⟨wanted_none rfl, wp_val (run_qload1 rfl (ev_tmp e3) (QXa.out.bel hs (by simp only [List.mem_cons, List.not_mem_nil, or_false, not_or]; exact (by omega)))) ⟨rfl, Below.refl _ _⟩⟩⟩
    · intro a' w' ha hs hw hold
      have e2 : a'.tmps[10]? = some (.bool san) := Rg.slot_get rfl rfl (hw 2 (by kernel_rfl) _ rfl)
      have e4 : a'.tmps[12]? = some (.agg #[.bool sad, .slice Xad pad qad]) := Rg.slot_get rfl rfl (hw 4 (by kernel_rfl) _ rfl)
      exact ⟨rfl, wanted_none rfl, call_step rfl Try.func204 (by kernel_rfl) rfl (map_two (ev_tmp e2) (ev_tmp e4)) (withSign_any san _ (a.den : Int) N _ (IVda.out.kn hs.kn) (SRa.out.den.mono (by omega)) hn2.out (fun _ => hd0.out)) (fun e w2 he => by obtain ⟨v, rfl, hv, hb⟩ := he; exact ⟨v, rfl, v, rfl, hv, hb⟩)⟩
    · intro a' w' ha hs hw hold
      have eo1 : a'.tmps[1]? = some (ptr g) := (ha.rest 1 (by kernel_rfl)).trans rfl
      exact ⟨rfl, .inl ⟨wanted_none rfl, wp_val (run_qfield0 rfl (ev_tmp eo1)) ⟨rfl, Below.refl _ _⟩⟩⟩
    · intro a' w' ha hs hw hold
      have e6 : a'.tmps[14]? = some (.pointer (some ⟨g, 0, none⟩)) := Rg.slot_get rfl rfl (hw 6 (by kernel_rfl) _ rfl)
      exact ⟨rfl, .inl ⟨wanted_none rfl, wp_val (run_qload0 rfl (ev_tmp e6) (QXa.out.bel hs (by simp only [List.mem_cons, List.not_mem_nil, or_false, not_or]; exact (by omega)))) ⟨rfl, Below.refl _ _⟩⟩⟩
    · intro a' w' ha hs hw hold
      have e7 : a'.tmps[15]? = some (.agg #[.bool san, .slice Xan pan qan]) := Rg.slot_get rfl rfl (hw 7 (by kernel_rfl) _ rfl)
      exact ⟨rfl, wanted_none rfl, call_step rfl Try.func204 (by kernel_rfl) rfl (map_two rfl (ev_tmp e7)) (withSign_any false _ a.num M _ (IVna.out.kn hs.kn) (SRa.out.num.mono (by omega)) hm2.out (fun h => by cases h)) (fun e w2 he => by obtain ⟨v, rfl, hv, hb⟩ := he; exact ⟨v, rfl, v, rfl, hv, hb⟩)⟩
    · intro a' w' ha hs hw hold
      obtain ⟨v5, e5, q5⟩ := hw 5 (by kernel_rfl) _ rfl
      replace e5 : a'.tmps[13]? = some v5 := Rg.slot_get rfl rfl e5
      obtain ⟨v8, e8, q8⟩ := hw 8 (by kernel_rfl) _ rfl
      replace e8 : a'.tmps[16]? = some v8 := Rg.slot_get rfl rfl e8
      exact ⟨rfl, wanted_none rfl, step_build rfl (ev_tmp e5) (ev_tmp e8) q5 q8⟩
    · intro a' w' ha hs hw hold
      obtain ⟨v9, e9, q9⟩ := hw 9 (by kernel_rfl) _ rfl
      replace e9 : a'.tmps[17]? = some v9 := Rg.slot_get rfl rfl e9
      have eo2 : a'.tmps[2]? = some (ptr (g + 1)) := (ha.rest 2 (by kernel_rfl)).trans rfl
      exact ⟨rfl, wanted_none rfl, fun he => step_stoq rfl rfl (ev_tmp eo2) (ev_tmp e9) q9 RXr.out he⟩
    · intro a' w' ha hs hw hold
      exact ⟨rfl, .inl ⟨wanted_none rfl, wp_val (run_assign rfl rfl) ⟨rfl, Below.refl _ _⟩⟩⟩
  simp only [Rg.allG]
  intro r3x5 _
  intro r3x8 _
  intro r3x9 _
  intro hSr
  simp only [setOpt, Rg.setOpt, List.set_cons_succ, List.set_cons_zero]
  refine hK _ _ ?_
  clear hK K
  have DN : Hid (Below g w wn) := hs.base DW.out (by have := hg.out; omega) (by simp only [List.mem_cons, List.not_mem_nil, or_false]; omega)
  obtain ⟨Ar, ir, cr, Br, jr, dr, hcr, hir, hjr⟩ := hSr
  have kra := hcr.cell0; have krb := hcr.cell1; have krc := hcr.cell2; have krd := hcr.cell3
  have HIr := Lib.hid hir; clear hir
  have HJr := Lib.hid hjr; clear hjr
  go_wp2
  exact bodyPost_ret (v := .tuple #[.agg #[.bool (decide (N < 0)), .slice Ar ir cr, .bool (decide (M < 0)), .slice Br jr dr], .int .i64 0]) (by simp [results, Try.results194, go_sem, kra, krb, krc, krd]) rfl ⟨_, rfl, ⟨Ar, ir, cr, Br, jr, dr, rfl, HIr.out, HJr.out⟩, by rw [hg.out]; exact DN.out⟩

set_option maxHeartbeats 8000000 in
set_option maxRecDepth 100000 in
theorem qdiv_any (va vb : Value) (a b : Rat) (w : World) (ha : Qv w va a.num a.den) (sa : Sr a 50000) (hb : Qv w vb b.num b.den) (sb : Sr b 50000) (h0 : b.num ≠ 0) : Calls Try.prog 181 #[va, vb] w (RetQE (a / b).num (a / b).den w) := by
  rw [Rat.div_def]
  obtain ⟨Xan, pan, qan, Xad, pad, qad, rfl, han, had⟩ := ha
  have Han := Lib.hid han
  have Had := Lib.hid had
  have SRa := Lib.hid sa
  clear han had sa
  generalize hs : decide (a.num < 0) = san at *
  clear hs
  generalize hs : decide ((a.den : Int) < 0) = sad at *
  clear hs
  obtain ⟨Xbn, pbn, qbn, Xbd, pbd, qbd, rfl, hbn, hbd⟩ := hb
  have Hbn := Lib.hid hbn
  have Hbd := Lib.hid hbd
  have SRb := Lib.hid sb
  clear hbn hbd sb
  generalize hs : decide (b.num < 0) = sbn at *
  clear hs
  generalize hs : decide ((b.den : Int) < 0) = sbd at *
  clear hs
  replace h0 := Lib.hid h0
  go_enter Try.func181, Try.ntmps181
  go_wp2_with fail
  obtain ⟨W, hW⟩ : ∃ W, W = (((w.alloc (Obj.cells #[Value.bool san, Value.slice Xan pan qan, Value.bool sad, Value.slice Xad pad qad] 60)).alloc (Obj.cells #[Value.bool sbn, Value.slice Xbn pbn qbn, Value.bool sbd, Value.slice Xbd pbd qbd] 60)).alloc (Obj.cells #[Value.bool false, Value.slice none 0 0, Value.bool false, Value.slice none 0 0] 60)) := ⟨_, rfl⟩
  rw [← hW]
  have QXa : Hid (QBox W (w.heap.size) san (.slice Xan pan qan) sad (.slice Xad pad qad)) := by rw [hW]; have := ((QBox.new w san (Value.slice Xan pan qan) sad (Value.slice Xad pad qad)).alloc (Obj.cells #[Value.bool sbn, Value.slice Xbn pbn qbn, Value.bool sbd, Value.slice Xbd pbd qbd] 60)).alloc (Obj.cells #[Value.bool false, Value.slice none 0 0, Value.bool false, Value.slice none 0 0] 60); simpa [Hid] using this
  have QXb : Hid (QBox W (w.heap.size + 1) sbn (.slice Xbn pbn qbn) sbd (.slice Xbd pbd qbd)) := by rw [hW]; have := (QBox.new (w.alloc (Obj.cells #[Value.bool san, Value.slice Xan pan qan, Value.bool sad, Value.slice Xad pad qad] 60)) sbn (Value.slice Xbn pbn qbn) sbd (Value.slice Xbd pbd qbd)).alloc (Obj.cells #[Value.bool false, Value.slice none 0 0, Value.bool false, Value.slice none 0 0] 60); simpa [Hid] using this
  have RXr : Hid (QBox W (w.heap.size + 1 + 1) false (.slice none 0 0) false (.slice none 0 0)) := by rw [hW]; have := QBox.new ((w.alloc (Obj.cells #[Value.bool san, Value.slice Xan pan qan, Value.bool sad, Value.slice Xad pad qad] 60)).alloc (Obj.cells #[Value.bool sbn, Value.slice Xbn pbn qbn, Value.bool sbd, Value.slice Xbd pbd qbd] 60)) false (Value.slice none 0 0) false (Value.slice none 0 0); simpa [Hid] using this
  have IVna : Hid (Iv W (.agg #[.bool san, .slice Xan pan qan]) (a.num)) := by rw [hW]; exact (((Han.out).alloc _).alloc _).alloc _
  have IVda : Hid (Iv W (.agg #[.bool sad, .slice Xad pad qad]) ((a.den : Int))) := by rw [hW]; exact (((Had.out).alloc _).alloc _).alloc _
  have IVnb : Hid (Iv W (.agg #[.bool sbn, .slice Xbn pbn qbn]) (b.num)) := by rw [hW]; exact (((Hbn.out).alloc _).alloc _).alloc _
  have IVdb : Hid (Iv W (.agg #[.bool sbd, .slice Xbd pbd qbd]) ((b.den : Int))) := by rw [hW]; exact (((Hbd.out).alloc _).alloc _).alloc _
  have DW : Hid (Below w.heap.size w W) := by rw [hW]; exact (((Below.refl _ _).alloc (by simp <;> omega) _).alloc (by simp <;> omega) _).alloc (by simp <;> omega) _
  clear hW
  generalize hg : w.heap.size = g at *
  replace hg := Lib.hid hg
  go_upto_region 1 with fail
  have QVb : Hid (Qv W (.agg #[.bool sbn, .slice Xbn pbn qbn, .bool sbd, .slice Xbd pbd qbd]) b.num b.den) := qv_of IVnb.out IVdb.out
  have u1a := QXb.out.cell0; have u1b := QXb.out.cell1; have u1c := QXb.out.cell2; have u1d := QXb.out.cell3
  go_wp2_with fail
  clear u1a u1b u1c u1d
  refine (qinv_any _ b _ QVb.out (SRb.out.mono (by omega)) h0.out).mono ?_
  rintro e y2 ⟨_, rfl, hq, hb⟩
  clear QVb
  obtain ⟨Xcn, pcn, qcn, Xcd, pcd, qcd, rfl, hcn, hcd⟩ := hq
  have Qcn := Lib.hid hcn; have Qcd := Lib.hid hcd; clear hcn hcd
  have B := Lib.hid hb; clear hb
  generalize hs : decide (((b⁻¹).num : Int) < 0) = scn at *
  clear hs
  generalize hs : decide ((((b⁻¹).den : Int) : Int) < 0) = scd at *
  clear hs
  go_upto_region 2 with fail
  obtain ⟨W3, hW⟩ : ∃ W3, W3 = y2.alloc (Obj.cells #[Value.bool scn, Value.slice Xcn pcn qcn, Value.bool scd, Value.slice Xcd pcd qcd] 60) := ⟨_, rfl⟩
  rw [← hW]
  have QXc : Hid (QBox W3 y2.heap.size scn (.slice Xcn pcn qcn) scd (.slice Xcd pcd qcd)) := by rw [hW]; exact QBox.new _ _ _ _ _
  have IVnc : Hid (Iv W3 (.agg #[.bool scn, .slice Xcn pcn qcn]) ((b⁻¹).num)) := by rw [hW]; exact Qcn.out.alloc _
  have IVdc : Hid (Iv W3 (.agg #[.bool scd, .slice Xcd pcd qcd]) (((b⁻¹).den : Int))) := by rw [hW]; exact Qcd.out.alloc _
  have hd : Below W.heap.size W W3 := by rw [hW]; exact B.out.alloc (by have := B.out.size; omega) _
  have NEcr : Hid (y2.heap.size ≠ (g + 1 + 1)) := by have := RXr.out.lt; have := B.out.size; unfold Hid; omega
  clear hW B Qcn Qcd
  generalize hgn3 : y2.heap.size = gc at *
  clear hgn3
  replace QXa := nxq QXa hd rfl; replace IVna := nxv IVna hd rfl; replace IVda := nxv IVda hd rfl
  replace QXb := nxq QXb hd rfl; replace IVnb := nxv IVnb hd rfl; replace IVdb := nxv IVdb hd rfl
  replace RXr := Lib.hid (RXr.out.next hd rfl)
  replace DW := nxd DW hg hd rfl rfl rfl rfl
  clear hd
  have QVa : Hid (Qv W3 (.agg #[.bool san, .slice Xan pan qan, .bool sad, .slice Xad pad qad]) a.num a.den) := qv_of IVna.out IVda.out
  have QVc : Hid (Qv W3 (.agg #[.bool scn, .slice Xcn pcn qcn, .bool scd, .slice Xcd pcd qcd]) (b⁻¹).num (b⁻¹).den) := qv_of IVnc.out IVdc.out
  go_upto_region 4 with fail
  have u4a := QXa.out.cell0; have u4b := QXa.out.cell1; have u4c := QXa.out.cell2; have u4d := QXa.out.cell3
  have u5a := QXc.out.cell0; have u5b := QXc.out.cell1; have u5c := QXc.out.cell2; have u5d := QXc.out.cell3
  go_wp2_with fail
  clear u4a u4b u4c u4d u5a u5b u5c u5d
  refine (qmul_any _ _ a b⁻¹ _ QVa.out QVc.out (SRa.out.mono (by omega)) ((SRb.out.inv (by omega)).mono (by omega))).mono ?_
  rintro e y6 ⟨_, rfl, hq, hb⟩
  obtain ⟨Xz, pz, qz, Yz, uz, tz, rfl, k1, k2⟩ := hq
  have K1 := Lib.hid k1; have K2 := Lib.hid k2; clear k1 k2 QVa QVc
  replace QXa := nxq QXa hb rfl; replace IVna := nxv IVna hb rfl; replace IVda := nxv IVda hb rfl
  replace QXb := nxq QXb hb rfl; replace IVnb := nxv IVnb hb rfl; replace IVdb := nxv IVdb hb rfl
  replace QXc := nxq QXc hb rfl; replace IVnc := nxv IVnc hb rfl; replace IVdc := nxv IVdc hb rfl
  replace RXr := Lib.hid (RXr.out.next hb rfl)
  replace DW := nxd DW hg hb rfl rfl rfl rfl
  clear hb
  generalize hs1 : decide ((a * b⁻¹).num < 0) = s1 at *
  generalize hs2 : decide (((a * b⁻¹).den : Int) < 0) = s2 at *
  clear hs1 hs2
  have u7a := RXr.out.cell0; have u7b := RXr.out.cell1; have u7c := RXr.out.cell2; have u7d := RXr.out.cell3; have u7f := RXr.out.frozen 0; have u7g := RXr.out.frozen 1; have u7h := RXr.out.frozen 2; have u7i := RXr.out.frozen 3
  go_wp2
  refine bodyPost_ret (v := .tuple #[.agg #[.bool s1, .slice Xz pz qz, .bool s2, .slice Yz uz tz], .int .i64 0]) (by simp [results, Try.results181, go_sem, u7a, u7b, u7c, u7d, u7f, u7g, u7h, u7i]) rfl ⟨_, rfl, ?_, by rw [hg.out]; exact (((DW.out.setCell (by simp <;> omega) _).setCell (by simp <;> omega) _).setCell (by simp <;> omega) _).setCell (by simp <;> omega) _⟩
  have hc := chg_qbox (b' := s1) (d' := s2) (A' := Xz) (n' := pz) (c' := qz) (B' := Yz) (m' := uz) (e' := tz) RXr.out
  exact qv_of (K1.out.kn hc.kn) (K2.out.kn hc.kn)
end Go.Proofs.Ytfigimfdojbkeaa

