/-
 The program's Between.
-/
import Derived.Test.YtfigimfdojbkeaaGreatRatB1
import Derived.Test.YtfigimfdojbkeaaGreatBtS
import Derived.Deep.DeepCutAuto
import Derived.Handy
set_option linter.unusedSimpArgs false
set_option linter.unusedVariables false
namespace Go.Proofs.YtfigimfdojbkeaaGreat
open Go.RowKit
attribute [local go_sem ↓] Go.wp_at_zero Go.wp_at_succ

open Bt in
def smp (a b : Rat) : Rat := Rat.divInt (bs (a.den + b.den) a.num a.den b.num b.den).1 (bs (a.den + b.den) a.num a.den b.num b.den).2
theorem bs_of {a b : Rat} (hp : 0 < a.num) (hle : a.num * b.den ≤ b.num * a.den) : Bt.Spec a.num a.den b.num b.den (Bt.bs (a.den + b.den) a.num a.den b.num b.den).1 (Bt.bs (a.den + b.den) a.num a.den b.num b.den).2 :=
 Bt.bs_spec _ _ _ _ _ hp (den_cast a) (den_cast b) hle (by omega)
theorem smp_is {a b : Rat} (hp : 0 < a.num) (hle : a.num * b.den ≤ b.num * a.den) : (smp a b).num = (Bt.bs (a.den + b.den) a.num a.den b.num b.den).1 ∧ ((smp a b).den : Int) = (Bt.bs (a.den + b.den) a.num a.den b.num b.den).2 := by
 have h := bs_of hp hle
 have hc : Nat.gcd (Bt.bs (a.den + b.den) a.num a.den b.num b.den).1.natAbs (Bt.bs (a.den + b.den) a.num a.den b.num b.den).2.natAbs = 1 := h.cop
 unfold smp
 rw [rnew_num _ _ h.dpos, rnew_den _ _ h.dpos, hc]
 simp
theorem smp_spec {a b : Rat} (hp : 0 < a.num) (hle : a.num * b.den ≤ b.num * a.den) : Bt.Spec a.num a.den b.num b.den (smp a b).num (smp a b).den := by
 have h := bs_of hp hle
 rw [(smp_is hp hle).1, (smp_is hp hle).2]
 exact h
theorem num_pos_of {a b : Rat} (hp : 0 < a.num) (hle : a.num * b.den ≤ b.num * a.den) : 0 < b.num := by
 have h1 := Int.mul_pos hp (den_cast b)
 by_cases h : 0 < b.num
 ·exact h
 ·have := Int.mul_le_mul_of_nonneg_right (Int.not_lt.1 h) (Int.le_of_lt (den_cast a)); omega
theorem smp_sr {a b : Rat} {N : Nat} (hp : 0 < a.num) (hle : a.num * b.den ≤ b.num * a.den) (sb : Sr b N) : Sr (smp a b) N := by
 have h := smp_spec hp hle
 have k := h.least b.num b.den (den_cast b) hle (Int.le_refl _)
 exact ⟨sz_le sb.num (Int.le_of_lt h.npos) k.2, sz_le sb.den (Int.le_of_lt h.dpos) k.1⟩
theorem sok_ab {a b : Rat} (hp : 0 < a.num) (hle : a.num * b.den ≤ b.num * a.den) (sa : Sr a 1000) (sb : Sr b 1000) : SOk (a.den + b.den) a.num a.den b.num b.den 1 0 0 1 := by
 have hr := num_pos_of hp hle
 have h1 := den_cast a
 have h2 := den_cast b
 have hB : Sz (((a.num + a.den) + b.num) + b.den) 10000 := (Sz.add (Sz.add (Sz.add sa.num sa.den) (sb.num.mono (by omega))) (sb.den.mono (by omega))).mono (by omega)
 exact sok_of hB _ _ _ _ _ _ _ _ _ hp h1 hr h2 hle (by omega) (by omega) (by omega) (by omega) (by omega) (by omega) (by omega) (by omega) (by omega) (by omega) (by omega) (by omega) (by omega)
theorem srch_ab {a b : Rat} (hp : 0 < a.num) (hle : a.num * b.den ≤ b.num * a.den) : srch (a.den + b.den) a.num a.den b.num b.den 1 0 0 1 = ((smp a b).num, ((smp a b).den : Int)) := by
 rw [srch_bs _ _ _ _ _ _ _ _ _ hp (den_cast a) (den_cast b) hle (by omega), (smp_is hp hle).1, (smp_is hp hle).2]
 simp
theorem simplest_is (va vb : Value) (a b : Rat) (w : World) (ha : Qv w va a.num a.den) (sa : Sr a 1000) (hb : Qv w vb b.num b.den) (sb : Sr b 1000) (hp : 0 < a.num) (hle : a.num * b.den ≤ b.num * a.den) : Calls Tryz.prog 103 #[va, vb] w (RetQ (smp a b).num (smp a b).den w) := by
 have h := simplest_at va vb a b (a.den + b.den) w ha (sa.mono (by omega)) hb (sb.mono (by omega)) (sok_ab hp hle sa sb)
 rw [srch_ab hp hle] at h
 exact h
theorem between_p (va vb : Value) (a b : Rat) (w : World) (ha : Qv w va a.num a.den) (sa : Sr a 1000) (hb : Qv w vb b.num b.den) (sb : Sr b 1000) (hp : 0 < a.num) (hlt : a.num * b.den < b.num * a.den) : Calls Tryz.prog 31 #[va, vb] w (RetQE (smp a b).num (smp a b).den w) := by
 have h := between_pos va vb a b (a.den + b.den) w ha (sa.mono (by omega)) hb (sb.mono (by omega)) (sok_ab hp (Int.le_of_lt hlt) sa sb) hp hlt
 rw [srch_ab hp (Int.le_of_lt hlt)] at h
 exact h

set_option maxHeartbeats 8000000 in
set_option maxRecDepth 100000 in
theorem between_n (va vb : Value) (a b : Rat) (w : World) (ha : Qv w va a.num a.den) (sa : Sr a 1000) (hb : Qv w vb b.num b.den) (sb : Sr b 1000) (h1 : cq a b = -1) (h2 : b.num < 0) : Calls Tryz.prog 31 #[va, vb] w (RetQE (-(smp (-b) (-a))).num (-(smp (-b) (-a))).den w) := by
 have hlt : a < b := by
  rcases tri a b with h | h | h
  ·exact h
  ·rw [cq_eq h] at h1; omega
  ·rw [cq_gt h] at h1; omega
 have hz : a.num < 0 := by
  have e := (Rat.lt_iff a b).1 hlt
  have h3 := Int.mul_neg_of_neg_of_pos h2 (den_cast a)
  by_cases h : a.num < 0
  ·exact h
  ·have := Int.mul_nonneg (Int.not_lt.1 h) (Int.le_of_lt (den_cast b)); omega
 have HP : Hid (0 < (-b).num) := by rw [Rat.neg_num]; unfold Hid; omega
 have HL : Hid ((-b).num * (-a).den ≤ (-a).num * (-b).den) := by
  have e := (Rat.lt_iff a b).1 hlt
  rw [Rat.neg_num, Rat.neg_num, rneg_den, rneg_den, Int.neg_mul, Int.neg_mul]
  unfold Hid
  omega
 have HS : Hid (Sr (smp (-b) (-a)) 1000) := smp_sr HP.out HL.out sa.neg
 have ga : sg a.num = -1 := by unfold sg; rw [if_pos hz]
 have gb : sg b.num = -1 := by unfold sg; rw [if_pos h2]
 replace h1 := Lib.hid h1; replace ga := Lib.hid ga; replace gb := Lib.hid gb
 clear hz hlt h2
 obtain ⟨Xan, pan, qan, Xad, pad, qad, rfl, han, had⟩ := ha
 have Han := Lib.hid han
 have Had := Lib.hid had
 have SRa := Lib.hid sa
 clear han had sa
 generalize hs : decide (a.num < 0) = san at *
 clear hs
 generalize hs : decide ((a.den : Int) < 0) = sad at *
 clear hs
 obtain ⟨Xbn, pbn, qbn, Xbd, pbd, qbd, rfl, hbn, hbd⟩ := hb
 have Hbn := Lib.hid hbn
 have Hbd := Lib.hid hbd
 have SRb := Lib.hid sb
 clear hbn hbd sb
 generalize hs : decide (b.num < 0) = sbn at *
 clear hs
 generalize hs : decide ((b.den : Int) < 0) = sbd at *
 clear hs

 go_enter Tryz.func31, Tryz.ntmps31
 go_wp2_with fail
 obtain ⟨W, hW⟩ : ∃ W, W = (((w.alloc (Obj.cells #[Value.bool san, Value.slice Xan pan qan, Value.bool sad, Value.slice Xad pad qad] 31)).alloc (Obj.cells #[Value.bool sbn, Value.slice Xbn pbn qbn, Value.bool sbd, Value.slice Xbd pbd qbd] 31)).alloc (Obj.cells #[Value.bool false, Value.slice none 0 0, Value.bool false, Value.slice none 0 0] 31)) := ⟨_, rfl⟩
 rw [← hW]
 have QXa : Hid (QBox W (w.heap.size) san (.slice Xan pan qan) sad (.slice Xad pad qad)) := by rw [hW]; have := ((QBox.new w san (Value.slice Xan pan qan) sad (Value.slice Xad pad qad)).alloc (Obj.cells #[Value.bool sbn, Value.slice Xbn pbn qbn, Value.bool sbd, Value.slice Xbd pbd qbd] 31)).alloc (Obj.cells #[Value.bool false, Value.slice none 0 0, Value.bool false, Value.slice none 0 0] 31); simpa [Hid] using this
 have QXb : Hid (QBox W (w.heap.size + 1) sbn (.slice Xbn pbn qbn) sbd (.slice Xbd pbd qbd)) := by rw [hW]; have := (QBox.new (w.alloc (Obj.cells #[Value.bool san, Value.slice Xan pan qan, Value.bool sad, Value.slice Xad pad qad] 31)) sbn (Value.slice Xbn pbn qbn) sbd (Value.slice Xbd pbd qbd)).alloc (Obj.cells #[Value.bool false, Value.slice none 0 0, Value.bool false, Value.slice none 0 0] 31); simpa [Hid] using this
 have RXr : Hid (QBox W (w.heap.size + 1 + 1) false (.slice none 0 0) false (.slice none 0 0)) := by rw [hW]; have := QBox.new ((w.alloc (Obj.cells #[Value.bool san, Value.slice Xan pan qan, Value.bool sad, Value.slice Xad pad qad] 31)).alloc (Obj.cells #[Value.bool sbn, Value.slice Xbn pbn qbn, Value.bool sbd, Value.slice Xbd pbd qbd] 31)) false (Value.slice none 0 0) false (Value.slice none 0 0); simpa [Hid] using this
 have IVna : Hid (Iv W (.agg #[.bool san, .slice Xan pan qan]) (a.num)) := by rw [hW]; exact (((Han.out).alloc _).alloc _).alloc _
 have IVda : Hid (Iv W (.agg #[.bool sad, .slice Xad pad qad]) ((a.den : Int))) := by rw [hW]; exact (((Had.out).alloc _).alloc _).alloc _
 have IVnb : Hid (Iv W (.agg #[.bool sbn, .slice Xbn pbn qbn]) (b.num)) := by rw [hW]; exact (((Hbn.out).alloc _).alloc _).alloc _
 have IVdb : Hid (Iv W (.agg #[.bool sbd, .slice Xbd pbd qbd]) ((b.den : Int))) := by rw [hW]; exact (((Hbd.out).alloc _).alloc _).alloc _
 have DW : Hid (Below w.heap.size w W) := by rw [hW]; exact (((Below.refl _ _).alloc (by simp <;> omega) _).alloc (by simp <;> omega) _).alloc (by simp <;> omega) _
 clear hW
 generalize hg : w.heap.size = g at *
 replace hg := Lib.hid hg
 go_upto_region 1 with fail
 have u1a := QXa.out.cell0; have u1b := QXa.out.cell1; have u1c := QXa.out.cell2; have u1d := QXa.out.cell3
 have u2a := QXb.out.cell0; have u2b := QXb.out.cell1; have u2c := QXb.out.cell2; have u2d := QXb.out.cell3
 go_wp2_with fail
 clear u1a u1b u1c u1d u2a u2b u2c u2d
 refine (qcmp_is _ _ a b (-1) _ (qv_of IVna.out IVda.out) (SRa.out.mono (by omega)) (qv_of IVnb.out IVdb.out) (SRb.out.mono (by omega)) h1.out).mono ?_
 rintro e y3 ⟨rfl, hb⟩
 replace QXa := nxq QXa hb rfl; replace IVna := nxv IVna hb rfl; replace IVda := nxv IVda hb rfl
 replace QXb := nxq QXb hb rfl; replace IVnb := nxv IVnb hb rfl; replace IVdb := nxv IVdb hb rfl
 replace RXr := Lib.hid (RXr.out.next hb rfl)
 replace DW := nxd DW hg hb rfl rfl rfl rfl
 clear hb
 have u4a := QXa.out.cell0; have u4b := QXa.out.cell1; have u4c := QXa.out.cell2; have u4d := QXa.out.cell3
 go_wp2_with fail
 clear u4a u4b u4c u4d
 refine (qsign_is _ a (-1) _ (qv_of IVna.out IVda.out) (SRa.out.mono (by omega)) ga.out).mono ?_
 rintro e y5 ⟨rfl, hb⟩
 replace QXa := nxq QXa hb rfl; replace IVna := nxv IVna hb rfl; replace IVda := nxv IVda hb rfl
 replace QXb := nxq QXb hb rfl; replace IVnb := nxv IVnb hb rfl; replace IVdb := nxv IVdb hb rfl
 replace RXr := Lib.hid (RXr.out.next hb rfl)
 replace DW := nxd DW hg hb rfl rfl rfl rfl
 clear hb
 have u6a := QXb.out.cell0; have u6b := QXb.out.cell1; have u6c := QXb.out.cell2; have u6d := QXb.out.cell3
 go_wp2_with fail
 clear u6a u6b u6c u6d
 refine (qsign_is _ b (-1) _ (qv_of IVnb.out IVdb.out) (SRb.out.mono (by omega)) gb.out).mono ?_
 rintro e y7 ⟨rfl, hb⟩
 replace QXa := nxq QXa hb rfl; replace IVna := nxv IVna hb rfl; replace IVda := nxv IVda hb rfl
 replace QXb := nxq QXb hb rfl; replace IVnb := nxv IVnb hb rfl; replace IVdb := nxv IVdb hb rfl
 replace RXr := Lib.hid (RXr.out.next hb rfl)
 replace DW := nxd DW hg hb rfl rfl rfl rfl
 clear hb
 have u8a := QXa.out.cell0; have u8b := QXa.out.cell1; have u8c := QXa.out.cell2; have u8d := QXa.out.cell3
 go_wp2_with fail
 clear u8a u8b u8c u8d
 refine (qsign_is _ a (-1) _ (qv_of IVna.out IVda.out) (SRa.out.mono (by omega)) ga.out).mono ?_
 rintro e y9 ⟨rfl, hb⟩
 replace QXa := nxq QXa hb rfl; replace IVna := nxv IVna hb rfl; replace IVda := nxv IVda hb rfl
 replace QXb := nxq QXb hb rfl; replace IVnb := nxv IVnb hb rfl; replace IVdb := nxv IVdb hb rfl
 replace RXr := Lib.hid (RXr.out.next hb rfl)
 replace DW := nxd DW hg hb rfl rfl rfl rfl
 clear hb
 go_upto_region 9 with fail
 have QVa : Hid (Qv y9 (.agg #[.bool san, .slice Xan pan qan, .bool sad, .slice Xad pad qad]) (a.num) ((a.den : Int))) := qv_of IVna.out IVda.out
 have QVb : Hid (Qv y9 (.agg #[.bool sbn, .slice Xbn pbn qbn, .bool sbd, .slice Xbd pbd qbd]) (b.num) ((b.den : Int))) := qv_of IVnb.out IVdb.out
 refine Rg.region_gg y9 [.is (.agg #[.bool sbn, .slice Xbn pbn qbn, .bool sbd, .slice Xbd pbd qbd]), .sat (pQv ((-b).num) (((-b).den : Int))) (pQv_keep _ _), .is (.agg #[.bool san, .slice Xan pan qan, .bool sad, .slice Xad pad qad]), .sat (pQv ((-a).num) (((-a).den : Int))) (pQv_keep _ _), .sat (pQv ((smp (-b) (-a)).num) (((smp (-b) (-a)).den : Int))) (pQv_keep _ _), .sat (pQv ((-(smp (-b) (-a))).num) (((-(smp (-b) (-a))).den : Int))) (pQv_keep _ _), .sto (g + 1 + 1) (sQ (g + 1 + 1) ((-(smp (-b) (-a))).num) (((-(smp (-b) (-a))).den : Int))) (sQ_keep _ _ _), .is (Value.int IntKind.i64 0)] [(g + 1 + 1)] [some 34, some 35, some 36, some 37, some 38, some 39, none, some 5] (by kernel_rfl) (by kernel_rfl) (by kernel_rfl) (by kernel_rfl) (by kernel_rfl) (by simp [Rg.stos]) (by rfl) (by rfl) (by kernel_rfl) (by intro g hg; simp only [List.mem_cons, List.not_mem_nil, or_false] at hg; subst hg; exact RXr.out.lt) ((Below.refl _ _).drew) (fun Q' => ?_) (fun K hK wn hs => ?_)
 ·refine ⟨?_, ?_, ?_, ?_, ?_, ?_, ?_, ?_, trivial⟩
  ·intro a' w' ha hs hw hold
   have eo3 : a'.tmps[3]? = some (ptr (g + 1)) := (ha.rest 3 (by kernel_rfl)).trans rfl
   exact ⟨rfl, .inl ⟨wanted_none rfl, wp_val (run_qload rfl (ev_tmp eo3) (QXb.out.bel hs (by simp only [List.mem_cons, List.not_mem_nil, or_false, not_or]; exact (by omega)))) ⟨rfl, Below.refl _ _⟩⟩⟩
  ·intro a' w' ha hs hw hold
   have e0 : a'.tmps[34]? = some (.agg #[.bool sbn, .slice Xbn pbn qbn, .bool sbd, .slice Xbd pbd qbd]) := Rg.slot_get rfl rfl (hw 0 (by kernel_rfl) _ rfl)
   exact ⟨rfl, wanted_none rfl, call_step rfl Tryz.func23 (by kernel_rfl) rfl (map_one (ev_tmp e0)) (qneg_any _ b _ (QVb.out.kn hs.kn) (SRb.out.mono (by omega))) (fun e w2 he => by obtain ⟨v, rfl, hv, hb⟩ := he; exact ⟨v, rfl, v, rfl, hv, hb⟩)⟩
  ·intro a' w' ha hs hw hold
   have eo2 : a'.tmps[2]? = some (ptr g) := (ha.rest 2 (by kernel_rfl)).trans rfl
   exact ⟨rfl, .inl ⟨wanted_none rfl, wp_val (run_qload rfl (ev_tmp eo2) (QXa.out.bel hs (by simp only [List.mem_cons, List.not_mem_nil, or_false, not_or]; exact (by omega)))) ⟨rfl, Below.refl _ _⟩⟩⟩
  ·intro a' w' ha hs hw hold
   have e2 : a'.tmps[36]? = some (.agg #[.bool san, .slice Xan pan qan, .bool sad, .slice Xad pad qad]) := Rg.slot_get rfl rfl (hw 2 (by kernel_rfl) _ rfl)
   exact ⟨rfl, wanted_none rfl, call_step rfl Tryz.func23 (by kernel_rfl) rfl (map_one (ev_tmp e2)) (qneg_any _ a _ (QVa.out.kn hs.kn) (SRa.out.mono (by omega))) (fun e w2 he => by obtain ⟨v, rfl, hv, hb⟩ := he; exact ⟨v, rfl, v, rfl, hv, hb⟩)⟩
  ·intro a' w' ha hs hw hold
   obtain ⟨v1, e1, q1⟩ := hw 1 (by kernel_rfl) _ rfl
   replace e1 : a'.tmps[35]? = some v1 := Rg.slot_get rfl rfl e1
   obtain ⟨v3, e3, q3⟩ := hw 3 (by kernel_rfl) _ rfl
   replace e3 : a'.tmps[37]? = some v3 := Rg.slot_get rfl rfl e3
   exact ⟨rfl, wanted_none rfl, call_step rfl Tryz.func103 (by kernel_rfl) rfl (map_two (ev_tmp e1) (ev_tmp e3)) (simplest_is _ _ (-b) (-a) _ q1 SRb.out.neg q3 SRa.out.neg HP.out HL.out) (fun e w2 he => by obtain ⟨v, rfl, hv, hb⟩ := he; exact ⟨v, rfl, v, rfl, hv, hb⟩)⟩
  ·intro a' w' ha hs hw hold
   obtain ⟨v4, e4, q4⟩ := hw 4 (by kernel_rfl) _ rfl
   replace e4 : a'.tmps[38]? = some v4 := Rg.slot_get rfl rfl e4
   exact ⟨rfl, wanted_none rfl, call_step rfl Tryz.func23 (by kernel_rfl) rfl (map_one (ev_tmp e4)) (qneg_any _ (smp (-b) (-a)) _ q4 (HS.out.mono (by omega))) (fun e w2 he => by obtain ⟨v, rfl, hv, hb⟩ := he; exact ⟨v, rfl, v, rfl, hv, hb⟩)⟩
  ·intro a' w' ha hs hw hold
   obtain ⟨v5, e5, q5⟩ := hw 5 (by kernel_rfl) _ rfl
   replace e5 : a'.tmps[39]? = some v5 := Rg.slot_get rfl rfl e5
   have eo4 : a'.tmps[4]? = some (ptr (g + 1 + 1)) := (ha.rest 4 (by kernel_rfl)).trans rfl
   exact ⟨rfl, wanted_none rfl, fun he => step_stoq rfl rfl (ev_tmp eo4) (ev_tmp e5) q5 RXr.out he⟩
  ·intro a' w' ha hs hw hold
   exact ⟨rfl, .inl ⟨wanted_none rfl, wp_val (run_assign rfl rfl) ⟨rfl, Below.refl _ _⟩⟩⟩
 simp only [Rg.allG]
 intro r10x1 _
 intro r10x3 _
 intro r10x4 _
 intro r10x5 _
 intro hSr
 simp only [setOpt, Rg.setOpt, List.set_cons_succ, List.set_cons_zero]
 refine hK _ _ ?_
 clear hK K
 have DN : Hid (Below g w wn) := hs.base DW.out (by have := hg.out; omega) (by simp only [List.mem_cons, List.not_mem_nil, or_false]; omega)
 obtain ⟨Ar, ir, cr, Br, jr, dr, hcr, hir, hjr⟩ := hSr
 have kra := hcr.cell0; have krb := hcr.cell1; have krc := hcr.cell2; have krd := hcr.cell3
 have HIr := Lib.hid hir; clear hir
 have HJr := Lib.hid hjr; clear hjr
 go_wp2
 exact bodyPost_ret (v := .tuple #[.agg #[.bool (decide ((-(smp (-b) (-a))).num < 0)), .slice Ar ir cr, .bool (decide (((-(smp (-b) (-a))).den : Int) < 0)), .slice Br jr dr], .int .i64 0]) (by simp [results, Tryz.results31, go_sem, kra, krb, krc, krd]) rfl ⟨_, rfl, ⟨Ar, ir, cr, Br, jr, dr, rfl, HIr.out, HJr.out⟩, by rw [hg.out]; exact DN.out⟩

theorem sg_pos2 {a : Int} (h : 0 < a) : sg a = 1 := by unfold sg; rw [if_neg (by omega), if_neg (by omega)]
def btw (a b : Rat) : Rat := if 0 < a.num then (if a = b then a else smp a b) else if b.num < 0 then (if a = b then a else -(smp (-b) (-a))) else ((0 : Int) : Rat)
theorem sg_le {z : Int} : sg z ≤ 0 ↔ ¬ 0 < z := by unfold sg; split <;> (try split) <;> omega
theorem sg_ge {z : Int} : 0 ≤ sg z ↔ ¬ z < 0 := by unfold sg; split <;> (try split) <;> omega
theorem between_is (va vb : Value) (a b : Rat) (w : World) (ha : Qv w va a.num a.den) (sa : Sr a 1000) (hb : Qv w vb b.num b.den) (sb : Sr b 1000) (hle : cq a b ≤ 0) : Calls Tryz.prog 31 #[va, vb] w (RetQE (btw a b).num (btw a b).den w) := by
 have sa' := sa.mono (show 1000 ≤ 10000 by omega)
 have sb' := sb.mono (show 1000 ≤ 10000 by omega)
 unfold btw
 by_cases h1 : 0 < a.num
 ·rw [if_pos h1]
  by_cases h : a = b
  ·rw [if_pos h]
   exact between_eq va vb a b w ha sa' hb sb' (cq_eq h) (.inl (by rw [sg_pos2 h1]; omega))
  ·rw [if_neg h]
   have hlt : a < b := by have := cq_le.1 hle; grind
   exact between_p va vb a b w ha sa hb sb h1 ((Rat.lt_iff a b).1 hlt)
 ·rw [if_neg h1]
  by_cases h2 : b.num < 0
  ·rw [if_pos h2]
   by_cases h : a = b
   ·rw [if_pos h]
    exact between_eq va vb a b w ha sa' hb sb' (cq_eq h) (.inr (by unfold sg; rw [if_pos h2]; omega))
   ·rw [if_neg h]
    have hlt : a < b := by have := cq_le.1 hle; grind
    exact between_n va vb a b w ha sa hb sb (cq_lt hlt) h2
  ·rw [if_neg h2]
   exact between_zero va vb a b w ha sa' hb sb' hle (sg_le.2 h1) (sg_ge.2 h2)

end Go.Proofs.YtfigimfdojbkeaaGreat
