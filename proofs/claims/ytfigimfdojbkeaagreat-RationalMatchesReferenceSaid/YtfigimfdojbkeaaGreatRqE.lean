/-
 The reference's functions on fractions.
-/
import Derived.Test.YtfigimfdojbkeaaGreatRqD
import Derived.Deep.DeepCutAuto
import Derived.Handy
set_option linter.unusedSimpArgs false
set_option linter.unusedVariables false
namespace Go.Proofs.YtfigimfdojbkeaaGreat
open Go.RowKit
attribute [local go_sem ↓] Go.wp_at_zero Go.wp_at_succ

set_option maxHeartbeats 8000000 in
set_option maxRecDepth 100000 in
theorem rbetween_arg (va vb : Value) (a b : Rat) (w : World) (ha : Qv w va a.num a.den) (sa : Sr a 1000) (hb : Qv w vb b.num b.den) (sb : Sr b 1000) (h1 : cq a b = 1) : Calls Tryz.prog 32 #[va, vb] w (RetQC 0 0 1 w) := by
 replace h1 := Lib.hid h1
 obtain ⟨Xan, pan, qan, Xad, pad, qad, rfl, han, had⟩ := ha
 have Han := Lib.hid han
 have Had := Lib.hid had
 have SRa := Lib.hid sa
 clear han had sa
 generalize hs : decide (a.num < 0) = san at *
 clear hs
 generalize hs : decide ((a.den : Int) < 0) = sad at *
 clear hs
 obtain ⟨Xbn, pbn, qbn, Xbd, pbd, qbd, rfl, hbn, hbd⟩ := hb
 have Hbn := Lib.hid hbn
 have Hbd := Lib.hid hbd
 have SRb := Lib.hid sb
 clear hbn hbd sb
 generalize hs : decide (b.num < 0) = sbn at *
 clear hs
 generalize hs : decide ((b.den : Int) < 0) = sbd at *
 clear hs

 go_enter Tryz.func32, Tryz.ntmps32
 go_wp2_with fail
 obtain ⟨W, hW⟩ : ∃ W, W = (((w.alloc (Obj.cells #[Value.bool san, Value.slice Xan pan qan, Value.bool sad, Value.slice Xad pad qad] 31)).alloc (Obj.cells #[Value.bool sbn, Value.slice Xbn pbn qbn, Value.bool sbd, Value.slice Xbd pbd qbd] 31)).alloc (Obj.cells #[Value.bool false, Value.slice none 0 0, Value.bool false, Value.slice none 0 0] 31)) := ⟨_, rfl⟩
 rw [← hW]
 have QXa : Hid (QBox W (w.heap.size) san (.slice Xan pan qan) sad (.slice Xad pad qad)) := by rw [hW]; have := ((QBox.new w san (Value.slice Xan pan qan) sad (Value.slice Xad pad qad)).alloc (Obj.cells #[Value.bool sbn, Value.slice Xbn pbn qbn, Value.bool sbd, Value.slice Xbd pbd qbd] 31)).alloc (Obj.cells #[Value.bool false, Value.slice none 0 0, Value.bool false, Value.slice none 0 0] 31); simpa [Hid] using this
 have QXb : Hid (QBox W (w.heap.size + 1) sbn (.slice Xbn pbn qbn) sbd (.slice Xbd pbd qbd)) := by rw [hW]; have := (QBox.new (w.alloc (Obj.cells #[Value.bool san, Value.slice Xan pan qan, Value.bool sad, Value.slice Xad pad qad] 31)) sbn (Value.slice Xbn pbn qbn) sbd (Value.slice Xbd pbd qbd)).alloc (Obj.cells #[Value.bool false, Value.slice none 0 0, Value.bool false, Value.slice none 0 0] 31); simpa [Hid] using this
 have RXr : Hid (QBox W (w.heap.size + 1 + 1) false (.slice none 0 0) false (.slice none 0 0)) := by rw [hW]; have := QBox.new ((w.alloc (Obj.cells #[Value.bool san, Value.slice Xan pan qan, Value.bool sad, Value.slice Xad pad qad] 31)).alloc (Obj.cells #[Value.bool sbn, Value.slice Xbn pbn qbn, Value.bool sbd, Value.slice Xbd pbd qbd] 31)) false (Value.slice none 0 0) false (Value.slice none 0 0); simpa [Hid] using this
 have IVna : Hid (Iv W (.agg #[.bool san, .slice Xan pan qan]) (a.num)) := by rw [hW]; exact (((Han.out).alloc _).alloc _).alloc _
 have IVda : Hid (Iv W (.agg #[.bool sad, .slice Xad pad qad]) ((a.den : Int))) := by rw [hW]; exact (((Had.out).alloc _).alloc _).alloc _
 have IVnb : Hid (Iv W (.agg #[.bool sbn, .slice Xbn pbn qbn]) (b.num)) := by rw [hW]; exact (((Hbn.out).alloc _).alloc _).alloc _
 have IVdb : Hid (Iv W (.agg #[.bool sbd, .slice Xbd pbd qbd]) ((b.den : Int))) := by rw [hW]; exact (((Hbd.out).alloc _).alloc _).alloc _
 have DW : Hid (Below w.heap.size w W) := by rw [hW]; exact (((Below.refl _ _).alloc (by simp <;> omega) _).alloc (by simp <;> omega) _).alloc (by simp <;> omega) _
 clear hW
 generalize hg : w.heap.size = g at *
 replace hg := Lib.hid hg
 go_upto_region 1 with fail
 have u1a := QXa.out.cell0; have u1b := QXa.out.cell1; have u1c := QXa.out.cell2; have u1d := QXa.out.cell3
 have u2a := QXb.out.cell0; have u2b := QXb.out.cell1; have u2c := QXb.out.cell2; have u2d := QXb.out.cell3
 go_wp2_with fail
 clear u1a u1b u1c u1d u2a u2b u2c u2d
 refine (rqcmp_is _ _ a b 1 _ (qv_of IVna.out IVda.out) (SRa.out.mono (by omega)) (qv_of IVnb.out IVdb.out) (SRb.out.mono (by omega)) h1.out).mono ?_
 rintro e y3 ⟨rfl, hb⟩
 replace QXa := nxq QXa hb rfl; replace IVna := nxv IVna hb rfl; replace IVda := nxv IVda hb rfl
 replace QXb := nxq QXb hb rfl; replace IVnb := nxv IVnb hb rfl; replace IVdb := nxv IVdb hb rfl
 replace RXr := Lib.hid (RXr.out.next hb rfl)
 replace DW := nxd DW hg hb rfl rfl rfl rfl
 clear hb
 have u4a := RXr.out.cell0; have u4b := RXr.out.cell1; have u4c := RXr.out.cell2; have u4d := RXr.out.cell3; have u4f := RXr.out.frozen 0; have u4g := RXr.out.frozen 1; have u4h := RXr.out.frozen 2; have u4i := RXr.out.frozen 3
 go_wp2
 refine bodyPost_ret (v := .tuple #[zeroQ, .int .i64 1]) (by simp [results, Tryz.results32, go_sem, zeroQ, u4a, u4b, u4c, u4d, u4f, u4g, u4h, u4i]) rfl ⟨_, rfl, zeroQ_qv _, ?_⟩
 rw [hg.out]
 first | exact DW.out | exact (((DW.out.setCell (by simp <;> omega) _).setCell (by simp <;> omega) _).setCell (by simp <;> omega) _).setCell (by simp <;> omega) _

set_option maxHeartbeats 8000000 in
set_option maxRecDepth 100000 in
theorem rbetween_p (va vb : Value) (a b : Rat) (w : World) (ha : Qv w va a.num a.den) (sa : Sr a 1000) (hb : Qv w vb b.num b.den) (sb : Sr b 1000) (h1 : cq a b ≤ 0) (h2 : 0 < a.num) : Calls Tryz.prog 32 #[va, vb] w (RetQC (smp a b).num (smp a b).den 0 w) := by
 obtain ⟨o, ho⟩ : ∃ o, cq a b = o := ⟨_, rfl⟩
 have d1 : decide (0 < o) = false := decide_eq_false (by omega)
 obtain ⟨p, hp⟩ : ∃ o, sg a.num = o := ⟨_, rfl⟩
 obtain ⟨q, hq0⟩ : ∃ o, sg b.num = o := ⟨_, rfl⟩
 have d2 : decide (0 < p) = true := decide_eq_true (by rw [← hp]; rcases sg_cases a.num with ⟨k1, e1⟩ | ⟨k1, e1⟩ | ⟨k1, e1⟩ <;> omega)
 have HLE : Hid (a.num * b.den ≤ b.num * a.den) := (Rat.le_iff _ _).1 (cq_le.1 h1)
 replace h2 := Lib.hid h2
 clear h1
 obtain ⟨T, eT⟩ : ∃ T, smp a b = T := ⟨_, rfl⟩
 rw [eT]
 replace eT := Lib.hid eT
 replace ho := Lib.hid ho; replace hp := Lib.hid hp; replace hq0 := Lib.hid hq0
 obtain ⟨Xan, pan, qan, Xad, pad, qad, rfl, han, had⟩ := ha
 have Han := Lib.hid han
 have Had := Lib.hid had
 have SRa := Lib.hid sa
 clear han had sa
 generalize hs : decide (a.num < 0) = san at *
 clear hs
 generalize hs : decide ((a.den : Int) < 0) = sad at *
 clear hs
 obtain ⟨Xbn, pbn, qbn, Xbd, pbd, qbd, rfl, hbn, hbd⟩ := hb
 have Hbn := Lib.hid hbn
 have Hbd := Lib.hid hbd
 have SRb := Lib.hid sb
 clear hbn hbd sb
 generalize hs : decide (b.num < 0) = sbn at *
 clear hs
 generalize hs : decide ((b.den : Int) < 0) = sbd at *
 clear hs

 go_enter Tryz.func32, Tryz.ntmps32
 go_wp2_with fail
 obtain ⟨W, hW⟩ : ∃ W, W = (((w.alloc (Obj.cells #[Value.bool san, Value.slice Xan pan qan, Value.bool sad, Value.slice Xad pad qad] 31)).alloc (Obj.cells #[Value.bool sbn, Value.slice Xbn pbn qbn, Value.bool sbd, Value.slice Xbd pbd qbd] 31)).alloc (Obj.cells #[Value.bool false, Value.slice none 0 0, Value.bool false, Value.slice none 0 0] 31)) := ⟨_, rfl⟩
 rw [← hW]
 have QXa : Hid (QBox W (w.heap.size) san (.slice Xan pan qan) sad (.slice Xad pad qad)) := by rw [hW]; have := ((QBox.new w san (Value.slice Xan pan qan) sad (Value.slice Xad pad qad)).alloc (Obj.cells #[Value.bool sbn, Value.slice Xbn pbn qbn, Value.bool sbd, Value.slice Xbd pbd qbd] 31)).alloc (Obj.cells #[Value.bool false, Value.slice none 0 0, Value.bool false, Value.slice none 0 0] 31); simpa [Hid] using this
 have QXb : Hid (QBox W (w.heap.size + 1) sbn (.slice Xbn pbn qbn) sbd (.slice Xbd pbd qbd)) := by rw [hW]; have := (QBox.new (w.alloc (Obj.cells #[Value.bool san, Value.slice Xan pan qan, Value.bool sad, Value.slice Xad pad qad] 31)) sbn (Value.slice Xbn pbn qbn) sbd (Value.slice Xbd pbd qbd)).alloc (Obj.cells #[Value.bool false, Value.slice none 0 0, Value.bool false, Value.slice none 0 0] 31); simpa [Hid] using this
 have RXr : Hid (QBox W (w.heap.size + 1 + 1) false (.slice none 0 0) false (.slice none 0 0)) := by rw [hW]; have := QBox.new ((w.alloc (Obj.cells #[Value.bool san, Value.slice Xan pan qan, Value.bool sad, Value.slice Xad pad qad] 31)).alloc (Obj.cells #[Value.bool sbn, Value.slice Xbn pbn qbn, Value.bool sbd, Value.slice Xbd pbd qbd] 31)) false (Value.slice none 0 0) false (Value.slice none 0 0); simpa [Hid] using this
 have IVna : Hid (Iv W (.agg #[.bool san, .slice Xan pan qan]) (a.num)) := by rw [hW]; exact (((Han.out).alloc _).alloc _).alloc _
 have IVda : Hid (Iv W (.agg #[.bool sad, .slice Xad pad qad]) ((a.den : Int))) := by rw [hW]; exact (((Had.out).alloc _).alloc _).alloc _
 have IVnb : Hid (Iv W (.agg #[.bool sbn, .slice Xbn pbn qbn]) (b.num)) := by rw [hW]; exact (((Hbn.out).alloc _).alloc _).alloc _
 have IVdb : Hid (Iv W (.agg #[.bool sbd, .slice Xbd pbd qbd]) ((b.den : Int))) := by rw [hW]; exact (((Hbd.out).alloc _).alloc _).alloc _
 have DW : Hid (Below w.heap.size w W) := by rw [hW]; exact (((Below.refl _ _).alloc (by simp <;> omega) _).alloc (by simp <;> omega) _).alloc (by simp <;> omega) _
 clear hW
 generalize hg : w.heap.size = g at *
 replace hg := Lib.hid hg
 go_upto_region 1 with fail
 have u1a := QXa.out.cell0; have u1b := QXa.out.cell1; have u1c := QXa.out.cell2; have u1d := QXa.out.cell3
 have u2a := QXb.out.cell0; have u2b := QXb.out.cell1; have u2c := QXb.out.cell2; have u2d := QXb.out.cell3
 go_wp2_with fail
 clear u1a u1b u1c u1d u2a u2b u2c u2d
 refine (rqcmp_is _ _ a b o _ (qv_of IVna.out IVda.out) (SRa.out.mono (by omega)) (qv_of IVnb.out IVdb.out) (SRb.out.mono (by omega)) ho.out).mono ?_
 rintro e y3 ⟨rfl, hb⟩
 replace QXa := nxq QXa hb rfl; replace IVna := nxv IVna hb rfl; replace IVda := nxv IVda hb rfl
 replace QXb := nxq QXb hb rfl; replace IVnb := nxv IVnb hb rfl; replace IVdb := nxv IVdb hb rfl
 replace RXr := Lib.hid (RXr.out.next hb rfl)
 replace DW := nxd DW hg hb rfl rfl rfl rfl
 clear hb
 have u4a := QXa.out.cell0; have u4b := QXa.out.cell1; have u4c := QXa.out.cell2; have u4d := QXa.out.cell3
 go_wp2_with fail
 clear u4a u4b u4c u4d
 refine (rqsign_is _ a p _ (qv_of IVna.out IVda.out) (SRa.out.mono (by omega)) hp.out).mono ?_
 rintro e y5 ⟨rfl, hb⟩
 replace QXa := nxq QXa hb rfl; replace IVna := nxv IVna hb rfl; replace IVda := nxv IVda hb rfl
 replace QXb := nxq QXb hb rfl; replace IVnb := nxv IVnb hb rfl; replace IVdb := nxv IVdb hb rfl
 replace RXr := Lib.hid (RXr.out.next hb rfl)
 replace DW := nxd DW hg hb rfl rfl rfl rfl
 clear hb
 have u6a := QXa.out.cell0; have u6b := QXa.out.cell1; have u6c := QXa.out.cell2; have u6d := QXa.out.cell3
 have u7a := QXb.out.cell0; have u7b := QXb.out.cell1; have u7c := QXb.out.cell2; have u7d := QXb.out.cell3
 go_wp2_with fail
 clear u6a u6b u6c u6d u7a u7b u7c u7d
 refine (eT.out ▸ rsimplest_any _ _ _ a b _ (qv_of IVna.out IVda.out) SRa.out (qv_of IVnb.out IVdb.out) SRb.out h2.out HLE.out (Nat.le_refl _)).mono ?_
 rintro e y8 ⟨_, rfl, hq, hb⟩
 obtain ⟨Xz, pz, qz, Yz, uz, tz, rfl, k1, k2⟩ := hq
 replace k1 := Lib.hid k1; replace k2 := Lib.hid k2
 replace QXa := nxq QXa hb rfl; replace IVna := nxv IVna hb rfl; replace IVda := nxv IVda hb rfl
 replace QXb := nxq QXb hb rfl; replace IVnb := nxv IVnb hb rfl; replace IVdb := nxv IVdb hb rfl
 replace RXr := Lib.hid (RXr.out.next hb rfl)
 replace DW := nxd DW hg hb rfl rfl rfl rfl
 clear hb
 generalize hs1 : decide ((T.num : Int) < 0) = s1 at *
 generalize hs2 : decide (((T.den : Int) : Int) < 0) = s2 at *
 clear hs1 hs2
 have u9a := RXr.out.cell0; have u9b := RXr.out.cell1; have u9c := RXr.out.cell2; have u9d := RXr.out.cell3; have u9f := RXr.out.frozen 0; have u9g := RXr.out.frozen 1; have u9h := RXr.out.frozen 2; have u9i := RXr.out.frozen 3
 go_wp2
 refine bodyPost_ret (v := .tuple #[.agg #[.bool s1, .slice Xz pz qz, .bool s2, .slice Yz uz tz], .int .i64 0]) (by simp [results, Tryz.results32, go_sem, u9a, u9b, u9c, u9d, u9f, u9g, u9h, u9i]) rfl ⟨_, rfl, ?_, by rw [hg.out]; exact (((DW.out.setCell (by simp <;> omega) _).setCell (by simp <;> omega) _).setCell (by simp <;> omega) _).setCell (by simp <;> omega) _⟩
 have hc := chg_qbox (b' := s1) (d' := s2) (A' := Xz) (n' := pz) (c' := qz) (B' := Yz) (m' := uz) (e' := tz) RXr.out
 exact qv_of (k1.out.kn hc.kn) (k2.out.kn hc.kn)

set_option maxHeartbeats 8000000 in
set_option maxRecDepth 100000 in
theorem rbetween_n (va vb : Value) (a b : Rat) (w : World) (ha : Qv w va a.num a.den) (sa : Sr a 1000) (hb : Qv w vb b.num b.den) (sb : Sr b 1000) (h1 : cq a b ≤ 0) (h2 : b.num < 0) : Calls Tryz.prog 32 #[va, vb] w (RetQC (-(smp (-b) (-a))).num (-(smp (-b) (-a))).den 0 w) := by
 obtain ⟨o, ho⟩ : ∃ o, cq a b = o := ⟨_, rfl⟩
 have d1 : decide (0 < o) = false := decide_eq_false (by omega)
 obtain ⟨p, hp⟩ : ∃ o, sg a.num = o := ⟨_, rfl⟩
 obtain ⟨q, hq0⟩ : ∃ o, sg b.num = o := ⟨_, rfl⟩
 have hle := cq_le.1 h1
 have ha0 : a.num < 0 := by
  have e := (Rat.le_iff a b).1 hle
  have h3 := Int.mul_neg_of_neg_of_pos h2 (den_cast a)
  by_cases h : a.num < 0
  ·exact h
  ·have := Int.mul_nonneg (Int.not_lt.1 h) (Int.le_of_lt (den_cast b)); omega
 have d2 : decide (0 < p) = false := decide_eq_false (by rw [← hp]; rcases sg_cases a.num with ⟨k1, e1⟩ | ⟨k1, e1⟩ | ⟨k1, e1⟩ <;> omega)
 have d3 : decide (q < 0) = true := decide_eq_true (by rw [← hq0]; rcases sg_cases b.num with ⟨k1, e1⟩ | ⟨k1, e1⟩ | ⟨k1, e1⟩ <;> omega)
 have HP : Hid (0 < (-b).num) := by rw [Rat.neg_num]; unfold Hid; omega
 have HL : Hid ((-b).num * (-a).den ≤ (-a).num * (-b).den) := by
  have e := (Rat.le_iff a b).1 hle
  rw [Rat.neg_num, Rat.neg_num, rneg_den, rneg_den, Int.neg_mul, Int.neg_mul]
  unfold Hid
  omega
 have HS : Hid (Sr (smp (-b) (-a)) 1000) := smp_sr HP.out HL.out sa.neg
 clear h1 h2 hle ha0
 replace ho := Lib.hid ho; replace hp := Lib.hid hp; replace hq0 := Lib.hid hq0
 obtain ⟨Xan, pan, qan, Xad, pad, qad, rfl, han, had⟩ := ha
 have Han := Lib.hid han
 have Had := Lib.hid had
 have SRa := Lib.hid sa
 clear han had sa
 generalize hs : decide (a.num < 0) = san at *
 clear hs
 generalize hs : decide ((a.den : Int) < 0) = sad at *
 clear hs
 obtain ⟨Xbn, pbn, qbn, Xbd, pbd, qbd, rfl, hbn, hbd⟩ := hb
 have Hbn := Lib.hid hbn
 have Hbd := Lib.hid hbd
 have SRb := Lib.hid sb
 clear hbn hbd sb
 generalize hs : decide (b.num < 0) = sbn at *
 clear hs
 generalize hs : decide ((b.den : Int) < 0) = sbd at *
 clear hs

 go_enter Tryz.func32, Tryz.ntmps32
 go_wp2_with fail
 obtain ⟨W, hW⟩ : ∃ W, W = (((w.alloc (Obj.cells #[Value.bool san, Value.slice Xan pan qan, Value.bool sad, Value.slice Xad pad qad] 31)).alloc (Obj.cells #[Value.bool sbn, Value.slice Xbn pbn qbn, Value.bool sbd, Value.slice Xbd pbd qbd] 31)).alloc (Obj.cells #[Value.bool false, Value.slice none 0 0, Value.bool false, Value.slice none 0 0] 31)) := ⟨_, rfl⟩
 rw [← hW]
 have QXa : Hid (QBox W (w.heap.size) san (.slice Xan pan qan) sad (.slice Xad pad qad)) := by rw [hW]; have := ((QBox.new w san (Value.slice Xan pan qan) sad (Value.slice Xad pad qad)).alloc (Obj.cells #[Value.bool sbn, Value.slice Xbn pbn qbn, Value.bool sbd, Value.slice Xbd pbd qbd] 31)).alloc (Obj.cells #[Value.bool false, Value.slice none 0 0, Value.bool false, Value.slice none 0 0] 31); simpa [Hid] using this
 have QXb : Hid (QBox W (w.heap.size + 1) sbn (.slice Xbn pbn qbn) sbd (.slice Xbd pbd qbd)) := by rw [hW]; have := (QBox.new (w.alloc (Obj.cells #[Value.bool san, Value.slice Xan pan qan, Value.bool sad, Value.slice Xad pad qad] 31)) sbn (Value.slice Xbn pbn qbn) sbd (Value.slice Xbd pbd qbd)).alloc (Obj.cells #[Value.bool false, Value.slice none 0 0, Value.bool false, Value.slice none 0 0] 31); simpa [Hid] using this
 have RXr : Hid (QBox W (w.heap.size + 1 + 1) false (.slice none 0 0) false (.slice none 0 0)) := by rw [hW]; have := QBox.new ((w.alloc (Obj.cells #[Value.bool san, Value.slice Xan pan qan, Value.bool sad, Value.slice Xad pad qad] 31)).alloc (Obj.cells #[Value.bool sbn, Value.slice Xbn pbn qbn, Value.bool sbd, Value.slice Xbd pbd qbd] 31)) false (Value.slice none 0 0) false (Value.slice none 0 0); simpa [Hid] using this
 have IVna : Hid (Iv W (.agg #[.bool san, .slice Xan pan qan]) (a.num)) := by rw [hW]; exact (((Han.out).alloc _).alloc _).alloc _
 have IVda : Hid (Iv W (.agg #[.bool sad, .slice Xad pad qad]) ((a.den : Int))) := by rw [hW]; exact (((Had.out).alloc _).alloc _).alloc _
 have IVnb : Hid (Iv W (.agg #[.bool sbn, .slice Xbn pbn qbn]) (b.num)) := by rw [hW]; exact (((Hbn.out).alloc _).alloc _).alloc _
 have IVdb : Hid (Iv W (.agg #[.bool sbd, .slice Xbd pbd qbd]) ((b.den : Int))) := by rw [hW]; exact (((Hbd.out).alloc _).alloc _).alloc _
 have DW : Hid (Below w.heap.size w W) := by rw [hW]; exact (((Below.refl _ _).alloc (by simp <;> omega) _).alloc (by simp <;> omega) _).alloc (by simp <;> omega) _
 clear hW
 generalize hg : w.heap.size = g at *
 replace hg := Lib.hid hg
 go_upto_region 1 with fail
 have u1a := QXa.out.cell0; have u1b := QXa.out.cell1; have u1c := QXa.out.cell2; have u1d := QXa.out.cell3
 have u2a := QXb.out.cell0; have u2b := QXb.out.cell1; have u2c := QXb.out.cell2; have u2d := QXb.out.cell3
 go_wp2_with fail
 clear u1a u1b u1c u1d u2a u2b u2c u2d
 refine (rqcmp_is _ _ a b o _ (qv_of IVna.out IVda.out) (SRa.out.mono (by omega)) (qv_of IVnb.out IVdb.out) (SRb.out.mono (by omega)) ho.out).mono ?_
 rintro e y3 ⟨rfl, hb⟩
 replace QXa := nxq QXa hb rfl; replace IVna := nxv IVna hb rfl; replace IVda := nxv IVda hb rfl
 replace QXb := nxq QXb hb rfl; replace IVnb := nxv IVnb hb rfl; replace IVdb := nxv IVdb hb rfl
 replace RXr := Lib.hid (RXr.out.next hb rfl)
 replace DW := nxd DW hg hb rfl rfl rfl rfl
 clear hb
 have u4a := QXa.out.cell0; have u4b := QXa.out.cell1; have u4c := QXa.out.cell2; have u4d := QXa.out.cell3
 go_wp2_with fail
 clear u4a u4b u4c u4d
 refine (rqsign_is _ a p _ (qv_of IVna.out IVda.out) (SRa.out.mono (by omega)) hp.out).mono ?_
 rintro e y5 ⟨rfl, hb⟩
 replace QXa := nxq QXa hb rfl; replace IVna := nxv IVna hb rfl; replace IVda := nxv IVda hb rfl
 replace QXb := nxq QXb hb rfl; replace IVnb := nxv IVnb hb rfl; replace IVdb := nxv IVdb hb rfl
 replace RXr := Lib.hid (RXr.out.next hb rfl)
 replace DW := nxd DW hg hb rfl rfl rfl rfl
 clear hb
 have u6a := QXb.out.cell0; have u6b := QXb.out.cell1; have u6c := QXb.out.cell2; have u6d := QXb.out.cell3
 go_wp2_with fail
 clear u6a u6b u6c u6d
 refine (rqsign_is _ b q _ (qv_of IVnb.out IVdb.out) (SRb.out.mono (by omega)) hq0.out).mono ?_
 rintro e y7 ⟨rfl, hb⟩
 replace QXa := nxq QXa hb rfl; replace IVna := nxv IVna hb rfl; replace IVda := nxv IVda hb rfl
 replace QXb := nxq QXb hb rfl; replace IVnb := nxv IVnb hb rfl; replace IVdb := nxv IVdb hb rfl
 replace RXr := Lib.hid (RXr.out.next hb rfl)
 replace DW := nxd DW hg hb rfl rfl rfl rfl
 clear hb
 go_upto_region 6 with fail
 have QVa : Hid (Qv y7 (.agg #[.bool san, .slice Xan pan qan, .bool sad, .slice Xad pad qad]) (a.num) ((a.den : Int))) := qv_of IVna.out IVda.out
 have QVb : Hid (Qv y7 (.agg #[.bool sbn, .slice Xbn pbn qbn, .bool sbd, .slice Xbd pbd qbd]) (b.num) ((b.den : Int))) := qv_of IVnb.out IVdb.out
 refine Rg.region_gg y7 [.is (.agg #[.bool sbn, .slice Xbn pbn qbn, .bool sbd, .slice Xbd pbd qbd]), .sat (pQv ((-b).num) (((-b).den : Int))) (pQv_keep _ _), .is (.agg #[.bool san, .slice Xan pan qan, .bool sad, .slice Xad pad qad]), .sat (pQv ((-a).num) (((-a).den : Int))) (pQv_keep _ _), .sat (pQv ((smp (-b) (-a)).num) (((smp (-b) (-a)).den : Int))) (pQv_keep _ _), .sat (pQv ((-(smp (-b) (-a))).num) (((-(smp (-b) (-a))).den : Int))) (pQv_keep _ _), .sto (g + 1 + 1) (sQ (g + 1 + 1) ((-(smp (-b) (-a))).num) (((-(smp (-b) (-a))).den : Int))) (sQ_keep _ _ _), .is (Value.int IntKind.i64 0)] [(g + 1 + 1)] [some 20, some 21, some 22, some 23, some 24, some 25, none, some 5] (by kernel_rfl) (by kernel_rfl) (by kernel_rfl) (by kernel_rfl) (by kernel_rfl) (by simp [Rg.stos]) (by rfl) (by rfl) (by kernel_rfl) (by intro g hg; simp only [List.mem_cons, List.not_mem_nil, or_false] at hg; subst hg; exact RXr.out.lt) ((Below.refl _ _).drew) (fun Q' => ?_) (fun K hK wn hs => ?_)
 ·refine ⟨?_, ?_, ?_, ?_, ?_, ?_, ?_, ?_, trivial⟩
  ·intro a' w' ha hs hw hold
   have eo3 : a'.tmps[3]? = some (ptr (g + 1)) := (ha.rest 3 (by kernel_rfl)).trans rfl
   exact ⟨rfl, .inl ⟨wanted_none rfl, wp_val (run_qload rfl (ev_tmp eo3) (QXb.out.bel hs (by simp only [List.mem_cons, List.not_mem_nil, or_false, not_or]; exact (by omega)))) ⟨rfl, Below.refl _ _⟩⟩⟩
  ·intro a' w' ha hs hw hold
   have e0 : a'.tmps[20]? = some (.agg #[.bool sbn, .slice Xbn pbn qbn, .bool sbd, .slice Xbd pbd qbd]) := Rg.slot_get rfl rfl (hw 0 (by kernel_rfl) _ rfl)
   exact ⟨rfl, wanted_none rfl, call_step rfl Tryz.func24 (by kernel_rfl) rfl (map_one (ev_tmp e0)) (rqneg_any _ b _ (QVb.out.kn hs.kn) (SRb.out.mono (by omega))) (fun e w2 he => by obtain ⟨v, rfl, hv, hb⟩ := he; exact ⟨v, rfl, v, rfl, hv, hb⟩)⟩
  ·intro a' w' ha hs hw hold
   have eo2 : a'.tmps[2]? = some (ptr g) := (ha.rest 2 (by kernel_rfl)).trans rfl
   exact ⟨rfl, .inl ⟨wanted_none rfl, wp_val (run_qload rfl (ev_tmp eo2) (QXa.out.bel hs (by simp only [List.mem_cons, List.not_mem_nil, or_false, not_or]; exact (by omega)))) ⟨rfl, Below.refl _ _⟩⟩⟩
  ·intro a' w' ha hs hw hold
   have e2 : a'.tmps[22]? = some (.agg #[.bool san, .slice Xan pan qan, .bool sad, .slice Xad pad qad]) := Rg.slot_get rfl rfl (hw 2 (by kernel_rfl) _ rfl)
   exact ⟨rfl, wanted_none rfl, call_step rfl Tryz.func24 (by kernel_rfl) rfl (map_one (ev_tmp e2)) (rqneg_any _ a _ (QVa.out.kn hs.kn) (SRa.out.mono (by omega))) (fun e w2 he => by obtain ⟨v, rfl, hv, hb⟩ := he; exact ⟨v, rfl, v, rfl, hv, hb⟩)⟩
  ·intro a' w' ha hs hw hold
   obtain ⟨v1, e1, q1⟩ := hw 1 (by kernel_rfl) _ rfl
   replace e1 : a'.tmps[21]? = some v1 := Rg.slot_get rfl rfl e1
   obtain ⟨v3, e3, q3⟩ := hw 3 (by kernel_rfl) _ rfl
   replace e3 : a'.tmps[23]? = some v3 := Rg.slot_get rfl rfl e3
   exact ⟨rfl, wanted_none rfl, call_step rfl Tryz.func104 (by kernel_rfl) rfl (map_two (ev_tmp e1) (ev_tmp e3)) (rsimplest_any _ _ _ (-b) (-a) _ q1 SRb.out.neg q3 SRa.out.neg HP.out HL.out (Nat.le_refl _)) (fun e w2 he => by obtain ⟨v, rfl, hv, hb⟩ := he; exact ⟨v, rfl, v, rfl, hv, hb⟩)⟩
  ·intro a' w' ha hs hw hold
   obtain ⟨v4, e4, q4⟩ := hw 4 (by kernel_rfl) _ rfl
   replace e4 : a'.tmps[24]? = some v4 := Rg.slot_get rfl rfl e4
   exact ⟨rfl, wanted_none rfl, call_step rfl Tryz.func24 (by kernel_rfl) rfl (map_one (ev_tmp e4)) (rqneg_any _ (smp (-b) (-a)) _ q4 (HS.out.mono (by omega))) (fun e w2 he => by obtain ⟨v, rfl, hv, hb⟩ := he; exact ⟨v, rfl, v, rfl, hv, hb⟩)⟩
  ·intro a' w' ha hs hw hold
   obtain ⟨v5, e5, q5⟩ := hw 5 (by kernel_rfl) _ rfl
   replace e5 : a'.tmps[25]? = some v5 := Rg.slot_get rfl rfl e5
   have eo4 : a'.tmps[4]? = some (ptr (g + 1 + 1)) := (ha.rest 4 (by kernel_rfl)).trans rfl
   exact ⟨rfl, wanted_none rfl, fun he => step_stoq rfl rfl (ev_tmp eo4) (ev_tmp e5) q5 RXr.out he⟩
  ·intro a' w' ha hs hw hold
   exact ⟨rfl, .inl ⟨wanted_none rfl, wp_val (run_assign rfl rfl) ⟨rfl, Below.refl _ _⟩⟩⟩
 simp only [Rg.allG]
 intro r8x1 _
 intro r8x3 _
 intro r8x4 _
 intro r8x5 _
 intro hSr
 simp only [setOpt, Rg.setOpt, List.set_cons_succ, List.set_cons_zero]
 refine hK _ _ ?_
 clear hK K
 have DN : Hid (Below g w wn) := hs.base DW.out (by have := hg.out; omega) (by simp only [List.mem_cons, List.not_mem_nil, or_false]; omega)
 obtain ⟨Ar, ir, cr, Br, jr, dr, hcr, hir, hjr⟩ := hSr
 have kra := hcr.cell0; have krb := hcr.cell1; have krc := hcr.cell2; have krd := hcr.cell3
 have HIr := Lib.hid hir; clear hir
 have HJr := Lib.hid hjr; clear hjr
 go_wp2
 exact bodyPost_ret (v := .tuple #[.agg #[.bool (decide ((-(smp (-b) (-a))).num < 0)), .slice Ar ir cr, .bool (decide (((-(smp (-b) (-a))).den : Int) < 0)), .slice Br jr dr], .int .i64 0]) (by simp [results, Tryz.results32, go_sem, kra, krb, krc, krd]) rfl ⟨_, rfl, ⟨Ar, ir, cr, Br, jr, dr, rfl, HIr.out, HJr.out⟩, by rw [hg.out]; exact DN.out⟩

set_option maxHeartbeats 8000000 in
set_option maxRecDepth 100000 in
theorem rbetween_z (va vb : Value) (a b : Rat) (w : World) (ha : Qv w va a.num a.den) (sa : Sr a 1000) (hb : Qv w vb b.num b.den) (sb : Sr b 1000) (h1 : cq a b ≤ 0) (h2 : ¬ 0 < a.num) (h3 : ¬ b.num < 0) : Calls Tryz.prog 32 #[va, vb] w (RetQC ((0 : Int) : Rat).num ((0 : Int) : Rat).den 0 w) := by
 obtain ⟨o, ho⟩ : ∃ o, cq a b = o := ⟨_, rfl⟩
 have d1 : decide (0 < o) = false := decide_eq_false (by omega)
 obtain ⟨p, hp⟩ : ∃ o, sg a.num = o := ⟨_, rfl⟩
 obtain ⟨q, hq0⟩ : ∃ o, sg b.num = o := ⟨_, rfl⟩
 have d2 : decide (0 < p) = false := decide_eq_false (by rw [← hp]; rcases sg_cases a.num with ⟨k1, e1⟩ | ⟨k1, e1⟩ | ⟨k1, e1⟩ <;> omega)
 have d3 : decide (q < 0) = false := decide_eq_false (by rw [← hq0]; rcases sg_cases b.num with ⟨k1, e1⟩ | ⟨k1, e1⟩ | ⟨k1, e1⟩ <;> omega)
 clear h1 h2 h3
 replace ho := Lib.hid ho; replace hp := Lib.hid hp; replace hq0 := Lib.hid hq0
 obtain ⟨Xan, pan, qan, Xad, pad, qad, rfl, han, had⟩ := ha
 have Han := Lib.hid han
 have Had := Lib.hid had
 have SRa := Lib.hid sa
 clear han had sa
 generalize hs : decide (a.num < 0) = san at *
 clear hs
 generalize hs : decide ((a.den : Int) < 0) = sad at *
 clear hs
 obtain ⟨Xbn, pbn, qbn, Xbd, pbd, qbd, rfl, hbn, hbd⟩ := hb
 have Hbn := Lib.hid hbn
 have Hbd := Lib.hid hbd
 have SRb := Lib.hid sb
 clear hbn hbd sb
 generalize hs : decide (b.num < 0) = sbn at *
 clear hs
 generalize hs : decide ((b.den : Int) < 0) = sbd at *
 clear hs

 go_enter Tryz.func32, Tryz.ntmps32
 go_wp2_with fail
 obtain ⟨W, hW⟩ : ∃ W, W = (((w.alloc (Obj.cells #[Value.bool san, Value.slice Xan pan qan, Value.bool sad, Value.slice Xad pad qad] 31)).alloc (Obj.cells #[Value.bool sbn, Value.slice Xbn pbn qbn, Value.bool sbd, Value.slice Xbd pbd qbd] 31)).alloc (Obj.cells #[Value.bool false, Value.slice none 0 0, Value.bool false, Value.slice none 0 0] 31)) := ⟨_, rfl⟩
 rw [← hW]
 have QXa : Hid (QBox W (w.heap.size) san (.slice Xan pan qan) sad (.slice Xad pad qad)) := by rw [hW]; have := ((QBox.new w san (Value.slice Xan pan qan) sad (Value.slice Xad pad qad)).alloc (Obj.cells #[Value.bool sbn, Value.slice Xbn pbn qbn, Value.bool sbd, Value.slice Xbd pbd qbd] 31)).alloc (Obj.cells #[Value.bool false, Value.slice none 0 0, Value.bool false, Value.slice none 0 0] 31); simpa [Hid] using this
 have QXb : Hid (QBox W (w.heap.size + 1) sbn (.slice Xbn pbn qbn) sbd (.slice Xbd pbd qbd)) := by rw [hW]; have := (QBox.new (w.alloc (Obj.cells #[Value.bool san, Value.slice Xan pan qan, Value.bool sad, Value.slice Xad pad qad] 31)) sbn (Value.slice Xbn pbn qbn) sbd (Value.slice Xbd pbd qbd)).alloc (Obj.cells #[Value.bool false, Value.slice none 0 0, Value.bool false, Value.slice none 0 0] 31); simpa [Hid] using this
 have RXr : Hid (QBox W (w.heap.size + 1 + 1) false (.slice none 0 0) false (.slice none 0 0)) := by rw [hW]; have := QBox.new ((w.alloc (Obj.cells #[Value.bool san, Value.slice Xan pan qan, Value.bool sad, Value.slice Xad pad qad] 31)).alloc (Obj.cells #[Value.bool sbn, Value.slice Xbn pbn qbn, Value.bool sbd, Value.slice Xbd pbd qbd] 31)) false (Value.slice none 0 0) false (Value.slice none 0 0); simpa [Hid] using this
 have IVna : Hid (Iv W (.agg #[.bool san, .slice Xan pan qan]) (a.num)) := by rw [hW]; exact (((Han.out).alloc _).alloc _).alloc _
 have IVda : Hid (Iv W (.agg #[.bool sad, .slice Xad pad qad]) ((a.den : Int))) := by rw [hW]; exact (((Had.out).alloc _).alloc _).alloc _
 have IVnb : Hid (Iv W (.agg #[.bool sbn, .slice Xbn pbn qbn]) (b.num)) := by rw [hW]; exact (((Hbn.out).alloc _).alloc _).alloc _
 have IVdb : Hid (Iv W (.agg #[.bool sbd, .slice Xbd pbd qbd]) ((b.den : Int))) := by rw [hW]; exact (((Hbd.out).alloc _).alloc _).alloc _
 have DW : Hid (Below w.heap.size w W) := by rw [hW]; exact (((Below.refl _ _).alloc (by simp <;> omega) _).alloc (by simp <;> omega) _).alloc (by simp <;> omega) _
 clear hW
 generalize hg : w.heap.size = g at *
 replace hg := Lib.hid hg
 go_upto_region 1 with fail
 have u1a := QXa.out.cell0; have u1b := QXa.out.cell1; have u1c := QXa.out.cell2; have u1d := QXa.out.cell3
 have u2a := QXb.out.cell0; have u2b := QXb.out.cell1; have u2c := QXb.out.cell2; have u2d := QXb.out.cell3
 go_wp2_with fail
 clear u1a u1b u1c u1d u2a u2b u2c u2d
 refine (rqcmp_is _ _ a b o _ (qv_of IVna.out IVda.out) (SRa.out.mono (by omega)) (qv_of IVnb.out IVdb.out) (SRb.out.mono (by omega)) ho.out).mono ?_
 rintro e y3 ⟨rfl, hb⟩
 replace QXa := nxq QXa hb rfl; replace IVna := nxv IVna hb rfl; replace IVda := nxv IVda hb rfl
 replace QXb := nxq QXb hb rfl; replace IVnb := nxv IVnb hb rfl; replace IVdb := nxv IVdb hb rfl
 replace RXr := Lib.hid (RXr.out.next hb rfl)
 replace DW := nxd DW hg hb rfl rfl rfl rfl
 clear hb
 have u4a := QXa.out.cell0; have u4b := QXa.out.cell1; have u4c := QXa.out.cell2; have u4d := QXa.out.cell3
 go_wp2_with fail
 clear u4a u4b u4c u4d
 refine (rqsign_is _ a p _ (qv_of IVna.out IVda.out) (SRa.out.mono (by omega)) hp.out).mono ?_
 rintro e y5 ⟨rfl, hb⟩
 replace QXa := nxq QXa hb rfl; replace IVna := nxv IVna hb rfl; replace IVda := nxv IVda hb rfl
 replace QXb := nxq QXb hb rfl; replace IVnb := nxv IVnb hb rfl; replace IVdb := nxv IVdb hb rfl
 replace RXr := Lib.hid (RXr.out.next hb rfl)
 replace DW := nxd DW hg hb rfl rfl rfl rfl
 clear hb
 have u6a := QXb.out.cell0; have u6b := QXb.out.cell1; have u6c := QXb.out.cell2; have u6d := QXb.out.cell3
 go_wp2_with fail
 clear u6a u6b u6c u6d
 refine (rqsign_is _ b q _ (qv_of IVnb.out IVdb.out) (SRb.out.mono (by omega)) hq0.out).mono ?_
 rintro e y7 ⟨rfl, hb⟩
 replace QXa := nxq QXa hb rfl; replace IVna := nxv IVna hb rfl; replace IVda := nxv IVda hb rfl
 replace QXb := nxq QXb hb rfl; replace IVnb := nxv IVnb hb rfl; replace IVdb := nxv IVdb hb rfl
 replace RXr := Lib.hid (RXr.out.next hb rfl)
 replace DW := nxd DW hg hb rfl rfl rfl rfl
 clear hb
 go_wp2_with fail
 refine (rqWhole_any 0 _ (by decide) (by decide)).mono ?_
 rintro e y8 ⟨_, rfl, hq, hb⟩
 obtain ⟨Xz, pz, qz, Yz, uz, tz, rfl, k1, k2⟩ := hq
 replace k1 := Lib.hid k1; replace k2 := Lib.hid k2
 replace QXa := nxq QXa hb rfl; replace IVna := nxv IVna hb rfl; replace IVda := nxv IVda hb rfl
 replace QXb := nxq QXb hb rfl; replace IVnb := nxv IVnb hb rfl; replace IVdb := nxv IVdb hb rfl
 replace RXr := Lib.hid (RXr.out.next hb rfl)
 replace DW := nxd DW hg hb rfl rfl rfl rfl
 clear hb
 generalize hs1 : decide ((((0 : Int) : Rat).num : Int) < 0) = s1 at *
 generalize hs2 : decide (((((0 : Int) : Rat).den : Int) : Int) < 0) = s2 at *
 clear hs1 hs2
 have u9a := RXr.out.cell0; have u9b := RXr.out.cell1; have u9c := RXr.out.cell2; have u9d := RXr.out.cell3; have u9f := RXr.out.frozen 0; have u9g := RXr.out.frozen 1; have u9h := RXr.out.frozen 2; have u9i := RXr.out.frozen 3
 go_wp2
 refine bodyPost_ret (v := .tuple #[.agg #[.bool s1, .slice Xz pz qz, .bool s2, .slice Yz uz tz], .int .i64 0]) (by simp [results, Tryz.results32, go_sem, u9a, u9b, u9c, u9d, u9f, u9g, u9h, u9i]) rfl ⟨_, rfl, ?_, by rw [hg.out]; exact (((DW.out.setCell (by simp <;> omega) _).setCell (by simp <;> omega) _).setCell (by simp <;> omega) _).setCell (by simp <;> omega) _⟩
 have hc := chg_qbox (b' := s1) (d' := s2) (A' := Xz) (n' := pz) (c' := qz) (B' := Yz) (m' := uz) (e' := tz) RXr.out
 exact qv_of (k1.out.kn hc.kn) (k2.out.kn hc.kn)

theorem rbetween_is (va vb : Value) (a b : Rat) (w : World) (ha : Qv w va a.num a.den) (sa : Sr a 1000) (hb : Qv w vb b.num b.den) (sb : Sr b 1000) (hle : cq a b ≤ 0) : Calls Tryz.prog 32 #[va, vb] w (RetQC (btw a b).num (btw a b).den 0 w) := by
 by_cases h2 : 0 < a.num
 ·rw [btw_pos h2]; exact rbetween_p va vb a b w ha sa hb sb hle h2
 ·by_cases h3 : b.num < 0
  ·rw [btw_neg h2 h3]; exact rbetween_n va vb a b w ha sa hb sb hle h3
  ·rw [btw_mid h2 h3]; exact rbetween_z va vb a b w ha sa hb sb hle h2 h3

end Go.Proofs.YtfigimfdojbkeaaGreat
