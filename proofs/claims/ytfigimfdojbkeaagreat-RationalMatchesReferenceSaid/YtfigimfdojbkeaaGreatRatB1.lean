/-
 The program's Between, but for positive and negative intervals.
-/
import Derived.Test.YtfigimfdojbkeaaGreatRatW
import Derived.Test.YtfigimfdojbkeaaGreatRatL
import Derived.Test.YtfigimfdojbkeaaGreatRatZ
import Derived.Deep.DeepCutAuto
import Derived.Handy
set_option linter.unusedSimpArgs false
set_option linter.unusedVariables false
namespace Go.Proofs.YtfigimfdojbkeaaGreat
open Go.RowKit
attribute [local go_sem ↓] Go.wp_at_zero Go.wp_at_succ

set_option maxHeartbeats 8000000 in
set_option maxRecDepth 100000 in
theorem between_arg (va vb : Value) (a b : Rat) (w : World) (ha : Qv w va a.num a.den) (sa : Sr a 10000) (hb : Qv w vb b.num b.den) (sb : Sr b 10000) (h1 : cq a b = 1) : Calls Tryz.prog 31 #[va, vb] w (RetV (.tuple #[zeroQ, .int .i64 1]) w) := by
 obtain ⟨Xan, pan, qan, Xad, pad, qad, rfl, han, had⟩ := ha
 have Han := Lib.hid han
 have Had := Lib.hid had
 have SRa := Lib.hid sa
 clear han had sa
 generalize hs : decide (a.num < 0) = san at *
 clear hs
 generalize hs : decide ((a.den : Int) < 0) = sad at *
 clear hs
 obtain ⟨Xbn, pbn, qbn, Xbd, pbd, qbd, rfl, hbn, hbd⟩ := hb
 have Hbn := Lib.hid hbn
 have Hbd := Lib.hid hbd
 have SRb := Lib.hid sb
 clear hbn hbd sb
 generalize hs : decide (b.num < 0) = sbn at *
 clear hs
 generalize hs : decide ((b.den : Int) < 0) = sbd at *
 clear hs
 replace h1 := Lib.hid h1

 go_enter Tryz.func31, Tryz.ntmps31
 go_wp2_with fail
 obtain ⟨W, hW⟩ : ∃ W, W = (((w.alloc (Obj.cells #[Value.bool san, Value.slice Xan pan qan, Value.bool sad, Value.slice Xad pad qad] 31)).alloc (Obj.cells #[Value.bool sbn, Value.slice Xbn pbn qbn, Value.bool sbd, Value.slice Xbd pbd qbd] 31)).alloc (Obj.cells #[Value.bool false, Value.slice none 0 0, Value.bool false, Value.slice none 0 0] 31)) := ⟨_, rfl⟩
 rw [← hW]
 have QXa : Hid (QBox W (w.heap.size) san (.slice Xan pan qan) sad (.slice Xad pad qad)) := by rw [hW]; have := ((QBox.new w san (Value.slice Xan pan qan) sad (Value.slice Xad pad qad)).alloc (Obj.cells #[Value.bool sbn, Value.slice Xbn pbn qbn, Value.bool sbd, Value.slice Xbd pbd qbd] 31)).alloc (Obj.cells #[Value.bool false, Value.slice none 0 0, Value.bool false, Value.slice none 0 0] 31); simpa [Hid] using this
 have QXb : Hid (QBox W (w.heap.size + 1) sbn (.slice Xbn pbn qbn) sbd (.slice Xbd pbd qbd)) := by rw [hW]; have := (QBox.new (w.alloc (Obj.cells #[Value.bool san, Value.slice Xan pan qan, Value.bool sad, Value.slice Xad pad qad] 31)) sbn (Value.slice Xbn pbn qbn) sbd (Value.slice Xbd pbd qbd)).alloc (Obj.cells #[Value.bool false, Value.slice none 0 0, Value.bool false, Value.slice none 0 0] 31); simpa [Hid] using this
 have RXr : Hid (QBox W (w.heap.size + 1 + 1) false (.slice none 0 0) false (.slice none 0 0)) := by rw [hW]; have := QBox.new ((w.alloc (Obj.cells #[Value.bool san, Value.slice Xan pan qan, Value.bool sad, Value.slice Xad pad qad] 31)).alloc (Obj.cells #[Value.bool sbn, Value.slice Xbn pbn qbn, Value.bool sbd, Value.slice Xbd pbd qbd] 31)) false (Value.slice none 0 0) false (Value.slice none 0 0); simpa [Hid] using this
 have IVna : Hid (Iv W (.agg #[.bool san, .slice Xan pan qan]) (a.num)) := by rw [hW]; exact (((Han.out).alloc _).alloc _).alloc _
 have IVda : Hid (Iv W (.agg #[.bool sad, .slice Xad pad qad]) ((a.den : Int))) := by rw [hW]; exact (((Had.out).alloc _).alloc _).alloc _
 have IVnb : Hid (Iv W (.agg #[.bool sbn, .slice Xbn pbn qbn]) (b.num)) := by rw [hW]; exact (((Hbn.out).alloc _).alloc _).alloc _
 have IVdb : Hid (Iv W (.agg #[.bool sbd, .slice Xbd pbd qbd]) ((b.den : Int))) := by rw [hW]; exact (((Hbd.out).alloc _).alloc _).alloc _
 have DW : Hid (Below w.heap.size w W) := by rw [hW]; exact (((Below.refl _ _).alloc (by simp <;> omega) _).alloc (by simp <;> omega) _).alloc (by simp <;> omega) _
 clear hW
 generalize hg : w.heap.size = g at *
 replace hg := Lib.hid hg
 go_upto_region 1 with fail
 have u1a := QXa.out.cell0; have u1b := QXa.out.cell1; have u1c := QXa.out.cell2; have u1d := QXa.out.cell3
 have u2a := QXb.out.cell0; have u2b := QXb.out.cell1; have u2c := QXb.out.cell2; have u2d := QXb.out.cell3
 go_wp2_with fail
 clear u1a u1b u1c u1d u2a u2b u2c u2d
 refine (qcmp_is _ _ a b 1 _ (qv_of IVna.out IVda.out) (SRa.out.mono (by omega)) (qv_of IVnb.out IVdb.out) (SRb.out.mono (by omega)) h1.out).mono ?_
 rintro e y3 ⟨rfl, hb⟩
 replace QXa := nxq QXa hb rfl; replace IVna := nxv IVna hb rfl; replace IVda := nxv IVda hb rfl
 replace QXb := nxq QXb hb rfl; replace IVnb := nxv IVnb hb rfl; replace IVdb := nxv IVdb hb rfl
 replace RXr := Lib.hid (RXr.out.next hb rfl)
 replace DW := nxd DW hg hb rfl rfl rfl rfl
 clear hb
 have u4a := RXr.out.cell0; have u4b := RXr.out.cell1; have u4c := RXr.out.cell2; have u4d := RXr.out.cell3; have u4f := RXr.out.frozen 0; have u4g := RXr.out.frozen 1; have u4h := RXr.out.frozen 2; have u4i := RXr.out.frozen 3
 go_wp2
 refine bodyPost_ret (v := .tuple #[zeroQ, .int .i64 1]) (by simp [results, Tryz.results31, go_sem, zeroQ, u4a, u4b, u4c, u4d, u4f, u4g, u4h, u4i]) rfl ⟨rfl, ?_⟩
 rw [hg.out]
 first | exact DW.out | exact (((DW.out.setCell (by simp <;> omega) _).setCell (by simp <;> omega) _).setCell (by simp <;> omega) _).setCell (by simp <;> omega) _

set_option maxHeartbeats 8000000 in
set_option maxRecDepth 100000 in
theorem between_zero (va vb : Value) (a b : Rat) (w : World) (ha : Qv w va a.num a.den) (sa : Sr a 10000) (hb : Qv w vb b.num b.den) (sb : Sr b 10000) (h1 : cq a b ≤ 0) (h2 : sg a.num ≤ 0) (h3 : 0 ≤ sg b.num) : Calls Tryz.prog 31 #[va, vb] w (RetQE ((0 : Int) : Rat).num ((0 : Int) : Rat).den w) := by
 obtain ⟨Xan, pan, qan, Xad, pad, qad, rfl, han, had⟩ := ha
 have Han := Lib.hid han
 have Had := Lib.hid had
 have SRa := Lib.hid sa
 clear han had sa
 generalize hs : decide (a.num < 0) = san at *
 clear hs
 generalize hs : decide ((a.den : Int) < 0) = sad at *
 clear hs
 obtain ⟨Xbn, pbn, qbn, Xbd, pbd, qbd, rfl, hbn, hbd⟩ := hb
 have Hbn := Lib.hid hbn
 have Hbd := Lib.hid hbd
 have SRb := Lib.hid sb
 clear hbn hbd sb
 generalize hs : decide (b.num < 0) = sbn at *
 clear hs
 generalize hs : decide ((b.den : Int) < 0) = sbd at *
 clear hs
 obtain ⟨o, ho⟩ : ∃ o, cq a b = o := ⟨_, rfl⟩
 rw [ho] at h1
 obtain ⟨p, hp⟩ : ∃ o, sg a.num = o := ⟨_, rfl⟩
 rw [hp] at h2
 obtain ⟨q, hq0⟩ : ∃ o, sg b.num = o := ⟨_, rfl⟩
 rw [hq0] at h3
 replace ho := Lib.hid ho; replace hp := Lib.hid hp; replace hq0 := Lib.hid hq0
 have d1 : decide (0 < o) = false := decide_eq_false (by omega)
 have d2 : decide (p ≤ 0) = true := decide_eq_true h2
 have d3 : decide (0 ≤ q) = true := decide_eq_true h3

 go_enter Tryz.func31, Tryz.ntmps31
 go_wp2_with fail
 obtain ⟨W, hW⟩ : ∃ W, W = (((w.alloc (Obj.cells #[Value.bool san, Value.slice Xan pan qan, Value.bool sad, Value.slice Xad pad qad] 31)).alloc (Obj.cells #[Value.bool sbn, Value.slice Xbn pbn qbn, Value.bool sbd, Value.slice Xbd pbd qbd] 31)).alloc (Obj.cells #[Value.bool false, Value.slice none 0 0, Value.bool false, Value.slice none 0 0] 31)) := ⟨_, rfl⟩
 rw [← hW]
 have QXa : Hid (QBox W (w.heap.size) san (.slice Xan pan qan) sad (.slice Xad pad qad)) := by rw [hW]; have := ((QBox.new w san (Value.slice Xan pan qan) sad (Value.slice Xad pad qad)).alloc (Obj.cells #[Value.bool sbn, Value.slice Xbn pbn qbn, Value.bool sbd, Value.slice Xbd pbd qbd] 31)).alloc (Obj.cells #[Value.bool false, Value.slice none 0 0, Value.bool false, Value.slice none 0 0] 31); simpa [Hid] using this
 have QXb : Hid (QBox W (w.heap.size + 1) sbn (.slice Xbn pbn qbn) sbd (.slice Xbd pbd qbd)) := by rw [hW]; have := (QBox.new (w.alloc (Obj.cells #[Value.bool san, Value.slice Xan pan qan, Value.bool sad, Value.slice Xad pad qad] 31)) sbn (Value.slice Xbn pbn qbn) sbd (Value.slice Xbd pbd qbd)).alloc (Obj.cells #[Value.bool false, Value.slice none 0 0, Value.bool false, Value.slice none 0 0] 31); simpa [Hid] using this
 have RXr : Hid (QBox W (w.heap.size + 1 + 1) false (.slice none 0 0) false (.slice none 0 0)) := by rw [hW]; have := QBox.new ((w.alloc (Obj.cells #[Value.bool san, Value.slice Xan pan qan, Value.bool sad, Value.slice Xad pad qad] 31)).alloc (Obj.cells #[Value.bool sbn, Value.slice Xbn pbn qbn, Value.bool sbd, Value.slice Xbd pbd qbd] 31)) false (Value.slice none 0 0) false (Value.slice none 0 0); simpa [Hid] using this
 have IVna : Hid (Iv W (.agg #[.bool san, .slice Xan pan qan]) (a.num)) := by rw [hW]; exact (((Han.out).alloc _).alloc _).alloc _
 have IVda : Hid (Iv W (.agg #[.bool sad, .slice Xad pad qad]) ((a.den : Int))) := by rw [hW]; exact (((Had.out).alloc _).alloc _).alloc _
 have IVnb : Hid (Iv W (.agg #[.bool sbn, .slice Xbn pbn qbn]) (b.num)) := by rw [hW]; exact (((Hbn.out).alloc _).alloc _).alloc _
 have IVdb : Hid (Iv W (.agg #[.bool sbd, .slice Xbd pbd qbd]) ((b.den : Int))) := by rw [hW]; exact (((Hbd.out).alloc _).alloc _).alloc _
 have DW : Hid (Below w.heap.size w W) := by rw [hW]; exact (((Below.refl _ _).alloc (by simp <;> omega) _).alloc (by simp <;> omega) _).alloc (by simp <;> omega) _
 clear hW
 generalize hg : w.heap.size = g at *
 replace hg := Lib.hid hg
 go_upto_region 1 with fail
 have u1a := QXa.out.cell0; have u1b := QXa.out.cell1; have u1c := QXa.out.cell2; have u1d := QXa.out.cell3
 have u2a := QXb.out.cell0; have u2b := QXb.out.cell1; have u2c := QXb.out.cell2; have u2d := QXb.out.cell3
 go_wp2_with fail
 clear u1a u1b u1c u1d u2a u2b u2c u2d
 refine (qcmp_is _ _ a b o _ (qv_of IVna.out IVda.out) (SRa.out.mono (by omega)) (qv_of IVnb.out IVdb.out) (SRb.out.mono (by omega)) ho.out).mono ?_
 rintro e y3 ⟨rfl, hb⟩
 replace QXa := nxq QXa hb rfl; replace IVna := nxv IVna hb rfl; replace IVda := nxv IVda hb rfl
 replace QXb := nxq QXb hb rfl; replace IVnb := nxv IVnb hb rfl; replace IVdb := nxv IVdb hb rfl
 replace RXr := Lib.hid (RXr.out.next hb rfl)
 replace DW := nxd DW hg hb rfl rfl rfl rfl
 clear hb
 have u4a := QXa.out.cell0; have u4b := QXa.out.cell1; have u4c := QXa.out.cell2; have u4d := QXa.out.cell3
 go_wp2_with fail
 clear u4a u4b u4c u4d
 refine (qsign_is _ a p _ (qv_of IVna.out IVda.out) (SRa.out.mono (by omega)) hp.out).mono ?_
 rintro e y5 ⟨rfl, hb⟩
 replace QXa := nxq QXa hb rfl; replace IVna := nxv IVna hb rfl; replace IVda := nxv IVda hb rfl
 replace QXb := nxq QXb hb rfl; replace IVnb := nxv IVnb hb rfl; replace IVdb := nxv IVdb hb rfl
 replace RXr := Lib.hid (RXr.out.next hb rfl)
 replace DW := nxd DW hg hb rfl rfl rfl rfl
 clear hb
 have u6a := QXb.out.cell0; have u6b := QXb.out.cell1; have u6c := QXb.out.cell2; have u6d := QXb.out.cell3
 go_wp2_with fail
 clear u6a u6b u6c u6d
 refine (qsign_is _ b q _ (qv_of IVnb.out IVdb.out) (SRb.out.mono (by omega)) hq0.out).mono ?_
 rintro e y7 ⟨rfl, hb⟩
 replace QXa := nxq QXa hb rfl; replace IVna := nxv IVna hb rfl; replace IVda := nxv IVda hb rfl
 replace QXb := nxq QXb hb rfl; replace IVnb := nxv IVnb hb rfl; replace IVdb := nxv IVdb hb rfl
 replace RXr := Lib.hid (RXr.out.next hb rfl)
 replace DW := nxd DW hg hb rfl rfl rfl rfl
 clear hb
 go_wp2_with fail
 refine (whole_any 0 _ (by decide) (by decide)).mono ?_
 rintro e y8 ⟨_, rfl, hq, hb⟩
 obtain ⟨Xz, pz, qz, Yz, uz, tz, rfl, k1, k2⟩ := hq
 replace k1 := Lib.hid k1; replace k2 := Lib.hid k2
 replace QXa := nxq QXa hb rfl; replace IVna := nxv IVna hb rfl; replace IVda := nxv IVda hb rfl
 replace QXb := nxq QXb hb rfl; replace IVnb := nxv IVnb hb rfl; replace IVdb := nxv IVdb hb rfl
 replace RXr := Lib.hid (RXr.out.next hb rfl)
 replace DW := nxd DW hg hb rfl rfl rfl rfl
 clear hb
 generalize hs1 : decide ((((0 : Int) : Rat).num : Int) < 0) = s1 at *
 generalize hs2 : decide (((((0 : Int) : Rat).den : Int) : Int) < 0) = s2 at *
 clear hs1 hs2
 have u9a := RXr.out.cell0; have u9b := RXr.out.cell1; have u9c := RXr.out.cell2; have u9d := RXr.out.cell3; have u9f := RXr.out.frozen 0; have u9g := RXr.out.frozen 1; have u9h := RXr.out.frozen 2; have u9i := RXr.out.frozen 3
 go_wp2
 refine bodyPost_ret (v := .tuple #[.agg #[.bool s1, .slice Xz pz qz, .bool s2, .slice Yz uz tz], .int .i64 0]) (by simp [results, Tryz.results31, go_sem, u9a, u9b, u9c, u9d, u9f, u9g, u9h, u9i]) rfl ⟨_, rfl, ?_, by rw [hg.out]; exact (((DW.out.setCell (by simp <;> omega) _).setCell (by simp <;> omega) _).setCell (by simp <;> omega) _).setCell (by simp <;> omega) _⟩
 have hc := chg_qbox (b' := s1) (d' := s2) (A' := Xz) (n' := pz) (c' := qz) (B' := Yz) (m' := uz) (e' := tz) RXr.out
 exact qv_of (k1.out.kn hc.kn) (k2.out.kn hc.kn)

set_option maxHeartbeats 8000000 in
set_option maxRecDepth 100000 in
theorem between_eq (va vb : Value) (a b : Rat) (w : World) (ha : Qv w va a.num a.den) (sa : Sr a 10000) (hb : Qv w vb b.num b.den) (sb : Sr b 10000) (h1 : cq a b = 0) (h2 : 0 < sg a.num ∨ sg b.num < 0) : Calls Tryz.prog 31 #[va, vb] w (RetQE a.num a.den w) := by
 obtain ⟨Xan, pan, qan, Xad, pad, qad, rfl, han, had⟩ := ha
 have Han := Lib.hid han
 have Had := Lib.hid had
 have SRa := Lib.hid sa
 clear han had sa
 generalize hs : decide (a.num < 0) = san at *
 clear hs
 generalize hs : decide ((a.den : Int) < 0) = sad at *
 clear hs
 obtain ⟨Xbn, pbn, qbn, Xbd, pbd, qbd, rfl, hbn, hbd⟩ := hb
 have Hbn := Lib.hid hbn
 have Hbd := Lib.hid hbd
 have SRb := Lib.hid sb
 clear hbn hbd sb
 generalize hs : decide (b.num < 0) = sbn at *
 clear hs
 generalize hs : decide ((b.den : Int) < 0) = sbd at *
 clear hs
 obtain ⟨p, hp⟩ : ∃ o, sg a.num = o := ⟨_, rfl⟩
 rw [hp] at h2
 obtain ⟨q, hq0⟩ : ∃ o, sg b.num = o := ⟨_, rfl⟩
 rw [hq0] at h2
 have enn : - -a = a := Rat.neg_neg a
 replace h1 := Lib.hid h1; replace hp := Lib.hid hp; replace hq0 := Lib.hid hq0; replace enn := Lib.hid enn
 have SRc : Hid (Sr (-a) 10000) := SRa.out.neg

 go_enter Tryz.func31, Tryz.ntmps31
 go_wp2_with fail
 obtain ⟨W, hW⟩ : ∃ W, W = (((w.alloc (Obj.cells #[Value.bool san, Value.slice Xan pan qan, Value.bool sad, Value.slice Xad pad qad] 31)).alloc (Obj.cells #[Value.bool sbn, Value.slice Xbn pbn qbn, Value.bool sbd, Value.slice Xbd pbd qbd] 31)).alloc (Obj.cells #[Value.bool false, Value.slice none 0 0, Value.bool false, Value.slice none 0 0] 31)) := ⟨_, rfl⟩
 rw [← hW]
 have QXa : Hid (QBox W (w.heap.size) san (.slice Xan pan qan) sad (.slice Xad pad qad)) := by rw [hW]; have := ((QBox.new w san (Value.slice Xan pan qan) sad (Value.slice Xad pad qad)).alloc (Obj.cells #[Value.bool sbn, Value.slice Xbn pbn qbn, Value.bool sbd, Value.slice Xbd pbd qbd] 31)).alloc (Obj.cells #[Value.bool false, Value.slice none 0 0, Value.bool false, Value.slice none 0 0] 31); simpa [Hid] using this
 have QXb : Hid (QBox W (w.heap.size + 1) sbn (.slice Xbn pbn qbn) sbd (.slice Xbd pbd qbd)) := by rw [hW]; have := (QBox.new (w.alloc (Obj.cells #[Value.bool san, Value.slice Xan pan qan, Value.bool sad, Value.slice Xad pad qad] 31)) sbn (Value.slice Xbn pbn qbn) sbd (Value.slice Xbd pbd qbd)).alloc (Obj.cells #[Value.bool false, Value.slice none 0 0, Value.bool false, Value.slice none 0 0] 31); simpa [Hid] using this
 have RXr : Hid (QBox W (w.heap.size + 1 + 1) false (.slice none 0 0) false (.slice none 0 0)) := by rw [hW]; have := QBox.new ((w.alloc (Obj.cells #[Value.bool san, Value.slice Xan pan qan, Value.bool sad, Value.slice Xad pad qad] 31)).alloc (Obj.cells #[Value.bool sbn, Value.slice Xbn pbn qbn, Value.bool sbd, Value.slice Xbd pbd qbd] 31)) false (Value.slice none 0 0) false (Value.slice none 0 0); simpa [Hid] using this
 have IVna : Hid (Iv W (.agg #[.bool san, .slice Xan pan qan]) (a.num)) := by rw [hW]; exact (((Han.out).alloc _).alloc _).alloc _
 have IVda : Hid (Iv W (.agg #[.bool sad, .slice Xad pad qad]) ((a.den : Int))) := by rw [hW]; exact (((Had.out).alloc _).alloc _).alloc _
 have IVnb : Hid (Iv W (.agg #[.bool sbn, .slice Xbn pbn qbn]) (b.num)) := by rw [hW]; exact (((Hbn.out).alloc _).alloc _).alloc _
 have IVdb : Hid (Iv W (.agg #[.bool sbd, .slice Xbd pbd qbd]) ((b.den : Int))) := by rw [hW]; exact (((Hbd.out).alloc _).alloc _).alloc _
 have DW : Hid (Below w.heap.size w W) := by rw [hW]; exact (((Below.refl _ _).alloc (by simp <;> omega) _).alloc (by simp <;> omega) _).alloc (by simp <;> omega) _
 clear hW
 generalize hg : w.heap.size = g at *
 replace hg := Lib.hid hg
 go_upto_region 1 with fail
 have u1a := QXa.out.cell0; have u1b := QXa.out.cell1; have u1c := QXa.out.cell2; have u1d := QXa.out.cell3
 have u2a := QXb.out.cell0; have u2b := QXb.out.cell1; have u2c := QXb.out.cell2; have u2d := QXb.out.cell3
 go_wp2_with fail
 clear u1a u1b u1c u1d u2a u2b u2c u2d
 refine (qcmp_is _ _ a b 0 _ (qv_of IVna.out IVda.out) (SRa.out.mono (by omega)) (qv_of IVnb.out IVdb.out) (SRb.out.mono (by omega)) h1.out).mono ?_
 rintro e y3 ⟨rfl, hb⟩
 replace QXa := nxq QXa hb rfl; replace IVna := nxv IVna hb rfl; replace IVda := nxv IVda hb rfl
 replace QXb := nxq QXb hb rfl; replace IVnb := nxv IVnb hb rfl; replace IVdb := nxv IVdb hb rfl
 replace RXr := Lib.hid (RXr.out.next hb rfl)
 replace DW := nxd DW hg hb rfl rfl rfl rfl
 clear hb
 have u4a := QXa.out.cell0; have u4b := QXa.out.cell1; have u4c := QXa.out.cell2; have u4d := QXa.out.cell3
 go_wp2_with fail
 clear u4a u4b u4c u4d
 refine (qsign_is _ a p _ (qv_of IVna.out IVda.out) (SRa.out.mono (by omega)) hp.out).mono ?_
 rintro e y5 ⟨rfl, hb⟩
 replace QXa := nxq QXa hb rfl; replace IVna := nxv IVna hb rfl; replace IVda := nxv IVda hb rfl
 replace QXb := nxq QXb hb rfl; replace IVnb := nxv IVnb hb rfl; replace IVdb := nxv IVdb hb rfl
 replace RXr := Lib.hid (RXr.out.next hb rfl)
 replace DW := nxd DW hg hb rfl rfl rfl rfl
 clear hb
 by_cases hpp : p ≤ 0
 ·have d2 : decide (p ≤ 0) = true := decide_eq_true hpp
  have d3 : decide (0 ≤ q) = false := decide_eq_false (by omega)
  have u6a := QXb.out.cell0; have u6b := QXb.out.cell1; have u6c := QXb.out.cell2; have u6d := QXb.out.cell3
  go_wp2_with fail
  clear u6a u6b u6c u6d
  refine (qsign_is _ b q _ (qv_of IVnb.out IVdb.out) (SRb.out.mono (by omega)) hq0.out).mono ?_
  rintro e y7 ⟨rfl, hb⟩
  replace QXa := nxq QXa hb rfl; replace IVna := nxv IVna hb rfl; replace IVda := nxv IVda hb rfl
  replace QXb := nxq QXb hb rfl; replace IVnb := nxv IVnb hb rfl; replace IVdb := nxv IVdb hb rfl
  replace RXr := Lib.hid (RXr.out.next hb rfl)
  replace DW := nxd DW hg hb rfl rfl rfl rfl
  clear hb
  have u8a := QXa.out.cell0; have u8b := QXa.out.cell1; have u8c := QXa.out.cell2; have u8d := QXa.out.cell3
  go_wp2_with fail
  clear u8a u8b u8c u8d
  refine (qneg_any _ a _ (qv_of IVna.out IVda.out) (SRa.out.mono (by omega))).mono ?_
  rintro e y9 ⟨_, rfl, hq, hb⟩
  replace hq := Lib.hid hq
  replace QXa := nxq QXa hb rfl; replace IVna := nxv IVna hb rfl; replace IVda := nxv IVda hb rfl
  replace QXb := nxq QXb hb rfl; replace IVnb := nxv IVnb hb rfl; replace IVdb := nxv IVdb hb rfl
  replace RXr := Lib.hid (RXr.out.next hb rfl)
  replace DW := nxd DW hg hb rfl rfl rfl rfl
  clear hb
  go_wp2_with fail
  refine (qneg_any _ (-a) _ hq.out (SRc.out.mono (by omega))).mono ?_
  rw [enn.out]
  rintro e y77 ⟨_, rfl, hq2, hb⟩
  clear hq
  obtain ⟨Xz, pz, qz, Yz, uz, tz, rfl, k1, k2⟩ := hq2
  replace k1 := Lib.hid k1; replace k2 := Lib.hid k2
  replace QXa := nxq QXa hb rfl; replace IVna := nxv IVna hb rfl; replace IVda := nxv IVda hb rfl
  replace QXb := nxq QXb hb rfl; replace IVnb := nxv IVnb hb rfl; replace IVdb := nxv IVdb hb rfl
  replace RXr := Lib.hid (RXr.out.next hb rfl)
  replace DW := nxd DW hg hb rfl rfl rfl rfl
  clear hb
  generalize hs1 : decide ((a.num : Int) < 0) = s1 at *
  generalize hs2 : decide (((a.den : Int) : Int) < 0) = s2 at *
  clear hs1 hs2
  have u10a := RXr.out.cell0; have u10b := RXr.out.cell1; have u10c := RXr.out.cell2; have u10d := RXr.out.cell3; have u10f := RXr.out.frozen 0; have u10g := RXr.out.frozen 1; have u10h := RXr.out.frozen 2; have u10i := RXr.out.frozen 3
  go_wp2
  refine bodyPost_ret (v := .tuple #[.agg #[.bool s1, .slice Xz pz qz, .bool s2, .slice Yz uz tz], .int .i64 0]) (by simp [results, Tryz.results31, go_sem, u10a, u10b, u10c, u10d, u10f, u10g, u10h, u10i]) rfl ⟨_, rfl, ?_, by rw [hg.out]; exact (((DW.out.setCell (by simp <;> omega) _).setCell (by simp <;> omega) _).setCell (by simp <;> omega) _).setCell (by simp <;> omega) _⟩
  have hc := chg_qbox (b' := s1) (d' := s2) (A' := Xz) (n' := pz) (c' := qz) (B' := Yz) (m' := uz) (e' := tz) RXr.out
  exact qv_of (k1.out.kn hc.kn) (k2.out.kn hc.kn)
 ·have d2 : decide (p ≤ 0) = false := decide_eq_false hpp
  have u11a := QXa.out.cell0; have u11b := QXa.out.cell1; have u11c := QXa.out.cell2; have u11d := QXa.out.cell3
  go_wp2_with fail
  clear u11a u11b u11c u11d
  refine (qneg_any _ a _ (qv_of IVna.out IVda.out) (SRa.out.mono (by omega))).mono ?_
  rintro e y12 ⟨_, rfl, hq, hb⟩
  replace hq := Lib.hid hq
  replace QXa := nxq QXa hb rfl; replace IVna := nxv IVna hb rfl; replace IVda := nxv IVda hb rfl
  replace QXb := nxq QXb hb rfl; replace IVnb := nxv IVnb hb rfl; replace IVdb := nxv IVdb hb rfl
  replace RXr := Lib.hid (RXr.out.next hb rfl)
  replace DW := nxd DW hg hb rfl rfl rfl rfl
  clear hb
  go_wp2_with fail
  refine (qneg_any _ (-a) _ hq.out (SRc.out.mono (by omega))).mono ?_
  rw [enn.out]
  rintro e y77 ⟨_, rfl, hq2, hb⟩
  clear hq
  obtain ⟨Xz, pz, qz, Yz, uz, tz, rfl, k1, k2⟩ := hq2
  replace k1 := Lib.hid k1; replace k2 := Lib.hid k2
  replace QXa := nxq QXa hb rfl; replace IVna := nxv IVna hb rfl; replace IVda := nxv IVda hb rfl
  replace QXb := nxq QXb hb rfl; replace IVnb := nxv IVnb hb rfl; replace IVdb := nxv IVdb hb rfl
  replace RXr := Lib.hid (RXr.out.next hb rfl)
  replace DW := nxd DW hg hb rfl rfl rfl rfl
  clear hb
  generalize hs1 : decide ((a.num : Int) < 0) = s1 at *
  generalize hs2 : decide (((a.den : Int) : Int) < 0) = s2 at *
  clear hs1 hs2
  have u13a := RXr.out.cell0; have u13b := RXr.out.cell1; have u13c := RXr.out.cell2; have u13d := RXr.out.cell3; have u13f := RXr.out.frozen 0; have u13g := RXr.out.frozen 1; have u13h := RXr.out.frozen 2; have u13i := RXr.out.frozen 3
  go_wp2
  refine bodyPost_ret (v := .tuple #[.agg #[.bool s1, .slice Xz pz qz, .bool s2, .slice Yz uz tz], .int .i64 0]) (by simp [results, Tryz.results31, go_sem, u13a, u13b, u13c, u13d, u13f, u13g, u13h, u13i]) rfl ⟨_, rfl, ?_, by rw [hg.out]; exact (((DW.out.setCell (by simp <;> omega) _).setCell (by simp <;> omega) _).setCell (by simp <;> omega) _).setCell (by simp <;> omega) _⟩
  have hc := chg_qbox (b' := s1) (d' := s2) (A' := Xz) (n' := pz) (c' := qz) (B' := Yz) (m' := uz) (e' := tz) RXr.out
  exact qv_of (k1.out.kn hc.kn) (k2.out.kn hc.kn)
end Go.Proofs.YtfigimfdojbkeaaGreat
