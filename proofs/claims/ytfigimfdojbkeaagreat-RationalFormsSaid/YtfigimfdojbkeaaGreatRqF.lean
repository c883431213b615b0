/-
  The reference's functions on fractions.
-/
import Derived.Test.YtfigimfdojbkeaaGreatRqC
import Derived.Test.YtfigimfdojbkeaaGreatRatU
import Derived.Deep.DeepCutAuto
import Derived.Handy
import Derived.Test.YtfigimfdojbkeaaGreatRatW
import Derived.Test.YtfigimfdojbkeaaGreatRatL
import Derived.Test.YtfigimfdojbkeaaGreatRatZ
import Derived.Test.YtfigimfdojbkeaaGreatLawI
import Derived.Test.YtfigimfdojbkeaaGreatBtM
set_option linter.unusedSimpArgs false
set_option linter.unusedVariables false
namespace Go.Proofs.YtfigimfdojbkeaaGreat
open Go.RowKit
attribute [local go_sem ↓] Go.wp_at_zero Go.wp_at_succ

theorem qsame1_true (va vb : Value) (a : Int) (w : World) (ha : Iv w va a) (hb : Iv w vb a) (sa : Sz a 1000000) : Calls Tryz.prog 93 #[va, vb] w (RetV (.bool true) w) := by
  have h := qsame1_any va vb a a w ha hb sa sa
  rw [decide_eq_true rfl] at h
  exact h
set_option maxHeartbeats 8000000 in
set_option maxRecDepth 100000 in
theorem qsame_nd (va vb : Value) (n d : Int) (w : World) (ha : Qv w va n d) (hb : Qv w vb n d) (sn : Sz n 1000000) (sd : Sz d 1000000) : Calls Tryz.prog 16 #[va, vb] w (RetV (.bool true) w) := by
  replace sn := Lib.hid sn; replace sd := Lib.hid sd
  obtain ⟨Xan, pan, qan, Xad, pad, qad, rfl, han, had⟩ := ha
  have Han := Lib.hid han
  have Had := Lib.hid had
  clear han had
  generalize hs : decide (n < 0) = san at *
  clear hs
  generalize hs : decide (d < 0) = sad at *
  clear hs
  obtain ⟨Xbn, pbn, qbn, Xbd, pbd, qbd, rfl, hbn, hbd⟩ := hb
  have Hbn := Lib.hid hbn
  have Hbd := Lib.hid hbd
  clear hbn hbd
  generalize hs : decide (n < 0) = sbn at *
  clear hs
  generalize hs : decide (d < 0) = sbd at *
  clear hs

  go_enter Tryz.func16, Tryz.ntmps16
  go_wp2_with fail
  obtain ⟨W, hW⟩ : ∃ W, W = ((w.alloc (Obj.cells #[Value.bool san, Value.slice Xan pan qan, Value.bool sad, Value.slice Xad pad qad] 31)).alloc (Obj.cells #[Value.bool sbn, Value.slice Xbn pbn qbn, Value.bool sbd, Value.slice Xbd pbd qbd] 31)) := ⟨_, rfl⟩
  rw [← hW]
  have QXa : Hid (QBox W (w.heap.size) san (.slice Xan pan qan) sad (.slice Xad pad qad)) := by rw [hW]; have := (QBox.new w san (Value.slice Xan pan qan) sad (Value.slice Xad pad qad)).alloc (Obj.cells #[Value.bool sbn, Value.slice Xbn pbn qbn, Value.bool sbd, Value.slice Xbd pbd qbd] 31); simpa [Hid] using this
  have QXb : Hid (QBox W (w.heap.size + 1) sbn (.slice Xbn pbn qbn) sbd (.slice Xbd pbd qbd)) := by rw [hW]; have := QBox.new (w.alloc (Obj.cells #[Value.bool san, Value.slice Xan pan qan, Value.bool sad, Value.slice Xad pad qad] 31)) sbn (Value.slice Xbn pbn qbn) sbd (Value.slice Xbd pbd qbd); simpa [Hid] using this
  have IVna : Hid (Iv W (.agg #[.bool san, .slice Xan pan qan]) (n)) := by rw [hW]; exact ((Han.out).alloc _).alloc _
  have IVda : Hid (Iv W (.agg #[.bool sad, .slice Xad pad qad]) (d)) := by rw [hW]; exact ((Had.out).alloc _).alloc _
  have IVnb : Hid (Iv W (.agg #[.bool sbn, .slice Xbn pbn qbn]) (n)) := by rw [hW]; exact ((Hbn.out).alloc _).alloc _
  have IVdb : Hid (Iv W (.agg #[.bool sbd, .slice Xbd pbd qbd]) (d)) := by rw [hW]; exact ((Hbd.out).alloc _).alloc _
  have DW : Hid (Below w.heap.size w W) := by rw [hW]; exact ((Below.refl _ _).alloc (by simp <;> omega) _).alloc (by simp <;> omega) _
  clear hW
  generalize hg : w.heap.size = g at *
  replace hg := Lib.hid hg
  go_upto_region 1 with fail
  have u1a := QXa.out.cell0; have u1b := QXa.out.cell1; have u1c := QXa.out.cell2; have u1d := QXa.out.cell3
  have u2a := QXb.out.cell0; have u2b := QXb.out.cell1; have u2c := QXb.out.cell2; have u2d := QXb.out.cell3
  go_wp2_with fail
  clear u1a u1b u1c u1d u2a u2b u2c u2d
  refine (qsame1_true _ _ n _ IVna.out IVnb.out sn.out).mono ?_
  rintro e y3 ⟨rfl, hb⟩
  replace QXa := nxq QXa hb rfl; replace IVna := nxv IVna hb rfl; replace IVda := nxv IVda hb rfl
  replace QXb := nxq QXb hb rfl; replace IVnb := nxv IVnb hb rfl; replace IVdb := nxv IVdb hb rfl
  replace DW := nxd DW hg hb rfl rfl rfl rfl
  clear hb
  have u4a := QXa.out.cell0; have u4b := QXa.out.cell1; have u4c := QXa.out.cell2; have u4d := QXa.out.cell3
  have u5a := QXb.out.cell0; have u5b := QXb.out.cell1; have u5c := QXb.out.cell2; have u5d := QXb.out.cell3
  go_wp2_with fail
  clear u4a u4b u4c u4d u5a u5b u5c u5d
  refine (qsame1_true _ _ d _ IVda.out IVdb.out sd.out).mono ?_
  rintro e y6 ⟨rfl, hb⟩
  replace QXa := nxq QXa hb rfl; replace IVna := nxv IVna hb rfl; replace IVda := nxv IVda hb rfl
  replace QXb := nxq QXb hb rfl; replace IVnb := nxv IVnb hb rfl; replace IVdb := nxv IVdb hb rfl
  replace DW := nxd DW hg hb rfl rfl rfl rfl
  clear hb
  go_wp2
  go_ret
  exact ⟨rfl, by rw [hg.out]; exact DW.out⟩

set_option maxHeartbeats 8000000 in
set_option maxRecDepth 100000 in
theorem alike_true (va vb : Value) (n d c : Int) (w : World) (ha : Qv w va n d) (hb : Qv w vb n d) (sn : Sz n 1000000) (sd : Sz d 1000000) : Calls Tryz.prog 34 #[va, .int .i64 c, vb, .int .i64 c] w (RetV (.bool true) w) := by
  have hcc : (c == c) = true := by simp
  replace sn := Lib.hid sn; replace sd := Lib.hid sd
  obtain ⟨Xan, pan, qan, Xad, pad, qad, rfl, han, had⟩ := ha
  have Han := Lib.hid han
  have Had := Lib.hid had
  clear han had
  generalize hs : decide (n < 0) = san at *
  clear hs
  generalize hs : decide (d < 0) = sad at *
  clear hs
  obtain ⟨Xbn, pbn, qbn, Xbd, pbd, qbd, rfl, hbn, hbd⟩ := hb
  have Hbn := Lib.hid hbn
  have Hbd := Lib.hid hbd
  clear hbn hbd
  generalize hs : decide (n < 0) = sbn at *
  clear hs
  generalize hs : decide (d < 0) = sbd at *
  clear hs

  go_enter Tryz.func34, Tryz.ntmps34
  go_wp2_with fail
  obtain ⟨W, hW⟩ : ∃ W, W = ((w.alloc (Obj.cells #[Value.bool san, Value.slice Xan pan qan, Value.bool sad, Value.slice Xad pad qad] 31)).alloc (Obj.cells #[Value.bool sbn, Value.slice Xbn pbn qbn, Value.bool sbd, Value.slice Xbd pbd qbd] 31)) := ⟨_, rfl⟩
  rw [← hW]
  have QXa : Hid (QBox W (w.heap.size) san (.slice Xan pan qan) sad (.slice Xad pad qad)) := by rw [hW]; have := (QBox.new w san (Value.slice Xan pan qan) sad (Value.slice Xad pad qad)).alloc (Obj.cells #[Value.bool sbn, Value.slice Xbn pbn qbn, Value.bool sbd, Value.slice Xbd pbd qbd] 31); simpa [Hid] using this
  have QXb : Hid (QBox W (w.heap.size + 1) sbn (.slice Xbn pbn qbn) sbd (.slice Xbd pbd qbd)) := by rw [hW]; have := QBox.new (w.alloc (Obj.cells #[Value.bool san, Value.slice Xan pan qan, Value.bool sad, Value.slice Xad pad qad] 31)) sbn (Value.slice Xbn pbn qbn) sbd (Value.slice Xbd pbd qbd); simpa [Hid] using this
  have IVna : Hid (Iv W (.agg #[.bool san, .slice Xan pan qan]) (n)) := by rw [hW]; exact ((Han.out).alloc _).alloc _
  have IVda : Hid (Iv W (.agg #[.bool sad, .slice Xad pad qad]) (d)) := by rw [hW]; exact ((Had.out).alloc _).alloc _
  have IVnb : Hid (Iv W (.agg #[.bool sbn, .slice Xbn pbn qbn]) (n)) := by rw [hW]; exact ((Hbn.out).alloc _).alloc _
  have IVdb : Hid (Iv W (.agg #[.bool sbd, .slice Xbd pbd qbd]) (d)) := by rw [hW]; exact ((Hbd.out).alloc _).alloc _
  have DW : Hid (Below w.heap.size w W) := by rw [hW]; exact ((Below.refl _ _).alloc (by simp <;> omega) _).alloc (by simp <;> omega) _
  clear hW
  generalize hg : w.heap.size = g at *
  replace hg := Lib.hid hg
  go_upto_region 1 with fail
  have u1a := QXa.out.cell0; have u1b := QXa.out.cell1; have u1c := QXa.out.cell2; have u1d := QXa.out.cell3
  have u2a := QXb.out.cell0; have u2b := QXb.out.cell1; have u2c := QXb.out.cell2; have u2d := QXb.out.cell3
  go_wp2_with fail
  clear u1a u1b u1c u1d u2a u2b u2c u2d
  refine (qsame_nd _ _ n d _ (qv_of IVna.out IVda.out) (qv_of IVnb.out IVdb.out) sn.out sd.out).mono ?_
  rintro e y3 ⟨rfl, hb⟩
  replace QXa := nxq QXa hb rfl; replace IVna := nxv IVna hb rfl; replace IVda := nxv IVda hb rfl
  replace QXb := nxq QXb hb rfl; replace IVnb := nxv IVnb hb rfl; replace IVdb := nxv IVdb hb rfl
  replace DW := nxd DW hg hb rfl rfl rfl rfl
  clear hb
  go_wp2
  go_ret
  exact ⟨rfl, by rw [hg.out]; exact DW.out⟩
end Go.Proofs.YtfigimfdojbkeaaGreat
