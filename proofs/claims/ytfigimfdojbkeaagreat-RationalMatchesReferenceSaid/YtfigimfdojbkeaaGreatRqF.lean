/-
 The reference's functions on fractions.
-/
import Derived.Test.YtfigimfdojbkeaaGreatRqE
import Derived.Test.YtfigimfdojbkeaaGreatRatB3
import Derived.Deep.DeepCutAuto
import Derived.Handy
set_option linter.unusedSimpArgs false
set_option linter.unusedVariables false
namespace Go.Proofs.YtfigimfdojbkeaaGreat
open Go.RowKit
attribute [local go_sem ↓] Go.wp_at_zero Go.wp_at_succ

theorem qsame1_true (va vb : Value) (a : Int) (w : World) (ha : Iv w va a) (hb : Iv w vb a) (sa : Sz a 1000000) : Calls Tryz.prog 93 #[va, vb] w (RetV (.bool true) w) := by
 have h := qsame1_any va vb a a w ha hb sa sa
 rw [decide_eq_true rfl] at h
 exact h
theorem map_four {α β : Type} {f : α → β} {x y z u : α} {v1 v2 v3 v4 : β} (h1 : f x = v1) (h2 : f y = v2) (h3 : f z = v3) (h4 : f u = v4) : #[x, y, z, u].map f = #[v1, v2, v3, v4] := by simp [h1, h2, h3, h4]
theorem pair_inv (a : Rat) (sa : Sr a 100) : ∃ n d c : Int, Hid (Sz n 1000) ∧ Hid (Sz d 1000) ∧ Hid (∀ va w, Qv w va a.num a.den → Calls Tryz.prog 27 #[va] w (RetQC n d c w)) ∧ Hid (∀ va w, Qv w va a.num a.den → Calls Tryz.prog 28 #[va] w (RetQC n d c w)) := by
 by_cases h : a.num = 0
 ·exact ⟨0, 0, 10, szs (by omega) (by omega), szs (by omega) (by omega), fun va w hv => (qinv_zero va a w hv (sa.mono (by omega)) h).mono fun _ _ k => retqc k, fun va w hv => rqinv_zero va a w hv (sa.mono (by omega)) h⟩
 ·exact ⟨(a⁻¹).num, (a⁻¹).den, 0, (sa.inv (by omega)).num.mono (by omega), (sa.inv (by omega)).den.mono (by omega), fun va w hv => qinv_any va a w hv (sa.mono (by omega)) h, fun va w hv => rqinv_any va a w hv (sa.mono (by omega)) h⟩
theorem pair_div (a b : Rat) (sa : Sr a 100) (sb : Sr b 100) : ∃ n d c : Int, Hid (Sz n 1000) ∧ Hid (Sz d 1000) ∧ Hid (∀ va vb w, Qv w va a.num a.den → Qv w vb b.num b.den → Calls Tryz.prog 29 #[va, vb] w (RetQC n d c w)) ∧ Hid (∀ va vb w, Qv w va a.num a.den → Qv w vb b.num b.den → Calls Tryz.prog 30 #[va, vb] w (RetQC n d c w)) := by
 by_cases h : b.num = 0
 ·exact ⟨0, 0, 10, szs (by omega) (by omega), szs (by omega) (by omega), fun va vb w hv hu => (qdiv_zero va vb a b w hv (sa.mono (by omega)) hu (sb.mono (by omega)) h).mono fun _ _ k => retqc k, fun va vb w hv hu => rqdiv_zero va vb a b w hv (sa.mono (by omega)) hu (sb.mono (by omega)) h⟩
 ·have hs : Sr (a / b) 1000 := by rw [Rat.div_def]; exact (sa.mul (sb.inv (by omega))).mono (by omega)
  exact ⟨(a / b).num, (a / b).den, 0, hs.num, hs.den, fun va vb w hv hu => qdiv_any va vb a b w hv (sa.mono (by omega)) hu (sb.mono (by omega)) h, fun va vb w hv hu => rqdiv_any va vb a b w hv (sa.mono (by omega)) hu (sb.mono (by omega)) h⟩
theorem pair_btw (a b : Rat) (sa : Sr a 100) (sb : Sr b 100) : ∃ n d c : Int, Hid (Sz n 1000) ∧ Hid (Sz d 1000) ∧ Hid (∀ va vb w, Qv w va a.num a.den → Qv w vb b.num b.den → Calls Tryz.prog 31 #[va, vb] w (RetQC n d c w)) ∧ Hid (∀ va vb w, Qv w va a.num a.den → Qv w vb b.num b.den → Calls Tryz.prog 32 #[va, vb] w (RetQC n d c w)) := by
 by_cases h : cq a b ≤ 0
 ·have hs : Sr (btw a b) 100 := btw_sr (by omega) (cq_le.1 h) sa sb
  exact ⟨(btw a b).num, (btw a b).den, 0, hs.num.mono (by omega), hs.den.mono (by omega), fun va vb w hv hu => between_is va vb a b w hv (sa.mono (by omega)) hu (sb.mono (by omega)) h, fun va vb w hv hu => rbetween_is va vb a b w hv (sa.mono (by omega)) hu (sb.mono (by omega)) h⟩
 ·have h1 : cq a b = 1 := by rcases cq_cases a b with k | k | k <;> omega
  exact ⟨0, 0, 1, szs (by omega) (by omega), szs (by omega) (by omega), fun va vb w hv hu => (between_arg va vb a b w hv (sa.mono (by omega)) hu (sb.mono (by omega)) h1).mono fun _ _ k => retqc k, fun va vb w hv hu => rbetween_arg va vb a b w hv (sa.mono (by omega)) hu (sb.mono (by omega)) h1⟩
theorem qfloorF (va : Value) (a : Rat) (F : Int) (w : World) (ha : Qv w va a.num a.den) (sa : Sr a 1000000) (h : a.num / a.den = F) : Calls Tryz.prog 33 #[va] w (RetIv F w) := h ▸ qfloor_any va a w ha sa
theorem rqfloorF (va : Value) (a : Rat) (F : Int) (w : World) (ha : Qv w va a.num a.den) (sa : Sr a 1000000) (h : a.num / a.den = F) : Calls Tryz.prog 36 #[va] w (RetIv F w) := h ▸ rqfloor_any va a w ha sa
theorem qbits_is (va : Value) (a : Rat) (r : Int) (w : World) (ha : Qv w va a.num a.den) (sa : Sr a 200000) (h : ((bl a.num.natAbs : Nat) : Int) + (bl (a.den : Int).natAbs : Nat) = r) : Calls Tryz.prog 41 #[va] w (RetV (.int .i64 r) w) := h ▸ qbits_any va a w ha sa
theorem rqbits_is (va : Value) (a : Rat) (r : Int) (w : World) (ha : Qv w va a.num a.den) (sa : Sr a 200000) (h : ((bl a.num.natAbs : Nat) : Int) + (bl (a.den : Int).natAbs : Nat) = r) : Calls Tryz.prog 42 #[va] w (RetV (.int .i64 r) w) := h ▸ rqbits_any va a w ha sa

set_option maxHeartbeats 8000000 in
set_option maxRecDepth 100000 in
theorem qsame_nd (va vb : Value) (n d : Int) (w : World) (ha : Qv w va n d) (hb : Qv w vb n d) (sn : Sz n 1000000) (sd : Sz d 1000000) : Calls Tryz.prog 16 #[va, vb] w (RetV (.bool true) w) := by
 replace sn := Lib.hid sn; replace sd := Lib.hid sd
 obtain ⟨Xan, pan, qan, Xad, pad, qad, rfl, han, had⟩ := ha
 have Han := Lib.hid han
 have Had := Lib.hid had
 clear han had
 generalize hs : decide (n < 0) = san at *
 clear hs
 generalize hs : decide (d < 0) = sad at *
 clear hs
 obtain ⟨Xbn, pbn, qbn, Xbd, pbd, qbd, rfl, hbn, hbd⟩ := hb
 have Hbn := Lib.hid hbn
 have Hbd := Lib.hid hbd
 clear hbn hbd
 generalize hs : decide (n < 0) = sbn at *
 clear hs
 generalize hs : decide (d < 0) = sbd at *
 clear hs

 go_enter Tryz.func16, Tryz.ntmps16
 go_wp2_with fail
 obtain ⟨W, hW⟩ : ∃ W, W = ((w.alloc (Obj.cells #[Value.bool san, Value.slice Xan pan qan, Value.bool sad, Value.slice Xad pad qad] 31)).alloc (Obj.cells #[Value.bool sbn, Value.slice Xbn pbn qbn, Value.bool sbd, Value.slice Xbd pbd qbd] 31)) := ⟨_, rfl⟩
 rw [← hW]
 have QXa : Hid (QBox W (w.heap.size) san (.slice Xan pan qan) sad (.slice Xad pad qad)) := by rw [hW]; have := (QBox.new w san (Value.slice Xan pan qan) sad (Value.slice Xad pad qad)).alloc (Obj.cells #[Value.bool sbn, Value.slice Xbn pbn qbn, Value.bool sbd, Value.slice Xbd pbd qbd] 31); simpa [Hid] using this
 have QXb : Hid (QBox W (w.heap.size + 1) sbn (.slice Xbn pbn qbn) sbd (.slice Xbd pbd qbd)) := by rw [hW]; have := QBox.new (w.alloc (Obj.cells #[Value.bool san, Value.slice Xan pan qan, Value.bool sad, Value.slice Xad pad qad] 31)) sbn (Value.slice Xbn pbn qbn) sbd (Value.slice Xbd pbd qbd); simpa [Hid] using this
 have IVna : Hid (Iv W (.agg #[.bool san, .slice Xan pan qan]) (n)) := by rw [hW]; exact ((Han.out).alloc _).alloc _
 have IVda : Hid (Iv W (.agg #[.bool sad, .slice Xad pad qad]) (d)) := by rw [hW]; exact ((Had.out).alloc _).alloc _
 have IVnb : Hid (Iv W (.agg #[.bool sbn, .slice Xbn pbn qbn]) (n)) := by rw [hW]; exact ((Hbn.out).alloc _).alloc _
 have IVdb : Hid (Iv W (.agg #[.bool sbd, .slice Xbd pbd qbd]) (d)) := by rw [hW]; exact ((Hbd.out).alloc _).alloc _
 have DW : Hid (Below w.heap.size w W) := by rw [hW]; exact ((Below.refl _ _).alloc (by simp <;> omega) _).alloc (by simp <;> omega) _
 clear hW
 generalize hg : w.heap.size = g at *
 replace hg := Lib.hid hg
 go_upto_region 1 with fail
 have u1a := QXa.out.cell0; have u1b := QXa.out.cell1; have u1c := QXa.out.cell2; have u1d := QXa.out.cell3
 have u2a := QXb.out.cell0; have u2b := QXb.out.cell1; have u2c := QXb.out.cell2; have u2d := QXb.out.cell3
 go_wp2_with fail
 clear u1a u1b u1c u1d u2a u2b u2c u2d
 refine (qsame1_true _ _ n _ IVna.out IVnb.out sn.out).mono ?_
 rintro e y3 ⟨rfl, hb⟩
 replace QXa := nxq QXa hb rfl; replace IVna := nxv IVna hb rfl; replace IVda := nxv IVda hb rfl
 replace QXb := nxq QXb hb rfl; replace IVnb := nxv IVnb hb rfl; replace IVdb := nxv IVdb hb rfl
 replace DW := nxd DW hg hb rfl rfl rfl rfl
 clear hb
 have u4a := QXa.out.cell0; have u4b := QXa.out.cell1; have u4c := QXa.out.cell2; have u4d := QXa.out.cell3
 have u5a := QXb.out.cell0; have u5b := QXb.out.cell1; have u5c := QXb.out.cell2; have u5d := QXb.out.cell3
 go_wp2_with fail
 clear u4a u4b u4c u4d u5a u5b u5c u5d
 refine (qsame1_true _ _ d _ IVda.out IVdb.out sd.out).mono ?_
 rintro e y6 ⟨rfl, hb⟩
 replace QXa := nxq QXa hb rfl; replace IVna := nxv IVna hb rfl; replace IVda := nxv IVda hb rfl
 replace QXb := nxq QXb hb rfl; replace IVnb := nxv IVnb hb rfl; replace IVdb := nxv IVdb hb rfl
 replace DW := nxd DW hg hb rfl rfl rfl rfl
 clear hb
 go_wp2
 go_ret
 exact ⟨rfl, by rw [hg.out]; exact DW.out⟩

set_option maxHeartbeats 8000000 in
set_option maxRecDepth 100000 in
theorem alike_true (va vb : Value) (n d c : Int) (w : World) (ha : Qv w va n d) (hb : Qv w vb n d) (sn : Sz n 1000000) (sd : Sz d 1000000) : Calls Tryz.prog 34 #[va, .int .i64 c, vb, .int .i64 c] w (RetV (.bool true) w) := by
 have hcc : (c == c) = true := by simp
 replace sn := Lib.hid sn; replace sd := Lib.hid sd
 obtain ⟨Xan, pan, qan, Xad, pad, qad, rfl, han, had⟩ := ha
 have Han := Lib.hid han
 have Had := Lib.hid had
 clear han had
 generalize hs : decide (n < 0) = san at *
 clear hs
 generalize hs : decide (d < 0) = sad at *
 clear hs
 obtain ⟨Xbn, pbn, qbn, Xbd, pbd, qbd, rfl, hbn, hbd⟩ := hb
 have Hbn := Lib.hid hbn
 have Hbd := Lib.hid hbd
 clear hbn hbd
 generalize hs : decide (n < 0) = sbn at *
 clear hs
 generalize hs : decide (d < 0) = sbd at *
 clear hs

 go_enter Tryz.func34, Tryz.ntmps34
 go_wp2_with fail
 obtain ⟨W, hW⟩ : ∃ W, W = ((w.alloc (Obj.cells #[Value.bool san, Value.slice Xan pan qan, Value.bool sad, Value.slice Xad pad qad] 31)).alloc (Obj.cells #[Value.bool sbn, Value.slice Xbn pbn qbn, Value.bool sbd, Value.slice Xbd pbd qbd] 31)) := ⟨_, rfl⟩
 rw [← hW]
 have QXa : Hid (QBox W (w.heap.size) san (.slice Xan pan qan) sad (.slice Xad pad qad)) := by rw [hW]; have := (QBox.new w san (Value.slice Xan pan qan) sad (Value.slice Xad pad qad)).alloc (Obj.cells #[Value.bool sbn, Value.slice Xbn pbn qbn, Value.bool sbd, Value.slice Xbd pbd qbd] 31); simpa [Hid] using this
 have QXb : Hid (QBox W (w.heap.size + 1) sbn (.slice Xbn pbn qbn) sbd (.slice Xbd pbd qbd)) := by rw [hW]; have := QBox.new (w.alloc (Obj.cells #[Value.bool san, Value.slice Xan pan qan, Value.bool sad, Value.slice Xad pad qad] 31)) sbn (Value.slice Xbn pbn qbn) sbd (Value.slice Xbd pbd qbd); simpa [Hid] using this
 have IVna : Hid (Iv W (.agg #[.bool san, .slice Xan pan qan]) (n)) := by rw [hW]; exact ((Han.out).alloc _).alloc _
 have IVda : Hid (Iv W (.agg #[.bool sad, .slice Xad pad qad]) (d)) := by rw [hW]; exact ((Had.out).alloc _).alloc _
 have IVnb : Hid (Iv W (.agg #[.bool sbn, .slice Xbn pbn qbn]) (n)) := by rw [hW]; exact ((Hbn.out).alloc _).alloc _
 have IVdb : Hid (Iv W (.agg #[.bool sbd, .slice Xbd pbd qbd]) (d)) := by rw [hW]; exact ((Hbd.out).alloc _).alloc _
 have DW : Hid (Below w.heap.size w W) := by rw [hW]; exact ((Below.refl _ _).alloc (by simp <;> omega) _).alloc (by simp <;> omega) _
 clear hW
 generalize hg : w.heap.size = g at *
 replace hg := Lib.hid hg
 go_upto_region 1 with fail
 have u1a := QXa.out.cell0; have u1b := QXa.out.cell1; have u1c := QXa.out.cell2; have u1d := QXa.out.cell3
 have u2a := QXb.out.cell0; have u2b := QXb.out.cell1; have u2c := QXb.out.cell2; have u2d := QXb.out.cell3
 go_wp2_with fail
 clear u1a u1b u1c u1d u2a u2b u2c u2d
 refine (qsame_nd _ _ n d _ (qv_of IVna.out IVda.out) (qv_of IVnb.out IVdb.out) sn.out sd.out).mono ?_
 rintro e y3 ⟨rfl, hb⟩
 replace QXa := nxq QXa hb rfl; replace IVna := nxv IVna hb rfl; replace IVda := nxv IVda hb rfl
 replace QXb := nxq QXb hb rfl; replace IVnb := nxv IVnb hb rfl; replace IVdb := nxv IVdb hb rfl
 replace DW := nxd DW hg hb rfl rfl rfl rfl
 clear hb
 go_wp2
 go_ret
 exact ⟨rfl, by rw [hg.out]; exact DW.out⟩
end Go.Proofs.YtfigimfdojbkeaaGreat
