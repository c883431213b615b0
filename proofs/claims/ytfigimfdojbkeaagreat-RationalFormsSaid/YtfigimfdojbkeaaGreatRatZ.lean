/-
  The reference's functions on fractions.
-/
import Derived.Test.YtfigimfdojbkeaaGreatRatY
import Derived.Deep.DeepCutAuto
import Derived.Handy
set_option linter.unusedSimpArgs false
set_option linter.unusedVariables false
namespace Go.Proofs.YtfigimfdojbkeaaGreat
open Go.RowKit
attribute [local go_sem ↓] Go.wp_at_zero Go.wp_at_succ

def RetQC (n d c : Int) (w : World) (e : Ending) (w' : World) : Prop := ∃ v, e = .returned (.tuple #[v, .int .i64 c]) ∧ Qv w' v n d ∧ Below w.heap.size w w'
theorem retqc {c : Int} {w w' : World} {e : Ending} (h : RetV (.tuple #[zeroQ, .int .i64 c]) w e w') : RetQC 0 0 c w e w' := ⟨zeroQ, h.1, zeroQ_qv _, h.2⟩
theorem qv00 {w : World} {v : Value} {z d : Int} (h1 : z = 0) (h2 : d = 0) (h : Qv w v z d) : Qv w v 0 0 := by subst h1 h2; exact h
theorem retqd {c z d : Int} {w w' : World} {e : Ending} (h1 : z = 0) (h2 : d = 0) (h : RetV (.tuple #[zeroQ, .int .i64 c]) w e w') : RetQC z d c w e w' := by subst h1 h2; exact retqc h

set_option maxHeartbeats 8000000 in
set_option maxRecDepth 100000 in
theorem examples_any (w : World) : Calls Tryz.prog 14 #[] w (RetV (.bool true) w) := by
  obtain ⟨g, hg⟩ : ∃ g, w.heap.size = g := ⟨_, rfl⟩
  replace hg := Lib.hid hg
  have DW : Hid (Below g w w) := Below.refl _ _
  obtain ⟨za0, hza0⟩ : ∃ z : Int, z = 0 := ⟨_, rfl⟩
  obtain ⟨za1, hza1⟩ : ∃ z : Int, z = 0 := ⟨_, rfl⟩
  obtain ⟨zb0, hzb0⟩ : ∃ z : Int, z = 0 := ⟨_, rfl⟩
  obtain ⟨zb1, hzb1⟩ : ∃ z : Int, z = 0 := ⟨_, rfl⟩
  replace hza0 := Lib.hid hza0; replace hza1 := Lib.hid hza1; replace hzb0 := Lib.hid hzb0; replace hzb1 := Lib.hid hzb1
  go_enter Tryz.func14, Tryz.ntmps14
  go_wp2_with fail
  refine (of_any 6 _ (by omega) (by omega)).mono ?_
  rintro e ya0 ⟨va0, rfl, hv, hb⟩
  have HVa0 := Lib.hid hv; clear hv
  replace DW := nxd DW hg hb rfl rfl rfl rfl
  clear hb
  go_wp2_with fail
  refine (of_any (-4) _ (by omega) (by omega)).mono ?_
  rintro e ya1 ⟨va1, rfl, hv, hb⟩
  have HVa1 := Lib.hid hv; clear hv
  replace HVa0 := Lib.hid (iv_next HVa0.out hb rfl)
  replace DW := nxd DW hg hb rfl rfl rfl rfl
  clear hb
  go_wp2_with fail
  refine (ex_new _ _ _ HVa0.out HVa1.out).mono ?_
  rintro e y1 ⟨_, rfl, hq, hb⟩
  obtain ⟨Xan, pan, qan, Xad, pad, qad, rfl, han, had⟩ := hq
  have Qan := Lib.hid han; have Qad := Lib.hid had; clear han had
  have B := Lib.hid hb; clear hb
  generalize hs : decide ((qA.num : Int) < 0) = san at *
  clear hs
  generalize hs : decide (((qA.den : Int) : Int) < 0) = sad at *
  clear hs
  go_upto_region 2 with fail
  obtain ⟨W2, hW⟩ : ∃ W2, W2 = y1.alloc (Obj.cells #[Value.bool san, Value.slice Xan pan qan, Value.bool sad, Value.slice Xad pad qad] 31) := ⟨_, rfl⟩
  rw [← hW]
  have QXa : Hid (QBox W2 y1.heap.size san (.slice Xan pan qan) sad (.slice Xad pad qad)) := by rw [hW]; exact QBox.new _ _ _ _ _
  have IVna : Hid (Iv W2 (.agg #[.bool san, .slice Xan pan qan]) (qA.num)) := by rw [hW]; exact Qan.out.alloc _
  have IVda : Hid (Iv W2 (.agg #[.bool sad, .slice Xad pad qad]) ((qA.den : Int))) := by rw [hW]; exact Qad.out.alloc _
  have hd : Below ya1.heap.size ya1 W2 := by rw [hW]; exact B.out.alloc (by have := B.out.size; omega) _
  clear hW B Qan Qad
  generalize hgn2 : y1.heap.size = ga at *
  clear hgn2
  replace DW := nxd DW hg hd rfl rfl rfl rfl
  clear hd
  go_wp2_with fail
  refine (of_any 1 _ (by omega) (by omega)).mono ?_
  rintro e yb0 ⟨vb0, rfl, hv, hb⟩
  have HVb0 := Lib.hid hv; clear hv
  replace QXa := nxq QXa hb rfl; replace IVna := nxv IVna hb rfl; replace IVda := nxv IVda hb rfl
  replace DW := nxd DW hg hb rfl rfl rfl rfl
  clear hb
  go_wp2_with fail
  refine (of_any 0 _ (by omega) (by omega)).mono ?_
  rintro e yb1 ⟨vb1, rfl, hv, hb⟩
  have HVb1 := Lib.hid hv; clear hv
  replace HVb0 := Lib.hid (iv_next HVb0.out hb rfl)
  replace QXa := nxq QXa hb rfl; replace IVna := nxv IVna hb rfl; replace IVda := nxv IVda hb rfl
  replace DW := nxd DW hg hb rfl rfl rfl rfl
  clear hb
  go_wp2_with fail
  refine ((ex_new0 _ _ _ HVb0.out HVb1.out).mono fun _ _ h => retqd hza0.out hza1.out h).mono ?_
  rintro e y3 ⟨_, rfl, hq, hb⟩
  obtain ⟨Xbn, pbn, qbn, Xbd, pbd, qbd, rfl, hbn, hbd⟩ := hq
  have Qbn := Lib.hid hbn; have Qbd := Lib.hid hbd; clear hbn hbd
  have B := Lib.hid hb; clear hb
  generalize hs : decide ((za0 : Int) < 0) = sbn at *
  clear hs
  generalize hs : decide ((za1 : Int) < 0) = sbd at *
  clear hs
  go_upto_region 3 with fail
  obtain ⟨W4, hW⟩ : ∃ W4, W4 = y3.alloc (Obj.cells #[Value.bool sbn, Value.slice Xbn pbn qbn, Value.bool sbd, Value.slice Xbd pbd qbd] 31) := ⟨_, rfl⟩
  rw [← hW]
  have QXb : Hid (QBox W4 y3.heap.size sbn (.slice Xbn pbn qbn) sbd (.slice Xbd pbd qbd)) := by rw [hW]; exact QBox.new _ _ _ _ _
  have IVnb : Hid (Iv W4 (.agg #[.bool sbn, .slice Xbn pbn qbn]) (za0)) := by rw [hW]; exact Qbn.out.alloc _
  have IVdb : Hid (Iv W4 (.agg #[.bool sbd, .slice Xbd pbd qbd]) (za1)) := by rw [hW]; exact Qbd.out.alloc _
  have hd : Below yb1.heap.size yb1 W4 := by rw [hW]; exact B.out.alloc (by have := B.out.size; omega) _
  clear hW B Qbn Qbd
  generalize hgn4 : y3.heap.size = gb at *
  clear hgn4
  replace QXa := nxq QXa hd rfl; replace IVna := nxv IVna hd rfl; replace IVda := nxv IVda hd rfl
  replace DW := nxd DW hg hd rfl rfl rfl rfl
  clear hd
  go_wp2_with fail
  refine (ex_over13 _).mono ?_
  rintro e y5 ⟨_, rfl, hq1, hb⟩
  replace hq1 := Lib.hid hq1
  replace QXa := nxq QXa hb rfl; replace IVna := nxv IVna hb rfl; replace IVda := nxv IVda hb rfl
  replace QXb := nxq QXb hb rfl; replace IVnb := nxv IVnb hb rfl; replace IVdb := nxv IVdb hb rfl
  replace DW := nxd DW hg hb rfl rfl rfl rfl
  clear hb
  go_wp2_with fail
  refine (ex_over12 _).mono ?_
  rintro e y6 ⟨_, rfl, hq2, hb⟩
  replace hq1 := Lib.hid (hq1.out.next hb rfl); replace hq2 := Lib.hid hq2
  replace QXa := nxq QXa hb rfl; replace IVna := nxv IVna hb rfl; replace IVda := nxv IVda hb rfl
  replace QXb := nxq QXb hb rfl; replace IVnb := nxv IVnb hb rfl; replace IVdb := nxv IVdb hb rfl
  replace DW := nxd DW hg hb rfl rfl rfl rfl
  clear hb
  go_wp2_with fail
  refine (ex_between1 _ _ _ hq1.out hq2.out).mono ?_
  rintro e y7 ⟨_, rfl, hq, hb⟩
  clear hq1 hq2
  obtain ⟨Xcn, pcn, qcn, Xcd, pcd, qcd, rfl, hcn, hcd⟩ := hq
  have Qcn := Lib.hid hcn; have Qcd := Lib.hid hcd; clear hcn hcd
  have B := Lib.hid hb; clear hb
  generalize hs : decide ((qB.num : Int) < 0) = scn at *
  clear hs
  generalize hs : decide (((qB.den : Int) : Int) < 0) = scd at *
  clear hs
  go_upto_region 4 with fail
  obtain ⟨W8, hW⟩ : ∃ W8, W8 = y7.alloc (Obj.cells #[Value.bool scn, Value.slice Xcn pcn qcn, Value.bool scd, Value.slice Xcd pcd qcd] 31) := ⟨_, rfl⟩
  rw [← hW]
  have QXc : Hid (QBox W8 y7.heap.size scn (.slice Xcn pcn qcn) scd (.slice Xcd pcd qcd)) := by rw [hW]; exact QBox.new _ _ _ _ _
  have IVnc : Hid (Iv W8 (.agg #[.bool scn, .slice Xcn pcn qcn]) (qB.num)) := by rw [hW]; exact Qcn.out.alloc _
  have IVdc : Hid (Iv W8 (.agg #[.bool scd, .slice Xcd pcd qcd]) ((qB.den : Int))) := by rw [hW]; exact Qcd.out.alloc _
  have hd : Below y6.heap.size y6 W8 := by rw [hW]; exact B.out.alloc (by have := B.out.size; omega) _
  clear hW B Qcn Qcd
  generalize hgn8 : y7.heap.size = gc at *
  clear hgn8
  replace QXa := nxq QXa hd rfl; replace IVna := nxv IVna hd rfl; replace IVda := nxv IVda hd rfl
  replace QXb := nxq QXb hd rfl; replace IVnb := nxv IVnb hd rfl; replace IVdb := nxv IVdb hd rfl
  replace DW := nxd DW hg hd rfl rfl rfl rfl
  clear hd
  go_wp2_with fail
  refine (ex_over75 _).mono ?_
  rintro e y9 ⟨_, rfl, hq1, hb⟩
  replace hq1 := Lib.hid hq1
  replace QXa := nxq QXa hb rfl; replace IVna := nxv IVna hb rfl; replace IVda := nxv IVda hb rfl
  replace QXb := nxq QXb hb rfl; replace IVnb := nxv IVnb hb rfl; replace IVdb := nxv IVdb hb rfl
  replace QXc := nxq QXc hb rfl; replace IVnc := nxv IVnc hb rfl; replace IVdc := nxv IVdc hb rfl
  replace DW := nxd DW hg hb rfl rfl rfl rfl
  clear hb
  go_wp2_with fail
  refine (ex_over107 _).mono ?_
  rintro e y10 ⟨_, rfl, hq2, hb⟩
  replace hq1 := Lib.hid (hq1.out.next hb rfl); replace hq2 := Lib.hid hq2
  replace QXa := nxq QXa hb rfl; replace IVna := nxv IVna hb rfl; replace IVda := nxv IVda hb rfl
  replace QXb := nxq QXb hb rfl; replace IVnb := nxv IVnb hb rfl; replace IVdb := nxv IVdb hb rfl
  replace QXc := nxq QXc hb rfl; replace IVnc := nxv IVnc hb rfl; replace IVdc := nxv IVdc hb rfl
  replace DW := nxd DW hg hb rfl rfl rfl rfl
  clear hb
  go_wp2_with fail
  refine (ex_between2 _ _ _ hq1.out hq2.out).mono ?_
  rintro e y11 ⟨_, rfl, hq, hb⟩
  clear hq1 hq2
  obtain ⟨Xdn, pdn, qdn, Xdd, pdd, qdd, rfl, hdn, hdd⟩ := hq
  have Qdn := Lib.hid hdn; have Qdd := Lib.hid hdd; clear hdn hdd
  have B := Lib.hid hb; clear hb
  generalize hs : decide ((qD.num : Int) < 0) = sdn at *
  clear hs
  generalize hs : decide (((qD.den : Int) : Int) < 0) = sdd at *
  clear hs
  go_upto_region 5 with fail
  obtain ⟨W12, hW⟩ : ∃ W12, W12 = y11.alloc (Obj.cells #[Value.bool sdn, Value.slice Xdn pdn qdn, Value.bool sdd, Value.slice Xdd pdd qdd] 31) := ⟨_, rfl⟩
  rw [← hW]
  have QXd : Hid (QBox W12 y11.heap.size sdn (.slice Xdn pdn qdn) sdd (.slice Xdd pdd qdd)) := by rw [hW]; exact QBox.new _ _ _ _ _
  have IVnd : Hid (Iv W12 (.agg #[.bool sdn, .slice Xdn pdn qdn]) (qD.num)) := by rw [hW]; exact Qdn.out.alloc _
  have IVdd : Hid (Iv W12 (.agg #[.bool sdd, .slice Xdd pdd qdd]) ((qD.den : Int))) := by rw [hW]; exact Qdd.out.alloc _
  have hd : Below y10.heap.size y10 W12 := by rw [hW]; exact B.out.alloc (by have := B.out.size; omega) _
  clear hW B Qdn Qdd
  generalize hgn12 : y11.heap.size = gd at *
  clear hgn12
  replace QXa := nxq QXa hd rfl; replace IVna := nxv IVna hd rfl; replace IVda := nxv IVda hd rfl
  replace QXb := nxq QXb hd rfl; replace IVnb := nxv IVnb hd rfl; replace IVdb := nxv IVdb hd rfl
  replace QXc := nxq QXc hd rfl; replace IVnc := nxv IVnc hd rfl; replace IVdc := nxv IVdc hd rfl
  replace DW := nxd DW hg hd rfl rfl rfl rfl
  clear hd
  go_wp2_with fail
  refine (ex_parse1 _).mono ?_
  rintro e y13 ⟨_, rfl, hq, hb⟩
  obtain ⟨Xkn, pkn, qkn, Xkd, pkd, qkd, rfl, hkn, hkd⟩ := hq
  have Qkn := Lib.hid hkn; have Qkd := Lib.hid hkd; clear hkn hkd
  have B := Lib.hid hb; clear hb
  generalize hs : decide ((qA.num : Int) < 0) = skn at *
  clear hs
  generalize hs : decide (((qA.den : Int) : Int) < 0) = skd at *
  clear hs
  go_upto_region 6 with fail
  obtain ⟨W14, hW⟩ : ∃ W14, W14 = y13.alloc (Obj.cells #[Value.bool skn, Value.slice Xkn pkn qkn, Value.bool skd, Value.slice Xkd pkd qkd] 31) := ⟨_, rfl⟩
  rw [← hW]
  have QXk : Hid (QBox W14 y13.heap.size skn (.slice Xkn pkn qkn) skd (.slice Xkd pkd qkd)) := by rw [hW]; exact QBox.new _ _ _ _ _
  have IVnk : Hid (Iv W14 (.agg #[.bool skn, .slice Xkn pkn qkn]) (qA.num)) := by rw [hW]; exact Qkn.out.alloc _
  have IVdk : Hid (Iv W14 (.agg #[.bool skd, .slice Xkd pkd qkd]) ((qA.den : Int))) := by rw [hW]; exact Qkd.out.alloc _
  have hd : Below W12.heap.size W12 W14 := by rw [hW]; exact B.out.alloc (by have := B.out.size; omega) _
  clear hW B Qkn Qkd
  generalize hgn14 : y13.heap.size = gk at *
  clear hgn14
  replace QXa := nxq QXa hd rfl; replace IVna := nxv IVna hd rfl; replace IVda := nxv IVda hd rfl
  replace QXb := nxq QXb hd rfl; replace IVnb := nxv IVnb hd rfl; replace IVdb := nxv IVdb hd rfl
  replace QXc := nxq QXc hd rfl; replace IVnc := nxv IVnc hd rfl; replace IVdc := nxv IVdc hd rfl
  replace QXd := nxq QXd hd rfl; replace IVnd := nxv IVnd hd rfl; replace IVdd := nxv IVdd hd rfl
  replace DW := nxd DW hg hd rfl rfl rfl rfl
  clear hd
  go_wp2_with fail
  refine ((ex_parse2 _).mono fun _ _ h => retqd hzb0.out hzb1.out h).mono ?_
  rintro e y15 ⟨_, rfl, hq, hb⟩
  obtain ⟨Xln, pln, qln, Xld, pld, qld, rfl, hln, hld⟩ := hq
  have Qln := Lib.hid hln; have Qld := Lib.hid hld; clear hln hld
  have B := Lib.hid hb; clear hb
  generalize hs : decide ((zb0 : Int) < 0) = sln at *
  clear hs
  generalize hs : decide ((zb1 : Int) < 0) = sld at *
  clear hs
  go_upto_region 7 with fail
  obtain ⟨W16, hW⟩ : ∃ W16, W16 = y15.alloc (Obj.cells #[Value.bool sln, Value.slice Xln pln qln, Value.bool sld, Value.slice Xld pld qld] 31) := ⟨_, rfl⟩
  rw [← hW]
  have QXl : Hid (QBox W16 y15.heap.size sln (.slice Xln pln qln) sld (.slice Xld pld qld)) := by rw [hW]; exact QBox.new _ _ _ _ _
  have IVnl : Hid (Iv W16 (.agg #[.bool sln, .slice Xln pln qln]) (zb0)) := by rw [hW]; exact Qln.out.alloc _
  have IVdl : Hid (Iv W16 (.agg #[.bool sld, .slice Xld pld qld]) (zb1)) := by rw [hW]; exact Qld.out.alloc _
  have hd : Below W14.heap.size W14 W16 := by rw [hW]; exact B.out.alloc (by have := B.out.size; omega) _
  clear hW B Qln Qld
  generalize hgn16 : y15.heap.size = gl at *
  clear hgn16
  replace QXa := nxq QXa hd rfl; replace IVna := nxv IVna hd rfl; replace IVda := nxv IVda hd rfl
  replace QXb := nxq QXb hd rfl; replace IVnb := nxv IVnb hd rfl; replace IVdb := nxv IVdb hd rfl
  replace QXc := nxq QXc hd rfl; replace IVnc := nxv IVnc hd rfl; replace IVdc := nxv IVdc hd rfl
  replace QXd := nxq QXd hd rfl; replace IVnd := nxv IVnd hd rfl; replace IVdd := nxv IVdd hd rfl
  replace QXk := nxq QXk hd rfl; replace IVnk := nxv IVnk hd rfl; replace IVdk := nxv IVdk hd rfl
  replace DW := nxd DW hg hd rfl rfl rfl rfl
  clear hd
  go_upto_region 8 with fail
  obtain ⟨W8, hW⟩ : ∃ W8, W8 = W16.alloc (Obj.cells #[Value.int IntKind.i8 (-3), Value.int IntKind.i8 2, Value.int IntKind.u8 0] 24) := ⟨_, rfl⟩
  rw [← hW]
  have KXh : Hid (KBox W8 W16.heap.size (-3) 2 0) := by rw [hW]; exact KBox.new _ _ _ _
  have hd : Below W16.heap.size W16 W8 := by rw [hW]; exact (Below.refl _ _).alloc (Nat.le_refl _) _
  clear hW
  replace QXa := nxq QXa hd rfl; replace IVna := nxv IVna hd rfl; replace IVda := nxv IVda hd rfl
  replace QXb := nxq QXb hd rfl; replace IVnb := nxv IVnb hd rfl; replace IVdb := nxv IVdb hd rfl
  replace QXc := nxq QXc hd rfl; replace IVnc := nxv IVnc hd rfl; replace IVdc := nxv IVdc hd rfl
  replace QXd := nxq QXd hd rfl; replace IVnd := nxv IVnd hd rfl; replace IVdd := nxv IVdd hd rfl
  replace QXk := nxq QXk hd rfl; replace IVnk := nxv IVnk hd rfl; replace IVdk := nxv IVdk hd rfl
  replace QXl := nxq QXl hd rfl; replace IVnl := nxv IVnl hd rfl; replace IVdl := nxv IVdl hd rfl
  replace DW := nxd DW hg hd rfl rfl rfl rfl
  clear hd
  generalize hgh : W16.heap.size = gh at *
  clear hgh
  have QVa : Hid (Qv W8 (.agg #[.bool san, .slice Xan pan qan, .bool sad, .slice Xad pad qad]) (qA.num) ((qA.den : Int))) := qv_of IVna.out IVda.out
  have QVb : Hid (Qv W8 (.agg #[.bool sbn, .slice Xbn pbn qbn, .bool sbd, .slice Xbd pbd qbd]) (za0) (za1)) := qv_of IVnb.out IVdb.out
  refine Rg.region_gg W8 [.is (.agg #[.bool san, .slice Xan pan qan, .bool sad, .slice Xad pad qad]), .is (Value.int IntKind.i64 0), .is (.agg #[.int .i8 (-3), .int .i8 2, .int .u8 0]), .sat (pQv (qA.num) ((qA.den : Int))) (pQv_keep _ _), .is (Value.bool true), .is (Value.bool false), .is (Value.bool false), .is (.agg #[.bool sbn, .slice Xbn pbn qbn, .bool sbd, .slice Xbd pbd qbd]), .is (Value.int IntKind.i64 10), .is (Value.bool true), .is (Value.bool false), .is (Value.bool false), .is (Value.bool false), .is (.agg #[.bool san, .slice Xan pan qan, .bool sad, .slice Xad pad qad]), .is (Value.string { data := #[45, 51, 47, 50] }), .is (Value.bool false), .is (Value.bool false), .is (Value.bool false), .is (.agg #[.bool san, .slice Xan pan qan, .bool sad, .slice Xad pad qad]), .sat (pIv ((-2 : Int))) (pIv_keep _), .sat (pIv ((-2 : Int))) (pIv_keep _), .is (Value.int IntKind.i64 0), .is (Value.bool false), .is (Value.bool false)] [] [some 47, some 48, some 49, some 50, some 51, some 52, some 53, some 54, some 55, some 56, some 57, some 58, some 59, some 60, some 61, some 62, some 63, some 64, some 65, some 66, some 67, some 68, some 69, some 70] (by kernel_rfl) (by kernel_rfl) (by kernel_rfl) (by kernel_rfl) (by kernel_rfl) (by simp [Rg.stos]) (by rfl) (by rfl) (by kernel_rfl) (by simp) ((Below.refl _ _).drew) (fun Q' => ?_) (fun K hK wn hs => ?_)
  · refine ⟨?_, ?_, ?_, ?_, ?_, ?_, ?_, ?_, ?_, ?_, ?_, ?_, ?_, ?_, ?_, ?_, ?_, ?_, ?_, ?_, ?_, ?_, ?_, ?_, trivial⟩
    · intro a' w' ha hs hw hold
      have eo1 : a'.tmps[1]? = some (ptr ga) := (ha.rest 1 (by kernel_rfl)).trans rfl
      exact ⟨rfl, .inl ⟨wanted_none rfl, wp_val (run_qload rfl (ev_tmp eo1) (QXa.out.bel hs (by simp))) ⟨rfl, Below.refl _ _⟩⟩⟩
    · intro a' w' ha hs hw hold
      have eo2 : a'.tmps[2]? = some (Value.int IntKind.i64 0) := (ha.rest 2 (by kernel_rfl)).trans rfl
      exact ⟨rfl, .inl ⟨wanted_none rfl, wp_val (run_move rfl (ev_tmp eo2)) ⟨rfl, Below.refl _ _⟩⟩⟩
    · intro a' w' ha hs hw hold
      have eo13 : a'.tmps[13]? = some (ptr gh) := (ha.rest 13 (by kernel_rfl)).trans rfl
      exact ⟨rfl, .inl ⟨wanted_none rfl, wp_val (run_kloadall rfl (ev_tmp eo13) (KXh.out.bel hs (by simp))) ⟨rfl, Below.refl _ _⟩⟩⟩
    · intro a' w' ha hs hw hold
      have e2 : a'.tmps[49]? = some (.agg #[.int .i8 (-3), .int .i8 2, .int .u8 0]) := Rg.slot_get rfl rfl (hw 2 (by kernel_rfl) _ rfl)
      exact ⟨rfl, wanted_none rfl, call_step rfl Tryz.func15 (by kernel_rfl) rfl (map_one (ev_tmp e2)) (ex_made1 _) (fun e w2 he => by obtain ⟨v, rfl, hv, hb⟩ := he; exact ⟨v, rfl, v, rfl, hv, hb⟩)⟩
    · intro a' w' ha hs hw hold
      have e0 : a'.tmps[47]? = some (.agg #[.bool san, .slice Xan pan qan, .bool sad, .slice Xad pad qad]) := Rg.slot_get rfl rfl (hw 0 (by kernel_rfl) _ rfl)
      have e1 : a'.tmps[48]? = some (Value.int IntKind.i64 0) := Rg.slot_get rfl rfl (hw 1 (by kernel_rfl) _ rfl)
      obtain ⟨v3, e3, q3⟩ := hw 3 (by kernel_rfl) _ rfl
      replace e3 : a'.tmps[50]? = some v3 := Rg.slot_get rfl rfl e3
      exact ⟨rfl, .inl ⟨wanted_none rfl, call_step rfl Tryz.func56 (by kernel_rfl) rfl (map_three (ev_tmp e0) (ev_tmp e1) (ev_tmp e3)) (is_ok _ _ qA qA true _ (QVa.out.kn hs.kn) (srA (by omega)) q3 (srA (by omega)) (decide_eq_true rfl)) (fun e w2 he => by obtain ⟨rfl, hb⟩ := he; exact ⟨_, rfl, rfl, hb⟩)⟩⟩
    · intro a' w' ha hs hw hold
      have e4 : a'.tmps[51]? = some (Value.bool true) := Rg.slot_get rfl rfl (hw 4 (by kernel_rfl) _ rfl)
      exact ⟨rfl, .inl ⟨wanted_none rfl, wp_val (run_not rfl (ev_tmp e4)) ⟨rfl, Below.refl _ _⟩⟩⟩
    · intro a' w' ha hs hw hold
      have e5 : a'.tmps[52]? = some (Value.bool false) := Rg.slot_get rfl rfl (hw 5 (by kernel_rfl) _ rfl)
      exact ⟨rfl, .inl ⟨wanted_none rfl, wp_val (run_move rfl (ev_tmp e5)) ⟨rfl, Below.refl _ _⟩⟩⟩
    · intro a' w' ha hs hw hold
      have e6 : a'.tmps[53]? = some (Value.bool false) := Rg.slot_get rfl rfl (hw 6 (by kernel_rfl) _ rfl)
      have eo3 : a'.tmps[3]? = some (ptr gb) := (ha.rest 3 (by kernel_rfl)).trans rfl
      exact ⟨rfl, .inl ⟨wanted_some rfl rfl rfl e6, wp_val (run_qload rfl (ev_tmp eo3) (QXb.out.bel hs (by simp))) ⟨rfl, Below.refl _ _⟩⟩⟩
    · intro a' w' ha hs hw hold
      have e6 : a'.tmps[53]? = some (Value.bool false) := Rg.slot_get rfl rfl (hw 6 (by kernel_rfl) _ rfl)
      have eo4 : a'.tmps[4]? = some (Value.int IntKind.i64 10) := (ha.rest 4 (by kernel_rfl)).trans rfl
      exact ⟨rfl, .inl ⟨wanted_some rfl rfl rfl e6, wp_val (run_move rfl (ev_tmp eo4)) ⟨rfl, Below.refl _ _⟩⟩⟩
    · intro a' w' ha hs hw hold
      have e6 : a'.tmps[53]? = some (Value.bool false) := Rg.slot_get rfl rfl (hw 6 (by kernel_rfl) _ rfl)
      have e7 : a'.tmps[54]? = some (.agg #[.bool sbn, .slice Xbn pbn qbn, .bool sbd, .slice Xbd pbd qbd]) := Rg.slot_get rfl rfl (hw 7 (by kernel_rfl) _ rfl)
      have e8 : a'.tmps[55]? = some (Value.int IntKind.i64 10) := Rg.slot_get rfl rfl (hw 8 (by kernel_rfl) _ rfl)
      exact ⟨rfl, .inl ⟨wanted_some rfl rfl rfl e6, call_step rfl Tryz.func49 (by kernel_rfl) rfl (map_three (ev_tmp e7) (ev_tmp e8) rfl) (fails_zero _ 10 _ (qv00 hza0.out hza1.out (QVb.out.kn hs.kn))) (fun e w2 he => by obtain ⟨rfl, hb⟩ := he; exact ⟨_, rfl, rfl, hb⟩)⟩⟩
    · intro a' w' ha hs hw hold
      have e6 : a'.tmps[53]? = some (Value.bool false) := Rg.slot_get rfl rfl (hw 6 (by kernel_rfl) _ rfl)
      have e9 : a'.tmps[56]? = some (Value.bool true) := Rg.slot_get rfl rfl (hw 9 (by kernel_rfl) _ rfl)
      exact ⟨rfl, .inl ⟨wanted_some rfl rfl rfl e6, wp_val (run_not rfl (ev_tmp e9)) ⟨rfl, Below.refl _ _⟩⟩⟩
    · intro a' w' ha hs hw hold
      have e6 : a'.tmps[53]? = some (Value.bool false) := Rg.slot_get rfl rfl (hw 6 (by kernel_rfl) _ rfl)
      have e10 : a'.tmps[57]? = some (Value.bool false) := Rg.slot_get rfl rfl (hw 10 (by kernel_rfl) _ rfl)
      exact ⟨rfl, .inl ⟨wanted_none rfl, wp_val (run_pick (b := false) rfl (ev_tmp e6) (ev_tmp e10)) ⟨rfl, Below.refl _ _⟩⟩⟩
    · intro a' w' ha hs hw hold
      have e11 : a'.tmps[58]? = some (Value.bool false) := Rg.slot_get rfl rfl (hw 11 (by kernel_rfl) _ rfl)
      exact ⟨rfl, .inl ⟨wanted_none rfl, wp_val (run_move rfl (ev_tmp e11)) ⟨rfl, Below.refl _ _⟩⟩⟩
    · intro a' w' ha hs hw hold
      have e12 : a'.tmps[59]? = some (Value.bool false) := Rg.slot_get rfl rfl (hw 12 (by kernel_rfl) _ rfl)
      have eo1 : a'.tmps[1]? = some (ptr ga) := (ha.rest 1 (by kernel_rfl)).trans rfl
      exact ⟨rfl, .inl ⟨wanted_some rfl rfl rfl e12, wp_val (run_qload rfl (ev_tmp eo1) (QXa.out.bel hs (by simp))) ⟨rfl, Below.refl _ _⟩⟩⟩
    · intro a' w' ha hs hw hold
      have e12 : a'.tmps[59]? = some (Value.bool false) := Rg.slot_get rfl rfl (hw 12 (by kernel_rfl) _ rfl)
      have e13 : a'.tmps[60]? = some (.agg #[.bool san, .slice Xan pan qan, .bool sad, .slice Xad pad qad]) := Rg.slot_get rfl rfl (hw 13 (by kernel_rfl) _ rfl)
      exact ⟨rfl, .inl ⟨wanted_some rfl rfl rfl e12, call_step rfl Tryz.func43 (by kernel_rfl) rfl (map_one (ev_tmp e13)) (ex_text _ _ (QVa.out.kn hs.kn)) (fun e w2 he => by obtain ⟨rfl, hb⟩ := he; exact ⟨_, rfl, rfl, hb⟩)⟩⟩
    · intro a' w' ha hs hw hold
      have e12 : a'.tmps[59]? = some (Value.bool false) := Rg.slot_get rfl rfl (hw 12 (by kernel_rfl) _ rfl)
      have e14 : a'.tmps[61]? = some (Value.string { data := #[45, 51, 47, 50] }) := Rg.slot_get rfl rfl (hw 14 (by kernel_rfl) _ rfl)
      exact ⟨rfl, .inl ⟨wanted_some rfl rfl rfl e12, wp_val (run_neq_str rfl (ev_tmp e14) rfl (by simp)) ⟨rfl, Below.refl _ _⟩⟩⟩
    · intro a' w' ha hs hw hold
      have e12 : a'.tmps[59]? = some (Value.bool false) := Rg.slot_get rfl rfl (hw 12 (by kernel_rfl) _ rfl)
      have e15 : a'.tmps[62]? = some (Value.bool false) := Rg.slot_get rfl rfl (hw 15 (by kernel_rfl) _ rfl)
      exact ⟨rfl, .inl ⟨wanted_none rfl, wp_val (run_pick (b := false) rfl (ev_tmp e12) (ev_tmp e15)) ⟨rfl, Below.refl _ _⟩⟩⟩
    · intro a' w' ha hs hw hold
      have e16 : a'.tmps[63]? = some (Value.bool false) := Rg.slot_get rfl rfl (hw 16 (by kernel_rfl) _ rfl)
      exact ⟨rfl, .inl ⟨wanted_none rfl, wp_val (run_move rfl (ev_tmp e16)) ⟨rfl, Below.refl _ _⟩⟩⟩
    · intro a' w' ha hs hw hold
      have e17 : a'.tmps[64]? = some (Value.bool false) := Rg.slot_get rfl rfl (hw 17 (by kernel_rfl) _ rfl)
      have eo1 : a'.tmps[1]? = some (ptr ga) := (ha.rest 1 (by kernel_rfl)).trans rfl
      exact ⟨rfl, .inl ⟨wanted_some rfl rfl rfl e17, wp_val (run_qload rfl (ev_tmp eo1) (QXa.out.bel hs (by simp))) ⟨rfl, Below.refl _ _⟩⟩⟩
    · intro a' w' ha hs hw hold
      have e17 : a'.tmps[64]? = some (Value.bool false) := Rg.slot_get rfl rfl (hw 17 (by kernel_rfl) _ rfl)
      have e18 : a'.tmps[65]? = some (.agg #[.bool san, .slice Xan pan qan, .bool sad, .slice Xad pad qad]) := Rg.slot_get rfl rfl (hw 18 (by kernel_rfl) _ rfl)
      exact ⟨rfl, wanted_some rfl rfl rfl e17, call_step rfl Tryz.func33 (by kernel_rfl) rfl (map_one (ev_tmp e18)) (ex_floor _ _ (QVa.out.kn hs.kn)) (fun e w2 he => by obtain ⟨v, rfl, hv, hb⟩ := he; exact ⟨v, rfl, v, rfl, hv, hb⟩)⟩
    · intro a' w' ha hs hw hold
      have e17 : a'.tmps[64]? = some (Value.bool false) := Rg.slot_get rfl rfl (hw 17 (by kernel_rfl) _ rfl)
      exact ⟨rfl, wanted_some rfl rfl rfl e17, call_step rfl Tryz.func55 (by kernel_rfl) rfl (map_one rfl) (of_any (-2) _ (by omega) (by omega)) (fun e w2 he => by obtain ⟨v, rfl, hv, hb⟩ := he; exact ⟨v, rfl, v, rfl, hv, hb⟩)⟩
    · intro a' w' ha hs hw hold
      have e17 : a'.tmps[64]? = some (Value.bool false) := Rg.slot_get rfl rfl (hw 17 (by kernel_rfl) _ rfl)
      obtain ⟨v19, e19, q19⟩ := hw 19 (by kernel_rfl) _ rfl
      replace e19 : a'.tmps[66]? = some v19 := Rg.slot_get rfl rfl e19
      obtain ⟨v20, e20, q20⟩ := hw 20 (by kernel_rfl) _ rfl
      replace e20 : a'.tmps[67]? = some v20 := Rg.slot_get rfl rfl e20
      exact ⟨rfl, .inl ⟨wanted_some rfl rfl rfl e17, call_step rfl Tryz.func35 (by kernel_rfl) rfl (map_two (ev_tmp e19) (ev_tmp e20)) (cmp_is _ _ (-2) (-2) 0 _ q19 q20 (szs (by omega) (by omega)) (szs (by omega) (by omega)) (by decide)) (fun e w2 he => by obtain ⟨rfl, hb⟩ := he; exact ⟨_, rfl, rfl, hb⟩)⟩⟩
    · intro a' w' ha hs hw hold
      have e17 : a'.tmps[64]? = some (Value.bool false) := Rg.slot_get rfl rfl (hw 17 (by kernel_rfl) _ rfl)
      have e21 : a'.tmps[68]? = some (Value.int IntKind.i64 0) := Rg.slot_get rfl rfl (hw 21 (by kernel_rfl) _ rfl)
      exact ⟨rfl, .inl ⟨wanted_some rfl rfl rfl e17, wp_val (show _ = _ from (run_neq_int rfl (ev_tmp e21) rfl).trans (by rfl)) ⟨rfl, Below.refl _ _⟩⟩⟩
    · intro a' w' ha hs hw hold
      have e17 : a'.tmps[64]? = some (Value.bool false) := Rg.slot_get rfl rfl (hw 17 (by kernel_rfl) _ rfl)
      have e22 : a'.tmps[69]? = some (Value.bool false) := Rg.slot_get rfl rfl (hw 22 (by kernel_rfl) _ rfl)
      exact ⟨rfl, .inl ⟨wanted_none rfl, wp_val (run_pick (b := false) rfl (ev_tmp e17) (ev_tmp e22)) ⟨rfl, Below.refl _ _⟩⟩⟩
  simp only [Rg.allG]
  intro r17x3 _
  intro r17x19 _
  intro r17x20 _
  simp only [setOpt, Rg.setOpt, List.set_cons_succ, List.set_cons_zero]
  refine hK _ _ ?_
  clear hK K
  replace hs := hs.below
  replace QXa := nxq QXa hs rfl; replace IVna := nxv IVna hs rfl; replace IVda := nxv IVda hs rfl
  replace QXb := nxq QXb hs rfl; replace IVnb := nxv IVnb hs rfl; replace IVdb := nxv IVdb hs rfl
  replace QXc := nxq QXc hs rfl; replace IVnc := nxv IVnc hs rfl; replace IVdc := nxv IVdc hs rfl
  replace QXd := nxq QXd hs rfl; replace IVnd := nxv IVnd hs rfl; replace IVdd := nxv IVdd hs rfl
  replace QXk := nxq QXk hs rfl; replace IVnk := nxv IVnk hs rfl; replace IVdk := nxv IVdk hs rfl
  replace QXl := nxq QXl hs rfl; replace IVnl := nxv IVnl hs rfl; replace IVdl := nxv IVdl hs rfl
  replace KXh := Lib.hid (KXh.out.next hs rfl)
  replace DW := nxd DW hg hs rfl rfl rfl rfl
  clear hs
  go_upto_region 10 with fail
  have QVa : Hid (Qv wn (.agg #[.bool san, .slice Xan pan qan, .bool sad, .slice Xad pad qad]) (qA.num) ((qA.den : Int))) := qv_of IVna.out IVda.out
  have QVc : Hid (Qv wn (.agg #[.bool scn, .slice Xcn pcn qcn, .bool scd, .slice Xcd pcd qcd]) (qB.num) ((qB.den : Int))) := qv_of IVnc.out IVdc.out
  have QVd : Hid (Qv wn (.agg #[.bool sdn, .slice Xdn pdn qdn, .bool sdd, .slice Xdd pdd qdd]) (qD.num) ((qD.den : Int))) := qv_of IVnd.out IVdd.out
  have QVk : Hid (Qv wn (.agg #[.bool skn, .slice Xkn pkn qkn, .bool skd, .slice Xkd pkd qkd]) (qA.num) ((qA.den : Int))) := qv_of IVnk.out IVdk.out
  have QVl : Hid (Qv wn (.agg #[.bool sln, .slice Xln pln qln, .bool sld, .slice Xld pld qld]) (zb0) (zb1)) := qv_of IVnl.out IVdl.out
  refine Rg.region_gg wn [.is (.agg #[.bool scn, .slice Xcn pcn qcn, .bool scd, .slice Xcd pcd qcd]), .is (Value.int IntKind.i64 0), .is (.agg #[.int .i8 1, .int .i8 2, .int .u8 0]), .sat (pQv (qB.num) ((qB.den : Int))) (pQv_keep _ _), .is (Value.bool true), .is (Value.bool true), .is (.agg #[.bool sdn, .slice Xdn pdn qdn, .bool sdd, .slice Xdd pdd qdd]), .is (Value.int IntKind.i64 0), .is (.agg #[.int .i8 7, .int .i8 5, .int .u8 0]), .sat (pQv (qD.num) ((qD.den : Int))) (pQv_keep _ _), .is (Value.bool true), .is (Value.bool true), .is (Value.bool true), .is (.agg #[.bool skn, .slice Xkn pkn qkn, .bool skd, .slice Xkd pkd qkd]), .is (Value.int IntKind.i64 0), .is (.agg #[.bool san, .slice Xan pan qan, .bool sad, .slice Xad pad qad]), .is (Value.bool true), .is (Value.bool true), .is (Value.bool true), .is (.agg #[.bool sln, .slice Xln pln qln, .bool sld, .slice Xld pld qld]), .is (Value.int IntKind.i64 3), .is (Value.bool true), .is (Value.bool true), .is (Value.bool true), .is (.agg #[.bool san, .slice Xan pan qan, .bool sad, .slice Xad pad qad]), .is (Value.int IntKind.i64 4), .is (Value.bool true), .is (Value.bool true), .is (Value.bool true), .is (.agg #[.bool san, .slice Xan pan qan, .bool sad, .slice Xad pad qad]), .is (Value.int IntKind.i64 (-1)), .is (Value.bool true), .is (Value.bool true), .is (Value.bool true)] [] [some 71, some 72, some 73, some 74, some 75, some 76, some 77, some 78, some 79, some 80, some 81, some 82, some 83, some 84, some 85, some 86, some 87, some 88, some 89, some 90, some 91, some 92, some 93, some 94, some 95, some 96, some 97, some 98, some 99, some 100, some 101, some 102, some 103, some 0] (by kernel_rfl) (by kernel_rfl) (by kernel_rfl) (by kernel_rfl) (by kernel_rfl) (by simp [Rg.stos]) (by rfl) (by rfl) (by kernel_rfl) (by simp) ((Below.refl _ _).drew) (fun Q' => ?_) (fun K hK wn hs => ?_)
  · refine ⟨?_, ?_, ?_, ?_, ?_, ?_, ?_, ?_, ?_, ?_, ?_, ?_, ?_, ?_, ?_, ?_, ?_, ?_, ?_, ?_, ?_, ?_, ?_, ?_, ?_, ?_, ?_, ?_, ?_, ?_, ?_, ?_, ?_, ?_, trivial⟩
    · intro a' w' ha hs hw hold
      have eo5 : a'.tmps[5]? = some (ptr gc) := (ha.rest 5 (by kernel_rfl)).trans rfl
      exact ⟨rfl, .inl ⟨wanted_none rfl, wp_val (run_qload rfl (ev_tmp eo5) (QXc.out.bel hs (by simp))) ⟨rfl, Below.refl _ _⟩⟩⟩
    · intro a' w' ha hs hw hold
      have eo6 : a'.tmps[6]? = some (Value.int IntKind.i64 0) := (ha.rest 6 (by kernel_rfl)).trans rfl
      exact ⟨rfl, .inl ⟨wanted_none rfl, wp_val (run_move rfl (ev_tmp eo6)) ⟨rfl, Below.refl _ _⟩⟩⟩
    · intro a' w' ha hs hw hold
      exact ⟨rfl, .inl ⟨wanted_none rfl, wp_val (run_kbuild rfl rfl rfl) ⟨rfl, Below.refl _ _⟩⟩⟩
    · intro a' w' ha hs hw hold
      have e2 : a'.tmps[73]? = some (.agg #[.int .i8 1, .int .i8 2, .int .u8 0]) := Rg.slot_get rfl rfl (hw 2 (by kernel_rfl) _ rfl)
      exact ⟨rfl, wanted_none rfl, call_step rfl Tryz.func15 (by kernel_rfl) rfl (map_one (ev_tmp e2)) (ex_made2 _) (fun e w2 he => by obtain ⟨v, rfl, hv, hb⟩ := he; exact ⟨v, rfl, v, rfl, hv, hb⟩)⟩
    · intro a' w' ha hs hw hold
      have e0 : a'.tmps[71]? = some (.agg #[.bool scn, .slice Xcn pcn qcn, .bool scd, .slice Xcd pcd qcd]) := Rg.slot_get rfl rfl (hw 0 (by kernel_rfl) _ rfl)
      have e1 : a'.tmps[72]? = some (Value.int IntKind.i64 0) := Rg.slot_get rfl rfl (hw 1 (by kernel_rfl) _ rfl)
      obtain ⟨v3, e3, q3⟩ := hw 3 (by kernel_rfl) _ rfl
      replace e3 : a'.tmps[74]? = some v3 := Rg.slot_get rfl rfl e3
      exact ⟨rfl, .inl ⟨wanted_none rfl, call_step rfl Tryz.func56 (by kernel_rfl) rfl (map_three (ev_tmp e0) (ev_tmp e1) (ev_tmp e3)) (is_ok _ _ qB qB true _ (QVc.out.kn hs.kn) (srB (by omega)) q3 (srB (by omega)) (decide_eq_true rfl)) (fun e w2 he => by obtain ⟨rfl, hb⟩ := he; exact ⟨_, rfl, rfl, hb⟩)⟩⟩
    · intro a' w' ha hs hw hold
      have e4 : a'.tmps[75]? = some (Value.bool true) := Rg.slot_get rfl rfl (hw 4 (by kernel_rfl) _ rfl)
      exact ⟨rfl, .inl ⟨wanted_none rfl, wp_val (run_move rfl (ev_tmp e4)) ⟨rfl, Below.refl _ _⟩⟩⟩
    · intro a' w' ha hs hw hold
      have e5 : a'.tmps[76]? = some (Value.bool true) := Rg.slot_get rfl rfl (hw 5 (by kernel_rfl) _ rfl)
      have eo7 : a'.tmps[7]? = some (ptr gd) := (ha.rest 7 (by kernel_rfl)).trans rfl
      exact ⟨rfl, .inl ⟨wanted_some rfl rfl rfl e5, wp_val (run_qload rfl (ev_tmp eo7) (QXd.out.bel hs (by simp))) ⟨rfl, Below.refl _ _⟩⟩⟩
    · intro a' w' ha hs hw hold
      have e5 : a'.tmps[76]? = some (Value.bool true) := Rg.slot_get rfl rfl (hw 5 (by kernel_rfl) _ rfl)
      have eo8 : a'.tmps[8]? = some (Value.int IntKind.i64 0) := (ha.rest 8 (by kernel_rfl)).trans rfl
      exact ⟨rfl, .inl ⟨wanted_some rfl rfl rfl e5, wp_val (run_move rfl (ev_tmp eo8)) ⟨rfl, Below.refl _ _⟩⟩⟩
    · intro a' w' ha hs hw hold
      have e5 : a'.tmps[76]? = some (Value.bool true) := Rg.slot_get rfl rfl (hw 5 (by kernel_rfl) _ rfl)
      exact ⟨rfl, .inl ⟨wanted_some rfl rfl rfl e5, wp_val (run_kbuild rfl rfl rfl) ⟨rfl, Below.refl _ _⟩⟩⟩
    · intro a' w' ha hs hw hold
      have e5 : a'.tmps[76]? = some (Value.bool true) := Rg.slot_get rfl rfl (hw 5 (by kernel_rfl) _ rfl)
      have e8 : a'.tmps[79]? = some (.agg #[.int .i8 7, .int .i8 5, .int .u8 0]) := Rg.slot_get rfl rfl (hw 8 (by kernel_rfl) _ rfl)
      exact ⟨rfl, wanted_some rfl rfl rfl e5, call_step rfl Tryz.func15 (by kernel_rfl) rfl (map_one (ev_tmp e8)) (ex_made3 _) (fun e w2 he => by obtain ⟨v, rfl, hv, hb⟩ := he; exact ⟨v, rfl, v, rfl, hv, hb⟩)⟩
    · intro a' w' ha hs hw hold
      have e5 : a'.tmps[76]? = some (Value.bool true) := Rg.slot_get rfl rfl (hw 5 (by kernel_rfl) _ rfl)
      have e6 : a'.tmps[77]? = some (.agg #[.bool sdn, .slice Xdn pdn qdn, .bool sdd, .slice Xdd pdd qdd]) := Rg.slot_get rfl rfl (hw 6 (by kernel_rfl) _ rfl)
      have e7 : a'.tmps[78]? = some (Value.int IntKind.i64 0) := Rg.slot_get rfl rfl (hw 7 (by kernel_rfl) _ rfl)
      obtain ⟨v9, e9, q9⟩ := hw 9 (by kernel_rfl) _ rfl
      replace e9 : a'.tmps[80]? = some v9 := Rg.slot_get rfl rfl e9
      exact ⟨rfl, .inl ⟨wanted_some rfl rfl rfl e5, call_step rfl Tryz.func56 (by kernel_rfl) rfl (map_three (ev_tmp e6) (ev_tmp e7) (ev_tmp e9)) (is_ok _ _ qD qD true _ (QVd.out.kn hs.kn) (srD (by omega)) q9 (srD (by omega)) (decide_eq_true rfl)) (fun e w2 he => by obtain ⟨rfl, hb⟩ := he; exact ⟨_, rfl, rfl, hb⟩)⟩⟩
    · intro a' w' ha hs hw hold
      have e5 : a'.tmps[76]? = some (Value.bool true) := Rg.slot_get rfl rfl (hw 5 (by kernel_rfl) _ rfl)
      have e10 : a'.tmps[81]? = some (Value.bool true) := Rg.slot_get rfl rfl (hw 10 (by kernel_rfl) _ rfl)
      exact ⟨rfl, .inl ⟨wanted_none rfl, wp_val (run_pick (b := true) rfl (ev_tmp e5) (ev_tmp e10)) ⟨rfl, Below.refl _ _⟩⟩⟩
    · intro a' w' ha hs hw hold
      have e11 : a'.tmps[82]? = some (Value.bool true) := Rg.slot_get rfl rfl (hw 11 (by kernel_rfl) _ rfl)
      exact ⟨rfl, .inl ⟨wanted_none rfl, wp_val (run_move rfl (ev_tmp e11)) ⟨rfl, Below.refl _ _⟩⟩⟩
    · intro a' w' ha hs hw hold
      have e12 : a'.tmps[83]? = some (Value.bool true) := Rg.slot_get rfl rfl (hw 12 (by kernel_rfl) _ rfl)
      have eo9 : a'.tmps[9]? = some (ptr gk) := (ha.rest 9 (by kernel_rfl)).trans rfl
      exact ⟨rfl, .inl ⟨wanted_some rfl rfl rfl e12, wp_val (run_qload rfl (ev_tmp eo9) (QXk.out.bel hs (by simp))) ⟨rfl, Below.refl _ _⟩⟩⟩
    · intro a' w' ha hs hw hold
      have e12 : a'.tmps[83]? = some (Value.bool true) := Rg.slot_get rfl rfl (hw 12 (by kernel_rfl) _ rfl)
      have eo10 : a'.tmps[10]? = some (Value.int IntKind.i64 0) := (ha.rest 10 (by kernel_rfl)).trans rfl
      exact ⟨rfl, .inl ⟨wanted_some rfl rfl rfl e12, wp_val (run_move rfl (ev_tmp eo10)) ⟨rfl, Below.refl _ _⟩⟩⟩
    · intro a' w' ha hs hw hold
      have e12 : a'.tmps[83]? = some (Value.bool true) := Rg.slot_get rfl rfl (hw 12 (by kernel_rfl) _ rfl)
      have eo1 : a'.tmps[1]? = some (ptr ga) := (ha.rest 1 (by kernel_rfl)).trans rfl
      exact ⟨rfl, .inl ⟨wanted_some rfl rfl rfl e12, wp_val (run_qload rfl (ev_tmp eo1) (QXa.out.bel hs (by simp))) ⟨rfl, Below.refl _ _⟩⟩⟩
    · intro a' w' ha hs hw hold
      have e12 : a'.tmps[83]? = some (Value.bool true) := Rg.slot_get rfl rfl (hw 12 (by kernel_rfl) _ rfl)
      have e13 : a'.tmps[84]? = some (.agg #[.bool skn, .slice Xkn pkn qkn, .bool skd, .slice Xkd pkd qkd]) := Rg.slot_get rfl rfl (hw 13 (by kernel_rfl) _ rfl)
      have e14 : a'.tmps[85]? = some (Value.int IntKind.i64 0) := Rg.slot_get rfl rfl (hw 14 (by kernel_rfl) _ rfl)
      have e15 : a'.tmps[86]? = some (.agg #[.bool san, .slice Xan pan qan, .bool sad, .slice Xad pad qad]) := Rg.slot_get rfl rfl (hw 15 (by kernel_rfl) _ rfl)
      exact ⟨rfl, .inl ⟨wanted_some rfl rfl rfl e12, call_step rfl Tryz.func56 (by kernel_rfl) rfl (map_three (ev_tmp e13) (ev_tmp e14) (ev_tmp e15)) (is_ok _ _ qA qA true _ (QVk.out.kn hs.kn) (srA (by omega)) (QVa.out.kn hs.kn) (srA (by omega)) (decide_eq_true rfl)) (fun e w2 he => by obtain ⟨rfl, hb⟩ := he; exact ⟨_, rfl, rfl, hb⟩)⟩⟩
    · intro a' w' ha hs hw hold
      have e12 : a'.tmps[83]? = some (Value.bool true) := Rg.slot_get rfl rfl (hw 12 (by kernel_rfl) _ rfl)
      have e16 : a'.tmps[87]? = some (Value.bool true) := Rg.slot_get rfl rfl (hw 16 (by kernel_rfl) _ rfl)
      exact ⟨rfl, .inl ⟨wanted_none rfl, wp_val (run_pick (b := true) rfl (ev_tmp e12) (ev_tmp e16)) ⟨rfl, Below.refl _ _⟩⟩⟩
    · intro a' w' ha hs hw hold
      have e17 : a'.tmps[88]? = some (Value.bool true) := Rg.slot_get rfl rfl (hw 17 (by kernel_rfl) _ rfl)
      exact ⟨rfl, .inl ⟨wanted_none rfl, wp_val (run_move rfl (ev_tmp e17)) ⟨rfl, Below.refl _ _⟩⟩⟩
    · intro a' w' ha hs hw hold
      have e18 : a'.tmps[89]? = some (Value.bool true) := Rg.slot_get rfl rfl (hw 18 (by kernel_rfl) _ rfl)
      have eo11 : a'.tmps[11]? = some (ptr gl) := (ha.rest 11 (by kernel_rfl)).trans rfl
      exact ⟨rfl, .inl ⟨wanted_some rfl rfl rfl e18, wp_val (run_qload rfl (ev_tmp eo11) (QXl.out.bel hs (by simp))) ⟨rfl, Below.refl _ _⟩⟩⟩
    · intro a' w' ha hs hw hold
      have e18 : a'.tmps[89]? = some (Value.bool true) := Rg.slot_get rfl rfl (hw 18 (by kernel_rfl) _ rfl)
      have eo12 : a'.tmps[12]? = some (Value.int IntKind.i64 3) := (ha.rest 12 (by kernel_rfl)).trans rfl
      exact ⟨rfl, .inl ⟨wanted_some rfl rfl rfl e18, wp_val (run_move rfl (ev_tmp eo12)) ⟨rfl, Below.refl _ _⟩⟩⟩
    · intro a' w' ha hs hw hold
      have e18 : a'.tmps[89]? = some (Value.bool true) := Rg.slot_get rfl rfl (hw 18 (by kernel_rfl) _ rfl)
      have e19 : a'.tmps[90]? = some (.agg #[.bool sln, .slice Xln pln qln, .bool sld, .slice Xld pld qld]) := Rg.slot_get rfl rfl (hw 19 (by kernel_rfl) _ rfl)
      have e20 : a'.tmps[91]? = some (Value.int IntKind.i64 3) := Rg.slot_get rfl rfl (hw 20 (by kernel_rfl) _ rfl)
      exact ⟨rfl, .inl ⟨wanted_some rfl rfl rfl e18, call_step rfl Tryz.func49 (by kernel_rfl) rfl (map_three (ev_tmp e19) (ev_tmp e20) rfl) (fails_zero _ 3 _ (qv00 hzb0.out hzb1.out (QVl.out.kn hs.kn))) (fun e w2 he => by obtain ⟨rfl, hb⟩ := he; exact ⟨_, rfl, rfl, hb⟩)⟩⟩
    · intro a' w' ha hs hw hold
      have e18 : a'.tmps[89]? = some (Value.bool true) := Rg.slot_get rfl rfl (hw 18 (by kernel_rfl) _ rfl)
      have e21 : a'.tmps[92]? = some (Value.bool true) := Rg.slot_get rfl rfl (hw 21 (by kernel_rfl) _ rfl)
      exact ⟨rfl, .inl ⟨wanted_none rfl, wp_val (run_pick (b := true) rfl (ev_tmp e18) (ev_tmp e21)) ⟨rfl, Below.refl _ _⟩⟩⟩
    · intro a' w' ha hs hw hold
      have e22 : a'.tmps[93]? = some (Value.bool true) := Rg.slot_get rfl rfl (hw 22 (by kernel_rfl) _ rfl)
      exact ⟨rfl, .inl ⟨wanted_none rfl, wp_val (run_move rfl (ev_tmp e22)) ⟨rfl, Below.refl _ _⟩⟩⟩
    · intro a' w' ha hs hw hold
      have e23 : a'.tmps[94]? = some (Value.bool true) := Rg.slot_get rfl rfl (hw 23 (by kernel_rfl) _ rfl)
      have eo1 : a'.tmps[1]? = some (ptr ga) := (ha.rest 1 (by kernel_rfl)).trans rfl
      exact ⟨rfl, .inl ⟨wanted_some rfl rfl rfl e23, wp_val (run_qload rfl (ev_tmp eo1) (QXa.out.bel hs (by simp))) ⟨rfl, Below.refl _ _⟩⟩⟩
    · intro a' w' ha hs hw hold
      have e23 : a'.tmps[94]? = some (Value.bool true) := Rg.slot_get rfl rfl (hw 23 (by kernel_rfl) _ rfl)
      have e24 : a'.tmps[95]? = some (.agg #[.bool san, .slice Xan pan qan, .bool sad, .slice Xad pad qad]) := Rg.slot_get rfl rfl (hw 24 (by kernel_rfl) _ rfl)
      exact ⟨rfl, .inl ⟨wanted_some rfl rfl rfl e23, call_step rfl Tryz.func41 (by kernel_rfl) rfl (map_one (ev_tmp e24)) (ex_bits _ _ (QVa.out.kn hs.kn)) (fun e w2 he => by obtain ⟨rfl, hb⟩ := he; exact ⟨_, rfl, rfl, hb⟩)⟩⟩
    · intro a' w' ha hs hw hold
      have e23 : a'.tmps[94]? = some (Value.bool true) := Rg.slot_get rfl rfl (hw 23 (by kernel_rfl) _ rfl)
      have e25 : a'.tmps[96]? = some (Value.int IntKind.i64 4) := Rg.slot_get rfl rfl (hw 25 (by kernel_rfl) _ rfl)
      exact ⟨rfl, .inl ⟨wanted_some rfl rfl rfl e23, wp_val (show _ = _ from (run_eql_int rfl (ev_tmp e25) rfl).trans (by rfl)) ⟨rfl, Below.refl _ _⟩⟩⟩
    · intro a' w' ha hs hw hold
      have e23 : a'.tmps[94]? = some (Value.bool true) := Rg.slot_get rfl rfl (hw 23 (by kernel_rfl) _ rfl)
      have e26 : a'.tmps[97]? = some (Value.bool true) := Rg.slot_get rfl rfl (hw 26 (by kernel_rfl) _ rfl)
      exact ⟨rfl, .inl ⟨wanted_none rfl, wp_val (run_pick (b := true) rfl (ev_tmp e23) (ev_tmp e26)) ⟨rfl, Below.refl _ _⟩⟩⟩
    · intro a' w' ha hs hw hold
      have e27 : a'.tmps[98]? = some (Value.bool true) := Rg.slot_get rfl rfl (hw 27 (by kernel_rfl) _ rfl)
      exact ⟨rfl, .inl ⟨wanted_none rfl, wp_val (run_move rfl (ev_tmp e27)) ⟨rfl, Below.refl _ _⟩⟩⟩
    · intro a' w' ha hs hw hold
      have e28 : a'.tmps[99]? = some (Value.bool true) := Rg.slot_get rfl rfl (hw 28 (by kernel_rfl) _ rfl)
      have eo1 : a'.tmps[1]? = some (ptr ga) := (ha.rest 1 (by kernel_rfl)).trans rfl
      exact ⟨rfl, .inl ⟨wanted_some rfl rfl rfl e28, wp_val (run_qload rfl (ev_tmp eo1) (QXa.out.bel hs (by simp))) ⟨rfl, Below.refl _ _⟩⟩⟩
    · intro a' w' ha hs hw hold
      have e28 : a'.tmps[99]? = some (Value.bool true) := Rg.slot_get rfl rfl (hw 28 (by kernel_rfl) _ rfl)
      have e29 : a'.tmps[100]? = some (.agg #[.bool san, .slice Xan pan qan, .bool sad, .slice Xad pad qad]) := Rg.slot_get rfl rfl (hw 29 (by kernel_rfl) _ rfl)
      exact ⟨rfl, .inl ⟨wanted_some rfl rfl rfl e28, call_step rfl Tryz.func37 (by kernel_rfl) rfl (map_one (ev_tmp e29)) (ex_sign _ _ (QVa.out.kn hs.kn)) (fun e w2 he => by obtain ⟨rfl, hb⟩ := he; exact ⟨_, rfl, rfl, hb⟩)⟩⟩
    · intro a' w' ha hs hw hold
      have e28 : a'.tmps[99]? = some (Value.bool true) := Rg.slot_get rfl rfl (hw 28 (by kernel_rfl) _ rfl)
      have e30 : a'.tmps[101]? = some (Value.int IntKind.i64 (-1)) := Rg.slot_get rfl rfl (hw 30 (by kernel_rfl) _ rfl)
      exact ⟨rfl, .inl ⟨wanted_some rfl rfl rfl e28, wp_val (show _ = _ from (run_eql_int rfl (ev_tmp e30) rfl).trans (by rfl)) ⟨rfl, Below.refl _ _⟩⟩⟩
    · intro a' w' ha hs hw hold
      have e28 : a'.tmps[99]? = some (Value.bool true) := Rg.slot_get rfl rfl (hw 28 (by kernel_rfl) _ rfl)
      have e31 : a'.tmps[102]? = some (Value.bool true) := Rg.slot_get rfl rfl (hw 31 (by kernel_rfl) _ rfl)
      exact ⟨rfl, .inl ⟨wanted_none rfl, wp_val (run_pick (b := true) rfl (ev_tmp e28) (ev_tmp e31)) ⟨rfl, Below.refl _ _⟩⟩⟩
    · intro a' w' ha hs hw hold
      have e32 : a'.tmps[103]? = some (Value.bool true) := Rg.slot_get rfl rfl (hw 32 (by kernel_rfl) _ rfl)
      exact ⟨rfl, .inl ⟨wanted_none rfl, wp_val (run_assign rfl (ev_tmp e32)) ⟨rfl, Below.refl _ _⟩⟩⟩
  simp only [Rg.allG]
  intro r18x3 _
  intro r18x9 _
  simp only [setOpt, Rg.setOpt, List.set_cons_succ, List.set_cons_zero]
  refine hK _ _ ?_
  clear hK K
  replace hs := hs.below
  replace QXa := nxq QXa hs rfl; replace IVna := nxv IVna hs rfl; replace IVda := nxv IVda hs rfl
  replace QXb := nxq QXb hs rfl; replace IVnb := nxv IVnb hs rfl; replace IVdb := nxv IVdb hs rfl
  replace QXc := nxq QXc hs rfl; replace IVnc := nxv IVnc hs rfl; replace IVdc := nxv IVdc hs rfl
  replace QXd := nxq QXd hs rfl; replace IVnd := nxv IVnd hs rfl; replace IVdd := nxv IVdd hs rfl
  replace QXk := nxq QXk hs rfl; replace IVnk := nxv IVnk hs rfl; replace IVdk := nxv IVdk hs rfl
  replace QXl := nxq QXl hs rfl; replace IVnl := nxv IVnl hs rfl; replace IVdl := nxv IVdl hs rfl
  replace KXh := Lib.hid (KXh.out.next hs rfl)
  replace DW := nxd DW hg hs rfl rfl rfl rfl
  clear hs
  go_wp2
  go_ret
  exact ⟨rfl, by rw [hg.out]; exact DW.out⟩
end Go.Proofs.YtfigimfdojbkeaaGreat
