/-
  The law IntegerTexts: the walk.
-/
import Derived.Test.YtloiabkopacfgaaTextQ
import Derived.Deep.DeepCutAuto
import Derived.Handy
import Derived.Deep.QuietTactic
import Derived.BigQuiet
namespace Go.Proofs.Ytloiabkopacfgaa
open Go.RowKit
attribute [local go_sem ↓] Go.wp_at_zero Go.wp_at_succ

set_option maxHeartbeats 16000000 in
set_option maxRecDepth 100000 in
theorem lawTextsE_any (b0 : Bool) (A0 : Option Addr) (n0 c0 : Nat) (ws0 : List Nat) (b1 : Bool) (A1 : Option Addr) (n1 c1 : Nat) (ws1 : List Nat) (put : ByteArray) (w : World) (h0 : Wd w A0 n0 ws0) (m0 : n0 ≤ 9223372036854775807) (h1 : Wd w A1 n1 ws1) (m1 : n1 ≤ 9223372036854775807) (hp : put.size ≤ 6) (hx0 : sgn b0 (val (ws0.take 12)) = sgn b1 (val (ws1.take 12))) :
    Calls Try.prog 10 #[.agg #[.bool b0, .slice A0 n0 c0], .agg #[.bool b1, .slice A1 n1 c1], .string put] w fun e w' => e = .returned (.bool true) ∧ Below w.heap.size w w' := by
  obtain ⟨za, hza⟩ : ∃ z, z = sgn b0 (val (ws0.take 12)) := ⟨_, rfl⟩
  have SZa : Hid (Sz za 12) := by rw [hza]; exact sz_take _ _ _ h0.wds
  obtain ⟨zb, hzb⟩ : ∃ z, z = sgn b1 (val (ws1.take 12)) := ⟨_, rfl⟩
  have SZb : Hid (Sz zb 12) := by rw [hzb]; exact sz_take _ _ _ h1.wds
  rw [← hza, ← hzb] at hx0
  have HX := Lib.hid hx0
  clear hx0
  go_enter Try.func10, Try.ntmps10
  go_wp2_with fail
  obtain ⟨W, hW⟩ : ∃ W, W = ((w.alloc (Obj.cells #[Value.bool b0, Value.slice A0 n0 c0] 24)).alloc (Obj.cells #[Value.bool b1, Value.slice A1 n1 c1] 24)) := ⟨_, rfl⟩
  rw [← hW]
  have RX0 : Hid (RBox W (w.heap.size) b0 (.slice A0 n0 c0)) := by rw [hW]; have := (RBox.new w b0 (.slice A0 n0 c0)).alloc (Obj.cells #[Value.bool b1, Value.slice A1 n1 c1] 24); simpa [Hid] using this
  have RW0 : Hid (Wd W A0 n0 ws0) := by rw [hW]; exact ((h0).alloc _).alloc _
  have RX1 : Hid (RBox W (w.heap.size + 1) b1 (.slice A1 n1 c1)) := by rw [hW]; have := RBox.new (w.alloc (Obj.cells #[Value.bool b0, Value.slice A0 n0 c0] 24)) b1 (.slice A1 n1 c1); simpa [Hid] using this
  have RW1 : Hid (Wd W A1 n1 ws1) := by rw [hW]; exact ((h1).alloc _).alloc _
  have DW : Hid (Below w.heap.size w W) := by rw [hW]; exact ((Below.refl _ _).alloc (by simp <;> omega) _).alloc (by simp <;> omega) _
  clear hW h0 h1
  generalize hg : w.heap.size = g at *
  refine (sanity_any _).mono ?_
  rintro e w1 ⟨rfl, hb1⟩
  replace RX0 := Lib.hid (RX0.out.next hb1 rfl); replace RW0 := Lib.hid (RW0.out.next hb1 rfl)
  replace RX1 := Lib.hid (RX1.out.next hb1 rfl); replace RW1 := Lib.hid (RW1.out.next hb1 rfl)
  replace DW := Lib.hid (link_below DW.out hb1 (by have := DW.out.size; omega) rfl rfl rfl rfl)
  clear hb1
  have hp6 : decide ((6 : Int) < (put.size : Int)) = false := by simp; omega
  have u1 := RX0.out.cell0; have u2 := RX0.out.cell1
  go_wp2_with fail
  clear u1 u2
  refine (rmade_raw b0 A0 n0 c0 12 12 ws0 _ RW0.out rfl (by omega) m0).mono ?_
  rw [← hza]
  rintro e y1 ⟨_, rfl, hq, hb⟩
  clear RX0 RW0
  obtain ⟨Xa, pa, qa, rfl, _, _, _⟩ := hq.form
  have Q := Lib.hid hq; have B := Lib.hid hb; clear hq hb
  generalize hs : decide ((za : Int) < 0) = sa at *
  clear hs
  go_upto_region 7 with fail
  obtain ⟨W2, hW⟩ : ∃ W2, W2 = y1.alloc (Obj.cells #[Value.bool sa, Value.slice Xa pa qa] 27) := ⟨_, rfl⟩
  rw [← hW]
  have BXa : Hid (Box W2 y1.heap.size sa (.slice Xa pa qa)) := by rw [hW]; exact Box.new _ _ _
  have IVa : Hid (Iv W2 (.agg #[.bool sa, .slice Xa pa qa]) (za)) := by rw [hW]; exact Q.out.alloc _
  have hd : Below w1.heap.size w1 W2 := by rw [hW]; exact B.out.alloc B.out.size _
  clear hW Q B
  generalize hgn : y1.heap.size = ga at *
  clear hgn
  replace RX1 := Lib.hid (RX1.out.next hd rfl); replace RW1 := Lib.hid (RW1.out.next hd rfl)
  replace DW := Lib.hid (link_below DW.out hd (by have := DW.out.size; omega) rfl rfl rfl rfl)
  clear hd
  have u1 := RX1.out.cell0; have u2 := RX1.out.cell1
  go_wp2_with fail
  clear u1 u2
  refine (rmade_raw b1 A1 n1 c1 12 12 ws1 _ RW1.out rfl (by omega) m1).mono ?_
  rw [← hzb]
  rintro e y3 ⟨_, rfl, hq, hb⟩
  obtain ⟨Xb, pb, qb, rfl, _, _, _⟩ := hq.form
  have Q := Lib.hid hq; have B := Lib.hid hb; clear hq hb
  generalize hs : decide ((zb : Int) < 0) = sb at *
  clear hs
  go_upto_region 8 with fail
  obtain ⟨W4, hW⟩ : ∃ W4, W4 = y3.alloc (Obj.cells #[Value.bool sb, Value.slice Xb pb qb] 27) := ⟨_, rfl⟩
  rw [← hW]
  have BXb : Hid (Box W4 y3.heap.size sb (.slice Xb pb qb)) := by rw [hW]; exact Box.new _ _ _
  have IVb : Hid (Iv W4 (.agg #[.bool sb, .slice Xb pb qb]) (zb)) := by rw [hW]; exact Q.out.alloc _
  have hd : Below W2.heap.size W2 W4 := by rw [hW]; exact B.out.alloc B.out.size _
  clear hW Q B
  generalize hgn : y3.heap.size = gb at *
  clear hgn
  replace BXa := Lib.hid (BXa.out.next hd rfl); replace IVa := Lib.hid (iv_next IVa.out hd rfl)
  replace RX1 := Lib.hid (RX1.out.next hd rfl); replace RW1 := Lib.hid (RW1.out.next hd rfl)
  replace DW := Lib.hid (link_below DW.out hd (by have := DW.out.size; omega) rfl rfl rfl rfl)
  clear hd
  clear hza hzb
  have w50a := BXa.out.cell0; have w50b := BXa.out.cell1
  go_wp2_with fail
  clear w50a w50b
  refine (text_is _ za _ IVa.out (SZa.out.mono (by omega))).mono ?_
  rintro e yt ⟨rfl, hb⟩
  replace BXa := Lib.hid (BXa.out.next hb rfl); replace IVa := Lib.hid (iv_next IVa.out hb rfl)
  replace BXb := Lib.hid (BXb.out.next hb rfl); replace IVb := Lib.hid (iv_next IVb.out hb rfl)
  replace RX1 := Lib.hid (RX1.out.next hb rfl); replace RW1 := Lib.hid (RW1.out.next hb rfl)
  replace DW := Lib.hid (link_below DW.out hb (by have := DW.out.size; omega) rfl rfl rfl rfl)
  clear hb
  have TS := Lib.hid (txs_size SZa.out)
  go_wp2_with fail
  refine (parse_text za _ (SZa.out.mono (by omega))).mono ?_
  rintro e yp ⟨_, rfl, hq, hb⟩
  have SZc : Hid (Sz za 12) := SZa
  obtain ⟨Xc, pc, qc, rfl, _, _, _⟩ := hq.form
  have Q := Lib.hid hq; have B := Lib.hid hb; clear hq hb
  generalize hs : decide ((za : Int) < 0) = sc at *
  clear hs
  go_upto_region 10 with fail
  obtain ⟨W6, hW⟩ : ∃ W6, W6 = yp.alloc (Obj.cells #[Value.bool sc, Value.slice Xc pc qc] 27) := ⟨_, rfl⟩
  rw [← hW]
  have BXc : Hid (Box W6 yp.heap.size sc (.slice Xc pc qc)) := by rw [hW]; exact Box.new _ _ _
  have IVc : Hid (Iv W6 (.agg #[.bool sc, .slice Xc pc qc]) (za)) := by rw [hW]; exact Q.out.alloc _
  have hd : Below yt.heap.size yt W6 := by rw [hW]; exact B.out.alloc B.out.size _
  clear hW Q B
  generalize hgn : yp.heap.size = gc at *
  clear hgn
  replace BXa := Lib.hid (BXa.out.next hd rfl); replace IVa := Lib.hid (iv_next IVa.out hd rfl)
  replace BXb := Lib.hid (BXb.out.next hd rfl); replace IVb := Lib.hid (iv_next IVb.out hd rfl)
  replace RX1 := Lib.hid (RX1.out.next hd rfl); replace RW1 := Lib.hid (RW1.out.next hd rfl)
  replace DW := Lib.hid (link_below DW.out hd (by have := DW.out.size; omega) rfl rfl rfl rfl)
  clear hd
  refine region_go W6 [.is (Value.int IntKind.i64 0), .is (Value.bool false), .is (Value.bool false), .is (.agg #[.bool sc, .slice Xc pc qc]), .is (.agg #[.bool sa, .slice Xa pa qa]), .is (Value.bool true), .is (Value.bool false), .is (Value.bool false), .is (Value.bool false), .is (.agg #[.bool sb, .slice Xb pb qb]), .is (.string (txs zb)), .is (.string (txs za)), .is (Value.bool true), .is (.agg #[.bool sa, .slice Xa pa qa]), .is (.agg #[.bool sb, .slice Xb pb qb]), .is (Value.bool true), .is (Value.bool false), .is (Value.bool false)] [some 36, some 37, some 38, some 39, some 40, some 41, some 42, some 43, some 44, some 45, some 46, some 47, some 48, some 49, some 50, some 51, some 52, some 53] (by kernel_rfl) (by kernel_rfl) (by kernel_rfl) (by kernel_rfl) (by kernel_rfl) (by rfl) (by kernel_rfl) ((Below.refl _ _).drew) (fun Q' => ?_) (fun K hK wn hs => ?_)
  · refine ⟨?_, ?_, ?_, ?_, ?_, ?_, ?_, ?_, ?_, ?_, ?_, ?_, ?_, ?_, ?_, ?_, ?_, ?_, trivial⟩
    · intro a' w' ha hs hw
      have eo12 : a'.tmps[12]? = some (Value.int IntKind.i64 0) := (ha.rest 12 (by kernel_rfl)).trans rfl
      exact ⟨wanted_none rfl, rfl, wp_val (run_move rfl (ev_tmp eo12)) ⟨rfl, Below.refl _ _⟩⟩
    · intro a' w' ha hs hw
      have e0 : a'.tmps[36]? = some (Value.int IntKind.i64 0) := slot_get rfl rfl (hw 0 (by kernel_rfl) _ rfl)
      exact ⟨wanted_none rfl, rfl, wp_val (show _ = _ from (run_neq_int rfl (ev_tmp e0) rfl).trans (by rfl)) ⟨rfl, Below.refl _ _⟩⟩
    · intro a' w' ha hs hw
      have e1 : a'.tmps[37]? = some (Value.bool false) := slot_get rfl rfl (hw 1 (by kernel_rfl) _ rfl)
      exact ⟨wanted_none rfl, rfl, wp_val (run_move rfl (ev_tmp e1)) ⟨rfl, Below.refl _ _⟩⟩
    · intro a' w' ha hs hw
      have e2 : a'.tmps[38]? = some (Value.bool false) := slot_get rfl rfl (hw 2 (by kernel_rfl) _ rfl)
      have eo11 : a'.tmps[11]? = some (ptr gc) := (ha.rest 11 (by kernel_rfl)).trans rfl
      exact ⟨wanted_some rfl rfl rfl e2, rfl, wp_val (run_load rfl (ev_tmp eo11) (BXc.out.next hs rfl)) ⟨rfl, Below.refl _ _⟩⟩
    · intro a' w' ha hs hw
      have e2 : a'.tmps[38]? = some (Value.bool false) := slot_get rfl rfl (hw 2 (by kernel_rfl) _ rfl)
      have eo8 : a'.tmps[8]? = some (ptr ga) := (ha.rest 8 (by kernel_rfl)).trans rfl
      exact ⟨wanted_some rfl rfl rfl e2, rfl, wp_val (run_load rfl (ev_tmp eo8) (BXa.out.next hs rfl)) ⟨rfl, Below.refl _ _⟩⟩
    · intro a' w' ha hs hw
      have e2 : a'.tmps[38]? = some (Value.bool false) := slot_get rfl rfl (hw 2 (by kernel_rfl) _ rfl)
      have e3 : a'.tmps[39]? = some (.agg #[.bool sc, .slice Xc pc qc]) := slot_get rfl rfl (hw 3 (by kernel_rfl) _ rfl)
      have e4 : a'.tmps[40]? = some (.agg #[.bool sa, .slice Xa pa qa]) := slot_get rfl rfl (hw 4 (by kernel_rfl) _ rfl)
      exact ⟨wanted_some rfl rfl rfl e2, rfl, call_step rfl Try.func19 (by kernel_rfl) rfl (map_two (ev_tmp e3) (ev_tmp e4)) (same_true _ _ (za) (za) _ (iv_next IVc.out hs rfl) (iv_next IVa.out hs rfl) (SZc.out.mono (by omega)) (rfl)) (fun e w2 he => by obtain ⟨rfl, hb⟩ := he; exact ⟨_, rfl, rfl, hb⟩)⟩
    · intro a' w' ha hs hw
      have e2 : a'.tmps[38]? = some (Value.bool false) := slot_get rfl rfl (hw 2 (by kernel_rfl) _ rfl)
      have e5 : a'.tmps[41]? = some (Value.bool true) := slot_get rfl rfl (hw 5 (by kernel_rfl) _ rfl)
      exact ⟨wanted_some rfl rfl rfl e2, rfl, wp_val (run_not rfl (ev_tmp e5)) ⟨rfl, Below.refl _ _⟩⟩
    · intro a' w' ha hs hw
      have e2 : a'.tmps[38]? = some (Value.bool false) := slot_get rfl rfl (hw 2 (by kernel_rfl) _ rfl)
      have e6 : a'.tmps[42]? = some (Value.bool false) := slot_get rfl rfl (hw 6 (by kernel_rfl) _ rfl)
      exact ⟨wanted_none rfl, rfl, wp_val (run_pick (b := false) rfl (ev_tmp e2) (ev_tmp e6)) ⟨rfl, Below.refl _ _⟩⟩
    · intro a' w' ha hs hw
      have e7 : a'.tmps[43]? = some (Value.bool false) := slot_get rfl rfl (hw 7 (by kernel_rfl) _ rfl)
      exact ⟨wanted_none rfl, rfl, wp_val (run_move rfl (ev_tmp e7)) ⟨rfl, Below.refl _ _⟩⟩
    · intro a' w' ha hs hw
      have e8 : a'.tmps[44]? = some (Value.bool false) := slot_get rfl rfl (hw 8 (by kernel_rfl) _ rfl)
      have eo9 : a'.tmps[9]? = some (ptr gb) := (ha.rest 9 (by kernel_rfl)).trans rfl
      exact ⟨wanted_some rfl rfl rfl e8, rfl, wp_val (run_load rfl (ev_tmp eo9) (BXb.out.next hs rfl)) ⟨rfl, Below.refl _ _⟩⟩
    · intro a' w' ha hs hw
      have e8 : a'.tmps[44]? = some (Value.bool false) := slot_get rfl rfl (hw 8 (by kernel_rfl) _ rfl)
      have e9 : a'.tmps[45]? = some (.agg #[.bool sb, .slice Xb pb qb]) := slot_get rfl rfl (hw 9 (by kernel_rfl) _ rfl)
      exact ⟨wanted_some rfl rfl rfl e8, rfl, call_step rfl Try.func44 (by kernel_rfl) rfl (map_one (ev_tmp e9)) (text_is _ zb _ (iv_next IVb.out hs rfl) (SZb.out.mono (by omega))) (fun e w2 he => by obtain ⟨rfl, hb⟩ := he; exact ⟨_, rfl, rfl, hb⟩)⟩
    · intro a' w' ha hs hw
      have e8 : a'.tmps[44]? = some (Value.bool false) := slot_get rfl rfl (hw 8 (by kernel_rfl) _ rfl)
      have eo10 : a'.tmps[10]? = some (.string (txs za)) := (ha.rest 10 (by kernel_rfl)).trans rfl
      exact ⟨wanted_some rfl rfl rfl e8, rfl, wp_val (run_move rfl (ev_tmp eo10)) ⟨rfl, Below.refl _ _⟩⟩
    · intro a' w' ha hs hw
      have e8 : a'.tmps[44]? = some (Value.bool false) := slot_get rfl rfl (hw 8 (by kernel_rfl) _ rfl)
      have e10 : a'.tmps[46]? = some (.string (txs zb)) := slot_get rfl rfl (hw 10 (by kernel_rfl) _ rfl)
      have e11 : a'.tmps[47]? = some (.string (txs za)) := slot_get rfl rfl (hw 11 (by kernel_rfl) _ rfl)
      exact ⟨wanted_some rfl rfl rfl e8, rfl, wp_val ((run_eql_str rfl (ev_tmp e10) (ev_tmp e11)).trans (by rw [show ((txs zb).toList == (txs za).toList) = true from by rw [HX.out]; simp])) ⟨rfl, Below.refl _ _⟩⟩
    · intro a' w' ha hs hw
      have e8 : a'.tmps[44]? = some (Value.bool false) := slot_get rfl rfl (hw 8 (by kernel_rfl) _ rfl)
      have eo8 : a'.tmps[8]? = some (ptr ga) := (ha.rest 8 (by kernel_rfl)).trans rfl
      exact ⟨wanted_some rfl rfl rfl e8, rfl, wp_val (run_load rfl (ev_tmp eo8) (BXa.out.next hs rfl)) ⟨rfl, Below.refl _ _⟩⟩
    · intro a' w' ha hs hw
      have e8 : a'.tmps[44]? = some (Value.bool false) := slot_get rfl rfl (hw 8 (by kernel_rfl) _ rfl)
      have eo9 : a'.tmps[9]? = some (ptr gb) := (ha.rest 9 (by kernel_rfl)).trans rfl
      exact ⟨wanted_some rfl rfl rfl e8, rfl, wp_val (run_load rfl (ev_tmp eo9) (BXb.out.next hs rfl)) ⟨rfl, Below.refl _ _⟩⟩
    · intro a' w' ha hs hw
      have e8 : a'.tmps[44]? = some (Value.bool false) := slot_get rfl rfl (hw 8 (by kernel_rfl) _ rfl)
      have e13 : a'.tmps[49]? = some (.agg #[.bool sa, .slice Xa pa qa]) := slot_get rfl rfl (hw 13 (by kernel_rfl) _ rfl)
      have e14 : a'.tmps[50]? = some (.agg #[.bool sb, .slice Xb pb qb]) := slot_get rfl rfl (hw 14 (by kernel_rfl) _ rfl)
      exact ⟨wanted_some rfl rfl rfl e8, rfl, call_step rfl Try.func19 (by kernel_rfl) rfl (map_two (ev_tmp e13) (ev_tmp e14)) (same_true _ _ za zb _ (iv_next IVa.out hs rfl) (iv_next IVb.out hs rfl) (SZa.out.mono (by omega)) HX.out) (fun e w2 he => by obtain ⟨rfl, hb⟩ := he; exact ⟨_, rfl, rfl, hb⟩)⟩
    · intro a' w' ha hs hw
      have e8 : a'.tmps[44]? = some (Value.bool false) := slot_get rfl rfl (hw 8 (by kernel_rfl) _ rfl)
      have e12 : a'.tmps[48]? = some (Value.bool true) := slot_get rfl rfl (hw 12 (by kernel_rfl) _ rfl)
      have e15 : a'.tmps[51]? = some (Value.bool true) := slot_get rfl rfl (hw 15 (by kernel_rfl) _ rfl)
      exact ⟨wanted_some rfl rfl rfl e8, rfl, wp_val ((run_neq_bool rfl (ev_tmp e12) (ev_tmp e15)).trans (by rfl)) ⟨rfl, Below.refl _ _⟩⟩
    · intro a' w' ha hs hw
      have e8 : a'.tmps[44]? = some (Value.bool false) := slot_get rfl rfl (hw 8 (by kernel_rfl) _ rfl)
      have e16 : a'.tmps[52]? = some (Value.bool false) := slot_get rfl rfl (hw 16 (by kernel_rfl) _ rfl)
      exact ⟨wanted_none rfl, rfl, wp_val (run_pick (b := false) rfl (ev_tmp e8) (ev_tmp e16)) ⟨rfl, Below.refl _ _⟩⟩
  simp only [allQ]
  simp only [setOpt, List.set_cons_succ, List.set_cons_zero, ptr]
  refine hK _ _ ?_
  clear hK K
  replace BXa := Lib.hid (BXa.out.next hs rfl); replace IVa := Lib.hid (iv_next IVa.out hs rfl)
  replace BXb := Lib.hid (BXb.out.next hs rfl); replace IVb := Lib.hid (iv_next IVb.out hs rfl)
  replace BXc := Lib.hid (BXc.out.next hs rfl); replace IVc := Lib.hid (iv_next IVc.out hs rfl)
  replace RX1 := Lib.hid (RX1.out.next hs rfl); replace RW1 := Lib.hid (RW1.out.next hs rfl)
  replace DW := Lib.hid (link_below DW.out hs (by have := DW.out.size; omega) rfl rfl rfl rfl)
  clear hs
  go_upto_region 14 with fail
  have hn1 : n1 ≤ 9223372036854775807 := m1
  have hLL : (txs za).size ≤ 122 := TS.out
  have v0 := RX1.out.cell0; have v1 := RX1.out.cell1
  go_upto_if 57 with fail
  clear v0 v1
  go_cut [13, 14] (fun s13 s14 wx => ∃ at_ cut : Nat, s13 = .int .i64 at_ ∧ s14 = .int .i64 cut ∧ at_ ≤ (txs za).size ∧ cut ≤ 4 ∧ wx = wn)
  case first =>
    have v0 := RX1.out.cell0; have v1 := RX1.out.cell1
    by_cases hn : 0 < n1
    · obtain ⟨bb, oo, rfl, hlt0, hcs⟩ := RW1.out.cells hn
      have hcell := hcs 0 hn
      rw [Nat.add_zero] at hcell
      have hyb := RW1.out.wds.getD 0
      clear hcs
      generalize gd ws1 0 = yy at *
      have hnn : (0 : Int) < (n1 : Int) := by omega
      have hL1 : (0 : Int) ≤ ((txs za).size : Int) := by omega
      have hL2 : ((txs za).size : Int) ≤ 122 := by omega
      have ht5 : (yy : Int).tmod 5 = ((yy % 5 : Nat) : Int) := by rw [Int.tmod_eq_emod_of_nonneg (by omega)]; omega
      have hm5 : yy % 5 ≤ 4 := by omega
      generalize hLn : (txs za).size = LN at *
      have htL : (yy : Int).tmod ((LN : Int) + 1) = ((yy % (LN + 1) : Nat) : Int) := by rw [Int.tmod_eq_emod_of_nonneg (by omega)]; simp
      have hmL : yy % (LN + 1) ≤ LN := by have := Nat.mod_lt yy (show 0 < LN + 1 by omega); omega
      have hdz : ((LN : Int) + 1 == 0) = false := by simp; omega
      go_wp2_with fail
      go_meet
      have e1 : (yy : Int) % ((LN : Int) + 1) = ((yy % (LN + 1) : Nat) : Int) := by simp
      have e2 : (yy : Int) % 5 = ((yy % 5 : Nat) : Int) := by omega
      refine ⟨yy % (LN + 1), yy % 5, ?_, by rw [e2], hmL, hm5, rfl⟩
      rw [e1]
      congr 1
      unfold wrap64
      omega
    · have hnn : decide ((0 : Int) < (n1 : Int)) = false := by simp; omega
      go_wp2_with fail
      go_meet
      exact ⟨0, 0, by simp, by simp, by omega, by omega, rfl⟩
  case rest =>
    obtain ⟨at_, cut, rfl, rfl, hat, hct, rfl⟩ := hcut
    obtain ⟨V, hVV⟩ : ∃ V, V = wc := ⟨_, rfl⟩
    subst hVV
    go_upto_region 17 with fail
    obtain ⟨mm, hmm, hmm2⟩ : ∃ mm : Nat, min ((at_ : Int) + (cut : Int)) ((txs za).size : Int) = (mm : Int) ∧ mm ≤ (txs za).size := ⟨min (at_ + cut) (txs za).size, by omega, by omega⟩
    have hs1 : (0 : Int) ≤ (at_ : Int) := by omega
    have hs2 : (at_ : Int) ≤ ((txs za).size : Int) := by omega
    have hs3 : (0 : Int) ≤ (mm : Int) := by omega
    have hs4 : (mm : Int) ≤ ((txs za).size : Int) := by omega
    go_cut [15] (fun s15 wx => ∃ odd : ByteArray, s15 = .string odd ∧ odd.size ≤ 4000 ∧ Below V.heap.size V wx)
    case first =>
      go_quiet (fail)
      go_wp2_with fail
      all_goals
        go_meet
        refine ⟨_, rfl, ?_, ⟨rfl, rfl, rfl, Nat.le_refl _, fun _ _ => rfl⟩⟩
        simp only [ByteArray.size_append, ByteArray.size_extract]
        omega
    case rest =>
      obtain ⟨odd, rfl, hodd, hbo⟩ := hcut
      clear hmm hs1 hs2 hs3 hs4 hat hct hmm2
      replace BXa := Lib.hid (BXa.out.next hbo rfl); replace IVa := Lib.hid (iv_next IVa.out hbo rfl)
      replace BXb := Lib.hid (BXb.out.next hbo rfl); replace IVb := Lib.hid (iv_next IVb.out hbo rfl)
      replace BXc := Lib.hid (BXc.out.next hbo rfl); replace IVc := Lib.hid (iv_next IVc.out hbo rfl)
      replace DW := Lib.hid (link_below DW.out hbo (by have := DW.out.size; omega) rfl rfl rfl rfl)
      clear hbo RX1 RW1
      by_cases hpk : pok odd.data.toList
      · obtain ⟨zd, hzd⟩ : ∃ z, z = pval odd.data.toList := ⟨_, rfl⟩
        have SZd : Hid (Sz zd 4000) := by rw [hzd]; exact pval_sz hodd hpk
        have TB : Hid (txs zd = odd) := by rw [hzd]; exact txs_back hpk
        have PK := Lib.hid (parse_ok odd wc hodd hpk)
        rw [← hzd] at PK
        clear hzd hpk
        go_wp2_with fail
        refine PK.out.mono ?_
        clear PK
        rintro e yd ⟨_, rfl, hq, hb⟩
        obtain ⟨Xd, pd, qd, rfl, _, _, _⟩ := hq.form
        have Q := Lib.hid hq; have B := Lib.hid hb; clear hq hb
        generalize hs : decide ((zd : Int) < 0) = sd at *
        clear hs
        go_upto_region 19 with fail
        obtain ⟨W9, hW⟩ : ∃ W9, W9 = yd.alloc (Obj.cells #[Value.bool sd, Value.slice Xd pd qd] 27) := ⟨_, rfl⟩
        rw [← hW]
        have BXd : Hid (Box W9 yd.heap.size sd (.slice Xd pd qd)) := by rw [hW]; exact Box.new _ _ _
        have IVd : Hid (Iv W9 (.agg #[.bool sd, .slice Xd pd qd]) (zd)) := by rw [hW]; exact Q.out.alloc _
        have hd : Below wc.heap.size wc W9 := by rw [hW]; exact B.out.alloc B.out.size _
        clear hW Q B
        generalize hgn : yd.heap.size = gd at *
        clear hgn
        replace BXa := Lib.hid (BXa.out.next hd rfl); replace IVa := Lib.hid (iv_next IVa.out hd rfl)
        replace BXb := Lib.hid (BXb.out.next hd rfl); replace IVb := Lib.hid (iv_next IVb.out hd rfl)
        replace BXc := Lib.hid (BXc.out.next hd rfl); replace IVc := Lib.hid (iv_next IVc.out hd rfl)
        replace DW := Lib.hid (link_below DW.out hd (by have := DW.out.size; omega) rfl rfl rfl rfl)
        clear hd
        have w100a := BXd.out.cell0; have w100b := BXd.out.cell1
        go_wp2_with fail
        clear w100a w100b
        refine (rvalid_any _ zd _ IVd.out (SZd.out.mono (by omega))).mono ?_
        rintro e yv ⟨rfl, hb⟩
        replace BXa := Lib.hid (BXa.out.next hb rfl); replace IVa := Lib.hid (iv_next IVa.out hb rfl)
        replace BXb := Lib.hid (BXb.out.next hb rfl); replace IVb := Lib.hid (iv_next IVb.out hb rfl)
        replace BXc := Lib.hid (BXc.out.next hb rfl); replace IVc := Lib.hid (iv_next IVc.out hb rfl)
        replace BXd := Lib.hid (BXd.out.next hb rfl); replace IVd := Lib.hid (iv_next IVd.out hb rfl)
        replace DW := Lib.hid (link_below DW.out hb (by have := DW.out.size; omega) rfl rfl rfl rfl)
        clear hb
        have w110a := BXd.out.cell0; have w110b := BXd.out.cell1
        go_wp2_with fail
        clear w110a w110b
        refine (text_is _ zd _ IVd.out (SZd.out.mono (by omega))).mono ?_
        rw [TB.out]
        rintro e yu ⟨rfl, hb⟩
        replace BXa := Lib.hid (BXa.out.next hb rfl); replace IVa := Lib.hid (iv_next IVa.out hb rfl)
        replace BXb := Lib.hid (BXb.out.next hb rfl); replace IVb := Lib.hid (iv_next IVb.out hb rfl)
        replace BXc := Lib.hid (BXc.out.next hb rfl); replace IVc := Lib.hid (iv_next IVc.out hb rfl)
        replace BXd := Lib.hid (BXd.out.next hb rfl); replace IVd := Lib.hid (iv_next IVd.out hb rfl)
        replace DW := Lib.hid (link_below DW.out hb (by have := DW.out.size; omega) rfl rfl rfl rfl)
        clear hb
        go_wp2
        go_ret
        exact ⟨by simp, by rw [hg]; exact DW.out⟩
      · have hne : (odd.toList == (txs za).toList) = false := odd_ne hpk
        have PK := Lib.hid (parse_no odd wc hodd hpk)
        clear hpk
        go_wp2_with fail
        refine PK.out.mono ?_
        clear PK
        rintro e yd ⟨_, rfl, hq, hb⟩
        obtain ⟨Xd, pd, qd, rfl, _, _, _⟩ := hq.form
        have Q := Lib.hid hq; have B := Lib.hid hb; clear hq hb
        generalize hs : decide (((0 : Int) : Int) < 0) = sd at *
        obtain rfl : sd = false := by rw [← hs]; simp only [decide_eq_false_iff_not, Int.not_lt]; exact Int.le_refl 0
        clear hs
        go_upto_region 19 with fail
        obtain ⟨W12, hW⟩ : ∃ W12, W12 = yd.alloc (Obj.cells #[Value.bool false, Value.slice Xd pd qd] 27) := ⟨_, rfl⟩
        rw [← hW]
        have BXd : Hid (Box W12 yd.heap.size false (.slice Xd pd qd)) := by rw [hW]; exact Box.new _ _ _
        have IVd : Hid (Iv W12 (.agg #[.bool false, .slice Xd pd qd]) ((0 : Int))) := by rw [hW]; exact Q.out.alloc _
        have hd : Below wc.heap.size wc W12 := by rw [hW]; exact B.out.alloc B.out.size _
        clear hW Q B
        generalize hgn : yd.heap.size = gd at *
        clear hgn
        replace BXa := Lib.hid (BXa.out.next hd rfl); replace IVa := Lib.hid (iv_next IVa.out hd rfl)
        replace BXb := Lib.hid (BXb.out.next hd rfl); replace IVb := Lib.hid (iv_next IVb.out hd rfl)
        replace BXc := Lib.hid (BXc.out.next hd rfl); replace IVc := Lib.hid (iv_next IVc.out hd rfl)
        replace DW := Lib.hid (link_below DW.out hd (by have := DW.out.size; omega) rfl rfl rfl rfl)
        clear hd
        have hpd : pd = 0 := IVd.out.len0.2 rfl
        subst hpd
        have w130a := BXd.out.cell0; have w130b := BXd.out.cell1
        go_wp2
        go_ret
        exact ⟨by simp, by rw [hg]; exact DW.out⟩

set_option maxHeartbeats 16000000 in
set_option maxRecDepth 100000 in
theorem lawTextsN_any (b0 : Bool) (A0 : Option Addr) (n0 c0 : Nat) (ws0 : List Nat) (b1 : Bool) (A1 : Option Addr) (n1 c1 : Nat) (ws1 : List Nat) (put : ByteArray) (w : World) (h0 : Wd w A0 n0 ws0) (m0 : n0 ≤ 9223372036854775807) (h1 : Wd w A1 n1 ws1) (m1 : n1 ≤ 9223372036854775807) (hp : put.size ≤ 6) (hx0 : sgn b0 (val (ws0.take 12)) ≠ sgn b1 (val (ws1.take 12))) :
    Calls Try.prog 10 #[.agg #[.bool b0, .slice A0 n0 c0], .agg #[.bool b1, .slice A1 n1 c1], .string put] w fun e w' => e = .returned (.bool true) ∧ Below w.heap.size w w' := by
  obtain ⟨za, hza⟩ : ∃ z, z = sgn b0 (val (ws0.take 12)) := ⟨_, rfl⟩
  have SZa : Hid (Sz za 12) := by rw [hza]; exact sz_take _ _ _ h0.wds
  obtain ⟨zb, hzb⟩ : ∃ z, z = sgn b1 (val (ws1.take 12)) := ⟨_, rfl⟩
  have SZb : Hid (Sz zb 12) := by rw [hzb]; exact sz_take _ _ _ h1.wds
  rw [← hza, ← hzb] at hx0
  have HX := Lib.hid hx0
  clear hx0
  go_enter Try.func10, Try.ntmps10
  go_wp2_with fail
  obtain ⟨W, hW⟩ : ∃ W, W = ((w.alloc (Obj.cells #[Value.bool b0, Value.slice A0 n0 c0] 24)).alloc (Obj.cells #[Value.bool b1, Value.slice A1 n1 c1] 24)) := ⟨_, rfl⟩
  rw [← hW]
  have RX0 : Hid (RBox W (w.heap.size) b0 (.slice A0 n0 c0)) := by rw [hW]; have := (RBox.new w b0 (.slice A0 n0 c0)).alloc (Obj.cells #[Value.bool b1, Value.slice A1 n1 c1] 24); simpa [Hid] using this
  have RW0 : Hid (Wd W A0 n0 ws0) := by rw [hW]; exact ((h0).alloc _).alloc _
  have RX1 : Hid (RBox W (w.heap.size + 1) b1 (.slice A1 n1 c1)) := by rw [hW]; have := RBox.new (w.alloc (Obj.cells #[Value.bool b0, Value.slice A0 n0 c0] 24)) b1 (.slice A1 n1 c1); simpa [Hid] using this
  have RW1 : Hid (Wd W A1 n1 ws1) := by rw [hW]; exact ((h1).alloc _).alloc _
  have DW : Hid (Below w.heap.size w W) := by rw [hW]; exact ((Below.refl _ _).alloc (by simp <;> omega) _).alloc (by simp <;> omega) _
  clear hW h0 h1
  generalize hg : w.heap.size = g at *
  refine (sanity_any _).mono ?_
  rintro e w1 ⟨rfl, hb1⟩
  replace RX0 := Lib.hid (RX0.out.next hb1 rfl); replace RW0 := Lib.hid (RW0.out.next hb1 rfl)
  replace RX1 := Lib.hid (RX1.out.next hb1 rfl); replace RW1 := Lib.hid (RW1.out.next hb1 rfl)
  replace DW := Lib.hid (link_below DW.out hb1 (by have := DW.out.size; omega) rfl rfl rfl rfl)
  clear hb1
  have hp6 : decide ((6 : Int) < (put.size : Int)) = false := by simp; omega
  have u1 := RX0.out.cell0; have u2 := RX0.out.cell1
  go_wp2_with fail
  clear u1 u2
  refine (rmade_raw b0 A0 n0 c0 12 12 ws0 _ RW0.out rfl (by omega) m0).mono ?_
  rw [← hza]
  rintro e y1 ⟨_, rfl, hq, hb⟩
  clear RX0 RW0
  obtain ⟨Xa, pa, qa, rfl, _, _, _⟩ := hq.form
  have Q := Lib.hid hq; have B := Lib.hid hb; clear hq hb
  generalize hs : decide ((za : Int) < 0) = sa at *
  clear hs
  go_upto_region 7 with fail
  obtain ⟨W2, hW⟩ : ∃ W2, W2 = y1.alloc (Obj.cells #[Value.bool sa, Value.slice Xa pa qa] 27) := ⟨_, rfl⟩
  rw [← hW]
  have BXa : Hid (Box W2 y1.heap.size sa (.slice Xa pa qa)) := by rw [hW]; exact Box.new _ _ _
  have IVa : Hid (Iv W2 (.agg #[.bool sa, .slice Xa pa qa]) (za)) := by rw [hW]; exact Q.out.alloc _
  have hd : Below w1.heap.size w1 W2 := by rw [hW]; exact B.out.alloc B.out.size _
  clear hW Q B
  generalize hgn : y1.heap.size = ga at *
  clear hgn
  replace RX1 := Lib.hid (RX1.out.next hd rfl); replace RW1 := Lib.hid (RW1.out.next hd rfl)
  replace DW := Lib.hid (link_below DW.out hd (by have := DW.out.size; omega) rfl rfl rfl rfl)
  clear hd
  have u1 := RX1.out.cell0; have u2 := RX1.out.cell1
  go_wp2_with fail
  clear u1 u2
  refine (rmade_raw b1 A1 n1 c1 12 12 ws1 _ RW1.out rfl (by omega) m1).mono ?_
  rw [← hzb]
  rintro e y3 ⟨_, rfl, hq, hb⟩
  obtain ⟨Xb, pb, qb, rfl, _, _, _⟩ := hq.form
  have Q := Lib.hid hq; have B := Lib.hid hb; clear hq hb
  generalize hs : decide ((zb : Int) < 0) = sb at *
  clear hs
  go_upto_region 8 with fail
  obtain ⟨W4, hW⟩ : ∃ W4, W4 = y3.alloc (Obj.cells #[Value.bool sb, Value.slice Xb pb qb] 27) := ⟨_, rfl⟩
  rw [← hW]
  have BXb : Hid (Box W4 y3.heap.size sb (.slice Xb pb qb)) := by rw [hW]; exact Box.new _ _ _
  have IVb : Hid (Iv W4 (.agg #[.bool sb, .slice Xb pb qb]) (zb)) := by rw [hW]; exact Q.out.alloc _
  have hd : Below W2.heap.size W2 W4 := by rw [hW]; exact B.out.alloc B.out.size _
  clear hW Q B
  generalize hgn : y3.heap.size = gb at *
  clear hgn
  replace BXa := Lib.hid (BXa.out.next hd rfl); replace IVa := Lib.hid (iv_next IVa.out hd rfl)
  replace RX1 := Lib.hid (RX1.out.next hd rfl); replace RW1 := Lib.hid (RW1.out.next hd rfl)
  replace DW := Lib.hid (link_below DW.out hd (by have := DW.out.size; omega) rfl rfl rfl rfl)
  clear hd
  clear hza hzb
  have w50a := BXa.out.cell0; have w50b := BXa.out.cell1
  go_wp2_with fail
  clear w50a w50b
  refine (text_is _ za _ IVa.out (SZa.out.mono (by omega))).mono ?_
  rintro e yt ⟨rfl, hb⟩
  replace BXa := Lib.hid (BXa.out.next hb rfl); replace IVa := Lib.hid (iv_next IVa.out hb rfl)
  replace BXb := Lib.hid (BXb.out.next hb rfl); replace IVb := Lib.hid (iv_next IVb.out hb rfl)
  replace RX1 := Lib.hid (RX1.out.next hb rfl); replace RW1 := Lib.hid (RW1.out.next hb rfl)
  replace DW := Lib.hid (link_below DW.out hb (by have := DW.out.size; omega) rfl rfl rfl rfl)
  clear hb
  have TS := Lib.hid (txs_size SZa.out)
  go_wp2_with fail
  refine (parse_text za _ (SZa.out.mono (by omega))).mono ?_
  rintro e yp ⟨_, rfl, hq, hb⟩
  have SZc : Hid (Sz za 12) := SZa
  obtain ⟨Xc, pc, qc, rfl, _, _, _⟩ := hq.form
  have Q := Lib.hid hq; have B := Lib.hid hb; clear hq hb
  generalize hs : decide ((za : Int) < 0) = sc at *
  clear hs
  go_upto_region 10 with fail
  obtain ⟨W6, hW⟩ : ∃ W6, W6 = yp.alloc (Obj.cells #[Value.bool sc, Value.slice Xc pc qc] 27) := ⟨_, rfl⟩
  rw [← hW]
  have BXc : Hid (Box W6 yp.heap.size sc (.slice Xc pc qc)) := by rw [hW]; exact Box.new _ _ _
  have IVc : Hid (Iv W6 (.agg #[.bool sc, .slice Xc pc qc]) (za)) := by rw [hW]; exact Q.out.alloc _
  have hd : Below yt.heap.size yt W6 := by rw [hW]; exact B.out.alloc B.out.size _
  clear hW Q B
  generalize hgn : yp.heap.size = gc at *
  clear hgn
  replace BXa := Lib.hid (BXa.out.next hd rfl); replace IVa := Lib.hid (iv_next IVa.out hd rfl)
  replace BXb := Lib.hid (BXb.out.next hd rfl); replace IVb := Lib.hid (iv_next IVb.out hd rfl)
  replace RX1 := Lib.hid (RX1.out.next hd rfl); replace RW1 := Lib.hid (RW1.out.next hd rfl)
  replace DW := Lib.hid (link_below DW.out hd (by have := DW.out.size; omega) rfl rfl rfl rfl)
  clear hd
  refine region_go W6 [.is (Value.int IntKind.i64 0), .is (Value.bool false), .is (Value.bool false), .is (.agg #[.bool sc, .slice Xc pc qc]), .is (.agg #[.bool sa, .slice Xa pa qa]), .is (Value.bool true), .is (Value.bool false), .is (Value.bool false), .is (Value.bool false), .is (.agg #[.bool sb, .slice Xb pb qb]), .is (.string (txs zb)), .is (.string (txs za)), .is (Value.bool false), .is (.agg #[.bool sa, .slice Xa pa qa]), .is (.agg #[.bool sb, .slice Xb pb qb]), .is (Value.bool false), .is (Value.bool false), .is (Value.bool false)] [some 36, some 37, some 38, some 39, some 40, some 41, some 42, some 43, some 44, some 45, some 46, some 47, some 48, some 49, some 50, some 51, some 52, some 53] (by kernel_rfl) (by kernel_rfl) (by kernel_rfl) (by kernel_rfl) (by kernel_rfl) (by rfl) (by kernel_rfl) ((Below.refl _ _).drew) (fun Q' => ?_) (fun K hK wn hs => ?_)
  · refine ⟨?_, ?_, ?_, ?_, ?_, ?_, ?_, ?_, ?_, ?_, ?_, ?_, ?_, ?_, ?_, ?_, ?_, ?_, trivial⟩
    · intro a' w' ha hs hw
      have eo12 : a'.tmps[12]? = some (Value.int IntKind.i64 0) := (ha.rest 12 (by kernel_rfl)).trans rfl
      exact ⟨wanted_none rfl, rfl, wp_val (run_move rfl (ev_tmp eo12)) ⟨rfl, Below.refl _ _⟩⟩
    · intro a' w' ha hs hw
      have e0 : a'.tmps[36]? = some (Value.int IntKind.i64 0) := slot_get rfl rfl (hw 0 (by kernel_rfl) _ rfl)
      exact ⟨wanted_none rfl, rfl, wp_val (show _ = _ from (run_neq_int rfl (ev_tmp e0) rfl).trans (by rfl)) ⟨rfl, Below.refl _ _⟩⟩
    · intro a' w' ha hs hw
      have e1 : a'.tmps[37]? = some (Value.bool false) := slot_get rfl rfl (hw 1 (by kernel_rfl) _ rfl)
      exact ⟨wanted_none rfl, rfl, wp_val (run_move rfl (ev_tmp e1)) ⟨rfl, Below.refl _ _⟩⟩
    · intro a' w' ha hs hw
      have e2 : a'.tmps[38]? = some (Value.bool false) := slot_get rfl rfl (hw 2 (by kernel_rfl) _ rfl)
      have eo11 : a'.tmps[11]? = some (ptr gc) := (ha.rest 11 (by kernel_rfl)).trans rfl
      exact ⟨wanted_some rfl rfl rfl e2, rfl, wp_val (run_load rfl (ev_tmp eo11) (BXc.out.next hs rfl)) ⟨rfl, Below.refl _ _⟩⟩
    · intro a' w' ha hs hw
      have e2 : a'.tmps[38]? = some (Value.bool false) := slot_get rfl rfl (hw 2 (by kernel_rfl) _ rfl)
      have eo8 : a'.tmps[8]? = some (ptr ga) := (ha.rest 8 (by kernel_rfl)).trans rfl
      exact ⟨wanted_some rfl rfl rfl e2, rfl, wp_val (run_load rfl (ev_tmp eo8) (BXa.out.next hs rfl)) ⟨rfl, Below.refl _ _⟩⟩
    · intro a' w' ha hs hw
      have e2 : a'.tmps[38]? = some (Value.bool false) := slot_get rfl rfl (hw 2 (by kernel_rfl) _ rfl)
      have e3 : a'.tmps[39]? = some (.agg #[.bool sc, .slice Xc pc qc]) := slot_get rfl rfl (hw 3 (by kernel_rfl) _ rfl)
      have e4 : a'.tmps[40]? = some (.agg #[.bool sa, .slice Xa pa qa]) := slot_get rfl rfl (hw 4 (by kernel_rfl) _ rfl)
      exact ⟨wanted_some rfl rfl rfl e2, rfl, call_step rfl Try.func19 (by kernel_rfl) rfl (map_two (ev_tmp e3) (ev_tmp e4)) (same_true _ _ (za) (za) _ (iv_next IVc.out hs rfl) (iv_next IVa.out hs rfl) (SZc.out.mono (by omega)) (rfl)) (fun e w2 he => by obtain ⟨rfl, hb⟩ := he; exact ⟨_, rfl, rfl, hb⟩)⟩
    · intro a' w' ha hs hw
      have e2 : a'.tmps[38]? = some (Value.bool false) := slot_get rfl rfl (hw 2 (by kernel_rfl) _ rfl)
      have e5 : a'.tmps[41]? = some (Value.bool true) := slot_get rfl rfl (hw 5 (by kernel_rfl) _ rfl)
      exact ⟨wanted_some rfl rfl rfl e2, rfl, wp_val (run_not rfl (ev_tmp e5)) ⟨rfl, Below.refl _ _⟩⟩
    · intro a' w' ha hs hw
      have e2 : a'.tmps[38]? = some (Value.bool false) := slot_get rfl rfl (hw 2 (by kernel_rfl) _ rfl)
      have e6 : a'.tmps[42]? = some (Value.bool false) := slot_get rfl rfl (hw 6 (by kernel_rfl) _ rfl)
      exact ⟨wanted_none rfl, rfl, wp_val (run_pick (b := false) rfl (ev_tmp e2) (ev_tmp e6)) ⟨rfl, Below.refl _ _⟩⟩
    · intro a' w' ha hs hw
      have e7 : a'.tmps[43]? = some (Value.bool false) := slot_get rfl rfl (hw 7 (by kernel_rfl) _ rfl)
      exact ⟨wanted_none rfl, rfl, wp_val (run_move rfl (ev_tmp e7)) ⟨rfl, Below.refl _ _⟩⟩
    · intro a' w' ha hs hw
      have e8 : a'.tmps[44]? = some (Value.bool false) := slot_get rfl rfl (hw 8 (by kernel_rfl) _ rfl)
      have eo9 : a'.tmps[9]? = some (ptr gb) := (ha.rest 9 (by kernel_rfl)).trans rfl
      exact ⟨wanted_some rfl rfl rfl e8, rfl, wp_val (run_load rfl (ev_tmp eo9) (BXb.out.next hs rfl)) ⟨rfl, Below.refl _ _⟩⟩
    · intro a' w' ha hs hw
      have e8 : a'.tmps[44]? = some (Value.bool false) := slot_get rfl rfl (hw 8 (by kernel_rfl) _ rfl)
      have e9 : a'.tmps[45]? = some (.agg #[.bool sb, .slice Xb pb qb]) := slot_get rfl rfl (hw 9 (by kernel_rfl) _ rfl)
      exact ⟨wanted_some rfl rfl rfl e8, rfl, call_step rfl Try.func44 (by kernel_rfl) rfl (map_one (ev_tmp e9)) (text_is _ zb _ (iv_next IVb.out hs rfl) (SZb.out.mono (by omega))) (fun e w2 he => by obtain ⟨rfl, hb⟩ := he; exact ⟨_, rfl, rfl, hb⟩)⟩
    · intro a' w' ha hs hw
      have e8 : a'.tmps[44]? = some (Value.bool false) := slot_get rfl rfl (hw 8 (by kernel_rfl) _ rfl)
      have eo10 : a'.tmps[10]? = some (.string (txs za)) := (ha.rest 10 (by kernel_rfl)).trans rfl
      exact ⟨wanted_some rfl rfl rfl e8, rfl, wp_val (run_move rfl (ev_tmp eo10)) ⟨rfl, Below.refl _ _⟩⟩
    · intro a' w' ha hs hw
      have e8 : a'.tmps[44]? = some (Value.bool false) := slot_get rfl rfl (hw 8 (by kernel_rfl) _ rfl)
      have e10 : a'.tmps[46]? = some (.string (txs zb)) := slot_get rfl rfl (hw 10 (by kernel_rfl) _ rfl)
      have e11 : a'.tmps[47]? = some (.string (txs za)) := slot_get rfl rfl (hw 11 (by kernel_rfl) _ rfl)
      exact ⟨wanted_some rfl rfl rfl e8, rfl, wp_val ((run_eql_str rfl (ev_tmp e10) (ev_tmp e11)).trans (by rw [show ((txs zb).toList == (txs za).toList) = false from txs_ne (fun e => HX.out e.symm)])) ⟨rfl, Below.refl _ _⟩⟩
    · intro a' w' ha hs hw
      have e8 : a'.tmps[44]? = some (Value.bool false) := slot_get rfl rfl (hw 8 (by kernel_rfl) _ rfl)
      have eo8 : a'.tmps[8]? = some (ptr ga) := (ha.rest 8 (by kernel_rfl)).trans rfl
      exact ⟨wanted_some rfl rfl rfl e8, rfl, wp_val (run_load rfl (ev_tmp eo8) (BXa.out.next hs rfl)) ⟨rfl, Below.refl _ _⟩⟩
    · intro a' w' ha hs hw
      have e8 : a'.tmps[44]? = some (Value.bool false) := slot_get rfl rfl (hw 8 (by kernel_rfl) _ rfl)
      have eo9 : a'.tmps[9]? = some (ptr gb) := (ha.rest 9 (by kernel_rfl)).trans rfl
      exact ⟨wanted_some rfl rfl rfl e8, rfl, wp_val (run_load rfl (ev_tmp eo9) (BXb.out.next hs rfl)) ⟨rfl, Below.refl _ _⟩⟩
    · intro a' w' ha hs hw
      have e8 : a'.tmps[44]? = some (Value.bool false) := slot_get rfl rfl (hw 8 (by kernel_rfl) _ rfl)
      have e13 : a'.tmps[49]? = some (.agg #[.bool sa, .slice Xa pa qa]) := slot_get rfl rfl (hw 13 (by kernel_rfl) _ rfl)
      have e14 : a'.tmps[50]? = some (.agg #[.bool sb, .slice Xb pb qb]) := slot_get rfl rfl (hw 14 (by kernel_rfl) _ rfl)
      exact ⟨wanted_some rfl rfl rfl e8, rfl, call_step rfl Try.func19 (by kernel_rfl) rfl (map_two (ev_tmp e13) (ev_tmp e14)) (same_false _ _ za zb _ (iv_next IVa.out hs rfl) (iv_next IVb.out hs rfl) (SZa.out.mono (by omega)) (SZb.out.mono (by omega)) HX.out) (fun e w2 he => by obtain ⟨rfl, hb⟩ := he; exact ⟨_, rfl, rfl, hb⟩)⟩
    · intro a' w' ha hs hw
      have e8 : a'.tmps[44]? = some (Value.bool false) := slot_get rfl rfl (hw 8 (by kernel_rfl) _ rfl)
      have e12 : a'.tmps[48]? = some (Value.bool false) := slot_get rfl rfl (hw 12 (by kernel_rfl) _ rfl)
      have e15 : a'.tmps[51]? = some (Value.bool false) := slot_get rfl rfl (hw 15 (by kernel_rfl) _ rfl)
      exact ⟨wanted_some rfl rfl rfl e8, rfl, wp_val ((run_neq_bool rfl (ev_tmp e12) (ev_tmp e15)).trans (by rfl)) ⟨rfl, Below.refl _ _⟩⟩
    · intro a' w' ha hs hw
      have e8 : a'.tmps[44]? = some (Value.bool false) := slot_get rfl rfl (hw 8 (by kernel_rfl) _ rfl)
      have e16 : a'.tmps[52]? = some (Value.bool false) := slot_get rfl rfl (hw 16 (by kernel_rfl) _ rfl)
      exact ⟨wanted_none rfl, rfl, wp_val (run_pick (b := false) rfl (ev_tmp e8) (ev_tmp e16)) ⟨rfl, Below.refl _ _⟩⟩
  simp only [allQ]
  simp only [setOpt, List.set_cons_succ, List.set_cons_zero, ptr]
  refine hK _ _ ?_
  clear hK K
  replace BXa := Lib.hid (BXa.out.next hs rfl); replace IVa := Lib.hid (iv_next IVa.out hs rfl)
  replace BXb := Lib.hid (BXb.out.next hs rfl); replace IVb := Lib.hid (iv_next IVb.out hs rfl)
  replace BXc := Lib.hid (BXc.out.next hs rfl); replace IVc := Lib.hid (iv_next IVc.out hs rfl)
  replace RX1 := Lib.hid (RX1.out.next hs rfl); replace RW1 := Lib.hid (RW1.out.next hs rfl)
  replace DW := Lib.hid (link_below DW.out hs (by have := DW.out.size; omega) rfl rfl rfl rfl)
  clear hs
  go_upto_region 14 with fail
  have hn1 : n1 ≤ 9223372036854775807 := m1
  have hLL : (txs za).size ≤ 122 := TS.out
  have v0 := RX1.out.cell0; have v1 := RX1.out.cell1
  go_upto_if 57 with fail
  clear v0 v1
  go_cut [13, 14] (fun s13 s14 wx => ∃ at_ cut : Nat, s13 = .int .i64 at_ ∧ s14 = .int .i64 cut ∧ at_ ≤ (txs za).size ∧ cut ≤ 4 ∧ wx = wn)
  case first =>
    have v0 := RX1.out.cell0; have v1 := RX1.out.cell1
    by_cases hn : 0 < n1
    · obtain ⟨bb, oo, rfl, hlt0, hcs⟩ := RW1.out.cells hn
      have hcell := hcs 0 hn
      rw [Nat.add_zero] at hcell
      have hyb := RW1.out.wds.getD 0
      clear hcs
      generalize gd ws1 0 = yy at *
      have hnn : (0 : Int) < (n1 : Int) := by omega
      have hL1 : (0 : Int) ≤ ((txs za).size : Int) := by omega
      have hL2 : ((txs za).size : Int) ≤ 122 := by omega
      have ht5 : (yy : Int).tmod 5 = ((yy % 5 : Nat) : Int) := by rw [Int.tmod_eq_emod_of_nonneg (by omega)]; omega
      have hm5 : yy % 5 ≤ 4 := by omega
      generalize hLn : (txs za).size = LN at *
      have htL : (yy : Int).tmod ((LN : Int) + 1) = ((yy % (LN + 1) : Nat) : Int) := by rw [Int.tmod_eq_emod_of_nonneg (by omega)]; simp
      have hmL : yy % (LN + 1) ≤ LN := by have := Nat.mod_lt yy (show 0 < LN + 1 by omega); omega
      have hdz : ((LN : Int) + 1 == 0) = false := by simp; omega
      go_wp2_with fail
      go_meet
      have e1 : (yy : Int) % ((LN : Int) + 1) = ((yy % (LN + 1) : Nat) : Int) := by simp
      have e2 : (yy : Int) % 5 = ((yy % 5 : Nat) : Int) := by omega
      refine ⟨yy % (LN + 1), yy % 5, ?_, by rw [e2], hmL, hm5, rfl⟩
      rw [e1]
      congr 1
      unfold wrap64
      omega
    · have hnn : decide ((0 : Int) < (n1 : Int)) = false := by simp; omega
      go_wp2_with fail
      go_meet
      exact ⟨0, 0, by simp, by simp, by omega, by omega, rfl⟩
  case rest =>
    obtain ⟨at_, cut, rfl, rfl, hat, hct, rfl⟩ := hcut
    obtain ⟨V, hVV⟩ : ∃ V, V = wc := ⟨_, rfl⟩
    subst hVV
    go_upto_region 17 with fail
    obtain ⟨mm, hmm, hmm2⟩ : ∃ mm : Nat, min ((at_ : Int) + (cut : Int)) ((txs za).size : Int) = (mm : Int) ∧ mm ≤ (txs za).size := ⟨min (at_ + cut) (txs za).size, by omega, by omega⟩
    have hs1 : (0 : Int) ≤ (at_ : Int) := by omega
    have hs2 : (at_ : Int) ≤ ((txs za).size : Int) := by omega
    have hs3 : (0 : Int) ≤ (mm : Int) := by omega
    have hs4 : (mm : Int) ≤ ((txs za).size : Int) := by omega
    go_cut [15] (fun s15 wx => ∃ odd : ByteArray, s15 = .string odd ∧ odd.size ≤ 4000 ∧ Below V.heap.size V wx)
    case first =>
      go_quiet (fail)
      go_wp2_with fail
      all_goals
        go_meet
        refine ⟨_, rfl, ?_, ⟨rfl, rfl, rfl, Nat.le_refl _, fun _ _ => rfl⟩⟩
        simp only [ByteArray.size_append, ByteArray.size_extract]
        omega
    case rest =>
      obtain ⟨odd, rfl, hodd, hbo⟩ := hcut
      clear hmm hs1 hs2 hs3 hs4 hat hct hmm2
      replace BXa := Lib.hid (BXa.out.next hbo rfl); replace IVa := Lib.hid (iv_next IVa.out hbo rfl)
      replace BXb := Lib.hid (BXb.out.next hbo rfl); replace IVb := Lib.hid (iv_next IVb.out hbo rfl)
      replace BXc := Lib.hid (BXc.out.next hbo rfl); replace IVc := Lib.hid (iv_next IVc.out hbo rfl)
      replace DW := Lib.hid (link_below DW.out hbo (by have := DW.out.size; omega) rfl rfl rfl rfl)
      clear hbo RX1 RW1
      by_cases hpk : pok odd.data.toList
      · obtain ⟨zd, hzd⟩ : ∃ z, z = pval odd.data.toList := ⟨_, rfl⟩
        have SZd : Hid (Sz zd 4000) := by rw [hzd]; exact pval_sz hodd hpk
        have TB : Hid (txs zd = odd) := by rw [hzd]; exact txs_back hpk
        have PK := Lib.hid (parse_ok odd wc hodd hpk)
        rw [← hzd] at PK
        clear hzd hpk
        go_wp2_with fail
        refine PK.out.mono ?_
        clear PK
        rintro e yd ⟨_, rfl, hq, hb⟩
        obtain ⟨Xd, pd, qd, rfl, _, _, _⟩ := hq.form
        have Q := Lib.hid hq; have B := Lib.hid hb; clear hq hb
        generalize hs : decide ((zd : Int) < 0) = sd at *
        clear hs
        go_upto_region 19 with fail
        obtain ⟨W9, hW⟩ : ∃ W9, W9 = yd.alloc (Obj.cells #[Value.bool sd, Value.slice Xd pd qd] 27) := ⟨_, rfl⟩
        rw [← hW]
        have BXd : Hid (Box W9 yd.heap.size sd (.slice Xd pd qd)) := by rw [hW]; exact Box.new _ _ _
        have IVd : Hid (Iv W9 (.agg #[.bool sd, .slice Xd pd qd]) (zd)) := by rw [hW]; exact Q.out.alloc _
        have hd : Below wc.heap.size wc W9 := by rw [hW]; exact B.out.alloc B.out.size _
        clear hW Q B
        generalize hgn : yd.heap.size = gd at *
        clear hgn
        replace BXa := Lib.hid (BXa.out.next hd rfl); replace IVa := Lib.hid (iv_next IVa.out hd rfl)
        replace BXb := Lib.hid (BXb.out.next hd rfl); replace IVb := Lib.hid (iv_next IVb.out hd rfl)
        replace BXc := Lib.hid (BXc.out.next hd rfl); replace IVc := Lib.hid (iv_next IVc.out hd rfl)
        replace DW := Lib.hid (link_below DW.out hd (by have := DW.out.size; omega) rfl rfl rfl rfl)
        clear hd
        have w100a := BXd.out.cell0; have w100b := BXd.out.cell1
        go_wp2_with fail
        clear w100a w100b
        refine (rvalid_any _ zd _ IVd.out (SZd.out.mono (by omega))).mono ?_
        rintro e yv ⟨rfl, hb⟩
        replace BXa := Lib.hid (BXa.out.next hb rfl); replace IVa := Lib.hid (iv_next IVa.out hb rfl)
        replace BXb := Lib.hid (BXb.out.next hb rfl); replace IVb := Lib.hid (iv_next IVb.out hb rfl)
        replace BXc := Lib.hid (BXc.out.next hb rfl); replace IVc := Lib.hid (iv_next IVc.out hb rfl)
        replace BXd := Lib.hid (BXd.out.next hb rfl); replace IVd := Lib.hid (iv_next IVd.out hb rfl)
        replace DW := Lib.hid (link_below DW.out hb (by have := DW.out.size; omega) rfl rfl rfl rfl)
        clear hb
        have w110a := BXd.out.cell0; have w110b := BXd.out.cell1
        go_wp2_with fail
        clear w110a w110b
        refine (text_is _ zd _ IVd.out (SZd.out.mono (by omega))).mono ?_
        rw [TB.out]
        rintro e yu ⟨rfl, hb⟩
        replace BXa := Lib.hid (BXa.out.next hb rfl); replace IVa := Lib.hid (iv_next IVa.out hb rfl)
        replace BXb := Lib.hid (BXb.out.next hb rfl); replace IVb := Lib.hid (iv_next IVb.out hb rfl)
        replace BXc := Lib.hid (BXc.out.next hb rfl); replace IVc := Lib.hid (iv_next IVc.out hb rfl)
        replace BXd := Lib.hid (BXd.out.next hb rfl); replace IVd := Lib.hid (iv_next IVd.out hb rfl)
        replace DW := Lib.hid (link_below DW.out hb (by have := DW.out.size; omega) rfl rfl rfl rfl)
        clear hb
        go_wp2
        go_ret
        exact ⟨by simp, by rw [hg]; exact DW.out⟩
      · have hne : (odd.toList == (txs za).toList) = false := odd_ne hpk
        have PK := Lib.hid (parse_no odd wc hodd hpk)
        clear hpk
        go_wp2_with fail
        refine PK.out.mono ?_
        clear PK
        rintro e yd ⟨_, rfl, hq, hb⟩
        obtain ⟨Xd, pd, qd, rfl, _, _, _⟩ := hq.form
        have Q := Lib.hid hq; have B := Lib.hid hb; clear hq hb
        generalize hs : decide (((0 : Int) : Int) < 0) = sd at *
        obtain rfl : sd = false := by rw [← hs]; simp only [decide_eq_false_iff_not, Int.not_lt]; exact Int.le_refl 0
        clear hs
        go_upto_region 19 with fail
        obtain ⟨W12, hW⟩ : ∃ W12, W12 = yd.alloc (Obj.cells #[Value.bool false, Value.slice Xd pd qd] 27) := ⟨_, rfl⟩
        rw [← hW]
        have BXd : Hid (Box W12 yd.heap.size false (.slice Xd pd qd)) := by rw [hW]; exact Box.new _ _ _
        have IVd : Hid (Iv W12 (.agg #[.bool false, .slice Xd pd qd]) ((0 : Int))) := by rw [hW]; exact Q.out.alloc _
        have hd : Below wc.heap.size wc W12 := by rw [hW]; exact B.out.alloc B.out.size _
        clear hW Q B
        generalize hgn : yd.heap.size = gd at *
        clear hgn
        replace BXa := Lib.hid (BXa.out.next hd rfl); replace IVa := Lib.hid (iv_next IVa.out hd rfl)
        replace BXb := Lib.hid (BXb.out.next hd rfl); replace IVb := Lib.hid (iv_next IVb.out hd rfl)
        replace BXc := Lib.hid (BXc.out.next hd rfl); replace IVc := Lib.hid (iv_next IVc.out hd rfl)
        replace DW := Lib.hid (link_below DW.out hd (by have := DW.out.size; omega) rfl rfl rfl rfl)
        clear hd
        have hpd : pd = 0 := IVd.out.len0.2 rfl
        subst hpd
        have w130a := BXd.out.cell0; have w130b := BXd.out.cell1
        go_wp2
        go_ret
        exact ⟨by simp, by rw [hg]; exact DW.out⟩

set_option maxHeartbeats 16000000 in
set_option maxRecDepth 100000 in
theorem lawTextsL_any (b0 : Bool) (A0 : Option Addr) (n0 c0 : Nat) (ws0 : List Nat) (b1 : Bool) (A1 : Option Addr) (n1 c1 : Nat) (ws1 : List Nat) (put : ByteArray) (w : World) (h0 : Wd w A0 n0 ws0) (m0 : n0 ≤ 9223372036854775807) (h1 : Wd w A1 n1 ws1) (m1 : n1 ≤ 9223372036854775807) (hp : 6 < put.size) (hp2 : put.size ≤ 9223372036854775807) :
    Calls Try.prog 10 #[.agg #[.bool b0, .slice A0 n0 c0], .agg #[.bool b1, .slice A1 n1 c1], .string put] w fun e w' => e = .returned (.bool true) ∧ Below w.heap.size w w' := by
  go_enter Try.func10, Try.ntmps10
  go_wp2_with fail
  obtain ⟨W, hW⟩ : ∃ W, W = ((w.alloc (Obj.cells #[Value.bool b0, Value.slice A0 n0 c0] 24)).alloc (Obj.cells #[Value.bool b1, Value.slice A1 n1 c1] 24)) := ⟨_, rfl⟩
  rw [← hW]
  have RX0 : Hid (RBox W (w.heap.size) b0 (.slice A0 n0 c0)) := by rw [hW]; have := (RBox.new w b0 (.slice A0 n0 c0)).alloc (Obj.cells #[Value.bool b1, Value.slice A1 n1 c1] 24); simpa [Hid] using this
  have RW0 : Hid (Wd W A0 n0 ws0) := by rw [hW]; exact ((h0).alloc _).alloc _
  have RX1 : Hid (RBox W (w.heap.size + 1) b1 (.slice A1 n1 c1)) := by rw [hW]; have := RBox.new (w.alloc (Obj.cells #[Value.bool b0, Value.slice A0 n0 c0] 24)) b1 (.slice A1 n1 c1); simpa [Hid] using this
  have RW1 : Hid (Wd W A1 n1 ws1) := by rw [hW]; exact ((h1).alloc _).alloc _
  have DW : Hid (Below w.heap.size w W) := by rw [hW]; exact ((Below.refl _ _).alloc (by simp <;> omega) _).alloc (by simp <;> omega) _
  clear hW h0 h1
  generalize hg : w.heap.size = g at *
  refine (sanity_any _).mono ?_
  rintro e w1 ⟨rfl, hb1⟩
  replace RX0 := Lib.hid (RX0.out.next hb1 rfl); replace RW0 := Lib.hid (RW0.out.next hb1 rfl)
  replace RX1 := Lib.hid (RX1.out.next hb1 rfl); replace RW1 := Lib.hid (RW1.out.next hb1 rfl)
  replace DW := Lib.hid (link_below DW.out hb1 (by have := DW.out.size; omega) rfl rfl rfl rfl)
  clear hb1
  have hp6 : (6 : Int) < (put.size : Int) := by omega
  go_wp2
  go_ret
  exact ⟨by simp, by rw [hg]; exact DW.out⟩

theorem lawTexts_any (b0 : Bool) (A0 : Option Addr) (n0 c0 : Nat) (ws0 : List Nat) (b1 : Bool) (A1 : Option Addr) (n1 c1 : Nat) (ws1 : List Nat) (put : ByteArray) (w : World) (h0 : Wd w A0 n0 ws0) (m0 : n0 ≤ 9223372036854775807) (h1 : Wd w A1 n1 ws1) (m1 : n1 ≤ 9223372036854775807) (hp2 : put.size ≤ 9223372036854775807) :
    Calls Try.prog 10 #[.agg #[.bool b0, .slice A0 n0 c0], .agg #[.bool b1, .slice A1 n1 c1], .string put] w fun e w' => e = .returned (.bool true) ∧ Below w.heap.size w w' := by
  by_cases hp : 6 < put.size
  · exact lawTextsL_any b0 A0 n0 c0 ws0 b1 A1 n1 c1 ws1 put w h0 m0 h1 m1 hp hp2
  · by_cases h : sgn b0 (val (ws0.take 12)) = sgn b1 (val (ws1.take 12))
    · exact lawTextsE_any b0 A0 n0 c0 ws0 b1 A1 n1 c1 ws1 put w h0 m0 h1 m1 (by omega) h
    · exact lawTextsN_any b0 A0 n0 c0 ws0 b1 A1 n1 c1 ws1 put w h0 m0 h1 m1 (by omega) h

end Go.Proofs.Ytloiabkopacfgaa
