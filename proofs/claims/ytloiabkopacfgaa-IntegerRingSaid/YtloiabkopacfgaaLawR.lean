/-
  The law IntegerRing: the walk.
-/
import Derived.Test.YtloiabkopacfgaaLawA
import Derived.Test.YtloiabkopacfgaaRefB
import Derived.Test.YtloiabkopacfgaaRegB
import Derived.Deep.DeepCutAuto
import Derived.Handy
namespace Go.Proofs.Ytloiabkopacfgaa
open Go.RowKit
attribute [local go_sem ↓] Go.wp_at_zero Go.wp_at_succ

set_option maxHeartbeats 16000000 in
set_option maxRecDepth 100000 in
theorem lawRing_any (b0 : Bool) (A0 : Option Addr) (n0 c0 : Nat) (ws0 : List Nat) (b1 : Bool) (A1 : Option Addr) (n1 c1 : Nat) (ws1 : List Nat) (b2 : Bool) (A2 : Option Addr) (n2 c2 : Nat) (ws2 : List Nat)  (w : World) (h0 : Wd w A0 n0 ws0) (m0 : n0 ≤ 9223372036854775807) (h1 : Wd w A1 n1 ws1) (m1 : n1 ≤ 9223372036854775807) (h2 : Wd w A2 n2 ws2) (m2 : n2 ≤ 9223372036854775807)  :
    Calls Try.prog 5 #[.agg #[.bool b0, .slice A0 n0 c0], .agg #[.bool b1, .slice A1 n1 c1], .agg #[.bool b2, .slice A2 n2 c2]] w fun e w' => e = .returned (.bool true) ∧ Below w.heap.size w w' := by
  obtain ⟨za, hza⟩ : ∃ z, z = sgn b0 (val (ws0.take 8)) := ⟨_, rfl⟩
  have SZa : Hid (Sz za 8) := by rw [hza]; exact sz_take _ _ _ h0.wds
  obtain ⟨zb, hzb⟩ : ∃ z, z = sgn b1 (val (ws1.take 8)) := ⟨_, rfl⟩
  have SZb : Hid (Sz zb 8) := by rw [hzb]; exact sz_take _ _ _ h1.wds
  obtain ⟨zc, hzc⟩ : ∃ z, z = sgn b2 (val (ws2.take 8)) := ⟨_, rfl⟩
  have SZc : Hid (Sz zc 8) := by rw [hzc]; exact sz_take _ _ _ h2.wds
  go_enter Try.func5, Try.ntmps5
  go_wp2_with fail
  obtain ⟨W, hW⟩ : ∃ W, W = (((w.alloc (Obj.cells #[Value.bool b0, Value.slice A0 n0 c0] 24)).alloc (Obj.cells #[Value.bool b1, Value.slice A1 n1 c1] 24)).alloc (Obj.cells #[Value.bool b2, Value.slice A2 n2 c2] 24)) := ⟨_, rfl⟩
  rw [← hW]
  have RX0 : Hid (RBox W (w.heap.size) b0 (.slice A0 n0 c0)) := by rw [hW]; have := ((RBox.new w b0 (.slice A0 n0 c0)).alloc (Obj.cells #[Value.bool b1, Value.slice A1 n1 c1] 24)).alloc (Obj.cells #[Value.bool b2, Value.slice A2 n2 c2] 24); simpa [Hid] using this
  have RW0 : Hid (Wd W A0 n0 ws0) := by rw [hW]; exact (((h0).alloc _).alloc _).alloc _
  have RX1 : Hid (RBox W (w.heap.size + 1) b1 (.slice A1 n1 c1)) := by rw [hW]; have := (RBox.new (w.alloc (Obj.cells #[Value.bool b0, Value.slice A0 n0 c0] 24)) b1 (.slice A1 n1 c1)).alloc (Obj.cells #[Value.bool b2, Value.slice A2 n2 c2] 24); simpa [Hid] using this
  have RW1 : Hid (Wd W A1 n1 ws1) := by rw [hW]; exact (((h1).alloc _).alloc _).alloc _
  have RX2 : Hid (RBox W (w.heap.size + 1 + 1) b2 (.slice A2 n2 c2)) := by rw [hW]; have := RBox.new ((w.alloc (Obj.cells #[Value.bool b0, Value.slice A0 n0 c0] 24)).alloc (Obj.cells #[Value.bool b1, Value.slice A1 n1 c1] 24)) b2 (.slice A2 n2 c2); simpa [Hid] using this
  have RW2 : Hid (Wd W A2 n2 ws2) := by rw [hW]; exact (((h2).alloc _).alloc _).alloc _
  have DW : Hid (Below w.heap.size w W) := by rw [hW]; exact (((Below.refl _ _).alloc (by simp <;> omega) _).alloc (by simp <;> omega) _).alloc (by simp <;> omega) _
  clear hW h0 h1 h2
  generalize hg : w.heap.size = g at *
  refine (sanity_any _).mono ?_
  rintro e w1 ⟨rfl, hb1⟩
  replace RX0 := Lib.hid (RX0.out.next hb1 rfl); replace RW0 := Lib.hid (RW0.out.next hb1 rfl)
  replace RX1 := Lib.hid (RX1.out.next hb1 rfl); replace RW1 := Lib.hid (RW1.out.next hb1 rfl)
  replace RX2 := Lib.hid (RX2.out.next hb1 rfl); replace RW2 := Lib.hid (RW2.out.next hb1 rfl)
  replace DW := Lib.hid (link_below DW.out hb1 (by have := DW.out.size; omega) rfl rfl rfl rfl)
  clear hb1
  have u1 := RX0.out.cell0; have u2 := RX0.out.cell1
  go_wp2_with fail
  clear u1 u2
  refine (rmade_raw b0 A0 n0 c0 8 8 ws0 _ RW0.out rfl (by omega) m0).mono ?_
  rw [← hza]
  rintro e y1 ⟨_, rfl, hq, hb⟩
  clear RX0 RW0
  obtain ⟨Xa, pa, qa, rfl, _, _, _⟩ := hq.form
  have Q := Lib.hid hq; have B := Lib.hid hb; clear hq hb
  generalize hs : decide ((za : Int) < 0) = sa at *
  clear hs
  go_upto_region 5 with fail
  obtain ⟨W2, hW⟩ : ∃ W2, W2 = y1.alloc (Obj.cells #[Value.bool sa, Value.slice Xa pa qa] 27) := ⟨_, rfl⟩
  rw [← hW]
  have BXa : Hid (Box W2 y1.heap.size sa (.slice Xa pa qa)) := by rw [hW]; exact Box.new _ _ _
  have IVa : Hid (Iv W2 (.agg #[.bool sa, .slice Xa pa qa]) (za)) := by rw [hW]; exact Q.out.alloc _
  have hd : Below w1.heap.size w1 W2 := by rw [hW]; exact B.out.alloc B.out.size _
  clear hW Q B
  generalize hgn : y1.heap.size = ga at *
  clear hgn
  replace RX1 := Lib.hid (RX1.out.next hd rfl); replace RW1 := Lib.hid (RW1.out.next hd rfl)
  replace RX2 := Lib.hid (RX2.out.next hd rfl); replace RW2 := Lib.hid (RW2.out.next hd rfl)
  replace DW := Lib.hid (link_below DW.out hd (by have := DW.out.size; omega) rfl rfl rfl rfl)
  clear hd
  have u1 := RX1.out.cell0; have u2 := RX1.out.cell1
  go_wp2_with fail
  clear u1 u2
  refine (rmade_raw b1 A1 n1 c1 8 8 ws1 _ RW1.out rfl (by omega) m1).mono ?_
  rw [← hzb]
  rintro e y3 ⟨_, rfl, hq, hb⟩
  clear RX1 RW1
  obtain ⟨Xb, pb, qb, rfl, _, _, _⟩ := hq.form
  have Q := Lib.hid hq; have B := Lib.hid hb; clear hq hb
  generalize hs : decide ((zb : Int) < 0) = sb at *
  clear hs
  go_upto_region 6 with fail
  obtain ⟨W4, hW⟩ : ∃ W4, W4 = y3.alloc (Obj.cells #[Value.bool sb, Value.slice Xb pb qb] 27) := ⟨_, rfl⟩
  rw [← hW]
  have BXb : Hid (Box W4 y3.heap.size sb (.slice Xb pb qb)) := by rw [hW]; exact Box.new _ _ _
  have IVb : Hid (Iv W4 (.agg #[.bool sb, .slice Xb pb qb]) (zb)) := by rw [hW]; exact Q.out.alloc _
  have hd : Below W2.heap.size W2 W4 := by rw [hW]; exact B.out.alloc B.out.size _
  clear hW Q B
  generalize hgn : y3.heap.size = gb at *
  clear hgn
  replace BXa := Lib.hid (BXa.out.next hd rfl); replace IVa := Lib.hid (iv_next IVa.out hd rfl)
  replace RX2 := Lib.hid (RX2.out.next hd rfl); replace RW2 := Lib.hid (RW2.out.next hd rfl)
  replace DW := Lib.hid (link_below DW.out hd (by have := DW.out.size; omega) rfl rfl rfl rfl)
  clear hd
  have u1 := RX2.out.cell0; have u2 := RX2.out.cell1
  go_wp2_with fail
  clear u1 u2
  refine (rmade_raw b2 A2 n2 c2 8 8 ws2 _ RW2.out rfl (by omega) m2).mono ?_
  rw [← hzc]
  rintro e y5 ⟨_, rfl, hq, hb⟩
  clear RX2 RW2
  obtain ⟨Xc, pc, qc, rfl, _, _, _⟩ := hq.form
  have Q := Lib.hid hq; have B := Lib.hid hb; clear hq hb
  generalize hs : decide ((zc : Int) < 0) = sc at *
  clear hs
  go_upto_region 7 with fail
  obtain ⟨W6, hW⟩ : ∃ W6, W6 = y5.alloc (Obj.cells #[Value.bool sc, Value.slice Xc pc qc] 27) := ⟨_, rfl⟩
  rw [← hW]
  have BXc : Hid (Box W6 y5.heap.size sc (.slice Xc pc qc)) := by rw [hW]; exact Box.new _ _ _
  have IVc : Hid (Iv W6 (.agg #[.bool sc, .slice Xc pc qc]) (zc)) := by rw [hW]; exact Q.out.alloc _
  have hd : Below W4.heap.size W4 W6 := by rw [hW]; exact B.out.alloc B.out.size _
  clear hW Q B
  generalize hgn : y5.heap.size = gc at *
  clear hgn
  replace BXa := Lib.hid (BXa.out.next hd rfl); replace IVa := Lib.hid (iv_next IVa.out hd rfl)
  replace BXb := Lib.hid (BXb.out.next hd rfl); replace IVb := Lib.hid (iv_next IVb.out hd rfl)
  replace DW := Lib.hid (link_below DW.out hd (by have := DW.out.size; omega) rfl rfl rfl rfl)
  clear hd
  have u7a := BXa.out.cell0; have u7b := BXa.out.cell1
  have u8a := BXb.out.cell0; have u8b := BXb.out.cell1
  go_wp2_with fail
  clear u7a u7b u8a u8b
  refine (add_any _ _ (za) (zb) _ IVa.out IVb.out (SZa.out.mono (by omega)) (SZb.out.mono (by omega))).mono ?_
  rintro e y9 ⟨_, rfl, hq, hb⟩
  have SZs : Hid (Sz ((za) + (zb)) 9) := Sz.add SZa.out SZb.out
  obtain ⟨Xs, ps, qs, rfl, _, _, _⟩ := hq.form
  have Q := Lib.hid hq; have B := Lib.hid hb; clear hq hb
  generalize hs : decide (((za) + (zb) : Int) < 0) = ss at *
  clear hs
  go_upto_region 8 with fail
  obtain ⟨W10, hW⟩ : ∃ W10, W10 = y9.alloc (Obj.cells #[Value.bool ss, Value.slice Xs ps qs] 27) := ⟨_, rfl⟩
  rw [← hW]
  have BXs : Hid (Box W10 y9.heap.size ss (.slice Xs ps qs)) := by rw [hW]; exact Box.new _ _ _
  have IVs : Hid (Iv W10 (.agg #[.bool ss, .slice Xs ps qs]) ((za) + (zb))) := by rw [hW]; exact Q.out.alloc _
  have hd : Below W6.heap.size W6 W10 := by rw [hW]; exact B.out.alloc B.out.size _
  clear hW Q B
  generalize hgn : y9.heap.size = gs at *
  clear hgn
  replace BXa := Lib.hid (BXa.out.next hd rfl); replace IVa := Lib.hid (iv_next IVa.out hd rfl)
  replace BXb := Lib.hid (BXb.out.next hd rfl); replace IVb := Lib.hid (iv_next IVb.out hd rfl)
  replace BXc := Lib.hid (BXc.out.next hd rfl); replace IVc := Lib.hid (iv_next IVc.out hd rfl)
  replace DW := Lib.hid (link_below DW.out hd (by have := DW.out.size; omega) rfl rfl rfl rfl)
  clear hd
  have u11a := BXa.out.cell0; have u11b := BXa.out.cell1
  have u12a := BXb.out.cell0; have u12b := BXb.out.cell1
  go_wp2_with fail
  clear u11a u11b u12a u12b
  refine (mul_any _ _ (za) (zb) _ IVa.out IVb.out (SZa.out.mono (by omega)) (SZb.out.mono (by omega))).mono ?_
  rintro e y13 ⟨_, rfl, hq, hb⟩
  have SZp : Hid (Sz ((za) * (zb)) 16) := SZa.out.mul SZb.out
  obtain ⟨Xp, pp, qp, rfl, _, _, _⟩ := hq.form
  have Q := Lib.hid hq; have B := Lib.hid hb; clear hq hb
  generalize hs : decide (((za) * (zb) : Int) < 0) = sp at *
  clear hs
  go_upto_region 9 with fail
  obtain ⟨W14, hW⟩ : ∃ W14, W14 = y13.alloc (Obj.cells #[Value.bool sp, Value.slice Xp pp qp] 27) := ⟨_, rfl⟩
  rw [← hW]
  have BXp : Hid (Box W14 y13.heap.size sp (.slice Xp pp qp)) := by rw [hW]; exact Box.new _ _ _
  have IVp : Hid (Iv W14 (.agg #[.bool sp, .slice Xp pp qp]) ((za) * (zb))) := by rw [hW]; exact Q.out.alloc _
  have hd : Below W10.heap.size W10 W14 := by rw [hW]; exact B.out.alloc B.out.size _
  clear hW Q B
  generalize hgn : y13.heap.size = gp at *
  clear hgn
  replace BXa := Lib.hid (BXa.out.next hd rfl); replace IVa := Lib.hid (iv_next IVa.out hd rfl)
  replace BXb := Lib.hid (BXb.out.next hd rfl); replace IVb := Lib.hid (iv_next IVb.out hd rfl)
  replace BXc := Lib.hid (BXc.out.next hd rfl); replace IVc := Lib.hid (iv_next IVc.out hd rfl)
  replace BXs := Lib.hid (BXs.out.next hd rfl); replace IVs := Lib.hid (iv_next IVs.out hd rfl)
  replace DW := Lib.hid (link_below DW.out hd (by have := DW.out.size; omega) rfl rfl rfl rfl)
  clear hd
  have u15a := BXa.out.cell0; have u15b := BXa.out.cell1
  have u16a := BXb.out.cell0; have u16b := BXb.out.cell1
  go_wp2_with fail
  clear u15a u15b u16a u16b
  refine (sub_any _ _ (za) (zb) _ IVa.out IVb.out (SZa.out.mono (by omega)) (SZb.out.mono (by omega))).mono ?_
  rintro e y17 ⟨_, rfl, hq, hb⟩
  have SZd : Hid (Sz ((za) - (zb)) 9) := Sz.sub SZa.out SZb.out
  obtain ⟨Xd, pd, qd, rfl, _, _, _⟩ := hq.form
  have Q := Lib.hid hq; have B := Lib.hid hb; clear hq hb
  generalize hs : decide (((za) - (zb) : Int) < 0) = sd at *
  clear hs
  go_upto_region 10 with fail
  obtain ⟨W18, hW⟩ : ∃ W18, W18 = y17.alloc (Obj.cells #[Value.bool sd, Value.slice Xd pd qd] 27) := ⟨_, rfl⟩
  rw [← hW]
  have BXd : Hid (Box W18 y17.heap.size sd (.slice Xd pd qd)) := by rw [hW]; exact Box.new _ _ _
  have IVd : Hid (Iv W18 (.agg #[.bool sd, .slice Xd pd qd]) ((za) - (zb))) := by rw [hW]; exact Q.out.alloc _
  have hd : Below W14.heap.size W14 W18 := by rw [hW]; exact B.out.alloc B.out.size _
  clear hW Q B
  generalize hgn : y17.heap.size = gd at *
  clear hgn
  replace BXa := Lib.hid (BXa.out.next hd rfl); replace IVa := Lib.hid (iv_next IVa.out hd rfl)
  replace BXb := Lib.hid (BXb.out.next hd rfl); replace IVb := Lib.hid (iv_next IVb.out hd rfl)
  replace BXc := Lib.hid (BXc.out.next hd rfl); replace IVc := Lib.hid (iv_next IVc.out hd rfl)
  replace BXs := Lib.hid (BXs.out.next hd rfl); replace IVs := Lib.hid (iv_next IVs.out hd rfl)
  replace BXp := Lib.hid (BXp.out.next hd rfl); replace IVp := Lib.hid (iv_next IVp.out hd rfl)
  replace DW := Lib.hid (link_below DW.out hd (by have := DW.out.size; omega) rfl rfl rfl rfl)
  clear hd
  have SR10x17 : Hid (Sz ((zb) + (za)) 9) := (Sz.add (N := 8) (SZb.out.mono (by omega)) (SZa.out.mono (by omega)))
  have SR10x25 : Hid (Sz ((zb) * (za)) 16) := (Sz.mul SZb.out SZa.out)
  have SR10x32 : Hid (Sz ((zb) + ((za) - (zb))) 10) := (Sz.add (N := 9) (SZb.out.mono (by omega)) (SZd.out.mono (by omega)))
  have SR10x41 : Hid (Sz (-(zb)) 8) := (Sz.neg SZb.out)
  have SR10x42 : Hid (Sz ((za) + (-(zb))) 9) := (Sz.add (N := 8) (SZa.out.mono (by omega)) (SR10x41.out.mono (by omega)))
  refine region_run (fun w' => Below W18.heap.size W18 w') [.is (.agg #[.bool ss, .slice Xs ps qs]), .is (Value.bool true), .is (Value.bool false), .is (Value.bool false), .is (.agg #[.bool sp, .slice Xp pp qp]), .is (Value.bool true), .is (Value.bool false), .is (Value.bool false), .is (Value.bool false), .is (.agg #[.bool sd, .slice Xd pd qd]), .is (Value.bool true), .is (Value.bool false), .is (Value.bool false), .is (Value.bool false), .is (.agg #[.bool ss, .slice Xs ps qs]), .is (.agg #[.bool sb, .slice Xb pb qb]), .is (.agg #[.bool sa, .slice Xa pa qa]), .iv ((zb) + (za)), .is (Value.bool true), .is (Value.bool false), .is (Value.bool false), .is (Value.bool false), .is (.agg #[.bool sp, .slice Xp pp qp]), .is (.agg #[.bool sb, .slice Xb pb qb]), .is (.agg #[.bool sa, .slice Xa pa qa]), .iv ((zb) * (za)), .is (Value.bool true), .is (Value.bool false), .is (Value.bool false), .is (Value.bool false), .is (.agg #[.bool sb, .slice Xb pb qb]), .is (.agg #[.bool sd, .slice Xd pd qd]), .iv ((zb) + ((za) - (zb))), .is (.agg #[.bool sa, .slice Xa pa qa]), .is (Value.bool true), .is (Value.bool false), .is (Value.bool false), .is (Value.bool false), .is (.agg #[.bool sd, .slice Xd pd qd]), .is (.agg #[.bool sa, .slice Xa pa qa]), .is (.agg #[.bool sb, .slice Xb pb qb]), .iv (-(zb)), .iv ((za) + (-(zb))), .is (Value.bool true), .is (Value.bool false), .is (Value.bool false)] [32, 33, 34, 35, 36, 37, 38, 39, 40, 41, 42, 43, 44, 45, 46, 47, 48, 49, 50, 51, 52, 53, 54, 55, 56, 57, 58, 59, 60, 61, 62, 63, 64, 65, 66, 67, 68, 69, 70, 71, 72, 73, 74, 75, 76, 77] (by kernel_rfl) (by kernel_rfl) (by kernel_rfl) (by rfl) (by kernel_rfl) ((Below.refl _ _).drew) (fun Q' => ?_) (fun K hK wn hs => ?_)
  · refine ⟨?_, ?_, ?_, ?_, ?_, ?_, ?_, ?_, ?_, ?_, ?_, ?_, ?_, ?_, ?_, ?_, ?_, ?_, ?_, ?_, ?_, ?_, ?_, ?_, ?_, ?_, ?_, ?_, ?_, ?_, ?_, ?_, ?_, ?_, ?_, ?_, ?_, ?_, ?_, ?_, ?_, ?_, ?_, ?_, ?_, ?_, trivial⟩
    · intro a' w' ha hs hw
      have eo11 : a'.tmps[11]? = some (Value.pointer (some ⟨gs, 0, none⟩)) := (ha.rest 11 (by kernel_rfl)).trans rfl
      exact ⟨wanted_none rfl, wp_val (run_load rfl (ev_tmp eo11) (BXs.out.next hs rfl)) ⟨_, rfl, rfl, Below.refl _ _, hs⟩⟩
    · intro a' w' ha hs hw
      obtain ⟨v0, e0, q0⟩ := hw 0 (by kernel_rfl) _ _ _ rfl rfl rfl
      obtain rfl : v0 = .agg #[.bool ss, .slice Xs ps qs] := q0
      exact ⟨wanted_none rfl, call_step rfl Try.func38 (by kernel_rfl) rfl (map_one (ev_tmp e0)) (rvalid_any _ ((za) + (zb)) _ (iv_next IVs.out hs rfl) (SZs.out.mono (by omega))) (fun e w2 he => by obtain ⟨rfl, hb⟩ := he; exact ⟨_, rfl, _, rfl, rfl, hb, hs.trans (hb.mono hs.size)⟩)⟩
    · intro a' w' ha hs hw
      obtain ⟨v1, e1, q1⟩ := hw 1 (by kernel_rfl) _ _ _ rfl rfl rfl
      obtain rfl : v1 = Value.bool true := q1
      exact ⟨wanted_none rfl, wp_val (run_not rfl (ev_tmp e1)) ⟨_, rfl, rfl, Below.refl _ _, hs⟩⟩
    · intro a' w' ha hs hw
      obtain ⟨v2, e2, q2⟩ := hw 2 (by kernel_rfl) _ _ _ rfl rfl rfl
      obtain rfl : v2 = Value.bool false := q2
      exact ⟨wanted_none rfl, wp_val (run_move rfl (ev_tmp e2)) ⟨_, rfl, rfl, Below.refl _ _, hs⟩⟩
    · intro a' w' ha hs hw
      obtain ⟨v3, e3, q3⟩ := hw 3 (by kernel_rfl) _ _ _ rfl rfl rfl
      obtain rfl : v3 = Value.bool false := q3
      have eo12 : a'.tmps[12]? = some (Value.pointer (some ⟨gp, 0, none⟩)) := (ha.rest 12 (by kernel_rfl)).trans rfl
      exact ⟨wanted_some rfl rfl rfl e3, wp_val (run_load rfl (ev_tmp eo12) (BXp.out.next hs rfl)) ⟨_, rfl, rfl, Below.refl _ _, hs⟩⟩
    · intro a' w' ha hs hw
      obtain ⟨v3, e3, q3⟩ := hw 3 (by kernel_rfl) _ _ _ rfl rfl rfl
      obtain rfl : v3 = Value.bool false := q3
      obtain ⟨v4, e4, q4⟩ := hw 4 (by kernel_rfl) _ _ _ rfl rfl rfl
      obtain rfl : v4 = .agg #[.bool sp, .slice Xp pp qp] := q4
      exact ⟨wanted_some rfl rfl rfl e3, call_step rfl Try.func38 (by kernel_rfl) rfl (map_one (ev_tmp e4)) (rvalid_any _ ((za) * (zb)) _ (iv_next IVp.out hs rfl) (SZp.out.mono (by omega))) (fun e w2 he => by obtain ⟨rfl, hb⟩ := he; exact ⟨_, rfl, _, rfl, rfl, hb, hs.trans (hb.mono hs.size)⟩)⟩
    · intro a' w' ha hs hw
      obtain ⟨v3, e3, q3⟩ := hw 3 (by kernel_rfl) _ _ _ rfl rfl rfl
      obtain rfl : v3 = Value.bool false := q3
      obtain ⟨v5, e5, q5⟩ := hw 5 (by kernel_rfl) _ _ _ rfl rfl rfl
      obtain rfl : v5 = Value.bool true := q5
      exact ⟨wanted_some rfl rfl rfl e3, wp_val (run_not rfl (ev_tmp e5)) ⟨_, rfl, rfl, Below.refl _ _, hs⟩⟩
    · intro a' w' ha hs hw
      obtain ⟨v3, e3, q3⟩ := hw 3 (by kernel_rfl) _ _ _ rfl rfl rfl
      obtain rfl : v3 = Value.bool false := q3
      obtain ⟨v6, e6, q6⟩ := hw 6 (by kernel_rfl) _ _ _ rfl rfl rfl
      obtain rfl : v6 = Value.bool false := q6
      exact ⟨wanted_none rfl, wp_val (run_pick (b := false) rfl (ev_tmp e3) (ev_tmp e6)) ⟨_, rfl, rfl, Below.refl _ _, hs⟩⟩
    · intro a' w' ha hs hw
      obtain ⟨v7, e7, q7⟩ := hw 7 (by kernel_rfl) _ _ _ rfl rfl rfl
      obtain rfl : v7 = Value.bool false := q7
      exact ⟨wanted_none rfl, wp_val (run_move rfl (ev_tmp e7)) ⟨_, rfl, rfl, Below.refl _ _, hs⟩⟩
    · intro a' w' ha hs hw
      obtain ⟨v8, e8, q8⟩ := hw 8 (by kernel_rfl) _ _ _ rfl rfl rfl
      obtain rfl : v8 = Value.bool false := q8
      have eo13 : a'.tmps[13]? = some (Value.pointer (some ⟨gd, 0, none⟩)) := (ha.rest 13 (by kernel_rfl)).trans rfl
      exact ⟨wanted_some rfl rfl rfl e8, wp_val (run_load rfl (ev_tmp eo13) (BXd.out.next hs rfl)) ⟨_, rfl, rfl, Below.refl _ _, hs⟩⟩
    · intro a' w' ha hs hw
      obtain ⟨v8, e8, q8⟩ := hw 8 (by kernel_rfl) _ _ _ rfl rfl rfl
      obtain rfl : v8 = Value.bool false := q8
      obtain ⟨v9, e9, q9⟩ := hw 9 (by kernel_rfl) _ _ _ rfl rfl rfl
      obtain rfl : v9 = .agg #[.bool sd, .slice Xd pd qd] := q9
      exact ⟨wanted_some rfl rfl rfl e8, call_step rfl Try.func38 (by kernel_rfl) rfl (map_one (ev_tmp e9)) (rvalid_any _ ((za) - (zb)) _ (iv_next IVd.out hs rfl) (SZd.out.mono (by omega))) (fun e w2 he => by obtain ⟨rfl, hb⟩ := he; exact ⟨_, rfl, _, rfl, rfl, hb, hs.trans (hb.mono hs.size)⟩)⟩
    · intro a' w' ha hs hw
      obtain ⟨v8, e8, q8⟩ := hw 8 (by kernel_rfl) _ _ _ rfl rfl rfl
      obtain rfl : v8 = Value.bool false := q8
      obtain ⟨v10, e10, q10⟩ := hw 10 (by kernel_rfl) _ _ _ rfl rfl rfl
      obtain rfl : v10 = Value.bool true := q10
      exact ⟨wanted_some rfl rfl rfl e8, wp_val (run_not rfl (ev_tmp e10)) ⟨_, rfl, rfl, Below.refl _ _, hs⟩⟩
    · intro a' w' ha hs hw
      obtain ⟨v8, e8, q8⟩ := hw 8 (by kernel_rfl) _ _ _ rfl rfl rfl
      obtain rfl : v8 = Value.bool false := q8
      obtain ⟨v11, e11, q11⟩ := hw 11 (by kernel_rfl) _ _ _ rfl rfl rfl
      obtain rfl : v11 = Value.bool false := q11
      exact ⟨wanted_none rfl, wp_val (run_pick (b := false) rfl (ev_tmp e8) (ev_tmp e11)) ⟨_, rfl, rfl, Below.refl _ _, hs⟩⟩
    · intro a' w' ha hs hw
      obtain ⟨v12, e12, q12⟩ := hw 12 (by kernel_rfl) _ _ _ rfl rfl rfl
      obtain rfl : v12 = Value.bool false := q12
      exact ⟨wanted_none rfl, wp_val (run_move rfl (ev_tmp e12)) ⟨_, rfl, rfl, Below.refl _ _, hs⟩⟩
    · intro a' w' ha hs hw
      obtain ⟨v13, e13, q13⟩ := hw 13 (by kernel_rfl) _ _ _ rfl rfl rfl
      obtain rfl : v13 = Value.bool false := q13
      have eo11 : a'.tmps[11]? = some (Value.pointer (some ⟨gs, 0, none⟩)) := (ha.rest 11 (by kernel_rfl)).trans rfl
      exact ⟨wanted_some rfl rfl rfl e13, wp_val (run_load rfl (ev_tmp eo11) (BXs.out.next hs rfl)) ⟨_, rfl, rfl, Below.refl _ _, hs⟩⟩
    · intro a' w' ha hs hw
      obtain ⟨v13, e13, q13⟩ := hw 13 (by kernel_rfl) _ _ _ rfl rfl rfl
      obtain rfl : v13 = Value.bool false := q13
      have eo9 : a'.tmps[9]? = some (Value.pointer (some ⟨gb, 0, none⟩)) := (ha.rest 9 (by kernel_rfl)).trans rfl
      exact ⟨wanted_some rfl rfl rfl e13, wp_val (run_load rfl (ev_tmp eo9) (BXb.out.next hs rfl)) ⟨_, rfl, rfl, Below.refl _ _, hs⟩⟩
    · intro a' w' ha hs hw
      obtain ⟨v13, e13, q13⟩ := hw 13 (by kernel_rfl) _ _ _ rfl rfl rfl
      obtain rfl : v13 = Value.bool false := q13
      have eo8 : a'.tmps[8]? = some (Value.pointer (some ⟨ga, 0, none⟩)) := (ha.rest 8 (by kernel_rfl)).trans rfl
      exact ⟨wanted_some rfl rfl rfl e13, wp_val (run_load rfl (ev_tmp eo8) (BXa.out.next hs rfl)) ⟨_, rfl, rfl, Below.refl _ _, hs⟩⟩
    · intro a' w' ha hs hw
      obtain ⟨v13, e13, q13⟩ := hw 13 (by kernel_rfl) _ _ _ rfl rfl rfl
      obtain rfl : v13 = Value.bool false := q13
      obtain ⟨v15, e15, q15⟩ := hw 15 (by kernel_rfl) _ _ _ rfl rfl rfl
      obtain rfl : v15 = .agg #[.bool sb, .slice Xb pb qb] := q15
      obtain ⟨v16, e16, q16⟩ := hw 16 (by kernel_rfl) _ _ _ rfl rfl rfl
      obtain rfl : v16 = .agg #[.bool sa, .slice Xa pa qa] := q16
      exact ⟨wanted_some rfl rfl rfl e13, call_step rfl Try.func26 (by kernel_rfl) rfl (map_two (ev_tmp e15) (ev_tmp e16)) (add_any _ _ (zb) (za) _ (iv_next IVb.out hs rfl) (iv_next IVa.out hs rfl) (SZb.out.mono (by omega)) (SZa.out.mono (by omega))) (fun e w2 he => by obtain ⟨v, rfl, hv, hb⟩ := he; exact ⟨v, rfl, v, rfl, hv, hb, hs.trans (hb.mono hs.size)⟩)⟩
    · intro a' w' ha hs hw
      obtain ⟨v13, e13, q13⟩ := hw 13 (by kernel_rfl) _ _ _ rfl rfl rfl
      obtain rfl : v13 = Value.bool false := q13
      obtain ⟨v14, e14, q14⟩ := hw 14 (by kernel_rfl) _ _ _ rfl rfl rfl
      obtain rfl : v14 = .agg #[.bool ss, .slice Xs ps qs] := q14
      obtain ⟨v17, e17, q17⟩ := hw 17 (by kernel_rfl) _ _ _ rfl rfl rfl
      replace q17 : Iv w' v17 ((zb) + (za)) := q17
      exact ⟨wanted_some rfl rfl rfl e13, call_step rfl Try.func19 (by kernel_rfl) rfl (map_two (ev_tmp e14) (ev_tmp e17)) (same_true _ _ ((za) + (zb)) ((zb) + (za)) _ (iv_next IVs.out hs rfl) q17 (SZs.out.mono (by omega)) (by grind)) (fun e w2 he => by obtain ⟨rfl, hb⟩ := he; exact ⟨_, rfl, _, rfl, rfl, hb, hs.trans (hb.mono hs.size)⟩)⟩
    · intro a' w' ha hs hw
      obtain ⟨v13, e13, q13⟩ := hw 13 (by kernel_rfl) _ _ _ rfl rfl rfl
      obtain rfl : v13 = Value.bool false := q13
      obtain ⟨v18, e18, q18⟩ := hw 18 (by kernel_rfl) _ _ _ rfl rfl rfl
      obtain rfl : v18 = Value.bool true := q18
      exact ⟨wanted_some rfl rfl rfl e13, wp_val (run_not rfl (ev_tmp e18)) ⟨_, rfl, rfl, Below.refl _ _, hs⟩⟩
    · intro a' w' ha hs hw
      obtain ⟨v13, e13, q13⟩ := hw 13 (by kernel_rfl) _ _ _ rfl rfl rfl
      obtain rfl : v13 = Value.bool false := q13
      obtain ⟨v19, e19, q19⟩ := hw 19 (by kernel_rfl) _ _ _ rfl rfl rfl
      obtain rfl : v19 = Value.bool false := q19
      exact ⟨wanted_none rfl, wp_val (run_pick (b := false) rfl (ev_tmp e13) (ev_tmp e19)) ⟨_, rfl, rfl, Below.refl _ _, hs⟩⟩
    · intro a' w' ha hs hw
      obtain ⟨v20, e20, q20⟩ := hw 20 (by kernel_rfl) _ _ _ rfl rfl rfl
      obtain rfl : v20 = Value.bool false := q20
      exact ⟨wanted_none rfl, wp_val (run_move rfl (ev_tmp e20)) ⟨_, rfl, rfl, Below.refl _ _, hs⟩⟩
    · intro a' w' ha hs hw
      obtain ⟨v21, e21, q21⟩ := hw 21 (by kernel_rfl) _ _ _ rfl rfl rfl
      obtain rfl : v21 = Value.bool false := q21
      have eo12 : a'.tmps[12]? = some (Value.pointer (some ⟨gp, 0, none⟩)) := (ha.rest 12 (by kernel_rfl)).trans rfl
      exact ⟨wanted_some rfl rfl rfl e21, wp_val (run_load rfl (ev_tmp eo12) (BXp.out.next hs rfl)) ⟨_, rfl, rfl, Below.refl _ _, hs⟩⟩
    · intro a' w' ha hs hw
      obtain ⟨v21, e21, q21⟩ := hw 21 (by kernel_rfl) _ _ _ rfl rfl rfl
      obtain rfl : v21 = Value.bool false := q21
      have eo9 : a'.tmps[9]? = some (Value.pointer (some ⟨gb, 0, none⟩)) := (ha.rest 9 (by kernel_rfl)).trans rfl
      exact ⟨wanted_some rfl rfl rfl e21, wp_val (run_load rfl (ev_tmp eo9) (BXb.out.next hs rfl)) ⟨_, rfl, rfl, Below.refl _ _, hs⟩⟩
    · intro a' w' ha hs hw
      obtain ⟨v21, e21, q21⟩ := hw 21 (by kernel_rfl) _ _ _ rfl rfl rfl
      obtain rfl : v21 = Value.bool false := q21
      have eo8 : a'.tmps[8]? = some (Value.pointer (some ⟨ga, 0, none⟩)) := (ha.rest 8 (by kernel_rfl)).trans rfl
      exact ⟨wanted_some rfl rfl rfl e21, wp_val (run_load rfl (ev_tmp eo8) (BXa.out.next hs rfl)) ⟨_, rfl, rfl, Below.refl _ _, hs⟩⟩
    · intro a' w' ha hs hw
      obtain ⟨v21, e21, q21⟩ := hw 21 (by kernel_rfl) _ _ _ rfl rfl rfl
      obtain rfl : v21 = Value.bool false := q21
      obtain ⟨v23, e23, q23⟩ := hw 23 (by kernel_rfl) _ _ _ rfl rfl rfl
      obtain rfl : v23 = .agg #[.bool sb, .slice Xb pb qb] := q23
      obtain ⟨v24, e24, q24⟩ := hw 24 (by kernel_rfl) _ _ _ rfl rfl rfl
      obtain rfl : v24 = .agg #[.bool sa, .slice Xa pa qa] := q24
      exact ⟨wanted_some rfl rfl rfl e21, call_step rfl Try.func30 (by kernel_rfl) rfl (map_two (ev_tmp e23) (ev_tmp e24)) (mul_any _ _ (zb) (za) _ (iv_next IVb.out hs rfl) (iv_next IVa.out hs rfl) (SZb.out.mono (by omega)) (SZa.out.mono (by omega))) (fun e w2 he => by obtain ⟨v, rfl, hv, hb⟩ := he; exact ⟨v, rfl, v, rfl, hv, hb, hs.trans (hb.mono hs.size)⟩)⟩
    · intro a' w' ha hs hw
      obtain ⟨v21, e21, q21⟩ := hw 21 (by kernel_rfl) _ _ _ rfl rfl rfl
      obtain rfl : v21 = Value.bool false := q21
      obtain ⟨v22, e22, q22⟩ := hw 22 (by kernel_rfl) _ _ _ rfl rfl rfl
      obtain rfl : v22 = .agg #[.bool sp, .slice Xp pp qp] := q22
      obtain ⟨v25, e25, q25⟩ := hw 25 (by kernel_rfl) _ _ _ rfl rfl rfl
      replace q25 : Iv w' v25 ((zb) * (za)) := q25
      exact ⟨wanted_some rfl rfl rfl e21, call_step rfl Try.func19 (by kernel_rfl) rfl (map_two (ev_tmp e22) (ev_tmp e25)) (same_true _ _ ((za) * (zb)) ((zb) * (za)) _ (iv_next IVp.out hs rfl) q25 (SZp.out.mono (by omega)) (by grind)) (fun e w2 he => by obtain ⟨rfl, hb⟩ := he; exact ⟨_, rfl, _, rfl, rfl, hb, hs.trans (hb.mono hs.size)⟩)⟩
    · intro a' w' ha hs hw
      obtain ⟨v21, e21, q21⟩ := hw 21 (by kernel_rfl) _ _ _ rfl rfl rfl
      obtain rfl : v21 = Value.bool false := q21
      obtain ⟨v26, e26, q26⟩ := hw 26 (by kernel_rfl) _ _ _ rfl rfl rfl
      obtain rfl : v26 = Value.bool true := q26
      exact ⟨wanted_some rfl rfl rfl e21, wp_val (run_not rfl (ev_tmp e26)) ⟨_, rfl, rfl, Below.refl _ _, hs⟩⟩
    · intro a' w' ha hs hw
      obtain ⟨v21, e21, q21⟩ := hw 21 (by kernel_rfl) _ _ _ rfl rfl rfl
      obtain rfl : v21 = Value.bool false := q21
      obtain ⟨v27, e27, q27⟩ := hw 27 (by kernel_rfl) _ _ _ rfl rfl rfl
      obtain rfl : v27 = Value.bool false := q27
      exact ⟨wanted_none rfl, wp_val (run_pick (b := false) rfl (ev_tmp e21) (ev_tmp e27)) ⟨_, rfl, rfl, Below.refl _ _, hs⟩⟩
    · intro a' w' ha hs hw
      obtain ⟨v28, e28, q28⟩ := hw 28 (by kernel_rfl) _ _ _ rfl rfl rfl
      obtain rfl : v28 = Value.bool false := q28
      exact ⟨wanted_none rfl, wp_val (run_move rfl (ev_tmp e28)) ⟨_, rfl, rfl, Below.refl _ _, hs⟩⟩
    · intro a' w' ha hs hw
      obtain ⟨v29, e29, q29⟩ := hw 29 (by kernel_rfl) _ _ _ rfl rfl rfl
      obtain rfl : v29 = Value.bool false := q29
      have eo9 : a'.tmps[9]? = some (Value.pointer (some ⟨gb, 0, none⟩)) := (ha.rest 9 (by kernel_rfl)).trans rfl
      exact ⟨wanted_some rfl rfl rfl e29, wp_val (run_load rfl (ev_tmp eo9) (BXb.out.next hs rfl)) ⟨_, rfl, rfl, Below.refl _ _, hs⟩⟩
    · intro a' w' ha hs hw
      obtain ⟨v29, e29, q29⟩ := hw 29 (by kernel_rfl) _ _ _ rfl rfl rfl
      obtain rfl : v29 = Value.bool false := q29
      have eo13 : a'.tmps[13]? = some (Value.pointer (some ⟨gd, 0, none⟩)) := (ha.rest 13 (by kernel_rfl)).trans rfl
      exact ⟨wanted_some rfl rfl rfl e29, wp_val (run_load rfl (ev_tmp eo13) (BXd.out.next hs rfl)) ⟨_, rfl, rfl, Below.refl _ _, hs⟩⟩
    · intro a' w' ha hs hw
      obtain ⟨v29, e29, q29⟩ := hw 29 (by kernel_rfl) _ _ _ rfl rfl rfl
      obtain rfl : v29 = Value.bool false := q29
      obtain ⟨v30, e30, q30⟩ := hw 30 (by kernel_rfl) _ _ _ rfl rfl rfl
      obtain rfl : v30 = .agg #[.bool sb, .slice Xb pb qb] := q30
      obtain ⟨v31, e31, q31⟩ := hw 31 (by kernel_rfl) _ _ _ rfl rfl rfl
      obtain rfl : v31 = .agg #[.bool sd, .slice Xd pd qd] := q31
      exact ⟨wanted_some rfl rfl rfl e29, call_step rfl Try.func26 (by kernel_rfl) rfl (map_two (ev_tmp e30) (ev_tmp e31)) (add_any _ _ (zb) ((za) - (zb)) _ (iv_next IVb.out hs rfl) (iv_next IVd.out hs rfl) (SZb.out.mono (by omega)) (SZd.out.mono (by omega))) (fun e w2 he => by obtain ⟨v, rfl, hv, hb⟩ := he; exact ⟨v, rfl, v, rfl, hv, hb, hs.trans (hb.mono hs.size)⟩)⟩
    · intro a' w' ha hs hw
      obtain ⟨v29, e29, q29⟩ := hw 29 (by kernel_rfl) _ _ _ rfl rfl rfl
      obtain rfl : v29 = Value.bool false := q29
      have eo8 : a'.tmps[8]? = some (Value.pointer (some ⟨ga, 0, none⟩)) := (ha.rest 8 (by kernel_rfl)).trans rfl
      exact ⟨wanted_some rfl rfl rfl e29, wp_val (run_load rfl (ev_tmp eo8) (BXa.out.next hs rfl)) ⟨_, rfl, rfl, Below.refl _ _, hs⟩⟩
    · intro a' w' ha hs hw
      obtain ⟨v29, e29, q29⟩ := hw 29 (by kernel_rfl) _ _ _ rfl rfl rfl
      obtain rfl : v29 = Value.bool false := q29
      obtain ⟨v32, e32, q32⟩ := hw 32 (by kernel_rfl) _ _ _ rfl rfl rfl
      replace q32 : Iv w' v32 ((zb) + ((za) - (zb))) := q32
      obtain ⟨v33, e33, q33⟩ := hw 33 (by kernel_rfl) _ _ _ rfl rfl rfl
      obtain rfl : v33 = .agg #[.bool sa, .slice Xa pa qa] := q33
      exact ⟨wanted_some rfl rfl rfl e29, call_step rfl Try.func19 (by kernel_rfl) rfl (map_two (ev_tmp e32) (ev_tmp e33)) (same_true _ _ ((zb) + ((za) - (zb))) (za) _ q32 (iv_next IVa.out hs rfl) (SR10x32.out.mono (by omega)) (by grind)) (fun e w2 he => by obtain ⟨rfl, hb⟩ := he; exact ⟨_, rfl, _, rfl, rfl, hb, hs.trans (hb.mono hs.size)⟩)⟩
    · intro a' w' ha hs hw
      obtain ⟨v29, e29, q29⟩ := hw 29 (by kernel_rfl) _ _ _ rfl rfl rfl
      obtain rfl : v29 = Value.bool false := q29
      obtain ⟨v34, e34, q34⟩ := hw 34 (by kernel_rfl) _ _ _ rfl rfl rfl
      obtain rfl : v34 = Value.bool true := q34
      exact ⟨wanted_some rfl rfl rfl e29, wp_val (run_not rfl (ev_tmp e34)) ⟨_, rfl, rfl, Below.refl _ _, hs⟩⟩
    · intro a' w' ha hs hw
      obtain ⟨v29, e29, q29⟩ := hw 29 (by kernel_rfl) _ _ _ rfl rfl rfl
      obtain rfl : v29 = Value.bool false := q29
      obtain ⟨v35, e35, q35⟩ := hw 35 (by kernel_rfl) _ _ _ rfl rfl rfl
      obtain rfl : v35 = Value.bool false := q35
      exact ⟨wanted_none rfl, wp_val (run_pick (b := false) rfl (ev_tmp e29) (ev_tmp e35)) ⟨_, rfl, rfl, Below.refl _ _, hs⟩⟩
    · intro a' w' ha hs hw
      obtain ⟨v36, e36, q36⟩ := hw 36 (by kernel_rfl) _ _ _ rfl rfl rfl
      obtain rfl : v36 = Value.bool false := q36
      exact ⟨wanted_none rfl, wp_val (run_move rfl (ev_tmp e36)) ⟨_, rfl, rfl, Below.refl _ _, hs⟩⟩
    · intro a' w' ha hs hw
      obtain ⟨v37, e37, q37⟩ := hw 37 (by kernel_rfl) _ _ _ rfl rfl rfl
      obtain rfl : v37 = Value.bool false := q37
      have eo13 : a'.tmps[13]? = some (Value.pointer (some ⟨gd, 0, none⟩)) := (ha.rest 13 (by kernel_rfl)).trans rfl
      exact ⟨wanted_some rfl rfl rfl e37, wp_val (run_load rfl (ev_tmp eo13) (BXd.out.next hs rfl)) ⟨_, rfl, rfl, Below.refl _ _, hs⟩⟩
    · intro a' w' ha hs hw
      obtain ⟨v37, e37, q37⟩ := hw 37 (by kernel_rfl) _ _ _ rfl rfl rfl
      obtain rfl : v37 = Value.bool false := q37
      have eo8 : a'.tmps[8]? = some (Value.pointer (some ⟨ga, 0, none⟩)) := (ha.rest 8 (by kernel_rfl)).trans rfl
      exact ⟨wanted_some rfl rfl rfl e37, wp_val (run_load rfl (ev_tmp eo8) (BXa.out.next hs rfl)) ⟨_, rfl, rfl, Below.refl _ _, hs⟩⟩
    · intro a' w' ha hs hw
      obtain ⟨v37, e37, q37⟩ := hw 37 (by kernel_rfl) _ _ _ rfl rfl rfl
      obtain rfl : v37 = Value.bool false := q37
      have eo9 : a'.tmps[9]? = some (Value.pointer (some ⟨gb, 0, none⟩)) := (ha.rest 9 (by kernel_rfl)).trans rfl
      exact ⟨wanted_some rfl rfl rfl e37, wp_val (run_load rfl (ev_tmp eo9) (BXb.out.next hs rfl)) ⟨_, rfl, rfl, Below.refl _ _, hs⟩⟩
    · intro a' w' ha hs hw
      obtain ⟨v37, e37, q37⟩ := hw 37 (by kernel_rfl) _ _ _ rfl rfl rfl
      obtain rfl : v37 = Value.bool false := q37
      obtain ⟨v40, e40, q40⟩ := hw 40 (by kernel_rfl) _ _ _ rfl rfl rfl
      obtain rfl : v40 = .agg #[.bool sb, .slice Xb pb qb] := q40
      exact ⟨wanted_some rfl rfl rfl e37, call_step rfl Try.func39 (by kernel_rfl) rfl (map_one (ev_tmp e40)) (neg_any _ (zb) _ (iv_next IVb.out hs rfl) (SZb.out.mono (by omega))) (fun e w2 he => by obtain ⟨v, rfl, hv, hb⟩ := he; exact ⟨v, rfl, v, rfl, hv, hb, hs.trans (hb.mono hs.size)⟩)⟩
    · intro a' w' ha hs hw
      obtain ⟨v37, e37, q37⟩ := hw 37 (by kernel_rfl) _ _ _ rfl rfl rfl
      obtain rfl : v37 = Value.bool false := q37
      obtain ⟨v39, e39, q39⟩ := hw 39 (by kernel_rfl) _ _ _ rfl rfl rfl
      obtain rfl : v39 = .agg #[.bool sa, .slice Xa pa qa] := q39
      obtain ⟨v41, e41, q41⟩ := hw 41 (by kernel_rfl) _ _ _ rfl rfl rfl
      replace q41 : Iv w' v41 (-(zb)) := q41
      exact ⟨wanted_some rfl rfl rfl e37, call_step rfl Try.func26 (by kernel_rfl) rfl (map_two (ev_tmp e39) (ev_tmp e41)) (add_any _ _ (za) (-(zb)) _ (iv_next IVa.out hs rfl) q41 (SZa.out.mono (by omega)) (SR10x41.out.mono (by omega))) (fun e w2 he => by obtain ⟨v, rfl, hv, hb⟩ := he; exact ⟨v, rfl, v, rfl, hv, hb, hs.trans (hb.mono hs.size)⟩)⟩
    · intro a' w' ha hs hw
      obtain ⟨v37, e37, q37⟩ := hw 37 (by kernel_rfl) _ _ _ rfl rfl rfl
      obtain rfl : v37 = Value.bool false := q37
      obtain ⟨v38, e38, q38⟩ := hw 38 (by kernel_rfl) _ _ _ rfl rfl rfl
      obtain rfl : v38 = .agg #[.bool sd, .slice Xd pd qd] := q38
      obtain ⟨v42, e42, q42⟩ := hw 42 (by kernel_rfl) _ _ _ rfl rfl rfl
      replace q42 : Iv w' v42 ((za) + (-(zb))) := q42
      exact ⟨wanted_some rfl rfl rfl e37, call_step rfl Try.func19 (by kernel_rfl) rfl (map_two (ev_tmp e38) (ev_tmp e42)) (same_true _ _ ((za) - (zb)) ((za) + (-(zb))) _ (iv_next IVd.out hs rfl) q42 (SZd.out.mono (by omega)) (by grind)) (fun e w2 he => by obtain ⟨rfl, hb⟩ := he; exact ⟨_, rfl, _, rfl, rfl, hb, hs.trans (hb.mono hs.size)⟩)⟩
    · intro a' w' ha hs hw
      obtain ⟨v37, e37, q37⟩ := hw 37 (by kernel_rfl) _ _ _ rfl rfl rfl
      obtain rfl : v37 = Value.bool false := q37
      obtain ⟨v43, e43, q43⟩ := hw 43 (by kernel_rfl) _ _ _ rfl rfl rfl
      obtain rfl : v43 = Value.bool true := q43
      exact ⟨wanted_some rfl rfl rfl e37, wp_val (run_not rfl (ev_tmp e43)) ⟨_, rfl, rfl, Below.refl _ _, hs⟩⟩
    · intro a' w' ha hs hw
      obtain ⟨v37, e37, q37⟩ := hw 37 (by kernel_rfl) _ _ _ rfl rfl rfl
      obtain rfl : v37 = Value.bool false := q37
      obtain ⟨v44, e44, q44⟩ := hw 44 (by kernel_rfl) _ _ _ rfl rfl rfl
      obtain rfl : v44 = Value.bool false := q44
      exact ⟨wanted_none rfl, wp_val (run_pick (b := false) rfl (ev_tmp e37) (ev_tmp e44)) ⟨_, rfl, rfl, Below.refl _ _, hs⟩⟩
  simp only [allK]
  intro r10x0 _ r10x1 _ r10x2 _ r10x3 _ r10x4 _
  simp only [setAll, List.set_cons_succ, List.set_cons_zero]
  refine hK _ _ ?_
  clear hK K
  clear SR10x17
  clear SR10x25
  clear SR10x32
  clear SR10x41
  clear SR10x42
  replace BXa := Lib.hid (BXa.out.next hs rfl); replace IVa := Lib.hid (iv_next IVa.out hs rfl)
  replace BXb := Lib.hid (BXb.out.next hs rfl); replace IVb := Lib.hid (iv_next IVb.out hs rfl)
  replace BXc := Lib.hid (BXc.out.next hs rfl); replace IVc := Lib.hid (iv_next IVc.out hs rfl)
  replace BXs := Lib.hid (BXs.out.next hs rfl); replace IVs := Lib.hid (iv_next IVs.out hs rfl)
  replace BXp := Lib.hid (BXp.out.next hs rfl); replace IVp := Lib.hid (iv_next IVp.out hs rfl)
  replace BXd := Lib.hid (BXd.out.next hs rfl); replace IVd := Lib.hid (iv_next IVd.out hs rfl)
  replace DW := Lib.hid (link_below DW.out hs (by have := DW.out.size; omega) rfl rfl rfl rfl)
  clear hs
  go_upto_region 12 with fail
  have SR12x2 : Hid (Sz (((za) + (zb)) + (zc)) 10) := (Sz.add (N := 9) (SZs.out.mono (by omega)) (SZc.out.mono (by omega)))
  have SR12x6 : Hid (Sz ((zb) + (zc)) 9) := (Sz.add (N := 8) (SZb.out.mono (by omega)) (SZc.out.mono (by omega)))
  have SR12x7 : Hid (Sz ((za) + ((zb) + (zc))) 10) := (Sz.add (N := 9) (SZa.out.mono (by omega)) (SR12x6.out.mono (by omega)))
  have SR12x13 : Hid (Sz (((za) * (zb)) * (zc)) 24) := (Sz.mul SZp.out SZc.out)
  have SR12x17 : Hid (Sz ((zb) * (zc)) 16) := (Sz.mul SZb.out SZc.out)
  have SR12x18 : Hid (Sz ((za) * ((zb) * (zc))) 24) := (Sz.mul SZa.out SR12x17.out)
  have SR12x25 : Hid (Sz (((za) + (zb)) * (zc)) 17) := (Sz.mul SZs.out SZc.out)
  have SR12x28 : Hid (Sz ((za) * (zc)) 16) := (Sz.mul SZa.out SZc.out)
  have SR12x31 : Hid (Sz ((zb) * (zc)) 16) := (Sz.mul SZb.out SZc.out)
  have SR12x32 : Hid (Sz (((za) * (zc)) + ((zb) * (zc))) 17) := (Sz.add (N := 16) (SR12x28.out.mono (by omega)) (SR12x31.out.mono (by omega)))
  refine region_run (fun w' => Below wn.heap.size wn w') [.is (.agg #[.bool ss, .slice Xs ps qs]), .is (.agg #[.bool sc, .slice Xc pc qc]), .iv (((za) + (zb)) + (zc)), .is (.agg #[.bool sa, .slice Xa pa qa]), .is (.agg #[.bool sb, .slice Xb pb qb]), .is (.agg #[.bool sc, .slice Xc pc qc]), .iv ((zb) + (zc)), .iv ((za) + ((zb) + (zc))), .is (Value.bool true), .is (Value.bool false), .is (Value.bool false), .is (.agg #[.bool sp, .slice Xp pp qp]), .is (.agg #[.bool sc, .slice Xc pc qc]), .iv (((za) * (zb)) * (zc)), .is (.agg #[.bool sa, .slice Xa pa qa]), .is (.agg #[.bool sb, .slice Xb pb qb]), .is (.agg #[.bool sc, .slice Xc pc qc]), .iv ((zb) * (zc)), .iv ((za) * ((zb) * (zc))), .is (Value.bool true), .is (Value.bool false), .is (Value.bool false), .is (Value.bool false), .is (.agg #[.bool ss, .slice Xs ps qs]), .is (.agg #[.bool sc, .slice Xc pc qc]), .iv (((za) + (zb)) * (zc)), .is (.agg #[.bool sa, .slice Xa pa qa]), .is (.agg #[.bool sc, .slice Xc pc qc]), .iv ((za) * (zc)), .is (.agg #[.bool sb, .slice Xb pb qb]), .is (.agg #[.bool sc, .slice Xc pc qc]), .iv ((zb) * (zc)), .iv (((za) * (zc)) + ((zb) * (zc))), .is (Value.bool true), .is (Value.bool false), .is (Value.bool false)] [78, 79, 80, 81, 82, 83, 84, 85, 86, 87, 88, 89, 90, 91, 92, 93, 94, 95, 96, 97, 98, 99, 100, 101, 102, 103, 104, 105, 106, 107, 108, 109, 110, 111, 112, 113] (by kernel_rfl) (by kernel_rfl) (by kernel_rfl) (by rfl) (by kernel_rfl) ((Below.refl _ _).drew) (fun Q' => ?_) (fun K hK wn hs => ?_)
  · refine ⟨?_, ?_, ?_, ?_, ?_, ?_, ?_, ?_, ?_, ?_, ?_, ?_, ?_, ?_, ?_, ?_, ?_, ?_, ?_, ?_, ?_, ?_, ?_, ?_, ?_, ?_, ?_, ?_, ?_, ?_, ?_, ?_, ?_, ?_, ?_, ?_, trivial⟩
    · intro a' w' ha hs hw
      have eo11 : a'.tmps[11]? = some (Value.pointer (some ⟨gs, 0, none⟩)) := (ha.rest 11 (by kernel_rfl)).trans rfl
      exact ⟨wanted_none rfl, wp_val (run_load rfl (ev_tmp eo11) (BXs.out.next hs rfl)) ⟨_, rfl, rfl, Below.refl _ _, hs⟩⟩
    · intro a' w' ha hs hw
      have eo10 : a'.tmps[10]? = some (Value.pointer (some ⟨gc, 0, none⟩)) := (ha.rest 10 (by kernel_rfl)).trans rfl
      exact ⟨wanted_none rfl, wp_val (run_load rfl (ev_tmp eo10) (BXc.out.next hs rfl)) ⟨_, rfl, rfl, Below.refl _ _, hs⟩⟩
    · intro a' w' ha hs hw
      obtain ⟨v0, e0, q0⟩ := hw 0 (by kernel_rfl) _ _ _ rfl rfl rfl
      obtain rfl : v0 = .agg #[.bool ss, .slice Xs ps qs] := q0
      obtain ⟨v1, e1, q1⟩ := hw 1 (by kernel_rfl) _ _ _ rfl rfl rfl
      obtain rfl : v1 = .agg #[.bool sc, .slice Xc pc qc] := q1
      exact ⟨wanted_none rfl, call_step rfl Try.func26 (by kernel_rfl) rfl (map_two (ev_tmp e0) (ev_tmp e1)) (add_any _ _ ((za) + (zb)) (zc) _ (iv_next IVs.out hs rfl) (iv_next IVc.out hs rfl) (SZs.out.mono (by omega)) (SZc.out.mono (by omega))) (fun e w2 he => by obtain ⟨v, rfl, hv, hb⟩ := he; exact ⟨v, rfl, v, rfl, hv, hb, hs.trans (hb.mono hs.size)⟩)⟩
    · intro a' w' ha hs hw
      have eo8 : a'.tmps[8]? = some (Value.pointer (some ⟨ga, 0, none⟩)) := (ha.rest 8 (by kernel_rfl)).trans rfl
      exact ⟨wanted_none rfl, wp_val (run_load rfl (ev_tmp eo8) (BXa.out.next hs rfl)) ⟨_, rfl, rfl, Below.refl _ _, hs⟩⟩
    · intro a' w' ha hs hw
      have eo9 : a'.tmps[9]? = some (Value.pointer (some ⟨gb, 0, none⟩)) := (ha.rest 9 (by kernel_rfl)).trans rfl
      exact ⟨wanted_none rfl, wp_val (run_load rfl (ev_tmp eo9) (BXb.out.next hs rfl)) ⟨_, rfl, rfl, Below.refl _ _, hs⟩⟩
    · intro a' w' ha hs hw
      have eo10 : a'.tmps[10]? = some (Value.pointer (some ⟨gc, 0, none⟩)) := (ha.rest 10 (by kernel_rfl)).trans rfl
      exact ⟨wanted_none rfl, wp_val (run_load rfl (ev_tmp eo10) (BXc.out.next hs rfl)) ⟨_, rfl, rfl, Below.refl _ _, hs⟩⟩
    · intro a' w' ha hs hw
      obtain ⟨v4, e4, q4⟩ := hw 4 (by kernel_rfl) _ _ _ rfl rfl rfl
      obtain rfl : v4 = .agg #[.bool sb, .slice Xb pb qb] := q4
      obtain ⟨v5, e5, q5⟩ := hw 5 (by kernel_rfl) _ _ _ rfl rfl rfl
      obtain rfl : v5 = .agg #[.bool sc, .slice Xc pc qc] := q5
      exact ⟨wanted_none rfl, call_step rfl Try.func26 (by kernel_rfl) rfl (map_two (ev_tmp e4) (ev_tmp e5)) (add_any _ _ (zb) (zc) _ (iv_next IVb.out hs rfl) (iv_next IVc.out hs rfl) (SZb.out.mono (by omega)) (SZc.out.mono (by omega))) (fun e w2 he => by obtain ⟨v, rfl, hv, hb⟩ := he; exact ⟨v, rfl, v, rfl, hv, hb, hs.trans (hb.mono hs.size)⟩)⟩
    · intro a' w' ha hs hw
      obtain ⟨v3, e3, q3⟩ := hw 3 (by kernel_rfl) _ _ _ rfl rfl rfl
      obtain rfl : v3 = .agg #[.bool sa, .slice Xa pa qa] := q3
      obtain ⟨v6, e6, q6⟩ := hw 6 (by kernel_rfl) _ _ _ rfl rfl rfl
      replace q6 : Iv w' v6 ((zb) + (zc)) := q6
      exact ⟨wanted_none rfl, call_step rfl Try.func26 (by kernel_rfl) rfl (map_two (ev_tmp e3) (ev_tmp e6)) (add_any _ _ (za) ((zb) + (zc)) _ (iv_next IVa.out hs rfl) q6 (SZa.out.mono (by omega)) (SR12x6.out.mono (by omega))) (fun e w2 he => by obtain ⟨v, rfl, hv, hb⟩ := he; exact ⟨v, rfl, v, rfl, hv, hb, hs.trans (hb.mono hs.size)⟩)⟩
    · intro a' w' ha hs hw
      obtain ⟨v2, e2, q2⟩ := hw 2 (by kernel_rfl) _ _ _ rfl rfl rfl
      replace q2 : Iv w' v2 (((za) + (zb)) + (zc)) := q2
      obtain ⟨v7, e7, q7⟩ := hw 7 (by kernel_rfl) _ _ _ rfl rfl rfl
      replace q7 : Iv w' v7 ((za) + ((zb) + (zc))) := q7
      exact ⟨wanted_none rfl, call_step rfl Try.func19 (by kernel_rfl) rfl (map_two (ev_tmp e2) (ev_tmp e7)) (same_true _ _ (((za) + (zb)) + (zc)) ((za) + ((zb) + (zc))) _ q2 q7 (SR12x2.out.mono (by omega)) (by grind)) (fun e w2 he => by obtain ⟨rfl, hb⟩ := he; exact ⟨_, rfl, _, rfl, rfl, hb, hs.trans (hb.mono hs.size)⟩)⟩
    · intro a' w' ha hs hw
      obtain ⟨v8, e8, q8⟩ := hw 8 (by kernel_rfl) _ _ _ rfl rfl rfl
      obtain rfl : v8 = Value.bool true := q8
      exact ⟨wanted_none rfl, wp_val (run_not rfl (ev_tmp e8)) ⟨_, rfl, rfl, Below.refl _ _, hs⟩⟩
    · intro a' w' ha hs hw
      obtain ⟨v9, e9, q9⟩ := hw 9 (by kernel_rfl) _ _ _ rfl rfl rfl
      obtain rfl : v9 = Value.bool false := q9
      exact ⟨wanted_none rfl, wp_val (run_move rfl (ev_tmp e9)) ⟨_, rfl, rfl, Below.refl _ _, hs⟩⟩
    · intro a' w' ha hs hw
      obtain ⟨v10, e10, q10⟩ := hw 10 (by kernel_rfl) _ _ _ rfl rfl rfl
      obtain rfl : v10 = Value.bool false := q10
      have eo12 : a'.tmps[12]? = some (Value.pointer (some ⟨gp, 0, none⟩)) := (ha.rest 12 (by kernel_rfl)).trans rfl
      exact ⟨wanted_some rfl rfl rfl e10, wp_val (run_load rfl (ev_tmp eo12) (BXp.out.next hs rfl)) ⟨_, rfl, rfl, Below.refl _ _, hs⟩⟩
    · intro a' w' ha hs hw
      obtain ⟨v10, e10, q10⟩ := hw 10 (by kernel_rfl) _ _ _ rfl rfl rfl
      obtain rfl : v10 = Value.bool false := q10
      have eo10 : a'.tmps[10]? = some (Value.pointer (some ⟨gc, 0, none⟩)) := (ha.rest 10 (by kernel_rfl)).trans rfl
      exact ⟨wanted_some rfl rfl rfl e10, wp_val (run_load rfl (ev_tmp eo10) (BXc.out.next hs rfl)) ⟨_, rfl, rfl, Below.refl _ _, hs⟩⟩
    · intro a' w' ha hs hw
      obtain ⟨v10, e10, q10⟩ := hw 10 (by kernel_rfl) _ _ _ rfl rfl rfl
      obtain rfl : v10 = Value.bool false := q10
      obtain ⟨v11, e11, q11⟩ := hw 11 (by kernel_rfl) _ _ _ rfl rfl rfl
      obtain rfl : v11 = .agg #[.bool sp, .slice Xp pp qp] := q11
      obtain ⟨v12, e12, q12⟩ := hw 12 (by kernel_rfl) _ _ _ rfl rfl rfl
      obtain rfl : v12 = .agg #[.bool sc, .slice Xc pc qc] := q12
      exact ⟨wanted_some rfl rfl rfl e10, call_step rfl Try.func30 (by kernel_rfl) rfl (map_two (ev_tmp e11) (ev_tmp e12)) (mul_any _ _ ((za) * (zb)) (zc) _ (iv_next IVp.out hs rfl) (iv_next IVc.out hs rfl) (SZp.out.mono (by omega)) (SZc.out.mono (by omega))) (fun e w2 he => by obtain ⟨v, rfl, hv, hb⟩ := he; exact ⟨v, rfl, v, rfl, hv, hb, hs.trans (hb.mono hs.size)⟩)⟩
    · intro a' w' ha hs hw
      obtain ⟨v10, e10, q10⟩ := hw 10 (by kernel_rfl) _ _ _ rfl rfl rfl
      obtain rfl : v10 = Value.bool false := q10
      have eo8 : a'.tmps[8]? = some (Value.pointer (some ⟨ga, 0, none⟩)) := (ha.rest 8 (by kernel_rfl)).trans rfl
      exact ⟨wanted_some rfl rfl rfl e10, wp_val (run_load rfl (ev_tmp eo8) (BXa.out.next hs rfl)) ⟨_, rfl, rfl, Below.refl _ _, hs⟩⟩
    · intro a' w' ha hs hw
      obtain ⟨v10, e10, q10⟩ := hw 10 (by kernel_rfl) _ _ _ rfl rfl rfl
      obtain rfl : v10 = Value.bool false := q10
      have eo9 : a'.tmps[9]? = some (Value.pointer (some ⟨gb, 0, none⟩)) := (ha.rest 9 (by kernel_rfl)).trans rfl
      exact ⟨wanted_some rfl rfl rfl e10, wp_val (run_load rfl (ev_tmp eo9) (BXb.out.next hs rfl)) ⟨_, rfl, rfl, Below.refl _ _, hs⟩⟩
    · intro a' w' ha hs hw
      obtain ⟨v10, e10, q10⟩ := hw 10 (by kernel_rfl) _ _ _ rfl rfl rfl
      obtain rfl : v10 = Value.bool false := q10
      have eo10 : a'.tmps[10]? = some (Value.pointer (some ⟨gc, 0, none⟩)) := (ha.rest 10 (by kernel_rfl)).trans rfl
      exact ⟨wanted_some rfl rfl rfl e10, wp_val (run_load rfl (ev_tmp eo10) (BXc.out.next hs rfl)) ⟨_, rfl, rfl, Below.refl _ _, hs⟩⟩
    · intro a' w' ha hs hw
      obtain ⟨v10, e10, q10⟩ := hw 10 (by kernel_rfl) _ _ _ rfl rfl rfl
      obtain rfl : v10 = Value.bool false := q10
      obtain ⟨v15, e15, q15⟩ := hw 15 (by kernel_rfl) _ _ _ rfl rfl rfl
      obtain rfl : v15 = .agg #[.bool sb, .slice Xb pb qb] := q15
      obtain ⟨v16, e16, q16⟩ := hw 16 (by kernel_rfl) _ _ _ rfl rfl rfl
      obtain rfl : v16 = .agg #[.bool sc, .slice Xc pc qc] := q16
      exact ⟨wanted_some rfl rfl rfl e10, call_step rfl Try.func30 (by kernel_rfl) rfl (map_two (ev_tmp e15) (ev_tmp e16)) (mul_any _ _ (zb) (zc) _ (iv_next IVb.out hs rfl) (iv_next IVc.out hs rfl) (SZb.out.mono (by omega)) (SZc.out.mono (by omega))) (fun e w2 he => by obtain ⟨v, rfl, hv, hb⟩ := he; exact ⟨v, rfl, v, rfl, hv, hb, hs.trans (hb.mono hs.size)⟩)⟩
    · intro a' w' ha hs hw
      obtain ⟨v10, e10, q10⟩ := hw 10 (by kernel_rfl) _ _ _ rfl rfl rfl
      obtain rfl : v10 = Value.bool false := q10
      obtain ⟨v14, e14, q14⟩ := hw 14 (by kernel_rfl) _ _ _ rfl rfl rfl
      obtain rfl : v14 = .agg #[.bool sa, .slice Xa pa qa] := q14
      obtain ⟨v17, e17, q17⟩ := hw 17 (by kernel_rfl) _ _ _ rfl rfl rfl
      replace q17 : Iv w' v17 ((zb) * (zc)) := q17
      exact ⟨wanted_some rfl rfl rfl e10, call_step rfl Try.func30 (by kernel_rfl) rfl (map_two (ev_tmp e14) (ev_tmp e17)) (mul_any _ _ (za) ((zb) * (zc)) _ (iv_next IVa.out hs rfl) q17 (SZa.out.mono (by omega)) (SR12x17.out.mono (by omega))) (fun e w2 he => by obtain ⟨v, rfl, hv, hb⟩ := he; exact ⟨v, rfl, v, rfl, hv, hb, hs.trans (hb.mono hs.size)⟩)⟩
    · intro a' w' ha hs hw
      obtain ⟨v10, e10, q10⟩ := hw 10 (by kernel_rfl) _ _ _ rfl rfl rfl
      obtain rfl : v10 = Value.bool false := q10
      obtain ⟨v13, e13, q13⟩ := hw 13 (by kernel_rfl) _ _ _ rfl rfl rfl
      replace q13 : Iv w' v13 (((za) * (zb)) * (zc)) := q13
      obtain ⟨v18, e18, q18⟩ := hw 18 (by kernel_rfl) _ _ _ rfl rfl rfl
      replace q18 : Iv w' v18 ((za) * ((zb) * (zc))) := q18
      exact ⟨wanted_some rfl rfl rfl e10, call_step rfl Try.func19 (by kernel_rfl) rfl (map_two (ev_tmp e13) (ev_tmp e18)) (same_true _ _ (((za) * (zb)) * (zc)) ((za) * ((zb) * (zc))) _ q13 q18 (SR12x13.out.mono (by omega)) (by grind)) (fun e w2 he => by obtain ⟨rfl, hb⟩ := he; exact ⟨_, rfl, _, rfl, rfl, hb, hs.trans (hb.mono hs.size)⟩)⟩
    · intro a' w' ha hs hw
      obtain ⟨v10, e10, q10⟩ := hw 10 (by kernel_rfl) _ _ _ rfl rfl rfl
      obtain rfl : v10 = Value.bool false := q10
      obtain ⟨v19, e19, q19⟩ := hw 19 (by kernel_rfl) _ _ _ rfl rfl rfl
      obtain rfl : v19 = Value.bool true := q19
      exact ⟨wanted_some rfl rfl rfl e10, wp_val (run_not rfl (ev_tmp e19)) ⟨_, rfl, rfl, Below.refl _ _, hs⟩⟩
    · intro a' w' ha hs hw
      obtain ⟨v10, e10, q10⟩ := hw 10 (by kernel_rfl) _ _ _ rfl rfl rfl
      obtain rfl : v10 = Value.bool false := q10
      obtain ⟨v20, e20, q20⟩ := hw 20 (by kernel_rfl) _ _ _ rfl rfl rfl
      obtain rfl : v20 = Value.bool false := q20
      exact ⟨wanted_none rfl, wp_val (run_pick (b := false) rfl (ev_tmp e10) (ev_tmp e20)) ⟨_, rfl, rfl, Below.refl _ _, hs⟩⟩
    · intro a' w' ha hs hw
      obtain ⟨v21, e21, q21⟩ := hw 21 (by kernel_rfl) _ _ _ rfl rfl rfl
      obtain rfl : v21 = Value.bool false := q21
      exact ⟨wanted_none rfl, wp_val (run_move rfl (ev_tmp e21)) ⟨_, rfl, rfl, Below.refl _ _, hs⟩⟩
    · intro a' w' ha hs hw
      obtain ⟨v22, e22, q22⟩ := hw 22 (by kernel_rfl) _ _ _ rfl rfl rfl
      obtain rfl : v22 = Value.bool false := q22
      have eo11 : a'.tmps[11]? = some (Value.pointer (some ⟨gs, 0, none⟩)) := (ha.rest 11 (by kernel_rfl)).trans rfl
      exact ⟨wanted_some rfl rfl rfl e22, wp_val (run_load rfl (ev_tmp eo11) (BXs.out.next hs rfl)) ⟨_, rfl, rfl, Below.refl _ _, hs⟩⟩
    · intro a' w' ha hs hw
      obtain ⟨v22, e22, q22⟩ := hw 22 (by kernel_rfl) _ _ _ rfl rfl rfl
      obtain rfl : v22 = Value.bool false := q22
      have eo10 : a'.tmps[10]? = some (Value.pointer (some ⟨gc, 0, none⟩)) := (ha.rest 10 (by kernel_rfl)).trans rfl
      exact ⟨wanted_some rfl rfl rfl e22, wp_val (run_load rfl (ev_tmp eo10) (BXc.out.next hs rfl)) ⟨_, rfl, rfl, Below.refl _ _, hs⟩⟩
    · intro a' w' ha hs hw
      obtain ⟨v22, e22, q22⟩ := hw 22 (by kernel_rfl) _ _ _ rfl rfl rfl
      obtain rfl : v22 = Value.bool false := q22
      obtain ⟨v23, e23, q23⟩ := hw 23 (by kernel_rfl) _ _ _ rfl rfl rfl
      obtain rfl : v23 = .agg #[.bool ss, .slice Xs ps qs] := q23
      obtain ⟨v24, e24, q24⟩ := hw 24 (by kernel_rfl) _ _ _ rfl rfl rfl
      obtain rfl : v24 = .agg #[.bool sc, .slice Xc pc qc] := q24
      exact ⟨wanted_some rfl rfl rfl e22, call_step rfl Try.func30 (by kernel_rfl) rfl (map_two (ev_tmp e23) (ev_tmp e24)) (mul_any _ _ ((za) + (zb)) (zc) _ (iv_next IVs.out hs rfl) (iv_next IVc.out hs rfl) (SZs.out.mono (by omega)) (SZc.out.mono (by omega))) (fun e w2 he => by obtain ⟨v, rfl, hv, hb⟩ := he; exact ⟨v, rfl, v, rfl, hv, hb, hs.trans (hb.mono hs.size)⟩)⟩
    · intro a' w' ha hs hw
      obtain ⟨v22, e22, q22⟩ := hw 22 (by kernel_rfl) _ _ _ rfl rfl rfl
      obtain rfl : v22 = Value.bool false := q22
      have eo8 : a'.tmps[8]? = some (Value.pointer (some ⟨ga, 0, none⟩)) := (ha.rest 8 (by kernel_rfl)).trans rfl
      exact ⟨wanted_some rfl rfl rfl e22, wp_val (run_load rfl (ev_tmp eo8) (BXa.out.next hs rfl)) ⟨_, rfl, rfl, Below.refl _ _, hs⟩⟩
    · intro a' w' ha hs hw
      obtain ⟨v22, e22, q22⟩ := hw 22 (by kernel_rfl) _ _ _ rfl rfl rfl
      obtain rfl : v22 = Value.bool false := q22
      have eo10 : a'.tmps[10]? = some (Value.pointer (some ⟨gc, 0, none⟩)) := (ha.rest 10 (by kernel_rfl)).trans rfl
      exact ⟨wanted_some rfl rfl rfl e22, wp_val (run_load rfl (ev_tmp eo10) (BXc.out.next hs rfl)) ⟨_, rfl, rfl, Below.refl _ _, hs⟩⟩
    · intro a' w' ha hs hw
      obtain ⟨v22, e22, q22⟩ := hw 22 (by kernel_rfl) _ _ _ rfl rfl rfl
      obtain rfl : v22 = Value.bool false := q22
      obtain ⟨v26, e26, q26⟩ := hw 26 (by kernel_rfl) _ _ _ rfl rfl rfl
      obtain rfl : v26 = .agg #[.bool sa, .slice Xa pa qa] := q26
      obtain ⟨v27, e27, q27⟩ := hw 27 (by kernel_rfl) _ _ _ rfl rfl rfl
      obtain rfl : v27 = .agg #[.bool sc, .slice Xc pc qc] := q27
      exact ⟨wanted_some rfl rfl rfl e22, call_step rfl Try.func30 (by kernel_rfl) rfl (map_two (ev_tmp e26) (ev_tmp e27)) (mul_any _ _ (za) (zc) _ (iv_next IVa.out hs rfl) (iv_next IVc.out hs rfl) (SZa.out.mono (by omega)) (SZc.out.mono (by omega))) (fun e w2 he => by obtain ⟨v, rfl, hv, hb⟩ := he; exact ⟨v, rfl, v, rfl, hv, hb, hs.trans (hb.mono hs.size)⟩)⟩
    · intro a' w' ha hs hw
      obtain ⟨v22, e22, q22⟩ := hw 22 (by kernel_rfl) _ _ _ rfl rfl rfl
      obtain rfl : v22 = Value.bool false := q22
      have eo9 : a'.tmps[9]? = some (Value.pointer (some ⟨gb, 0, none⟩)) := (ha.rest 9 (by kernel_rfl)).trans rfl
      exact ⟨wanted_some rfl rfl rfl e22, wp_val (run_load rfl (ev_tmp eo9) (BXb.out.next hs rfl)) ⟨_, rfl, rfl, Below.refl _ _, hs⟩⟩
    · intro a' w' ha hs hw
      obtain ⟨v22, e22, q22⟩ := hw 22 (by kernel_rfl) _ _ _ rfl rfl rfl
      obtain rfl : v22 = Value.bool false := q22
      have eo10 : a'.tmps[10]? = some (Value.pointer (some ⟨gc, 0, none⟩)) := (ha.rest 10 (by kernel_rfl)).trans rfl
      exact ⟨wanted_some rfl rfl rfl e22, wp_val (run_load rfl (ev_tmp eo10) (BXc.out.next hs rfl)) ⟨_, rfl, rfl, Below.refl _ _, hs⟩⟩
    · intro a' w' ha hs hw
      obtain ⟨v22, e22, q22⟩ := hw 22 (by kernel_rfl) _ _ _ rfl rfl rfl
      obtain rfl : v22 = Value.bool false := q22
      obtain ⟨v29, e29, q29⟩ := hw 29 (by kernel_rfl) _ _ _ rfl rfl rfl
      obtain rfl : v29 = .agg #[.bool sb, .slice Xb pb qb] := q29
      obtain ⟨v30, e30, q30⟩ := hw 30 (by kernel_rfl) _ _ _ rfl rfl rfl
      obtain rfl : v30 = .agg #[.bool sc, .slice Xc pc qc] := q30
      exact ⟨wanted_some rfl rfl rfl e22, call_step rfl Try.func30 (by kernel_rfl) rfl (map_two (ev_tmp e29) (ev_tmp e30)) (mul_any _ _ (zb) (zc) _ (iv_next IVb.out hs rfl) (iv_next IVc.out hs rfl) (SZb.out.mono (by omega)) (SZc.out.mono (by omega))) (fun e w2 he => by obtain ⟨v, rfl, hv, hb⟩ := he; exact ⟨v, rfl, v, rfl, hv, hb, hs.trans (hb.mono hs.size)⟩)⟩
    · intro a' w' ha hs hw
      obtain ⟨v22, e22, q22⟩ := hw 22 (by kernel_rfl) _ _ _ rfl rfl rfl
      obtain rfl : v22 = Value.bool false := q22
      obtain ⟨v28, e28, q28⟩ := hw 28 (by kernel_rfl) _ _ _ rfl rfl rfl
      replace q28 : Iv w' v28 ((za) * (zc)) := q28
      obtain ⟨v31, e31, q31⟩ := hw 31 (by kernel_rfl) _ _ _ rfl rfl rfl
      replace q31 : Iv w' v31 ((zb) * (zc)) := q31
      exact ⟨wanted_some rfl rfl rfl e22, call_step rfl Try.func26 (by kernel_rfl) rfl (map_two (ev_tmp e28) (ev_tmp e31)) (add_any _ _ ((za) * (zc)) ((zb) * (zc)) _ q28 q31 (SR12x28.out.mono (by omega)) (SR12x31.out.mono (by omega))) (fun e w2 he => by obtain ⟨v, rfl, hv, hb⟩ := he; exact ⟨v, rfl, v, rfl, hv, hb, hs.trans (hb.mono hs.size)⟩)⟩
    · intro a' w' ha hs hw
      obtain ⟨v22, e22, q22⟩ := hw 22 (by kernel_rfl) _ _ _ rfl rfl rfl
      obtain rfl : v22 = Value.bool false := q22
      obtain ⟨v25, e25, q25⟩ := hw 25 (by kernel_rfl) _ _ _ rfl rfl rfl
      replace q25 : Iv w' v25 (((za) + (zb)) * (zc)) := q25
      obtain ⟨v32, e32, q32⟩ := hw 32 (by kernel_rfl) _ _ _ rfl rfl rfl
      replace q32 : Iv w' v32 (((za) * (zc)) + ((zb) * (zc))) := q32
      exact ⟨wanted_some rfl rfl rfl e22, call_step rfl Try.func19 (by kernel_rfl) rfl (map_two (ev_tmp e25) (ev_tmp e32)) (same_true _ _ (((za) + (zb)) * (zc)) (((za) * (zc)) + ((zb) * (zc))) _ q25 q32 (SR12x25.out.mono (by omega)) (by grind)) (fun e w2 he => by obtain ⟨rfl, hb⟩ := he; exact ⟨_, rfl, _, rfl, rfl, hb, hs.trans (hb.mono hs.size)⟩)⟩
    · intro a' w' ha hs hw
      obtain ⟨v22, e22, q22⟩ := hw 22 (by kernel_rfl) _ _ _ rfl rfl rfl
      obtain rfl : v22 = Value.bool false := q22
      obtain ⟨v33, e33, q33⟩ := hw 33 (by kernel_rfl) _ _ _ rfl rfl rfl
      obtain rfl : v33 = Value.bool true := q33
      exact ⟨wanted_some rfl rfl rfl e22, wp_val (run_not rfl (ev_tmp e33)) ⟨_, rfl, rfl, Below.refl _ _, hs⟩⟩
    · intro a' w' ha hs hw
      obtain ⟨v22, e22, q22⟩ := hw 22 (by kernel_rfl) _ _ _ rfl rfl rfl
      obtain rfl : v22 = Value.bool false := q22
      obtain ⟨v34, e34, q34⟩ := hw 34 (by kernel_rfl) _ _ _ rfl rfl rfl
      obtain rfl : v34 = Value.bool false := q34
      exact ⟨wanted_none rfl, wp_val (run_pick (b := false) rfl (ev_tmp e22) (ev_tmp e34)) ⟨_, rfl, rfl, Below.refl _ _, hs⟩⟩
  simp only [allK]
  intro r12x0 _ r12x1 _ r12x2 _ r12x3 _ r12x4 _ r12x5 _ r12x6 _ r12x7 _ r12x8 _ r12x9 _
  simp only [setAll, List.set_cons_succ, List.set_cons_zero]
  refine hK _ _ ?_
  clear hK K
  clear SR12x2
  clear SR12x6
  clear SR12x7
  clear SR12x13
  clear SR12x17
  clear SR12x18
  clear SR12x25
  clear SR12x28
  clear SR12x31
  clear SR12x32
  replace BXa := Lib.hid (BXa.out.next hs rfl); replace IVa := Lib.hid (iv_next IVa.out hs rfl)
  replace BXb := Lib.hid (BXb.out.next hs rfl); replace IVb := Lib.hid (iv_next IVb.out hs rfl)
  replace BXc := Lib.hid (BXc.out.next hs rfl); replace IVc := Lib.hid (iv_next IVc.out hs rfl)
  replace BXs := Lib.hid (BXs.out.next hs rfl); replace IVs := Lib.hid (iv_next IVs.out hs rfl)
  replace BXp := Lib.hid (BXp.out.next hs rfl); replace IVp := Lib.hid (iv_next IVp.out hs rfl)
  replace BXd := Lib.hid (BXd.out.next hs rfl); replace IVd := Lib.hid (iv_next IVd.out hs rfl)
  replace DW := Lib.hid (link_below DW.out hs (by have := DW.out.size; omega) rfl rfl rfl rfl)
  clear hs
  go_upto_region 14 with fail
  have SR14x3 : Hid (Sz (0) 2) := I64.sz ⟨by omega, by omega⟩
  have SR14x4 : Hid (Sz ((za) + ((0 : Int))) 9) := (Sz.add (N := 8) (SZa.out.mono (by omega)) (SR14x3.out.mono (by omega)))
  have SR14x10 : Hid (Sz (1) 2) := I64.sz ⟨by omega, by omega⟩
  have SR14x11 : Hid (Sz ((za) * ((1 : Int))) 10) := (Sz.mul SZa.out SR14x10.out)
  have SR14x17 : Hid (Sz (0) 2) := I64.sz ⟨by omega, by omega⟩
  have SR14x18 : Hid (Sz ((za) * ((0 : Int))) 10) := (Sz.mul SZa.out SR14x17.out)
  have SR14x19 : Hid (Sz (0) 2) := I64.sz ⟨by omega, by omega⟩
  have SR14x24 : Hid (Sz (-1) 2) := I64.sz ⟨by omega, by omega⟩
  have SR14x25 : Hid (Sz ((za) * ((-1 : Int))) 10) := (Sz.mul SZa.out SR14x24.out)
  have SR14x27 : Hid (Sz (-(za)) 8) := (Sz.neg SZa.out)
  have SR14x33 : Hid (Sz ((za) - (za)) 9) := (Sz.sub (N := 8) (SZa.out.mono (by omega)) (SZa.out.mono (by omega)))
  have SR14x34 : Hid (Sz (0) 2) := I64.sz ⟨by omega, by omega⟩
  refine region_run (fun w' => Below wn.heap.size wn w') [.is (Value.bool true), .is (Value.bool true), .is (.agg #[.bool sa, .slice Xa pa qa]), .iv ((0 : Int)), .iv ((za) + ((0 : Int))), .is (.agg #[.bool sa, .slice Xa pa qa]), .is (Value.bool true), .is (Value.bool true), .is (Value.bool true), .is (.agg #[.bool sa, .slice Xa pa qa]), .iv ((1 : Int)), .iv ((za) * ((1 : Int))), .is (.agg #[.bool sa, .slice Xa pa qa]), .is (Value.bool true), .is (Value.bool true), .is (Value.bool true), .is (.agg #[.bool sa, .slice Xa pa qa]), .iv ((0 : Int)), .iv ((za) * ((0 : Int))), .iv ((0 : Int)), .is (Value.bool true), .is (Value.bool true), .is (Value.bool true), .is (.agg #[.bool sa, .slice Xa pa qa]), .iv ((-1 : Int)), .iv ((za) * ((-1 : Int))), .is (.agg #[.bool sa, .slice Xa pa qa]), .iv (-(za)), .is (Value.bool true), .is (Value.bool true), .is (Value.bool true), .is (.agg #[.bool sa, .slice Xa pa qa]), .is (.agg #[.bool sa, .slice Xa pa qa]), .iv ((za) - (za)), .iv ((0 : Int)), .is (Value.bool true), .is (Value.bool true), .is (Value.bool true)] [114, 115, 116, 117, 118, 119, 120, 121, 122, 123, 124, 125, 126, 127, 128, 129, 130, 131, 132, 133, 134, 135, 136, 137, 138, 139, 140, 141, 142, 143, 144, 145, 146, 147, 148, 149, 150, 6] (by kernel_rfl) (by kernel_rfl) (by kernel_rfl) (by rfl) (by kernel_rfl) ((Below.refl _ _).drew) (fun Q' => ?_) (fun K hK wn hs => ?_)
  · refine ⟨?_, ?_, ?_, ?_, ?_, ?_, ?_, ?_, ?_, ?_, ?_, ?_, ?_, ?_, ?_, ?_, ?_, ?_, ?_, ?_, ?_, ?_, ?_, ?_, ?_, ?_, ?_, ?_, ?_, ?_, ?_, ?_, ?_, ?_, ?_, ?_, ?_, ?_, trivial⟩
    · intro a' w' ha hs hw
      have eo7 : a'.tmps[7]? = some (Value.bool true) := (ha.rest 7 (by kernel_rfl)).trans rfl
      exact ⟨wanted_none rfl, wp_val (run_move rfl (ev_tmp eo7)) ⟨_, rfl, rfl, Below.refl _ _, hs⟩⟩
    · intro a' w' ha hs hw
      obtain ⟨v0, e0, q0⟩ := hw 0 (by kernel_rfl) _ _ _ rfl rfl rfl
      obtain rfl : v0 = Value.bool true := q0
      exact ⟨wanted_none rfl, wp_val (run_move rfl (ev_tmp e0)) ⟨_, rfl, rfl, Below.refl _ _, hs⟩⟩
    · intro a' w' ha hs hw
      obtain ⟨v1, e1, q1⟩ := hw 1 (by kernel_rfl) _ _ _ rfl rfl rfl
      obtain rfl : v1 = Value.bool true := q1
      have eo8 : a'.tmps[8]? = some (Value.pointer (some ⟨ga, 0, none⟩)) := (ha.rest 8 (by kernel_rfl)).trans rfl
      exact ⟨wanted_some rfl rfl rfl e1, wp_val (run_load rfl (ev_tmp eo8) (BXa.out.next hs rfl)) ⟨_, rfl, rfl, Below.refl _ _, hs⟩⟩
    · intro a' w' ha hs hw
      obtain ⟨v1, e1, q1⟩ := hw 1 (by kernel_rfl) _ _ _ rfl rfl rfl
      obtain rfl : v1 = Value.bool true := q1
      exact ⟨wanted_some rfl rfl rfl e1, call_step rfl Try.func40 (by kernel_rfl) rfl (map_one rfl) (lof_any (0) _ (by omega) (by omega)) (fun e w2 he => by obtain ⟨v, rfl, hv, hb⟩ := he; exact ⟨v, rfl, v, rfl, hv, hb, hs.trans (hb.mono hs.size)⟩)⟩
    · intro a' w' ha hs hw
      obtain ⟨v1, e1, q1⟩ := hw 1 (by kernel_rfl) _ _ _ rfl rfl rfl
      obtain rfl : v1 = Value.bool true := q1
      obtain ⟨v2, e2, q2⟩ := hw 2 (by kernel_rfl) _ _ _ rfl rfl rfl
      obtain rfl : v2 = .agg #[.bool sa, .slice Xa pa qa] := q2
      obtain ⟨v3, e3, q3⟩ := hw 3 (by kernel_rfl) _ _ _ rfl rfl rfl
      replace q3 : Iv w' v3 ((0 : Int)) := q3
      exact ⟨wanted_some rfl rfl rfl e1, call_step rfl Try.func26 (by kernel_rfl) rfl (map_two (ev_tmp e2) (ev_tmp e3)) (add_any _ _ (za) ((0 : Int)) _ (iv_next IVa.out hs rfl) q3 (SZa.out.mono (by omega)) (SR14x3.out.mono (by omega))) (fun e w2 he => by obtain ⟨v, rfl, hv, hb⟩ := he; exact ⟨v, rfl, v, rfl, hv, hb, hs.trans (hb.mono hs.size)⟩)⟩
    · intro a' w' ha hs hw
      obtain ⟨v1, e1, q1⟩ := hw 1 (by kernel_rfl) _ _ _ rfl rfl rfl
      obtain rfl : v1 = Value.bool true := q1
      have eo8 : a'.tmps[8]? = some (Value.pointer (some ⟨ga, 0, none⟩)) := (ha.rest 8 (by kernel_rfl)).trans rfl
      exact ⟨wanted_some rfl rfl rfl e1, wp_val (run_load rfl (ev_tmp eo8) (BXa.out.next hs rfl)) ⟨_, rfl, rfl, Below.refl _ _, hs⟩⟩
    · intro a' w' ha hs hw
      obtain ⟨v1, e1, q1⟩ := hw 1 (by kernel_rfl) _ _ _ rfl rfl rfl
      obtain rfl : v1 = Value.bool true := q1
      obtain ⟨v4, e4, q4⟩ := hw 4 (by kernel_rfl) _ _ _ rfl rfl rfl
      replace q4 : Iv w' v4 ((za) + ((0 : Int))) := q4
      obtain ⟨v5, e5, q5⟩ := hw 5 (by kernel_rfl) _ _ _ rfl rfl rfl
      obtain rfl : v5 = .agg #[.bool sa, .slice Xa pa qa] := q5
      exact ⟨wanted_some rfl rfl rfl e1, call_step rfl Try.func19 (by kernel_rfl) rfl (map_two (ev_tmp e4) (ev_tmp e5)) (same_true _ _ ((za) + ((0 : Int))) (za) _ q4 (iv_next IVa.out hs rfl) (SR14x4.out.mono (by omega)) (by grind)) (fun e w2 he => by obtain ⟨rfl, hb⟩ := he; exact ⟨_, rfl, _, rfl, rfl, hb, hs.trans (hb.mono hs.size)⟩)⟩
    · intro a' w' ha hs hw
      obtain ⟨v1, e1, q1⟩ := hw 1 (by kernel_rfl) _ _ _ rfl rfl rfl
      obtain rfl : v1 = Value.bool true := q1
      obtain ⟨v6, e6, q6⟩ := hw 6 (by kernel_rfl) _ _ _ rfl rfl rfl
      obtain rfl : v6 = Value.bool true := q6
      exact ⟨wanted_none rfl, wp_val (run_pick (b := true) rfl (ev_tmp e1) (ev_tmp e6)) ⟨_, rfl, rfl, Below.refl _ _, hs⟩⟩
    · intro a' w' ha hs hw
      obtain ⟨v7, e7, q7⟩ := hw 7 (by kernel_rfl) _ _ _ rfl rfl rfl
      obtain rfl : v7 = Value.bool true := q7
      exact ⟨wanted_none rfl, wp_val (run_move rfl (ev_tmp e7)) ⟨_, rfl, rfl, Below.refl _ _, hs⟩⟩
    · intro a' w' ha hs hw
      obtain ⟨v8, e8, q8⟩ := hw 8 (by kernel_rfl) _ _ _ rfl rfl rfl
      obtain rfl : v8 = Value.bool true := q8
      have eo8 : a'.tmps[8]? = some (Value.pointer (some ⟨ga, 0, none⟩)) := (ha.rest 8 (by kernel_rfl)).trans rfl
      exact ⟨wanted_some rfl rfl rfl e8, wp_val (run_load rfl (ev_tmp eo8) (BXa.out.next hs rfl)) ⟨_, rfl, rfl, Below.refl _ _, hs⟩⟩
    · intro a' w' ha hs hw
      obtain ⟨v8, e8, q8⟩ := hw 8 (by kernel_rfl) _ _ _ rfl rfl rfl
      obtain rfl : v8 = Value.bool true := q8
      exact ⟨wanted_some rfl rfl rfl e8, call_step rfl Try.func40 (by kernel_rfl) rfl (map_one rfl) (lof_any (1) _ (by omega) (by omega)) (fun e w2 he => by obtain ⟨v, rfl, hv, hb⟩ := he; exact ⟨v, rfl, v, rfl, hv, hb, hs.trans (hb.mono hs.size)⟩)⟩
    · intro a' w' ha hs hw
      obtain ⟨v8, e8, q8⟩ := hw 8 (by kernel_rfl) _ _ _ rfl rfl rfl
      obtain rfl : v8 = Value.bool true := q8
      obtain ⟨v9, e9, q9⟩ := hw 9 (by kernel_rfl) _ _ _ rfl rfl rfl
      obtain rfl : v9 = .agg #[.bool sa, .slice Xa pa qa] := q9
      obtain ⟨v10, e10, q10⟩ := hw 10 (by kernel_rfl) _ _ _ rfl rfl rfl
      replace q10 : Iv w' v10 ((1 : Int)) := q10
      exact ⟨wanted_some rfl rfl rfl e8, call_step rfl Try.func30 (by kernel_rfl) rfl (map_two (ev_tmp e9) (ev_tmp e10)) (mul_any _ _ (za) ((1 : Int)) _ (iv_next IVa.out hs rfl) q10 (SZa.out.mono (by omega)) (SR14x10.out.mono (by omega))) (fun e w2 he => by obtain ⟨v, rfl, hv, hb⟩ := he; exact ⟨v, rfl, v, rfl, hv, hb, hs.trans (hb.mono hs.size)⟩)⟩
    · intro a' w' ha hs hw
      obtain ⟨v8, e8, q8⟩ := hw 8 (by kernel_rfl) _ _ _ rfl rfl rfl
      obtain rfl : v8 = Value.bool true := q8
      have eo8 : a'.tmps[8]? = some (Value.pointer (some ⟨ga, 0, none⟩)) := (ha.rest 8 (by kernel_rfl)).trans rfl
      exact ⟨wanted_some rfl rfl rfl e8, wp_val (run_load rfl (ev_tmp eo8) (BXa.out.next hs rfl)) ⟨_, rfl, rfl, Below.refl _ _, hs⟩⟩
    · intro a' w' ha hs hw
      obtain ⟨v8, e8, q8⟩ := hw 8 (by kernel_rfl) _ _ _ rfl rfl rfl
      obtain rfl : v8 = Value.bool true := q8
      obtain ⟨v11, e11, q11⟩ := hw 11 (by kernel_rfl) _ _ _ rfl rfl rfl
      replace q11 : Iv w' v11 ((za) * ((1 : Int))) := q11
      obtain ⟨v12, e12, q12⟩ := hw 12 (by kernel_rfl) _ _ _ rfl rfl rfl
      obtain rfl : v12 = .agg #[.bool sa, .slice Xa pa qa] := q12
      exact ⟨wanted_some rfl rfl rfl e8, call_step rfl Try.func19 (by kernel_rfl) rfl (map_two (ev_tmp e11) (ev_tmp e12)) (same_true _ _ ((za) * ((1 : Int))) (za) _ q11 (iv_next IVa.out hs rfl) (SR14x11.out.mono (by omega)) (by grind)) (fun e w2 he => by obtain ⟨rfl, hb⟩ := he; exact ⟨_, rfl, _, rfl, rfl, hb, hs.trans (hb.mono hs.size)⟩)⟩
    · intro a' w' ha hs hw
      obtain ⟨v8, e8, q8⟩ := hw 8 (by kernel_rfl) _ _ _ rfl rfl rfl
      obtain rfl : v8 = Value.bool true := q8
      obtain ⟨v13, e13, q13⟩ := hw 13 (by kernel_rfl) _ _ _ rfl rfl rfl
      obtain rfl : v13 = Value.bool true := q13
      exact ⟨wanted_none rfl, wp_val (run_pick (b := true) rfl (ev_tmp e8) (ev_tmp e13)) ⟨_, rfl, rfl, Below.refl _ _, hs⟩⟩
    · intro a' w' ha hs hw
      obtain ⟨v14, e14, q14⟩ := hw 14 (by kernel_rfl) _ _ _ rfl rfl rfl
      obtain rfl : v14 = Value.bool true := q14
      exact ⟨wanted_none rfl, wp_val (run_move rfl (ev_tmp e14)) ⟨_, rfl, rfl, Below.refl _ _, hs⟩⟩
    · intro a' w' ha hs hw
      obtain ⟨v15, e15, q15⟩ := hw 15 (by kernel_rfl) _ _ _ rfl rfl rfl
      obtain rfl : v15 = Value.bool true := q15
      have eo8 : a'.tmps[8]? = some (Value.pointer (some ⟨ga, 0, none⟩)) := (ha.rest 8 (by kernel_rfl)).trans rfl
      exact ⟨wanted_some rfl rfl rfl e15, wp_val (run_load rfl (ev_tmp eo8) (BXa.out.next hs rfl)) ⟨_, rfl, rfl, Below.refl _ _, hs⟩⟩
    · intro a' w' ha hs hw
      obtain ⟨v15, e15, q15⟩ := hw 15 (by kernel_rfl) _ _ _ rfl rfl rfl
      obtain rfl : v15 = Value.bool true := q15
      exact ⟨wanted_some rfl rfl rfl e15, call_step rfl Try.func40 (by kernel_rfl) rfl (map_one rfl) (lof_any (0) _ (by omega) (by omega)) (fun e w2 he => by obtain ⟨v, rfl, hv, hb⟩ := he; exact ⟨v, rfl, v, rfl, hv, hb, hs.trans (hb.mono hs.size)⟩)⟩
    · intro a' w' ha hs hw
      obtain ⟨v15, e15, q15⟩ := hw 15 (by kernel_rfl) _ _ _ rfl rfl rfl
      obtain rfl : v15 = Value.bool true := q15
      obtain ⟨v16, e16, q16⟩ := hw 16 (by kernel_rfl) _ _ _ rfl rfl rfl
      obtain rfl : v16 = .agg #[.bool sa, .slice Xa pa qa] := q16
      obtain ⟨v17, e17, q17⟩ := hw 17 (by kernel_rfl) _ _ _ rfl rfl rfl
      replace q17 : Iv w' v17 ((0 : Int)) := q17
      exact ⟨wanted_some rfl rfl rfl e15, call_step rfl Try.func30 (by kernel_rfl) rfl (map_two (ev_tmp e16) (ev_tmp e17)) (mul_any _ _ (za) ((0 : Int)) _ (iv_next IVa.out hs rfl) q17 (SZa.out.mono (by omega)) (SR14x17.out.mono (by omega))) (fun e w2 he => by obtain ⟨v, rfl, hv, hb⟩ := he; exact ⟨v, rfl, v, rfl, hv, hb, hs.trans (hb.mono hs.size)⟩)⟩
    · intro a' w' ha hs hw
      obtain ⟨v15, e15, q15⟩ := hw 15 (by kernel_rfl) _ _ _ rfl rfl rfl
      obtain rfl : v15 = Value.bool true := q15
      exact ⟨wanted_some rfl rfl rfl e15, call_step rfl Try.func40 (by kernel_rfl) rfl (map_one rfl) (lof_any (0) _ (by omega) (by omega)) (fun e w2 he => by obtain ⟨v, rfl, hv, hb⟩ := he; exact ⟨v, rfl, v, rfl, hv, hb, hs.trans (hb.mono hs.size)⟩)⟩
    · intro a' w' ha hs hw
      obtain ⟨v15, e15, q15⟩ := hw 15 (by kernel_rfl) _ _ _ rfl rfl rfl
      obtain rfl : v15 = Value.bool true := q15
      obtain ⟨v18, e18, q18⟩ := hw 18 (by kernel_rfl) _ _ _ rfl rfl rfl
      replace q18 : Iv w' v18 ((za) * ((0 : Int))) := q18
      obtain ⟨v19, e19, q19⟩ := hw 19 (by kernel_rfl) _ _ _ rfl rfl rfl
      replace q19 : Iv w' v19 ((0 : Int)) := q19
      exact ⟨wanted_some rfl rfl rfl e15, call_step rfl Try.func19 (by kernel_rfl) rfl (map_two (ev_tmp e18) (ev_tmp e19)) (same_true _ _ ((za) * ((0 : Int))) ((0 : Int)) _ q18 q19 (SR14x18.out.mono (by omega)) (by grind)) (fun e w2 he => by obtain ⟨rfl, hb⟩ := he; exact ⟨_, rfl, _, rfl, rfl, hb, hs.trans (hb.mono hs.size)⟩)⟩
    · intro a' w' ha hs hw
      obtain ⟨v15, e15, q15⟩ := hw 15 (by kernel_rfl) _ _ _ rfl rfl rfl
      obtain rfl : v15 = Value.bool true := q15
      obtain ⟨v20, e20, q20⟩ := hw 20 (by kernel_rfl) _ _ _ rfl rfl rfl
      obtain rfl : v20 = Value.bool true := q20
      exact ⟨wanted_none rfl, wp_val (run_pick (b := true) rfl (ev_tmp e15) (ev_tmp e20)) ⟨_, rfl, rfl, Below.refl _ _, hs⟩⟩
    · intro a' w' ha hs hw
      obtain ⟨v21, e21, q21⟩ := hw 21 (by kernel_rfl) _ _ _ rfl rfl rfl
      obtain rfl : v21 = Value.bool true := q21
      exact ⟨wanted_none rfl, wp_val (run_move rfl (ev_tmp e21)) ⟨_, rfl, rfl, Below.refl _ _, hs⟩⟩
    · intro a' w' ha hs hw
      obtain ⟨v22, e22, q22⟩ := hw 22 (by kernel_rfl) _ _ _ rfl rfl rfl
      obtain rfl : v22 = Value.bool true := q22
      have eo8 : a'.tmps[8]? = some (Value.pointer (some ⟨ga, 0, none⟩)) := (ha.rest 8 (by kernel_rfl)).trans rfl
      exact ⟨wanted_some rfl rfl rfl e22, wp_val (run_load rfl (ev_tmp eo8) (BXa.out.next hs rfl)) ⟨_, rfl, rfl, Below.refl _ _, hs⟩⟩
    · intro a' w' ha hs hw
      obtain ⟨v22, e22, q22⟩ := hw 22 (by kernel_rfl) _ _ _ rfl rfl rfl
      obtain rfl : v22 = Value.bool true := q22
      exact ⟨wanted_some rfl rfl rfl e22, call_step rfl Try.func40 (by kernel_rfl) rfl (map_one rfl) (lof_any (-1) _ (by omega) (by omega)) (fun e w2 he => by obtain ⟨v, rfl, hv, hb⟩ := he; exact ⟨v, rfl, v, rfl, hv, hb, hs.trans (hb.mono hs.size)⟩)⟩
    · intro a' w' ha hs hw
      obtain ⟨v22, e22, q22⟩ := hw 22 (by kernel_rfl) _ _ _ rfl rfl rfl
      obtain rfl : v22 = Value.bool true := q22
      obtain ⟨v23, e23, q23⟩ := hw 23 (by kernel_rfl) _ _ _ rfl rfl rfl
      obtain rfl : v23 = .agg #[.bool sa, .slice Xa pa qa] := q23
      obtain ⟨v24, e24, q24⟩ := hw 24 (by kernel_rfl) _ _ _ rfl rfl rfl
      replace q24 : Iv w' v24 ((-1 : Int)) := q24
      exact ⟨wanted_some rfl rfl rfl e22, call_step rfl Try.func30 (by kernel_rfl) rfl (map_two (ev_tmp e23) (ev_tmp e24)) (mul_any _ _ (za) ((-1 : Int)) _ (iv_next IVa.out hs rfl) q24 (SZa.out.mono (by omega)) (SR14x24.out.mono (by omega))) (fun e w2 he => by obtain ⟨v, rfl, hv, hb⟩ := he; exact ⟨v, rfl, v, rfl, hv, hb, hs.trans (hb.mono hs.size)⟩)⟩
    · intro a' w' ha hs hw
      obtain ⟨v22, e22, q22⟩ := hw 22 (by kernel_rfl) _ _ _ rfl rfl rfl
      obtain rfl : v22 = Value.bool true := q22
      have eo8 : a'.tmps[8]? = some (Value.pointer (some ⟨ga, 0, none⟩)) := (ha.rest 8 (by kernel_rfl)).trans rfl
      exact ⟨wanted_some rfl rfl rfl e22, wp_val (run_load rfl (ev_tmp eo8) (BXa.out.next hs rfl)) ⟨_, rfl, rfl, Below.refl _ _, hs⟩⟩
    · intro a' w' ha hs hw
      obtain ⟨v22, e22, q22⟩ := hw 22 (by kernel_rfl) _ _ _ rfl rfl rfl
      obtain rfl : v22 = Value.bool true := q22
      obtain ⟨v26, e26, q26⟩ := hw 26 (by kernel_rfl) _ _ _ rfl rfl rfl
      obtain rfl : v26 = .agg #[.bool sa, .slice Xa pa qa] := q26
      exact ⟨wanted_some rfl rfl rfl e22, call_step rfl Try.func39 (by kernel_rfl) rfl (map_one (ev_tmp e26)) (neg_any _ (za) _ (iv_next IVa.out hs rfl) (SZa.out.mono (by omega))) (fun e w2 he => by obtain ⟨v, rfl, hv, hb⟩ := he; exact ⟨v, rfl, v, rfl, hv, hb, hs.trans (hb.mono hs.size)⟩)⟩
    · intro a' w' ha hs hw
      obtain ⟨v22, e22, q22⟩ := hw 22 (by kernel_rfl) _ _ _ rfl rfl rfl
      obtain rfl : v22 = Value.bool true := q22
      obtain ⟨v25, e25, q25⟩ := hw 25 (by kernel_rfl) _ _ _ rfl rfl rfl
      replace q25 : Iv w' v25 ((za) * ((-1 : Int))) := q25
      obtain ⟨v27, e27, q27⟩ := hw 27 (by kernel_rfl) _ _ _ rfl rfl rfl
      replace q27 : Iv w' v27 (-(za)) := q27
      exact ⟨wanted_some rfl rfl rfl e22, call_step rfl Try.func19 (by kernel_rfl) rfl (map_two (ev_tmp e25) (ev_tmp e27)) (same_true _ _ ((za) * ((-1 : Int))) (-(za)) _ q25 q27 (SR14x25.out.mono (by omega)) (by grind)) (fun e w2 he => by obtain ⟨rfl, hb⟩ := he; exact ⟨_, rfl, _, rfl, rfl, hb, hs.trans (hb.mono hs.size)⟩)⟩
    · intro a' w' ha hs hw
      obtain ⟨v22, e22, q22⟩ := hw 22 (by kernel_rfl) _ _ _ rfl rfl rfl
      obtain rfl : v22 = Value.bool true := q22
      obtain ⟨v28, e28, q28⟩ := hw 28 (by kernel_rfl) _ _ _ rfl rfl rfl
      obtain rfl : v28 = Value.bool true := q28
      exact ⟨wanted_none rfl, wp_val (run_pick (b := true) rfl (ev_tmp e22) (ev_tmp e28)) ⟨_, rfl, rfl, Below.refl _ _, hs⟩⟩
    · intro a' w' ha hs hw
      obtain ⟨v29, e29, q29⟩ := hw 29 (by kernel_rfl) _ _ _ rfl rfl rfl
      obtain rfl : v29 = Value.bool true := q29
      exact ⟨wanted_none rfl, wp_val (run_move rfl (ev_tmp e29)) ⟨_, rfl, rfl, Below.refl _ _, hs⟩⟩
    · intro a' w' ha hs hw
      obtain ⟨v30, e30, q30⟩ := hw 30 (by kernel_rfl) _ _ _ rfl rfl rfl
      obtain rfl : v30 = Value.bool true := q30
      have eo8 : a'.tmps[8]? = some (Value.pointer (some ⟨ga, 0, none⟩)) := (ha.rest 8 (by kernel_rfl)).trans rfl
      exact ⟨wanted_some rfl rfl rfl e30, wp_val (run_load rfl (ev_tmp eo8) (BXa.out.next hs rfl)) ⟨_, rfl, rfl, Below.refl _ _, hs⟩⟩
    · intro a' w' ha hs hw
      obtain ⟨v30, e30, q30⟩ := hw 30 (by kernel_rfl) _ _ _ rfl rfl rfl
      obtain rfl : v30 = Value.bool true := q30
      have eo8 : a'.tmps[8]? = some (Value.pointer (some ⟨ga, 0, none⟩)) := (ha.rest 8 (by kernel_rfl)).trans rfl
      exact ⟨wanted_some rfl rfl rfl e30, wp_val (run_load rfl (ev_tmp eo8) (BXa.out.next hs rfl)) ⟨_, rfl, rfl, Below.refl _ _, hs⟩⟩
    · intro a' w' ha hs hw
      obtain ⟨v30, e30, q30⟩ := hw 30 (by kernel_rfl) _ _ _ rfl rfl rfl
      obtain rfl : v30 = Value.bool true := q30
      obtain ⟨v31, e31, q31⟩ := hw 31 (by kernel_rfl) _ _ _ rfl rfl rfl
      obtain rfl : v31 = .agg #[.bool sa, .slice Xa pa qa] := q31
      obtain ⟨v32, e32, q32⟩ := hw 32 (by kernel_rfl) _ _ _ rfl rfl rfl
      obtain rfl : v32 = .agg #[.bool sa, .slice Xa pa qa] := q32
      exact ⟨wanted_some rfl rfl rfl e30, call_step rfl Try.func28 (by kernel_rfl) rfl (map_two (ev_tmp e31) (ev_tmp e32)) (sub_any _ _ (za) (za) _ (iv_next IVa.out hs rfl) (iv_next IVa.out hs rfl) (SZa.out.mono (by omega)) (SZa.out.mono (by omega))) (fun e w2 he => by obtain ⟨v, rfl, hv, hb⟩ := he; exact ⟨v, rfl, v, rfl, hv, hb, hs.trans (hb.mono hs.size)⟩)⟩
    · intro a' w' ha hs hw
      obtain ⟨v30, e30, q30⟩ := hw 30 (by kernel_rfl) _ _ _ rfl rfl rfl
      obtain rfl : v30 = Value.bool true := q30
      exact ⟨wanted_some rfl rfl rfl e30, call_step rfl Try.func40 (by kernel_rfl) rfl (map_one rfl) (lof_any (0) _ (by omega) (by omega)) (fun e w2 he => by obtain ⟨v, rfl, hv, hb⟩ := he; exact ⟨v, rfl, v, rfl, hv, hb, hs.trans (hb.mono hs.size)⟩)⟩
    · intro a' w' ha hs hw
      obtain ⟨v30, e30, q30⟩ := hw 30 (by kernel_rfl) _ _ _ rfl rfl rfl
      obtain rfl : v30 = Value.bool true := q30
      obtain ⟨v33, e33, q33⟩ := hw 33 (by kernel_rfl) _ _ _ rfl rfl rfl
      replace q33 : Iv w' v33 ((za) - (za)) := q33
      obtain ⟨v34, e34, q34⟩ := hw 34 (by kernel_rfl) _ _ _ rfl rfl rfl
      replace q34 : Iv w' v34 ((0 : Int)) := q34
      exact ⟨wanted_some rfl rfl rfl e30, call_step rfl Try.func19 (by kernel_rfl) rfl (map_two (ev_tmp e33) (ev_tmp e34)) (same_true _ _ ((za) - (za)) ((0 : Int)) _ q33 q34 (SR14x33.out.mono (by omega)) (by grind)) (fun e w2 he => by obtain ⟨rfl, hb⟩ := he; exact ⟨_, rfl, _, rfl, rfl, hb, hs.trans (hb.mono hs.size)⟩)⟩
    · intro a' w' ha hs hw
      obtain ⟨v30, e30, q30⟩ := hw 30 (by kernel_rfl) _ _ _ rfl rfl rfl
      obtain rfl : v30 = Value.bool true := q30
      obtain ⟨v35, e35, q35⟩ := hw 35 (by kernel_rfl) _ _ _ rfl rfl rfl
      obtain rfl : v35 = Value.bool true := q35
      exact ⟨wanted_none rfl, wp_val (run_pick (b := true) rfl (ev_tmp e30) (ev_tmp e35)) ⟨_, rfl, rfl, Below.refl _ _, hs⟩⟩
    · intro a' w' ha hs hw
      obtain ⟨v36, e36, q36⟩ := hw 36 (by kernel_rfl) _ _ _ rfl rfl rfl
      obtain rfl : v36 = Value.bool true := q36
      exact ⟨wanted_none rfl, wp_val (run_assign rfl (ev_tmp e36)) ⟨_, rfl, rfl, Below.refl _ _, hs⟩⟩
  simp only [allK]
  intro r14x0 _ r14x1 _ r14x2 _ r14x3 _ r14x4 _ r14x5 _ r14x6 _ r14x7 _ r14x8 _ r14x9 _ r14x10 _ r14x11 _
  simp only [setAll, List.set_cons_succ, List.set_cons_zero]
  refine hK _ _ ?_
  clear hK K
  clear SR14x3
  clear SR14x4
  clear SR14x10
  clear SR14x11
  clear SR14x17
  clear SR14x18
  clear SR14x19
  clear SR14x24
  clear SR14x25
  clear SR14x27
  clear SR14x33
  clear SR14x34
  replace BXa := Lib.hid (BXa.out.next hs rfl); replace IVa := Lib.hid (iv_next IVa.out hs rfl)
  replace BXb := Lib.hid (BXb.out.next hs rfl); replace IVb := Lib.hid (iv_next IVb.out hs rfl)
  replace BXc := Lib.hid (BXc.out.next hs rfl); replace IVc := Lib.hid (iv_next IVc.out hs rfl)
  replace BXs := Lib.hid (BXs.out.next hs rfl); replace IVs := Lib.hid (iv_next IVs.out hs rfl)
  replace BXp := Lib.hid (BXp.out.next hs rfl); replace IVp := Lib.hid (iv_next IVp.out hs rfl)
  replace BXd := Lib.hid (BXd.out.next hs rfl); replace IVd := Lib.hid (iv_next IVd.out hs rfl)
  replace DW := Lib.hid (link_below DW.out hs (by have := DW.out.size; omega) rfl rfl rfl rfl)
  clear hs
  go_wp2
  go_ret
  exact ⟨by simp, by rw [hg]; exact DW.out⟩
end Go.Proofs.Ytloiabkopacfgaa
