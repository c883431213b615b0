/-
  The law IntegerOrder: the walk.
-/
import Derived.Test.YtloiabkopacfgaaLawB
import Derived.Deep.DeepCutAuto
import Derived.Handy
namespace Go.Proofs.Ytloiabkopacfgaa
open Go.RowKit
attribute [local go_sem ↓] Go.wp_at_zero Go.wp_at_succ

set_option maxHeartbeats 16000000 in
set_option maxRecDepth 100000 in
theorem lawOrderA_any (b0 : Bool) (A0 : Option Addr) (n0 c0 : Nat) (ws0 : List Nat) (b1 : Bool) (A1 : Option Addr) (n1 c1 : Nat) (ws1 : List Nat) (b2 : Bool) (A2 : Option Addr) (n2 c2 : Nat) (ws2 : List Nat)  (w : World) (h0 : Wd w A0 n0 ws0) (m0 : n0 ≤ 9223372036854775807) (h1 : Wd w A1 n1 ws1) (m1 : n1 ≤ 9223372036854775807) (h2 : Wd w A2 n2 ws2) (m2 : n2 ≤ 9223372036854775807) (hx0 : sgn b0 (val (ws0.take 8)) < sgn b1 (val (ws1.take 8))) (hx1 : sgn b1 (val (ws1.take 8)) < sgn b2 (val (ws2.take 8))) :
    Calls Try.prog 6 #[.agg #[.bool b0, .slice A0 n0 c0], .agg #[.bool b1, .slice A1 n1 c1], .agg #[.bool b2, .slice A2 n2 c2]] w fun e w' => e = .returned (.bool true) ∧ Below w.heap.size w w' := by
  obtain ⟨za, hza⟩ : ∃ z, z = sgn b0 (val (ws0.take 8)) := ⟨_, rfl⟩
  have SZa : Hid (Sz za 8) := by rw [hza]; exact sz_take _ _ _ h0.wds
  obtain ⟨zb, hzb⟩ : ∃ z, z = sgn b1 (val (ws1.take 8)) := ⟨_, rfl⟩
  have SZb : Hid (Sz zb 8) := by rw [hzb]; exact sz_take _ _ _ h1.wds
  obtain ⟨zc, hzc⟩ : ∃ z, z = sgn b2 (val (ws2.take 8)) := ⟨_, rfl⟩
  have SZc : Hid (Sz zc 8) := by rw [hzc]; exact sz_take _ _ _ h2.wds
  simp only [← hza, ← hzb, ← hzc] at hx0
  simp only [← hza, ← hzb, ← hzc] at hx1
  go_enter Try.func6, Try.ntmps6
  go_wp2_with fail
  obtain ⟨W, hW⟩ : ∃ W, W = (((w.alloc (Obj.cells #[Value.bool b0, Value.slice A0 n0 c0] 24)).alloc (Obj.cells #[Value.bool b1, Value.slice A1 n1 c1] 24)).alloc (Obj.cells #[Value.bool b2, Value.slice A2 n2 c2] 24)) := ⟨_, rfl⟩
  rw [← hW]
  have RX0 : Hid (RBox W (w.heap.size) b0 (.slice A0 n0 c0)) := by rw [hW]; have := ((RBox.new w b0 (.slice A0 n0 c0)).alloc (Obj.cells #[Value.bool b1, Value.slice A1 n1 c1] 24)).alloc (Obj.cells #[Value.bool b2, Value.slice A2 n2 c2] 24); simpa [Hid] using this
  have RW0 : Hid (Wd W A0 n0 ws0) := by rw [hW]; exact (((h0).alloc _).alloc _).alloc _
  have RX1 : Hid (RBox W (w.heap.size + 1) b1 (.slice A1 n1 c1)) := by rw [hW]; have := (RBox.new (w.alloc (Obj.cells #[Value.bool b0, Value.slice A0 n0 c0] 24)) b1 (.slice A1 n1 c1)).alloc (Obj.cells #[Value.bool b2, Value.slice A2 n2 c2] 24); simpa [Hid] using this
  have RW1 : Hid (Wd W A1 n1 ws1) := by rw [hW]; exact (((h1).alloc _).alloc _).alloc _
  have RX2 : Hid (RBox W (w.heap.size + 1 + 1) b2 (.slice A2 n2 c2)) := by rw [hW]; have := RBox.new ((w.alloc (Obj.cells #[Value.bool b0, Value.slice A0 n0 c0] 24)).alloc (Obj.cells #[Value.bool b1, Value.slice A1 n1 c1] 24)) b2 (.slice A2 n2 c2); simpa [Hid] using this
  have RW2 : Hid (Wd W A2 n2 ws2) := by rw [hW]; exact (((h2).alloc _).alloc _).alloc _
  have DW : Hid (Below w.heap.size w W) := by rw [hW]; exact (((Below.refl _ _).alloc (by simp <;> omega) _).alloc (by simp <;> omega) _).alloc (by simp <;> omega) _
  clear hW h0 h1 h2
  generalize hg : w.heap.size = g at *
  refine (sanity_any _).mono ?_
  rintro e w1 ⟨rfl, hb1⟩
  replace RX0 := Lib.hid (RX0.out.next hb1 rfl); replace RW0 := Lib.hid (RW0.out.next hb1 rfl)
  replace RX1 := Lib.hid (RX1.out.next hb1 rfl); replace RW1 := Lib.hid (RW1.out.next hb1 rfl)
  replace RX2 := Lib.hid (RX2.out.next hb1 rfl); replace RW2 := Lib.hid (RW2.out.next hb1 rfl)
  replace DW := Lib.hid (link_below DW.out hb1 (by have := DW.out.size; omega) rfl rfl rfl rfl)
  clear hb1
  have u1 := RX0.out.cell0; have u2 := RX0.out.cell1
  go_wp2_with fail
  clear u1 u2
  refine (rmade_raw b0 A0 n0 c0 8 8 ws0 _ RW0.out rfl (by omega) m0).mono ?_
  rw [← hza]
  rintro e y1 ⟨_, rfl, hq, hb⟩
  clear RX0 RW0
  obtain ⟨Xa, pa, qa, rfl, _, _, _⟩ := hq.form
  have Q := Lib.hid hq; have B := Lib.hid hb; clear hq hb
  generalize hs : decide ((za : Int) < 0) = sa at *
  clear hs
  go_upto_region 5 with fail
  obtain ⟨W2, hW⟩ : ∃ W2, W2 = y1.alloc (Obj.cells #[Value.bool sa, Value.slice Xa pa qa] 27) := ⟨_, rfl⟩
  rw [← hW]
  have BXa : Hid (Box W2 y1.heap.size sa (.slice Xa pa qa)) := by rw [hW]; exact Box.new _ _ _
  have IVa : Hid (Iv W2 (.agg #[.bool sa, .slice Xa pa qa]) (za)) := by rw [hW]; exact Q.out.alloc _
  have hd : Below w1.heap.size w1 W2 := by rw [hW]; exact B.out.alloc B.out.size _
  clear hW Q B
  generalize hgn : y1.heap.size = ga at *
  clear hgn
  replace RX1 := Lib.hid (RX1.out.next hd rfl); replace RW1 := Lib.hid (RW1.out.next hd rfl)
  replace RX2 := Lib.hid (RX2.out.next hd rfl); replace RW2 := Lib.hid (RW2.out.next hd rfl)
  replace DW := Lib.hid (link_below DW.out hd (by have := DW.out.size; omega) rfl rfl rfl rfl)
  clear hd
  have u1 := RX1.out.cell0; have u2 := RX1.out.cell1
  go_wp2_with fail
  clear u1 u2
  refine (rmade_raw b1 A1 n1 c1 8 8 ws1 _ RW1.out rfl (by omega) m1).mono ?_
  rw [← hzb]
  rintro e y3 ⟨_, rfl, hq, hb⟩
  clear RX1 RW1
  obtain ⟨Xb, pb, qb, rfl, _, _, _⟩ := hq.form
  have Q := Lib.hid hq; have B := Lib.hid hb; clear hq hb
  generalize hs : decide ((zb : Int) < 0) = sb at *
  clear hs
  go_upto_region 6 with fail
  obtain ⟨W4, hW⟩ : ∃ W4, W4 = y3.alloc (Obj.cells #[Value.bool sb, Value.slice Xb pb qb] 27) := ⟨_, rfl⟩
  rw [← hW]
  have BXb : Hid (Box W4 y3.heap.size sb (.slice Xb pb qb)) := by rw [hW]; exact Box.new _ _ _
  have IVb : Hid (Iv W4 (.agg #[.bool sb, .slice Xb pb qb]) (zb)) := by rw [hW]; exact Q.out.alloc _
  have hd : Below W2.heap.size W2 W4 := by rw [hW]; exact B.out.alloc B.out.size _
  clear hW Q B
  generalize hgn : y3.heap.size = gb at *
  clear hgn
  replace BXa := Lib.hid (BXa.out.next hd rfl); replace IVa := Lib.hid (iv_next IVa.out hd rfl)
  replace RX2 := Lib.hid (RX2.out.next hd rfl); replace RW2 := Lib.hid (RW2.out.next hd rfl)
  replace DW := Lib.hid (link_below DW.out hd (by have := DW.out.size; omega) rfl rfl rfl rfl)
  clear hd
  have u1 := RX2.out.cell0; have u2 := RX2.out.cell1
  go_wp2_with fail
  clear u1 u2
  refine (rmade_raw b2 A2 n2 c2 8 8 ws2 _ RW2.out rfl (by omega) m2).mono ?_
  rw [← hzc]
  rintro e y5 ⟨_, rfl, hq, hb⟩
  clear RX2 RW2
  obtain ⟨Xc, pc, qc, rfl, _, _, _⟩ := hq.form
  have Q := Lib.hid hq; have B := Lib.hid hb; clear hq hb
  generalize hs : decide ((zc : Int) < 0) = sc at *
  clear hs
  go_upto_region 7 with fail
  obtain ⟨W6, hW⟩ : ∃ W6, W6 = y5.alloc (Obj.cells #[Value.bool sc, Value.slice Xc pc qc] 27) := ⟨_, rfl⟩
  rw [← hW]
  have BXc : Hid (Box W6 y5.heap.size sc (.slice Xc pc qc)) := by rw [hW]; exact Box.new _ _ _
  have IVc : Hid (Iv W6 (.agg #[.bool sc, .slice Xc pc qc]) (zc)) := by rw [hW]; exact Q.out.alloc _
  have hd : Below W4.heap.size W4 W6 := by rw [hW]; exact B.out.alloc B.out.size _
  clear hW Q B
  generalize hgn : y5.heap.size = gc at *
  clear hgn
  replace BXa := Lib.hid (BXa.out.next hd rfl); replace IVa := Lib.hid (iv_next IVa.out hd rfl)
  replace BXb := Lib.hid (BXb.out.next hd rfl); replace IVb := Lib.hid (iv_next IVb.out hd rfl)
  replace DW := Lib.hid (link_below DW.out hd (by have := DW.out.size; omega) rfl rfl rfl rfl)
  clear hd
  have u7a := BXa.out.cell0; have u7b := BXa.out.cell1
  have u8a := BXb.out.cell0; have u8b := BXb.out.cell1
  go_wp2_with fail
  clear u7a u7b u8a u8b
  refine (cmp_is _ _ (za) (zb) (-1) _ IVa.out IVb.out (SZa.out.mono (by omega)) (SZb.out.mono (by omega)) (by unfold cmpZ; split <;> first | omega | (split <;> omega))).mono ?_
  rintro e y9 ⟨rfl, hb⟩
  replace BXa := Lib.hid (BXa.out.next hb rfl); replace IVa := Lib.hid (iv_next IVa.out hb rfl)
  replace BXb := Lib.hid (BXb.out.next hb rfl); replace IVb := Lib.hid (iv_next IVb.out hb rfl)
  replace BXc := Lib.hid (BXc.out.next hb rfl); replace IVc := Lib.hid (iv_next IVc.out hb rfl)
  replace DW := Lib.hid (link_below DW.out hb (by have := DW.out.size; omega) rfl rfl rfl rfl)
  clear hb
  go_upto_region 8 with fail
  have SR8x16 : Hid (Sz (-(za)) 8) := (Sz.neg SZa.out)
  have SR8x18 : Hid (Sz (-(zb)) 8) := (Sz.neg SZb.out)
  have SR8x27 : Hid (Sz ((za) - (zb)) 9) := (Sz.sub (N := 8) (SZa.out.mono (by omega)) (SZb.out.mono (by omega)))
  refine region_run (fun w' => Below y9.heap.size y9 w') [.is (Value.int IntKind.i64 (-1)), .is (Value.bool false), .is (Value.bool false), .is (Value.int IntKind.i64 (-1)), .is (Value.bool false), .is (Value.bool false), .is (Value.bool false), .is (.agg #[.bool sb, .slice Xb pb qb]), .is (.agg #[.bool sa, .slice Xa pa qa]), .is (Value.int IntKind.i64 (1)), .is (Value.int IntKind.i64 (-1)), .is (Value.int IntKind.i64 (1)), .is (Value.bool false), .is (Value.bool false), .is (Value.bool false), .is (.agg #[.bool sa, .slice Xa pa qa]), .iv (-(za)), .is (.agg #[.bool sb, .slice Xb pb qb]), .iv (-(zb)), .is (Value.int IntKind.i64 (1)), .is (Value.int IntKind.i64 (-1)), .is (Value.int IntKind.i64 (1)), .is (Value.bool false), .is (Value.bool false), .is (Value.bool false), .is (.agg #[.bool sa, .slice Xa pa qa]), .is (.agg #[.bool sb, .slice Xb pb qb]), .iv ((za) - (zb)), .is (Value.int IntKind.i64 (-1)), .is (Value.int IntKind.i64 (-1)), .is (Value.bool false), .is (Value.bool false)] [24, 25, 26, 27, 28, 29, 30, 31, 32, 33, 34, 35, 36, 37, 38, 39, 40, 41, 42, 43, 44, 45, 46, 47, 48, 49, 50, 51, 52, 53, 54, 55] (by kernel_rfl) (by kernel_rfl) (by kernel_rfl) (by rfl) (by kernel_rfl) ((Below.refl _ _).drew) (fun Q' => ?_) (fun K hK wn hs => ?_)
  · refine ⟨?_, ?_, ?_, ?_, ?_, ?_, ?_, ?_, ?_, ?_, ?_, ?_, ?_, ?_, ?_, ?_, ?_, ?_, ?_, ?_, ?_, ?_, ?_, ?_, ?_, ?_, ?_, ?_, ?_, ?_, ?_, ?_, trivial⟩
    · intro a' w' ha hs hw
      have eo11 : a'.tmps[11]? = some (Value.int IntKind.i64 (-1)) := (ha.rest 11 (by kernel_rfl)).trans rfl
      exact ⟨wanted_none rfl, wp_val (run_move rfl (ev_tmp eo11)) ⟨_, rfl, rfl, Below.refl _ _, hs⟩⟩
    · intro a' w' ha hs hw
      obtain ⟨v0, e0, q0⟩ := hw 0 (by kernel_rfl) _ _ _ rfl rfl rfl
      obtain rfl : v0 = Value.int IntKind.i64 (-1) := q0
      exact ⟨wanted_none rfl, wp_val (run_lss_int rfl (ev_tmp e0) rfl) ⟨_, rfl, congrArg Value.bool (by decide), Below.refl _ _, hs⟩⟩
    · intro a' w' ha hs hw
      obtain ⟨v1, e1, q1⟩ := hw 1 (by kernel_rfl) _ _ _ rfl rfl rfl
      obtain rfl : v1 = Value.bool false := q1
      exact ⟨wanted_none rfl, wp_val (run_move rfl (ev_tmp e1)) ⟨_, rfl, rfl, Below.refl _ _, hs⟩⟩
    · intro a' w' ha hs hw
      obtain ⟨v2, e2, q2⟩ := hw 2 (by kernel_rfl) _ _ _ rfl rfl rfl
      obtain rfl : v2 = Value.bool false := q2
      have eo11 : a'.tmps[11]? = some (Value.int IntKind.i64 (-1)) := (ha.rest 11 (by kernel_rfl)).trans rfl
      exact ⟨wanted_some rfl rfl rfl e2, wp_val (run_move rfl (ev_tmp eo11)) ⟨_, rfl, rfl, Below.refl _ _, hs⟩⟩
    · intro a' w' ha hs hw
      obtain ⟨v2, e2, q2⟩ := hw 2 (by kernel_rfl) _ _ _ rfl rfl rfl
      obtain rfl : v2 = Value.bool false := q2
      obtain ⟨v3, e3, q3⟩ := hw 3 (by kernel_rfl) _ _ _ rfl rfl rfl
      obtain rfl : v3 = Value.int IntKind.i64 (-1) := q3
      exact ⟨wanted_some rfl rfl rfl e2, wp_val (run_gtr_int rfl (ev_tmp e3) rfl) ⟨_, rfl, congrArg Value.bool (by decide), Below.refl _ _, hs⟩⟩
    · intro a' w' ha hs hw
      obtain ⟨v2, e2, q2⟩ := hw 2 (by kernel_rfl) _ _ _ rfl rfl rfl
      obtain rfl : v2 = Value.bool false := q2
      obtain ⟨v4, e4, q4⟩ := hw 4 (by kernel_rfl) _ _ _ rfl rfl rfl
      obtain rfl : v4 = Value.bool false := q4
      exact ⟨wanted_none rfl, wp_val (run_pick (b := false) rfl (ev_tmp e2) (ev_tmp e4)) ⟨_, rfl, rfl, Below.refl _ _, hs⟩⟩
    · intro a' w' ha hs hw
      obtain ⟨v5, e5, q5⟩ := hw 5 (by kernel_rfl) _ _ _ rfl rfl rfl
      obtain rfl : v5 = Value.bool false := q5
      exact ⟨wanted_none rfl, wp_val (run_move rfl (ev_tmp e5)) ⟨_, rfl, rfl, Below.refl _ _, hs⟩⟩
    · intro a' w' ha hs hw
      obtain ⟨v6, e6, q6⟩ := hw 6 (by kernel_rfl) _ _ _ rfl rfl rfl
      obtain rfl : v6 = Value.bool false := q6
      have eo9 : a'.tmps[9]? = some (Value.pointer (some ⟨gb, 0, none⟩)) := (ha.rest 9 (by kernel_rfl)).trans rfl
      exact ⟨wanted_some rfl rfl rfl e6, wp_val (run_load rfl (ev_tmp eo9) (BXb.out.next hs rfl)) ⟨_, rfl, rfl, Below.refl _ _, hs⟩⟩
    · intro a' w' ha hs hw
      obtain ⟨v6, e6, q6⟩ := hw 6 (by kernel_rfl) _ _ _ rfl rfl rfl
      obtain rfl : v6 = Value.bool false := q6
      have eo8 : a'.tmps[8]? = some (Value.pointer (some ⟨ga, 0, none⟩)) := (ha.rest 8 (by kernel_rfl)).trans rfl
      exact ⟨wanted_some rfl rfl rfl e6, wp_val (run_load rfl (ev_tmp eo8) (BXa.out.next hs rfl)) ⟨_, rfl, rfl, Below.refl _ _, hs⟩⟩
    · intro a' w' ha hs hw
      obtain ⟨v6, e6, q6⟩ := hw 6 (by kernel_rfl) _ _ _ rfl rfl rfl
      obtain rfl : v6 = Value.bool false := q6
      obtain ⟨v7, e7, q7⟩ := hw 7 (by kernel_rfl) _ _ _ rfl rfl rfl
      obtain rfl : v7 = .agg #[.bool sb, .slice Xb pb qb] := q7
      obtain ⟨v8, e8, q8⟩ := hw 8 (by kernel_rfl) _ _ _ rfl rfl rfl
      obtain rfl : v8 = .agg #[.bool sa, .slice Xa pa qa] := q8
      exact ⟨wanted_some rfl rfl rfl e6, call_step rfl Try.func24 (by kernel_rfl) rfl (map_two (ev_tmp e7) (ev_tmp e8)) (cmp_is _ _ (zb) (za) (1) _ (iv_next IVb.out hs rfl) (iv_next IVa.out hs rfl) (SZb.out.mono (by omega)) (SZa.out.mono (by omega)) (by unfold cmpZ; split <;> first | omega | (split <;> omega))) (fun e w2 he => by obtain ⟨rfl, hb⟩ := he; exact ⟨_, rfl, _, rfl, rfl, hb, hs.trans (hb.mono hs.size)⟩)⟩
    · intro a' w' ha hs hw
      obtain ⟨v6, e6, q6⟩ := hw 6 (by kernel_rfl) _ _ _ rfl rfl rfl
      obtain rfl : v6 = Value.bool false := q6
      have eo11 : a'.tmps[11]? = some (Value.int IntKind.i64 (-1)) := (ha.rest 11 (by kernel_rfl)).trans rfl
      exact ⟨wanted_some rfl rfl rfl e6, wp_val (run_move rfl (ev_tmp eo11)) ⟨_, rfl, rfl, Below.refl _ _, hs⟩⟩
    · intro a' w' ha hs hw
      obtain ⟨v6, e6, q6⟩ := hw 6 (by kernel_rfl) _ _ _ rfl rfl rfl
      obtain rfl : v6 = Value.bool false := q6
      obtain ⟨v10, e10, q10⟩ := hw 10 (by kernel_rfl) _ _ _ rfl rfl rfl
      obtain rfl : v10 = Value.int IntKind.i64 (-1) := q10
      exact ⟨wanted_some rfl rfl rfl e6, wp_val (run_neg_i64 rfl (ev_tmp e10) (by decide)) ⟨_, rfl, rfl, Below.refl _ _, hs⟩⟩
    · intro a' w' ha hs hw
      obtain ⟨v6, e6, q6⟩ := hw 6 (by kernel_rfl) _ _ _ rfl rfl rfl
      obtain rfl : v6 = Value.bool false := q6
      obtain ⟨v9, e9, q9⟩ := hw 9 (by kernel_rfl) _ _ _ rfl rfl rfl
      obtain rfl : v9 = Value.int IntKind.i64 (1) := q9
      obtain ⟨v11, e11, q11⟩ := hw 11 (by kernel_rfl) _ _ _ rfl rfl rfl
      obtain rfl : v11 = Value.int IntKind.i64 (1) := q11
      exact ⟨wanted_some rfl rfl rfl e6, wp_val (run_neq_int rfl (ev_tmp e9) (ev_tmp e11)) ⟨_, rfl, congrArg Value.bool (by decide), Below.refl _ _, hs⟩⟩
    · intro a' w' ha hs hw
      obtain ⟨v6, e6, q6⟩ := hw 6 (by kernel_rfl) _ _ _ rfl rfl rfl
      obtain rfl : v6 = Value.bool false := q6
      obtain ⟨v12, e12, q12⟩ := hw 12 (by kernel_rfl) _ _ _ rfl rfl rfl
      obtain rfl : v12 = Value.bool false := q12
      exact ⟨wanted_none rfl, wp_val (run_pick (b := false) rfl (ev_tmp e6) (ev_tmp e12)) ⟨_, rfl, rfl, Below.refl _ _, hs⟩⟩
    · intro a' w' ha hs hw
      obtain ⟨v13, e13, q13⟩ := hw 13 (by kernel_rfl) _ _ _ rfl rfl rfl
      obtain rfl : v13 = Value.bool false := q13
      exact ⟨wanted_none rfl, wp_val (run_move rfl (ev_tmp e13)) ⟨_, rfl, rfl, Below.refl _ _, hs⟩⟩
    · intro a' w' ha hs hw
      obtain ⟨v14, e14, q14⟩ := hw 14 (by kernel_rfl) _ _ _ rfl rfl rfl
      obtain rfl : v14 = Value.bool false := q14
      have eo8 : a'.tmps[8]? = some (Value.pointer (some ⟨ga, 0, none⟩)) := (ha.rest 8 (by kernel_rfl)).trans rfl
      exact ⟨wanted_some rfl rfl rfl e14, wp_val (run_load rfl (ev_tmp eo8) (BXa.out.next hs rfl)) ⟨_, rfl, rfl, Below.refl _ _, hs⟩⟩
    · intro a' w' ha hs hw
      obtain ⟨v14, e14, q14⟩ := hw 14 (by kernel_rfl) _ _ _ rfl rfl rfl
      obtain rfl : v14 = Value.bool false := q14
      obtain ⟨v15, e15, q15⟩ := hw 15 (by kernel_rfl) _ _ _ rfl rfl rfl
      obtain rfl : v15 = .agg #[.bool sa, .slice Xa pa qa] := q15
      exact ⟨wanted_some rfl rfl rfl e14, call_step rfl Try.func39 (by kernel_rfl) rfl (map_one (ev_tmp e15)) (neg_any _ (za) _ (iv_next IVa.out hs rfl) (SZa.out.mono (by omega))) (fun e w2 he => by obtain ⟨v, rfl, hv, hb⟩ := he; exact ⟨v, rfl, v, rfl, hv, hb, hs.trans (hb.mono hs.size)⟩)⟩
    · intro a' w' ha hs hw
      obtain ⟨v14, e14, q14⟩ := hw 14 (by kernel_rfl) _ _ _ rfl rfl rfl
      obtain rfl : v14 = Value.bool false := q14
      have eo9 : a'.tmps[9]? = some (Value.pointer (some ⟨gb, 0, none⟩)) := (ha.rest 9 (by kernel_rfl)).trans rfl
      exact ⟨wanted_some rfl rfl rfl e14, wp_val (run_load rfl (ev_tmp eo9) (BXb.out.next hs rfl)) ⟨_, rfl, rfl, Below.refl _ _, hs⟩⟩
    · intro a' w' ha hs hw
      obtain ⟨v14, e14, q14⟩ := hw 14 (by kernel_rfl) _ _ _ rfl rfl rfl
      obtain rfl : v14 = Value.bool false := q14
      obtain ⟨v17, e17, q17⟩ := hw 17 (by kernel_rfl) _ _ _ rfl rfl rfl
      obtain rfl : v17 = .agg #[.bool sb, .slice Xb pb qb] := q17
      exact ⟨wanted_some rfl rfl rfl e14, call_step rfl Try.func39 (by kernel_rfl) rfl (map_one (ev_tmp e17)) (neg_any _ (zb) _ (iv_next IVb.out hs rfl) (SZb.out.mono (by omega))) (fun e w2 he => by obtain ⟨v, rfl, hv, hb⟩ := he; exact ⟨v, rfl, v, rfl, hv, hb, hs.trans (hb.mono hs.size)⟩)⟩
    · intro a' w' ha hs hw
      obtain ⟨v14, e14, q14⟩ := hw 14 (by kernel_rfl) _ _ _ rfl rfl rfl
      obtain rfl : v14 = Value.bool false := q14
      obtain ⟨v16, e16, q16⟩ := hw 16 (by kernel_rfl) _ _ _ rfl rfl rfl
      replace q16 : Iv w' v16 (-(za)) := q16
      obtain ⟨v18, e18, q18⟩ := hw 18 (by kernel_rfl) _ _ _ rfl rfl rfl
      replace q18 : Iv w' v18 (-(zb)) := q18
      exact ⟨wanted_some rfl rfl rfl e14, call_step rfl Try.func24 (by kernel_rfl) rfl (map_two (ev_tmp e16) (ev_tmp e18)) (cmp_is _ _ (-(za)) (-(zb)) (1) _ q16 q18 (SR8x16.out.mono (by omega)) (SR8x18.out.mono (by omega)) (by unfold cmpZ; split <;> first | omega | (split <;> omega))) (fun e w2 he => by obtain ⟨rfl, hb⟩ := he; exact ⟨_, rfl, _, rfl, rfl, hb, hs.trans (hb.mono hs.size)⟩)⟩
    · intro a' w' ha hs hw
      obtain ⟨v14, e14, q14⟩ := hw 14 (by kernel_rfl) _ _ _ rfl rfl rfl
      obtain rfl : v14 = Value.bool false := q14
      have eo11 : a'.tmps[11]? = some (Value.int IntKind.i64 (-1)) := (ha.rest 11 (by kernel_rfl)).trans rfl
      exact ⟨wanted_some rfl rfl rfl e14, wp_val (run_move rfl (ev_tmp eo11)) ⟨_, rfl, rfl, Below.refl _ _, hs⟩⟩
    · intro a' w' ha hs hw
      obtain ⟨v14, e14, q14⟩ := hw 14 (by kernel_rfl) _ _ _ rfl rfl rfl
      obtain rfl : v14 = Value.bool false := q14
      obtain ⟨v20, e20, q20⟩ := hw 20 (by kernel_rfl) _ _ _ rfl rfl rfl
      obtain rfl : v20 = Value.int IntKind.i64 (-1) := q20
      exact ⟨wanted_some rfl rfl rfl e14, wp_val (run_neg_i64 rfl (ev_tmp e20) (by decide)) ⟨_, rfl, rfl, Below.refl _ _, hs⟩⟩
    · intro a' w' ha hs hw
      obtain ⟨v14, e14, q14⟩ := hw 14 (by kernel_rfl) _ _ _ rfl rfl rfl
      obtain rfl : v14 = Value.bool false := q14
      obtain ⟨v19, e19, q19⟩ := hw 19 (by kernel_rfl) _ _ _ rfl rfl rfl
      obtain rfl : v19 = Value.int IntKind.i64 (1) := q19
      obtain ⟨v21, e21, q21⟩ := hw 21 (by kernel_rfl) _ _ _ rfl rfl rfl
      obtain rfl : v21 = Value.int IntKind.i64 (1) := q21
      exact ⟨wanted_some rfl rfl rfl e14, wp_val (run_neq_int rfl (ev_tmp e19) (ev_tmp e21)) ⟨_, rfl, congrArg Value.bool (by decide), Below.refl _ _, hs⟩⟩
    · intro a' w' ha hs hw
      obtain ⟨v14, e14, q14⟩ := hw 14 (by kernel_rfl) _ _ _ rfl rfl rfl
      obtain rfl : v14 = Value.bool false := q14
      obtain ⟨v22, e22, q22⟩ := hw 22 (by kernel_rfl) _ _ _ rfl rfl rfl
      obtain rfl : v22 = Value.bool false := q22
      exact ⟨wanted_none rfl, wp_val (run_pick (b := false) rfl (ev_tmp e14) (ev_tmp e22)) ⟨_, rfl, rfl, Below.refl _ _, hs⟩⟩
    · intro a' w' ha hs hw
      obtain ⟨v23, e23, q23⟩ := hw 23 (by kernel_rfl) _ _ _ rfl rfl rfl
      obtain rfl : v23 = Value.bool false := q23
      exact ⟨wanted_none rfl, wp_val (run_move rfl (ev_tmp e23)) ⟨_, rfl, rfl, Below.refl _ _, hs⟩⟩
    · intro a' w' ha hs hw
      obtain ⟨v24, e24, q24⟩ := hw 24 (by kernel_rfl) _ _ _ rfl rfl rfl
      obtain rfl : v24 = Value.bool false := q24
      have eo8 : a'.tmps[8]? = some (Value.pointer (some ⟨ga, 0, none⟩)) := (ha.rest 8 (by kernel_rfl)).trans rfl
      exact ⟨wanted_some rfl rfl rfl e24, wp_val (run_load rfl (ev_tmp eo8) (BXa.out.next hs rfl)) ⟨_, rfl, rfl, Below.refl _ _, hs⟩⟩
    · intro a' w' ha hs hw
      obtain ⟨v24, e24, q24⟩ := hw 24 (by kernel_rfl) _ _ _ rfl rfl rfl
      obtain rfl : v24 = Value.bool false := q24
      have eo9 : a'.tmps[9]? = some (Value.pointer (some ⟨gb, 0, none⟩)) := (ha.rest 9 (by kernel_rfl)).trans rfl
      exact ⟨wanted_some rfl rfl rfl e24, wp_val (run_load rfl (ev_tmp eo9) (BXb.out.next hs rfl)) ⟨_, rfl, rfl, Below.refl _ _, hs⟩⟩
    · intro a' w' ha hs hw
      obtain ⟨v24, e24, q24⟩ := hw 24 (by kernel_rfl) _ _ _ rfl rfl rfl
      obtain rfl : v24 = Value.bool false := q24
      obtain ⟨v25, e25, q25⟩ := hw 25 (by kernel_rfl) _ _ _ rfl rfl rfl
      obtain rfl : v25 = .agg #[.bool sa, .slice Xa pa qa] := q25
      obtain ⟨v26, e26, q26⟩ := hw 26 (by kernel_rfl) _ _ _ rfl rfl rfl
      obtain rfl : v26 = .agg #[.bool sb, .slice Xb pb qb] := q26
      exact ⟨wanted_some rfl rfl rfl e24, call_step rfl Try.func28 (by kernel_rfl) rfl (map_two (ev_tmp e25) (ev_tmp e26)) (sub_any _ _ (za) (zb) _ (iv_next IVa.out hs rfl) (iv_next IVb.out hs rfl) (SZa.out.mono (by omega)) (SZb.out.mono (by omega))) (fun e w2 he => by obtain ⟨v, rfl, hv, hb⟩ := he; exact ⟨v, rfl, v, rfl, hv, hb, hs.trans (hb.mono hs.size)⟩)⟩
    · intro a' w' ha hs hw
      obtain ⟨v24, e24, q24⟩ := hw 24 (by kernel_rfl) _ _ _ rfl rfl rfl
      obtain rfl : v24 = Value.bool false := q24
      obtain ⟨v27, e27, q27⟩ := hw 27 (by kernel_rfl) _ _ _ rfl rfl rfl
      replace q27 : Iv w' v27 ((za) - (zb)) := q27
      exact ⟨wanted_some rfl rfl rfl e24, call_step rfl Try.func41 (by kernel_rfl) rfl (map_one (ev_tmp e27)) (sign_is _ ((za) - (zb)) (-1) _ q27 (SR8x27.out.mono (by omega)) (by unfold sg; split <;> first | omega | (split <;> omega))) (fun e w2 he => by obtain ⟨rfl, hb⟩ := he; exact ⟨_, rfl, _, rfl, rfl, hb, hs.trans (hb.mono hs.size)⟩)⟩
    · intro a' w' ha hs hw
      obtain ⟨v24, e24, q24⟩ := hw 24 (by kernel_rfl) _ _ _ rfl rfl rfl
      obtain rfl : v24 = Value.bool false := q24
      have eo11 : a'.tmps[11]? = some (Value.int IntKind.i64 (-1)) := (ha.rest 11 (by kernel_rfl)).trans rfl
      exact ⟨wanted_some rfl rfl rfl e24, wp_val (run_move rfl (ev_tmp eo11)) ⟨_, rfl, rfl, Below.refl _ _, hs⟩⟩
    · intro a' w' ha hs hw
      obtain ⟨v24, e24, q24⟩ := hw 24 (by kernel_rfl) _ _ _ rfl rfl rfl
      obtain rfl : v24 = Value.bool false := q24
      obtain ⟨v28, e28, q28⟩ := hw 28 (by kernel_rfl) _ _ _ rfl rfl rfl
      obtain rfl : v28 = Value.int IntKind.i64 (-1) := q28
      obtain ⟨v29, e29, q29⟩ := hw 29 (by kernel_rfl) _ _ _ rfl rfl rfl
      obtain rfl : v29 = Value.int IntKind.i64 (-1) := q29
      exact ⟨wanted_some rfl rfl rfl e24, wp_val (run_neq_int rfl (ev_tmp e28) (ev_tmp e29)) ⟨_, rfl, congrArg Value.bool (by decide), Below.refl _ _, hs⟩⟩
    · intro a' w' ha hs hw
      obtain ⟨v24, e24, q24⟩ := hw 24 (by kernel_rfl) _ _ _ rfl rfl rfl
      obtain rfl : v24 = Value.bool false := q24
      obtain ⟨v30, e30, q30⟩ := hw 30 (by kernel_rfl) _ _ _ rfl rfl rfl
      obtain rfl : v30 = Value.bool false := q30
      exact ⟨wanted_none rfl, wp_val (run_pick (b := false) rfl (ev_tmp e24) (ev_tmp e30)) ⟨_, rfl, rfl, Below.refl _ _, hs⟩⟩
  simp only [allK]
  intro r8x0 _ r8x1 _ r8x2 _
  simp only [setAll, List.set_cons_succ, List.set_cons_zero]
  refine hK _ _ ?_
  clear hK K
  clear SR8x16
  clear SR8x18
  clear SR8x27
  replace BXa := Lib.hid (BXa.out.next hs rfl); replace IVa := Lib.hid (iv_next IVa.out hs rfl)
  replace BXb := Lib.hid (BXb.out.next hs rfl); replace IVb := Lib.hid (iv_next IVb.out hs rfl)
  replace BXc := Lib.hid (BXc.out.next hs rfl); replace IVc := Lib.hid (iv_next IVc.out hs rfl)
  replace DW := Lib.hid (link_below DW.out hs (by have := DW.out.size; omega) rfl rfl rfl rfl)
  clear hs
  go_upto_region 10 with fail
  have u11a := BXb.out.cell0; have u11b := BXb.out.cell1
  have u12a := BXc.out.cell0; have u12b := BXc.out.cell1
  go_wp2_with fail
  clear u11a u11b u12a u12b
  refine (cmp_is _ _ (zb) (zc) (-1) _ IVb.out IVc.out (SZb.out.mono (by omega)) (SZc.out.mono (by omega)) (by unfold cmpZ; split <;> first | omega | (split <;> omega))).mono ?_
  rintro e y13 ⟨rfl, hb⟩
  replace BXa := Lib.hid (BXa.out.next hb rfl); replace IVa := Lib.hid (iv_next IVa.out hb rfl)
  replace BXb := Lib.hid (BXb.out.next hb rfl); replace IVb := Lib.hid (iv_next IVb.out hb rfl)
  replace BXc := Lib.hid (BXc.out.next hb rfl); replace IVc := Lib.hid (iv_next IVc.out hb rfl)
  replace DW := Lib.hid (link_below DW.out hb (by have := DW.out.size; omega) rfl rfl rfl rfl)
  clear hb
  have u14a := BXa.out.cell0; have u14b := BXa.out.cell1
  have u15a := BXc.out.cell0; have u15b := BXc.out.cell1
  go_wp2_with fail
  clear u14a u14b u15a u15b
  refine (cmp_is _ _ (za) (zc) (-1) _ IVa.out IVc.out (SZa.out.mono (by omega)) (SZc.out.mono (by omega)) (by unfold cmpZ; split <;> first | omega | (split <;> omega))).mono ?_
  rintro e y16 ⟨rfl, hb⟩
  replace BXa := Lib.hid (BXa.out.next hb rfl); replace IVa := Lib.hid (iv_next IVa.out hb rfl)
  replace BXb := Lib.hid (BXb.out.next hb rfl); replace IVb := Lib.hid (iv_next IVb.out hb rfl)
  replace BXc := Lib.hid (BXc.out.next hb rfl); replace IVc := Lib.hid (iv_next IVc.out hb rfl)
  replace DW := Lib.hid (link_below DW.out hb (by have := DW.out.size; omega) rfl rfl rfl rfl)
  clear hb
  go_upto_region 12 with fail
  have SR12x4 : Hid (Sz ((za) + (zc)) 9) := (Sz.add (N := 8) (SZa.out.mono (by omega)) (SZc.out.mono (by omega)))
  have SR12x7 : Hid (Sz ((zb) + (zc)) 9) := (Sz.add (N := 8) (SZb.out.mono (by omega)) (SZc.out.mono (by omega)))
  have SR12x15 : Hid (Sz ((za) * (zc)) 16) := (Sz.mul SZa.out SZc.out)
  have SR12x18 : Hid (Sz ((zb) * (zc)) 16) := (Sz.mul SZb.out SZc.out)
  have SR12x28 : Hid (Sz (0) 2) := I64.sz ⟨by omega, by omega⟩
  refine region_run (fun w' => Below y16.heap.size y16 w') [.is (Value.bool true), .is (Value.bool true), .is (.agg #[.bool sa, .slice Xa pa qa]), .is (.agg #[.bool sc, .slice Xc pc qc]), .iv ((za) + (zc)), .is (.agg #[.bool sb, .slice Xb pb qb]), .is (.agg #[.bool sc, .slice Xc pc qc]), .iv ((zb) + (zc)), .is (Value.int IntKind.i64 (-1)), .is (Value.int IntKind.i64 (-1)), .is (Value.bool true), .is (Value.bool true), .is (Value.bool true), .is (.agg #[.bool sa, .slice Xa pa qa]), .is (.agg #[.bool sc, .slice Xc pc qc]), .iv ((za) * (zc)), .is (.agg #[.bool sb, .slice Xb pb qb]), .is (.agg #[.bool sc, .slice Xc pc qc]), .iv ((zb) * (zc)), .is (Value.int IntKind.i64 ((-1) * sg zc)), .is (Value.int IntKind.i64 (-1)), .is (.agg #[.bool sc, .slice Xc pc qc]), .is (Value.int IntKind.i64 (sg zc)), .is (Value.int IntKind.i64 ((-1) * sg zc)), .is (Value.bool true), .is (Value.bool true), .is (Value.bool true), .is (.agg #[.bool sa, .slice Xa pa qa]), .iv ((0 : Int)), .is (Value.int IntKind.i64 (sg za)), .is (.agg #[.bool sa, .slice Xa pa qa]), .is (Value.int IntKind.i64 (sg za)), .is (Value.bool true), .is (Value.bool true), .is (Value.bool true)] [70, 71, 72, 73, 74, 75, 76, 77, 78, 79, 80, 81, 82, 83, 84, 85, 86, 87, 88, 89, 90, 91, 92, 93, 94, 95, 96, 97, 98, 99, 100, 101, 102, 103, 6] (by kernel_rfl) (by kernel_rfl) (by kernel_rfl) (by rfl) (by kernel_rfl) ((Below.refl _ _).drew) (fun Q' => ?_) (fun K hK wn hs => ?_)
  · refine ⟨?_, ?_, ?_, ?_, ?_, ?_, ?_, ?_, ?_, ?_, ?_, ?_, ?_, ?_, ?_, ?_, ?_, ?_, ?_, ?_, ?_, ?_, ?_, ?_, ?_, ?_, ?_, ?_, ?_, ?_, ?_, ?_, ?_, ?_, ?_, trivial⟩
    · intro a' w' ha hs hw
      have eo7 : a'.tmps[7]? = some (Value.bool true) := (ha.rest 7 (by kernel_rfl)).trans rfl
      exact ⟨wanted_none rfl, wp_val (run_move rfl (ev_tmp eo7)) ⟨_, rfl, rfl, Below.refl _ _, hs⟩⟩
    · intro a' w' ha hs hw
      obtain ⟨v0, e0, q0⟩ := hw 0 (by kernel_rfl) _ _ _ rfl rfl rfl
      obtain rfl : v0 = Value.bool true := q0
      exact ⟨wanted_none rfl, wp_val (run_move rfl (ev_tmp e0)) ⟨_, rfl, rfl, Below.refl _ _, hs⟩⟩
    · intro a' w' ha hs hw
      obtain ⟨v1, e1, q1⟩ := hw 1 (by kernel_rfl) _ _ _ rfl rfl rfl
      obtain rfl : v1 = Value.bool true := q1
      have eo8 : a'.tmps[8]? = some (Value.pointer (some ⟨ga, 0, none⟩)) := (ha.rest 8 (by kernel_rfl)).trans rfl
      exact ⟨wanted_some rfl rfl rfl e1, wp_val (run_load rfl (ev_tmp eo8) (BXa.out.next hs rfl)) ⟨_, rfl, rfl, Below.refl _ _, hs⟩⟩
    · intro a' w' ha hs hw
      obtain ⟨v1, e1, q1⟩ := hw 1 (by kernel_rfl) _ _ _ rfl rfl rfl
      obtain rfl : v1 = Value.bool true := q1
      have eo10 : a'.tmps[10]? = some (Value.pointer (some ⟨gc, 0, none⟩)) := (ha.rest 10 (by kernel_rfl)).trans rfl
      exact ⟨wanted_some rfl rfl rfl e1, wp_val (run_load rfl (ev_tmp eo10) (BXc.out.next hs rfl)) ⟨_, rfl, rfl, Below.refl _ _, hs⟩⟩
    · intro a' w' ha hs hw
      obtain ⟨v1, e1, q1⟩ := hw 1 (by kernel_rfl) _ _ _ rfl rfl rfl
      obtain rfl : v1 = Value.bool true := q1
      obtain ⟨v2, e2, q2⟩ := hw 2 (by kernel_rfl) _ _ _ rfl rfl rfl
      obtain rfl : v2 = .agg #[.bool sa, .slice Xa pa qa] := q2
      obtain ⟨v3, e3, q3⟩ := hw 3 (by kernel_rfl) _ _ _ rfl rfl rfl
      obtain rfl : v3 = .agg #[.bool sc, .slice Xc pc qc] := q3
      exact ⟨wanted_some rfl rfl rfl e1, call_step rfl Try.func26 (by kernel_rfl) rfl (map_two (ev_tmp e2) (ev_tmp e3)) (add_any _ _ (za) (zc) _ (iv_next IVa.out hs rfl) (iv_next IVc.out hs rfl) (SZa.out.mono (by omega)) (SZc.out.mono (by omega))) (fun e w2 he => by obtain ⟨v, rfl, hv, hb⟩ := he; exact ⟨v, rfl, v, rfl, hv, hb, hs.trans (hb.mono hs.size)⟩)⟩
    · intro a' w' ha hs hw
      obtain ⟨v1, e1, q1⟩ := hw 1 (by kernel_rfl) _ _ _ rfl rfl rfl
      obtain rfl : v1 = Value.bool true := q1
      have eo9 : a'.tmps[9]? = some (Value.pointer (some ⟨gb, 0, none⟩)) := (ha.rest 9 (by kernel_rfl)).trans rfl
      exact ⟨wanted_some rfl rfl rfl e1, wp_val (run_load rfl (ev_tmp eo9) (BXb.out.next hs rfl)) ⟨_, rfl, rfl, Below.refl _ _, hs⟩⟩
    · intro a' w' ha hs hw
      obtain ⟨v1, e1, q1⟩ := hw 1 (by kernel_rfl) _ _ _ rfl rfl rfl
      obtain rfl : v1 = Value.bool true := q1
      have eo10 : a'.tmps[10]? = some (Value.pointer (some ⟨gc, 0, none⟩)) := (ha.rest 10 (by kernel_rfl)).trans rfl
      exact ⟨wanted_some rfl rfl rfl e1, wp_val (run_load rfl (ev_tmp eo10) (BXc.out.next hs rfl)) ⟨_, rfl, rfl, Below.refl _ _, hs⟩⟩
    · intro a' w' ha hs hw
      obtain ⟨v1, e1, q1⟩ := hw 1 (by kernel_rfl) _ _ _ rfl rfl rfl
      obtain rfl : v1 = Value.bool true := q1
      obtain ⟨v5, e5, q5⟩ := hw 5 (by kernel_rfl) _ _ _ rfl rfl rfl
      obtain rfl : v5 = .agg #[.bool sb, .slice Xb pb qb] := q5
      obtain ⟨v6, e6, q6⟩ := hw 6 (by kernel_rfl) _ _ _ rfl rfl rfl
      obtain rfl : v6 = .agg #[.bool sc, .slice Xc pc qc] := q6
      exact ⟨wanted_some rfl rfl rfl e1, call_step rfl Try.func26 (by kernel_rfl) rfl (map_two (ev_tmp e5) (ev_tmp e6)) (add_any _ _ (zb) (zc) _ (iv_next IVb.out hs rfl) (iv_next IVc.out hs rfl) (SZb.out.mono (by omega)) (SZc.out.mono (by omega))) (fun e w2 he => by obtain ⟨v, rfl, hv, hb⟩ := he; exact ⟨v, rfl, v, rfl, hv, hb, hs.trans (hb.mono hs.size)⟩)⟩
    · intro a' w' ha hs hw
      obtain ⟨v1, e1, q1⟩ := hw 1 (by kernel_rfl) _ _ _ rfl rfl rfl
      obtain rfl : v1 = Value.bool true := q1
      obtain ⟨v4, e4, q4⟩ := hw 4 (by kernel_rfl) _ _ _ rfl rfl rfl
      replace q4 : Iv w' v4 ((za) + (zc)) := q4
      obtain ⟨v7, e7, q7⟩ := hw 7 (by kernel_rfl) _ _ _ rfl rfl rfl
      replace q7 : Iv w' v7 ((zb) + (zc)) := q7
      exact ⟨wanted_some rfl rfl rfl e1, call_step rfl Try.func24 (by kernel_rfl) rfl (map_two (ev_tmp e4) (ev_tmp e7)) (cmp_is _ _ ((za) + (zc)) ((zb) + (zc)) (-1) _ q4 q7 (SR12x4.out.mono (by omega)) (SR12x7.out.mono (by omega)) (by unfold cmpZ; split <;> first | omega | (split <;> omega))) (fun e w2 he => by obtain ⟨rfl, hb⟩ := he; exact ⟨_, rfl, _, rfl, rfl, hb, hs.trans (hb.mono hs.size)⟩)⟩
    · intro a' w' ha hs hw
      obtain ⟨v1, e1, q1⟩ := hw 1 (by kernel_rfl) _ _ _ rfl rfl rfl
      obtain rfl : v1 = Value.bool true := q1
      have eo11 : a'.tmps[11]? = some (Value.int IntKind.i64 (-1)) := (ha.rest 11 (by kernel_rfl)).trans rfl
      exact ⟨wanted_some rfl rfl rfl e1, wp_val (run_move rfl (ev_tmp eo11)) ⟨_, rfl, rfl, Below.refl _ _, hs⟩⟩
    · intro a' w' ha hs hw
      obtain ⟨v1, e1, q1⟩ := hw 1 (by kernel_rfl) _ _ _ rfl rfl rfl
      obtain rfl : v1 = Value.bool true := q1
      obtain ⟨v8, e8, q8⟩ := hw 8 (by kernel_rfl) _ _ _ rfl rfl rfl
      obtain rfl : v8 = Value.int IntKind.i64 (-1) := q8
      obtain ⟨v9, e9, q9⟩ := hw 9 (by kernel_rfl) _ _ _ rfl rfl rfl
      obtain rfl : v9 = Value.int IntKind.i64 (-1) := q9
      exact ⟨wanted_some rfl rfl rfl e1, wp_val (run_eql_int rfl (ev_tmp e8) (ev_tmp e9)) ⟨_, rfl, congrArg Value.bool (by decide), Below.refl _ _, hs⟩⟩
    · intro a' w' ha hs hw
      obtain ⟨v1, e1, q1⟩ := hw 1 (by kernel_rfl) _ _ _ rfl rfl rfl
      obtain rfl : v1 = Value.bool true := q1
      obtain ⟨v10, e10, q10⟩ := hw 10 (by kernel_rfl) _ _ _ rfl rfl rfl
      obtain rfl : v10 = Value.bool true := q10
      exact ⟨wanted_none rfl, wp_val (run_pick (b := true) rfl (ev_tmp e1) (ev_tmp e10)) ⟨_, rfl, rfl, Below.refl _ _, hs⟩⟩
    · intro a' w' ha hs hw
      obtain ⟨v11, e11, q11⟩ := hw 11 (by kernel_rfl) _ _ _ rfl rfl rfl
      obtain rfl : v11 = Value.bool true := q11
      exact ⟨wanted_none rfl, wp_val (run_move rfl (ev_tmp e11)) ⟨_, rfl, rfl, Below.refl _ _, hs⟩⟩
    · intro a' w' ha hs hw
      obtain ⟨v12, e12, q12⟩ := hw 12 (by kernel_rfl) _ _ _ rfl rfl rfl
      obtain rfl : v12 = Value.bool true := q12
      have eo8 : a'.tmps[8]? = some (Value.pointer (some ⟨ga, 0, none⟩)) := (ha.rest 8 (by kernel_rfl)).trans rfl
      exact ⟨wanted_some rfl rfl rfl e12, wp_val (run_load rfl (ev_tmp eo8) (BXa.out.next hs rfl)) ⟨_, rfl, rfl, Below.refl _ _, hs⟩⟩
    · intro a' w' ha hs hw
      obtain ⟨v12, e12, q12⟩ := hw 12 (by kernel_rfl) _ _ _ rfl rfl rfl
      obtain rfl : v12 = Value.bool true := q12
      have eo10 : a'.tmps[10]? = some (Value.pointer (some ⟨gc, 0, none⟩)) := (ha.rest 10 (by kernel_rfl)).trans rfl
      exact ⟨wanted_some rfl rfl rfl e12, wp_val (run_load rfl (ev_tmp eo10) (BXc.out.next hs rfl)) ⟨_, rfl, rfl, Below.refl _ _, hs⟩⟩
    · intro a' w' ha hs hw
      obtain ⟨v12, e12, q12⟩ := hw 12 (by kernel_rfl) _ _ _ rfl rfl rfl
      obtain rfl : v12 = Value.bool true := q12
      obtain ⟨v13, e13, q13⟩ := hw 13 (by kernel_rfl) _ _ _ rfl rfl rfl
      obtain rfl : v13 = .agg #[.bool sa, .slice Xa pa qa] := q13
      obtain ⟨v14, e14, q14⟩ := hw 14 (by kernel_rfl) _ _ _ rfl rfl rfl
      obtain rfl : v14 = .agg #[.bool sc, .slice Xc pc qc] := q14
      exact ⟨wanted_some rfl rfl rfl e12, call_step rfl Try.func30 (by kernel_rfl) rfl (map_two (ev_tmp e13) (ev_tmp e14)) (mul_any _ _ (za) (zc) _ (iv_next IVa.out hs rfl) (iv_next IVc.out hs rfl) (SZa.out.mono (by omega)) (SZc.out.mono (by omega))) (fun e w2 he => by obtain ⟨v, rfl, hv, hb⟩ := he; exact ⟨v, rfl, v, rfl, hv, hb, hs.trans (hb.mono hs.size)⟩)⟩
    · intro a' w' ha hs hw
      obtain ⟨v12, e12, q12⟩ := hw 12 (by kernel_rfl) _ _ _ rfl rfl rfl
      obtain rfl : v12 = Value.bool true := q12
      have eo9 : a'.tmps[9]? = some (Value.pointer (some ⟨gb, 0, none⟩)) := (ha.rest 9 (by kernel_rfl)).trans rfl
      exact ⟨wanted_some rfl rfl rfl e12, wp_val (run_load rfl (ev_tmp eo9) (BXb.out.next hs rfl)) ⟨_, rfl, rfl, Below.refl _ _, hs⟩⟩
    · intro a' w' ha hs hw
      obtain ⟨v12, e12, q12⟩ := hw 12 (by kernel_rfl) _ _ _ rfl rfl rfl
      obtain rfl : v12 = Value.bool true := q12
      have eo10 : a'.tmps[10]? = some (Value.pointer (some ⟨gc, 0, none⟩)) := (ha.rest 10 (by kernel_rfl)).trans rfl
      exact ⟨wanted_some rfl rfl rfl e12, wp_val (run_load rfl (ev_tmp eo10) (BXc.out.next hs rfl)) ⟨_, rfl, rfl, Below.refl _ _, hs⟩⟩
    · intro a' w' ha hs hw
      obtain ⟨v12, e12, q12⟩ := hw 12 (by kernel_rfl) _ _ _ rfl rfl rfl
      obtain rfl : v12 = Value.bool true := q12
      obtain ⟨v16, e16, q16⟩ := hw 16 (by kernel_rfl) _ _ _ rfl rfl rfl
      obtain rfl : v16 = .agg #[.bool sb, .slice Xb pb qb] := q16
      obtain ⟨v17, e17, q17⟩ := hw 17 (by kernel_rfl) _ _ _ rfl rfl rfl
      obtain rfl : v17 = .agg #[.bool sc, .slice Xc pc qc] := q17
      exact ⟨wanted_some rfl rfl rfl e12, call_step rfl Try.func30 (by kernel_rfl) rfl (map_two (ev_tmp e16) (ev_tmp e17)) (mul_any _ _ (zb) (zc) _ (iv_next IVb.out hs rfl) (iv_next IVc.out hs rfl) (SZb.out.mono (by omega)) (SZc.out.mono (by omega))) (fun e w2 he => by obtain ⟨v, rfl, hv, hb⟩ := he; exact ⟨v, rfl, v, rfl, hv, hb, hs.trans (hb.mono hs.size)⟩)⟩
    · intro a' w' ha hs hw
      obtain ⟨v12, e12, q12⟩ := hw 12 (by kernel_rfl) _ _ _ rfl rfl rfl
      obtain rfl : v12 = Value.bool true := q12
      obtain ⟨v15, e15, q15⟩ := hw 15 (by kernel_rfl) _ _ _ rfl rfl rfl
      replace q15 : Iv w' v15 ((za) * (zc)) := q15
      obtain ⟨v18, e18, q18⟩ := hw 18 (by kernel_rfl) _ _ _ rfl rfl rfl
      replace q18 : Iv w' v18 ((zb) * (zc)) := q18
      exact ⟨wanted_some rfl rfl rfl e12, call_step rfl Try.func24 (by kernel_rfl) rfl (map_two (ev_tmp e15) (ev_tmp e18)) (cmp_is _ _ ((za) * (zc)) ((zb) * (zc)) ((-1) * sg zc) _ q15 q18 (SR12x15.out.mono (by omega)) (SR12x18.out.mono (by omega)) (cmp_mul zc (by unfold cmpZ; split <;> first | omega | (split <;> omega)))) (fun e w2 he => by obtain ⟨rfl, hb⟩ := he; exact ⟨_, rfl, _, rfl, rfl, hb, hs.trans (hb.mono hs.size)⟩)⟩
    · intro a' w' ha hs hw
      obtain ⟨v12, e12, q12⟩ := hw 12 (by kernel_rfl) _ _ _ rfl rfl rfl
      obtain rfl : v12 = Value.bool true := q12
      have eo11 : a'.tmps[11]? = some (Value.int IntKind.i64 (-1)) := (ha.rest 11 (by kernel_rfl)).trans rfl
      exact ⟨wanted_some rfl rfl rfl e12, wp_val (run_move rfl (ev_tmp eo11)) ⟨_, rfl, rfl, Below.refl _ _, hs⟩⟩
    · intro a' w' ha hs hw
      obtain ⟨v12, e12, q12⟩ := hw 12 (by kernel_rfl) _ _ _ rfl rfl rfl
      obtain rfl : v12 = Value.bool true := q12
      have eo10 : a'.tmps[10]? = some (Value.pointer (some ⟨gc, 0, none⟩)) := (ha.rest 10 (by kernel_rfl)).trans rfl
      exact ⟨wanted_some rfl rfl rfl e12, wp_val (run_load rfl (ev_tmp eo10) (BXc.out.next hs rfl)) ⟨_, rfl, rfl, Below.refl _ _, hs⟩⟩
    · intro a' w' ha hs hw
      obtain ⟨v12, e12, q12⟩ := hw 12 (by kernel_rfl) _ _ _ rfl rfl rfl
      obtain rfl : v12 = Value.bool true := q12
      obtain ⟨v21, e21, q21⟩ := hw 21 (by kernel_rfl) _ _ _ rfl rfl rfl
      obtain rfl : v21 = .agg #[.bool sc, .slice Xc pc qc] := q21
      exact ⟨wanted_some rfl rfl rfl e12, call_step rfl Try.func41 (by kernel_rfl) rfl (map_one (ev_tmp e21)) (sign_is _ (zc) (sg zc) _ (iv_next IVc.out hs rfl) (SZc.out.mono (by omega)) (rfl)) (fun e w2 he => by obtain ⟨rfl, hb⟩ := he; exact ⟨_, rfl, _, rfl, rfl, hb, hs.trans (hb.mono hs.size)⟩)⟩
    · intro a' w' ha hs hw
      obtain ⟨v12, e12, q12⟩ := hw 12 (by kernel_rfl) _ _ _ rfl rfl rfl
      obtain rfl : v12 = Value.bool true := q12
      obtain ⟨v20, e20, q20⟩ := hw 20 (by kernel_rfl) _ _ _ rfl rfl rfl
      obtain rfl : v20 = Value.int IntKind.i64 (-1) := q20
      obtain ⟨v22, e22, q22⟩ := hw 22 (by kernel_rfl) _ _ _ rfl rfl rfl
      obtain rfl : v22 = Value.int IntKind.i64 (sg zc) := q22
      exact ⟨wanted_some rfl rfl rfl e12, wp_val (run_mul_i64 rfl (ev_tmp e20) (ev_tmp e22) (wrap_sg (by omega) (by omega))) ⟨_, rfl, rfl, Below.refl _ _, hs⟩⟩
    · intro a' w' ha hs hw
      obtain ⟨v12, e12, q12⟩ := hw 12 (by kernel_rfl) _ _ _ rfl rfl rfl
      obtain rfl : v12 = Value.bool true := q12
      obtain ⟨v19, e19, q19⟩ := hw 19 (by kernel_rfl) _ _ _ rfl rfl rfl
      obtain rfl : v19 = Value.int IntKind.i64 ((-1) * sg zc) := q19
      obtain ⟨v23, e23, q23⟩ := hw 23 (by kernel_rfl) _ _ _ rfl rfl rfl
      obtain rfl : v23 = Value.int IntKind.i64 ((-1) * sg zc) := q23
      exact ⟨wanted_some rfl rfl rfl e12, wp_val ((show _ = _ from by rw [run_eql_int rfl (ev_tmp e19) (ev_tmp e23)]; simp)) ⟨_, rfl, rfl, Below.refl _ _, hs⟩⟩
    · intro a' w' ha hs hw
      obtain ⟨v12, e12, q12⟩ := hw 12 (by kernel_rfl) _ _ _ rfl rfl rfl
      obtain rfl : v12 = Value.bool true := q12
      obtain ⟨v24, e24, q24⟩ := hw 24 (by kernel_rfl) _ _ _ rfl rfl rfl
      obtain rfl : v24 = Value.bool true := q24
      exact ⟨wanted_none rfl, wp_val (run_pick (b := true) rfl (ev_tmp e12) (ev_tmp e24)) ⟨_, rfl, rfl, Below.refl _ _, hs⟩⟩
    · intro a' w' ha hs hw
      obtain ⟨v25, e25, q25⟩ := hw 25 (by kernel_rfl) _ _ _ rfl rfl rfl
      obtain rfl : v25 = Value.bool true := q25
      exact ⟨wanted_none rfl, wp_val (run_move rfl (ev_tmp e25)) ⟨_, rfl, rfl, Below.refl _ _, hs⟩⟩
    · intro a' w' ha hs hw
      obtain ⟨v26, e26, q26⟩ := hw 26 (by kernel_rfl) _ _ _ rfl rfl rfl
      obtain rfl : v26 = Value.bool true := q26
      have eo8 : a'.tmps[8]? = some (Value.pointer (some ⟨ga, 0, none⟩)) := (ha.rest 8 (by kernel_rfl)).trans rfl
      exact ⟨wanted_some rfl rfl rfl e26, wp_val (run_load rfl (ev_tmp eo8) (BXa.out.next hs rfl)) ⟨_, rfl, rfl, Below.refl _ _, hs⟩⟩
    · intro a' w' ha hs hw
      obtain ⟨v26, e26, q26⟩ := hw 26 (by kernel_rfl) _ _ _ rfl rfl rfl
      obtain rfl : v26 = Value.bool true := q26
      exact ⟨wanted_some rfl rfl rfl e26, call_step rfl Try.func40 (by kernel_rfl) rfl (map_one rfl) (lof_any (0) _ (by omega) (by omega)) (fun e w2 he => by obtain ⟨v, rfl, hv, hb⟩ := he; exact ⟨v, rfl, v, rfl, hv, hb, hs.trans (hb.mono hs.size)⟩)⟩
    · intro a' w' ha hs hw
      obtain ⟨v26, e26, q26⟩ := hw 26 (by kernel_rfl) _ _ _ rfl rfl rfl
      obtain rfl : v26 = Value.bool true := q26
      obtain ⟨v27, e27, q27⟩ := hw 27 (by kernel_rfl) _ _ _ rfl rfl rfl
      obtain rfl : v27 = .agg #[.bool sa, .slice Xa pa qa] := q27
      obtain ⟨v28, e28, q28⟩ := hw 28 (by kernel_rfl) _ _ _ rfl rfl rfl
      replace q28 : Iv w' v28 ((0 : Int)) := q28
      exact ⟨wanted_some rfl rfl rfl e26, call_step rfl Try.func24 (by kernel_rfl) rfl (map_two (ev_tmp e27) (ev_tmp e28)) (cmp_is _ _ (za) ((0 : Int)) (sg za) _ (iv_next IVa.out hs rfl) q28 (SZa.out.mono (by omega)) (SR12x28.out.mono (by omega)) (cmpZ_zero za)) (fun e w2 he => by obtain ⟨rfl, hb⟩ := he; exact ⟨_, rfl, _, rfl, rfl, hb, hs.trans (hb.mono hs.size)⟩)⟩
    · intro a' w' ha hs hw
      obtain ⟨v26, e26, q26⟩ := hw 26 (by kernel_rfl) _ _ _ rfl rfl rfl
      obtain rfl : v26 = Value.bool true := q26
      have eo8 : a'.tmps[8]? = some (Value.pointer (some ⟨ga, 0, none⟩)) := (ha.rest 8 (by kernel_rfl)).trans rfl
      exact ⟨wanted_some rfl rfl rfl e26, wp_val (run_load rfl (ev_tmp eo8) (BXa.out.next hs rfl)) ⟨_, rfl, rfl, Below.refl _ _, hs⟩⟩
    · intro a' w' ha hs hw
      obtain ⟨v26, e26, q26⟩ := hw 26 (by kernel_rfl) _ _ _ rfl rfl rfl
      obtain rfl : v26 = Value.bool true := q26
      obtain ⟨v30, e30, q30⟩ := hw 30 (by kernel_rfl) _ _ _ rfl rfl rfl
      obtain rfl : v30 = .agg #[.bool sa, .slice Xa pa qa] := q30
      exact ⟨wanted_some rfl rfl rfl e26, call_step rfl Try.func41 (by kernel_rfl) rfl (map_one (ev_tmp e30)) (sign_is _ (za) (sg za) _ (iv_next IVa.out hs rfl) (SZa.out.mono (by omega)) (rfl)) (fun e w2 he => by obtain ⟨rfl, hb⟩ := he; exact ⟨_, rfl, _, rfl, rfl, hb, hs.trans (hb.mono hs.size)⟩)⟩
    · intro a' w' ha hs hw
      obtain ⟨v26, e26, q26⟩ := hw 26 (by kernel_rfl) _ _ _ rfl rfl rfl
      obtain rfl : v26 = Value.bool true := q26
      obtain ⟨v29, e29, q29⟩ := hw 29 (by kernel_rfl) _ _ _ rfl rfl rfl
      obtain rfl : v29 = Value.int IntKind.i64 (sg za) := q29
      obtain ⟨v31, e31, q31⟩ := hw 31 (by kernel_rfl) _ _ _ rfl rfl rfl
      obtain rfl : v31 = Value.int IntKind.i64 (sg za) := q31
      exact ⟨wanted_some rfl rfl rfl e26, wp_val ((show _ = _ from by rw [run_eql_int rfl (ev_tmp e29) (ev_tmp e31)]; simp)) ⟨_, rfl, rfl, Below.refl _ _, hs⟩⟩
    · intro a' w' ha hs hw
      obtain ⟨v26, e26, q26⟩ := hw 26 (by kernel_rfl) _ _ _ rfl rfl rfl
      obtain rfl : v26 = Value.bool true := q26
      obtain ⟨v32, e32, q32⟩ := hw 32 (by kernel_rfl) _ _ _ rfl rfl rfl
      obtain rfl : v32 = Value.bool true := q32
      exact ⟨wanted_none rfl, wp_val (run_pick (b := true) rfl (ev_tmp e26) (ev_tmp e32)) ⟨_, rfl, rfl, Below.refl _ _, hs⟩⟩
    · intro a' w' ha hs hw
      obtain ⟨v33, e33, q33⟩ := hw 33 (by kernel_rfl) _ _ _ rfl rfl rfl
      obtain rfl : v33 = Value.bool true := q33
      exact ⟨wanted_none rfl, wp_val (run_assign rfl (ev_tmp e33)) ⟨_, rfl, rfl, Below.refl _ _, hs⟩⟩
  simp only [allK]
  intro r12x0 _ r12x1 _ r12x2 _ r12x3 _ r12x4 _
  simp only [setAll, List.set_cons_succ, List.set_cons_zero]
  refine hK _ _ ?_
  clear hK K
  clear SR12x4
  clear SR12x7
  clear SR12x15
  clear SR12x18
  clear SR12x28
  replace BXa := Lib.hid (BXa.out.next hs rfl); replace IVa := Lib.hid (iv_next IVa.out hs rfl)
  replace BXb := Lib.hid (BXb.out.next hs rfl); replace IVb := Lib.hid (iv_next IVb.out hs rfl)
  replace BXc := Lib.hid (BXc.out.next hs rfl); replace IVc := Lib.hid (iv_next IVc.out hs rfl)
  replace DW := Lib.hid (link_below DW.out hs (by have := DW.out.size; omega) rfl rfl rfl rfl)
  clear hs
  go_wp2
  go_ret
  exact ⟨by simp, by rw [hg]; exact DW.out⟩

set_option maxHeartbeats 16000000 in
set_option maxRecDepth 100000 in
theorem lawOrderB_any (b0 : Bool) (A0 : Option Addr) (n0 c0 : Nat) (ws0 : List Nat) (b1 : Bool) (A1 : Option Addr) (n1 c1 : Nat) (ws1 : List Nat) (b2 : Bool) (A2 : Option Addr) (n2 c2 : Nat) (ws2 : List Nat)  (w : World) (h0 : Wd w A0 n0 ws0) (m0 : n0 ≤ 9223372036854775807) (h1 : Wd w A1 n1 ws1) (m1 : n1 ≤ 9223372036854775807) (h2 : Wd w A2 n2 ws2) (m2 : n2 ≤ 9223372036854775807) (hx0 : sgn b0 (val (ws0.take 8)) < sgn b1 (val (ws1.take 8))) (hx1 : sgn b1 (val (ws1.take 8)) = sgn b2 (val (ws2.take 8))) :
    Calls Try.prog 6 #[.agg #[.bool b0, .slice A0 n0 c0], .agg #[.bool b1, .slice A1 n1 c1], .agg #[.bool b2, .slice A2 n2 c2]] w fun e w' => e = .returned (.bool true) ∧ Below w.heap.size w w' := by
  obtain ⟨za, hza⟩ : ∃ z, z = sgn b0 (val (ws0.take 8)) := ⟨_, rfl⟩
  have SZa : Hid (Sz za 8) := by rw [hza]; exact sz_take _ _ _ h0.wds
  obtain ⟨zb, hzb⟩ : ∃ z, z = sgn b1 (val (ws1.take 8)) := ⟨_, rfl⟩
  have SZb : Hid (Sz zb 8) := by rw [hzb]; exact sz_take _ _ _ h1.wds
  obtain ⟨zc, hzc⟩ : ∃ z, z = sgn b2 (val (ws2.take 8)) := ⟨_, rfl⟩
  have SZc : Hid (Sz zc 8) := by rw [hzc]; exact sz_take _ _ _ h2.wds
  simp only [← hza, ← hzb, ← hzc] at hx0
  simp only [← hza, ← hzb, ← hzc] at hx1
  go_enter Try.func6, Try.ntmps6
  go_wp2_with fail
  obtain ⟨W, hW⟩ : ∃ W, W = (((w.alloc (Obj.cells #[Value.bool b0, Value.slice A0 n0 c0] 24)).alloc (Obj.cells #[Value.bool b1, Value.slice A1 n1 c1] 24)).alloc (Obj.cells #[Value.bool b2, Value.slice A2 n2 c2] 24)) := ⟨_, rfl⟩
  rw [← hW]
  have RX0 : Hid (RBox W (w.heap.size) b0 (.slice A0 n0 c0)) := by rw [hW]; have := ((RBox.new w b0 (.slice A0 n0 c0)).alloc (Obj.cells #[Value.bool b1, Value.slice A1 n1 c1] 24)).alloc (Obj.cells #[Value.bool b2, Value.slice A2 n2 c2] 24); simpa [Hid] using this
  have RW0 : Hid (Wd W A0 n0 ws0) := by rw [hW]; exact (((h0).alloc _).alloc _).alloc _
  have RX1 : Hid (RBox W (w.heap.size + 1) b1 (.slice A1 n1 c1)) := by rw [hW]; have := (RBox.new (w.alloc (Obj.cells #[Value.bool b0, Value.slice A0 n0 c0] 24)) b1 (.slice A1 n1 c1)).alloc (Obj.cells #[Value.bool b2, Value.slice A2 n2 c2] 24); simpa [Hid] using this
  have RW1 : Hid (Wd W A1 n1 ws1) := by rw [hW]; exact (((h1).alloc _).alloc _).alloc _
  have RX2 : Hid (RBox W (w.heap.size + 1 + 1) b2 (.slice A2 n2 c2)) := by rw [hW]; have := RBox.new ((w.alloc (Obj.cells #[Value.bool b0, Value.slice A0 n0 c0] 24)).alloc (Obj.cells #[Value.bool b1, Value.slice A1 n1 c1] 24)) b2 (.slice A2 n2 c2); simpa [Hid] using this
  have RW2 : Hid (Wd W A2 n2 ws2) := by rw [hW]; exact (((h2).alloc _).alloc _).alloc _
  have DW : Hid (Below w.heap.size w W) := by rw [hW]; exact (((Below.refl _ _).alloc (by simp <;> omega) _).alloc (by simp <;> omega) _).alloc (by simp <;> omega) _
  clear hW h0 h1 h2
  generalize hg : w.heap.size = g at *
  refine (sanity_any _).mono ?_
  rintro e w1 ⟨rfl, hb1⟩
  replace RX0 := Lib.hid (RX0.out.next hb1 rfl); replace RW0 := Lib.hid (RW0.out.next hb1 rfl)
  replace RX1 := Lib.hid (RX1.out.next hb1 rfl); replace RW1 := Lib.hid (RW1.out.next hb1 rfl)
  replace RX2 := Lib.hid (RX2.out.next hb1 rfl); replace RW2 := Lib.hid (RW2.out.next hb1 rfl)
  replace DW := Lib.hid (link_below DW.out hb1 (by have := DW.out.size; omega) rfl rfl rfl rfl)
  clear hb1
  have u1 := RX0.out.cell0; have u2 := RX0.out.cell1
  go_wp2_with fail
  clear u1 u2
  refine (rmade_raw b0 A0 n0 c0 8 8 ws0 _ RW0.out rfl (by omega) m0).mono ?_
  rw [← hza]
  rintro e y1 ⟨_, rfl, hq, hb⟩
  clear RX0 RW0
  obtain ⟨Xa, pa, qa, rfl, _, _, _⟩ := hq.form
  have Q := Lib.hid hq; have B := Lib.hid hb; clear hq hb
  generalize hs : decide ((za : Int) < 0) = sa at *
  clear hs
  go_upto_region 5 with fail
  obtain ⟨W2, hW⟩ : ∃ W2, W2 = y1.alloc (Obj.cells #[Value.bool sa, Value.slice Xa pa qa] 27) := ⟨_, rfl⟩
  rw [← hW]
  have BXa : Hid (Box W2 y1.heap.size sa (.slice Xa pa qa)) := by rw [hW]; exact Box.new _ _ _
  have IVa : Hid (Iv W2 (.agg #[.bool sa, .slice Xa pa qa]) (za)) := by rw [hW]; exact Q.out.alloc _
  have hd : Below w1.heap.size w1 W2 := by rw [hW]; exact B.out.alloc B.out.size _
  clear hW Q B
  generalize hgn : y1.heap.size = ga at *
  clear hgn
  replace RX1 := Lib.hid (RX1.out.next hd rfl); replace RW1 := Lib.hid (RW1.out.next hd rfl)
  replace RX2 := Lib.hid (RX2.out.next hd rfl); replace RW2 := Lib.hid (RW2.out.next hd rfl)
  replace DW := Lib.hid (link_below DW.out hd (by have := DW.out.size; omega) rfl rfl rfl rfl)
  clear hd
  have u1 := RX1.out.cell0; have u2 := RX1.out.cell1
  go_wp2_with fail
  clear u1 u2
  refine (rmade_raw b1 A1 n1 c1 8 8 ws1 _ RW1.out rfl (by omega) m1).mono ?_
  rw [← hzb]
  rintro e y3 ⟨_, rfl, hq, hb⟩
  clear RX1 RW1
  obtain ⟨Xb, pb, qb, rfl, _, _, _⟩ := hq.form
  have Q := Lib.hid hq; have B := Lib.hid hb; clear hq hb
  generalize hs : decide ((zb : Int) < 0) = sb at *
  clear hs
  go_upto_region 6 with fail
  obtain ⟨W4, hW⟩ : ∃ W4, W4 = y3.alloc (Obj.cells #[Value.bool sb, Value.slice Xb pb qb] 27) := ⟨_, rfl⟩
  rw [← hW]
  have BXb : Hid (Box W4 y3.heap.size sb (.slice Xb pb qb)) := by rw [hW]; exact Box.new _ _ _
  have IVb : Hid (Iv W4 (.agg #[.bool sb, .slice Xb pb qb]) (zb)) := by rw [hW]; exact Q.out.alloc _
  have hd : Below W2.heap.size W2 W4 := by rw [hW]; exact B.out.alloc B.out.size _
  clear hW Q B
  generalize hgn : y3.heap.size = gb at *
  clear hgn
  replace BXa := Lib.hid (BXa.out.next hd rfl); replace IVa := Lib.hid (iv_next IVa.out hd rfl)
  replace RX2 := Lib.hid (RX2.out.next hd rfl); replace RW2 := Lib.hid (RW2.out.next hd rfl)
  replace DW := Lib.hid (link_below DW.out hd (by have := DW.out.size; omega) rfl rfl rfl rfl)
  clear hd
  have u1 := RX2.out.cell0; have u2 := RX2.out.cell1
  go_wp2_with fail
  clear u1 u2
  refine (rmade_raw b2 A2 n2 c2 8 8 ws2 _ RW2.out rfl (by omega) m2).mono ?_
  rw [← hzc]
  rintro e y5 ⟨_, rfl, hq, hb⟩
  clear RX2 RW2
  obtain ⟨Xc, pc, qc, rfl, _, _, _⟩ := hq.form
  have Q := Lib.hid hq; have B := Lib.hid hb; clear hq hb
  generalize hs : decide ((zc : Int) < 0) = sc at *
  clear hs
  go_upto_region 7 with fail
  obtain ⟨W6, hW⟩ : ∃ W6, W6 = y5.alloc (Obj.cells #[Value.bool sc, Value.slice Xc pc qc] 27) := ⟨_, rfl⟩
  rw [← hW]
  have BXc : Hid (Box W6 y5.heap.size sc (.slice Xc pc qc)) := by rw [hW]; exact Box.new _ _ _
  have IVc : Hid (Iv W6 (.agg #[.bool sc, .slice Xc pc qc]) (zc)) := by rw [hW]; exact Q.out.alloc _
  have hd : Below W4.heap.size W4 W6 := by rw [hW]; exact B.out.alloc B.out.size _
  clear hW Q B
  generalize hgn : y5.heap.size = gc at *
  clear hgn
  replace BXa := Lib.hid (BXa.out.next hd rfl); replace IVa := Lib.hid (iv_next IVa.out hd rfl)
  replace BXb := Lib.hid (BXb.out.next hd rfl); replace IVb := Lib.hid (iv_next IVb.out hd rfl)
  replace DW := Lib.hid (link_below DW.out hd (by have := DW.out.size; omega) rfl rfl rfl rfl)
  clear hd
  have u7a := BXa.out.cell0; have u7b := BXa.out.cell1
  have u8a := BXb.out.cell0; have u8b := BXb.out.cell1
  go_wp2_with fail
  clear u7a u7b u8a u8b
  refine (cmp_is _ _ (za) (zb) (-1) _ IVa.out IVb.out (SZa.out.mono (by omega)) (SZb.out.mono (by omega)) (by unfold cmpZ; split <;> first | omega | (split <;> omega))).mono ?_
  rintro e y9 ⟨rfl, hb⟩
  replace BXa := Lib.hid (BXa.out.next hb rfl); replace IVa := Lib.hid (iv_next IVa.out hb rfl)
  replace BXb := Lib.hid (BXb.out.next hb rfl); replace IVb := Lib.hid (iv_next IVb.out hb rfl)
  replace BXc := Lib.hid (BXc.out.next hb rfl); replace IVc := Lib.hid (iv_next IVc.out hb rfl)
  replace DW := Lib.hid (link_below DW.out hb (by have := DW.out.size; omega) rfl rfl rfl rfl)
  clear hb
  go_upto_region 8 with fail
  have SR8x16 : Hid (Sz (-(za)) 8) := (Sz.neg SZa.out)
  have SR8x18 : Hid (Sz (-(zb)) 8) := (Sz.neg SZb.out)
  have SR8x27 : Hid (Sz ((za) - (zb)) 9) := (Sz.sub (N := 8) (SZa.out.mono (by omega)) (SZb.out.mono (by omega)))
  refine region_run (fun w' => Below y9.heap.size y9 w') [.is (Value.int IntKind.i64 (-1)), .is (Value.bool false), .is (Value.bool false), .is (Value.int IntKind.i64 (-1)), .is (Value.bool false), .is (Value.bool false), .is (Value.bool false), .is (.agg #[.bool sb, .slice Xb pb qb]), .is (.agg #[.bool sa, .slice Xa pa qa]), .is (Value.int IntKind.i64 (1)), .is (Value.int IntKind.i64 (-1)), .is (Value.int IntKind.i64 (1)), .is (Value.bool false), .is (Value.bool false), .is (Value.bool false), .is (.agg #[.bool sa, .slice Xa pa qa]), .iv (-(za)), .is (.agg #[.bool sb, .slice Xb pb qb]), .iv (-(zb)), .is (Value.int IntKind.i64 (1)), .is (Value.int IntKind.i64 (-1)), .is (Value.int IntKind.i64 (1)), .is (Value.bool false), .is (Value.bool false), .is (Value.bool false), .is (.agg #[.bool sa, .slice Xa pa qa]), .is (.agg #[.bool sb, .slice Xb pb qb]), .iv ((za) - (zb)), .is (Value.int IntKind.i64 (-1)), .is (Value.int IntKind.i64 (-1)), .is (Value.bool false), .is (Value.bool false)] [24, 25, 26, 27, 28, 29, 30, 31, 32, 33, 34, 35, 36, 37, 38, 39, 40, 41, 42, 43, 44, 45, 46, 47, 48, 49, 50, 51, 52, 53, 54, 55] (by kernel_rfl) (by kernel_rfl) (by kernel_rfl) (by rfl) (by kernel_rfl) ((Below.refl _ _).drew) (fun Q' => ?_) (fun K hK wn hs => ?_)
  · refine ⟨?_, ?_, ?_, ?_, ?_, ?_, ?_, ?_, ?_, ?_, ?_, ?_, ?_, ?_, ?_, ?_, ?_, ?_, ?_, ?_, ?_, ?_, ?_, ?_, ?_, ?_, ?_, ?_, ?_, ?_, ?_, ?_, trivial⟩
    · intro a' w' ha hs hw
      have eo11 : a'.tmps[11]? = some (Value.int IntKind.i64 (-1)) := (ha.rest 11 (by kernel_rfl)).trans rfl
      exact ⟨wanted_none rfl, wp_val (run_move rfl (ev_tmp eo11)) ⟨_, rfl, rfl, Below.refl _ _, hs⟩⟩
    · intro a' w' ha hs hw
      obtain ⟨v0, e0, q0⟩ := hw 0 (by kernel_rfl) _ _ _ rfl rfl rfl
      obtain rfl : v0 = Value.int IntKind.i64 (-1) := q0
      exact ⟨wanted_none rfl, wp_val (run_lss_int rfl (ev_tmp e0) rfl) ⟨_, rfl, congrArg Value.bool (by decide), Below.refl _ _, hs⟩⟩
    · intro a' w' ha hs hw
      obtain ⟨v1, e1, q1⟩ := hw 1 (by kernel_rfl) _ _ _ rfl rfl rfl
      obtain rfl : v1 = Value.bool false := q1
      exact ⟨wanted_none rfl, wp_val (run_move rfl (ev_tmp e1)) ⟨_, rfl, rfl, Below.refl _ _, hs⟩⟩
    · intro a' w' ha hs hw
      obtain ⟨v2, e2, q2⟩ := hw 2 (by kernel_rfl) _ _ _ rfl rfl rfl
      obtain rfl : v2 = Value.bool false := q2
      have eo11 : a'.tmps[11]? = some (Value.int IntKind.i64 (-1)) := (ha.rest 11 (by kernel_rfl)).trans rfl
      exact ⟨wanted_some rfl rfl rfl e2, wp_val (run_move rfl (ev_tmp eo11)) ⟨_, rfl, rfl, Below.refl _ _, hs⟩⟩
    · intro a' w' ha hs hw
      obtain ⟨v2, e2, q2⟩ := hw 2 (by kernel_rfl) _ _ _ rfl rfl rfl
      obtain rfl : v2 = Value.bool false := q2
      obtain ⟨v3, e3, q3⟩ := hw 3 (by kernel_rfl) _ _ _ rfl rfl rfl
      obtain rfl : v3 = Value.int IntKind.i64 (-1) := q3
      exact ⟨wanted_some rfl rfl rfl e2, wp_val (run_gtr_int rfl (ev_tmp e3) rfl) ⟨_, rfl, congrArg Value.bool (by decide), Below.refl _ _, hs⟩⟩
    · intro a' w' ha hs hw
      obtain ⟨v2, e2, q2⟩ := hw 2 (by kernel_rfl) _ _ _ rfl rfl rfl
      obtain rfl : v2 = Value.bool false := q2
      obtain ⟨v4, e4, q4⟩ := hw 4 (by kernel_rfl) _ _ _ rfl rfl rfl
      obtain rfl : v4 = Value.bool false := q4
      exact ⟨wanted_none rfl, wp_val (run_pick (b := false) rfl (ev_tmp e2) (ev_tmp e4)) ⟨_, rfl, rfl, Below.refl _ _, hs⟩⟩
    · intro a' w' ha hs hw
      obtain ⟨v5, e5, q5⟩ := hw 5 (by kernel_rfl) _ _ _ rfl rfl rfl
      obtain rfl : v5 = Value.bool false := q5
      exact ⟨wanted_none rfl, wp_val (run_move rfl (ev_tmp e5)) ⟨_, rfl, rfl, Below.refl _ _, hs⟩⟩
    · intro a' w' ha hs hw
      obtain ⟨v6, e6, q6⟩ := hw 6 (by kernel_rfl) _ _ _ rfl rfl rfl
      obtain rfl : v6 = Value.bool false := q6
      have eo9 : a'.tmps[9]? = some (Value.pointer (some ⟨gb, 0, none⟩)) := (ha.rest 9 (by kernel_rfl)).trans rfl
      exact ⟨wanted_some rfl rfl rfl e6, wp_val (run_load rfl (ev_tmp eo9) (BXb.out.next hs rfl)) ⟨_, rfl, rfl, Below.refl _ _, hs⟩⟩
    · intro a' w' ha hs hw
      obtain ⟨v6, e6, q6⟩ := hw 6 (by kernel_rfl) _ _ _ rfl rfl rfl
      obtain rfl : v6 = Value.bool false := q6
      have eo8 : a'.tmps[8]? = some (Value.pointer (some ⟨ga, 0, none⟩)) := (ha.rest 8 (by kernel_rfl)).trans rfl
      exact ⟨wanted_some rfl rfl rfl e6, wp_val (run_load rfl (ev_tmp eo8) (BXa.out.next hs rfl)) ⟨_, rfl, rfl, Below.refl _ _, hs⟩⟩
    · intro a' w' ha hs hw
      obtain ⟨v6, e6, q6⟩ := hw 6 (by kernel_rfl) _ _ _ rfl rfl rfl
      obtain rfl : v6 = Value.bool false := q6
      obtain ⟨v7, e7, q7⟩ := hw 7 (by kernel_rfl) _ _ _ rfl rfl rfl
      obtain rfl : v7 = .agg #[.bool sb, .slice Xb pb qb] := q7
      obtain ⟨v8, e8, q8⟩ := hw 8 (by kernel_rfl) _ _ _ rfl rfl rfl
      obtain rfl : v8 = .agg #[.bool sa, .slice Xa pa qa] := q8
      exact ⟨wanted_some rfl rfl rfl e6, call_step rfl Try.func24 (by kernel_rfl) rfl (map_two (ev_tmp e7) (ev_tmp e8)) (cmp_is _ _ (zb) (za) (1) _ (iv_next IVb.out hs rfl) (iv_next IVa.out hs rfl) (SZb.out.mono (by omega)) (SZa.out.mono (by omega)) (by unfold cmpZ; split <;> first | omega | (split <;> omega))) (fun e w2 he => by obtain ⟨rfl, hb⟩ := he; exact ⟨_, rfl, _, rfl, rfl, hb, hs.trans (hb.mono hs.size)⟩)⟩
    · intro a' w' ha hs hw
      obtain ⟨v6, e6, q6⟩ := hw 6 (by kernel_rfl) _ _ _ rfl rfl rfl
      obtain rfl : v6 = Value.bool false := q6
      have eo11 : a'.tmps[11]? = some (Value.int IntKind.i64 (-1)) := (ha.rest 11 (by kernel_rfl)).trans rfl
      exact ⟨wanted_some rfl rfl rfl e6, wp_val (run_move rfl (ev_tmp eo11)) ⟨_, rfl, rfl, Below.refl _ _, hs⟩⟩
    · intro a' w' ha hs hw
      obtain ⟨v6, e6, q6⟩ := hw 6 (by kernel_rfl) _ _ _ rfl rfl rfl
      obtain rfl : v6 = Value.bool false := q6
      obtain ⟨v10, e10, q10⟩ := hw 10 (by kernel_rfl) _ _ _ rfl rfl rfl
      obtain rfl : v10 = Value.int IntKind.i64 (-1) := q10
      exact ⟨wanted_some rfl rfl rfl e6, wp_val (run_neg_i64 rfl (ev_tmp e10) (by decide)) ⟨_, rfl, rfl, Below.refl _ _, hs⟩⟩
    · intro a' w' ha hs hw
      obtain ⟨v6, e6, q6⟩ := hw 6 (by kernel_rfl) _ _ _ rfl rfl rfl
      obtain rfl : v6 = Value.bool false := q6
      obtain ⟨v9, e9, q9⟩ := hw 9 (by kernel_rfl) _ _ _ rfl rfl rfl
      obtain rfl : v9 = Value.int IntKind.i64 (1) := q9
      obtain ⟨v11, e11, q11⟩ := hw 11 (by kernel_rfl) _ _ _ rfl rfl rfl
      obtain rfl : v11 = Value.int IntKind.i64 (1) := q11
      exact ⟨wanted_some rfl rfl rfl e6, wp_val (run_neq_int rfl (ev_tmp e9) (ev_tmp e11)) ⟨_, rfl, congrArg Value.bool (by decide), Below.refl _ _, hs⟩⟩
    · intro a' w' ha hs hw
      obtain ⟨v6, e6, q6⟩ := hw 6 (by kernel_rfl) _ _ _ rfl rfl rfl
      obtain rfl : v6 = Value.bool false := q6
      obtain ⟨v12, e12, q12⟩ := hw 12 (by kernel_rfl) _ _ _ rfl rfl rfl
      obtain rfl : v12 = Value.bool false := q12
      exact ⟨wanted_none rfl, wp_val (run_pick (b := false) rfl (ev_tmp e6) (ev_tmp e12)) ⟨_, rfl, rfl, Below.refl _ _, hs⟩⟩
    · intro a' w' ha hs hw
      obtain ⟨v13, e13, q13⟩ := hw 13 (by kernel_rfl) _ _ _ rfl rfl rfl
      obtain rfl : v13 = Value.bool false := q13
      exact ⟨wanted_none rfl, wp_val (run_move rfl (ev_tmp e13)) ⟨_, rfl, rfl, Below.refl _ _, hs⟩⟩
    · intro a' w' ha hs hw
      obtain ⟨v14, e14, q14⟩ := hw 14 (by kernel_rfl) _ _ _ rfl rfl rfl
      obtain rfl : v14 = Value.bool false := q14
      have eo8 : a'.tmps[8]? = some (Value.pointer (some ⟨ga, 0, none⟩)) := (ha.rest 8 (by kernel_rfl)).trans rfl
      exact ⟨wanted_some rfl rfl rfl e14, wp_val (run_load rfl (ev_tmp eo8) (BXa.out.next hs rfl)) ⟨_, rfl, rfl, Below.refl _ _, hs⟩⟩
    · intro a' w' ha hs hw
      obtain ⟨v14, e14, q14⟩ := hw 14 (by kernel_rfl) _ _ _ rfl rfl rfl
      obtain rfl : v14 = Value.bool false := q14
      obtain ⟨v15, e15, q15⟩ := hw 15 (by kernel_rfl) _ _ _ rfl rfl rfl
      obtain rfl : v15 = .agg #[.bool sa, .slice Xa pa qa] := q15
      exact ⟨wanted_some rfl rfl rfl e14, call_step rfl Try.func39 (by kernel_rfl) rfl (map_one (ev_tmp e15)) (neg_any _ (za) _ (iv_next IVa.out hs rfl) (SZa.out.mono (by omega))) (fun e w2 he => by obtain ⟨v, rfl, hv, hb⟩ := he; exact ⟨v, rfl, v, rfl, hv, hb, hs.trans (hb.mono hs.size)⟩)⟩
    · intro a' w' ha hs hw
      obtain ⟨v14, e14, q14⟩ := hw 14 (by kernel_rfl) _ _ _ rfl rfl rfl
      obtain rfl : v14 = Value.bool false := q14
      have eo9 : a'.tmps[9]? = some (Value.pointer (some ⟨gb, 0, none⟩)) := (ha.rest 9 (by kernel_rfl)).trans rfl
      exact ⟨wanted_some rfl rfl rfl e14, wp_val (run_load rfl (ev_tmp eo9) (BXb.out.next hs rfl)) ⟨_, rfl, rfl, Below.refl _ _, hs⟩⟩
    · intro a' w' ha hs hw
      obtain ⟨v14, e14, q14⟩ := hw 14 (by kernel_rfl) _ _ _ rfl rfl rfl
      obtain rfl : v14 = Value.bool false := q14
      obtain ⟨v17, e17, q17⟩ := hw 17 (by kernel_rfl) _ _ _ rfl rfl rfl
      obtain rfl : v17 = .agg #[.bool sb, .slice Xb pb qb] := q17
      exact ⟨wanted_some rfl rfl rfl e14, call_step rfl Try.func39 (by kernel_rfl) rfl (map_one (ev_tmp e17)) (neg_any _ (zb) _ (iv_next IVb.out hs rfl) (SZb.out.mono (by omega))) (fun e w2 he => by obtain ⟨v, rfl, hv, hb⟩ := he; exact ⟨v, rfl, v, rfl, hv, hb, hs.trans (hb.mono hs.size)⟩)⟩
    · intro a' w' ha hs hw
      obtain ⟨v14, e14, q14⟩ := hw 14 (by kernel_rfl) _ _ _ rfl rfl rfl
      obtain rfl : v14 = Value.bool false := q14
      obtain ⟨v16, e16, q16⟩ := hw 16 (by kernel_rfl) _ _ _ rfl rfl rfl
      replace q16 : Iv w' v16 (-(za)) := q16
      obtain ⟨v18, e18, q18⟩ := hw 18 (by kernel_rfl) _ _ _ rfl rfl rfl
      replace q18 : Iv w' v18 (-(zb)) := q18
      exact ⟨wanted_some rfl rfl rfl e14, call_step rfl Try.func24 (by kernel_rfl) rfl (map_two (ev_tmp e16) (ev_tmp e18)) (cmp_is _ _ (-(za)) (-(zb)) (1) _ q16 q18 (SR8x16.out.mono (by omega)) (SR8x18.out.mono (by omega)) (by unfold cmpZ; split <;> first | omega | (split <;> omega))) (fun e w2 he => by obtain ⟨rfl, hb⟩ := he; exact ⟨_, rfl, _, rfl, rfl, hb, hs.trans (hb.mono hs.size)⟩)⟩
    · intro a' w' ha hs hw
      obtain ⟨v14, e14, q14⟩ := hw 14 (by kernel_rfl) _ _ _ rfl rfl rfl
      obtain rfl : v14 = Value.bool false := q14
      have eo11 : a'.tmps[11]? = some (Value.int IntKind.i64 (-1)) := (ha.rest 11 (by kernel_rfl)).trans rfl
      exact ⟨wanted_some rfl rfl rfl e14, wp_val (run_move rfl (ev_tmp eo11)) ⟨_, rfl, rfl, Below.refl _ _, hs⟩⟩
    · intro a' w' ha hs hw
      obtain ⟨v14, e14, q14⟩ := hw 14 (by kernel_rfl) _ _ _ rfl rfl rfl
      obtain rfl : v14 = Value.bool false := q14
      obtain ⟨v20, e20, q20⟩ := hw 20 (by kernel_rfl) _ _ _ rfl rfl rfl
      obtain rfl : v20 = Value.int IntKind.i64 (-1) := q20
      exact ⟨wanted_some rfl rfl rfl e14, wp_val (run_neg_i64 rfl (ev_tmp e20) (by decide)) ⟨_, rfl, rfl, Below.refl _ _, hs⟩⟩
    · intro a' w' ha hs hw
      obtain ⟨v14, e14, q14⟩ := hw 14 (by kernel_rfl) _ _ _ rfl rfl rfl
      obtain rfl : v14 = Value.bool false := q14
      obtain ⟨v19, e19, q19⟩ := hw 19 (by kernel_rfl) _ _ _ rfl rfl rfl
      obtain rfl : v19 = Value.int IntKind.i64 (1) := q19
      obtain ⟨v21, e21, q21⟩ := hw 21 (by kernel_rfl) _ _ _ rfl rfl rfl
      obtain rfl : v21 = Value.int IntKind.i64 (1) := q21
      exact ⟨wanted_some rfl rfl rfl e14, wp_val (run_neq_int rfl (ev_tmp e19) (ev_tmp e21)) ⟨_, rfl, congrArg Value.bool (by decide), Below.refl _ _, hs⟩⟩
    · intro a' w' ha hs hw
      obtain ⟨v14, e14, q14⟩ := hw 14 (by kernel_rfl) _ _ _ rfl rfl rfl
      obtain rfl : v14 = Value.bool false := q14
      obtain ⟨v22, e22, q22⟩ := hw 22 (by kernel_rfl) _ _ _ rfl rfl rfl
      obtain rfl : v22 = Value.bool false := q22
      exact ⟨wanted_none rfl, wp_val (run_pick (b := false) rfl (ev_tmp e14) (ev_tmp e22)) ⟨_, rfl, rfl, Below.refl _ _, hs⟩⟩
    · intro a' w' ha hs hw
      obtain ⟨v23, e23, q23⟩ := hw 23 (by kernel_rfl) _ _ _ rfl rfl rfl
      obtain rfl : v23 = Value.bool false := q23
      exact ⟨wanted_none rfl, wp_val (run_move rfl (ev_tmp e23)) ⟨_, rfl, rfl, Below.refl _ _, hs⟩⟩
    · intro a' w' ha hs hw
      obtain ⟨v24, e24, q24⟩ := hw 24 (by kernel_rfl) _ _ _ rfl rfl rfl
      obtain rfl : v24 = Value.bool false := q24
      have eo8 : a'.tmps[8]? = some (Value.pointer (some ⟨ga, 0, none⟩)) := (ha.rest 8 (by kernel_rfl)).trans rfl
      exact ⟨wanted_some rfl rfl rfl e24, wp_val (run_load rfl (ev_tmp eo8) (BXa.out.next hs rfl)) ⟨_, rfl, rfl, Below.refl _ _, hs⟩⟩
    · intro a' w' ha hs hw
      obtain ⟨v24, e24, q24⟩ := hw 24 (by kernel_rfl) _ _ _ rfl rfl rfl
      obtain rfl : v24 = Value.bool false := q24
      have eo9 : a'.tmps[9]? = some (Value.pointer (some ⟨gb, 0, none⟩)) := (ha.rest 9 (by kernel_rfl)).trans rfl
      exact ⟨wanted_some rfl rfl rfl e24, wp_val (run_load rfl (ev_tmp eo9) (BXb.out.next hs rfl)) ⟨_, rfl, rfl, Below.refl _ _, hs⟩⟩
    · intro a' w' ha hs hw
      obtain ⟨v24, e24, q24⟩ := hw 24 (by kernel_rfl) _ _ _ rfl rfl rfl
      obtain rfl : v24 = Value.bool false := q24
      obtain ⟨v25, e25, q25⟩ := hw 25 (by kernel_rfl) _ _ _ rfl rfl rfl
      obtain rfl : v25 = .agg #[.bool sa, .slice Xa pa qa] := q25
      obtain ⟨v26, e26, q26⟩ := hw 26 (by kernel_rfl) _ _ _ rfl rfl rfl
      obtain rfl : v26 = .agg #[.bool sb, .slice Xb pb qb] := q26
      exact ⟨wanted_some rfl rfl rfl e24, call_step rfl Try.func28 (by kernel_rfl) rfl (map_two (ev_tmp e25) (ev_tmp e26)) (sub_any _ _ (za) (zb) _ (iv_next IVa.out hs rfl) (iv_next IVb.out hs rfl) (SZa.out.mono (by omega)) (SZb.out.mono (by omega))) (fun e w2 he => by obtain ⟨v, rfl, hv, hb⟩ := he; exact ⟨v, rfl, v, rfl, hv, hb, hs.trans (hb.mono hs.size)⟩)⟩
    · intro a' w' ha hs hw
      obtain ⟨v24, e24, q24⟩ := hw 24 (by kernel_rfl) _ _ _ rfl rfl rfl
      obtain rfl : v24 = Value.bool false := q24
      obtain ⟨v27, e27, q27⟩ := hw 27 (by kernel_rfl) _ _ _ rfl rfl rfl
      replace q27 : Iv w' v27 ((za) - (zb)) := q27
      exact ⟨wanted_some rfl rfl rfl e24, call_step rfl Try.func41 (by kernel_rfl) rfl (map_one (ev_tmp e27)) (sign_is _ ((za) - (zb)) (-1) _ q27 (SR8x27.out.mono (by omega)) (by unfold sg; split <;> first | omega | (split <;> omega))) (fun e w2 he => by obtain ⟨rfl, hb⟩ := he; exact ⟨_, rfl, _, rfl, rfl, hb, hs.trans (hb.mono hs.size)⟩)⟩
    · intro a' w' ha hs hw
      obtain ⟨v24, e24, q24⟩ := hw 24 (by kernel_rfl) _ _ _ rfl rfl rfl
      obtain rfl : v24 = Value.bool false := q24
      have eo11 : a'.tmps[11]? = some (Value.int IntKind.i64 (-1)) := (ha.rest 11 (by kernel_rfl)).trans rfl
      exact ⟨wanted_some rfl rfl rfl e24, wp_val (run_move rfl (ev_tmp eo11)) ⟨_, rfl, rfl, Below.refl _ _, hs⟩⟩
    · intro a' w' ha hs hw
      obtain ⟨v24, e24, q24⟩ := hw 24 (by kernel_rfl) _ _ _ rfl rfl rfl
      obtain rfl : v24 = Value.bool false := q24
      obtain ⟨v28, e28, q28⟩ := hw 28 (by kernel_rfl) _ _ _ rfl rfl rfl
      obtain rfl : v28 = Value.int IntKind.i64 (-1) := q28
      obtain ⟨v29, e29, q29⟩ := hw 29 (by kernel_rfl) _ _ _ rfl rfl rfl
      obtain rfl : v29 = Value.int IntKind.i64 (-1) := q29
      exact ⟨wanted_some rfl rfl rfl e24, wp_val (run_neq_int rfl (ev_tmp e28) (ev_tmp e29)) ⟨_, rfl, congrArg Value.bool (by decide), Below.refl _ _, hs⟩⟩
    · intro a' w' ha hs hw
      obtain ⟨v24, e24, q24⟩ := hw 24 (by kernel_rfl) _ _ _ rfl rfl rfl
      obtain rfl : v24 = Value.bool false := q24
      obtain ⟨v30, e30, q30⟩ := hw 30 (by kernel_rfl) _ _ _ rfl rfl rfl
      obtain rfl : v30 = Value.bool false := q30
      exact ⟨wanted_none rfl, wp_val (run_pick (b := false) rfl (ev_tmp e24) (ev_tmp e30)) ⟨_, rfl, rfl, Below.refl _ _, hs⟩⟩
  simp only [allK]
  intro r8x0 _ r8x1 _ r8x2 _
  simp only [setAll, List.set_cons_succ, List.set_cons_zero]
  refine hK _ _ ?_
  clear hK K
  clear SR8x16
  clear SR8x18
  clear SR8x27
  replace BXa := Lib.hid (BXa.out.next hs rfl); replace IVa := Lib.hid (iv_next IVa.out hs rfl)
  replace BXb := Lib.hid (BXb.out.next hs rfl); replace IVb := Lib.hid (iv_next IVb.out hs rfl)
  replace BXc := Lib.hid (BXc.out.next hs rfl); replace IVc := Lib.hid (iv_next IVc.out hs rfl)
  replace DW := Lib.hid (link_below DW.out hs (by have := DW.out.size; omega) rfl rfl rfl rfl)
  clear hs
  go_upto_region 10 with fail
  have u11a := BXb.out.cell0; have u11b := BXb.out.cell1
  have u12a := BXc.out.cell0; have u12b := BXc.out.cell1
  go_wp2_with fail
  clear u11a u11b u12a u12b
  refine (cmp_is _ _ (zb) (zc) (0) _ IVb.out IVc.out (SZb.out.mono (by omega)) (SZc.out.mono (by omega)) (by unfold cmpZ; split <;> first | omega | (split <;> omega))).mono ?_
  rintro e y13 ⟨rfl, hb⟩
  replace BXa := Lib.hid (BXa.out.next hb rfl); replace IVa := Lib.hid (iv_next IVa.out hb rfl)
  replace BXb := Lib.hid (BXb.out.next hb rfl); replace IVb := Lib.hid (iv_next IVb.out hb rfl)
  replace BXc := Lib.hid (BXc.out.next hb rfl); replace IVc := Lib.hid (iv_next IVc.out hb rfl)
  replace DW := Lib.hid (link_below DW.out hb (by have := DW.out.size; omega) rfl rfl rfl rfl)
  clear hb
  have u14a := BXa.out.cell0; have u14b := BXa.out.cell1
  have u15a := BXc.out.cell0; have u15b := BXc.out.cell1
  go_wp2_with fail
  clear u14a u14b u15a u15b
  refine (cmp_is _ _ (za) (zc) (-1) _ IVa.out IVc.out (SZa.out.mono (by omega)) (SZc.out.mono (by omega)) (by unfold cmpZ; split <;> first | omega | (split <;> omega))).mono ?_
  rintro e y16 ⟨rfl, hb⟩
  replace BXa := Lib.hid (BXa.out.next hb rfl); replace IVa := Lib.hid (iv_next IVa.out hb rfl)
  replace BXb := Lib.hid (BXb.out.next hb rfl); replace IVb := Lib.hid (iv_next IVb.out hb rfl)
  replace BXc := Lib.hid (BXc.out.next hb rfl); replace IVc := Lib.hid (iv_next IVc.out hb rfl)
  replace DW := Lib.hid (link_below DW.out hb (by have := DW.out.size; omega) rfl rfl rfl rfl)
  clear hb
  go_upto_region 12 with fail
  have SR12x4 : Hid (Sz ((za) + (zc)) 9) := (Sz.add (N := 8) (SZa.out.mono (by omega)) (SZc.out.mono (by omega)))
  have SR12x7 : Hid (Sz ((zb) + (zc)) 9) := (Sz.add (N := 8) (SZb.out.mono (by omega)) (SZc.out.mono (by omega)))
  have SR12x15 : Hid (Sz ((za) * (zc)) 16) := (Sz.mul SZa.out SZc.out)
  have SR12x18 : Hid (Sz ((zb) * (zc)) 16) := (Sz.mul SZb.out SZc.out)
  have SR12x28 : Hid (Sz (0) 2) := I64.sz ⟨by omega, by omega⟩
  refine region_run (fun w' => Below y16.heap.size y16 w') [.is (Value.bool true), .is (Value.bool true), .is (.agg #[.bool sa, .slice Xa pa qa]), .is (.agg #[.bool sc, .slice Xc pc qc]), .iv ((za) + (zc)), .is (.agg #[.bool sb, .slice Xb pb qb]), .is (.agg #[.bool sc, .slice Xc pc qc]), .iv ((zb) + (zc)), .is (Value.int IntKind.i64 (-1)), .is (Value.int IntKind.i64 (-1)), .is (Value.bool true), .is (Value.bool true), .is (Value.bool true), .is (.agg #[.bool sa, .slice Xa pa qa]), .is (.agg #[.bool sc, .slice Xc pc qc]), .iv ((za) * (zc)), .is (.agg #[.bool sb, .slice Xb pb qb]), .is (.agg #[.bool sc, .slice Xc pc qc]), .iv ((zb) * (zc)), .is (Value.int IntKind.i64 ((-1) * sg zc)), .is (Value.int IntKind.i64 (-1)), .is (.agg #[.bool sc, .slice Xc pc qc]), .is (Value.int IntKind.i64 (sg zc)), .is (Value.int IntKind.i64 ((-1) * sg zc)), .is (Value.bool true), .is (Value.bool true), .is (Value.bool true), .is (.agg #[.bool sa, .slice Xa pa qa]), .iv ((0 : Int)), .is (Value.int IntKind.i64 (sg za)), .is (.agg #[.bool sa, .slice Xa pa qa]), .is (Value.int IntKind.i64 (sg za)), .is (Value.bool true), .is (Value.bool true), .is (Value.bool true)] [70, 71, 72, 73, 74, 75, 76, 77, 78, 79, 80, 81, 82, 83, 84, 85, 86, 87, 88, 89, 90, 91, 92, 93, 94, 95, 96, 97, 98, 99, 100, 101, 102, 103, 6] (by kernel_rfl) (by kernel_rfl) (by kernel_rfl) (by rfl) (by kernel_rfl) ((Below.refl _ _).drew) (fun Q' => ?_) (fun K hK wn hs => ?_)
  · refine ⟨?_, ?_, ?_, ?_, ?_, ?_, ?_, ?_, ?_, ?_, ?_, ?_, ?_, ?_, ?_, ?_, ?_, ?_, ?_, ?_, ?_, ?_, ?_, ?_, ?_, ?_, ?_, ?_, ?_, ?_, ?_, ?_, ?_, ?_, ?_, trivial⟩
    · intro a' w' ha hs hw
      have eo7 : a'.tmps[7]? = some (Value.bool true) := (ha.rest 7 (by kernel_rfl)).trans rfl
      exact ⟨wanted_none rfl, wp_val (run_move rfl (ev_tmp eo7)) ⟨_, rfl, rfl, Below.refl _ _, hs⟩⟩
    · intro a' w' ha hs hw
      obtain ⟨v0, e0, q0⟩ := hw 0 (by kernel_rfl) _ _ _ rfl rfl rfl
      obtain rfl : v0 = Value.bool true := q0
      exact ⟨wanted_none rfl, wp_val (run_move rfl (ev_tmp e0)) ⟨_, rfl, rfl, Below.refl _ _, hs⟩⟩
    · intro a' w' ha hs hw
      obtain ⟨v1, e1, q1⟩ := hw 1 (by kernel_rfl) _ _ _ rfl rfl rfl
      obtain rfl : v1 = Value.bool true := q1
      have eo8 : a'.tmps[8]? = some (Value.pointer (some ⟨ga, 0, none⟩)) := (ha.rest 8 (by kernel_rfl)).trans rfl
      exact ⟨wanted_some rfl rfl rfl e1, wp_val (run_load rfl (ev_tmp eo8) (BXa.out.next hs rfl)) ⟨_, rfl, rfl, Below.refl _ _, hs⟩⟩
    · intro a' w' ha hs hw
      obtain ⟨v1, e1, q1⟩ := hw 1 (by kernel_rfl) _ _ _ rfl rfl rfl
      obtain rfl : v1 = Value.bool true := q1
      have eo10 : a'.tmps[10]? = some (Value.pointer (some ⟨gc, 0, none⟩)) := (ha.rest 10 (by kernel_rfl)).trans rfl
      exact ⟨wanted_some rfl rfl rfl e1, wp_val (run_load rfl (ev_tmp eo10) (BXc.out.next hs rfl)) ⟨_, rfl, rfl, Below.refl _ _, hs⟩⟩
    · intro a' w' ha hs hw
      obtain ⟨v1, e1, q1⟩ := hw 1 (by kernel_rfl) _ _ _ rfl rfl rfl
      obtain rfl : v1 = Value.bool true := q1
      obtain ⟨v2, e2, q2⟩ := hw 2 (by kernel_rfl) _ _ _ rfl rfl rfl
      obtain rfl : v2 = .agg #[.bool sa, .slice Xa pa qa] := q2
      obtain ⟨v3, e3, q3⟩ := hw 3 (by kernel_rfl) _ _ _ rfl rfl rfl
      obtain rfl : v3 = .agg #[.bool sc, .slice Xc pc qc] := q3
      exact ⟨wanted_some rfl rfl rfl e1, call_step rfl Try.func26 (by kernel_rfl) rfl (map_two (ev_tmp e2) (ev_tmp e3)) (add_any _ _ (za) (zc) _ (iv_next IVa.out hs rfl) (iv_next IVc.out hs rfl) (SZa.out.mono (by omega)) (SZc.out.mono (by omega))) (fun e w2 he => by obtain ⟨v, rfl, hv, hb⟩ := he; exact ⟨v, rfl, v, rfl, hv, hb, hs.trans (hb.mono hs.size)⟩)⟩
    · intro a' w' ha hs hw
      obtain ⟨v1, e1, q1⟩ := hw 1 (by kernel_rfl) _ _ _ rfl rfl rfl
      obtain rfl : v1 = Value.bool true := q1
      have eo9 : a'.tmps[9]? = some (Value.pointer (some ⟨gb, 0, none⟩)) := (ha.rest 9 (by kernel_rfl)).trans rfl
      exact ⟨wanted_some rfl rfl rfl e1, wp_val (run_load rfl (ev_tmp eo9) (BXb.out.next hs rfl)) ⟨_, rfl, rfl, Below.refl _ _, hs⟩⟩
    · intro a' w' ha hs hw
      obtain ⟨v1, e1, q1⟩ := hw 1 (by kernel_rfl) _ _ _ rfl rfl rfl
      obtain rfl : v1 = Value.bool true := q1
      have eo10 : a'.tmps[10]? = some (Value.pointer (some ⟨gc, 0, none⟩)) := (ha.rest 10 (by kernel_rfl)).trans rfl
      exact ⟨wanted_some rfl rfl rfl e1, wp_val (run_load rfl (ev_tmp eo10) (BXc.out.next hs rfl)) ⟨_, rfl, rfl, Below.refl _ _, hs⟩⟩
    · intro a' w' ha hs hw
      obtain ⟨v1, e1, q1⟩ := hw 1 (by kernel_rfl) _ _ _ rfl rfl rfl
      obtain rfl : v1 = Value.bool true := q1
      obtain ⟨v5, e5, q5⟩ := hw 5 (by kernel_rfl) _ _ _ rfl rfl rfl
      obtain rfl : v5 = .agg #[.bool sb, .slice Xb pb qb] := q5
      obtain ⟨v6, e6, q6⟩ := hw 6 (by kernel_rfl) _ _ _ rfl rfl rfl
      obtain rfl : v6 = .agg #[.bool sc, .slice Xc pc qc] := q6
      exact ⟨wanted_some rfl rfl rfl e1, call_step rfl Try.func26 (by kernel_rfl) rfl (map_two (ev_tmp e5) (ev_tmp e6)) (add_any _ _ (zb) (zc) _ (iv_next IVb.out hs rfl) (iv_next IVc.out hs rfl) (SZb.out.mono (by omega)) (SZc.out.mono (by omega))) (fun e w2 he => by obtain ⟨v, rfl, hv, hb⟩ := he; exact ⟨v, rfl, v, rfl, hv, hb, hs.trans (hb.mono hs.size)⟩)⟩
    · intro a' w' ha hs hw
      obtain ⟨v1, e1, q1⟩ := hw 1 (by kernel_rfl) _ _ _ rfl rfl rfl
      obtain rfl : v1 = Value.bool true := q1
      obtain ⟨v4, e4, q4⟩ := hw 4 (by kernel_rfl) _ _ _ rfl rfl rfl
      replace q4 : Iv w' v4 ((za) + (zc)) := q4
      obtain ⟨v7, e7, q7⟩ := hw 7 (by kernel_rfl) _ _ _ rfl rfl rfl
      replace q7 : Iv w' v7 ((zb) + (zc)) := q7
      exact ⟨wanted_some rfl rfl rfl e1, call_step rfl Try.func24 (by kernel_rfl) rfl (map_two (ev_tmp e4) (ev_tmp e7)) (cmp_is _ _ ((za) + (zc)) ((zb) + (zc)) (-1) _ q4 q7 (SR12x4.out.mono (by omega)) (SR12x7.out.mono (by omega)) (by unfold cmpZ; split <;> first | omega | (split <;> omega))) (fun e w2 he => by obtain ⟨rfl, hb⟩ := he; exact ⟨_, rfl, _, rfl, rfl, hb, hs.trans (hb.mono hs.size)⟩)⟩
    · intro a' w' ha hs hw
      obtain ⟨v1, e1, q1⟩ := hw 1 (by kernel_rfl) _ _ _ rfl rfl rfl
      obtain rfl : v1 = Value.bool true := q1
      have eo11 : a'.tmps[11]? = some (Value.int IntKind.i64 (-1)) := (ha.rest 11 (by kernel_rfl)).trans rfl
      exact ⟨wanted_some rfl rfl rfl e1, wp_val (run_move rfl (ev_tmp eo11)) ⟨_, rfl, rfl, Below.refl _ _, hs⟩⟩
    · intro a' w' ha hs hw
      obtain ⟨v1, e1, q1⟩ := hw 1 (by kernel_rfl) _ _ _ rfl rfl rfl
      obtain rfl : v1 = Value.bool true := q1
      obtain ⟨v8, e8, q8⟩ := hw 8 (by kernel_rfl) _ _ _ rfl rfl rfl
      obtain rfl : v8 = Value.int IntKind.i64 (-1) := q8
      obtain ⟨v9, e9, q9⟩ := hw 9 (by kernel_rfl) _ _ _ rfl rfl rfl
      obtain rfl : v9 = Value.int IntKind.i64 (-1) := q9
      exact ⟨wanted_some rfl rfl rfl e1, wp_val (run_eql_int rfl (ev_tmp e8) (ev_tmp e9)) ⟨_, rfl, congrArg Value.bool (by decide), Below.refl _ _, hs⟩⟩
    · intro a' w' ha hs hw
      obtain ⟨v1, e1, q1⟩ := hw 1 (by kernel_rfl) _ _ _ rfl rfl rfl
      obtain rfl : v1 = Value.bool true := q1
      obtain ⟨v10, e10, q10⟩ := hw 10 (by kernel_rfl) _ _ _ rfl rfl rfl
      obtain rfl : v10 = Value.bool true := q10
      exact ⟨wanted_none rfl, wp_val (run_pick (b := true) rfl (ev_tmp e1) (ev_tmp e10)) ⟨_, rfl, rfl, Below.refl _ _, hs⟩⟩
    · intro a' w' ha hs hw
      obtain ⟨v11, e11, q11⟩ := hw 11 (by kernel_rfl) _ _ _ rfl rfl rfl
      obtain rfl : v11 = Value.bool true := q11
      exact ⟨wanted_none rfl, wp_val (run_move rfl (ev_tmp e11)) ⟨_, rfl, rfl, Below.refl _ _, hs⟩⟩
    · intro a' w' ha hs hw
      obtain ⟨v12, e12, q12⟩ := hw 12 (by kernel_rfl) _ _ _ rfl rfl rfl
      obtain rfl : v12 = Value.bool true := q12
      have eo8 : a'.tmps[8]? = some (Value.pointer (some ⟨ga, 0, none⟩)) := (ha.rest 8 (by kernel_rfl)).trans rfl
      exact ⟨wanted_some rfl rfl rfl e12, wp_val (run_load rfl (ev_tmp eo8) (BXa.out.next hs rfl)) ⟨_, rfl, rfl, Below.refl _ _, hs⟩⟩
    · intro a' w' ha hs hw
      obtain ⟨v12, e12, q12⟩ := hw 12 (by kernel_rfl) _ _ _ rfl rfl rfl
      obtain rfl : v12 = Value.bool true := q12
      have eo10 : a'.tmps[10]? = some (Value.pointer (some ⟨gc, 0, none⟩)) := (ha.rest 10 (by kernel_rfl)).trans rfl
      exact ⟨wanted_some rfl rfl rfl e12, wp_val (run_load rfl (ev_tmp eo10) (BXc.out.next hs rfl)) ⟨_, rfl, rfl, Below.refl _ _, hs⟩⟩
    · intro a' w' ha hs hw
      obtain ⟨v12, e12, q12⟩ := hw 12 (by kernel_rfl) _ _ _ rfl rfl rfl
      obtain rfl : v12 = Value.bool true := q12
      obtain ⟨v13, e13, q13⟩ := hw 13 (by kernel_rfl) _ _ _ rfl rfl rfl
      obtain rfl : v13 = .agg #[.bool sa, .slice Xa pa qa] := q13
      obtain ⟨v14, e14, q14⟩ := hw 14 (by kernel_rfl) _ _ _ rfl rfl rfl
      obtain rfl : v14 = .agg #[.bool sc, .slice Xc pc qc] := q14
      exact ⟨wanted_some rfl rfl rfl e12, call_step rfl Try.func30 (by kernel_rfl) rfl (map_two (ev_tmp e13) (ev_tmp e14)) (mul_any _ _ (za) (zc) _ (iv_next IVa.out hs rfl) (iv_next IVc.out hs rfl) (SZa.out.mono (by omega)) (SZc.out.mono (by omega))) (fun e w2 he => by obtain ⟨v, rfl, hv, hb⟩ := he; exact ⟨v, rfl, v, rfl, hv, hb, hs.trans (hb.mono hs.size)⟩)⟩
    · intro a' w' ha hs hw
      obtain ⟨v12, e12, q12⟩ := hw 12 (by kernel_rfl) _ _ _ rfl rfl rfl
      obtain rfl : v12 = Value.bool true := q12
      have eo9 : a'.tmps[9]? = some (Value.pointer (some ⟨gb, 0, none⟩)) := (ha.rest 9 (by kernel_rfl)).trans rfl
      exact ⟨wanted_some rfl rfl rfl e12, wp_val (run_load rfl (ev_tmp eo9) (BXb.out.next hs rfl)) ⟨_, rfl, rfl, Below.refl _ _, hs⟩⟩
    · intro a' w' ha hs hw
      obtain ⟨v12, e12, q12⟩ := hw 12 (by kernel_rfl) _ _ _ rfl rfl rfl
      obtain rfl : v12 = Value.bool true := q12
      have eo10 : a'.tmps[10]? = some (Value.pointer (some ⟨gc, 0, none⟩)) := (ha.rest 10 (by kernel_rfl)).trans rfl
      exact ⟨wanted_some rfl rfl rfl e12, wp_val (run_load rfl (ev_tmp eo10) (BXc.out.next hs rfl)) ⟨_, rfl, rfl, Below.refl _ _, hs⟩⟩
    · intro a' w' ha hs hw
      obtain ⟨v12, e12, q12⟩ := hw 12 (by kernel_rfl) _ _ _ rfl rfl rfl
      obtain rfl : v12 = Value.bool true := q12
      obtain ⟨v16, e16, q16⟩ := hw 16 (by kernel_rfl) _ _ _ rfl rfl rfl
      obtain rfl : v16 = .agg #[.bool sb, .slice Xb pb qb] := q16
      obtain ⟨v17, e17, q17⟩ := hw 17 (by kernel_rfl) _ _ _ rfl rfl rfl
      obtain rfl : v17 = .agg #[.bool sc, .slice Xc pc qc] := q17
      exact ⟨wanted_some rfl rfl rfl e12, call_step rfl Try.func30 (by kernel_rfl) rfl (map_two (ev_tmp e16) (ev_tmp e17)) (mul_any _ _ (zb) (zc) _ (iv_next IVb.out hs rfl) (iv_next IVc.out hs rfl) (SZb.out.mono (by omega)) (SZc.out.mono (by omega))) (fun e w2 he => by obtain ⟨v, rfl, hv, hb⟩ := he; exact ⟨v, rfl, v, rfl, hv, hb, hs.trans (hb.mono hs.size)⟩)⟩
    · intro a' w' ha hs hw
      obtain ⟨v12, e12, q12⟩ := hw 12 (by kernel_rfl) _ _ _ rfl rfl rfl
      obtain rfl : v12 = Value.bool true := q12
      obtain ⟨v15, e15, q15⟩ := hw 15 (by kernel_rfl) _ _ _ rfl rfl rfl
      replace q15 : Iv w' v15 ((za) * (zc)) := q15
      obtain ⟨v18, e18, q18⟩ := hw 18 (by kernel_rfl) _ _ _ rfl rfl rfl
      replace q18 : Iv w' v18 ((zb) * (zc)) := q18
      exact ⟨wanted_some rfl rfl rfl e12, call_step rfl Try.func24 (by kernel_rfl) rfl (map_two (ev_tmp e15) (ev_tmp e18)) (cmp_is _ _ ((za) * (zc)) ((zb) * (zc)) ((-1) * sg zc) _ q15 q18 (SR12x15.out.mono (by omega)) (SR12x18.out.mono (by omega)) (cmp_mul zc (by unfold cmpZ; split <;> first | omega | (split <;> omega)))) (fun e w2 he => by obtain ⟨rfl, hb⟩ := he; exact ⟨_, rfl, _, rfl, rfl, hb, hs.trans (hb.mono hs.size)⟩)⟩
    · intro a' w' ha hs hw
      obtain ⟨v12, e12, q12⟩ := hw 12 (by kernel_rfl) _ _ _ rfl rfl rfl
      obtain rfl : v12 = Value.bool true := q12
      have eo11 : a'.tmps[11]? = some (Value.int IntKind.i64 (-1)) := (ha.rest 11 (by kernel_rfl)).trans rfl
      exact ⟨wanted_some rfl rfl rfl e12, wp_val (run_move rfl (ev_tmp eo11)) ⟨_, rfl, rfl, Below.refl _ _, hs⟩⟩
    · intro a' w' ha hs hw
      obtain ⟨v12, e12, q12⟩ := hw 12 (by kernel_rfl) _ _ _ rfl rfl rfl
      obtain rfl : v12 = Value.bool true := q12
      have eo10 : a'.tmps[10]? = some (Value.pointer (some ⟨gc, 0, none⟩)) := (ha.rest 10 (by kernel_rfl)).trans rfl
      exact ⟨wanted_some rfl rfl rfl e12, wp_val (run_load rfl (ev_tmp eo10) (BXc.out.next hs rfl)) ⟨_, rfl, rfl, Below.refl _ _, hs⟩⟩
    · intro a' w' ha hs hw
      obtain ⟨v12, e12, q12⟩ := hw 12 (by kernel_rfl) _ _ _ rfl rfl rfl
      obtain rfl : v12 = Value.bool true := q12
      obtain ⟨v21, e21, q21⟩ := hw 21 (by kernel_rfl) _ _ _ rfl rfl rfl
      obtain rfl : v21 = .agg #[.bool sc, .slice Xc pc qc] := q21
      exact ⟨wanted_some rfl rfl rfl e12, call_step rfl Try.func41 (by kernel_rfl) rfl (map_one (ev_tmp e21)) (sign_is _ (zc) (sg zc) _ (iv_next IVc.out hs rfl) (SZc.out.mono (by omega)) (rfl)) (fun e w2 he => by obtain ⟨rfl, hb⟩ := he; exact ⟨_, rfl, _, rfl, rfl, hb, hs.trans (hb.mono hs.size)⟩)⟩
    · intro a' w' ha hs hw
      obtain ⟨v12, e12, q12⟩ := hw 12 (by kernel_rfl) _ _ _ rfl rfl rfl
      obtain rfl : v12 = Value.bool true := q12
      obtain ⟨v20, e20, q20⟩ := hw 20 (by kernel_rfl) _ _ _ rfl rfl rfl
      obtain rfl : v20 = Value.int IntKind.i64 (-1) := q20
      obtain ⟨v22, e22, q22⟩ := hw 22 (by kernel_rfl) _ _ _ rfl rfl rfl
      obtain rfl : v22 = Value.int IntKind.i64 (sg zc) := q22
      exact ⟨wanted_some rfl rfl rfl e12, wp_val (run_mul_i64 rfl (ev_tmp e20) (ev_tmp e22) (wrap_sg (by omega) (by omega))) ⟨_, rfl, rfl, Below.refl _ _, hs⟩⟩
    · intro a' w' ha hs hw
      obtain ⟨v12, e12, q12⟩ := hw 12 (by kernel_rfl) _ _ _ rfl rfl rfl
      obtain rfl : v12 = Value.bool true := q12
      obtain ⟨v19, e19, q19⟩ := hw 19 (by kernel_rfl) _ _ _ rfl rfl rfl
      obtain rfl : v19 = Value.int IntKind.i64 ((-1) * sg zc) := q19
      obtain ⟨v23, e23, q23⟩ := hw 23 (by kernel_rfl) _ _ _ rfl rfl rfl
      obtain rfl : v23 = Value.int IntKind.i64 ((-1) * sg zc) := q23
      exact ⟨wanted_some rfl rfl rfl e12, wp_val ((show _ = _ from by rw [run_eql_int rfl (ev_tmp e19) (ev_tmp e23)]; simp)) ⟨_, rfl, rfl, Below.refl _ _, hs⟩⟩
    · intro a' w' ha hs hw
      obtain ⟨v12, e12, q12⟩ := hw 12 (by kernel_rfl) _ _ _ rfl rfl rfl
      obtain rfl : v12 = Value.bool true := q12
      obtain ⟨v24, e24, q24⟩ := hw 24 (by kernel_rfl) _ _ _ rfl rfl rfl
      obtain rfl : v24 = Value.bool true := q24
      exact ⟨wanted_none rfl, wp_val (run_pick (b := true) rfl (ev_tmp e12) (ev_tmp e24)) ⟨_, rfl, rfl, Below.refl _ _, hs⟩⟩
    · intro a' w' ha hs hw
      obtain ⟨v25, e25, q25⟩ := hw 25 (by kernel_rfl) _ _ _ rfl rfl rfl
      obtain rfl : v25 = Value.bool true := q25
      exact ⟨wanted_none rfl, wp_val (run_move rfl (ev_tmp e25)) ⟨_, rfl, rfl, Below.refl _ _, hs⟩⟩
    · intro a' w' ha hs hw
      obtain ⟨v26, e26, q26⟩ := hw 26 (by kernel_rfl) _ _ _ rfl rfl rfl
      obtain rfl : v26 = Value.bool true := q26
      have eo8 : a'.tmps[8]? = some (Value.pointer (some ⟨ga, 0, none⟩)) := (ha.rest 8 (by kernel_rfl)).trans rfl
      exact ⟨wanted_some rfl rfl rfl e26, wp_val (run_load rfl (ev_tmp eo8) (BXa.out.next hs rfl)) ⟨_, rfl, rfl, Below.refl _ _, hs⟩⟩
    · intro a' w' ha hs hw
      obtain ⟨v26, e26, q26⟩ := hw 26 (by kernel_rfl) _ _ _ rfl rfl rfl
      obtain rfl : v26 = Value.bool true := q26
      exact ⟨wanted_some rfl rfl rfl e26, call_step rfl Try.func40 (by kernel_rfl) rfl (map_one rfl) (lof_any (0) _ (by omega) (by omega)) (fun e w2 he => by obtain ⟨v, rfl, hv, hb⟩ := he; exact ⟨v, rfl, v, rfl, hv, hb, hs.trans (hb.mono hs.size)⟩)⟩
    · intro a' w' ha hs hw
      obtain ⟨v26, e26, q26⟩ := hw 26 (by kernel_rfl) _ _ _ rfl rfl rfl
      obtain rfl : v26 = Value.bool true := q26
      obtain ⟨v27, e27, q27⟩ := hw 27 (by kernel_rfl) _ _ _ rfl rfl rfl
      obtain rfl : v27 = .agg #[.bool sa, .slice Xa pa qa] := q27
      obtain ⟨v28, e28, q28⟩ := hw 28 (by kernel_rfl) _ _ _ rfl rfl rfl
      replace q28 : Iv w' v28 ((0 : Int)) := q28
      exact ⟨wanted_some rfl rfl rfl e26, call_step rfl Try.func24 (by kernel_rfl) rfl (map_two (ev_tmp e27) (ev_tmp e28)) (cmp_is _ _ (za) ((0 : Int)) (sg za) _ (iv_next IVa.out hs rfl) q28 (SZa.out.mono (by omega)) (SR12x28.out.mono (by omega)) (cmpZ_zero za)) (fun e w2 he => by obtain ⟨rfl, hb⟩ := he; exact ⟨_, rfl, _, rfl, rfl, hb, hs.trans (hb.mono hs.size)⟩)⟩
    · intro a' w' ha hs hw
      obtain ⟨v26, e26, q26⟩ := hw 26 (by kernel_rfl) _ _ _ rfl rfl rfl
      obtain rfl : v26 = Value.bool true := q26
      have eo8 : a'.tmps[8]? = some (Value.pointer (some ⟨ga, 0, none⟩)) := (ha.rest 8 (by kernel_rfl)).trans rfl
      exact ⟨wanted_some rfl rfl rfl e26, wp_val (run_load rfl (ev_tmp eo8) (BXa.out.next hs rfl)) ⟨_, rfl, rfl, Below.refl _ _, hs⟩⟩
    · intro a' w' ha hs hw
      obtain ⟨v26, e26, q26⟩ := hw 26 (by kernel_rfl) _ _ _ rfl rfl rfl
      obtain rfl : v26 = Value.bool true := q26
      obtain ⟨v30, e30, q30⟩ := hw 30 (by kernel_rfl) _ _ _ rfl rfl rfl
      obtain rfl : v30 = .agg #[.bool sa, .slice Xa pa qa] := q30
      exact ⟨wanted_some rfl rfl rfl e26, call_step rfl Try.func41 (by kernel_rfl) rfl (map_one (ev_tmp e30)) (sign_is _ (za) (sg za) _ (iv_next IVa.out hs rfl) (SZa.out.mono (by omega)) (rfl)) (fun e w2 he => by obtain ⟨rfl, hb⟩ := he; exact ⟨_, rfl, _, rfl, rfl, hb, hs.trans (hb.mono hs.size)⟩)⟩
    · intro a' w' ha hs hw
      obtain ⟨v26, e26, q26⟩ := hw 26 (by kernel_rfl) _ _ _ rfl rfl rfl
      obtain rfl : v26 = Value.bool true := q26
      obtain ⟨v29, e29, q29⟩ := hw 29 (by kernel_rfl) _ _ _ rfl rfl rfl
      obtain rfl : v29 = Value.int IntKind.i64 (sg za) := q29
      obtain ⟨v31, e31, q31⟩ := hw 31 (by kernel_rfl) _ _ _ rfl rfl rfl
      obtain rfl : v31 = Value.int IntKind.i64 (sg za) := q31
      exact ⟨wanted_some rfl rfl rfl e26, wp_val ((show _ = _ from by rw [run_eql_int rfl (ev_tmp e29) (ev_tmp e31)]; simp)) ⟨_, rfl, rfl, Below.refl _ _, hs⟩⟩
    · intro a' w' ha hs hw
      obtain ⟨v26, e26, q26⟩ := hw 26 (by kernel_rfl) _ _ _ rfl rfl rfl
      obtain rfl : v26 = Value.bool true := q26
      obtain ⟨v32, e32, q32⟩ := hw 32 (by kernel_rfl) _ _ _ rfl rfl rfl
      obtain rfl : v32 = Value.bool true := q32
      exact ⟨wanted_none rfl, wp_val (run_pick (b := true) rfl (ev_tmp e26) (ev_tmp e32)) ⟨_, rfl, rfl, Below.refl _ _, hs⟩⟩
    · intro a' w' ha hs hw
      obtain ⟨v33, e33, q33⟩ := hw 33 (by kernel_rfl) _ _ _ rfl rfl rfl
      obtain rfl : v33 = Value.bool true := q33
      exact ⟨wanted_none rfl, wp_val (run_assign rfl (ev_tmp e33)) ⟨_, rfl, rfl, Below.refl _ _, hs⟩⟩
  simp only [allK]
  intro r12x0 _ r12x1 _ r12x2 _ r12x3 _ r12x4 _
  simp only [setAll, List.set_cons_succ, List.set_cons_zero]
  refine hK _ _ ?_
  clear hK K
  clear SR12x4
  clear SR12x7
  clear SR12x15
  clear SR12x18
  clear SR12x28
  replace BXa := Lib.hid (BXa.out.next hs rfl); replace IVa := Lib.hid (iv_next IVa.out hs rfl)
  replace BXb := Lib.hid (BXb.out.next hs rfl); replace IVb := Lib.hid (iv_next IVb.out hs rfl)
  replace BXc := Lib.hid (BXc.out.next hs rfl); replace IVc := Lib.hid (iv_next IVc.out hs rfl)
  replace DW := Lib.hid (link_below DW.out hs (by have := DW.out.size; omega) rfl rfl rfl rfl)
  clear hs
  go_wp2
  go_ret
  exact ⟨by simp, by rw [hg]; exact DW.out⟩

set_option maxHeartbeats 16000000 in
set_option maxRecDepth 100000 in
theorem lawOrderC_any (b0 : Bool) (A0 : Option Addr) (n0 c0 : Nat) (ws0 : List Nat) (b1 : Bool) (A1 : Option Addr) (n1 c1 : Nat) (ws1 : List Nat) (b2 : Bool) (A2 : Option Addr) (n2 c2 : Nat) (ws2 : List Nat)  (w : World) (h0 : Wd w A0 n0 ws0) (m0 : n0 ≤ 9223372036854775807) (h1 : Wd w A1 n1 ws1) (m1 : n1 ≤ 9223372036854775807) (h2 : Wd w A2 n2 ws2) (m2 : n2 ≤ 9223372036854775807) (hx0 : sgn b0 (val (ws0.take 8)) < sgn b1 (val (ws1.take 8))) (hx1 : sgn b2 (val (ws2.take 8)) < sgn b1 (val (ws1.take 8))) :
    Calls Try.prog 6 #[.agg #[.bool b0, .slice A0 n0 c0], .agg #[.bool b1, .slice A1 n1 c1], .agg #[.bool b2, .slice A2 n2 c2]] w fun e w' => e = .returned (.bool true) ∧ Below w.heap.size w w' := by
  obtain ⟨za, hza⟩ : ∃ z, z = sgn b0 (val (ws0.take 8)) := ⟨_, rfl⟩
  have SZa : Hid (Sz za 8) := by rw [hza]; exact sz_take _ _ _ h0.wds
  obtain ⟨zb, hzb⟩ : ∃ z, z = sgn b1 (val (ws1.take 8)) := ⟨_, rfl⟩
  have SZb : Hid (Sz zb 8) := by rw [hzb]; exact sz_take _ _ _ h1.wds
  obtain ⟨zc, hzc⟩ : ∃ z, z = sgn b2 (val (ws2.take 8)) := ⟨_, rfl⟩
  have SZc : Hid (Sz zc 8) := by rw [hzc]; exact sz_take _ _ _ h2.wds
  simp only [← hza, ← hzb, ← hzc] at hx0
  simp only [← hza, ← hzb, ← hzc] at hx1
  go_enter Try.func6, Try.ntmps6
  go_wp2_with fail
  obtain ⟨W, hW⟩ : ∃ W, W = (((w.alloc (Obj.cells #[Value.bool b0, Value.slice A0 n0 c0] 24)).alloc (Obj.cells #[Value.bool b1, Value.slice A1 n1 c1] 24)).alloc (Obj.cells #[Value.bool b2, Value.slice A2 n2 c2] 24)) := ⟨_, rfl⟩
  rw [← hW]
  have RX0 : Hid (RBox W (w.heap.size) b0 (.slice A0 n0 c0)) := by rw [hW]; have := ((RBox.new w b0 (.slice A0 n0 c0)).alloc (Obj.cells #[Value.bool b1, Value.slice A1 n1 c1] 24)).alloc (Obj.cells #[Value.bool b2, Value.slice A2 n2 c2] 24); simpa [Hid] using this
  have RW0 : Hid (Wd W A0 n0 ws0) := by rw [hW]; exact (((h0).alloc _).alloc _).alloc _
  have RX1 : Hid (RBox W (w.heap.size + 1) b1 (.slice A1 n1 c1)) := by rw [hW]; have := (RBox.new (w.alloc (Obj.cells #[Value.bool b0, Value.slice A0 n0 c0] 24)) b1 (.slice A1 n1 c1)).alloc (Obj.cells #[Value.bool b2, Value.slice A2 n2 c2] 24); simpa [Hid] using this
  have RW1 : Hid (Wd W A1 n1 ws1) := by rw [hW]; exact (((h1).alloc _).alloc _).alloc _
  have RX2 : Hid (RBox W (w.heap.size + 1 + 1) b2 (.slice A2 n2 c2)) := by rw [hW]; have := RBox.new ((w.alloc (Obj.cells #[Value.bool b0, Value.slice A0 n0 c0] 24)).alloc (Obj.cells #[Value.bool b1, Value.slice A1 n1 c1] 24)) b2 (.slice A2 n2 c2); simpa [Hid] using this
  have RW2 : Hid (Wd W A2 n2 ws2) := by rw [hW]; exact (((h2).alloc _).alloc _).alloc _
  have DW : Hid (Below w.heap.size w W) := by rw [hW]; exact (((Below.refl _ _).alloc (by simp <;> omega) _).alloc (by simp <;> omega) _).alloc (by simp <;> omega) _
  clear hW h0 h1 h2
  generalize hg : w.heap.size = g at *
  refine (sanity_any _).mono ?_
  rintro e w1 ⟨rfl, hb1⟩
  replace RX0 := Lib.hid (RX0.out.next hb1 rfl); replace RW0 := Lib.hid (RW0.out.next hb1 rfl)
  replace RX1 := Lib.hid (RX1.out.next hb1 rfl); replace RW1 := Lib.hid (RW1.out.next hb1 rfl)
  replace RX2 := Lib.hid (RX2.out.next hb1 rfl); replace RW2 := Lib.hid (RW2.out.next hb1 rfl)
  replace DW := Lib.hid (link_below DW.out hb1 (by have := DW.out.size; omega) rfl rfl rfl rfl)
  clear hb1
  have u1 := RX0.out.cell0; have u2 := RX0.out.cell1
  go_wp2_with fail
  clear u1 u2
  refine (rmade_raw b0 A0 n0 c0 8 8 ws0 _ RW0.out rfl (by omega) m0).mono ?_
  rw [← hza]
  rintro e y1 ⟨_, rfl, hq, hb⟩
  clear RX0 RW0
  obtain ⟨Xa, pa, qa, rfl, _, _, _⟩ := hq.form
  have Q := Lib.hid hq; have B := Lib.hid hb; clear hq hb
  generalize hs : decide ((za : Int) < 0) = sa at *
  clear hs
  go_upto_region 5 with fail
  obtain ⟨W2, hW⟩ : ∃ W2, W2 = y1.alloc (Obj.cells #[Value.bool sa, Value.slice Xa pa qa] 27) := ⟨_, rfl⟩
  rw [← hW]
  have BXa : Hid (Box W2 y1.heap.size sa (.slice Xa pa qa)) := by rw [hW]; exact Box.new _ _ _
  have IVa : Hid (Iv W2 (.agg #[.bool sa, .slice Xa pa qa]) (za)) := by rw [hW]; exact Q.out.alloc _
  have hd : Below w1.heap.size w1 W2 := by rw [hW]; exact B.out.alloc B.out.size _
  clear hW Q B
  generalize hgn : y1.heap.size = ga at *
  clear hgn
  replace RX1 := Lib.hid (RX1.out.next hd rfl); replace RW1 := Lib.hid (RW1.out.next hd rfl)
  replace RX2 := Lib.hid (RX2.out.next hd rfl); replace RW2 := Lib.hid (RW2.out.next hd rfl)
  replace DW := Lib.hid (link_below DW.out hd (by have := DW.out.size; omega) rfl rfl rfl rfl)
  clear hd
  have u1 := RX1.out.cell0; have u2 := RX1.out.cell1
  go_wp2_with fail
  clear u1 u2
  refine (rmade_raw b1 A1 n1 c1 8 8 ws1 _ RW1.out rfl (by omega) m1).mono ?_
  rw [← hzb]
  rintro e y3 ⟨_, rfl, hq, hb⟩
  clear RX1 RW1
  obtain ⟨Xb, pb, qb, rfl, _, _, _⟩ := hq.form
  have Q := Lib.hid hq; have B := Lib.hid hb; clear hq hb
  generalize hs : decide ((zb : Int) < 0) = sb at *
  clear hs
  go_upto_region 6 with fail
  obtain ⟨W4, hW⟩ : ∃ W4, W4 = y3.alloc (Obj.cells #[Value.bool sb, Value.slice Xb pb qb] 27) := ⟨_, rfl⟩
  rw [← hW]
  have BXb : Hid (Box W4 y3.heap.size sb (.slice Xb pb qb)) := by rw [hW]; exact Box.new _ _ _
  have IVb : Hid (Iv W4 (.agg #[.bool sb, .slice Xb pb qb]) (zb)) := by rw [hW]; exact Q.out.alloc _
  have hd : Below W2.heap.size W2 W4 := by rw [hW]; exact B.out.alloc B.out.size _
  clear hW Q B
  generalize hgn : y3.heap.size = gb at *
  clear hgn
  replace BXa := Lib.hid (BXa.out.next hd rfl); replace IVa := Lib.hid (iv_next IVa.out hd rfl)
  replace RX2 := Lib.hid (RX2.out.next hd rfl); replace RW2 := Lib.hid (RW2.out.next hd rfl)
  replace DW := Lib.hid (link_below DW.out hd (by have := DW.out.size; omega) rfl rfl rfl rfl)
  clear hd
  have u1 := RX2.out.cell0; have u2 := RX2.out.cell1
  go_wp2_with fail
  clear u1 u2
  refine (rmade_raw b2 A2 n2 c2 8 8 ws2 _ RW2.out rfl (by omega) m2).mono ?_
  rw [← hzc]
  rintro e y5 ⟨_, rfl, hq, hb⟩
  clear RX2 RW2
  obtain ⟨Xc, pc, qc, rfl, _, _, _⟩ := hq.form
  have Q := Lib.hid hq; have B := Lib.hid hb; clear hq hb
  generalize hs : decide ((zc : Int) < 0) = sc at *
  clear hs
  go_upto_region 7 with fail
  obtain ⟨W6, hW⟩ : ∃ W6, W6 = y5.alloc (Obj.cells #[Value.bool sc, Value.slice Xc pc qc] 27) := ⟨_, rfl⟩
  rw [← hW]
  have BXc : Hid (Box W6 y5.heap.size sc (.slice Xc pc qc)) := by rw [hW]; exact Box.new _ _ _
  have IVc : Hid (Iv W6 (.agg #[.bool sc, .slice Xc pc qc]) (zc)) := by rw [hW]; exact Q.out.alloc _
  have hd : Below W4.heap.size W4 W6 := by rw [hW]; exact B.out.alloc B.out.size _
  clear hW Q B
  generalize hgn : y5.heap.size = gc at *
  clear hgn
  replace BXa := Lib.hid (BXa.out.next hd rfl); replace IVa := Lib.hid (iv_next IVa.out hd rfl)
  replace BXb := Lib.hid (BXb.out.next hd rfl); replace IVb := Lib.hid (iv_next IVb.out hd rfl)
  replace DW := Lib.hid (link_below DW.out hd (by have := DW.out.size; omega) rfl rfl rfl rfl)
  clear hd
  have u7a := BXa.out.cell0; have u7b := BXa.out.cell1
  have u8a := BXb.out.cell0; have u8b := BXb.out.cell1
  go_wp2_with fail
  clear u7a u7b u8a u8b
  refine (cmp_is _ _ (za) (zb) (-1) _ IVa.out IVb.out (SZa.out.mono (by omega)) (SZb.out.mono (by omega)) (by unfold cmpZ; split <;> first | omega | (split <;> omega))).mono ?_
  rintro e y9 ⟨rfl, hb⟩
  replace BXa := Lib.hid (BXa.out.next hb rfl); replace IVa := Lib.hid (iv_next IVa.out hb rfl)
  replace BXb := Lib.hid (BXb.out.next hb rfl); replace IVb := Lib.hid (iv_next IVb.out hb rfl)
  replace BXc := Lib.hid (BXc.out.next hb rfl); replace IVc := Lib.hid (iv_next IVc.out hb rfl)
  replace DW := Lib.hid (link_below DW.out hb (by have := DW.out.size; omega) rfl rfl rfl rfl)
  clear hb
  go_upto_region 8 with fail
  have SR8x16 : Hid (Sz (-(za)) 8) := (Sz.neg SZa.out)
  have SR8x18 : Hid (Sz (-(zb)) 8) := (Sz.neg SZb.out)
  have SR8x27 : Hid (Sz ((za) - (zb)) 9) := (Sz.sub (N := 8) (SZa.out.mono (by omega)) (SZb.out.mono (by omega)))
  refine region_run (fun w' => Below y9.heap.size y9 w') [.is (Value.int IntKind.i64 (-1)), .is (Value.bool false), .is (Value.bool false), .is (Value.int IntKind.i64 (-1)), .is (Value.bool false), .is (Value.bool false), .is (Value.bool false), .is (.agg #[.bool sb, .slice Xb pb qb]), .is (.agg #[.bool sa, .slice Xa pa qa]), .is (Value.int IntKind.i64 (1)), .is (Value.int IntKind.i64 (-1)), .is (Value.int IntKind.i64 (1)), .is (Value.bool false), .is (Value.bool false), .is (Value.bool false), .is (.agg #[.bool sa, .slice Xa pa qa]), .iv (-(za)), .is (.agg #[.bool sb, .slice Xb pb qb]), .iv (-(zb)), .is (Value.int IntKind.i64 (1)), .is (Value.int IntKind.i64 (-1)), .is (Value.int IntKind.i64 (1)), .is (Value.bool false), .is (Value.bool false), .is (Value.bool false), .is (.agg #[.bool sa, .slice Xa pa qa]), .is (.agg #[.bool sb, .slice Xb pb qb]), .iv ((za) - (zb)), .is (Value.int IntKind.i64 (-1)), .is (Value.int IntKind.i64 (-1)), .is (Value.bool false), .is (Value.bool false)] [24, 25, 26, 27, 28, 29, 30, 31, 32, 33, 34, 35, 36, 37, 38, 39, 40, 41, 42, 43, 44, 45, 46, 47, 48, 49, 50, 51, 52, 53, 54, 55] (by kernel_rfl) (by kernel_rfl) (by kernel_rfl) (by rfl) (by kernel_rfl) ((Below.refl _ _).drew) (fun Q' => ?_) (fun K hK wn hs => ?_)
  · refine ⟨?_, ?_, ?_, ?_, ?_, ?_, ?_, ?_, ?_, ?_, ?_, ?_, ?_, ?_, ?_, ?_, ?_, ?_, ?_, ?_, ?_, ?_, ?_, ?_, ?_, ?_, ?_, ?_, ?_, ?_, ?_, ?_, trivial⟩
    · intro a' w' ha hs hw
      have eo11 : a'.tmps[11]? = some (Value.int IntKind.i64 (-1)) := (ha.rest 11 (by kernel_rfl)).trans rfl
      exact ⟨wanted_none rfl, wp_val (run_move rfl (ev_tmp eo11)) ⟨_, rfl, rfl, Below.refl _ _, hs⟩⟩
    · intro a' w' ha hs hw
      obtain ⟨v0, e0, q0⟩ := hw 0 (by kernel_rfl) _ _ _ rfl rfl rfl
      obtain rfl : v0 = Value.int IntKind.i64 (-1) := q0
      exact ⟨wanted_none rfl, wp_val (run_lss_int rfl (ev_tmp e0) rfl) ⟨_, rfl, congrArg Value.bool (by decide), Below.refl _ _, hs⟩⟩
    · intro a' w' ha hs hw
      obtain ⟨v1, e1, q1⟩ := hw 1 (by kernel_rfl) _ _ _ rfl rfl rfl
      obtain rfl : v1 = Value.bool false := q1
      exact ⟨wanted_none rfl, wp_val (run_move rfl (ev_tmp e1)) ⟨_, rfl, rfl, Below.refl _ _, hs⟩⟩
    · intro a' w' ha hs hw
      obtain ⟨v2, e2, q2⟩ := hw 2 (by kernel_rfl) _ _ _ rfl rfl rfl
      obtain rfl : v2 = Value.bool false := q2
      have eo11 : a'.tmps[11]? = some (Value.int IntKind.i64 (-1)) := (ha.rest 11 (by kernel_rfl)).trans rfl
      exact ⟨wanted_some rfl rfl rfl e2, wp_val (run_move rfl (ev_tmp eo11)) ⟨_, rfl, rfl, Below.refl _ _, hs⟩⟩
    · intro a' w' ha hs hw
      obtain ⟨v2, e2, q2⟩ := hw 2 (by kernel_rfl) _ _ _ rfl rfl rfl
      obtain rfl : v2 = Value.bool false := q2
      obtain ⟨v3, e3, q3⟩ := hw 3 (by kernel_rfl) _ _ _ rfl rfl rfl
      obtain rfl : v3 = Value.int IntKind.i64 (-1) := q3
      exact ⟨wanted_some rfl rfl rfl e2, wp_val (run_gtr_int rfl (ev_tmp e3) rfl) ⟨_, rfl, congrArg Value.bool (by decide), Below.refl _ _, hs⟩⟩
    · intro a' w' ha hs hw
      obtain ⟨v2, e2, q2⟩ := hw 2 (by kernel_rfl) _ _ _ rfl rfl rfl
      obtain rfl : v2 = Value.bool false := q2
      obtain ⟨v4, e4, q4⟩ := hw 4 (by kernel_rfl) _ _ _ rfl rfl rfl
      obtain rfl : v4 = Value.bool false := q4
      exact ⟨wanted_none rfl, wp_val (run_pick (b := false) rfl (ev_tmp e2) (ev_tmp e4)) ⟨_, rfl, rfl, Below.refl _ _, hs⟩⟩
    · intro a' w' ha hs hw
      obtain ⟨v5, e5, q5⟩ := hw 5 (by kernel_rfl) _ _ _ rfl rfl rfl
      obtain rfl : v5 = Value.bool false := q5
      exact ⟨wanted_none rfl, wp_val (run_move rfl (ev_tmp e5)) ⟨_, rfl, rfl, Below.refl _ _, hs⟩⟩
    · intro a' w' ha hs hw
      obtain ⟨v6, e6, q6⟩ := hw 6 (by kernel_rfl) _ _ _ rfl rfl rfl
      obtain rfl : v6 = Value.bool false := q6
      have eo9 : a'.tmps[9]? = some (Value.pointer (some ⟨gb, 0, none⟩)) := (ha.rest 9 (by kernel_rfl)).trans rfl
      exact ⟨wanted_some rfl rfl rfl e6, wp_val (run_load rfl (ev_tmp eo9) (BXb.out.next hs rfl)) ⟨_, rfl, rfl, Below.refl _ _, hs⟩⟩
    · intro a' w' ha hs hw
      obtain ⟨v6, e6, q6⟩ := hw 6 (by kernel_rfl) _ _ _ rfl rfl rfl
      obtain rfl : v6 = Value.bool false := q6
      have eo8 : a'.tmps[8]? = some (Value.pointer (some ⟨ga, 0, none⟩)) := (ha.rest 8 (by kernel_rfl)).trans rfl
      exact ⟨wanted_some rfl rfl rfl e6, wp_val (run_load rfl (ev_tmp eo8) (BXa.out.next hs rfl)) ⟨_, rfl, rfl, Below.refl _ _, hs⟩⟩
    · intro a' w' ha hs hw
      obtain ⟨v6, e6, q6⟩ := hw 6 (by kernel_rfl) _ _ _ rfl rfl rfl
      obtain rfl : v6 = Value.bool false := q6
      obtain ⟨v7, e7, q7⟩ := hw 7 (by kernel_rfl) _ _ _ rfl rfl rfl
      obtain rfl : v7 = .agg #[.bool sb, .slice Xb pb qb] := q7
      obtain ⟨v8, e8, q8⟩ := hw 8 (by kernel_rfl) _ _ _ rfl rfl rfl
      obtain rfl : v8 = .agg #[.bool sa, .slice Xa pa qa] := q8
      exact ⟨wanted_some rfl rfl rfl e6, call_step rfl Try.func24 (by kernel_rfl) rfl (map_two (ev_tmp e7) (ev_tmp e8)) (cmp_is _ _ (zb) (za) (1) _ (iv_next IVb.out hs rfl) (iv_next IVa.out hs rfl) (SZb.out.mono (by omega)) (SZa.out.mono (by omega)) (by unfold cmpZ; split <;> first | omega | (split <;> omega))) (fun e w2 he => by obtain ⟨rfl, hb⟩ := he; exact ⟨_, rfl, _, rfl, rfl, hb, hs.trans (hb.mono hs.size)⟩)⟩
    · intro a' w' ha hs hw
      obtain ⟨v6, e6, q6⟩ := hw 6 (by kernel_rfl) _ _ _ rfl rfl rfl
      obtain rfl : v6 = Value.bool false := q6
      have eo11 : a'.tmps[11]? = some (Value.int IntKind.i64 (-1)) := (ha.rest 11 (by kernel_rfl)).trans rfl
      exact ⟨wanted_some rfl rfl rfl e6, wp_val (run_move rfl (ev_tmp eo11)) ⟨_, rfl, rfl, Below.refl _ _, hs⟩⟩
    · intro a' w' ha hs hw
      obtain ⟨v6, e6, q6⟩ := hw 6 (by kernel_rfl) _ _ _ rfl rfl rfl
      obtain rfl : v6 = Value.bool false := q6
      obtain ⟨v10, e10, q10⟩ := hw 10 (by kernel_rfl) _ _ _ rfl rfl rfl
      obtain rfl : v10 = Value.int IntKind.i64 (-1) := q10
      exact ⟨wanted_some rfl rfl rfl e6, wp_val (run_neg_i64 rfl (ev_tmp e10) (by decide)) ⟨_, rfl, rfl, Below.refl _ _, hs⟩⟩
    · intro a' w' ha hs hw
      obtain ⟨v6, e6, q6⟩ := hw 6 (by kernel_rfl) _ _ _ rfl rfl rfl
      obtain rfl : v6 = Value.bool false := q6
      obtain ⟨v9, e9, q9⟩ := hw 9 (by kernel_rfl) _ _ _ rfl rfl rfl
      obtain rfl : v9 = Value.int IntKind.i64 (1) := q9
      obtain ⟨v11, e11, q11⟩ := hw 11 (by kernel_rfl) _ _ _ rfl rfl rfl
      obtain rfl : v11 = Value.int IntKind.i64 (1) := q11
      exact ⟨wanted_some rfl rfl rfl e6, wp_val (run_neq_int rfl (ev_tmp e9) (ev_tmp e11)) ⟨_, rfl, congrArg Value.bool (by decide), Below.refl _ _, hs⟩⟩
    · intro a' w' ha hs hw
      obtain ⟨v6, e6, q6⟩ := hw 6 (by kernel_rfl) _ _ _ rfl rfl rfl
      obtain rfl : v6 = Value.bool false := q6
      obtain ⟨v12, e12, q12⟩ := hw 12 (by kernel_rfl) _ _ _ rfl rfl rfl
      obtain rfl : v12 = Value.bool false := q12
      exact ⟨wanted_none rfl, wp_val (run_pick (b := false) rfl (ev_tmp e6) (ev_tmp e12)) ⟨_, rfl, rfl, Below.refl _ _, hs⟩⟩
    · intro a' w' ha hs hw
      obtain ⟨v13, e13, q13⟩ := hw 13 (by kernel_rfl) _ _ _ rfl rfl rfl
      obtain rfl : v13 = Value.bool false := q13
      exact ⟨wanted_none rfl, wp_val (run_move rfl (ev_tmp e13)) ⟨_, rfl, rfl, Below.refl _ _, hs⟩⟩
    · intro a' w' ha hs hw
      obtain ⟨v14, e14, q14⟩ := hw 14 (by kernel_rfl) _ _ _ rfl rfl rfl
      obtain rfl : v14 = Value.bool false := q14
      have eo8 : a'.tmps[8]? = some (Value.pointer (some ⟨ga, 0, none⟩)) := (ha.rest 8 (by kernel_rfl)).trans rfl
      exact ⟨wanted_some rfl rfl rfl e14, wp_val (run_load rfl (ev_tmp eo8) (BXa.out.next hs rfl)) ⟨_, rfl, rfl, Below.refl _ _, hs⟩⟩
    · intro a' w' ha hs hw
      obtain ⟨v14, e14, q14⟩ := hw 14 (by kernel_rfl) _ _ _ rfl rfl rfl
      obtain rfl : v14 = Value.bool false := q14
      obtain ⟨v15, e15, q15⟩ := hw 15 (by kernel_rfl) _ _ _ rfl rfl rfl
      obtain rfl : v15 = .agg #[.bool sa, .slice Xa pa qa] := q15
      exact ⟨wanted_some rfl rfl rfl e14, call_step rfl Try.func39 (by kernel_rfl) rfl (map_one (ev_tmp e15)) (neg_any _ (za) _ (iv_next IVa.out hs rfl) (SZa.out.mono (by omega))) (fun e w2 he => by obtain ⟨v, rfl, hv, hb⟩ := he; exact ⟨v, rfl, v, rfl, hv, hb, hs.trans (hb.mono hs.size)⟩)⟩
    · intro a' w' ha hs hw
      obtain ⟨v14, e14, q14⟩ := hw 14 (by kernel_rfl) _ _ _ rfl rfl rfl
      obtain rfl : v14 = Value.bool false := q14
      have eo9 : a'.tmps[9]? = some (Value.pointer (some ⟨gb, 0, none⟩)) := (ha.rest 9 (by kernel_rfl)).trans rfl
      exact ⟨wanted_some rfl rfl rfl e14, wp_val (run_load rfl (ev_tmp eo9) (BXb.out.next hs rfl)) ⟨_, rfl, rfl, Below.refl _ _, hs⟩⟩
    · intro a' w' ha hs hw
      obtain ⟨v14, e14, q14⟩ := hw 14 (by kernel_rfl) _ _ _ rfl rfl rfl
      obtain rfl : v14 = Value.bool false := q14
      obtain ⟨v17, e17, q17⟩ := hw 17 (by kernel_rfl) _ _ _ rfl rfl rfl
      obtain rfl : v17 = .agg #[.bool sb, .slice Xb pb qb] := q17
      exact ⟨wanted_some rfl rfl rfl e14, call_step rfl Try.func39 (by kernel_rfl) rfl (map_one (ev_tmp e17)) (neg_any _ (zb) _ (iv_next IVb.out hs rfl) (SZb.out.mono (by omega))) (fun e w2 he => by obtain ⟨v, rfl, hv, hb⟩ := he; exact ⟨v, rfl, v, rfl, hv, hb, hs.trans (hb.mono hs.size)⟩)⟩
    · intro a' w' ha hs hw
      obtain ⟨v14, e14, q14⟩ := hw 14 (by kernel_rfl) _ _ _ rfl rfl rfl
      obtain rfl : v14 = Value.bool false := q14
      obtain ⟨v16, e16, q16⟩ := hw 16 (by kernel_rfl) _ _ _ rfl rfl rfl
      replace q16 : Iv w' v16 (-(za)) := q16
      obtain ⟨v18, e18, q18⟩ := hw 18 (by kernel_rfl) _ _ _ rfl rfl rfl
      replace q18 : Iv w' v18 (-(zb)) := q18
      exact ⟨wanted_some rfl rfl rfl e14, call_step rfl Try.func24 (by kernel_rfl) rfl (map_two (ev_tmp e16) (ev_tmp e18)) (cmp_is _ _ (-(za)) (-(zb)) (1) _ q16 q18 (SR8x16.out.mono (by omega)) (SR8x18.out.mono (by omega)) (by unfold cmpZ; split <;> first | omega | (split <;> omega))) (fun e w2 he => by obtain ⟨rfl, hb⟩ := he; exact ⟨_, rfl, _, rfl, rfl, hb, hs.trans (hb.mono hs.size)⟩)⟩
    · intro a' w' ha hs hw
      obtain ⟨v14, e14, q14⟩ := hw 14 (by kernel_rfl) _ _ _ rfl rfl rfl
      obtain rfl : v14 = Value.bool false := q14
      have eo11 : a'.tmps[11]? = some (Value.int IntKind.i64 (-1)) := (ha.rest 11 (by kernel_rfl)).trans rfl
      exact ⟨wanted_some rfl rfl rfl e14, wp_val (run_move rfl (ev_tmp eo11)) ⟨_, rfl, rfl, Below.refl _ _, hs⟩⟩
    · intro a' w' ha hs hw
      obtain ⟨v14, e14, q14⟩ := hw 14 (by kernel_rfl) _ _ _ rfl rfl rfl
      obtain rfl : v14 = Value.bool false := q14
      obtain ⟨v20, e20, q20⟩ := hw 20 (by kernel_rfl) _ _ _ rfl rfl rfl
      obtain rfl : v20 = Value.int IntKind.i64 (-1) := q20
      exact ⟨wanted_some rfl rfl rfl e14, wp_val (run_neg_i64 rfl (ev_tmp e20) (by decide)) ⟨_, rfl, rfl, Below.refl _ _, hs⟩⟩
    · intro a' w' ha hs hw
      obtain ⟨v14, e14, q14⟩ := hw 14 (by kernel_rfl) _ _ _ rfl rfl rfl
      obtain rfl : v14 = Value.bool false := q14
      obtain ⟨v19, e19, q19⟩ := hw 19 (by kernel_rfl) _ _ _ rfl rfl rfl
      obtain rfl : v19 = Value.int IntKind.i64 (1) := q19
      obtain ⟨v21, e21, q21⟩ := hw 21 (by kernel_rfl) _ _ _ rfl rfl rfl
      obtain rfl : v21 = Value.int IntKind.i64 (1) := q21
      exact ⟨wanted_some rfl rfl rfl e14, wp_val (run_neq_int rfl (ev_tmp e19) (ev_tmp e21)) ⟨_, rfl, congrArg Value.bool (by decide), Below.refl _ _, hs⟩⟩
    · intro a' w' ha hs hw
      obtain ⟨v14, e14, q14⟩ := hw 14 (by kernel_rfl) _ _ _ rfl rfl rfl
      obtain rfl : v14 = Value.bool false := q14
      obtain ⟨v22, e22, q22⟩ := hw 22 (by kernel_rfl) _ _ _ rfl rfl rfl
      obtain rfl : v22 = Value.bool false := q22
      exact ⟨wanted_none rfl, wp_val (run_pick (b := false) rfl (ev_tmp e14) (ev_tmp e22)) ⟨_, rfl, rfl, Below.refl _ _, hs⟩⟩
    · intro a' w' ha hs hw
      obtain ⟨v23, e23, q23⟩ := hw 23 (by kernel_rfl) _ _ _ rfl rfl rfl
      obtain rfl : v23 = Value.bool false := q23
      exact ⟨wanted_none rfl, wp_val (run_move rfl (ev_tmp e23)) ⟨_, rfl, rfl, Below.refl _ _, hs⟩⟩
    · intro a' w' ha hs hw
      obtain ⟨v24, e24, q24⟩ := hw 24 (by kernel_rfl) _ _ _ rfl rfl rfl
      obtain rfl : v24 = Value.bool false := q24
      have eo8 : a'.tmps[8]? = some (Value.pointer (some ⟨ga, 0, none⟩)) := (ha.rest 8 (by kernel_rfl)).trans rfl
      exact ⟨wanted_some rfl rfl rfl e24, wp_val (run_load rfl (ev_tmp eo8) (BXa.out.next hs rfl)) ⟨_, rfl, rfl, Below.refl _ _, hs⟩⟩
    · intro a' w' ha hs hw
      obtain ⟨v24, e24, q24⟩ := hw 24 (by kernel_rfl) _ _ _ rfl rfl rfl
      obtain rfl : v24 = Value.bool false := q24
      have eo9 : a'.tmps[9]? = some (Value.pointer (some ⟨gb, 0, none⟩)) := (ha.rest 9 (by kernel_rfl)).trans rfl
      exact ⟨wanted_some rfl rfl rfl e24, wp_val (run_load rfl (ev_tmp eo9) (BXb.out.next hs rfl)) ⟨_, rfl, rfl, Below.refl _ _, hs⟩⟩
    · intro a' w' ha hs hw
      obtain ⟨v24, e24, q24⟩ := hw 24 (by kernel_rfl) _ _ _ rfl rfl rfl
      obtain rfl : v24 = Value.bool false := q24
      obtain ⟨v25, e25, q25⟩ := hw 25 (by kernel_rfl) _ _ _ rfl rfl rfl
      obtain rfl : v25 = .agg #[.bool sa, .slice Xa pa qa] := q25
      obtain ⟨v26, e26, q26⟩ := hw 26 (by kernel_rfl) _ _ _ rfl rfl rfl
      obtain rfl : v26 = .agg #[.bool sb, .slice Xb pb qb] := q26
      exact ⟨wanted_some rfl rfl rfl e24, call_step rfl Try.func28 (by kernel_rfl) rfl (map_two (ev_tmp e25) (ev_tmp e26)) (sub_any _ _ (za) (zb) _ (iv_next IVa.out hs rfl) (iv_next IVb.out hs rfl) (SZa.out.mono (by omega)) (SZb.out.mono (by omega))) (fun e w2 he => by obtain ⟨v, rfl, hv, hb⟩ := he; exact ⟨v, rfl, v, rfl, hv, hb, hs.trans (hb.mono hs.size)⟩)⟩
    · intro a' w' ha hs hw
      obtain ⟨v24, e24, q24⟩ := hw 24 (by kernel_rfl) _ _ _ rfl rfl rfl
      obtain rfl : v24 = Value.bool false := q24
      obtain ⟨v27, e27, q27⟩ := hw 27 (by kernel_rfl) _ _ _ rfl rfl rfl
      replace q27 : Iv w' v27 ((za) - (zb)) := q27
      exact ⟨wanted_some rfl rfl rfl e24, call_step rfl Try.func41 (by kernel_rfl) rfl (map_one (ev_tmp e27)) (sign_is _ ((za) - (zb)) (-1) _ q27 (SR8x27.out.mono (by omega)) (by unfold sg; split <;> first | omega | (split <;> omega))) (fun e w2 he => by obtain ⟨rfl, hb⟩ := he; exact ⟨_, rfl, _, rfl, rfl, hb, hs.trans (hb.mono hs.size)⟩)⟩
    · intro a' w' ha hs hw
      obtain ⟨v24, e24, q24⟩ := hw 24 (by kernel_rfl) _ _ _ rfl rfl rfl
      obtain rfl : v24 = Value.bool false := q24
      have eo11 : a'.tmps[11]? = some (Value.int IntKind.i64 (-1)) := (ha.rest 11 (by kernel_rfl)).trans rfl
      exact ⟨wanted_some rfl rfl rfl e24, wp_val (run_move rfl (ev_tmp eo11)) ⟨_, rfl, rfl, Below.refl _ _, hs⟩⟩
    · intro a' w' ha hs hw
      obtain ⟨v24, e24, q24⟩ := hw 24 (by kernel_rfl) _ _ _ rfl rfl rfl
      obtain rfl : v24 = Value.bool false := q24
      obtain ⟨v28, e28, q28⟩ := hw 28 (by kernel_rfl) _ _ _ rfl rfl rfl
      obtain rfl : v28 = Value.int IntKind.i64 (-1) := q28
      obtain ⟨v29, e29, q29⟩ := hw 29 (by kernel_rfl) _ _ _ rfl rfl rfl
      obtain rfl : v29 = Value.int IntKind.i64 (-1) := q29
      exact ⟨wanted_some rfl rfl rfl e24, wp_val (run_neq_int rfl (ev_tmp e28) (ev_tmp e29)) ⟨_, rfl, congrArg Value.bool (by decide), Below.refl _ _, hs⟩⟩
    · intro a' w' ha hs hw
      obtain ⟨v24, e24, q24⟩ := hw 24 (by kernel_rfl) _ _ _ rfl rfl rfl
      obtain rfl : v24 = Value.bool false := q24
      obtain ⟨v30, e30, q30⟩ := hw 30 (by kernel_rfl) _ _ _ rfl rfl rfl
      obtain rfl : v30 = Value.bool false := q30
      exact ⟨wanted_none rfl, wp_val (run_pick (b := false) rfl (ev_tmp e24) (ev_tmp e30)) ⟨_, rfl, rfl, Below.refl _ _, hs⟩⟩
  simp only [allK]
  intro r8x0 _ r8x1 _ r8x2 _
  simp only [setAll, List.set_cons_succ, List.set_cons_zero]
  refine hK _ _ ?_
  clear hK K
  clear SR8x16
  clear SR8x18
  clear SR8x27
  replace BXa := Lib.hid (BXa.out.next hs rfl); replace IVa := Lib.hid (iv_next IVa.out hs rfl)
  replace BXb := Lib.hid (BXb.out.next hs rfl); replace IVb := Lib.hid (iv_next IVb.out hs rfl)
  replace BXc := Lib.hid (BXc.out.next hs rfl); replace IVc := Lib.hid (iv_next IVc.out hs rfl)
  replace DW := Lib.hid (link_below DW.out hs (by have := DW.out.size; omega) rfl rfl rfl rfl)
  clear hs
  go_upto_region 10 with fail
  have u11a := BXb.out.cell0; have u11b := BXb.out.cell1
  have u12a := BXc.out.cell0; have u12b := BXc.out.cell1
  go_wp2_with fail
  clear u11a u11b u12a u12b
  refine (cmp_is _ _ (zb) (zc) (1) _ IVb.out IVc.out (SZb.out.mono (by omega)) (SZc.out.mono (by omega)) (by unfold cmpZ; split <;> first | omega | (split <;> omega))).mono ?_
  rintro e y13 ⟨rfl, hb⟩
  replace BXa := Lib.hid (BXa.out.next hb rfl); replace IVa := Lib.hid (iv_next IVa.out hb rfl)
  replace BXb := Lib.hid (BXb.out.next hb rfl); replace IVb := Lib.hid (iv_next IVb.out hb rfl)
  replace BXc := Lib.hid (BXc.out.next hb rfl); replace IVc := Lib.hid (iv_next IVc.out hb rfl)
  replace DW := Lib.hid (link_below DW.out hb (by have := DW.out.size; omega) rfl rfl rfl rfl)
  clear hb
  go_upto_region 12 with fail
  have SR12x4 : Hid (Sz ((za) + (zc)) 9) := (Sz.add (N := 8) (SZa.out.mono (by omega)) (SZc.out.mono (by omega)))
  have SR12x7 : Hid (Sz ((zb) + (zc)) 9) := (Sz.add (N := 8) (SZb.out.mono (by omega)) (SZc.out.mono (by omega)))
  have SR12x15 : Hid (Sz ((za) * (zc)) 16) := (Sz.mul SZa.out SZc.out)
  have SR12x18 : Hid (Sz ((zb) * (zc)) 16) := (Sz.mul SZb.out SZc.out)
  have SR12x28 : Hid (Sz (0) 2) := I64.sz ⟨by omega, by omega⟩
  refine region_run (fun w' => Below y13.heap.size y13 w') [.is (Value.bool true), .is (Value.bool true), .is (.agg #[.bool sa, .slice Xa pa qa]), .is (.agg #[.bool sc, .slice Xc pc qc]), .iv ((za) + (zc)), .is (.agg #[.bool sb, .slice Xb pb qb]), .is (.agg #[.bool sc, .slice Xc pc qc]), .iv ((zb) + (zc)), .is (Value.int IntKind.i64 (-1)), .is (Value.int IntKind.i64 (-1)), .is (Value.bool true), .is (Value.bool true), .is (Value.bool true), .is (.agg #[.bool sa, .slice Xa pa qa]), .is (.agg #[.bool sc, .slice Xc pc qc]), .iv ((za) * (zc)), .is (.agg #[.bool sb, .slice Xb pb qb]), .is (.agg #[.bool sc, .slice Xc pc qc]), .iv ((zb) * (zc)), .is (Value.int IntKind.i64 ((-1) * sg zc)), .is (Value.int IntKind.i64 (-1)), .is (.agg #[.bool sc, .slice Xc pc qc]), .is (Value.int IntKind.i64 (sg zc)), .is (Value.int IntKind.i64 ((-1) * sg zc)), .is (Value.bool true), .is (Value.bool true), .is (Value.bool true), .is (.agg #[.bool sa, .slice Xa pa qa]), .iv ((0 : Int)), .is (Value.int IntKind.i64 (sg za)), .is (.agg #[.bool sa, .slice Xa pa qa]), .is (Value.int IntKind.i64 (sg za)), .is (Value.bool true), .is (Value.bool true), .is (Value.bool true)] [70, 71, 72, 73, 74, 75, 76, 77, 78, 79, 80, 81, 82, 83, 84, 85, 86, 87, 88, 89, 90, 91, 92, 93, 94, 95, 96, 97, 98, 99, 100, 101, 102, 103, 6] (by kernel_rfl) (by kernel_rfl) (by kernel_rfl) (by rfl) (by kernel_rfl) ((Below.refl _ _).drew) (fun Q' => ?_) (fun K hK wn hs => ?_)
  · refine ⟨?_, ?_, ?_, ?_, ?_, ?_, ?_, ?_, ?_, ?_, ?_, ?_, ?_, ?_, ?_, ?_, ?_, ?_, ?_, ?_, ?_, ?_, ?_, ?_, ?_, ?_, ?_, ?_, ?_, ?_, ?_, ?_, ?_, ?_, ?_, trivial⟩
    · intro a' w' ha hs hw
      have eo7 : a'.tmps[7]? = some (Value.bool true) := (ha.rest 7 (by kernel_rfl)).trans rfl
      exact ⟨wanted_none rfl, wp_val (run_move rfl (ev_tmp eo7)) ⟨_, rfl, rfl, Below.refl _ _, hs⟩⟩
    · intro a' w' ha hs hw
      obtain ⟨v0, e0, q0⟩ := hw 0 (by kernel_rfl) _ _ _ rfl rfl rfl
      obtain rfl : v0 = Value.bool true := q0
      exact ⟨wanted_none rfl, wp_val (run_move rfl (ev_tmp e0)) ⟨_, rfl, rfl, Below.refl _ _, hs⟩⟩
    · intro a' w' ha hs hw
      obtain ⟨v1, e1, q1⟩ := hw 1 (by kernel_rfl) _ _ _ rfl rfl rfl
      obtain rfl : v1 = Value.bool true := q1
      have eo8 : a'.tmps[8]? = some (Value.pointer (some ⟨ga, 0, none⟩)) := (ha.rest 8 (by kernel_rfl)).trans rfl
      exact ⟨wanted_some rfl rfl rfl e1, wp_val (run_load rfl (ev_tmp eo8) (BXa.out.next hs rfl)) ⟨_, rfl, rfl, Below.refl _ _, hs⟩⟩
    · intro a' w' ha hs hw
      obtain ⟨v1, e1, q1⟩ := hw 1 (by kernel_rfl) _ _ _ rfl rfl rfl
      obtain rfl : v1 = Value.bool true := q1
      have eo10 : a'.tmps[10]? = some (Value.pointer (some ⟨gc, 0, none⟩)) := (ha.rest 10 (by kernel_rfl)).trans rfl
      exact ⟨wanted_some rfl rfl rfl e1, wp_val (run_load rfl (ev_tmp eo10) (BXc.out.next hs rfl)) ⟨_, rfl, rfl, Below.refl _ _, hs⟩⟩
    · intro a' w' ha hs hw
      obtain ⟨v1, e1, q1⟩ := hw 1 (by kernel_rfl) _ _ _ rfl rfl rfl
      obtain rfl : v1 = Value.bool true := q1
      obtain ⟨v2, e2, q2⟩ := hw 2 (by kernel_rfl) _ _ _ rfl rfl rfl
      obtain rfl : v2 = .agg #[.bool sa, .slice Xa pa qa] := q2
      obtain ⟨v3, e3, q3⟩ := hw 3 (by kernel_rfl) _ _ _ rfl rfl rfl
      obtain rfl : v3 = .agg #[.bool sc, .slice Xc pc qc] := q3
      exact ⟨wanted_some rfl rfl rfl e1, call_step rfl Try.func26 (by kernel_rfl) rfl (map_two (ev_tmp e2) (ev_tmp e3)) (add_any _ _ (za) (zc) _ (iv_next IVa.out hs rfl) (iv_next IVc.out hs rfl) (SZa.out.mono (by omega)) (SZc.out.mono (by omega))) (fun e w2 he => by obtain ⟨v, rfl, hv, hb⟩ := he; exact ⟨v, rfl, v, rfl, hv, hb, hs.trans (hb.mono hs.size)⟩)⟩
    · intro a' w' ha hs hw
      obtain ⟨v1, e1, q1⟩ := hw 1 (by kernel_rfl) _ _ _ rfl rfl rfl
      obtain rfl : v1 = Value.bool true := q1
      have eo9 : a'.tmps[9]? = some (Value.pointer (some ⟨gb, 0, none⟩)) := (ha.rest 9 (by kernel_rfl)).trans rfl
      exact ⟨wanted_some rfl rfl rfl e1, wp_val (run_load rfl (ev_tmp eo9) (BXb.out.next hs rfl)) ⟨_, rfl, rfl, Below.refl _ _, hs⟩⟩
    · intro a' w' ha hs hw
      obtain ⟨v1, e1, q1⟩ := hw 1 (by kernel_rfl) _ _ _ rfl rfl rfl
      obtain rfl : v1 = Value.bool true := q1
      have eo10 : a'.tmps[10]? = some (Value.pointer (some ⟨gc, 0, none⟩)) := (ha.rest 10 (by kernel_rfl)).trans rfl
      exact ⟨wanted_some rfl rfl rfl e1, wp_val (run_load rfl (ev_tmp eo10) (BXc.out.next hs rfl)) ⟨_, rfl, rfl, Below.refl _ _, hs⟩⟩
    · intro a' w' ha hs hw
      obtain ⟨v1, e1, q1⟩ := hw 1 (by kernel_rfl) _ _ _ rfl rfl rfl
      obtain rfl : v1 = Value.bool true := q1
      obtain ⟨v5, e5, q5⟩ := hw 5 (by kernel_rfl) _ _ _ rfl rfl rfl
      obtain rfl : v5 = .agg #[.bool sb, .slice Xb pb qb] := q5
      obtain ⟨v6, e6, q6⟩ := hw 6 (by kernel_rfl) _ _ _ rfl rfl rfl
      obtain rfl : v6 = .agg #[.bool sc, .slice Xc pc qc] := q6
      exact ⟨wanted_some rfl rfl rfl e1, call_step rfl Try.func26 (by kernel_rfl) rfl (map_two (ev_tmp e5) (ev_tmp e6)) (add_any _ _ (zb) (zc) _ (iv_next IVb.out hs rfl) (iv_next IVc.out hs rfl) (SZb.out.mono (by omega)) (SZc.out.mono (by omega))) (fun e w2 he => by obtain ⟨v, rfl, hv, hb⟩ := he; exact ⟨v, rfl, v, rfl, hv, hb, hs.trans (hb.mono hs.size)⟩)⟩
    · intro a' w' ha hs hw
      obtain ⟨v1, e1, q1⟩ := hw 1 (by kernel_rfl) _ _ _ rfl rfl rfl
      obtain rfl : v1 = Value.bool true := q1
      obtain ⟨v4, e4, q4⟩ := hw 4 (by kernel_rfl) _ _ _ rfl rfl rfl
      replace q4 : Iv w' v4 ((za) + (zc)) := q4
      obtain ⟨v7, e7, q7⟩ := hw 7 (by kernel_rfl) _ _ _ rfl rfl rfl
      replace q7 : Iv w' v7 ((zb) + (zc)) := q7
      exact ⟨wanted_some rfl rfl rfl e1, call_step rfl Try.func24 (by kernel_rfl) rfl (map_two (ev_tmp e4) (ev_tmp e7)) (cmp_is _ _ ((za) + (zc)) ((zb) + (zc)) (-1) _ q4 q7 (SR12x4.out.mono (by omega)) (SR12x7.out.mono (by omega)) (by unfold cmpZ; split <;> first | omega | (split <;> omega))) (fun e w2 he => by obtain ⟨rfl, hb⟩ := he; exact ⟨_, rfl, _, rfl, rfl, hb, hs.trans (hb.mono hs.size)⟩)⟩
    · intro a' w' ha hs hw
      obtain ⟨v1, e1, q1⟩ := hw 1 (by kernel_rfl) _ _ _ rfl rfl rfl
      obtain rfl : v1 = Value.bool true := q1
      have eo11 : a'.tmps[11]? = some (Value.int IntKind.i64 (-1)) := (ha.rest 11 (by kernel_rfl)).trans rfl
      exact ⟨wanted_some rfl rfl rfl e1, wp_val (run_move rfl (ev_tmp eo11)) ⟨_, rfl, rfl, Below.refl _ _, hs⟩⟩
    · intro a' w' ha hs hw
      obtain ⟨v1, e1, q1⟩ := hw 1 (by kernel_rfl) _ _ _ rfl rfl rfl
      obtain rfl : v1 = Value.bool true := q1
      obtain ⟨v8, e8, q8⟩ := hw 8 (by kernel_rfl) _ _ _ rfl rfl rfl
      obtain rfl : v8 = Value.int IntKind.i64 (-1) := q8
      obtain ⟨v9, e9, q9⟩ := hw 9 (by kernel_rfl) _ _ _ rfl rfl rfl
      obtain rfl : v9 = Value.int IntKind.i64 (-1) := q9
      exact ⟨wanted_some rfl rfl rfl e1, wp_val (run_eql_int rfl (ev_tmp e8) (ev_tmp e9)) ⟨_, rfl, congrArg Value.bool (by decide), Below.refl _ _, hs⟩⟩
    · intro a' w' ha hs hw
      obtain ⟨v1, e1, q1⟩ := hw 1 (by kernel_rfl) _ _ _ rfl rfl rfl
      obtain rfl : v1 = Value.bool true := q1
      obtain ⟨v10, e10, q10⟩ := hw 10 (by kernel_rfl) _ _ _ rfl rfl rfl
      obtain rfl : v10 = Value.bool true := q10
      exact ⟨wanted_none rfl, wp_val (run_pick (b := true) rfl (ev_tmp e1) (ev_tmp e10)) ⟨_, rfl, rfl, Below.refl _ _, hs⟩⟩
    · intro a' w' ha hs hw
      obtain ⟨v11, e11, q11⟩ := hw 11 (by kernel_rfl) _ _ _ rfl rfl rfl
      obtain rfl : v11 = Value.bool true := q11
      exact ⟨wanted_none rfl, wp_val (run_move rfl (ev_tmp e11)) ⟨_, rfl, rfl, Below.refl _ _, hs⟩⟩
    · intro a' w' ha hs hw
      obtain ⟨v12, e12, q12⟩ := hw 12 (by kernel_rfl) _ _ _ rfl rfl rfl
      obtain rfl : v12 = Value.bool true := q12
      have eo8 : a'.tmps[8]? = some (Value.pointer (some ⟨ga, 0, none⟩)) := (ha.rest 8 (by kernel_rfl)).trans rfl
      exact ⟨wanted_some rfl rfl rfl e12, wp_val (run_load rfl (ev_tmp eo8) (BXa.out.next hs rfl)) ⟨_, rfl, rfl, Below.refl _ _, hs⟩⟩
    · intro a' w' ha hs hw
      obtain ⟨v12, e12, q12⟩ := hw 12 (by kernel_rfl) _ _ _ rfl rfl rfl
      obtain rfl : v12 = Value.bool true := q12
      have eo10 : a'.tmps[10]? = some (Value.pointer (some ⟨gc, 0, none⟩)) := (ha.rest 10 (by kernel_rfl)).trans rfl
      exact ⟨wanted_some rfl rfl rfl e12, wp_val (run_load rfl (ev_tmp eo10) (BXc.out.next hs rfl)) ⟨_, rfl, rfl, Below.refl _ _, hs⟩⟩
    · intro a' w' ha hs hw
      obtain ⟨v12, e12, q12⟩ := hw 12 (by kernel_rfl) _ _ _ rfl rfl rfl
      obtain rfl : v12 = Value.bool true := q12
      obtain ⟨v13, e13, q13⟩ := hw 13 (by kernel_rfl) _ _ _ rfl rfl rfl
      obtain rfl : v13 = .agg #[.bool sa, .slice Xa pa qa] := q13
      obtain ⟨v14, e14, q14⟩ := hw 14 (by kernel_rfl) _ _ _ rfl rfl rfl
      obtain rfl : v14 = .agg #[.bool sc, .slice Xc pc qc] := q14
      exact ⟨wanted_some rfl rfl rfl e12, call_step rfl Try.func30 (by kernel_rfl) rfl (map_two (ev_tmp e13) (ev_tmp e14)) (mul_any _ _ (za) (zc) _ (iv_next IVa.out hs rfl) (iv_next IVc.out hs rfl) (SZa.out.mono (by omega)) (SZc.out.mono (by omega))) (fun e w2 he => by obtain ⟨v, rfl, hv, hb⟩ := he; exact ⟨v, rfl, v, rfl, hv, hb, hs.trans (hb.mono hs.size)⟩)⟩
    · intro a' w' ha hs hw
      obtain ⟨v12, e12, q12⟩ := hw 12 (by kernel_rfl) _ _ _ rfl rfl rfl
      obtain rfl : v12 = Value.bool true := q12
      have eo9 : a'.tmps[9]? = some (Value.pointer (some ⟨gb, 0, none⟩)) := (ha.rest 9 (by kernel_rfl)).trans rfl
      exact ⟨wanted_some rfl rfl rfl e12, wp_val (run_load rfl (ev_tmp eo9) (BXb.out.next hs rfl)) ⟨_, rfl, rfl, Below.refl _ _, hs⟩⟩
    · intro a' w' ha hs hw
      obtain ⟨v12, e12, q12⟩ := hw 12 (by kernel_rfl) _ _ _ rfl rfl rfl
      obtain rfl : v12 = Value.bool true := q12
      have eo10 : a'.tmps[10]? = some (Value.pointer (some ⟨gc, 0, none⟩)) := (ha.rest 10 (by kernel_rfl)).trans rfl
      exact ⟨wanted_some rfl rfl rfl e12, wp_val (run_load rfl (ev_tmp eo10) (BXc.out.next hs rfl)) ⟨_, rfl, rfl, Below.refl _ _, hs⟩⟩
    · intro a' w' ha hs hw
      obtain ⟨v12, e12, q12⟩ := hw 12 (by kernel_rfl) _ _ _ rfl rfl rfl
      obtain rfl : v12 = Value.bool true := q12
      obtain ⟨v16, e16, q16⟩ := hw 16 (by kernel_rfl) _ _ _ rfl rfl rfl
      obtain rfl : v16 = .agg #[.bool sb, .slice Xb pb qb] := q16
      obtain ⟨v17, e17, q17⟩ := hw 17 (by kernel_rfl) _ _ _ rfl rfl rfl
      obtain rfl : v17 = .agg #[.bool sc, .slice Xc pc qc] := q17
      exact ⟨wanted_some rfl rfl rfl e12, call_step rfl Try.func30 (by kernel_rfl) rfl (map_two (ev_tmp e16) (ev_tmp e17)) (mul_any _ _ (zb) (zc) _ (iv_next IVb.out hs rfl) (iv_next IVc.out hs rfl) (SZb.out.mono (by omega)) (SZc.out.mono (by omega))) (fun e w2 he => by obtain ⟨v, rfl, hv, hb⟩ := he; exact ⟨v, rfl, v, rfl, hv, hb, hs.trans (hb.mono hs.size)⟩)⟩
    · intro a' w' ha hs hw
      obtain ⟨v12, e12, q12⟩ := hw 12 (by kernel_rfl) _ _ _ rfl rfl rfl
      obtain rfl : v12 = Value.bool true := q12
      obtain ⟨v15, e15, q15⟩ := hw 15 (by kernel_rfl) _ _ _ rfl rfl rfl
      replace q15 : Iv w' v15 ((za) * (zc)) := q15
      obtain ⟨v18, e18, q18⟩ := hw 18 (by kernel_rfl) _ _ _ rfl rfl rfl
      replace q18 : Iv w' v18 ((zb) * (zc)) := q18
      exact ⟨wanted_some rfl rfl rfl e12, call_step rfl Try.func24 (by kernel_rfl) rfl (map_two (ev_tmp e15) (ev_tmp e18)) (cmp_is _ _ ((za) * (zc)) ((zb) * (zc)) ((-1) * sg zc) _ q15 q18 (SR12x15.out.mono (by omega)) (SR12x18.out.mono (by omega)) (cmp_mul zc (by unfold cmpZ; split <;> first | omega | (split <;> omega)))) (fun e w2 he => by obtain ⟨rfl, hb⟩ := he; exact ⟨_, rfl, _, rfl, rfl, hb, hs.trans (hb.mono hs.size)⟩)⟩
    · intro a' w' ha hs hw
      obtain ⟨v12, e12, q12⟩ := hw 12 (by kernel_rfl) _ _ _ rfl rfl rfl
      obtain rfl : v12 = Value.bool true := q12
      have eo11 : a'.tmps[11]? = some (Value.int IntKind.i64 (-1)) := (ha.rest 11 (by kernel_rfl)).trans rfl
      exact ⟨wanted_some rfl rfl rfl e12, wp_val (run_move rfl (ev_tmp eo11)) ⟨_, rfl, rfl, Below.refl _ _, hs⟩⟩
    · intro a' w' ha hs hw
      obtain ⟨v12, e12, q12⟩ := hw 12 (by kernel_rfl) _ _ _ rfl rfl rfl
      obtain rfl : v12 = Value.bool true := q12
      have eo10 : a'.tmps[10]? = some (Value.pointer (some ⟨gc, 0, none⟩)) := (ha.rest 10 (by kernel_rfl)).trans rfl
      exact ⟨wanted_some rfl rfl rfl e12, wp_val (run_load rfl (ev_tmp eo10) (BXc.out.next hs rfl)) ⟨_, rfl, rfl, Below.refl _ _, hs⟩⟩
    · intro a' w' ha hs hw
      obtain ⟨v12, e12, q12⟩ := hw 12 (by kernel_rfl) _ _ _ rfl rfl rfl
      obtain rfl : v12 = Value.bool true := q12
      obtain ⟨v21, e21, q21⟩ := hw 21 (by kernel_rfl) _ _ _ rfl rfl rfl
      obtain rfl : v21 = .agg #[.bool sc, .slice Xc pc qc] := q21
      exact ⟨wanted_some rfl rfl rfl e12, call_step rfl Try.func41 (by kernel_rfl) rfl (map_one (ev_tmp e21)) (sign_is _ (zc) (sg zc) _ (iv_next IVc.out hs rfl) (SZc.out.mono (by omega)) (rfl)) (fun e w2 he => by obtain ⟨rfl, hb⟩ := he; exact ⟨_, rfl, _, rfl, rfl, hb, hs.trans (hb.mono hs.size)⟩)⟩
    · intro a' w' ha hs hw
      obtain ⟨v12, e12, q12⟩ := hw 12 (by kernel_rfl) _ _ _ rfl rfl rfl
      obtain rfl : v12 = Value.bool true := q12
      obtain ⟨v20, e20, q20⟩ := hw 20 (by kernel_rfl) _ _ _ rfl rfl rfl
      obtain rfl : v20 = Value.int IntKind.i64 (-1) := q20
      obtain ⟨v22, e22, q22⟩ := hw 22 (by kernel_rfl) _ _ _ rfl rfl rfl
      obtain rfl : v22 = Value.int IntKind.i64 (sg zc) := q22
      exact ⟨wanted_some rfl rfl rfl e12, wp_val (run_mul_i64 rfl (ev_tmp e20) (ev_tmp e22) (wrap_sg (by omega) (by omega))) ⟨_, rfl, rfl, Below.refl _ _, hs⟩⟩
    · intro a' w' ha hs hw
      obtain ⟨v12, e12, q12⟩ := hw 12 (by kernel_rfl) _ _ _ rfl rfl rfl
      obtain rfl : v12 = Value.bool true := q12
      obtain ⟨v19, e19, q19⟩ := hw 19 (by kernel_rfl) _ _ _ rfl rfl rfl
      obtain rfl : v19 = Value.int IntKind.i64 ((-1) * sg zc) := q19
      obtain ⟨v23, e23, q23⟩ := hw 23 (by kernel_rfl) _ _ _ rfl rfl rfl
      obtain rfl : v23 = Value.int IntKind.i64 ((-1) * sg zc) := q23
      exact ⟨wanted_some rfl rfl rfl e12, wp_val ((show _ = _ from by rw [run_eql_int rfl (ev_tmp e19) (ev_tmp e23)]; simp)) ⟨_, rfl, rfl, Below.refl _ _, hs⟩⟩
    · intro a' w' ha hs hw
      obtain ⟨v12, e12, q12⟩ := hw 12 (by kernel_rfl) _ _ _ rfl rfl rfl
      obtain rfl : v12 = Value.bool true := q12
      obtain ⟨v24, e24, q24⟩ := hw 24 (by kernel_rfl) _ _ _ rfl rfl rfl
      obtain rfl : v24 = Value.bool true := q24
      exact ⟨wanted_none rfl, wp_val (run_pick (b := true) rfl (ev_tmp e12) (ev_tmp e24)) ⟨_, rfl, rfl, Below.refl _ _, hs⟩⟩
    · intro a' w' ha hs hw
      obtain ⟨v25, e25, q25⟩ := hw 25 (by kernel_rfl) _ _ _ rfl rfl rfl
      obtain rfl : v25 = Value.bool true := q25
      exact ⟨wanted_none rfl, wp_val (run_move rfl (ev_tmp e25)) ⟨_, rfl, rfl, Below.refl _ _, hs⟩⟩
    · intro a' w' ha hs hw
      obtain ⟨v26, e26, q26⟩ := hw 26 (by kernel_rfl) _ _ _ rfl rfl rfl
      obtain rfl : v26 = Value.bool true := q26
      have eo8 : a'.tmps[8]? = some (Value.pointer (some ⟨ga, 0, none⟩)) := (ha.rest 8 (by kernel_rfl)).trans rfl
      exact ⟨wanted_some rfl rfl rfl e26, wp_val (run_load rfl (ev_tmp eo8) (BXa.out.next hs rfl)) ⟨_, rfl, rfl, Below.refl _ _, hs⟩⟩
    · intro a' w' ha hs hw
      obtain ⟨v26, e26, q26⟩ := hw 26 (by kernel_rfl) _ _ _ rfl rfl rfl
      obtain rfl : v26 = Value.bool true := q26
      exact ⟨wanted_some rfl rfl rfl e26, call_step rfl Try.func40 (by kernel_rfl) rfl (map_one rfl) (lof_any (0) _ (by omega) (by omega)) (fun e w2 he => by obtain ⟨v, rfl, hv, hb⟩ := he; exact ⟨v, rfl, v, rfl, hv, hb, hs.trans (hb.mono hs.size)⟩)⟩
    · intro a' w' ha hs hw
      obtain ⟨v26, e26, q26⟩ := hw 26 (by kernel_rfl) _ _ _ rfl rfl rfl
      obtain rfl : v26 = Value.bool true := q26
      obtain ⟨v27, e27, q27⟩ := hw 27 (by kernel_rfl) _ _ _ rfl rfl rfl
      obtain rfl : v27 = .agg #[.bool sa, .slice Xa pa qa] := q27
      obtain ⟨v28, e28, q28⟩ := hw 28 (by kernel_rfl) _ _ _ rfl rfl rfl
      replace q28 : Iv w' v28 ((0 : Int)) := q28
      exact ⟨wanted_some rfl rfl rfl e26, call_step rfl Try.func24 (by kernel_rfl) rfl (map_two (ev_tmp e27) (ev_tmp e28)) (cmp_is _ _ (za) ((0 : Int)) (sg za) _ (iv_next IVa.out hs rfl) q28 (SZa.out.mono (by omega)) (SR12x28.out.mono (by omega)) (cmpZ_zero za)) (fun e w2 he => by obtain ⟨rfl, hb⟩ := he; exact ⟨_, rfl, _, rfl, rfl, hb, hs.trans (hb.mono hs.size)⟩)⟩
    · intro a' w' ha hs hw
      obtain ⟨v26, e26, q26⟩ := hw 26 (by kernel_rfl) _ _ _ rfl rfl rfl
      obtain rfl : v26 = Value.bool true := q26
      have eo8 : a'.tmps[8]? = some (Value.pointer (some ⟨ga, 0, none⟩)) := (ha.rest 8 (by kernel_rfl)).trans rfl
      exact ⟨wanted_some rfl rfl rfl e26, wp_val (run_load rfl (ev_tmp eo8) (BXa.out.next hs rfl)) ⟨_, rfl, rfl, Below.refl _ _, hs⟩⟩
    · intro a' w' ha hs hw
      obtain ⟨v26, e26, q26⟩ := hw 26 (by kernel_rfl) _ _ _ rfl rfl rfl
      obtain rfl : v26 = Value.bool true := q26
      obtain ⟨v30, e30, q30⟩ := hw 30 (by kernel_rfl) _ _ _ rfl rfl rfl
      obtain rfl : v30 = .agg #[.bool sa, .slice Xa pa qa] := q30
      exact ⟨wanted_some rfl rfl rfl e26, call_step rfl Try.func41 (by kernel_rfl) rfl (map_one (ev_tmp e30)) (sign_is _ (za) (sg za) _ (iv_next IVa.out hs rfl) (SZa.out.mono (by omega)) (rfl)) (fun e w2 he => by obtain ⟨rfl, hb⟩ := he; exact ⟨_, rfl, _, rfl, rfl, hb, hs.trans (hb.mono hs.size)⟩)⟩
    · intro a' w' ha hs hw
      obtain ⟨v26, e26, q26⟩ := hw 26 (by kernel_rfl) _ _ _ rfl rfl rfl
      obtain rfl : v26 = Value.bool true := q26
      obtain ⟨v29, e29, q29⟩ := hw 29 (by kernel_rfl) _ _ _ rfl rfl rfl
      obtain rfl : v29 = Value.int IntKind.i64 (sg za) := q29
      obtain ⟨v31, e31, q31⟩ := hw 31 (by kernel_rfl) _ _ _ rfl rfl rfl
      obtain rfl : v31 = Value.int IntKind.i64 (sg za) := q31
      exact ⟨wanted_some rfl rfl rfl e26, wp_val ((show _ = _ from by rw [run_eql_int rfl (ev_tmp e29) (ev_tmp e31)]; simp)) ⟨_, rfl, rfl, Below.refl _ _, hs⟩⟩
    · intro a' w' ha hs hw
      obtain ⟨v26, e26, q26⟩ := hw 26 (by kernel_rfl) _ _ _ rfl rfl rfl
      obtain rfl : v26 = Value.bool true := q26
      obtain ⟨v32, e32, q32⟩ := hw 32 (by kernel_rfl) _ _ _ rfl rfl rfl
      obtain rfl : v32 = Value.bool true := q32
      exact ⟨wanted_none rfl, wp_val (run_pick (b := true) rfl (ev_tmp e26) (ev_tmp e32)) ⟨_, rfl, rfl, Below.refl _ _, hs⟩⟩
    · intro a' w' ha hs hw
      obtain ⟨v33, e33, q33⟩ := hw 33 (by kernel_rfl) _ _ _ rfl rfl rfl
      obtain rfl : v33 = Value.bool true := q33
      exact ⟨wanted_none rfl, wp_val (run_assign rfl (ev_tmp e33)) ⟨_, rfl, rfl, Below.refl _ _, hs⟩⟩
  simp only [allK]
  intro r12x0 _ r12x1 _ r12x2 _ r12x3 _ r12x4 _
  simp only [setAll, List.set_cons_succ, List.set_cons_zero]
  refine hK _ _ ?_
  clear hK K
  clear SR12x4
  clear SR12x7
  clear SR12x15
  clear SR12x18
  clear SR12x28
  replace BXa := Lib.hid (BXa.out.next hs rfl); replace IVa := Lib.hid (iv_next IVa.out hs rfl)
  replace BXb := Lib.hid (BXb.out.next hs rfl); replace IVb := Lib.hid (iv_next IVb.out hs rfl)
  replace BXc := Lib.hid (BXc.out.next hs rfl); replace IVc := Lib.hid (iv_next IVc.out hs rfl)
  replace DW := Lib.hid (link_below DW.out hs (by have := DW.out.size; omega) rfl rfl rfl rfl)
  clear hs
  go_wp2
  go_ret
  exact ⟨by simp, by rw [hg]; exact DW.out⟩

set_option maxHeartbeats 16000000 in
set_option maxRecDepth 100000 in
theorem lawOrderD_any (b0 : Bool) (A0 : Option Addr) (n0 c0 : Nat) (ws0 : List Nat) (b1 : Bool) (A1 : Option Addr) (n1 c1 : Nat) (ws1 : List Nat) (b2 : Bool) (A2 : Option Addr) (n2 c2 : Nat) (ws2 : List Nat)  (w : World) (h0 : Wd w A0 n0 ws0) (m0 : n0 ≤ 9223372036854775807) (h1 : Wd w A1 n1 ws1) (m1 : n1 ≤ 9223372036854775807) (h2 : Wd w A2 n2 ws2) (m2 : n2 ≤ 9223372036854775807) (hx0 : sgn b0 (val (ws0.take 8)) = sgn b1 (val (ws1.take 8))) :
    Calls Try.prog 6 #[.agg #[.bool b0, .slice A0 n0 c0], .agg #[.bool b1, .slice A1 n1 c1], .agg #[.bool b2, .slice A2 n2 c2]] w fun e w' => e = .returned (.bool true) ∧ Below w.heap.size w w' := by
  obtain ⟨za, hza⟩ : ∃ z, z = sgn b0 (val (ws0.take 8)) := ⟨_, rfl⟩
  have SZa : Hid (Sz za 8) := by rw [hza]; exact sz_take _ _ _ h0.wds
  obtain ⟨zb, hzb⟩ : ∃ z, z = sgn b1 (val (ws1.take 8)) := ⟨_, rfl⟩
  have SZb : Hid (Sz zb 8) := by rw [hzb]; exact sz_take _ _ _ h1.wds
  obtain ⟨zc, hzc⟩ : ∃ z, z = sgn b2 (val (ws2.take 8)) := ⟨_, rfl⟩
  have SZc : Hid (Sz zc 8) := by rw [hzc]; exact sz_take _ _ _ h2.wds
  simp only [← hza, ← hzb, ← hzc] at hx0
  go_enter Try.func6, Try.ntmps6
  go_wp2_with fail
  obtain ⟨W, hW⟩ : ∃ W, W = (((w.alloc (Obj.cells #[Value.bool b0, Value.slice A0 n0 c0] 24)).alloc (Obj.cells #[Value.bool b1, Value.slice A1 n1 c1] 24)).alloc (Obj.cells #[Value.bool b2, Value.slice A2 n2 c2] 24)) := ⟨_, rfl⟩
  rw [← hW]
  have RX0 : Hid (RBox W (w.heap.size) b0 (.slice A0 n0 c0)) := by rw [hW]; have := ((RBox.new w b0 (.slice A0 n0 c0)).alloc (Obj.cells #[Value.bool b1, Value.slice A1 n1 c1] 24)).alloc (Obj.cells #[Value.bool b2, Value.slice A2 n2 c2] 24); simpa [Hid] using this
  have RW0 : Hid (Wd W A0 n0 ws0) := by rw [hW]; exact (((h0).alloc _).alloc _).alloc _
  have RX1 : Hid (RBox W (w.heap.size + 1) b1 (.slice A1 n1 c1)) := by rw [hW]; have := (RBox.new (w.alloc (Obj.cells #[Value.bool b0, Value.slice A0 n0 c0] 24)) b1 (.slice A1 n1 c1)).alloc (Obj.cells #[Value.bool b2, Value.slice A2 n2 c2] 24); simpa [Hid] using this
  have RW1 : Hid (Wd W A1 n1 ws1) := by rw [hW]; exact (((h1).alloc _).alloc _).alloc _
  have RX2 : Hid (RBox W (w.heap.size + 1 + 1) b2 (.slice A2 n2 c2)) := by rw [hW]; have := RBox.new ((w.alloc (Obj.cells #[Value.bool b0, Value.slice A0 n0 c0] 24)).alloc (Obj.cells #[Value.bool b1, Value.slice A1 n1 c1] 24)) b2 (.slice A2 n2 c2); simpa [Hid] using this
  have RW2 : Hid (Wd W A2 n2 ws2) := by rw [hW]; exact (((h2).alloc _).alloc _).alloc _
  have DW : Hid (Below w.heap.size w W) := by rw [hW]; exact (((Below.refl _ _).alloc (by simp <;> omega) _).alloc (by simp <;> omega) _).alloc (by simp <;> omega) _
  clear hW h0 h1 h2
  generalize hg : w.heap.size = g at *
  refine (sanity_any _).mono ?_
  rintro e w1 ⟨rfl, hb1⟩
  replace RX0 := Lib.hid (RX0.out.next hb1 rfl); replace RW0 := Lib.hid (RW0.out.next hb1 rfl)
  replace RX1 := Lib.hid (RX1.out.next hb1 rfl); replace RW1 := Lib.hid (RW1.out.next hb1 rfl)
  replace RX2 := Lib.hid (RX2.out.next hb1 rfl); replace RW2 := Lib.hid (RW2.out.next hb1 rfl)
  replace DW := Lib.hid (link_below DW.out hb1 (by have := DW.out.size; omega) rfl rfl rfl rfl)
  clear hb1
  have u1 := RX0.out.cell0; have u2 := RX0.out.cell1
  go_wp2_with fail
  clear u1 u2
  refine (rmade_raw b0 A0 n0 c0 8 8 ws0 _ RW0.out rfl (by omega) m0).mono ?_
  rw [← hza]
  rintro e y1 ⟨_, rfl, hq, hb⟩
  clear RX0 RW0
  obtain ⟨Xa, pa, qa, rfl, _, _, _⟩ := hq.form
  have Q := Lib.hid hq; have B := Lib.hid hb; clear hq hb
  generalize hs : decide ((za : Int) < 0) = sa at *
  clear hs
  go_upto_region 5 with fail
  obtain ⟨W2, hW⟩ : ∃ W2, W2 = y1.alloc (Obj.cells #[Value.bool sa, Value.slice Xa pa qa] 27) := ⟨_, rfl⟩
  rw [← hW]
  have BXa : Hid (Box W2 y1.heap.size sa (.slice Xa pa qa)) := by rw [hW]; exact Box.new _ _ _
  have IVa : Hid (Iv W2 (.agg #[.bool sa, .slice Xa pa qa]) (za)) := by rw [hW]; exact Q.out.alloc _
  have hd : Below w1.heap.size w1 W2 := by rw [hW]; exact B.out.alloc B.out.size _
  clear hW Q B
  generalize hgn : y1.heap.size = ga at *
  clear hgn
  replace RX1 := Lib.hid (RX1.out.next hd rfl); replace RW1 := Lib.hid (RW1.out.next hd rfl)
  replace RX2 := Lib.hid (RX2.out.next hd rfl); replace RW2 := Lib.hid (RW2.out.next hd rfl)
  replace DW := Lib.hid (link_below DW.out hd (by have := DW.out.size; omega) rfl rfl rfl rfl)
  clear hd
  have u1 := RX1.out.cell0; have u2 := RX1.out.cell1
  go_wp2_with fail
  clear u1 u2
  refine (rmade_raw b1 A1 n1 c1 8 8 ws1 _ RW1.out rfl (by omega) m1).mono ?_
  rw [← hzb]
  rintro e y3 ⟨_, rfl, hq, hb⟩
  clear RX1 RW1
  obtain ⟨Xb, pb, qb, rfl, _, _, _⟩ := hq.form
  have Q := Lib.hid hq; have B := Lib.hid hb; clear hq hb
  generalize hs : decide ((zb : Int) < 0) = sb at *
  clear hs
  go_upto_region 6 with fail
  obtain ⟨W4, hW⟩ : ∃ W4, W4 = y3.alloc (Obj.cells #[Value.bool sb, Value.slice Xb pb qb] 27) := ⟨_, rfl⟩
  rw [← hW]
  have BXb : Hid (Box W4 y3.heap.size sb (.slice Xb pb qb)) := by rw [hW]; exact Box.new _ _ _
  have IVb : Hid (Iv W4 (.agg #[.bool sb, .slice Xb pb qb]) (zb)) := by rw [hW]; exact Q.out.alloc _
  have hd : Below W2.heap.size W2 W4 := by rw [hW]; exact B.out.alloc B.out.size _
  clear hW Q B
  generalize hgn : y3.heap.size = gb at *
  clear hgn
  replace BXa := Lib.hid (BXa.out.next hd rfl); replace IVa := Lib.hid (iv_next IVa.out hd rfl)
  replace RX2 := Lib.hid (RX2.out.next hd rfl); replace RW2 := Lib.hid (RW2.out.next hd rfl)
  replace DW := Lib.hid (link_below DW.out hd (by have := DW.out.size; omega) rfl rfl rfl rfl)
  clear hd
  have u1 := RX2.out.cell0; have u2 := RX2.out.cell1
  go_wp2_with fail
  clear u1 u2
  refine (rmade_raw b2 A2 n2 c2 8 8 ws2 _ RW2.out rfl (by omega) m2).mono ?_
  rw [← hzc]
  rintro e y5 ⟨_, rfl, hq, hb⟩
  clear RX2 RW2
  obtain ⟨Xc, pc, qc, rfl, _, _, _⟩ := hq.form
  have Q := Lib.hid hq; have B := Lib.hid hb; clear hq hb
  generalize hs : decide ((zc : Int) < 0) = sc at *
  clear hs
  go_upto_region 7 with fail
  obtain ⟨W6, hW⟩ : ∃ W6, W6 = y5.alloc (Obj.cells #[Value.bool sc, Value.slice Xc pc qc] 27) := ⟨_, rfl⟩
  rw [← hW]
  have BXc : Hid (Box W6 y5.heap.size sc (.slice Xc pc qc)) := by rw [hW]; exact Box.new _ _ _
  have IVc : Hid (Iv W6 (.agg #[.bool sc, .slice Xc pc qc]) (zc)) := by rw [hW]; exact Q.out.alloc _
  have hd : Below W4.heap.size W4 W6 := by rw [hW]; exact B.out.alloc B.out.size _
  clear hW Q B
  generalize hgn : y5.heap.size = gc at *
  clear hgn
  replace BXa := Lib.hid (BXa.out.next hd rfl); replace IVa := Lib.hid (iv_next IVa.out hd rfl)
  replace BXb := Lib.hid (BXb.out.next hd rfl); replace IVb := Lib.hid (iv_next IVb.out hd rfl)
  replace DW := Lib.hid (link_below DW.out hd (by have := DW.out.size; omega) rfl rfl rfl rfl)
  clear hd
  have u7a := BXa.out.cell0; have u7b := BXa.out.cell1
  have u8a := BXb.out.cell0; have u8b := BXb.out.cell1
  go_wp2_with fail
  clear u7a u7b u8a u8b
  refine (cmp_is _ _ (za) (zb) (0) _ IVa.out IVb.out (SZa.out.mono (by omega)) (SZb.out.mono (by omega)) (by unfold cmpZ; split <;> first | omega | (split <;> omega))).mono ?_
  rintro e y9 ⟨rfl, hb⟩
  replace BXa := Lib.hid (BXa.out.next hb rfl); replace IVa := Lib.hid (iv_next IVa.out hb rfl)
  replace BXb := Lib.hid (BXb.out.next hb rfl); replace IVb := Lib.hid (iv_next IVb.out hb rfl)
  replace BXc := Lib.hid (BXc.out.next hb rfl); replace IVc := Lib.hid (iv_next IVc.out hb rfl)
  replace DW := Lib.hid (link_below DW.out hb (by have := DW.out.size; omega) rfl rfl rfl rfl)
  clear hb
  go_upto_region 8 with fail
  have SR8x16 : Hid (Sz (-(za)) 8) := (Sz.neg SZa.out)
  have SR8x18 : Hid (Sz (-(zb)) 8) := (Sz.neg SZb.out)
  have SR8x27 : Hid (Sz ((za) - (zb)) 9) := (Sz.sub (N := 8) (SZa.out.mono (by omega)) (SZb.out.mono (by omega)))
  refine region_run (fun w' => Below y9.heap.size y9 w') [.is (Value.int IntKind.i64 (0)), .is (Value.bool false), .is (Value.bool false), .is (Value.int IntKind.i64 (0)), .is (Value.bool false), .is (Value.bool false), .is (Value.bool false), .is (.agg #[.bool sb, .slice Xb pb qb]), .is (.agg #[.bool sa, .slice Xa pa qa]), .is (Value.int IntKind.i64 (0)), .is (Value.int IntKind.i64 (0)), .is (Value.int IntKind.i64 (0)), .is (Value.bool false), .is (Value.bool false), .is (Value.bool false), .is (.agg #[.bool sa, .slice Xa pa qa]), .iv (-(za)), .is (.agg #[.bool sb, .slice Xb pb qb]), .iv (-(zb)), .is (Value.int IntKind.i64 (0)), .is (Value.int IntKind.i64 (0)), .is (Value.int IntKind.i64 (0)), .is (Value.bool false), .is (Value.bool false), .is (Value.bool false), .is (.agg #[.bool sa, .slice Xa pa qa]), .is (.agg #[.bool sb, .slice Xb pb qb]), .iv ((za) - (zb)), .is (Value.int IntKind.i64 (0)), .is (Value.int IntKind.i64 (0)), .is (Value.bool false), .is (Value.bool false)] [24, 25, 26, 27, 28, 29, 30, 31, 32, 33, 34, 35, 36, 37, 38, 39, 40, 41, 42, 43, 44, 45, 46, 47, 48, 49, 50, 51, 52, 53, 54, 55] (by kernel_rfl) (by kernel_rfl) (by kernel_rfl) (by rfl) (by kernel_rfl) ((Below.refl _ _).drew) (fun Q' => ?_) (fun K hK wn hs => ?_)
  · refine ⟨?_, ?_, ?_, ?_, ?_, ?_, ?_, ?_, ?_, ?_, ?_, ?_, ?_, ?_, ?_, ?_, ?_, ?_, ?_, ?_, ?_, ?_, ?_, ?_, ?_, ?_, ?_, ?_, ?_, ?_, ?_, ?_, trivial⟩
    · intro a' w' ha hs hw
      have eo11 : a'.tmps[11]? = some (Value.int IntKind.i64 (0)) := (ha.rest 11 (by kernel_rfl)).trans rfl
      exact ⟨wanted_none rfl, wp_val (run_move rfl (ev_tmp eo11)) ⟨_, rfl, rfl, Below.refl _ _, hs⟩⟩
    · intro a' w' ha hs hw
      obtain ⟨v0, e0, q0⟩ := hw 0 (by kernel_rfl) _ _ _ rfl rfl rfl
      obtain rfl : v0 = Value.int IntKind.i64 (0) := q0
      exact ⟨wanted_none rfl, wp_val (run_lss_int rfl (ev_tmp e0) rfl) ⟨_, rfl, congrArg Value.bool (by decide), Below.refl _ _, hs⟩⟩
    · intro a' w' ha hs hw
      obtain ⟨v1, e1, q1⟩ := hw 1 (by kernel_rfl) _ _ _ rfl rfl rfl
      obtain rfl : v1 = Value.bool false := q1
      exact ⟨wanted_none rfl, wp_val (run_move rfl (ev_tmp e1)) ⟨_, rfl, rfl, Below.refl _ _, hs⟩⟩
    · intro a' w' ha hs hw
      obtain ⟨v2, e2, q2⟩ := hw 2 (by kernel_rfl) _ _ _ rfl rfl rfl
      obtain rfl : v2 = Value.bool false := q2
      have eo11 : a'.tmps[11]? = some (Value.int IntKind.i64 (0)) := (ha.rest 11 (by kernel_rfl)).trans rfl
      exact ⟨wanted_some rfl rfl rfl e2, wp_val (run_move rfl (ev_tmp eo11)) ⟨_, rfl, rfl, Below.refl _ _, hs⟩⟩
    · intro a' w' ha hs hw
      obtain ⟨v2, e2, q2⟩ := hw 2 (by kernel_rfl) _ _ _ rfl rfl rfl
      obtain rfl : v2 = Value.bool false := q2
      obtain ⟨v3, e3, q3⟩ := hw 3 (by kernel_rfl) _ _ _ rfl rfl rfl
      obtain rfl : v3 = Value.int IntKind.i64 (0) := q3
      exact ⟨wanted_some rfl rfl rfl e2, wp_val (run_gtr_int rfl (ev_tmp e3) rfl) ⟨_, rfl, congrArg Value.bool (by decide), Below.refl _ _, hs⟩⟩
    · intro a' w' ha hs hw
      obtain ⟨v2, e2, q2⟩ := hw 2 (by kernel_rfl) _ _ _ rfl rfl rfl
      obtain rfl : v2 = Value.bool false := q2
      obtain ⟨v4, e4, q4⟩ := hw 4 (by kernel_rfl) _ _ _ rfl rfl rfl
      obtain rfl : v4 = Value.bool false := q4
      exact ⟨wanted_none rfl, wp_val (run_pick (b := false) rfl (ev_tmp e2) (ev_tmp e4)) ⟨_, rfl, rfl, Below.refl _ _, hs⟩⟩
    · intro a' w' ha hs hw
      obtain ⟨v5, e5, q5⟩ := hw 5 (by kernel_rfl) _ _ _ rfl rfl rfl
      obtain rfl : v5 = Value.bool false := q5
      exact ⟨wanted_none rfl, wp_val (run_move rfl (ev_tmp e5)) ⟨_, rfl, rfl, Below.refl _ _, hs⟩⟩
    · intro a' w' ha hs hw
      obtain ⟨v6, e6, q6⟩ := hw 6 (by kernel_rfl) _ _ _ rfl rfl rfl
      obtain rfl : v6 = Value.bool false := q6
      have eo9 : a'.tmps[9]? = some (Value.pointer (some ⟨gb, 0, none⟩)) := (ha.rest 9 (by kernel_rfl)).trans rfl
      exact ⟨wanted_some rfl rfl rfl e6, wp_val (run_load rfl (ev_tmp eo9) (BXb.out.next hs rfl)) ⟨_, rfl, rfl, Below.refl _ _, hs⟩⟩
    · intro a' w' ha hs hw
      obtain ⟨v6, e6, q6⟩ := hw 6 (by kernel_rfl) _ _ _ rfl rfl rfl
      obtain rfl : v6 = Value.bool false := q6
      have eo8 : a'.tmps[8]? = some (Value.pointer (some ⟨ga, 0, none⟩)) := (ha.rest 8 (by kernel_rfl)).trans rfl
      exact ⟨wanted_some rfl rfl rfl e6, wp_val (run_load rfl (ev_tmp eo8) (BXa.out.next hs rfl)) ⟨_, rfl, rfl, Below.refl _ _, hs⟩⟩
    · intro a' w' ha hs hw
      obtain ⟨v6, e6, q6⟩ := hw 6 (by kernel_rfl) _ _ _ rfl rfl rfl
      obtain rfl : v6 = Value.bool false := q6
      obtain ⟨v7, e7, q7⟩ := hw 7 (by kernel_rfl) _ _ _ rfl rfl rfl
      obtain rfl : v7 = .agg #[.bool sb, .slice Xb pb qb] := q7
      obtain ⟨v8, e8, q8⟩ := hw 8 (by kernel_rfl) _ _ _ rfl rfl rfl
      obtain rfl : v8 = .agg #[.bool sa, .slice Xa pa qa] := q8
      exact ⟨wanted_some rfl rfl rfl e6, call_step rfl Try.func24 (by kernel_rfl) rfl (map_two (ev_tmp e7) (ev_tmp e8)) (cmp_is _ _ (zb) (za) (0) _ (iv_next IVb.out hs rfl) (iv_next IVa.out hs rfl) (SZb.out.mono (by omega)) (SZa.out.mono (by omega)) (by unfold cmpZ; split <;> first | omega | (split <;> omega))) (fun e w2 he => by obtain ⟨rfl, hb⟩ := he; exact ⟨_, rfl, _, rfl, rfl, hb, hs.trans (hb.mono hs.size)⟩)⟩
    · intro a' w' ha hs hw
      obtain ⟨v6, e6, q6⟩ := hw 6 (by kernel_rfl) _ _ _ rfl rfl rfl
      obtain rfl : v6 = Value.bool false := q6
      have eo11 : a'.tmps[11]? = some (Value.int IntKind.i64 (0)) := (ha.rest 11 (by kernel_rfl)).trans rfl
      exact ⟨wanted_some rfl rfl rfl e6, wp_val (run_move rfl (ev_tmp eo11)) ⟨_, rfl, rfl, Below.refl _ _, hs⟩⟩
    · intro a' w' ha hs hw
      obtain ⟨v6, e6, q6⟩ := hw 6 (by kernel_rfl) _ _ _ rfl rfl rfl
      obtain rfl : v6 = Value.bool false := q6
      obtain ⟨v10, e10, q10⟩ := hw 10 (by kernel_rfl) _ _ _ rfl rfl rfl
      obtain rfl : v10 = Value.int IntKind.i64 (0) := q10
      exact ⟨wanted_some rfl rfl rfl e6, wp_val (run_neg_i64 rfl (ev_tmp e10) (by decide)) ⟨_, rfl, rfl, Below.refl _ _, hs⟩⟩
    · intro a' w' ha hs hw
      obtain ⟨v6, e6, q6⟩ := hw 6 (by kernel_rfl) _ _ _ rfl rfl rfl
      obtain rfl : v6 = Value.bool false := q6
      obtain ⟨v9, e9, q9⟩ := hw 9 (by kernel_rfl) _ _ _ rfl rfl rfl
      obtain rfl : v9 = Value.int IntKind.i64 (0) := q9
      obtain ⟨v11, e11, q11⟩ := hw 11 (by kernel_rfl) _ _ _ rfl rfl rfl
      obtain rfl : v11 = Value.int IntKind.i64 (0) := q11
      exact ⟨wanted_some rfl rfl rfl e6, wp_val (run_neq_int rfl (ev_tmp e9) (ev_tmp e11)) ⟨_, rfl, congrArg Value.bool (by decide), Below.refl _ _, hs⟩⟩
    · intro a' w' ha hs hw
      obtain ⟨v6, e6, q6⟩ := hw 6 (by kernel_rfl) _ _ _ rfl rfl rfl
      obtain rfl : v6 = Value.bool false := q6
      obtain ⟨v12, e12, q12⟩ := hw 12 (by kernel_rfl) _ _ _ rfl rfl rfl
      obtain rfl : v12 = Value.bool false := q12
      exact ⟨wanted_none rfl, wp_val (run_pick (b := false) rfl (ev_tmp e6) (ev_tmp e12)) ⟨_, rfl, rfl, Below.refl _ _, hs⟩⟩
    · intro a' w' ha hs hw
      obtain ⟨v13, e13, q13⟩ := hw 13 (by kernel_rfl) _ _ _ rfl rfl rfl
      obtain rfl : v13 = Value.bool false := q13
      exact ⟨wanted_none rfl, wp_val (run_move rfl (ev_tmp e13)) ⟨_, rfl, rfl, Below.refl _ _, hs⟩⟩
    · intro a' w' ha hs hw
      obtain ⟨v14, e14, q14⟩ := hw 14 (by kernel_rfl) _ _ _ rfl rfl rfl
      obtain rfl : v14 = Value.bool false := q14
      have eo8 : a'.tmps[8]? = some (Value.pointer (some ⟨ga, 0, none⟩)) := (ha.rest 8 (by kernel_rfl)).trans rfl
      exact ⟨wanted_some rfl rfl rfl e14, wp_val (run_load rfl (ev_tmp eo8) (BXa.out.next hs rfl)) ⟨_, rfl, rfl, Below.refl _ _, hs⟩⟩
    · intro a' w' ha hs hw
      obtain ⟨v14, e14, q14⟩ := hw 14 (by kernel_rfl) _ _ _ rfl rfl rfl
      obtain rfl : v14 = Value.bool false := q14
      obtain ⟨v15, e15, q15⟩ := hw 15 (by kernel_rfl) _ _ _ rfl rfl rfl
      obtain rfl : v15 = .agg #[.bool sa, .slice Xa pa qa] := q15
      exact ⟨wanted_some rfl rfl rfl e14, call_step rfl Try.func39 (by kernel_rfl) rfl (map_one (ev_tmp e15)) (neg_any _ (za) _ (iv_next IVa.out hs rfl) (SZa.out.mono (by omega))) (fun e w2 he => by obtain ⟨v, rfl, hv, hb⟩ := he; exact ⟨v, rfl, v, rfl, hv, hb, hs.trans (hb.mono hs.size)⟩)⟩
    · intro a' w' ha hs hw
      obtain ⟨v14, e14, q14⟩ := hw 14 (by kernel_rfl) _ _ _ rfl rfl rfl
      obtain rfl : v14 = Value.bool false := q14
      have eo9 : a'.tmps[9]? = some (Value.pointer (some ⟨gb, 0, none⟩)) := (ha.rest 9 (by kernel_rfl)).trans rfl
      exact ⟨wanted_some rfl rfl rfl e14, wp_val (run_load rfl (ev_tmp eo9) (BXb.out.next hs rfl)) ⟨_, rfl, rfl, Below.refl _ _, hs⟩⟩
    · intro a' w' ha hs hw
      obtain ⟨v14, e14, q14⟩ := hw 14 (by kernel_rfl) _ _ _ rfl rfl rfl
      obtain rfl : v14 = Value.bool false := q14
      obtain ⟨v17, e17, q17⟩ := hw 17 (by kernel_rfl) _ _ _ rfl rfl rfl
      obtain rfl : v17 = .agg #[.bool sb, .slice Xb pb qb] := q17
      exact ⟨wanted_some rfl rfl rfl e14, call_step rfl Try.func39 (by kernel_rfl) rfl (map_one (ev_tmp e17)) (neg_any _ (zb) _ (iv_next IVb.out hs rfl) (SZb.out.mono (by omega))) (fun e w2 he => by obtain ⟨v, rfl, hv, hb⟩ := he; exact ⟨v, rfl, v, rfl, hv, hb, hs.trans (hb.mono hs.size)⟩)⟩
    · intro a' w' ha hs hw
      obtain ⟨v14, e14, q14⟩ := hw 14 (by kernel_rfl) _ _ _ rfl rfl rfl
      obtain rfl : v14 = Value.bool false := q14
      obtain ⟨v16, e16, q16⟩ := hw 16 (by kernel_rfl) _ _ _ rfl rfl rfl
      replace q16 : Iv w' v16 (-(za)) := q16
      obtain ⟨v18, e18, q18⟩ := hw 18 (by kernel_rfl) _ _ _ rfl rfl rfl
      replace q18 : Iv w' v18 (-(zb)) := q18
      exact ⟨wanted_some rfl rfl rfl e14, call_step rfl Try.func24 (by kernel_rfl) rfl (map_two (ev_tmp e16) (ev_tmp e18)) (cmp_is _ _ (-(za)) (-(zb)) (0) _ q16 q18 (SR8x16.out.mono (by omega)) (SR8x18.out.mono (by omega)) (by unfold cmpZ; split <;> first | omega | (split <;> omega))) (fun e w2 he => by obtain ⟨rfl, hb⟩ := he; exact ⟨_, rfl, _, rfl, rfl, hb, hs.trans (hb.mono hs.size)⟩)⟩
    · intro a' w' ha hs hw
      obtain ⟨v14, e14, q14⟩ := hw 14 (by kernel_rfl) _ _ _ rfl rfl rfl
      obtain rfl : v14 = Value.bool false := q14
      have eo11 : a'.tmps[11]? = some (Value.int IntKind.i64 (0)) := (ha.rest 11 (by kernel_rfl)).trans rfl
      exact ⟨wanted_some rfl rfl rfl e14, wp_val (run_move rfl (ev_tmp eo11)) ⟨_, rfl, rfl, Below.refl _ _, hs⟩⟩
    · intro a' w' ha hs hw
      obtain ⟨v14, e14, q14⟩ := hw 14 (by kernel_rfl) _ _ _ rfl rfl rfl
      obtain rfl : v14 = Value.bool false := q14
      obtain ⟨v20, e20, q20⟩ := hw 20 (by kernel_rfl) _ _ _ rfl rfl rfl
      obtain rfl : v20 = Value.int IntKind.i64 (0) := q20
      exact ⟨wanted_some rfl rfl rfl e14, wp_val (run_neg_i64 rfl (ev_tmp e20) (by decide)) ⟨_, rfl, rfl, Below.refl _ _, hs⟩⟩
    · intro a' w' ha hs hw
      obtain ⟨v14, e14, q14⟩ := hw 14 (by kernel_rfl) _ _ _ rfl rfl rfl
      obtain rfl : v14 = Value.bool false := q14
      obtain ⟨v19, e19, q19⟩ := hw 19 (by kernel_rfl) _ _ _ rfl rfl rfl
      obtain rfl : v19 = Value.int IntKind.i64 (0) := q19
      obtain ⟨v21, e21, q21⟩ := hw 21 (by kernel_rfl) _ _ _ rfl rfl rfl
      obtain rfl : v21 = Value.int IntKind.i64 (0) := q21
      exact ⟨wanted_some rfl rfl rfl e14, wp_val (run_neq_int rfl (ev_tmp e19) (ev_tmp e21)) ⟨_, rfl, congrArg Value.bool (by decide), Below.refl _ _, hs⟩⟩
    · intro a' w' ha hs hw
      obtain ⟨v14, e14, q14⟩ := hw 14 (by kernel_rfl) _ _ _ rfl rfl rfl
      obtain rfl : v14 = Value.bool false := q14
      obtain ⟨v22, e22, q22⟩ := hw 22 (by kernel_rfl) _ _ _ rfl rfl rfl
      obtain rfl : v22 = Value.bool false := q22
      exact ⟨wanted_none rfl, wp_val (run_pick (b := false) rfl (ev_tmp e14) (ev_tmp e22)) ⟨_, rfl, rfl, Below.refl _ _, hs⟩⟩
    · intro a' w' ha hs hw
      obtain ⟨v23, e23, q23⟩ := hw 23 (by kernel_rfl) _ _ _ rfl rfl rfl
      obtain rfl : v23 = Value.bool false := q23
      exact ⟨wanted_none rfl, wp_val (run_move rfl (ev_tmp e23)) ⟨_, rfl, rfl, Below.refl _ _, hs⟩⟩
    · intro a' w' ha hs hw
      obtain ⟨v24, e24, q24⟩ := hw 24 (by kernel_rfl) _ _ _ rfl rfl rfl
      obtain rfl : v24 = Value.bool false := q24
      have eo8 : a'.tmps[8]? = some (Value.pointer (some ⟨ga, 0, none⟩)) := (ha.rest 8 (by kernel_rfl)).trans rfl
      exact ⟨wanted_some rfl rfl rfl e24, wp_val (run_load rfl (ev_tmp eo8) (BXa.out.next hs rfl)) ⟨_, rfl, rfl, Below.refl _ _, hs⟩⟩
    · intro a' w' ha hs hw
      obtain ⟨v24, e24, q24⟩ := hw 24 (by kernel_rfl) _ _ _ rfl rfl rfl
      obtain rfl : v24 = Value.bool false := q24
      have eo9 : a'.tmps[9]? = some (Value.pointer (some ⟨gb, 0, none⟩)) := (ha.rest 9 (by kernel_rfl)).trans rfl
      exact ⟨wanted_some rfl rfl rfl e24, wp_val (run_load rfl (ev_tmp eo9) (BXb.out.next hs rfl)) ⟨_, rfl, rfl, Below.refl _ _, hs⟩⟩
    · intro a' w' ha hs hw
      obtain ⟨v24, e24, q24⟩ := hw 24 (by kernel_rfl) _ _ _ rfl rfl rfl
      obtain rfl : v24 = Value.bool false := q24
      obtain ⟨v25, e25, q25⟩ := hw 25 (by kernel_rfl) _ _ _ rfl rfl rfl
      obtain rfl : v25 = .agg #[.bool sa, .slice Xa pa qa] := q25
      obtain ⟨v26, e26, q26⟩ := hw 26 (by kernel_rfl) _ _ _ rfl rfl rfl
      obtain rfl : v26 = .agg #[.bool sb, .slice Xb pb qb] := q26
      exact ⟨wanted_some rfl rfl rfl e24, call_step rfl Try.func28 (by kernel_rfl) rfl (map_two (ev_tmp e25) (ev_tmp e26)) (sub_any _ _ (za) (zb) _ (iv_next IVa.out hs rfl) (iv_next IVb.out hs rfl) (SZa.out.mono (by omega)) (SZb.out.mono (by omega))) (fun e w2 he => by obtain ⟨v, rfl, hv, hb⟩ := he; exact ⟨v, rfl, v, rfl, hv, hb, hs.trans (hb.mono hs.size)⟩)⟩
    · intro a' w' ha hs hw
      obtain ⟨v24, e24, q24⟩ := hw 24 (by kernel_rfl) _ _ _ rfl rfl rfl
      obtain rfl : v24 = Value.bool false := q24
      obtain ⟨v27, e27, q27⟩ := hw 27 (by kernel_rfl) _ _ _ rfl rfl rfl
      replace q27 : Iv w' v27 ((za) - (zb)) := q27
      exact ⟨wanted_some rfl rfl rfl e24, call_step rfl Try.func41 (by kernel_rfl) rfl (map_one (ev_tmp e27)) (sign_is _ ((za) - (zb)) (0) _ q27 (SR8x27.out.mono (by omega)) (by unfold sg; split <;> first | omega | (split <;> omega))) (fun e w2 he => by obtain ⟨rfl, hb⟩ := he; exact ⟨_, rfl, _, rfl, rfl, hb, hs.trans (hb.mono hs.size)⟩)⟩
    · intro a' w' ha hs hw
      obtain ⟨v24, e24, q24⟩ := hw 24 (by kernel_rfl) _ _ _ rfl rfl rfl
      obtain rfl : v24 = Value.bool false := q24
      have eo11 : a'.tmps[11]? = some (Value.int IntKind.i64 (0)) := (ha.rest 11 (by kernel_rfl)).trans rfl
      exact ⟨wanted_some rfl rfl rfl e24, wp_val (run_move rfl (ev_tmp eo11)) ⟨_, rfl, rfl, Below.refl _ _, hs⟩⟩
    · intro a' w' ha hs hw
      obtain ⟨v24, e24, q24⟩ := hw 24 (by kernel_rfl) _ _ _ rfl rfl rfl
      obtain rfl : v24 = Value.bool false := q24
      obtain ⟨v28, e28, q28⟩ := hw 28 (by kernel_rfl) _ _ _ rfl rfl rfl
      obtain rfl : v28 = Value.int IntKind.i64 (0) := q28
      obtain ⟨v29, e29, q29⟩ := hw 29 (by kernel_rfl) _ _ _ rfl rfl rfl
      obtain rfl : v29 = Value.int IntKind.i64 (0) := q29
      exact ⟨wanted_some rfl rfl rfl e24, wp_val (run_neq_int rfl (ev_tmp e28) (ev_tmp e29)) ⟨_, rfl, congrArg Value.bool (by decide), Below.refl _ _, hs⟩⟩
    · intro a' w' ha hs hw
      obtain ⟨v24, e24, q24⟩ := hw 24 (by kernel_rfl) _ _ _ rfl rfl rfl
      obtain rfl : v24 = Value.bool false := q24
      obtain ⟨v30, e30, q30⟩ := hw 30 (by kernel_rfl) _ _ _ rfl rfl rfl
      obtain rfl : v30 = Value.bool false := q30
      exact ⟨wanted_none rfl, wp_val (run_pick (b := false) rfl (ev_tmp e24) (ev_tmp e30)) ⟨_, rfl, rfl, Below.refl _ _, hs⟩⟩
  simp only [allK]
  intro r8x0 _ r8x1 _ r8x2 _
  simp only [setAll, List.set_cons_succ, List.set_cons_zero]
  refine hK _ _ ?_
  clear hK K
  clear SR8x16
  clear SR8x18
  clear SR8x27
  replace BXa := Lib.hid (BXa.out.next hs rfl); replace IVa := Lib.hid (iv_next IVa.out hs rfl)
  replace BXb := Lib.hid (BXb.out.next hs rfl); replace IVb := Lib.hid (iv_next IVb.out hs rfl)
  replace BXc := Lib.hid (BXc.out.next hs rfl); replace IVc := Lib.hid (iv_next IVc.out hs rfl)
  replace DW := Lib.hid (link_below DW.out hs (by have := DW.out.size; omega) rfl rfl rfl rfl)
  clear hs
  go_upto_region 12 with fail
  have SR12x4 : Hid (Sz ((za) + (zc)) 9) := (Sz.add (N := 8) (SZa.out.mono (by omega)) (SZc.out.mono (by omega)))
  have SR12x7 : Hid (Sz ((zb) + (zc)) 9) := (Sz.add (N := 8) (SZb.out.mono (by omega)) (SZc.out.mono (by omega)))
  have SR12x15 : Hid (Sz ((za) * (zc)) 16) := (Sz.mul SZa.out SZc.out)
  have SR12x18 : Hid (Sz ((zb) * (zc)) 16) := (Sz.mul SZb.out SZc.out)
  have SR12x28 : Hid (Sz (0) 2) := I64.sz ⟨by omega, by omega⟩
  refine region_run (fun w' => Below wn.heap.size wn w') [.is (Value.bool true), .is (Value.bool true), .is (.agg #[.bool sa, .slice Xa pa qa]), .is (.agg #[.bool sc, .slice Xc pc qc]), .iv ((za) + (zc)), .is (.agg #[.bool sb, .slice Xb pb qb]), .is (.agg #[.bool sc, .slice Xc pc qc]), .iv ((zb) + (zc)), .is (Value.int IntKind.i64 (0)), .is (Value.int IntKind.i64 (0)), .is (Value.bool true), .is (Value.bool true), .is (Value.bool true), .is (.agg #[.bool sa, .slice Xa pa qa]), .is (.agg #[.bool sc, .slice Xc pc qc]), .iv ((za) * (zc)), .is (.agg #[.bool sb, .slice Xb pb qb]), .is (.agg #[.bool sc, .slice Xc pc qc]), .iv ((zb) * (zc)), .is (Value.int IntKind.i64 ((0) * sg zc)), .is (Value.int IntKind.i64 (0)), .is (.agg #[.bool sc, .slice Xc pc qc]), .is (Value.int IntKind.i64 (sg zc)), .is (Value.int IntKind.i64 ((0) * sg zc)), .is (Value.bool true), .is (Value.bool true), .is (Value.bool true), .is (.agg #[.bool sa, .slice Xa pa qa]), .iv ((0 : Int)), .is (Value.int IntKind.i64 (sg za)), .is (.agg #[.bool sa, .slice Xa pa qa]), .is (Value.int IntKind.i64 (sg za)), .is (Value.bool true), .is (Value.bool true), .is (Value.bool true)] [70, 71, 72, 73, 74, 75, 76, 77, 78, 79, 80, 81, 82, 83, 84, 85, 86, 87, 88, 89, 90, 91, 92, 93, 94, 95, 96, 97, 98, 99, 100, 101, 102, 103, 6] (by kernel_rfl) (by kernel_rfl) (by kernel_rfl) (by rfl) (by kernel_rfl) ((Below.refl _ _).drew) (fun Q' => ?_) (fun K hK wn hs => ?_)
  · refine ⟨?_, ?_, ?_, ?_, ?_, ?_, ?_, ?_, ?_, ?_, ?_, ?_, ?_, ?_, ?_, ?_, ?_, ?_, ?_, ?_, ?_, ?_, ?_, ?_, ?_, ?_, ?_, ?_, ?_, ?_, ?_, ?_, ?_, ?_, ?_, trivial⟩
    · intro a' w' ha hs hw
      have eo7 : a'.tmps[7]? = some (Value.bool true) := (ha.rest 7 (by kernel_rfl)).trans rfl
      exact ⟨wanted_none rfl, wp_val (run_move rfl (ev_tmp eo7)) ⟨_, rfl, rfl, Below.refl _ _, hs⟩⟩
    · intro a' w' ha hs hw
      obtain ⟨v0, e0, q0⟩ := hw 0 (by kernel_rfl) _ _ _ rfl rfl rfl
      obtain rfl : v0 = Value.bool true := q0
      exact ⟨wanted_none rfl, wp_val (run_move rfl (ev_tmp e0)) ⟨_, rfl, rfl, Below.refl _ _, hs⟩⟩
    · intro a' w' ha hs hw
      obtain ⟨v1, e1, q1⟩ := hw 1 (by kernel_rfl) _ _ _ rfl rfl rfl
      obtain rfl : v1 = Value.bool true := q1
      have eo8 : a'.tmps[8]? = some (Value.pointer (some ⟨ga, 0, none⟩)) := (ha.rest 8 (by kernel_rfl)).trans rfl
      exact ⟨wanted_some rfl rfl rfl e1, wp_val (run_load rfl (ev_tmp eo8) (BXa.out.next hs rfl)) ⟨_, rfl, rfl, Below.refl _ _, hs⟩⟩
    · intro a' w' ha hs hw
      obtain ⟨v1, e1, q1⟩ := hw 1 (by kernel_rfl) _ _ _ rfl rfl rfl
      obtain rfl : v1 = Value.bool true := q1
      have eo10 : a'.tmps[10]? = some (Value.pointer (some ⟨gc, 0, none⟩)) := (ha.rest 10 (by kernel_rfl)).trans rfl
      exact ⟨wanted_some rfl rfl rfl e1, wp_val (run_load rfl (ev_tmp eo10) (BXc.out.next hs rfl)) ⟨_, rfl, rfl, Below.refl _ _, hs⟩⟩
    · intro a' w' ha hs hw
      obtain ⟨v1, e1, q1⟩ := hw 1 (by kernel_rfl) _ _ _ rfl rfl rfl
      obtain rfl : v1 = Value.bool true := q1
      obtain ⟨v2, e2, q2⟩ := hw 2 (by kernel_rfl) _ _ _ rfl rfl rfl
      obtain rfl : v2 = .agg #[.bool sa, .slice Xa pa qa] := q2
      obtain ⟨v3, e3, q3⟩ := hw 3 (by kernel_rfl) _ _ _ rfl rfl rfl
      obtain rfl : v3 = .agg #[.bool sc, .slice Xc pc qc] := q3
      exact ⟨wanted_some rfl rfl rfl e1, call_step rfl Try.func26 (by kernel_rfl) rfl (map_two (ev_tmp e2) (ev_tmp e3)) (add_any _ _ (za) (zc) _ (iv_next IVa.out hs rfl) (iv_next IVc.out hs rfl) (SZa.out.mono (by omega)) (SZc.out.mono (by omega))) (fun e w2 he => by obtain ⟨v, rfl, hv, hb⟩ := he; exact ⟨v, rfl, v, rfl, hv, hb, hs.trans (hb.mono hs.size)⟩)⟩
    · intro a' w' ha hs hw
      obtain ⟨v1, e1, q1⟩ := hw 1 (by kernel_rfl) _ _ _ rfl rfl rfl
      obtain rfl : v1 = Value.bool true := q1
      have eo9 : a'.tmps[9]? = some (Value.pointer (some ⟨gb, 0, none⟩)) := (ha.rest 9 (by kernel_rfl)).trans rfl
      exact ⟨wanted_some rfl rfl rfl e1, wp_val (run_load rfl (ev_tmp eo9) (BXb.out.next hs rfl)) ⟨_, rfl, rfl, Below.refl _ _, hs⟩⟩
    · intro a' w' ha hs hw
      obtain ⟨v1, e1, q1⟩ := hw 1 (by kernel_rfl) _ _ _ rfl rfl rfl
      obtain rfl : v1 = Value.bool true := q1
      have eo10 : a'.tmps[10]? = some (Value.pointer (some ⟨gc, 0, none⟩)) := (ha.rest 10 (by kernel_rfl)).trans rfl
      exact ⟨wanted_some rfl rfl rfl e1, wp_val (run_load rfl (ev_tmp eo10) (BXc.out.next hs rfl)) ⟨_, rfl, rfl, Below.refl _ _, hs⟩⟩
    · intro a' w' ha hs hw
      obtain ⟨v1, e1, q1⟩ := hw 1 (by kernel_rfl) _ _ _ rfl rfl rfl
      obtain rfl : v1 = Value.bool true := q1
      obtain ⟨v5, e5, q5⟩ := hw 5 (by kernel_rfl) _ _ _ rfl rfl rfl
      obtain rfl : v5 = .agg #[.bool sb, .slice Xb pb qb] := q5
      obtain ⟨v6, e6, q6⟩ := hw 6 (by kernel_rfl) _ _ _ rfl rfl rfl
      obtain rfl : v6 = .agg #[.bool sc, .slice Xc pc qc] := q6
      exact ⟨wanted_some rfl rfl rfl e1, call_step rfl Try.func26 (by kernel_rfl) rfl (map_two (ev_tmp e5) (ev_tmp e6)) (add_any _ _ (zb) (zc) _ (iv_next IVb.out hs rfl) (iv_next IVc.out hs rfl) (SZb.out.mono (by omega)) (SZc.out.mono (by omega))) (fun e w2 he => by obtain ⟨v, rfl, hv, hb⟩ := he; exact ⟨v, rfl, v, rfl, hv, hb, hs.trans (hb.mono hs.size)⟩)⟩
    · intro a' w' ha hs hw
      obtain ⟨v1, e1, q1⟩ := hw 1 (by kernel_rfl) _ _ _ rfl rfl rfl
      obtain rfl : v1 = Value.bool true := q1
      obtain ⟨v4, e4, q4⟩ := hw 4 (by kernel_rfl) _ _ _ rfl rfl rfl
      replace q4 : Iv w' v4 ((za) + (zc)) := q4
      obtain ⟨v7, e7, q7⟩ := hw 7 (by kernel_rfl) _ _ _ rfl rfl rfl
      replace q7 : Iv w' v7 ((zb) + (zc)) := q7
      exact ⟨wanted_some rfl rfl rfl e1, call_step rfl Try.func24 (by kernel_rfl) rfl (map_two (ev_tmp e4) (ev_tmp e7)) (cmp_is _ _ ((za) + (zc)) ((zb) + (zc)) (0) _ q4 q7 (SR12x4.out.mono (by omega)) (SR12x7.out.mono (by omega)) (by unfold cmpZ; split <;> first | omega | (split <;> omega))) (fun e w2 he => by obtain ⟨rfl, hb⟩ := he; exact ⟨_, rfl, _, rfl, rfl, hb, hs.trans (hb.mono hs.size)⟩)⟩
    · intro a' w' ha hs hw
      obtain ⟨v1, e1, q1⟩ := hw 1 (by kernel_rfl) _ _ _ rfl rfl rfl
      obtain rfl : v1 = Value.bool true := q1
      have eo11 : a'.tmps[11]? = some (Value.int IntKind.i64 (0)) := (ha.rest 11 (by kernel_rfl)).trans rfl
      exact ⟨wanted_some rfl rfl rfl e1, wp_val (run_move rfl (ev_tmp eo11)) ⟨_, rfl, rfl, Below.refl _ _, hs⟩⟩
    · intro a' w' ha hs hw
      obtain ⟨v1, e1, q1⟩ := hw 1 (by kernel_rfl) _ _ _ rfl rfl rfl
      obtain rfl : v1 = Value.bool true := q1
      obtain ⟨v8, e8, q8⟩ := hw 8 (by kernel_rfl) _ _ _ rfl rfl rfl
      obtain rfl : v8 = Value.int IntKind.i64 (0) := q8
      obtain ⟨v9, e9, q9⟩ := hw 9 (by kernel_rfl) _ _ _ rfl rfl rfl
      obtain rfl : v9 = Value.int IntKind.i64 (0) := q9
      exact ⟨wanted_some rfl rfl rfl e1, wp_val (run_eql_int rfl (ev_tmp e8) (ev_tmp e9)) ⟨_, rfl, congrArg Value.bool (by decide), Below.refl _ _, hs⟩⟩
    · intro a' w' ha hs hw
      obtain ⟨v1, e1, q1⟩ := hw 1 (by kernel_rfl) _ _ _ rfl rfl rfl
      obtain rfl : v1 = Value.bool true := q1
      obtain ⟨v10, e10, q10⟩ := hw 10 (by kernel_rfl) _ _ _ rfl rfl rfl
      obtain rfl : v10 = Value.bool true := q10
      exact ⟨wanted_none rfl, wp_val (run_pick (b := true) rfl (ev_tmp e1) (ev_tmp e10)) ⟨_, rfl, rfl, Below.refl _ _, hs⟩⟩
    · intro a' w' ha hs hw
      obtain ⟨v11, e11, q11⟩ := hw 11 (by kernel_rfl) _ _ _ rfl rfl rfl
      obtain rfl : v11 = Value.bool true := q11
      exact ⟨wanted_none rfl, wp_val (run_move rfl (ev_tmp e11)) ⟨_, rfl, rfl, Below.refl _ _, hs⟩⟩
    · intro a' w' ha hs hw
      obtain ⟨v12, e12, q12⟩ := hw 12 (by kernel_rfl) _ _ _ rfl rfl rfl
      obtain rfl : v12 = Value.bool true := q12
      have eo8 : a'.tmps[8]? = some (Value.pointer (some ⟨ga, 0, none⟩)) := (ha.rest 8 (by kernel_rfl)).trans rfl
      exact ⟨wanted_some rfl rfl rfl e12, wp_val (run_load rfl (ev_tmp eo8) (BXa.out.next hs rfl)) ⟨_, rfl, rfl, Below.refl _ _, hs⟩⟩
    · intro a' w' ha hs hw
      obtain ⟨v12, e12, q12⟩ := hw 12 (by kernel_rfl) _ _ _ rfl rfl rfl
      obtain rfl : v12 = Value.bool true := q12
      have eo10 : a'.tmps[10]? = some (Value.pointer (some ⟨gc, 0, none⟩)) := (ha.rest 10 (by kernel_rfl)).trans rfl
      exact ⟨wanted_some rfl rfl rfl e12, wp_val (run_load rfl (ev_tmp eo10) (BXc.out.next hs rfl)) ⟨_, rfl, rfl, Below.refl _ _, hs⟩⟩
    · intro a' w' ha hs hw
      obtain ⟨v12, e12, q12⟩ := hw 12 (by kernel_rfl) _ _ _ rfl rfl rfl
      obtain rfl : v12 = Value.bool true := q12
      obtain ⟨v13, e13, q13⟩ := hw 13 (by kernel_rfl) _ _ _ rfl rfl rfl
      obtain rfl : v13 = .agg #[.bool sa, .slice Xa pa qa] := q13
      obtain ⟨v14, e14, q14⟩ := hw 14 (by kernel_rfl) _ _ _ rfl rfl rfl
      obtain rfl : v14 = .agg #[.bool sc, .slice Xc pc qc] := q14
      exact ⟨wanted_some rfl rfl rfl e12, call_step rfl Try.func30 (by kernel_rfl) rfl (map_two (ev_tmp e13) (ev_tmp e14)) (mul_any _ _ (za) (zc) _ (iv_next IVa.out hs rfl) (iv_next IVc.out hs rfl) (SZa.out.mono (by omega)) (SZc.out.mono (by omega))) (fun e w2 he => by obtain ⟨v, rfl, hv, hb⟩ := he; exact ⟨v, rfl, v, rfl, hv, hb, hs.trans (hb.mono hs.size)⟩)⟩
    · intro a' w' ha hs hw
      obtain ⟨v12, e12, q12⟩ := hw 12 (by kernel_rfl) _ _ _ rfl rfl rfl
      obtain rfl : v12 = Value.bool true := q12
      have eo9 : a'.tmps[9]? = some (Value.pointer (some ⟨gb, 0, none⟩)) := (ha.rest 9 (by kernel_rfl)).trans rfl
      exact ⟨wanted_some rfl rfl rfl e12, wp_val (run_load rfl (ev_tmp eo9) (BXb.out.next hs rfl)) ⟨_, rfl, rfl, Below.refl _ _, hs⟩⟩
    · intro a' w' ha hs hw
      obtain ⟨v12, e12, q12⟩ := hw 12 (by kernel_rfl) _ _ _ rfl rfl rfl
      obtain rfl : v12 = Value.bool true := q12
      have eo10 : a'.tmps[10]? = some (Value.pointer (some ⟨gc, 0, none⟩)) := (ha.rest 10 (by kernel_rfl)).trans rfl
      exact ⟨wanted_some rfl rfl rfl e12, wp_val (run_load rfl (ev_tmp eo10) (BXc.out.next hs rfl)) ⟨_, rfl, rfl, Below.refl _ _, hs⟩⟩
    · intro a' w' ha hs hw
      obtain ⟨v12, e12, q12⟩ := hw 12 (by kernel_rfl) _ _ _ rfl rfl rfl
      obtain rfl : v12 = Value.bool true := q12
      obtain ⟨v16, e16, q16⟩ := hw 16 (by kernel_rfl) _ _ _ rfl rfl rfl
      obtain rfl : v16 = .agg #[.bool sb, .slice Xb pb qb] := q16
      obtain ⟨v17, e17, q17⟩ := hw 17 (by kernel_rfl) _ _ _ rfl rfl rfl
      obtain rfl : v17 = .agg #[.bool sc, .slice Xc pc qc] := q17
      exact ⟨wanted_some rfl rfl rfl e12, call_step rfl Try.func30 (by kernel_rfl) rfl (map_two (ev_tmp e16) (ev_tmp e17)) (mul_any _ _ (zb) (zc) _ (iv_next IVb.out hs rfl) (iv_next IVc.out hs rfl) (SZb.out.mono (by omega)) (SZc.out.mono (by omega))) (fun e w2 he => by obtain ⟨v, rfl, hv, hb⟩ := he; exact ⟨v, rfl, v, rfl, hv, hb, hs.trans (hb.mono hs.size)⟩)⟩
    · intro a' w' ha hs hw
      obtain ⟨v12, e12, q12⟩ := hw 12 (by kernel_rfl) _ _ _ rfl rfl rfl
      obtain rfl : v12 = Value.bool true := q12
      obtain ⟨v15, e15, q15⟩ := hw 15 (by kernel_rfl) _ _ _ rfl rfl rfl
      replace q15 : Iv w' v15 ((za) * (zc)) := q15
      obtain ⟨v18, e18, q18⟩ := hw 18 (by kernel_rfl) _ _ _ rfl rfl rfl
      replace q18 : Iv w' v18 ((zb) * (zc)) := q18
      exact ⟨wanted_some rfl rfl rfl e12, call_step rfl Try.func24 (by kernel_rfl) rfl (map_two (ev_tmp e15) (ev_tmp e18)) (cmp_is _ _ ((za) * (zc)) ((zb) * (zc)) ((0) * sg zc) _ q15 q18 (SR12x15.out.mono (by omega)) (SR12x18.out.mono (by omega)) (cmp_mul zc (by unfold cmpZ; split <;> first | omega | (split <;> omega)))) (fun e w2 he => by obtain ⟨rfl, hb⟩ := he; exact ⟨_, rfl, _, rfl, rfl, hb, hs.trans (hb.mono hs.size)⟩)⟩
    · intro a' w' ha hs hw
      obtain ⟨v12, e12, q12⟩ := hw 12 (by kernel_rfl) _ _ _ rfl rfl rfl
      obtain rfl : v12 = Value.bool true := q12
      have eo11 : a'.tmps[11]? = some (Value.int IntKind.i64 (0)) := (ha.rest 11 (by kernel_rfl)).trans rfl
      exact ⟨wanted_some rfl rfl rfl e12, wp_val (run_move rfl (ev_tmp eo11)) ⟨_, rfl, rfl, Below.refl _ _, hs⟩⟩
    · intro a' w' ha hs hw
      obtain ⟨v12, e12, q12⟩ := hw 12 (by kernel_rfl) _ _ _ rfl rfl rfl
      obtain rfl : v12 = Value.bool true := q12
      have eo10 : a'.tmps[10]? = some (Value.pointer (some ⟨gc, 0, none⟩)) := (ha.rest 10 (by kernel_rfl)).trans rfl
      exact ⟨wanted_some rfl rfl rfl e12, wp_val (run_load rfl (ev_tmp eo10) (BXc.out.next hs rfl)) ⟨_, rfl, rfl, Below.refl _ _, hs⟩⟩
    · intro a' w' ha hs hw
      obtain ⟨v12, e12, q12⟩ := hw 12 (by kernel_rfl) _ _ _ rfl rfl rfl
      obtain rfl : v12 = Value.bool true := q12
      obtain ⟨v21, e21, q21⟩ := hw 21 (by kernel_rfl) _ _ _ rfl rfl rfl
      obtain rfl : v21 = .agg #[.bool sc, .slice Xc pc qc] := q21
      exact ⟨wanted_some rfl rfl rfl e12, call_step rfl Try.func41 (by kernel_rfl) rfl (map_one (ev_tmp e21)) (sign_is _ (zc) (sg zc) _ (iv_next IVc.out hs rfl) (SZc.out.mono (by omega)) (rfl)) (fun e w2 he => by obtain ⟨rfl, hb⟩ := he; exact ⟨_, rfl, _, rfl, rfl, hb, hs.trans (hb.mono hs.size)⟩)⟩
    · intro a' w' ha hs hw
      obtain ⟨v12, e12, q12⟩ := hw 12 (by kernel_rfl) _ _ _ rfl rfl rfl
      obtain rfl : v12 = Value.bool true := q12
      obtain ⟨v20, e20, q20⟩ := hw 20 (by kernel_rfl) _ _ _ rfl rfl rfl
      obtain rfl : v20 = Value.int IntKind.i64 (0) := q20
      obtain ⟨v22, e22, q22⟩ := hw 22 (by kernel_rfl) _ _ _ rfl rfl rfl
      obtain rfl : v22 = Value.int IntKind.i64 (sg zc) := q22
      exact ⟨wanted_some rfl rfl rfl e12, wp_val (run_mul_i64 rfl (ev_tmp e20) (ev_tmp e22) (wrap_sg (by omega) (by omega))) ⟨_, rfl, rfl, Below.refl _ _, hs⟩⟩
    · intro a' w' ha hs hw
      obtain ⟨v12, e12, q12⟩ := hw 12 (by kernel_rfl) _ _ _ rfl rfl rfl
      obtain rfl : v12 = Value.bool true := q12
      obtain ⟨v19, e19, q19⟩ := hw 19 (by kernel_rfl) _ _ _ rfl rfl rfl
      obtain rfl : v19 = Value.int IntKind.i64 ((0) * sg zc) := q19
      obtain ⟨v23, e23, q23⟩ := hw 23 (by kernel_rfl) _ _ _ rfl rfl rfl
      obtain rfl : v23 = Value.int IntKind.i64 ((0) * sg zc) := q23
      exact ⟨wanted_some rfl rfl rfl e12, wp_val ((show _ = _ from by rw [run_eql_int rfl (ev_tmp e19) (ev_tmp e23)]; simp)) ⟨_, rfl, rfl, Below.refl _ _, hs⟩⟩
    · intro a' w' ha hs hw
      obtain ⟨v12, e12, q12⟩ := hw 12 (by kernel_rfl) _ _ _ rfl rfl rfl
      obtain rfl : v12 = Value.bool true := q12
      obtain ⟨v24, e24, q24⟩ := hw 24 (by kernel_rfl) _ _ _ rfl rfl rfl
      obtain rfl : v24 = Value.bool true := q24
      exact ⟨wanted_none rfl, wp_val (run_pick (b := true) rfl (ev_tmp e12) (ev_tmp e24)) ⟨_, rfl, rfl, Below.refl _ _, hs⟩⟩
    · intro a' w' ha hs hw
      obtain ⟨v25, e25, q25⟩ := hw 25 (by kernel_rfl) _ _ _ rfl rfl rfl
      obtain rfl : v25 = Value.bool true := q25
      exact ⟨wanted_none rfl, wp_val (run_move rfl (ev_tmp e25)) ⟨_, rfl, rfl, Below.refl _ _, hs⟩⟩
    · intro a' w' ha hs hw
      obtain ⟨v26, e26, q26⟩ := hw 26 (by kernel_rfl) _ _ _ rfl rfl rfl
      obtain rfl : v26 = Value.bool true := q26
      have eo8 : a'.tmps[8]? = some (Value.pointer (some ⟨ga, 0, none⟩)) := (ha.rest 8 (by kernel_rfl)).trans rfl
      exact ⟨wanted_some rfl rfl rfl e26, wp_val (run_load rfl (ev_tmp eo8) (BXa.out.next hs rfl)) ⟨_, rfl, rfl, Below.refl _ _, hs⟩⟩
    · intro a' w' ha hs hw
      obtain ⟨v26, e26, q26⟩ := hw 26 (by kernel_rfl) _ _ _ rfl rfl rfl
      obtain rfl : v26 = Value.bool true := q26
      exact ⟨wanted_some rfl rfl rfl e26, call_step rfl Try.func40 (by kernel_rfl) rfl (map_one rfl) (lof_any (0) _ (by omega) (by omega)) (fun e w2 he => by obtain ⟨v, rfl, hv, hb⟩ := he; exact ⟨v, rfl, v, rfl, hv, hb, hs.trans (hb.mono hs.size)⟩)⟩
    · intro a' w' ha hs hw
      obtain ⟨v26, e26, q26⟩ := hw 26 (by kernel_rfl) _ _ _ rfl rfl rfl
      obtain rfl : v26 = Value.bool true := q26
      obtain ⟨v27, e27, q27⟩ := hw 27 (by kernel_rfl) _ _ _ rfl rfl rfl
      obtain rfl : v27 = .agg #[.bool sa, .slice Xa pa qa] := q27
      obtain ⟨v28, e28, q28⟩ := hw 28 (by kernel_rfl) _ _ _ rfl rfl rfl
      replace q28 : Iv w' v28 ((0 : Int)) := q28
      exact ⟨wanted_some rfl rfl rfl e26, call_step rfl Try.func24 (by kernel_rfl) rfl (map_two (ev_tmp e27) (ev_tmp e28)) (cmp_is _ _ (za) ((0 : Int)) (sg za) _ (iv_next IVa.out hs rfl) q28 (SZa.out.mono (by omega)) (SR12x28.out.mono (by omega)) (cmpZ_zero za)) (fun e w2 he => by obtain ⟨rfl, hb⟩ := he; exact ⟨_, rfl, _, rfl, rfl, hb, hs.trans (hb.mono hs.size)⟩)⟩
    · intro a' w' ha hs hw
      obtain ⟨v26, e26, q26⟩ := hw 26 (by kernel_rfl) _ _ _ rfl rfl rfl
      obtain rfl : v26 = Value.bool true := q26
      have eo8 : a'.tmps[8]? = some (Value.pointer (some ⟨ga, 0, none⟩)) := (ha.rest 8 (by kernel_rfl)).trans rfl
      exact ⟨wanted_some rfl rfl rfl e26, wp_val (run_load rfl (ev_tmp eo8) (BXa.out.next hs rfl)) ⟨_, rfl, rfl, Below.refl _ _, hs⟩⟩
    · intro a' w' ha hs hw
      obtain ⟨v26, e26, q26⟩ := hw 26 (by kernel_rfl) _ _ _ rfl rfl rfl
      obtain rfl : v26 = Value.bool true := q26
      obtain ⟨v30, e30, q30⟩ := hw 30 (by kernel_rfl) _ _ _ rfl rfl rfl
      obtain rfl : v30 = .agg #[.bool sa, .slice Xa pa qa] := q30
      exact ⟨wanted_some rfl rfl rfl e26, call_step rfl Try.func41 (by kernel_rfl) rfl (map_one (ev_tmp e30)) (sign_is _ (za) (sg za) _ (iv_next IVa.out hs rfl) (SZa.out.mono (by omega)) (rfl)) (fun e w2 he => by obtain ⟨rfl, hb⟩ := he; exact ⟨_, rfl, _, rfl, rfl, hb, hs.trans (hb.mono hs.size)⟩)⟩
    · intro a' w' ha hs hw
      obtain ⟨v26, e26, q26⟩ := hw 26 (by kernel_rfl) _ _ _ rfl rfl rfl
      obtain rfl : v26 = Value.bool true := q26
      obtain ⟨v29, e29, q29⟩ := hw 29 (by kernel_rfl) _ _ _ rfl rfl rfl
      obtain rfl : v29 = Value.int IntKind.i64 (sg za) := q29
      obtain ⟨v31, e31, q31⟩ := hw 31 (by kernel_rfl) _ _ _ rfl rfl rfl
      obtain rfl : v31 = Value.int IntKind.i64 (sg za) := q31
      exact ⟨wanted_some rfl rfl rfl e26, wp_val ((show _ = _ from by rw [run_eql_int rfl (ev_tmp e29) (ev_tmp e31)]; simp)) ⟨_, rfl, rfl, Below.refl _ _, hs⟩⟩
    · intro a' w' ha hs hw
      obtain ⟨v26, e26, q26⟩ := hw 26 (by kernel_rfl) _ _ _ rfl rfl rfl
      obtain rfl : v26 = Value.bool true := q26
      obtain ⟨v32, e32, q32⟩ := hw 32 (by kernel_rfl) _ _ _ rfl rfl rfl
      obtain rfl : v32 = Value.bool true := q32
      exact ⟨wanted_none rfl, wp_val (run_pick (b := true) rfl (ev_tmp e26) (ev_tmp e32)) ⟨_, rfl, rfl, Below.refl _ _, hs⟩⟩
    · intro a' w' ha hs hw
      obtain ⟨v33, e33, q33⟩ := hw 33 (by kernel_rfl) _ _ _ rfl rfl rfl
      obtain rfl : v33 = Value.bool true := q33
      exact ⟨wanted_none rfl, wp_val (run_assign rfl (ev_tmp e33)) ⟨_, rfl, rfl, Below.refl _ _, hs⟩⟩
  simp only [allK]
  intro r12x0 _ r12x1 _ r12x2 _ r12x3 _ r12x4 _
  simp only [setAll, List.set_cons_succ, List.set_cons_zero]
  refine hK _ _ ?_
  clear hK K
  clear SR12x4
  clear SR12x7
  clear SR12x15
  clear SR12x18
  clear SR12x28
  replace BXa := Lib.hid (BXa.out.next hs rfl); replace IVa := Lib.hid (iv_next IVa.out hs rfl)
  replace BXb := Lib.hid (BXb.out.next hs rfl); replace IVb := Lib.hid (iv_next IVb.out hs rfl)
  replace BXc := Lib.hid (BXc.out.next hs rfl); replace IVc := Lib.hid (iv_next IVc.out hs rfl)
  replace DW := Lib.hid (link_below DW.out hs (by have := DW.out.size; omega) rfl rfl rfl rfl)
  clear hs
  go_wp2
  go_ret
  exact ⟨by simp, by rw [hg]; exact DW.out⟩

set_option maxHeartbeats 16000000 in
set_option maxRecDepth 100000 in
theorem lawOrderE_any (b0 : Bool) (A0 : Option Addr) (n0 c0 : Nat) (ws0 : List Nat) (b1 : Bool) (A1 : Option Addr) (n1 c1 : Nat) (ws1 : List Nat) (b2 : Bool) (A2 : Option Addr) (n2 c2 : Nat) (ws2 : List Nat)  (w : World) (h0 : Wd w A0 n0 ws0) (m0 : n0 ≤ 9223372036854775807) (h1 : Wd w A1 n1 ws1) (m1 : n1 ≤ 9223372036854775807) (h2 : Wd w A2 n2 ws2) (m2 : n2 ≤ 9223372036854775807) (hx0 : sgn b1 (val (ws1.take 8)) < sgn b0 (val (ws0.take 8))) :
    Calls Try.prog 6 #[.agg #[.bool b0, .slice A0 n0 c0], .agg #[.bool b1, .slice A1 n1 c1], .agg #[.bool b2, .slice A2 n2 c2]] w fun e w' => e = .returned (.bool true) ∧ Below w.heap.size w w' := by
  obtain ⟨za, hza⟩ : ∃ z, z = sgn b0 (val (ws0.take 8)) := ⟨_, rfl⟩
  have SZa : Hid (Sz za 8) := by rw [hza]; exact sz_take _ _ _ h0.wds
  obtain ⟨zb, hzb⟩ : ∃ z, z = sgn b1 (val (ws1.take 8)) := ⟨_, rfl⟩
  have SZb : Hid (Sz zb 8) := by rw [hzb]; exact sz_take _ _ _ h1.wds
  obtain ⟨zc, hzc⟩ : ∃ z, z = sgn b2 (val (ws2.take 8)) := ⟨_, rfl⟩
  have SZc : Hid (Sz zc 8) := by rw [hzc]; exact sz_take _ _ _ h2.wds
  simp only [← hza, ← hzb, ← hzc] at hx0
  go_enter Try.func6, Try.ntmps6
  go_wp2_with fail
  obtain ⟨W, hW⟩ : ∃ W, W = (((w.alloc (Obj.cells #[Value.bool b0, Value.slice A0 n0 c0] 24)).alloc (Obj.cells #[Value.bool b1, Value.slice A1 n1 c1] 24)).alloc (Obj.cells #[Value.bool b2, Value.slice A2 n2 c2] 24)) := ⟨_, rfl⟩
  rw [← hW]
  have RX0 : Hid (RBox W (w.heap.size) b0 (.slice A0 n0 c0)) := by rw [hW]; have := ((RBox.new w b0 (.slice A0 n0 c0)).alloc (Obj.cells #[Value.bool b1, Value.slice A1 n1 c1] 24)).alloc (Obj.cells #[Value.bool b2, Value.slice A2 n2 c2] 24); simpa [Hid] using this
  have RW0 : Hid (Wd W A0 n0 ws0) := by rw [hW]; exact (((h0).alloc _).alloc _).alloc _
  have RX1 : Hid (RBox W (w.heap.size + 1) b1 (.slice A1 n1 c1)) := by rw [hW]; have := (RBox.new (w.alloc (Obj.cells #[Value.bool b0, Value.slice A0 n0 c0] 24)) b1 (.slice A1 n1 c1)).alloc (Obj.cells #[Value.bool b2, Value.slice A2 n2 c2] 24); simpa [Hid] using this
  have RW1 : Hid (Wd W A1 n1 ws1) := by rw [hW]; exact (((h1).alloc _).alloc _).alloc _
  have RX2 : Hid (RBox W (w.heap.size + 1 + 1) b2 (.slice A2 n2 c2)) := by rw [hW]; have := RBox.new ((w.alloc (Obj.cells #[Value.bool b0, Value.slice A0 n0 c0] 24)).alloc (Obj.cells #[Value.bool b1, Value.slice A1 n1 c1] 24)) b2 (.slice A2 n2 c2); simpa [Hid] using this
  have RW2 : Hid (Wd W A2 n2 ws2) := by rw [hW]; exact (((h2).alloc _).alloc _).alloc _
  have DW : Hid (Below w.heap.size w W) := by rw [hW]; exact (((Below.refl _ _).alloc (by simp <;> omega) _).alloc (by simp <;> omega) _).alloc (by simp <;> omega) _
  clear hW h0 h1 h2
  generalize hg : w.heap.size = g at *
  refine (sanity_any _).mono ?_
  rintro e w1 ⟨rfl, hb1⟩
  replace RX0 := Lib.hid (RX0.out.next hb1 rfl); replace RW0 := Lib.hid (RW0.out.next hb1 rfl)
  replace RX1 := Lib.hid (RX1.out.next hb1 rfl); replace RW1 := Lib.hid (RW1.out.next hb1 rfl)
  replace RX2 := Lib.hid (RX2.out.next hb1 rfl); replace RW2 := Lib.hid (RW2.out.next hb1 rfl)
  replace DW := Lib.hid (link_below DW.out hb1 (by have := DW.out.size; omega) rfl rfl rfl rfl)
  clear hb1
  have u1 := RX0.out.cell0; have u2 := RX0.out.cell1
  go_wp2_with fail
  clear u1 u2
  refine (rmade_raw b0 A0 n0 c0 8 8 ws0 _ RW0.out rfl (by omega) m0).mono ?_
  rw [← hza]
  rintro e y1 ⟨_, rfl, hq, hb⟩
  clear RX0 RW0
  obtain ⟨Xa, pa, qa, rfl, _, _, _⟩ := hq.form
  have Q := Lib.hid hq; have B := Lib.hid hb; clear hq hb
  generalize hs : decide ((za : Int) < 0) = sa at *
  clear hs
  go_upto_region 5 with fail
  obtain ⟨W2, hW⟩ : ∃ W2, W2 = y1.alloc (Obj.cells #[Value.bool sa, Value.slice Xa pa qa] 27) := ⟨_, rfl⟩
  rw [← hW]
  have BXa : Hid (Box W2 y1.heap.size sa (.slice Xa pa qa)) := by rw [hW]; exact Box.new _ _ _
  have IVa : Hid (Iv W2 (.agg #[.bool sa, .slice Xa pa qa]) (za)) := by rw [hW]; exact Q.out.alloc _
  have hd : Below w1.heap.size w1 W2 := by rw [hW]; exact B.out.alloc B.out.size _
  clear hW Q B
  generalize hgn : y1.heap.size = ga at *
  clear hgn
  replace RX1 := Lib.hid (RX1.out.next hd rfl); replace RW1 := Lib.hid (RW1.out.next hd rfl)
  replace RX2 := Lib.hid (RX2.out.next hd rfl); replace RW2 := Lib.hid (RW2.out.next hd rfl)
  replace DW := Lib.hid (link_below DW.out hd (by have := DW.out.size; omega) rfl rfl rfl rfl)
  clear hd
  have u1 := RX1.out.cell0; have u2 := RX1.out.cell1
  go_wp2_with fail
  clear u1 u2
  refine (rmade_raw b1 A1 n1 c1 8 8 ws1 _ RW1.out rfl (by omega) m1).mono ?_
  rw [← hzb]
  rintro e y3 ⟨_, rfl, hq, hb⟩
  clear RX1 RW1
  obtain ⟨Xb, pb, qb, rfl, _, _, _⟩ := hq.form
  have Q := Lib.hid hq; have B := Lib.hid hb; clear hq hb
  generalize hs : decide ((zb : Int) < 0) = sb at *
  clear hs
  go_upto_region 6 with fail
  obtain ⟨W4, hW⟩ : ∃ W4, W4 = y3.alloc (Obj.cells #[Value.bool sb, Value.slice Xb pb qb] 27) := ⟨_, rfl⟩
  rw [← hW]
  have BXb : Hid (Box W4 y3.heap.size sb (.slice Xb pb qb)) := by rw [hW]; exact Box.new _ _ _
  have IVb : Hid (Iv W4 (.agg #[.bool sb, .slice Xb pb qb]) (zb)) := by rw [hW]; exact Q.out.alloc _
  have hd : Below W2.heap.size W2 W4 := by rw [hW]; exact B.out.alloc B.out.size _
  clear hW Q B
  generalize hgn : y3.heap.size = gb at *
  clear hgn
  replace BXa := Lib.hid (BXa.out.next hd rfl); replace IVa := Lib.hid (iv_next IVa.out hd rfl)
  replace RX2 := Lib.hid (RX2.out.next hd rfl); replace RW2 := Lib.hid (RW2.out.next hd rfl)
  replace DW := Lib.hid (link_below DW.out hd (by have := DW.out.size; omega) rfl rfl rfl rfl)
  clear hd
  have u1 := RX2.out.cell0; have u2 := RX2.out.cell1
  go_wp2_with fail
  clear u1 u2
  refine (rmade_raw b2 A2 n2 c2 8 8 ws2 _ RW2.out rfl (by omega) m2).mono ?_
  rw [← hzc]
  rintro e y5 ⟨_, rfl, hq, hb⟩
  clear RX2 RW2
  obtain ⟨Xc, pc, qc, rfl, _, _, _⟩ := hq.form
  have Q := Lib.hid hq; have B := Lib.hid hb; clear hq hb
  generalize hs : decide ((zc : Int) < 0) = sc at *
  clear hs
  go_upto_region 7 with fail
  obtain ⟨W6, hW⟩ : ∃ W6, W6 = y5.alloc (Obj.cells #[Value.bool sc, Value.slice Xc pc qc] 27) := ⟨_, rfl⟩
  rw [← hW]
  have BXc : Hid (Box W6 y5.heap.size sc (.slice Xc pc qc)) := by rw [hW]; exact Box.new _ _ _
  have IVc : Hid (Iv W6 (.agg #[.bool sc, .slice Xc pc qc]) (zc)) := by rw [hW]; exact Q.out.alloc _
  have hd : Below W4.heap.size W4 W6 := by rw [hW]; exact B.out.alloc B.out.size _
  clear hW Q B
  generalize hgn : y5.heap.size = gc at *
  clear hgn
  replace BXa := Lib.hid (BXa.out.next hd rfl); replace IVa := Lib.hid (iv_next IVa.out hd rfl)
  replace BXb := Lib.hid (BXb.out.next hd rfl); replace IVb := Lib.hid (iv_next IVb.out hd rfl)
  replace DW := Lib.hid (link_below DW.out hd (by have := DW.out.size; omega) rfl rfl rfl rfl)
  clear hd
  have u7a := BXa.out.cell0; have u7b := BXa.out.cell1
  have u8a := BXb.out.cell0; have u8b := BXb.out.cell1
  go_wp2_with fail
  clear u7a u7b u8a u8b
  refine (cmp_is _ _ (za) (zb) (1) _ IVa.out IVb.out (SZa.out.mono (by omega)) (SZb.out.mono (by omega)) (by unfold cmpZ; split <;> first | omega | (split <;> omega))).mono ?_
  rintro e y9 ⟨rfl, hb⟩
  replace BXa := Lib.hid (BXa.out.next hb rfl); replace IVa := Lib.hid (iv_next IVa.out hb rfl)
  replace BXb := Lib.hid (BXb.out.next hb rfl); replace IVb := Lib.hid (iv_next IVb.out hb rfl)
  replace BXc := Lib.hid (BXc.out.next hb rfl); replace IVc := Lib.hid (iv_next IVc.out hb rfl)
  replace DW := Lib.hid (link_below DW.out hb (by have := DW.out.size; omega) rfl rfl rfl rfl)
  clear hb
  go_upto_region 8 with fail
  have SR8x16 : Hid (Sz (-(za)) 8) := (Sz.neg SZa.out)
  have SR8x18 : Hid (Sz (-(zb)) 8) := (Sz.neg SZb.out)
  have SR8x27 : Hid (Sz ((za) - (zb)) 9) := (Sz.sub (N := 8) (SZa.out.mono (by omega)) (SZb.out.mono (by omega)))
  refine region_run (fun w' => Below y9.heap.size y9 w') [.is (Value.int IntKind.i64 (1)), .is (Value.bool false), .is (Value.bool false), .is (Value.int IntKind.i64 (1)), .is (Value.bool false), .is (Value.bool false), .is (Value.bool false), .is (.agg #[.bool sb, .slice Xb pb qb]), .is (.agg #[.bool sa, .slice Xa pa qa]), .is (Value.int IntKind.i64 (-1)), .is (Value.int IntKind.i64 (1)), .is (Value.int IntKind.i64 (-1)), .is (Value.bool false), .is (Value.bool false), .is (Value.bool false), .is (.agg #[.bool sa, .slice Xa pa qa]), .iv (-(za)), .is (.agg #[.bool sb, .slice Xb pb qb]), .iv (-(zb)), .is (Value.int IntKind.i64 (-1)), .is (Value.int IntKind.i64 (1)), .is (Value.int IntKind.i64 (-1)), .is (Value.bool false), .is (Value.bool false), .is (Value.bool false), .is (.agg #[.bool sa, .slice Xa pa qa]), .is (.agg #[.bool sb, .slice Xb pb qb]), .iv ((za) - (zb)), .is (Value.int IntKind.i64 (1)), .is (Value.int IntKind.i64 (1)), .is (Value.bool false), .is (Value.bool false)] [24, 25, 26, 27, 28, 29, 30, 31, 32, 33, 34, 35, 36, 37, 38, 39, 40, 41, 42, 43, 44, 45, 46, 47, 48, 49, 50, 51, 52, 53, 54, 55] (by kernel_rfl) (by kernel_rfl) (by kernel_rfl) (by rfl) (by kernel_rfl) ((Below.refl _ _).drew) (fun Q' => ?_) (fun K hK wn hs => ?_)
  · refine ⟨?_, ?_, ?_, ?_, ?_, ?_, ?_, ?_, ?_, ?_, ?_, ?_, ?_, ?_, ?_, ?_, ?_, ?_, ?_, ?_, ?_, ?_, ?_, ?_, ?_, ?_, ?_, ?_, ?_, ?_, ?_, ?_, trivial⟩
    · intro a' w' ha hs hw
      have eo11 : a'.tmps[11]? = some (Value.int IntKind.i64 (1)) := (ha.rest 11 (by kernel_rfl)).trans rfl
      exact ⟨wanted_none rfl, wp_val (run_move rfl (ev_tmp eo11)) ⟨_, rfl, rfl, Below.refl _ _, hs⟩⟩
    · intro a' w' ha hs hw
      obtain ⟨v0, e0, q0⟩ := hw 0 (by kernel_rfl) _ _ _ rfl rfl rfl
      obtain rfl : v0 = Value.int IntKind.i64 (1) := q0
      exact ⟨wanted_none rfl, wp_val (run_lss_int rfl (ev_tmp e0) rfl) ⟨_, rfl, congrArg Value.bool (by decide), Below.refl _ _, hs⟩⟩
    · intro a' w' ha hs hw
      obtain ⟨v1, e1, q1⟩ := hw 1 (by kernel_rfl) _ _ _ rfl rfl rfl
      obtain rfl : v1 = Value.bool false := q1
      exact ⟨wanted_none rfl, wp_val (run_move rfl (ev_tmp e1)) ⟨_, rfl, rfl, Below.refl _ _, hs⟩⟩
    · intro a' w' ha hs hw
      obtain ⟨v2, e2, q2⟩ := hw 2 (by kernel_rfl) _ _ _ rfl rfl rfl
      obtain rfl : v2 = Value.bool false := q2
      have eo11 : a'.tmps[11]? = some (Value.int IntKind.i64 (1)) := (ha.rest 11 (by kernel_rfl)).trans rfl
      exact ⟨wanted_some rfl rfl rfl e2, wp_val (run_move rfl (ev_tmp eo11)) ⟨_, rfl, rfl, Below.refl _ _, hs⟩⟩
    · intro a' w' ha hs hw
      obtain ⟨v2, e2, q2⟩ := hw 2 (by kernel_rfl) _ _ _ rfl rfl rfl
      obtain rfl : v2 = Value.bool false := q2
      obtain ⟨v3, e3, q3⟩ := hw 3 (by kernel_rfl) _ _ _ rfl rfl rfl
      obtain rfl : v3 = Value.int IntKind.i64 (1) := q3
      exact ⟨wanted_some rfl rfl rfl e2, wp_val (run_gtr_int rfl (ev_tmp e3) rfl) ⟨_, rfl, congrArg Value.bool (by decide), Below.refl _ _, hs⟩⟩
    · intro a' w' ha hs hw
      obtain ⟨v2, e2, q2⟩ := hw 2 (by kernel_rfl) _ _ _ rfl rfl rfl
      obtain rfl : v2 = Value.bool false := q2
      obtain ⟨v4, e4, q4⟩ := hw 4 (by kernel_rfl) _ _ _ rfl rfl rfl
      obtain rfl : v4 = Value.bool false := q4
      exact ⟨wanted_none rfl, wp_val (run_pick (b := false) rfl (ev_tmp e2) (ev_tmp e4)) ⟨_, rfl, rfl, Below.refl _ _, hs⟩⟩
    · intro a' w' ha hs hw
      obtain ⟨v5, e5, q5⟩ := hw 5 (by kernel_rfl) _ _ _ rfl rfl rfl
      obtain rfl : v5 = Value.bool false := q5
      exact ⟨wanted_none rfl, wp_val (run_move rfl (ev_tmp e5)) ⟨_, rfl, rfl, Below.refl _ _, hs⟩⟩
    · intro a' w' ha hs hw
      obtain ⟨v6, e6, q6⟩ := hw 6 (by kernel_rfl) _ _ _ rfl rfl rfl
      obtain rfl : v6 = Value.bool false := q6
      have eo9 : a'.tmps[9]? = some (Value.pointer (some ⟨gb, 0, none⟩)) := (ha.rest 9 (by kernel_rfl)).trans rfl
      exact ⟨wanted_some rfl rfl rfl e6, wp_val (run_load rfl (ev_tmp eo9) (BXb.out.next hs rfl)) ⟨_, rfl, rfl, Below.refl _ _, hs⟩⟩
    · intro a' w' ha hs hw
      obtain ⟨v6, e6, q6⟩ := hw 6 (by kernel_rfl) _ _ _ rfl rfl rfl
      obtain rfl : v6 = Value.bool false := q6
      have eo8 : a'.tmps[8]? = some (Value.pointer (some ⟨ga, 0, none⟩)) := (ha.rest 8 (by kernel_rfl)).trans rfl
      exact ⟨wanted_some rfl rfl rfl e6, wp_val (run_load rfl (ev_tmp eo8) (BXa.out.next hs rfl)) ⟨_, rfl, rfl, Below.refl _ _, hs⟩⟩
    · intro a' w' ha hs hw
      obtain ⟨v6, e6, q6⟩ := hw 6 (by kernel_rfl) _ _ _ rfl rfl rfl
      obtain rfl : v6 = Value.bool false := q6
      obtain ⟨v7, e7, q7⟩ := hw 7 (by kernel_rfl) _ _ _ rfl rfl rfl
      obtain rfl : v7 = .agg #[.bool sb, .slice Xb pb qb] := q7
      obtain ⟨v8, e8, q8⟩ := hw 8 (by kernel_rfl) _ _ _ rfl rfl rfl
      obtain rfl : v8 = .agg #[.bool sa, .slice Xa pa qa] := q8
      exact ⟨wanted_some rfl rfl rfl e6, call_step rfl Try.func24 (by kernel_rfl) rfl (map_two (ev_tmp e7) (ev_tmp e8)) (cmp_is _ _ (zb) (za) (-1) _ (iv_next IVb.out hs rfl) (iv_next IVa.out hs rfl) (SZb.out.mono (by omega)) (SZa.out.mono (by omega)) (by unfold cmpZ; split <;> first | omega | (split <;> omega))) (fun e w2 he => by obtain ⟨rfl, hb⟩ := he; exact ⟨_, rfl, _, rfl, rfl, hb, hs.trans (hb.mono hs.size)⟩)⟩
    · intro a' w' ha hs hw
      obtain ⟨v6, e6, q6⟩ := hw 6 (by kernel_rfl) _ _ _ rfl rfl rfl
      obtain rfl : v6 = Value.bool false := q6
      have eo11 : a'.tmps[11]? = some (Value.int IntKind.i64 (1)) := (ha.rest 11 (by kernel_rfl)).trans rfl
      exact ⟨wanted_some rfl rfl rfl e6, wp_val (run_move rfl (ev_tmp eo11)) ⟨_, rfl, rfl, Below.refl _ _, hs⟩⟩
    · intro a' w' ha hs hw
      obtain ⟨v6, e6, q6⟩ := hw 6 (by kernel_rfl) _ _ _ rfl rfl rfl
      obtain rfl : v6 = Value.bool false := q6
      obtain ⟨v10, e10, q10⟩ := hw 10 (by kernel_rfl) _ _ _ rfl rfl rfl
      obtain rfl : v10 = Value.int IntKind.i64 (1) := q10
      exact ⟨wanted_some rfl rfl rfl e6, wp_val (run_neg_i64 rfl (ev_tmp e10) (by decide)) ⟨_, rfl, rfl, Below.refl _ _, hs⟩⟩
    · intro a' w' ha hs hw
      obtain ⟨v6, e6, q6⟩ := hw 6 (by kernel_rfl) _ _ _ rfl rfl rfl
      obtain rfl : v6 = Value.bool false := q6
      obtain ⟨v9, e9, q9⟩ := hw 9 (by kernel_rfl) _ _ _ rfl rfl rfl
      obtain rfl : v9 = Value.int IntKind.i64 (-1) := q9
      obtain ⟨v11, e11, q11⟩ := hw 11 (by kernel_rfl) _ _ _ rfl rfl rfl
      obtain rfl : v11 = Value.int IntKind.i64 (-1) := q11
      exact ⟨wanted_some rfl rfl rfl e6, wp_val (run_neq_int rfl (ev_tmp e9) (ev_tmp e11)) ⟨_, rfl, congrArg Value.bool (by decide), Below.refl _ _, hs⟩⟩
    · intro a' w' ha hs hw
      obtain ⟨v6, e6, q6⟩ := hw 6 (by kernel_rfl) _ _ _ rfl rfl rfl
      obtain rfl : v6 = Value.bool false := q6
      obtain ⟨v12, e12, q12⟩ := hw 12 (by kernel_rfl) _ _ _ rfl rfl rfl
      obtain rfl : v12 = Value.bool false := q12
      exact ⟨wanted_none rfl, wp_val (run_pick (b := false) rfl (ev_tmp e6) (ev_tmp e12)) ⟨_, rfl, rfl, Below.refl _ _, hs⟩⟩
    · intro a' w' ha hs hw
      obtain ⟨v13, e13, q13⟩ := hw 13 (by kernel_rfl) _ _ _ rfl rfl rfl
      obtain rfl : v13 = Value.bool false := q13
      exact ⟨wanted_none rfl, wp_val (run_move rfl (ev_tmp e13)) ⟨_, rfl, rfl, Below.refl _ _, hs⟩⟩
    · intro a' w' ha hs hw
      obtain ⟨v14, e14, q14⟩ := hw 14 (by kernel_rfl) _ _ _ rfl rfl rfl
      obtain rfl : v14 = Value.bool false := q14
      have eo8 : a'.tmps[8]? = some (Value.pointer (some ⟨ga, 0, none⟩)) := (ha.rest 8 (by kernel_rfl)).trans rfl
      exact ⟨wanted_some rfl rfl rfl e14, wp_val (run_load rfl (ev_tmp eo8) (BXa.out.next hs rfl)) ⟨_, rfl, rfl, Below.refl _ _, hs⟩⟩
    · intro a' w' ha hs hw
      obtain ⟨v14, e14, q14⟩ := hw 14 (by kernel_rfl) _ _ _ rfl rfl rfl
      obtain rfl : v14 = Value.bool false := q14
      obtain ⟨v15, e15, q15⟩ := hw 15 (by kernel_rfl) _ _ _ rfl rfl rfl
      obtain rfl : v15 = .agg #[.bool sa, .slice Xa pa qa] := q15
      exact ⟨wanted_some rfl rfl rfl e14, call_step rfl Try.func39 (by kernel_rfl) rfl (map_one (ev_tmp e15)) (neg_any _ (za) _ (iv_next IVa.out hs rfl) (SZa.out.mono (by omega))) (fun e w2 he => by obtain ⟨v, rfl, hv, hb⟩ := he; exact ⟨v, rfl, v, rfl, hv, hb, hs.trans (hb.mono hs.size)⟩)⟩
    · intro a' w' ha hs hw
      obtain ⟨v14, e14, q14⟩ := hw 14 (by kernel_rfl) _ _ _ rfl rfl rfl
      obtain rfl : v14 = Value.bool false := q14
      have eo9 : a'.tmps[9]? = some (Value.pointer (some ⟨gb, 0, none⟩)) := (ha.rest 9 (by kernel_rfl)).trans rfl
      exact ⟨wanted_some rfl rfl rfl e14, wp_val (run_load rfl (ev_tmp eo9) (BXb.out.next hs rfl)) ⟨_, rfl, rfl, Below.refl _ _, hs⟩⟩
    · intro a' w' ha hs hw
      obtain ⟨v14, e14, q14⟩ := hw 14 (by kernel_rfl) _ _ _ rfl rfl rfl
      obtain rfl : v14 = Value.bool false := q14
      obtain ⟨v17, e17, q17⟩ := hw 17 (by kernel_rfl) _ _ _ rfl rfl rfl
      obtain rfl : v17 = .agg #[.bool sb, .slice Xb pb qb] := q17
      exact ⟨wanted_some rfl rfl rfl e14, call_step rfl Try.func39 (by kernel_rfl) rfl (map_one (ev_tmp e17)) (neg_any _ (zb) _ (iv_next IVb.out hs rfl) (SZb.out.mono (by omega))) (fun e w2 he => by obtain ⟨v, rfl, hv, hb⟩ := he; exact ⟨v, rfl, v, rfl, hv, hb, hs.trans (hb.mono hs.size)⟩)⟩
    · intro a' w' ha hs hw
      obtain ⟨v14, e14, q14⟩ := hw 14 (by kernel_rfl) _ _ _ rfl rfl rfl
      obtain rfl : v14 = Value.bool false := q14
      obtain ⟨v16, e16, q16⟩ := hw 16 (by kernel_rfl) _ _ _ rfl rfl rfl
      replace q16 : Iv w' v16 (-(za)) := q16
      obtain ⟨v18, e18, q18⟩ := hw 18 (by kernel_rfl) _ _ _ rfl rfl rfl
      replace q18 : Iv w' v18 (-(zb)) := q18
      exact ⟨wanted_some rfl rfl rfl e14, call_step rfl Try.func24 (by kernel_rfl) rfl (map_two (ev_tmp e16) (ev_tmp e18)) (cmp_is _ _ (-(za)) (-(zb)) (-1) _ q16 q18 (SR8x16.out.mono (by omega)) (SR8x18.out.mono (by omega)) (by unfold cmpZ; split <;> first | omega | (split <;> omega))) (fun e w2 he => by obtain ⟨rfl, hb⟩ := he; exact ⟨_, rfl, _, rfl, rfl, hb, hs.trans (hb.mono hs.size)⟩)⟩
    · intro a' w' ha hs hw
      obtain ⟨v14, e14, q14⟩ := hw 14 (by kernel_rfl) _ _ _ rfl rfl rfl
      obtain rfl : v14 = Value.bool false := q14
      have eo11 : a'.tmps[11]? = some (Value.int IntKind.i64 (1)) := (ha.rest 11 (by kernel_rfl)).trans rfl
      exact ⟨wanted_some rfl rfl rfl e14, wp_val (run_move rfl (ev_tmp eo11)) ⟨_, rfl, rfl, Below.refl _ _, hs⟩⟩
    · intro a' w' ha hs hw
      obtain ⟨v14, e14, q14⟩ := hw 14 (by kernel_rfl) _ _ _ rfl rfl rfl
      obtain rfl : v14 = Value.bool false := q14
      obtain ⟨v20, e20, q20⟩ := hw 20 (by kernel_rfl) _ _ _ rfl rfl rfl
      obtain rfl : v20 = Value.int IntKind.i64 (1) := q20
      exact ⟨wanted_some rfl rfl rfl e14, wp_val (run_neg_i64 rfl (ev_tmp e20) (by decide)) ⟨_, rfl, rfl, Below.refl _ _, hs⟩⟩
    · intro a' w' ha hs hw
      obtain ⟨v14, e14, q14⟩ := hw 14 (by kernel_rfl) _ _ _ rfl rfl rfl
      obtain rfl : v14 = Value.bool false := q14
      obtain ⟨v19, e19, q19⟩ := hw 19 (by kernel_rfl) _ _ _ rfl rfl rfl
      obtain rfl : v19 = Value.int IntKind.i64 (-1) := q19
      obtain ⟨v21, e21, q21⟩ := hw 21 (by kernel_rfl) _ _ _ rfl rfl rfl
      obtain rfl : v21 = Value.int IntKind.i64 (-1) := q21
      exact ⟨wanted_some rfl rfl rfl e14, wp_val (run_neq_int rfl (ev_tmp e19) (ev_tmp e21)) ⟨_, rfl, congrArg Value.bool (by decide), Below.refl _ _, hs⟩⟩
    · intro a' w' ha hs hw
      obtain ⟨v14, e14, q14⟩ := hw 14 (by kernel_rfl) _ _ _ rfl rfl rfl
      obtain rfl : v14 = Value.bool false := q14
      obtain ⟨v22, e22, q22⟩ := hw 22 (by kernel_rfl) _ _ _ rfl rfl rfl
      obtain rfl : v22 = Value.bool false := q22
      exact ⟨wanted_none rfl, wp_val (run_pick (b := false) rfl (ev_tmp e14) (ev_tmp e22)) ⟨_, rfl, rfl, Below.refl _ _, hs⟩⟩
    · intro a' w' ha hs hw
      obtain ⟨v23, e23, q23⟩ := hw 23 (by kernel_rfl) _ _ _ rfl rfl rfl
      obtain rfl : v23 = Value.bool false := q23
      exact ⟨wanted_none rfl, wp_val (run_move rfl (ev_tmp e23)) ⟨_, rfl, rfl, Below.refl _ _, hs⟩⟩
    · intro a' w' ha hs hw
      obtain ⟨v24, e24, q24⟩ := hw 24 (by kernel_rfl) _ _ _ rfl rfl rfl
      obtain rfl : v24 = Value.bool false := q24
      have eo8 : a'.tmps[8]? = some (Value.pointer (some ⟨ga, 0, none⟩)) := (ha.rest 8 (by kernel_rfl)).trans rfl
      exact ⟨wanted_some rfl rfl rfl e24, wp_val (run_load rfl (ev_tmp eo8) (BXa.out.next hs rfl)) ⟨_, rfl, rfl, Below.refl _ _, hs⟩⟩
    · intro a' w' ha hs hw
      obtain ⟨v24, e24, q24⟩ := hw 24 (by kernel_rfl) _ _ _ rfl rfl rfl
      obtain rfl : v24 = Value.bool false := q24
      have eo9 : a'.tmps[9]? = some (Value.pointer (some ⟨gb, 0, none⟩)) := (ha.rest 9 (by kernel_rfl)).trans rfl
      exact ⟨wanted_some rfl rfl rfl e24, wp_val (run_load rfl (ev_tmp eo9) (BXb.out.next hs rfl)) ⟨_, rfl, rfl, Below.refl _ _, hs⟩⟩
    · intro a' w' ha hs hw
      obtain ⟨v24, e24, q24⟩ := hw 24 (by kernel_rfl) _ _ _ rfl rfl rfl
      obtain rfl : v24 = Value.bool false := q24
      obtain ⟨v25, e25, q25⟩ := hw 25 (by kernel_rfl) _ _ _ rfl rfl rfl
      obtain rfl : v25 = .agg #[.bool sa, .slice Xa pa qa] := q25
      obtain ⟨v26, e26, q26⟩ := hw 26 (by kernel_rfl) _ _ _ rfl rfl rfl
      obtain rfl : v26 = .agg #[.bool sb, .slice Xb pb qb] := q26
      exact ⟨wanted_some rfl rfl rfl e24, call_step rfl Try.func28 (by kernel_rfl) rfl (map_two (ev_tmp e25) (ev_tmp e26)) (sub_any _ _ (za) (zb) _ (iv_next IVa.out hs rfl) (iv_next IVb.out hs rfl) (SZa.out.mono (by omega)) (SZb.out.mono (by omega))) (fun e w2 he => by obtain ⟨v, rfl, hv, hb⟩ := he; exact ⟨v, rfl, v, rfl, hv, hb, hs.trans (hb.mono hs.size)⟩)⟩
    · intro a' w' ha hs hw
      obtain ⟨v24, e24, q24⟩ := hw 24 (by kernel_rfl) _ _ _ rfl rfl rfl
      obtain rfl : v24 = Value.bool false := q24
      obtain ⟨v27, e27, q27⟩ := hw 27 (by kernel_rfl) _ _ _ rfl rfl rfl
      replace q27 : Iv w' v27 ((za) - (zb)) := q27
      exact ⟨wanted_some rfl rfl rfl e24, call_step rfl Try.func41 (by kernel_rfl) rfl (map_one (ev_tmp e27)) (sign_is _ ((za) - (zb)) (1) _ q27 (SR8x27.out.mono (by omega)) (by unfold sg; split <;> first | omega | (split <;> omega))) (fun e w2 he => by obtain ⟨rfl, hb⟩ := he; exact ⟨_, rfl, _, rfl, rfl, hb, hs.trans (hb.mono hs.size)⟩)⟩
    · intro a' w' ha hs hw
      obtain ⟨v24, e24, q24⟩ := hw 24 (by kernel_rfl) _ _ _ rfl rfl rfl
      obtain rfl : v24 = Value.bool false := q24
      have eo11 : a'.tmps[11]? = some (Value.int IntKind.i64 (1)) := (ha.rest 11 (by kernel_rfl)).trans rfl
      exact ⟨wanted_some rfl rfl rfl e24, wp_val (run_move rfl (ev_tmp eo11)) ⟨_, rfl, rfl, Below.refl _ _, hs⟩⟩
    · intro a' w' ha hs hw
      obtain ⟨v24, e24, q24⟩ := hw 24 (by kernel_rfl) _ _ _ rfl rfl rfl
      obtain rfl : v24 = Value.bool false := q24
      obtain ⟨v28, e28, q28⟩ := hw 28 (by kernel_rfl) _ _ _ rfl rfl rfl
      obtain rfl : v28 = Value.int IntKind.i64 (1) := q28
      obtain ⟨v29, e29, q29⟩ := hw 29 (by kernel_rfl) _ _ _ rfl rfl rfl
      obtain rfl : v29 = Value.int IntKind.i64 (1) := q29
      exact ⟨wanted_some rfl rfl rfl e24, wp_val (run_neq_int rfl (ev_tmp e28) (ev_tmp e29)) ⟨_, rfl, congrArg Value.bool (by decide), Below.refl _ _, hs⟩⟩
    · intro a' w' ha hs hw
      obtain ⟨v24, e24, q24⟩ := hw 24 (by kernel_rfl) _ _ _ rfl rfl rfl
      obtain rfl : v24 = Value.bool false := q24
      obtain ⟨v30, e30, q30⟩ := hw 30 (by kernel_rfl) _ _ _ rfl rfl rfl
      obtain rfl : v30 = Value.bool false := q30
      exact ⟨wanted_none rfl, wp_val (run_pick (b := false) rfl (ev_tmp e24) (ev_tmp e30)) ⟨_, rfl, rfl, Below.refl _ _, hs⟩⟩
  simp only [allK]
  intro r8x0 _ r8x1 _ r8x2 _
  simp only [setAll, List.set_cons_succ, List.set_cons_zero]
  refine hK _ _ ?_
  clear hK K
  clear SR8x16
  clear SR8x18
  clear SR8x27
  replace BXa := Lib.hid (BXa.out.next hs rfl); replace IVa := Lib.hid (iv_next IVa.out hs rfl)
  replace BXb := Lib.hid (BXb.out.next hs rfl); replace IVb := Lib.hid (iv_next IVb.out hs rfl)
  replace BXc := Lib.hid (BXc.out.next hs rfl); replace IVc := Lib.hid (iv_next IVc.out hs rfl)
  replace DW := Lib.hid (link_below DW.out hs (by have := DW.out.size; omega) rfl rfl rfl rfl)
  clear hs
  go_upto_region 12 with fail
  have SR12x4 : Hid (Sz ((za) + (zc)) 9) := (Sz.add (N := 8) (SZa.out.mono (by omega)) (SZc.out.mono (by omega)))
  have SR12x7 : Hid (Sz ((zb) + (zc)) 9) := (Sz.add (N := 8) (SZb.out.mono (by omega)) (SZc.out.mono (by omega)))
  have SR12x15 : Hid (Sz ((za) * (zc)) 16) := (Sz.mul SZa.out SZc.out)
  have SR12x18 : Hid (Sz ((zb) * (zc)) 16) := (Sz.mul SZb.out SZc.out)
  have SR12x28 : Hid (Sz (0) 2) := I64.sz ⟨by omega, by omega⟩
  refine region_run (fun w' => Below wn.heap.size wn w') [.is (Value.bool true), .is (Value.bool true), .is (.agg #[.bool sa, .slice Xa pa qa]), .is (.agg #[.bool sc, .slice Xc pc qc]), .iv ((za) + (zc)), .is (.agg #[.bool sb, .slice Xb pb qb]), .is (.agg #[.bool sc, .slice Xc pc qc]), .iv ((zb) + (zc)), .is (Value.int IntKind.i64 (1)), .is (Value.int IntKind.i64 (1)), .is (Value.bool true), .is (Value.bool true), .is (Value.bool true), .is (.agg #[.bool sa, .slice Xa pa qa]), .is (.agg #[.bool sc, .slice Xc pc qc]), .iv ((za) * (zc)), .is (.agg #[.bool sb, .slice Xb pb qb]), .is (.agg #[.bool sc, .slice Xc pc qc]), .iv ((zb) * (zc)), .is (Value.int IntKind.i64 ((1) * sg zc)), .is (Value.int IntKind.i64 (1)), .is (.agg #[.bool sc, .slice Xc pc qc]), .is (Value.int IntKind.i64 (sg zc)), .is (Value.int IntKind.i64 ((1) * sg zc)), .is (Value.bool true), .is (Value.bool true), .is (Value.bool true), .is (.agg #[.bool sa, .slice Xa pa qa]), .iv ((0 : Int)), .is (Value.int IntKind.i64 (sg za)), .is (.agg #[.bool sa, .slice Xa pa qa]), .is (Value.int IntKind.i64 (sg za)), .is (Value.bool true), .is (Value.bool true), .is (Value.bool true)] [70, 71, 72, 73, 74, 75, 76, 77, 78, 79, 80, 81, 82, 83, 84, 85, 86, 87, 88, 89, 90, 91, 92, 93, 94, 95, 96, 97, 98, 99, 100, 101, 102, 103, 6] (by kernel_rfl) (by kernel_rfl) (by kernel_rfl) (by rfl) (by kernel_rfl) ((Below.refl _ _).drew) (fun Q' => ?_) (fun K hK wn hs => ?_)
  · refine ⟨?_, ?_, ?_, ?_, ?_, ?_, ?_, ?_, ?_, ?_, ?_, ?_, ?_, ?_, ?_, ?_, ?_, ?_, ?_, ?_, ?_, ?_, ?_, ?_, ?_, ?_, ?_, ?_, ?_, ?_, ?_, ?_, ?_, ?_, ?_, trivial⟩
    · intro a' w' ha hs hw
      have eo7 : a'.tmps[7]? = some (Value.bool true) := (ha.rest 7 (by kernel_rfl)).trans rfl
      exact ⟨wanted_none rfl, wp_val (run_move rfl (ev_tmp eo7)) ⟨_, rfl, rfl, Below.refl _ _, hs⟩⟩
    · intro a' w' ha hs hw
      obtain ⟨v0, e0, q0⟩ := hw 0 (by kernel_rfl) _ _ _ rfl rfl rfl
      obtain rfl : v0 = Value.bool true := q0
      exact ⟨wanted_none rfl, wp_val (run_move rfl (ev_tmp e0)) ⟨_, rfl, rfl, Below.refl _ _, hs⟩⟩
    · intro a' w' ha hs hw
      obtain ⟨v1, e1, q1⟩ := hw 1 (by kernel_rfl) _ _ _ rfl rfl rfl
      obtain rfl : v1 = Value.bool true := q1
      have eo8 : a'.tmps[8]? = some (Value.pointer (some ⟨ga, 0, none⟩)) := (ha.rest 8 (by kernel_rfl)).trans rfl
      exact ⟨wanted_some rfl rfl rfl e1, wp_val (run_load rfl (ev_tmp eo8) (BXa.out.next hs rfl)) ⟨_, rfl, rfl, Below.refl _ _, hs⟩⟩
    · intro a' w' ha hs hw
      obtain ⟨v1, e1, q1⟩ := hw 1 (by kernel_rfl) _ _ _ rfl rfl rfl
      obtain rfl : v1 = Value.bool true := q1
      have eo10 : a'.tmps[10]? = some (Value.pointer (some ⟨gc, 0, none⟩)) := (ha.rest 10 (by kernel_rfl)).trans rfl
      exact ⟨wanted_some rfl rfl rfl e1, wp_val (run_load rfl (ev_tmp eo10) (BXc.out.next hs rfl)) ⟨_, rfl, rfl, Below.refl _ _, hs⟩⟩
    · intro a' w' ha hs hw
      obtain ⟨v1, e1, q1⟩ := hw 1 (by kernel_rfl) _ _ _ rfl rfl rfl
      obtain rfl : v1 = Value.bool true := q1
      obtain ⟨v2, e2, q2⟩ := hw 2 (by kernel_rfl) _ _ _ rfl rfl rfl
      obtain rfl : v2 = .agg #[.bool sa, .slice Xa pa qa] := q2
      obtain ⟨v3, e3, q3⟩ := hw 3 (by kernel_rfl) _ _ _ rfl rfl rfl
      obtain rfl : v3 = .agg #[.bool sc, .slice Xc pc qc] := q3
      exact ⟨wanted_some rfl rfl rfl e1, call_step rfl Try.func26 (by kernel_rfl) rfl (map_two (ev_tmp e2) (ev_tmp e3)) (add_any _ _ (za) (zc) _ (iv_next IVa.out hs rfl) (iv_next IVc.out hs rfl) (SZa.out.mono (by omega)) (SZc.out.mono (by omega))) (fun e w2 he => by obtain ⟨v, rfl, hv, hb⟩ := he; exact ⟨v, rfl, v, rfl, hv, hb, hs.trans (hb.mono hs.size)⟩)⟩
    · intro a' w' ha hs hw
      obtain ⟨v1, e1, q1⟩ := hw 1 (by kernel_rfl) _ _ _ rfl rfl rfl
      obtain rfl : v1 = Value.bool true := q1
      have eo9 : a'.tmps[9]? = some (Value.pointer (some ⟨gb, 0, none⟩)) := (ha.rest 9 (by kernel_rfl)).trans rfl
      exact ⟨wanted_some rfl rfl rfl e1, wp_val (run_load rfl (ev_tmp eo9) (BXb.out.next hs rfl)) ⟨_, rfl, rfl, Below.refl _ _, hs⟩⟩
    · intro a' w' ha hs hw
      obtain ⟨v1, e1, q1⟩ := hw 1 (by kernel_rfl) _ _ _ rfl rfl rfl
      obtain rfl : v1 = Value.bool true := q1
      have eo10 : a'.tmps[10]? = some (Value.pointer (some ⟨gc, 0, none⟩)) := (ha.rest 10 (by kernel_rfl)).trans rfl
      exact ⟨wanted_some rfl rfl rfl e1, wp_val (run_load rfl (ev_tmp eo10) (BXc.out.next hs rfl)) ⟨_, rfl, rfl, Below.refl _ _, hs⟩⟩
    · intro a' w' ha hs hw
      obtain ⟨v1, e1, q1⟩ := hw 1 (by kernel_rfl) _ _ _ rfl rfl rfl
      obtain rfl : v1 = Value.bool true := q1
      obtain ⟨v5, e5, q5⟩ := hw 5 (by kernel_rfl) _ _ _ rfl rfl rfl
      obtain rfl : v5 = .agg #[.bool sb, .slice Xb pb qb] := q5
      obtain ⟨v6, e6, q6⟩ := hw 6 (by kernel_rfl) _ _ _ rfl rfl rfl
      obtain rfl : v6 = .agg #[.bool sc, .slice Xc pc qc] := q6
      exact ⟨wanted_some rfl rfl rfl e1, call_step rfl Try.func26 (by kernel_rfl) rfl (map_two (ev_tmp e5) (ev_tmp e6)) (add_any _ _ (zb) (zc) _ (iv_next IVb.out hs rfl) (iv_next IVc.out hs rfl) (SZb.out.mono (by omega)) (SZc.out.mono (by omega))) (fun e w2 he => by obtain ⟨v, rfl, hv, hb⟩ := he; exact ⟨v, rfl, v, rfl, hv, hb, hs.trans (hb.mono hs.size)⟩)⟩
    · intro a' w' ha hs hw
      obtain ⟨v1, e1, q1⟩ := hw 1 (by kernel_rfl) _ _ _ rfl rfl rfl
      obtain rfl : v1 = Value.bool true := q1
      obtain ⟨v4, e4, q4⟩ := hw 4 (by kernel_rfl) _ _ _ rfl rfl rfl
      replace q4 : Iv w' v4 ((za) + (zc)) := q4
      obtain ⟨v7, e7, q7⟩ := hw 7 (by kernel_rfl) _ _ _ rfl rfl rfl
      replace q7 : Iv w' v7 ((zb) + (zc)) := q7
      exact ⟨wanted_some rfl rfl rfl e1, call_step rfl Try.func24 (by kernel_rfl) rfl (map_two (ev_tmp e4) (ev_tmp e7)) (cmp_is _ _ ((za) + (zc)) ((zb) + (zc)) (1) _ q4 q7 (SR12x4.out.mono (by omega)) (SR12x7.out.mono (by omega)) (by unfold cmpZ; split <;> first | omega | (split <;> omega))) (fun e w2 he => by obtain ⟨rfl, hb⟩ := he; exact ⟨_, rfl, _, rfl, rfl, hb, hs.trans (hb.mono hs.size)⟩)⟩
    · intro a' w' ha hs hw
      obtain ⟨v1, e1, q1⟩ := hw 1 (by kernel_rfl) _ _ _ rfl rfl rfl
      obtain rfl : v1 = Value.bool true := q1
      have eo11 : a'.tmps[11]? = some (Value.int IntKind.i64 (1)) := (ha.rest 11 (by kernel_rfl)).trans rfl
      exact ⟨wanted_some rfl rfl rfl e1, wp_val (run_move rfl (ev_tmp eo11)) ⟨_, rfl, rfl, Below.refl _ _, hs⟩⟩
    · intro a' w' ha hs hw
      obtain ⟨v1, e1, q1⟩ := hw 1 (by kernel_rfl) _ _ _ rfl rfl rfl
      obtain rfl : v1 = Value.bool true := q1
      obtain ⟨v8, e8, q8⟩ := hw 8 (by kernel_rfl) _ _ _ rfl rfl rfl
      obtain rfl : v8 = Value.int IntKind.i64 (1) := q8
      obtain ⟨v9, e9, q9⟩ := hw 9 (by kernel_rfl) _ _ _ rfl rfl rfl
      obtain rfl : v9 = Value.int IntKind.i64 (1) := q9
      exact ⟨wanted_some rfl rfl rfl e1, wp_val (run_eql_int rfl (ev_tmp e8) (ev_tmp e9)) ⟨_, rfl, congrArg Value.bool (by decide), Below.refl _ _, hs⟩⟩
    · intro a' w' ha hs hw
      obtain ⟨v1, e1, q1⟩ := hw 1 (by kernel_rfl) _ _ _ rfl rfl rfl
      obtain rfl : v1 = Value.bool true := q1
      obtain ⟨v10, e10, q10⟩ := hw 10 (by kernel_rfl) _ _ _ rfl rfl rfl
      obtain rfl : v10 = Value.bool true := q10
      exact ⟨wanted_none rfl, wp_val (run_pick (b := true) rfl (ev_tmp e1) (ev_tmp e10)) ⟨_, rfl, rfl, Below.refl _ _, hs⟩⟩
    · intro a' w' ha hs hw
      obtain ⟨v11, e11, q11⟩ := hw 11 (by kernel_rfl) _ _ _ rfl rfl rfl
      obtain rfl : v11 = Value.bool true := q11
      exact ⟨wanted_none rfl, wp_val (run_move rfl (ev_tmp e11)) ⟨_, rfl, rfl, Below.refl _ _, hs⟩⟩
    · intro a' w' ha hs hw
      obtain ⟨v12, e12, q12⟩ := hw 12 (by kernel_rfl) _ _ _ rfl rfl rfl
      obtain rfl : v12 = Value.bool true := q12
      have eo8 : a'.tmps[8]? = some (Value.pointer (some ⟨ga, 0, none⟩)) := (ha.rest 8 (by kernel_rfl)).trans rfl
      exact ⟨wanted_some rfl rfl rfl e12, wp_val (run_load rfl (ev_tmp eo8) (BXa.out.next hs rfl)) ⟨_, rfl, rfl, Below.refl _ _, hs⟩⟩
    · intro a' w' ha hs hw
      obtain ⟨v12, e12, q12⟩ := hw 12 (by kernel_rfl) _ _ _ rfl rfl rfl
      obtain rfl : v12 = Value.bool true := q12
      have eo10 : a'.tmps[10]? = some (Value.pointer (some ⟨gc, 0, none⟩)) := (ha.rest 10 (by kernel_rfl)).trans rfl
      exact ⟨wanted_some rfl rfl rfl e12, wp_val (run_load rfl (ev_tmp eo10) (BXc.out.next hs rfl)) ⟨_, rfl, rfl, Below.refl _ _, hs⟩⟩
    · intro a' w' ha hs hw
      obtain ⟨v12, e12, q12⟩ := hw 12 (by kernel_rfl) _ _ _ rfl rfl rfl
      obtain rfl : v12 = Value.bool true := q12
      obtain ⟨v13, e13, q13⟩ := hw 13 (by kernel_rfl) _ _ _ rfl rfl rfl
      obtain rfl : v13 = .agg #[.bool sa, .slice Xa pa qa] := q13
      obtain ⟨v14, e14, q14⟩ := hw 14 (by kernel_rfl) _ _ _ rfl rfl rfl
      obtain rfl : v14 = .agg #[.bool sc, .slice Xc pc qc] := q14
      exact ⟨wanted_some rfl rfl rfl e12, call_step rfl Try.func30 (by kernel_rfl) rfl (map_two (ev_tmp e13) (ev_tmp e14)) (mul_any _ _ (za) (zc) _ (iv_next IVa.out hs rfl) (iv_next IVc.out hs rfl) (SZa.out.mono (by omega)) (SZc.out.mono (by omega))) (fun e w2 he => by obtain ⟨v, rfl, hv, hb⟩ := he; exact ⟨v, rfl, v, rfl, hv, hb, hs.trans (hb.mono hs.size)⟩)⟩
    · intro a' w' ha hs hw
      obtain ⟨v12, e12, q12⟩ := hw 12 (by kernel_rfl) _ _ _ rfl rfl rfl
      obtain rfl : v12 = Value.bool true := q12
      have eo9 : a'.tmps[9]? = some (Value.pointer (some ⟨gb, 0, none⟩)) := (ha.rest 9 (by kernel_rfl)).trans rfl
      exact ⟨wanted_some rfl rfl rfl e12, wp_val (run_load rfl (ev_tmp eo9) (BXb.out.next hs rfl)) ⟨_, rfl, rfl, Below.refl _ _, hs⟩⟩
    · intro a' w' ha hs hw
      obtain ⟨v12, e12, q12⟩ := hw 12 (by kernel_rfl) _ _ _ rfl rfl rfl
      obtain rfl : v12 = Value.bool true := q12
      have eo10 : a'.tmps[10]? = some (Value.pointer (some ⟨gc, 0, none⟩)) := (ha.rest 10 (by kernel_rfl)).trans rfl
      exact ⟨wanted_some rfl rfl rfl e12, wp_val (run_load rfl (ev_tmp eo10) (BXc.out.next hs rfl)) ⟨_, rfl, rfl, Below.refl _ _, hs⟩⟩
    · intro a' w' ha hs hw
      obtain ⟨v12, e12, q12⟩ := hw 12 (by kernel_rfl) _ _ _ rfl rfl rfl
      obtain rfl : v12 = Value.bool true := q12
      obtain ⟨v16, e16, q16⟩ := hw 16 (by kernel_rfl) _ _ _ rfl rfl rfl
      obtain rfl : v16 = .agg #[.bool sb, .slice Xb pb qb] := q16
      obtain ⟨v17, e17, q17⟩ := hw 17 (by kernel_rfl) _ _ _ rfl rfl rfl
      obtain rfl : v17 = .agg #[.bool sc, .slice Xc pc qc] := q17
      exact ⟨wanted_some rfl rfl rfl e12, call_step rfl Try.func30 (by kernel_rfl) rfl (map_two (ev_tmp e16) (ev_tmp e17)) (mul_any _ _ (zb) (zc) _ (iv_next IVb.out hs rfl) (iv_next IVc.out hs rfl) (SZb.out.mono (by omega)) (SZc.out.mono (by omega))) (fun e w2 he => by obtain ⟨v, rfl, hv, hb⟩ := he; exact ⟨v, rfl, v, rfl, hv, hb, hs.trans (hb.mono hs.size)⟩)⟩
    · intro a' w' ha hs hw
      obtain ⟨v12, e12, q12⟩ := hw 12 (by kernel_rfl) _ _ _ rfl rfl rfl
      obtain rfl : v12 = Value.bool true := q12
      obtain ⟨v15, e15, q15⟩ := hw 15 (by kernel_rfl) _ _ _ rfl rfl rfl
      replace q15 : Iv w' v15 ((za) * (zc)) := q15
      obtain ⟨v18, e18, q18⟩ := hw 18 (by kernel_rfl) _ _ _ rfl rfl rfl
      replace q18 : Iv w' v18 ((zb) * (zc)) := q18
      exact ⟨wanted_some rfl rfl rfl e12, call_step rfl Try.func24 (by kernel_rfl) rfl (map_two (ev_tmp e15) (ev_tmp e18)) (cmp_is _ _ ((za) * (zc)) ((zb) * (zc)) ((1) * sg zc) _ q15 q18 (SR12x15.out.mono (by omega)) (SR12x18.out.mono (by omega)) (cmp_mul zc (by unfold cmpZ; split <;> first | omega | (split <;> omega)))) (fun e w2 he => by obtain ⟨rfl, hb⟩ := he; exact ⟨_, rfl, _, rfl, rfl, hb, hs.trans (hb.mono hs.size)⟩)⟩
    · intro a' w' ha hs hw
      obtain ⟨v12, e12, q12⟩ := hw 12 (by kernel_rfl) _ _ _ rfl rfl rfl
      obtain rfl : v12 = Value.bool true := q12
      have eo11 : a'.tmps[11]? = some (Value.int IntKind.i64 (1)) := (ha.rest 11 (by kernel_rfl)).trans rfl
      exact ⟨wanted_some rfl rfl rfl e12, wp_val (run_move rfl (ev_tmp eo11)) ⟨_, rfl, rfl, Below.refl _ _, hs⟩⟩
    · intro a' w' ha hs hw
      obtain ⟨v12, e12, q12⟩ := hw 12 (by kernel_rfl) _ _ _ rfl rfl rfl
      obtain rfl : v12 = Value.bool true := q12
      have eo10 : a'.tmps[10]? = some (Value.pointer (some ⟨gc, 0, none⟩)) := (ha.rest 10 (by kernel_rfl)).trans rfl
      exact ⟨wanted_some rfl rfl rfl e12, wp_val (run_load rfl (ev_tmp eo10) (BXc.out.next hs rfl)) ⟨_, rfl, rfl, Below.refl _ _, hs⟩⟩
    · intro a' w' ha hs hw
      obtain ⟨v12, e12, q12⟩ := hw 12 (by kernel_rfl) _ _ _ rfl rfl rfl
      obtain rfl : v12 = Value.bool true := q12
      obtain ⟨v21, e21, q21⟩ := hw 21 (by kernel_rfl) _ _ _ rfl rfl rfl
      obtain rfl : v21 = .agg #[.bool sc, .slice Xc pc qc] := q21
      exact ⟨wanted_some rfl rfl rfl e12, call_step rfl Try.func41 (by kernel_rfl) rfl (map_one (ev_tmp e21)) (sign_is _ (zc) (sg zc) _ (iv_next IVc.out hs rfl) (SZc.out.mono (by omega)) (rfl)) (fun e w2 he => by obtain ⟨rfl, hb⟩ := he; exact ⟨_, rfl, _, rfl, rfl, hb, hs.trans (hb.mono hs.size)⟩)⟩
    · intro a' w' ha hs hw
      obtain ⟨v12, e12, q12⟩ := hw 12 (by kernel_rfl) _ _ _ rfl rfl rfl
      obtain rfl : v12 = Value.bool true := q12
      obtain ⟨v20, e20, q20⟩ := hw 20 (by kernel_rfl) _ _ _ rfl rfl rfl
      obtain rfl : v20 = Value.int IntKind.i64 (1) := q20
      obtain ⟨v22, e22, q22⟩ := hw 22 (by kernel_rfl) _ _ _ rfl rfl rfl
      obtain rfl : v22 = Value.int IntKind.i64 (sg zc) := q22
      exact ⟨wanted_some rfl rfl rfl e12, wp_val (run_mul_i64 rfl (ev_tmp e20) (ev_tmp e22) (wrap_sg (by omega) (by omega))) ⟨_, rfl, rfl, Below.refl _ _, hs⟩⟩
    · intro a' w' ha hs hw
      obtain ⟨v12, e12, q12⟩ := hw 12 (by kernel_rfl) _ _ _ rfl rfl rfl
      obtain rfl : v12 = Value.bool true := q12
      obtain ⟨v19, e19, q19⟩ := hw 19 (by kernel_rfl) _ _ _ rfl rfl rfl
      obtain rfl : v19 = Value.int IntKind.i64 ((1) * sg zc) := q19
      obtain ⟨v23, e23, q23⟩ := hw 23 (by kernel_rfl) _ _ _ rfl rfl rfl
      obtain rfl : v23 = Value.int IntKind.i64 ((1) * sg zc) := q23
      exact ⟨wanted_some rfl rfl rfl e12, wp_val ((show _ = _ from by rw [run_eql_int rfl (ev_tmp e19) (ev_tmp e23)]; simp)) ⟨_, rfl, rfl, Below.refl _ _, hs⟩⟩
    · intro a' w' ha hs hw
      obtain ⟨v12, e12, q12⟩ := hw 12 (by kernel_rfl) _ _ _ rfl rfl rfl
      obtain rfl : v12 = Value.bool true := q12
      obtain ⟨v24, e24, q24⟩ := hw 24 (by kernel_rfl) _ _ _ rfl rfl rfl
      obtain rfl : v24 = Value.bool true := q24
      exact ⟨wanted_none rfl, wp_val (run_pick (b := true) rfl (ev_tmp e12) (ev_tmp e24)) ⟨_, rfl, rfl, Below.refl _ _, hs⟩⟩
    · intro a' w' ha hs hw
      obtain ⟨v25, e25, q25⟩ := hw 25 (by kernel_rfl) _ _ _ rfl rfl rfl
      obtain rfl : v25 = Value.bool true := q25
      exact ⟨wanted_none rfl, wp_val (run_move rfl (ev_tmp e25)) ⟨_, rfl, rfl, Below.refl _ _, hs⟩⟩
    · intro a' w' ha hs hw
      obtain ⟨v26, e26, q26⟩ := hw 26 (by kernel_rfl) _ _ _ rfl rfl rfl
      obtain rfl : v26 = Value.bool true := q26
      have eo8 : a'.tmps[8]? = some (Value.pointer (some ⟨ga, 0, none⟩)) := (ha.rest 8 (by kernel_rfl)).trans rfl
      exact ⟨wanted_some rfl rfl rfl e26, wp_val (run_load rfl (ev_tmp eo8) (BXa.out.next hs rfl)) ⟨_, rfl, rfl, Below.refl _ _, hs⟩⟩
    · intro a' w' ha hs hw
      obtain ⟨v26, e26, q26⟩ := hw 26 (by kernel_rfl) _ _ _ rfl rfl rfl
      obtain rfl : v26 = Value.bool true := q26
      exact ⟨wanted_some rfl rfl rfl e26, call_step rfl Try.func40 (by kernel_rfl) rfl (map_one rfl) (lof_any (0) _ (by omega) (by omega)) (fun e w2 he => by obtain ⟨v, rfl, hv, hb⟩ := he; exact ⟨v, rfl, v, rfl, hv, hb, hs.trans (hb.mono hs.size)⟩)⟩
    · intro a' w' ha hs hw
      obtain ⟨v26, e26, q26⟩ := hw 26 (by kernel_rfl) _ _ _ rfl rfl rfl
      obtain rfl : v26 = Value.bool true := q26
      obtain ⟨v27, e27, q27⟩ := hw 27 (by kernel_rfl) _ _ _ rfl rfl rfl
      obtain rfl : v27 = .agg #[.bool sa, .slice Xa pa qa] := q27
      obtain ⟨v28, e28, q28⟩ := hw 28 (by kernel_rfl) _ _ _ rfl rfl rfl
      replace q28 : Iv w' v28 ((0 : Int)) := q28
      exact ⟨wanted_some rfl rfl rfl e26, call_step rfl Try.func24 (by kernel_rfl) rfl (map_two (ev_tmp e27) (ev_tmp e28)) (cmp_is _ _ (za) ((0 : Int)) (sg za) _ (iv_next IVa.out hs rfl) q28 (SZa.out.mono (by omega)) (SR12x28.out.mono (by omega)) (cmpZ_zero za)) (fun e w2 he => by obtain ⟨rfl, hb⟩ := he; exact ⟨_, rfl, _, rfl, rfl, hb, hs.trans (hb.mono hs.size)⟩)⟩
    · intro a' w' ha hs hw
      obtain ⟨v26, e26, q26⟩ := hw 26 (by kernel_rfl) _ _ _ rfl rfl rfl
      obtain rfl : v26 = Value.bool true := q26
      have eo8 : a'.tmps[8]? = some (Value.pointer (some ⟨ga, 0, none⟩)) := (ha.rest 8 (by kernel_rfl)).trans rfl
      exact ⟨wanted_some rfl rfl rfl e26, wp_val (run_load rfl (ev_tmp eo8) (BXa.out.next hs rfl)) ⟨_, rfl, rfl, Below.refl _ _, hs⟩⟩
    · intro a' w' ha hs hw
      obtain ⟨v26, e26, q26⟩ := hw 26 (by kernel_rfl) _ _ _ rfl rfl rfl
      obtain rfl : v26 = Value.bool true := q26
      obtain ⟨v30, e30, q30⟩ := hw 30 (by kernel_rfl) _ _ _ rfl rfl rfl
      obtain rfl : v30 = .agg #[.bool sa, .slice Xa pa qa] := q30
      exact ⟨wanted_some rfl rfl rfl e26, call_step rfl Try.func41 (by kernel_rfl) rfl (map_one (ev_tmp e30)) (sign_is _ (za) (sg za) _ (iv_next IVa.out hs rfl) (SZa.out.mono (by omega)) (rfl)) (fun e w2 he => by obtain ⟨rfl, hb⟩ := he; exact ⟨_, rfl, _, rfl, rfl, hb, hs.trans (hb.mono hs.size)⟩)⟩
    · intro a' w' ha hs hw
      obtain ⟨v26, e26, q26⟩ := hw 26 (by kernel_rfl) _ _ _ rfl rfl rfl
      obtain rfl : v26 = Value.bool true := q26
      obtain ⟨v29, e29, q29⟩ := hw 29 (by kernel_rfl) _ _ _ rfl rfl rfl
      obtain rfl : v29 = Value.int IntKind.i64 (sg za) := q29
      obtain ⟨v31, e31, q31⟩ := hw 31 (by kernel_rfl) _ _ _ rfl rfl rfl
      obtain rfl : v31 = Value.int IntKind.i64 (sg za) := q31
      exact ⟨wanted_some rfl rfl rfl e26, wp_val ((show _ = _ from by rw [run_eql_int rfl (ev_tmp e29) (ev_tmp e31)]; simp)) ⟨_, rfl, rfl, Below.refl _ _, hs⟩⟩
    · intro a' w' ha hs hw
      obtain ⟨v26, e26, q26⟩ := hw 26 (by kernel_rfl) _ _ _ rfl rfl rfl
      obtain rfl : v26 = Value.bool true := q26
      obtain ⟨v32, e32, q32⟩ := hw 32 (by kernel_rfl) _ _ _ rfl rfl rfl
      obtain rfl : v32 = Value.bool true := q32
      exact ⟨wanted_none rfl, wp_val (run_pick (b := true) rfl (ev_tmp e26) (ev_tmp e32)) ⟨_, rfl, rfl, Below.refl _ _, hs⟩⟩
    · intro a' w' ha hs hw
      obtain ⟨v33, e33, q33⟩ := hw 33 (by kernel_rfl) _ _ _ rfl rfl rfl
      obtain rfl : v33 = Value.bool true := q33
      exact ⟨wanted_none rfl, wp_val (run_assign rfl (ev_tmp e33)) ⟨_, rfl, rfl, Below.refl _ _, hs⟩⟩
  simp only [allK]
  intro r12x0 _ r12x1 _ r12x2 _ r12x3 _ r12x4 _
  simp only [setAll, List.set_cons_succ, List.set_cons_zero]
  refine hK _ _ ?_
  clear hK K
  clear SR12x4
  clear SR12x7
  clear SR12x15
  clear SR12x18
  clear SR12x28
  replace BXa := Lib.hid (BXa.out.next hs rfl); replace IVa := Lib.hid (iv_next IVa.out hs rfl)
  replace BXb := Lib.hid (BXb.out.next hs rfl); replace IVb := Lib.hid (iv_next IVb.out hs rfl)
  replace BXc := Lib.hid (BXc.out.next hs rfl); replace IVc := Lib.hid (iv_next IVc.out hs rfl)
  replace DW := Lib.hid (link_below DW.out hs (by have := DW.out.size; omega) rfl rfl rfl rfl)
  clear hs
  go_wp2
  go_ret
  exact ⟨by simp, by rw [hg]; exact DW.out⟩

theorem lawOrder_any (b0 : Bool) (A0 : Option Addr) (n0 c0 : Nat) (ws0 : List Nat) (b1 : Bool) (A1 : Option Addr) (n1 c1 : Nat) (ws1 : List Nat) (b2 : Bool) (A2 : Option Addr) (n2 c2 : Nat) (ws2 : List Nat) (w : World) (h0 : Wd w A0 n0 ws0) (m0 : n0 ≤ 9223372036854775807) (h1 : Wd w A1 n1 ws1) (m1 : n1 ≤ 9223372036854775807) (h2 : Wd w A2 n2 ws2) (m2 : n2 ≤ 9223372036854775807) :
    Calls Try.prog 6 #[.agg #[.bool b0, .slice A0 n0 c0], .agg #[.bool b1, .slice A1 n1 c1], .agg #[.bool b2, .slice A2 n2 c2]] w fun e w' => e = .returned (.bool true) ∧ Below w.heap.size w w' := by
  rcases Int.lt_trichotomy (sgn b0 (val (ws0.take 8))) (sgn b1 (val (ws1.take 8))) with h | h | h
  · rcases Int.lt_trichotomy (sgn b1 (val (ws1.take 8))) (sgn b2 (val (ws2.take 8))) with k | k | k
    · exact lawOrderA_any b0 A0 n0 c0 ws0 b1 A1 n1 c1 ws1 b2 A2 n2 c2 ws2 w h0 m0 h1 m1 h2 m2 h k
    · exact lawOrderB_any b0 A0 n0 c0 ws0 b1 A1 n1 c1 ws1 b2 A2 n2 c2 ws2 w h0 m0 h1 m1 h2 m2 h k
    · exact lawOrderC_any b0 A0 n0 c0 ws0 b1 A1 n1 c1 ws1 b2 A2 n2 c2 ws2 w h0 m0 h1 m1 h2 m2 h k
  · exact lawOrderD_any b0 A0 n0 c0 ws0 b1 A1 n1 c1 ws1 b2 A2 n2 c2 ws2 w h0 m0 h1 m1 h2 m2 h
  · exact lawOrderE_any b0 A0 n0 c0 ws0 b1 A1 n1 c1 ws1 b2 A2 n2 c2 ws2 w h0 m0 h1 m1 h2 m2 h
end Go.Proofs.Ytloiabkopacfgaa
