/-
  The law IntegerDivides: the walk.
-/
import Derived.Test.YtloiabkopacfgaaRegD
import Derived.Deep.DeepCutAuto
import Derived.Handy
namespace Go.Proofs.Ytloiabkopacfgaa
open Go.RowKit
attribute [local go_sem ↓] Go.wp_at_zero Go.wp_at_succ

set_option maxHeartbeats 16000000 in
set_option maxRecDepth 100000 in
theorem lawDividesZ_any (b0 : Bool) (A0 : Option Addr) (n0 c0 : Nat) (ws0 : List Nat) (b1 : Bool) (A1 : Option Addr) (n1 c1 : Nat) (ws1 : List Nat) (b2 : Bool) (A2 : Option Addr) (n2 c2 : Nat) (ws2 : List Nat)  (w : World) (h0 : Wd w A0 n0 ws0) (m0 : n0 ≤ 9223372036854775807) (h1 : Wd w A1 n1 ws1) (m1 : n1 ≤ 9223372036854775807) (h2 : Wd w A2 n2 ws2) (m2 : n2 ≤ 9223372036854775807) (hx0 : sgn b1 (val (ws1.take 6)) = 0) :
    Calls Try.prog 7 #[.agg #[.bool b0, .slice A0 n0 c0], .agg #[.bool b1, .slice A1 n1 c1], .agg #[.bool b2, .slice A2 n2 c2]] w fun e w' => e = .returned (.bool true) ∧ Below w.heap.size w w' := by
  obtain ⟨za, hza⟩ : ∃ z, z = sgn b0 (val (ws0.take 10)) := ⟨_, rfl⟩
  have SZa : Hid (Sz za 10) := by rw [hza]; exact sz_take _ _ _ h0.wds
  obtain ⟨zb, hzb⟩ : ∃ z, z = sgn b1 (val (ws1.take 6)) := ⟨_, rfl⟩
  have SZb : Hid (Sz zb 6) := by rw [hzb]; exact sz_take _ _ _ h1.wds
  obtain ⟨zc, hzc⟩ : ∃ z, z = sgn b2 (val (ws2.take 6)) := ⟨_, rfl⟩
  have SZc : Hid (Sz zc 6) := by rw [hzc]; exact sz_take _ _ _ h2.wds
  rw [← hzb] at hx0
  have HX := Lib.hid hx0
  clear hx0
  go_enter Try.func7, Try.ntmps7
  go_wp2_with fail
  obtain ⟨W, hW⟩ : ∃ W, W = (((w.alloc (Obj.cells #[Value.bool b0, Value.slice A0 n0 c0] 24)).alloc (Obj.cells #[Value.bool b1, Value.slice A1 n1 c1] 24)).alloc (Obj.cells #[Value.bool b2, Value.slice A2 n2 c2] 24)) := ⟨_, rfl⟩
  rw [← hW]
  have RX0 : Hid (RBox W (w.heap.size) b0 (.slice A0 n0 c0)) := by rw [hW]; have := ((RBox.new w b0 (.slice A0 n0 c0)).alloc (Obj.cells #[Value.bool b1, Value.slice A1 n1 c1] 24)).alloc (Obj.cells #[Value.bool b2, Value.slice A2 n2 c2] 24); simpa [Hid] using this
  have RW0 : Hid (Wd W A0 n0 ws0) := by rw [hW]; exact (((h0).alloc _).alloc _).alloc _
  have RX1 : Hid (RBox W (w.heap.size + 1) b1 (.slice A1 n1 c1)) := by rw [hW]; have := (RBox.new (w.alloc (Obj.cells #[Value.bool b0, Value.slice A0 n0 c0] 24)) b1 (.slice A1 n1 c1)).alloc (Obj.cells #[Value.bool b2, Value.slice A2 n2 c2] 24); simpa [Hid] using this
  have RW1 : Hid (Wd W A1 n1 ws1) := by rw [hW]; exact (((h1).alloc _).alloc _).alloc _
  have RX2 : Hid (RBox W (w.heap.size + 1 + 1) b2 (.slice A2 n2 c2)) := by rw [hW]; have := RBox.new ((w.alloc (Obj.cells #[Value.bool b0, Value.slice A0 n0 c0] 24)).alloc (Obj.cells #[Value.bool b1, Value.slice A1 n1 c1] 24)) b2 (.slice A2 n2 c2); simpa [Hid] using this
  have RW2 : Hid (Wd W A2 n2 ws2) := by rw [hW]; exact (((h2).alloc _).alloc _).alloc _
  have DW : Hid (Below w.heap.size w W) := by rw [hW]; exact (((Below.refl _ _).alloc (by simp <;> omega) _).alloc (by simp <;> omega) _).alloc (by simp <;> omega) _
  clear hW h0 h1 h2
  generalize hg : w.heap.size = g at *
  refine (sanity_any _).mono ?_
  rintro e w1 ⟨rfl, hb1⟩
  replace RX0 := Lib.hid (RX0.out.next hb1 rfl); replace RW0 := Lib.hid (RW0.out.next hb1 rfl)
  replace RX1 := Lib.hid (RX1.out.next hb1 rfl); replace RW1 := Lib.hid (RW1.out.next hb1 rfl)
  replace RX2 := Lib.hid (RX2.out.next hb1 rfl); replace RW2 := Lib.hid (RW2.out.next hb1 rfl)
  replace DW := Lib.hid (link_below DW.out hb1 (by have := DW.out.size; omega) rfl rfl rfl rfl)
  clear hb1
  have u1 := RX0.out.cell0; have u2 := RX0.out.cell1
  go_wp2_with fail
  clear u1 u2
  refine (rmade_raw b0 A0 n0 c0 10 10 ws0 _ RW0.out rfl (by omega) m0).mono ?_
  rw [← hza]
  rintro e y1 ⟨_, rfl, hq, hb⟩
  clear RX0 RW0
  obtain ⟨Xa, pa, qa, rfl, _, _, _⟩ := hq.form
  have Q := Lib.hid hq; have B := Lib.hid hb; clear hq hb
  generalize hs : decide ((za : Int) < 0) = sa at *
  clear hs
  go_upto_region 5 with fail
  obtain ⟨W2, hW⟩ : ∃ W2, W2 = y1.alloc (Obj.cells #[Value.bool sa, Value.slice Xa pa qa] 27) := ⟨_, rfl⟩
  rw [← hW]
  have BXa : Hid (Box W2 y1.heap.size sa (.slice Xa pa qa)) := by rw [hW]; exact Box.new _ _ _
  have IVa : Hid (Iv W2 (.agg #[.bool sa, .slice Xa pa qa]) (za)) := by rw [hW]; exact Q.out.alloc _
  have hd : Below w1.heap.size w1 W2 := by rw [hW]; exact B.out.alloc B.out.size _
  clear hW Q B
  generalize hgn : y1.heap.size = ga at *
  clear hgn
  replace RX1 := Lib.hid (RX1.out.next hd rfl); replace RW1 := Lib.hid (RW1.out.next hd rfl)
  replace RX2 := Lib.hid (RX2.out.next hd rfl); replace RW2 := Lib.hid (RW2.out.next hd rfl)
  replace DW := Lib.hid (link_below DW.out hd (by have := DW.out.size; omega) rfl rfl rfl rfl)
  clear hd
  have u1 := RX1.out.cell0; have u2 := RX1.out.cell1
  go_wp2_with fail
  clear u1 u2
  refine (rmade_raw b1 A1 n1 c1 6 6 ws1 _ RW1.out rfl (by omega) m1).mono ?_
  rw [← hzb]
  rintro e y3 ⟨_, rfl, hq, hb⟩
  clear RX1 RW1
  obtain ⟨Xb, pb, qb, rfl, _, _, _⟩ := hq.form
  have Q := Lib.hid hq; have B := Lib.hid hb; clear hq hb
  generalize hs : decide ((zb : Int) < 0) = sb at *
  clear hs
  go_upto_region 6 with fail
  obtain ⟨W4, hW⟩ : ∃ W4, W4 = y3.alloc (Obj.cells #[Value.bool sb, Value.slice Xb pb qb] 27) := ⟨_, rfl⟩
  rw [← hW]
  have BXb : Hid (Box W4 y3.heap.size sb (.slice Xb pb qb)) := by rw [hW]; exact Box.new _ _ _
  have IVb : Hid (Iv W4 (.agg #[.bool sb, .slice Xb pb qb]) (zb)) := by rw [hW]; exact Q.out.alloc _
  have hd : Below W2.heap.size W2 W4 := by rw [hW]; exact B.out.alloc B.out.size _
  clear hW Q B
  generalize hgn : y3.heap.size = gb at *
  clear hgn
  replace BXa := Lib.hid (BXa.out.next hd rfl); replace IVa := Lib.hid (iv_next IVa.out hd rfl)
  replace RX2 := Lib.hid (RX2.out.next hd rfl); replace RW2 := Lib.hid (RW2.out.next hd rfl)
  replace DW := Lib.hid (link_below DW.out hd (by have := DW.out.size; omega) rfl rfl rfl rfl)
  clear hd
  have u1 := RX2.out.cell0; have u2 := RX2.out.cell1
  go_wp2_with fail
  clear u1 u2
  refine (rmade_raw b2 A2 n2 c2 6 6 ws2 _ RW2.out rfl (by omega) m2).mono ?_
  rw [← hzc]
  rintro e y5 ⟨_, rfl, hq, hb⟩
  clear RX2 RW2
  obtain ⟨Xc, pc, qc, rfl, _, _, _⟩ := hq.form
  have Q := Lib.hid hq; have B := Lib.hid hb; clear hq hb
  generalize hs : decide ((zc : Int) < 0) = sc at *
  clear hs
  go_upto_region 7 with fail
  obtain ⟨W6, hW⟩ : ∃ W6, W6 = y5.alloc (Obj.cells #[Value.bool sc, Value.slice Xc pc qc] 27) := ⟨_, rfl⟩
  rw [← hW]
  have BXc : Hid (Box W6 y5.heap.size sc (.slice Xc pc qc)) := by rw [hW]; exact Box.new _ _ _
  have IVc : Hid (Iv W6 (.agg #[.bool sc, .slice Xc pc qc]) (zc)) := by rw [hW]; exact Q.out.alloc _
  have hd : Below W4.heap.size W4 W6 := by rw [hW]; exact B.out.alloc B.out.size _
  clear hW Q B
  generalize hgn : y5.heap.size = gc at *
  clear hgn
  replace BXa := Lib.hid (BXa.out.next hd rfl); replace IVa := Lib.hid (iv_next IVa.out hd rfl)
  replace BXb := Lib.hid (BXb.out.next hd rfl); replace IVb := Lib.hid (iv_next IVb.out hd rfl)
  replace DW := Lib.hid (link_below DW.out hd (by have := DW.out.size; omega) rfl rfl rfl rfl)
  clear hd
  have hpb : pb = 0 := IVb.out.len0.2 HX.out
  subst hpb
  have IVb0 : Hid (Iv W6 (.agg #[.bool sb, .slice Xb 0 qb]) 0) := by have := IVb.out; rw [HX.out] at this; exact this
  have u1 := BXa.out.cell0; have u2 := BXa.out.cell1; have u3 := BXb.out.cell0; have u4 := BXb.out.cell1
  go_wp2_with fail
  clear u1 u2 u3 u4
  refine (divMod_zero _ _ za _ IVa.out IVb0.out (SZa.out.mono (by omega))).mono ?_
  unfold zeroI
  rintro e y ⟨rfl, hb⟩
  clear IVb0
  go_upto_region 8 with fail
  obtain ⟨W9, hW⟩ : ∃ W9, W9 = (y.alloc (Obj.cells #[Value.bool false, Value.slice none 0 0] 27)).alloc (Obj.cells #[Value.bool false, Value.slice none 0 0] 27) := ⟨_, rfl⟩
  rw [← hW]
  have x1 : Box W9 y.heap.size false (.slice none 0 0) := by rw [hW]; exact (Box.new _ _ _).alloc _
  have x2 : Box W9 (y.heap.size + 1) false (.slice none 0 0) := by rw [hW]; exact new_at (by simp)
  have hd : Below W6.heap.size W6 W9 := by rw [hW]; exact (hb.alloc hb.size _).alloc (by have := hb.size; simp; omega) _
  clear hW hb
  replace BXa := Lib.hid (BXa.out.next hd rfl); replace IVa := Lib.hid (iv_next IVa.out hd rfl)
  replace BXb := Lib.hid (BXb.out.next hd rfl); replace IVb := Lib.hid (iv_next IVb.out hd rfl)
  replace BXc := Lib.hid (BXc.out.next hd rfl); replace IVc := Lib.hid (iv_next IVc.out hd rfl)
  replace DW := Lib.hid (link_below DW.out hd (by have := DW.out.size; omega) rfl rfl rfl rfl)
  have u3 := BXb.out.cell0; have u4 := BXb.out.cell1; have v1 := x1.cell0; have v2 := x1.cell1; have v3 := x2.cell0; have v4 := x2.cell1
  go_wp2
  go_ret
  exact ⟨by simp, by rw [hg]; exact DW.out⟩

set_option maxHeartbeats 16000000 in
set_option maxRecDepth 100000 in
theorem lawDividesN_any (b0 : Bool) (A0 : Option Addr) (n0 c0 : Nat) (ws0 : List Nat) (b1 : Bool) (A1 : Option Addr) (n1 c1 : Nat) (ws1 : List Nat) (b2 : Bool) (A2 : Option Addr) (n2 c2 : Nat) (ws2 : List Nat)  (w : World) (h0 : Wd w A0 n0 ws0) (m0 : n0 ≤ 9223372036854775807) (h1 : Wd w A1 n1 ws1) (m1 : n1 ≤ 9223372036854775807) (h2 : Wd w A2 n2 ws2) (m2 : n2 ≤ 9223372036854775807) (hx0 : sgn b1 (val (ws1.take 6)) ≠ 0) :
    Calls Try.prog 7 #[.agg #[.bool b0, .slice A0 n0 c0], .agg #[.bool b1, .slice A1 n1 c1], .agg #[.bool b2, .slice A2 n2 c2]] w fun e w' => e = .returned (.bool true) ∧ Below w.heap.size w w' := by
  obtain ⟨za, hza⟩ : ∃ z, z = sgn b0 (val (ws0.take 10)) := ⟨_, rfl⟩
  have SZa : Hid (Sz za 10) := by rw [hza]; exact sz_take _ _ _ h0.wds
  obtain ⟨zb, hzb⟩ : ∃ z, z = sgn b1 (val (ws1.take 6)) := ⟨_, rfl⟩
  have SZb : Hid (Sz zb 6) := by rw [hzb]; exact sz_take _ _ _ h1.wds
  obtain ⟨zc, hzc⟩ : ∃ z, z = sgn b2 (val (ws2.take 6)) := ⟨_, rfl⟩
  have SZc : Hid (Sz zc 6) := by rw [hzc]; exact sz_take _ _ _ h2.wds
  rw [← hzb] at hx0
  have HX := Lib.hid hx0
  clear hx0
  go_enter Try.func7, Try.ntmps7
  go_wp2_with fail
  obtain ⟨W, hW⟩ : ∃ W, W = (((w.alloc (Obj.cells #[Value.bool b0, Value.slice A0 n0 c0] 24)).alloc (Obj.cells #[Value.bool b1, Value.slice A1 n1 c1] 24)).alloc (Obj.cells #[Value.bool b2, Value.slice A2 n2 c2] 24)) := ⟨_, rfl⟩
  rw [← hW]
  have RX0 : Hid (RBox W (w.heap.size) b0 (.slice A0 n0 c0)) := by rw [hW]; have := ((RBox.new w b0 (.slice A0 n0 c0)).alloc (Obj.cells #[Value.bool b1, Value.slice A1 n1 c1] 24)).alloc (Obj.cells #[Value.bool b2, Value.slice A2 n2 c2] 24); simpa [Hid] using this
  have RW0 : Hid (Wd W A0 n0 ws0) := by rw [hW]; exact (((h0).alloc _).alloc _).alloc _
  have RX1 : Hid (RBox W (w.heap.size + 1) b1 (.slice A1 n1 c1)) := by rw [hW]; have := (RBox.new (w.alloc (Obj.cells #[Value.bool b0, Value.slice A0 n0 c0] 24)) b1 (.slice A1 n1 c1)).alloc (Obj.cells #[Value.bool b2, Value.slice A2 n2 c2] 24); simpa [Hid] using this
  have RW1 : Hid (Wd W A1 n1 ws1) := by rw [hW]; exact (((h1).alloc _).alloc _).alloc _
  have RX2 : Hid (RBox W (w.heap.size + 1 + 1) b2 (.slice A2 n2 c2)) := by rw [hW]; have := RBox.new ((w.alloc (Obj.cells #[Value.bool b0, Value.slice A0 n0 c0] 24)).alloc (Obj.cells #[Value.bool b1, Value.slice A1 n1 c1] 24)) b2 (.slice A2 n2 c2); simpa [Hid] using this
  have RW2 : Hid (Wd W A2 n2 ws2) := by rw [hW]; exact (((h2).alloc _).alloc _).alloc _
  have DW : Hid (Below w.heap.size w W) := by rw [hW]; exact (((Below.refl _ _).alloc (by simp <;> omega) _).alloc (by simp <;> omega) _).alloc (by simp <;> omega) _
  clear hW h0 h1 h2
  generalize hg : w.heap.size = g at *
  refine (sanity_any _).mono ?_
  rintro e w1 ⟨rfl, hb1⟩
  replace RX0 := Lib.hid (RX0.out.next hb1 rfl); replace RW0 := Lib.hid (RW0.out.next hb1 rfl)
  replace RX1 := Lib.hid (RX1.out.next hb1 rfl); replace RW1 := Lib.hid (RW1.out.next hb1 rfl)
  replace RX2 := Lib.hid (RX2.out.next hb1 rfl); replace RW2 := Lib.hid (RW2.out.next hb1 rfl)
  replace DW := Lib.hid (link_below DW.out hb1 (by have := DW.out.size; omega) rfl rfl rfl rfl)
  clear hb1
  have u1 := RX0.out.cell0; have u2 := RX0.out.cell1
  go_wp2_with fail
  clear u1 u2
  refine (rmade_raw b0 A0 n0 c0 10 10 ws0 _ RW0.out rfl (by omega) m0).mono ?_
  rw [← hza]
  rintro e y1 ⟨_, rfl, hq, hb⟩
  clear RX0 RW0
  obtain ⟨Xa, pa, qa, rfl, _, _, _⟩ := hq.form
  have Q := Lib.hid hq; have B := Lib.hid hb; clear hq hb
  generalize hs : decide ((za : Int) < 0) = sa at *
  clear hs
  go_upto_region 5 with fail
  obtain ⟨W2, hW⟩ : ∃ W2, W2 = y1.alloc (Obj.cells #[Value.bool sa, Value.slice Xa pa qa] 27) := ⟨_, rfl⟩
  rw [← hW]
  have BXa : Hid (Box W2 y1.heap.size sa (.slice Xa pa qa)) := by rw [hW]; exact Box.new _ _ _
  have IVa : Hid (Iv W2 (.agg #[.bool sa, .slice Xa pa qa]) (za)) := by rw [hW]; exact Q.out.alloc _
  have hd : Below w1.heap.size w1 W2 := by rw [hW]; exact B.out.alloc B.out.size _
  clear hW Q B
  generalize hgn : y1.heap.size = ga at *
  clear hgn
  replace RX1 := Lib.hid (RX1.out.next hd rfl); replace RW1 := Lib.hid (RW1.out.next hd rfl)
  replace RX2 := Lib.hid (RX2.out.next hd rfl); replace RW2 := Lib.hid (RW2.out.next hd rfl)
  replace DW := Lib.hid (link_below DW.out hd (by have := DW.out.size; omega) rfl rfl rfl rfl)
  clear hd
  have u1 := RX1.out.cell0; have u2 := RX1.out.cell1
  go_wp2_with fail
  clear u1 u2
  refine (rmade_raw b1 A1 n1 c1 6 6 ws1 _ RW1.out rfl (by omega) m1).mono ?_
  rw [← hzb]
  rintro e y3 ⟨_, rfl, hq, hb⟩
  clear RX1 RW1
  obtain ⟨Xb, pb, qb, rfl, _, _, _⟩ := hq.form
  have Q := Lib.hid hq; have B := Lib.hid hb; clear hq hb
  generalize hs : decide ((zb : Int) < 0) = sb at *
  clear hs
  go_upto_region 6 with fail
  obtain ⟨W4, hW⟩ : ∃ W4, W4 = y3.alloc (Obj.cells #[Value.bool sb, Value.slice Xb pb qb] 27) := ⟨_, rfl⟩
  rw [← hW]
  have BXb : Hid (Box W4 y3.heap.size sb (.slice Xb pb qb)) := by rw [hW]; exact Box.new _ _ _
  have IVb : Hid (Iv W4 (.agg #[.bool sb, .slice Xb pb qb]) (zb)) := by rw [hW]; exact Q.out.alloc _
  have hd : Below W2.heap.size W2 W4 := by rw [hW]; exact B.out.alloc B.out.size _
  clear hW Q B
  generalize hgn : y3.heap.size = gb at *
  clear hgn
  replace BXa := Lib.hid (BXa.out.next hd rfl); replace IVa := Lib.hid (iv_next IVa.out hd rfl)
  replace RX2 := Lib.hid (RX2.out.next hd rfl); replace RW2 := Lib.hid (RW2.out.next hd rfl)
  replace DW := Lib.hid (link_below DW.out hd (by have := DW.out.size; omega) rfl rfl rfl rfl)
  clear hd
  have u1 := RX2.out.cell0; have u2 := RX2.out.cell1
  go_wp2_with fail
  clear u1 u2
  refine (rmade_raw b2 A2 n2 c2 6 6 ws2 _ RW2.out rfl (by omega) m2).mono ?_
  rw [← hzc]
  rintro e y5 ⟨_, rfl, hq, hb⟩
  clear RX2 RW2
  obtain ⟨Xc, pc, qc, rfl, _, _, _⟩ := hq.form
  have Q := Lib.hid hq; have B := Lib.hid hb; clear hq hb
  generalize hs : decide ((zc : Int) < 0) = sc at *
  clear hs
  go_upto_region 7 with fail
  obtain ⟨W6, hW⟩ : ∃ W6, W6 = y5.alloc (Obj.cells #[Value.bool sc, Value.slice Xc pc qc] 27) := ⟨_, rfl⟩
  rw [← hW]
  have BXc : Hid (Box W6 y5.heap.size sc (.slice Xc pc qc)) := by rw [hW]; exact Box.new _ _ _
  have IVc : Hid (Iv W6 (.agg #[.bool sc, .slice Xc pc qc]) (zc)) := by rw [hW]; exact Q.out.alloc _
  have hd : Below W4.heap.size W4 W6 := by rw [hW]; exact B.out.alloc B.out.size _
  clear hW Q B
  generalize hgn : y5.heap.size = gc at *
  clear hgn
  replace BXa := Lib.hid (BXa.out.next hd rfl); replace IVa := Lib.hid (iv_next IVa.out hd rfl)
  replace BXb := Lib.hid (BXb.out.next hd rfl); replace IVb := Lib.hid (iv_next IVb.out hd rfl)
  replace DW := Lib.hid (link_below DW.out hd (by have := DW.out.size; omega) rfl rfl rfl rfl)
  clear hd
  have hpb : ((pb : Int) == 0) = false := by have h1 := IVb.out.len0; have h2 := HX.out; simp; intro e; exact h2 (h1.1 e)
  have u1 := BXa.out.cell0; have u2 := BXa.out.cell1; have u3 := BXb.out.cell0; have u4 := BXb.out.cell1
  go_wp2_with fail
  clear u1 u2 u3 u4
  refine (divMod_any _ _ za zb _ IVa.out IVb.out (SZa.out.mono (by omega)) (SZb.out.mono (by omega)) HX.out).mono ?_
  rintro e y ⟨_, _, rfl, hq0, hq1, hb⟩
  have SZq : Hid (Sz (za / zb) 10) := SZa.out.ediv HX.out
  have SZr : Hid (Sz (za % zb) 6) := SZb.out.emod HX.out
  have R0 : Hid (0 ≤ za % zb) := Int.emod_nonneg _ HX.out
  have R1 : Hid (za % zb < zb.natAbs) := emod_lt_abs _ HX.out
  obtain ⟨Xq, pq, qq, rfl, _, _, _⟩ := hq0.form
  have Q0 := Lib.hid hq0; clear hq0
  obtain ⟨Xr, pr, qr, rfl, _, _, _⟩ := hq1.form
  have Q1 := Lib.hid hq1; clear hq1
  have B := Lib.hid hb; clear hb
  generalize hs : decide ((za / zb : Int) < 0) = sq at *
  clear hs
  generalize hs : decide ((za % zb : Int) < 0) = sr at *
  obtain rfl : sr = false := by rw [← hs]; simp only [decide_eq_false_iff_not, Int.not_lt]; exact R0.out
  clear hs
  go_upto_region 8 with fail
  obtain ⟨W7, hW⟩ : ∃ W7, W7 = (y.alloc (Obj.cells #[Value.bool sq, Value.slice Xq pq qq] 27)).alloc (Obj.cells #[Value.bool false, Value.slice Xr pr qr] 27) := ⟨_, rfl⟩
  rw [← hW]
  have BXq : Hid (Box W7 y.heap.size sq (.slice Xq pq qq)) := by rw [hW]; exact (Box.new _ _ _).alloc _
  have BXr : Hid (Box W7 (y.heap.size + 1) false (.slice Xr pr qr)) := by rw [hW]; have := Box.new (y.alloc (Obj.cells #[Value.bool sq, Value.slice Xq pq qq] 27)) false (.slice Xr pr qr); simpa [Hid] using this
  have IVq : Hid (Iv W7 (.agg #[.bool sq, .slice Xq pq qq]) (za / zb)) := by rw [hW]; exact (Q0.out.alloc _).alloc _
  have IVr : Hid (Iv W7 (.agg #[.bool false, .slice Xr pr qr]) (za % zb)) := by rw [hW]; exact (Q1.out.alloc _).alloc _
  have hd : Below W6.heap.size W6 W7 := by rw [hW]; exact (B.out.alloc B.out.size _).alloc (by have := B.out.size; simp; omega) _
  clear hW Q0 Q1 B
  generalize hgn1 : y.heap.size + 1 = gr at *
  clear hgn1
  generalize hgn : y.heap.size = gq at *
  clear hgn
  replace BXa := Lib.hid (BXa.out.next hd rfl); replace IVa := Lib.hid (iv_next IVa.out hd rfl)
  replace BXb := Lib.hid (BXb.out.next hd rfl); replace IVb := Lib.hid (iv_next IVb.out hd rfl)
  replace BXc := Lib.hid (BXc.out.next hd rfl); replace IVc := Lib.hid (iv_next IVc.out hd rfl)
  replace DW := Lib.hid (link_below DW.out hd (by have := DW.out.size; omega) rfl rfl rfl rfl)
  clear hd
  have u3 := BXb.out.cell0; have u4 := BXb.out.cell1
  go_upto_region 11 with fail
  clear u3 u4
  obtain ⟨W8, hW⟩ : ∃ W8, W8 = W7.alloc (Obj.cells #[Value.bool false, Value.slice Xb pb qb] 27) := ⟨_, rfl⟩
  rw [← hW]
  have BXs : Hid (Box W8 W7.heap.size false (.slice Xb pb qb)) := by rw [hW]; exact Box.new _ _ _
  have IVs : Hid (Iv W8 (.agg #[.bool false, .slice Xb pb qb]) (zb.natAbs : Int)) := by rw [hW]; exact IVb.out.abs.alloc _
  have hd : Below W7.heap.size W7 W8 := by rw [hW]; exact (Below.refl _ _).alloc (Nat.le_refl _) _
  clear hW
  generalize hgn : W7.heap.size = gs at *
  have SZs : Hid (Sz (zb.natAbs : Int) 6) := SZb.out.abs
  rw [← hgn] at hd
  replace BXa := Lib.hid (BXa.out.next hd rfl); replace IVa := Lib.hid (iv_next IVa.out hd rfl)
  replace BXb := Lib.hid (BXb.out.next hd rfl); replace IVb := Lib.hid (iv_next IVb.out hd rfl)
  replace BXc := Lib.hid (BXc.out.next hd rfl); replace IVc := Lib.hid (iv_next IVc.out hd rfl)
  replace BXq := Lib.hid (BXq.out.next hd rfl); replace IVq := Lib.hid (iv_next IVq.out hd rfl)
  replace BXr := Lib.hid (BXr.out.next hd rfl); replace IVr := Lib.hid (iv_next IVr.out hd rfl)
  replace DW := Lib.hid (link_below DW.out hd (by have := DW.out.size; omega) rfl rfl rfl rfl)
  clear hd hgn

  have SR11x25 : Hid (Sz ((za / zb) * (zb)) 16) := (Sz.mul SZq.out SZb.out)
  have SR11x27 : Hid (Sz (((za / zb) * (zb)) + (za % zb)) 17) := (Sz.add (N := 16) (SR11x25.out.mono (by omega)) (SZr.out.mono (by omega)))
  refine region_go W8 [.is (Value.int IntKind.i64 0), .is (Value.bool false), .is (Value.bool false), .is (.agg #[.bool sq, .slice Xq pq qq]), .is (Value.bool true), .is (Value.bool false), .is (Value.bool false), .is (Value.bool false), .is (.agg #[.bool false, .slice Xr pr qr]), .is (Value.bool true), .is (Value.bool false), .is (Value.bool false), .is (Value.bool false), .is (.pointer (some ⟨gr, 0, none⟩)), .is (.bool false), .is (.bool false), .is (.bool false), .is (.agg #[.bool false, .slice Xr pr qr]), .is (.agg #[.bool false, .slice Xb pb qb]), .is (Value.int IntKind.i64 (-1)), .is (Value.bool false), .is (Value.bool false), .is (Value.bool false), .is (.agg #[.bool sq, .slice Xq pq qq]), .is (.agg #[.bool sb, .slice Xb pb qb]), .iv ((za / zb) * (zb)), .is (.agg #[.bool false, .slice Xr pr qr]), .iv (((za / zb) * (zb)) + (za % zb)), .is (.agg #[.bool sa, .slice Xa pa qa]), .is (Value.bool true), .is (Value.bool false), .is (Value.bool false)] [some 68, some 69, some 70, some 71, some 72, some 73, some 74, some 75, some 76, some 77, some 78, some 79, some 80, some 81, some 82, some 83, some 84, some 85, some 86, some 87, some 88, some 89, some 90, some 91, some 92, some 93, some 94, some 95, some 96, some 97, some 98, some 99] (by kernel_rfl) (by kernel_rfl) (by kernel_rfl) (by kernel_rfl) (by kernel_rfl) (by rfl) (by kernel_rfl) ((Below.refl _ _).drew) (fun Q' => ?_) (fun K hK wn hs => ?_)
  · refine ⟨?_, ?_, ?_, ?_, ?_, ?_, ?_, ?_, ?_, ?_, ?_, ?_, ?_, ?_, ?_, ?_, ?_, ?_, ?_, ?_, ?_, ?_, ?_, ?_, ?_, ?_, ?_, ?_, ?_, ?_, ?_, ?_, trivial⟩
    · intro a' w' ha hs hw
      have eo13 : a'.tmps[13]? = some (Value.int IntKind.i64 0) := (ha.rest 13 (by kernel_rfl)).trans rfl
      exact ⟨wanted_none rfl, rfl, wp_val (run_move rfl (ev_tmp eo13)) ⟨rfl, Below.refl _ _⟩⟩
    · intro a' w' ha hs hw
      have e0 : a'.tmps[68]? = some (Value.int IntKind.i64 0) := slot_get rfl rfl (hw 0 (by kernel_rfl) _ rfl)
      exact ⟨wanted_none rfl, rfl, wp_val (show _ = _ from (run_neq_int rfl (ev_tmp e0) rfl).trans (by rfl)) ⟨rfl, Below.refl _ _⟩⟩
    · intro a' w' ha hs hw
      have e1 : a'.tmps[69]? = some (Value.bool false) := slot_get rfl rfl (hw 1 (by kernel_rfl) _ rfl)
      exact ⟨wanted_none rfl, rfl, wp_val (run_move rfl (ev_tmp e1)) ⟨rfl, Below.refl _ _⟩⟩
    · intro a' w' ha hs hw
      have e2 : a'.tmps[70]? = some (Value.bool false) := slot_get rfl rfl (hw 2 (by kernel_rfl) _ rfl)
      have eo11 : a'.tmps[11]? = some (ptr gq) := (ha.rest 11 (by kernel_rfl)).trans rfl
      exact ⟨wanted_some rfl rfl rfl e2, rfl, wp_val (run_load rfl (ev_tmp eo11) (BXq.out.next hs rfl)) ⟨rfl, Below.refl _ _⟩⟩
    · intro a' w' ha hs hw
      have e2 : a'.tmps[70]? = some (Value.bool false) := slot_get rfl rfl (hw 2 (by kernel_rfl) _ rfl)
      have e3 : a'.tmps[71]? = some (.agg #[.bool sq, .slice Xq pq qq]) := slot_get rfl rfl (hw 3 (by kernel_rfl) _ rfl)
      exact ⟨wanted_some rfl rfl rfl e2, rfl, call_step rfl Try.func38 (by kernel_rfl) rfl (map_one (ev_tmp e3)) (rvalid_any _ (za / zb) _ (iv_next IVq.out hs rfl) (SZq.out.mono (by omega))) (fun e w2 he => by obtain ⟨rfl, hb⟩ := he; exact ⟨_, rfl, rfl, hb⟩)⟩
    · intro a' w' ha hs hw
      have e2 : a'.tmps[70]? = some (Value.bool false) := slot_get rfl rfl (hw 2 (by kernel_rfl) _ rfl)
      have e4 : a'.tmps[72]? = some (Value.bool true) := slot_get rfl rfl (hw 4 (by kernel_rfl) _ rfl)
      exact ⟨wanted_some rfl rfl rfl e2, rfl, wp_val (run_not rfl (ev_tmp e4)) ⟨rfl, Below.refl _ _⟩⟩
    · intro a' w' ha hs hw
      have e2 : a'.tmps[70]? = some (Value.bool false) := slot_get rfl rfl (hw 2 (by kernel_rfl) _ rfl)
      have e5 : a'.tmps[73]? = some (Value.bool false) := slot_get rfl rfl (hw 5 (by kernel_rfl) _ rfl)
      exact ⟨wanted_none rfl, rfl, wp_val (run_pick (b := false) rfl (ev_tmp e2) (ev_tmp e5)) ⟨rfl, Below.refl _ _⟩⟩
    · intro a' w' ha hs hw
      have e6 : a'.tmps[74]? = some (Value.bool false) := slot_get rfl rfl (hw 6 (by kernel_rfl) _ rfl)
      exact ⟨wanted_none rfl, rfl, wp_val (run_move rfl (ev_tmp e6)) ⟨rfl, Below.refl _ _⟩⟩
    · intro a' w' ha hs hw
      have e7 : a'.tmps[75]? = some (Value.bool false) := slot_get rfl rfl (hw 7 (by kernel_rfl) _ rfl)
      have eo12 : a'.tmps[12]? = some (ptr gr) := (ha.rest 12 (by kernel_rfl)).trans rfl
      exact ⟨wanted_some rfl rfl rfl e7, rfl, wp_val (run_load rfl (ev_tmp eo12) (BXr.out.next hs rfl)) ⟨rfl, Below.refl _ _⟩⟩
    · intro a' w' ha hs hw
      have e7 : a'.tmps[75]? = some (Value.bool false) := slot_get rfl rfl (hw 7 (by kernel_rfl) _ rfl)
      have e8 : a'.tmps[76]? = some (.agg #[.bool false, .slice Xr pr qr]) := slot_get rfl rfl (hw 8 (by kernel_rfl) _ rfl)
      exact ⟨wanted_some rfl rfl rfl e7, rfl, call_step rfl Try.func38 (by kernel_rfl) rfl (map_one (ev_tmp e8)) (rvalid_any _ (za % zb) _ (iv_next IVr.out hs rfl) (SZr.out.mono (by omega))) (fun e w2 he => by obtain ⟨rfl, hb⟩ := he; exact ⟨_, rfl, rfl, hb⟩)⟩
    · intro a' w' ha hs hw
      have e7 : a'.tmps[75]? = some (Value.bool false) := slot_get rfl rfl (hw 7 (by kernel_rfl) _ rfl)
      have e9 : a'.tmps[77]? = some (Value.bool true) := slot_get rfl rfl (hw 9 (by kernel_rfl) _ rfl)
      exact ⟨wanted_some rfl rfl rfl e7, rfl, wp_val (run_not rfl (ev_tmp e9)) ⟨rfl, Below.refl _ _⟩⟩
    · intro a' w' ha hs hw
      have e7 : a'.tmps[75]? = some (Value.bool false) := slot_get rfl rfl (hw 7 (by kernel_rfl) _ rfl)
      have e10 : a'.tmps[78]? = some (Value.bool false) := slot_get rfl rfl (hw 10 (by kernel_rfl) _ rfl)
      exact ⟨wanted_none rfl, rfl, wp_val (run_pick (b := false) rfl (ev_tmp e7) (ev_tmp e10)) ⟨rfl, Below.refl _ _⟩⟩
    · intro a' w' ha hs hw
      have e11 : a'.tmps[79]? = some (Value.bool false) := slot_get rfl rfl (hw 11 (by kernel_rfl) _ rfl)
      exact ⟨wanted_none rfl, rfl, wp_val (run_move rfl (ev_tmp e11)) ⟨rfl, Below.refl _ _⟩⟩
    · intro a' w' ha hs hw
      have e12 : a'.tmps[80]? = some (Value.bool false) := slot_get rfl rfl (hw 12 (by kernel_rfl) _ rfl)
      have eo12 : a'.tmps[12]? = some (ptr gr) := (ha.rest 12 (by kernel_rfl)).trans rfl
      exact ⟨wanted_some rfl rfl rfl e12, rfl, wp_val (run_field0 rfl (ev_tmp eo12)) ⟨rfl, Below.refl _ _⟩⟩
    · intro a' w' ha hs hw
      have e12 : a'.tmps[80]? = some (Value.bool false) := slot_get rfl rfl (hw 12 (by kernel_rfl) _ rfl)
      have e13 : a'.tmps[81]? = some (.pointer (some ⟨gr, 0, none⟩)) := slot_get rfl rfl (hw 13 (by kernel_rfl) _ rfl)
      exact ⟨wanted_some rfl rfl rfl e12, rfl, wp_val (run_load0 rfl (ev_tmp e13) (BXr.out.next hs rfl)) ⟨rfl, Below.refl _ _⟩⟩
    · intro a' w' ha hs hw
      have e12 : a'.tmps[80]? = some (Value.bool false) := slot_get rfl rfl (hw 12 (by kernel_rfl) _ rfl)
      have e14 : a'.tmps[82]? = some (.bool false) := slot_get rfl rfl (hw 14 (by kernel_rfl) _ rfl)
      exact ⟨wanted_none rfl, rfl, wp_val (run_pick (b := false) rfl (ev_tmp e12) (ev_tmp e14)) ⟨rfl, Below.refl _ _⟩⟩
    · intro a' w' ha hs hw
      have e15 : a'.tmps[83]? = some (.bool false) := slot_get rfl rfl (hw 15 (by kernel_rfl) _ rfl)
      exact ⟨wanted_none rfl, rfl, wp_val (run_move rfl (ev_tmp e15)) ⟨rfl, Below.refl _ _⟩⟩
    · intro a' w' ha hs hw
      have e16 : a'.tmps[84]? = some (.bool false) := slot_get rfl rfl (hw 16 (by kernel_rfl) _ rfl)
      have eo12 : a'.tmps[12]? = some (ptr gr) := (ha.rest 12 (by kernel_rfl)).trans rfl
      exact ⟨wanted_some rfl rfl rfl e16, rfl, wp_val (run_load rfl (ev_tmp eo12) (BXr.out.next hs rfl)) ⟨rfl, Below.refl _ _⟩⟩
    · intro a' w' ha hs hw
      have e16 : a'.tmps[84]? = some (.bool false) := slot_get rfl rfl (hw 16 (by kernel_rfl) _ rfl)
      have eo14 : a'.tmps[14]? = some (ptr gs) := (ha.rest 14 (by kernel_rfl)).trans rfl
      exact ⟨wanted_some rfl rfl rfl e16, rfl, wp_val (run_load rfl (ev_tmp eo14) (BXs.out.next hs rfl)) ⟨rfl, Below.refl _ _⟩⟩
    · intro a' w' ha hs hw
      have e16 : a'.tmps[84]? = some (.bool false) := slot_get rfl rfl (hw 16 (by kernel_rfl) _ rfl)
      have e17 : a'.tmps[85]? = some (.agg #[.bool false, .slice Xr pr qr]) := slot_get rfl rfl (hw 17 (by kernel_rfl) _ rfl)
      have e18 : a'.tmps[86]? = some (.agg #[.bool false, .slice Xb pb qb]) := slot_get rfl rfl (hw 18 (by kernel_rfl) _ rfl)
      exact ⟨wanted_some rfl rfl rfl e16, rfl, call_step rfl Try.func24 (by kernel_rfl) rfl (map_two (ev_tmp e17) (ev_tmp e18)) (cmp_is _ _ (za % zb) ((zb.natAbs : Int)) (-1) _ (iv_next IVr.out hs rfl) (iv_next IVs.out hs rfl) (SZr.out.mono (by omega)) (SZs.out.mono (by omega)) (cmpZ_lt R1.out)) (fun e w2 he => by obtain ⟨rfl, hb⟩ := he; exact ⟨_, rfl, rfl, hb⟩)⟩
    · intro a' w' ha hs hw
      have e16 : a'.tmps[84]? = some (.bool false) := slot_get rfl rfl (hw 16 (by kernel_rfl) _ rfl)
      have e19 : a'.tmps[87]? = some (Value.int IntKind.i64 (-1)) := slot_get rfl rfl (hw 19 (by kernel_rfl) _ rfl)
      exact ⟨wanted_some rfl rfl rfl e16, rfl, wp_val (show _ = _ from (run_geq_int rfl (ev_tmp e19) rfl).trans (by rfl)) ⟨rfl, Below.refl _ _⟩⟩
    · intro a' w' ha hs hw
      have e16 : a'.tmps[84]? = some (.bool false) := slot_get rfl rfl (hw 16 (by kernel_rfl) _ rfl)
      have e20 : a'.tmps[88]? = some (Value.bool false) := slot_get rfl rfl (hw 20 (by kernel_rfl) _ rfl)
      exact ⟨wanted_none rfl, rfl, wp_val (run_pick (b := false) rfl (ev_tmp e16) (ev_tmp e20)) ⟨rfl, Below.refl _ _⟩⟩
    · intro a' w' ha hs hw
      have e21 : a'.tmps[89]? = some (Value.bool false) := slot_get rfl rfl (hw 21 (by kernel_rfl) _ rfl)
      exact ⟨wanted_none rfl, rfl, wp_val (run_move rfl (ev_tmp e21)) ⟨rfl, Below.refl _ _⟩⟩
    · intro a' w' ha hs hw
      have e22 : a'.tmps[90]? = some (Value.bool false) := slot_get rfl rfl (hw 22 (by kernel_rfl) _ rfl)
      have eo11 : a'.tmps[11]? = some (ptr gq) := (ha.rest 11 (by kernel_rfl)).trans rfl
      exact ⟨wanted_some rfl rfl rfl e22, rfl, wp_val (run_load rfl (ev_tmp eo11) (BXq.out.next hs rfl)) ⟨rfl, Below.refl _ _⟩⟩
    · intro a' w' ha hs hw
      have e22 : a'.tmps[90]? = some (Value.bool false) := slot_get rfl rfl (hw 22 (by kernel_rfl) _ rfl)
      have eo9 : a'.tmps[9]? = some (ptr gb) := (ha.rest 9 (by kernel_rfl)).trans rfl
      exact ⟨wanted_some rfl rfl rfl e22, rfl, wp_val (run_load rfl (ev_tmp eo9) (BXb.out.next hs rfl)) ⟨rfl, Below.refl _ _⟩⟩
    · intro a' w' ha hs hw
      have e22 : a'.tmps[90]? = some (Value.bool false) := slot_get rfl rfl (hw 22 (by kernel_rfl) _ rfl)
      have e23 : a'.tmps[91]? = some (.agg #[.bool sq, .slice Xq pq qq]) := slot_get rfl rfl (hw 23 (by kernel_rfl) _ rfl)
      have e24 : a'.tmps[92]? = some (.agg #[.bool sb, .slice Xb pb qb]) := slot_get rfl rfl (hw 24 (by kernel_rfl) _ rfl)
      exact ⟨wanted_some rfl rfl rfl e22, rfl, call_step rfl Try.func30 (by kernel_rfl) rfl (map_two (ev_tmp e23) (ev_tmp e24)) (mul_any _ _ (za / zb) (zb) _ (iv_next IVq.out hs rfl) (iv_next IVb.out hs rfl) (SZq.out.mono (by omega)) (SZb.out.mono (by omega))) (fun e w2 he => by obtain ⟨v, rfl, hv, hb⟩ := he; exact ⟨v, rfl, v, rfl, hv, hb⟩)⟩
    · intro a' w' ha hs hw
      have e22 : a'.tmps[90]? = some (Value.bool false) := slot_get rfl rfl (hw 22 (by kernel_rfl) _ rfl)
      have eo12 : a'.tmps[12]? = some (ptr gr) := (ha.rest 12 (by kernel_rfl)).trans rfl
      exact ⟨wanted_some rfl rfl rfl e22, rfl, wp_val (run_load rfl (ev_tmp eo12) (BXr.out.next hs rfl)) ⟨rfl, Below.refl _ _⟩⟩
    · intro a' w' ha hs hw
      have e22 : a'.tmps[90]? = some (Value.bool false) := slot_get rfl rfl (hw 22 (by kernel_rfl) _ rfl)
      obtain ⟨v25, e25, q25⟩ := hw 25 (by kernel_rfl) _ rfl
      replace e25 : a'.tmps[93]? = some v25 := slot_get rfl rfl e25
      have e26 : a'.tmps[94]? = some (.agg #[.bool false, .slice Xr pr qr]) := slot_get rfl rfl (hw 26 (by kernel_rfl) _ rfl)
      exact ⟨wanted_some rfl rfl rfl e22, rfl, call_step rfl Try.func26 (by kernel_rfl) rfl (map_two (ev_tmp e25) (ev_tmp e26)) (add_any _ _ ((za / zb) * (zb)) (za % zb) _ q25 (iv_next IVr.out hs rfl) (SR11x25.out.mono (by omega)) (SZr.out.mono (by omega))) (fun e w2 he => by obtain ⟨v, rfl, hv, hb⟩ := he; exact ⟨v, rfl, v, rfl, hv, hb⟩)⟩
    · intro a' w' ha hs hw
      have e22 : a'.tmps[90]? = some (Value.bool false) := slot_get rfl rfl (hw 22 (by kernel_rfl) _ rfl)
      have eo8 : a'.tmps[8]? = some (ptr ga) := (ha.rest 8 (by kernel_rfl)).trans rfl
      exact ⟨wanted_some rfl rfl rfl e22, rfl, wp_val (run_load rfl (ev_tmp eo8) (BXa.out.next hs rfl)) ⟨rfl, Below.refl _ _⟩⟩
    · intro a' w' ha hs hw
      have e22 : a'.tmps[90]? = some (Value.bool false) := slot_get rfl rfl (hw 22 (by kernel_rfl) _ rfl)
      obtain ⟨v27, e27, q27⟩ := hw 27 (by kernel_rfl) _ rfl
      replace e27 : a'.tmps[95]? = some v27 := slot_get rfl rfl e27
      have e28 : a'.tmps[96]? = some (.agg #[.bool sa, .slice Xa pa qa]) := slot_get rfl rfl (hw 28 (by kernel_rfl) _ rfl)
      exact ⟨wanted_some rfl rfl rfl e22, rfl, call_step rfl Try.func19 (by kernel_rfl) rfl (map_two (ev_tmp e27) (ev_tmp e28)) (same_true _ _ (((za / zb) * (zb)) + (za % zb)) (za) _ q27 (iv_next IVa.out hs rfl) (SR11x27.out.mono (by omega)) (Int.ediv_mul_add_emod za zb)) (fun e w2 he => by obtain ⟨rfl, hb⟩ := he; exact ⟨_, rfl, rfl, hb⟩)⟩
    · intro a' w' ha hs hw
      have e22 : a'.tmps[90]? = some (Value.bool false) := slot_get rfl rfl (hw 22 (by kernel_rfl) _ rfl)
      have e29 : a'.tmps[97]? = some (Value.bool true) := slot_get rfl rfl (hw 29 (by kernel_rfl) _ rfl)
      exact ⟨wanted_some rfl rfl rfl e22, rfl, wp_val (run_not rfl (ev_tmp e29)) ⟨rfl, Below.refl _ _⟩⟩
    · intro a' w' ha hs hw
      have e22 : a'.tmps[90]? = some (Value.bool false) := slot_get rfl rfl (hw 22 (by kernel_rfl) _ rfl)
      have e30 : a'.tmps[98]? = some (Value.bool false) := slot_get rfl rfl (hw 30 (by kernel_rfl) _ rfl)
      exact ⟨wanted_none rfl, rfl, wp_val (run_pick (b := false) rfl (ev_tmp e22) (ev_tmp e30)) ⟨rfl, Below.refl _ _⟩⟩
  simp only [allQ]
  intro r9x25 _
  intro r9x27 _
  simp only [setOpt, List.set_cons_succ, List.set_cons_zero, ptr]
  refine hK _ _ ?_
  clear hK K
  replace BXa := Lib.hid (BXa.out.next hs rfl); replace IVa := Lib.hid (iv_next IVa.out hs rfl)
  replace BXb := Lib.hid (BXb.out.next hs rfl); replace IVb := Lib.hid (iv_next IVb.out hs rfl)
  replace BXc := Lib.hid (BXc.out.next hs rfl); replace IVc := Lib.hid (iv_next IVc.out hs rfl)
  replace BXq := Lib.hid (BXq.out.next hs rfl); replace IVq := Lib.hid (iv_next IVq.out hs rfl)
  replace BXr := Lib.hid (BXr.out.next hs rfl); replace IVr := Lib.hid (iv_next IVr.out hs rfl)
  replace BXs := Lib.hid (BXs.out.next hs rfl); replace IVs := Lib.hid (iv_next IVs.out hs rfl)
  replace DW := Lib.hid (link_below DW.out hs (by have := DW.out.size; omega) rfl rfl rfl rfl)
  clear hs
  go_upto_region 13 with fail
  have SR13x2 : Hid (Sz ((zc) * (zb)) 12) := (Sz.mul SZc.out SZb.out)
  have SR13x4 : Hid (Sz (((zc) * (zb)) + (za % zb)) 13) := (Sz.add (N := 12) (SR13x2.out.mono (by omega)) (SZr.out.mono (by omega)))
  refine region_go wn [.is (.agg #[.bool sc, .slice Xc pc qc]), .is (.agg #[.bool sb, .slice Xb pb qb]), .iv ((zc) * (zb)), .is (.agg #[.bool false, .slice Xr pr qr]), .iv (((zc) * (zb)) + (za % zb)), .is (.agg #[.bool sb, .slice Xb pb qb]), .tup [.inl (zc), .inl (za % zb), .inr (Value.int IntKind.i64 0)], .tup [.inl (zc), .inl (za % zb), .inr (Value.int IntKind.i64 0)], .iv (zc), .iv (za % zb), .is (Value.int IntKind.i64 0), .new, .new, .put 11 (zc), .put 12 (za % zb), .is (Value.int IntKind.i64 0)] [some 101, some 102, some 103, some 104, some 105, some 106, some 107, some 100, some 108, some 109, some 110, some 15, some 16, none, none, some 17] (by kernel_rfl) (by kernel_rfl) (by kernel_rfl) (by kernel_rfl) (by kernel_rfl) (by rfl) (by kernel_rfl) ((Below.refl _ _).drew) (fun Q' => ?_) (fun K hK wn hs => ?_)
  · refine ⟨?_, ?_, ?_, ?_, ?_, ?_, ?_, ?_, ?_, ?_, ?_, ?_, ?_, ?_, ?_, ?_, trivial⟩
    · intro a' w' ha hs hw
      have eo10 : a'.tmps[10]? = some (ptr gc) := (ha.rest 10 (by kernel_rfl)).trans rfl
      exact ⟨wanted_none rfl, rfl, wp_val (run_load rfl (ev_tmp eo10) (BXc.out.next hs rfl)) ⟨rfl, Below.refl _ _⟩⟩
    · intro a' w' ha hs hw
      have eo9 : a'.tmps[9]? = some (ptr gb) := (ha.rest 9 (by kernel_rfl)).trans rfl
      exact ⟨wanted_none rfl, rfl, wp_val (run_load rfl (ev_tmp eo9) (BXb.out.next hs rfl)) ⟨rfl, Below.refl _ _⟩⟩
    · intro a' w' ha hs hw
      have e0 : a'.tmps[101]? = some (.agg #[.bool sc, .slice Xc pc qc]) := slot_get rfl rfl (hw 0 (by kernel_rfl) _ rfl)
      have e1 : a'.tmps[102]? = some (.agg #[.bool sb, .slice Xb pb qb]) := slot_get rfl rfl (hw 1 (by kernel_rfl) _ rfl)
      exact ⟨wanted_none rfl, rfl, call_step rfl Try.func30 (by kernel_rfl) rfl (map_two (ev_tmp e0) (ev_tmp e1)) (mul_any _ _ (zc) (zb) _ (iv_next IVc.out hs rfl) (iv_next IVb.out hs rfl) (SZc.out.mono (by omega)) (SZb.out.mono (by omega))) (fun e w2 he => by obtain ⟨v, rfl, hv, hb⟩ := he; exact ⟨v, rfl, v, rfl, hv, hb⟩)⟩
    · intro a' w' ha hs hw
      have eo12 : a'.tmps[12]? = some (ptr gr) := (ha.rest 12 (by kernel_rfl)).trans rfl
      exact ⟨wanted_none rfl, rfl, wp_val (run_load rfl (ev_tmp eo12) (BXr.out.next hs rfl)) ⟨rfl, Below.refl _ _⟩⟩
    · intro a' w' ha hs hw
      obtain ⟨v2, e2, q2⟩ := hw 2 (by kernel_rfl) _ rfl
      replace e2 : a'.tmps[103]? = some v2 := slot_get rfl rfl e2
      have e3 : a'.tmps[104]? = some (.agg #[.bool false, .slice Xr pr qr]) := slot_get rfl rfl (hw 3 (by kernel_rfl) _ rfl)
      exact ⟨wanted_none rfl, rfl, call_step rfl Try.func26 (by kernel_rfl) rfl (map_two (ev_tmp e2) (ev_tmp e3)) (add_any _ _ ((zc) * (zb)) (za % zb) _ q2 (iv_next IVr.out hs rfl) (SR13x2.out.mono (by omega)) (SZr.out.mono (by omega))) (fun e w2 he => by obtain ⟨v, rfl, hv, hb⟩ := he; exact ⟨v, rfl, v, rfl, hv, hb⟩)⟩
    · intro a' w' ha hs hw
      have eo9 : a'.tmps[9]? = some (ptr gb) := (ha.rest 9 (by kernel_rfl)).trans rfl
      exact ⟨wanted_none rfl, rfl, wp_val (run_load rfl (ev_tmp eo9) (BXb.out.next hs rfl)) ⟨rfl, Below.refl _ _⟩⟩
    · intro a' w' ha hs hw
      obtain ⟨v4, e4, q4⟩ := hw 4 (by kernel_rfl) _ rfl
      replace e4 : a'.tmps[105]? = some v4 := slot_get rfl rfl e4
      have e5 : a'.tmps[106]? = some (.agg #[.bool sb, .slice Xb pb qb]) := slot_get rfl rfl (hw 5 (by kernel_rfl) _ rfl)
      exact ⟨wanted_none rfl, rfl, call_step rfl Try.func15 (by kernel_rfl) rfl (map_two (ev_tmp e4) (ev_tmp e5)) (divMod_is _ _ (((zc) * (zb)) + (za % zb)) zb zc (za % zb) _ q4 (iv_next IVb.out hs rfl) (SR13x4.out.mono (by omega)) (SZb.out.mono (by omega)) HX.out (div_back HX.out R0.out R1.out).1 (div_back HX.out R0.out R1.out).2) (fun e w2 he => by obtain ⟨v, u, rfl, h1, h2, hb⟩ := he; exact ⟨_, rfl, [v, u, .int .i64 0], rfl, ⟨h1, h2, rfl, trivial⟩, hb⟩)⟩
    · intro a' w' ha hs hw
      obtain ⟨us6, e6, q6⟩ := hw 6 (by kernel_rfl) _ rfl
      replace e6 : a'.tmps[107]? = some (.tuple us6.toArray) := slot_get rfl rfl e6
      exact ⟨wanted_none rfl, rfl, wp_val (run_move rfl (ev_tmp e6)) ⟨_, rfl, q6, Below.refl _ _⟩⟩
    · intro a' w' ha hs hw
      obtain ⟨us7, e7, q7⟩ := hw 7 (by kernel_rfl) _ rfl
      replace e7 : a'.tmps[100]? = some (.tuple us7.toArray) := slot_get rfl rfl e7
      match us7, e7, q7 with
      | [u0, u1, u2], e7, ⟨h0, h1, h2, _⟩ =>
        exact ⟨wanted_none rfl, rfl, wp_val (run_extract rfl (ev_tmp e7) rfl) ⟨_, rfl, h0, Below.refl _ _⟩⟩
    · intro a' w' ha hs hw
      obtain ⟨us7, e7, q7⟩ := hw 7 (by kernel_rfl) _ rfl
      replace e7 : a'.tmps[100]? = some (.tuple us7.toArray) := slot_get rfl rfl e7
      match us7, e7, q7 with
      | [u0, u1, u2], e7, ⟨h0, h1, h2, _⟩ =>
        exact ⟨wanted_none rfl, rfl, wp_val (run_extract rfl (ev_tmp e7) rfl) ⟨_, rfl, h1, Below.refl _ _⟩⟩
    · intro a' w' ha hs hw
      obtain ⟨us7, e7, q7⟩ := hw 7 (by kernel_rfl) _ rfl
      replace e7 : a'.tmps[100]? = some (.tuple us7.toArray) := slot_get rfl rfl e7
      match us7, e7, q7 with
      | [u0, u1, u2], e7, ⟨h0, h1, h2, _⟩ =>
        exact ⟨wanted_none rfl, rfl, wp_val (run_extract rfl (ev_tmp e7) (by rw [h2]; rfl)) ⟨rfl, Below.refl _ _⟩⟩
    · intro a' w' ha hs hw
      exact ⟨wanted_none rfl, rfl, wp_valw (run_alloc rfl) ⟨rfl, rfl⟩⟩
    · intro a' w' ha hs hw
      exact ⟨wanted_none rfl, rfl, wp_valw (run_alloc rfl) ⟨rfl, rfl⟩⟩
    · intro a' w' ha hs hw
      obtain ⟨v8, e8, q8⟩ := hw 8 (by kernel_rfl) _ rfl
      replace e8 : a'.tmps[108]? = some v8 := slot_get rfl rfl e8
      refine ⟨wanted_none rfl, by kernel_rfl, fun g hg => ?_⟩
      obtain ⟨A, n, c, hf, _, _, _⟩ := q8.form
      subst hf
      exact ⟨_, A, n, c, q8, fun ⟨_, _, _, _, hb⟩ => wp_skipw (run_store rfl (ev_tmp (slot_get rfl rfl hg)) (ev_tmp e8) hb) rfl ⟨rfl, rfl⟩⟩
    · intro a' w' ha hs hw
      obtain ⟨v9, e9, q9⟩ := hw 9 (by kernel_rfl) _ rfl
      replace e9 : a'.tmps[109]? = some v9 := slot_get rfl rfl e9
      refine ⟨wanted_none rfl, by kernel_rfl, fun g hg => ?_⟩
      obtain ⟨A, n, c, hf, _, _, _⟩ := q9.form
      subst hf
      exact ⟨_, A, n, c, q9, fun ⟨_, _, _, _, hb⟩ => wp_skipw (run_store rfl (ev_tmp (slot_get rfl rfl hg)) (ev_tmp e9) hb) rfl ⟨rfl, rfl⟩⟩
    · intro a' w' ha hs hw
      have e10 : a'.tmps[110]? = some (Value.int IntKind.i64 0) := slot_get rfl rfl (hw 10 (by kernel_rfl) _ rfl)
      exact ⟨wanted_none rfl, rfl, wp_val (run_assign rfl (ev_tmp e10)) ⟨rfl, Below.refl _ _⟩⟩
  simp only [allQ]
  intro r10x2 _
  intro r10x4 _
  intro r10x6 _
  intro r10x7 _
  intro r10x8 _
  intro r10x9 _
  intro gx hGx
  intro gy hGy
  intro gg sx Xx px qx he BXx IVx
  simp only [List.nil_append, List.cons_append, List.getElem?_cons_succ, List.getElem?_cons_zero, Option.some.injEq] at he
  obtain rfl := ptr_inj he
  clear he
  replace BXx := Lib.hid BXx; replace IVx := Lib.hid IVx
  intro gg sy Xy py qy he BXy IVy
  simp only [List.nil_append, List.cons_append, List.getElem?_cons_succ, List.getElem?_cons_zero, Option.some.injEq] at he
  obtain rfl := ptr_inj he
  clear he
  replace BXy := Lib.hid BXy; replace IVy := Lib.hid IVy
  simp only [setOpt, List.set_cons_succ, List.set_cons_zero, ptr]
  refine hK _ _ ?_
  clear hK K
  replace BXa := Lib.hid (BXa.out.next hs rfl); replace IVa := Lib.hid (iv_next IVa.out hs rfl)
  replace BXb := Lib.hid (BXb.out.next hs rfl); replace IVb := Lib.hid (iv_next IVb.out hs rfl)
  replace BXc := Lib.hid (BXc.out.next hs rfl); replace IVc := Lib.hid (iv_next IVc.out hs rfl)
  replace BXq := Lib.hid (BXq.out.next hs rfl); replace IVq := Lib.hid (iv_next IVq.out hs rfl)
  replace BXr := Lib.hid (BXr.out.next hs rfl); replace IVr := Lib.hid (iv_next IVr.out hs rfl)
  replace BXs := Lib.hid (BXs.out.next hs rfl); replace IVs := Lib.hid (iv_next IVs.out hs rfl)
  replace DW := Lib.hid (link_below DW.out hs (by have := DW.out.size; omega) rfl rfl rfl rfl)
  clear hs
  go_upto_region 14 with fail
  have w110a := BXx.out.cell0; have w110b := BXx.out.cell1; have w111a := BXc.out.cell0; have w111b := BXc.out.cell1
  go_wp2_with fail
  clear w110a w110b w111a w111b
  refine (same_true _ _ (zc) (zc) _ IVx.out IVc.out (SZc.out.mono (by omega)) (by rfl)).mono ?_
  rintro e y11 ⟨rfl, hb⟩
  replace BXa := Lib.hid (BXa.out.next hb rfl); replace IVa := Lib.hid (iv_next IVa.out hb rfl)
  replace BXb := Lib.hid (BXb.out.next hb rfl); replace IVb := Lib.hid (iv_next IVb.out hb rfl)
  replace BXc := Lib.hid (BXc.out.next hb rfl); replace IVc := Lib.hid (iv_next IVc.out hb rfl)
  replace BXq := Lib.hid (BXq.out.next hb rfl); replace IVq := Lib.hid (iv_next IVq.out hb rfl)
  replace BXr := Lib.hid (BXr.out.next hb rfl); replace IVr := Lib.hid (iv_next IVr.out hb rfl)
  replace BXs := Lib.hid (BXs.out.next hb rfl); replace IVs := Lib.hid (iv_next IVs.out hb rfl)
  replace BXx := Lib.hid (BXx.out.next hb rfl); replace IVx := Lib.hid (iv_next IVx.out hb rfl)
  replace BXy := Lib.hid (BXy.out.next hb rfl); replace IVy := Lib.hid (iv_next IVy.out hb rfl)
  replace DW := Lib.hid (link_below DW.out hb (by have := DW.out.size; omega) rfl rfl rfl rfl)
  clear hb
  have w120a := BXy.out.cell0; have w120b := BXy.out.cell1; have w121a := BXr.out.cell0; have w121b := BXr.out.cell1
  go_wp2_with fail
  clear w120a w120b w121a w121b
  refine (same_true _ _ (za % zb) (za % zb) _ IVy.out IVr.out (SZr.out.mono (by omega)) (by rfl)).mono ?_
  rintro e y12 ⟨rfl, hb⟩
  replace BXa := Lib.hid (BXa.out.next hb rfl); replace IVa := Lib.hid (iv_next IVa.out hb rfl)
  replace BXb := Lib.hid (BXb.out.next hb rfl); replace IVb := Lib.hid (iv_next IVb.out hb rfl)
  replace BXc := Lib.hid (BXc.out.next hb rfl); replace IVc := Lib.hid (iv_next IVc.out hb rfl)
  replace BXq := Lib.hid (BXq.out.next hb rfl); replace IVq := Lib.hid (iv_next IVq.out hb rfl)
  replace BXr := Lib.hid (BXr.out.next hb rfl); replace IVr := Lib.hid (iv_next IVr.out hb rfl)
  replace BXs := Lib.hid (BXs.out.next hb rfl); replace IVs := Lib.hid (iv_next IVs.out hb rfl)
  replace BXx := Lib.hid (BXx.out.next hb rfl); replace IVx := Lib.hid (iv_next IVx.out hb rfl)
  replace BXy := Lib.hid (BXy.out.next hb rfl); replace IVy := Lib.hid (iv_next IVy.out hb rfl)
  replace DW := Lib.hid (link_below DW.out hb (by have := DW.out.size; omega) rfl rfl rfl rfl)
  clear hb
  go_wp2
  go_ret
  exact ⟨by simp, by rw [hg]; exact DW.out⟩

theorem lawDivides_any (b0 : Bool) (A0 : Option Addr) (n0 c0 : Nat) (ws0 : List Nat) (b1 : Bool) (A1 : Option Addr) (n1 c1 : Nat) (ws1 : List Nat) (b2 : Bool) (A2 : Option Addr) (n2 c2 : Nat) (ws2 : List Nat) (w : World) (h0 : Wd w A0 n0 ws0) (m0 : n0 ≤ 9223372036854775807) (h1 : Wd w A1 n1 ws1) (m1 : n1 ≤ 9223372036854775807) (h2 : Wd w A2 n2 ws2) (m2 : n2 ≤ 9223372036854775807) :
    Calls Try.prog 7 #[.agg #[.bool b0, .slice A0 n0 c0], .agg #[.bool b1, .slice A1 n1 c1], .agg #[.bool b2, .slice A2 n2 c2]] w fun e w' => e = .returned (.bool true) ∧ Below w.heap.size w w' := by
  by_cases h : sgn b1 (val (ws1.take 6)) = 0
  · exact lawDividesZ_any b0 A0 n0 c0 ws0 b1 A1 n1 c1 ws1 b2 A2 n2 c2 ws2 w h0 m0 h1 m1 h2 m2 h
  · exact lawDividesN_any b0 A0 n0 c0 ws0 b1 A1 n1 c1 ws1 b2 A2 n2 c2 ws2 w h0 m0 h1 m1 h2 m2 h
end Go.Proofs.Ytloiabkopacfgaa
