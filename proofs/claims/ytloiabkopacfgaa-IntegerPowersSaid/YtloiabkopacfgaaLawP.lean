/-
  The law IntegerPowers: the walk.
-/
import Derived.Test.YtloiabkopacfgaaRegE
import Derived.Deep.DeepCutAuto
import Derived.Handy
namespace Go.Proofs.Ytloiabkopacfgaa
open Go.RowKit
attribute [local go_sem ↓] Go.wp_at_zero Go.wp_at_succ

set_option maxHeartbeats 16000000 in
set_option maxRecDepth 100000 in
theorem lawPowersN_any (b0 : Bool) (A0 : Option Addr) (n0 c0 : Nat) (ws0 : List Nat) (b1 : Bool) (A1 : Option Addr) (n1 c1 : Nat) (ws1 : List Nat) (x y z : Int) (w : World) (h0 : Wd w A0 n0 ws0) (m0 : n0 ≤ 9223372036854775807) (h1 : Wd w A1 n1 ws1) (m1 : n1 ≤ 9223372036854775807) (hxyz : (0 ≤ x ∧ x ≤ 255) ∧ (0 ≤ y ∧ y ≤ 255) ∧ (0 ≤ z ∧ z ≤ 255)) (hx0 : sgn b0 (val (ws0.take 4)) < 0) :
    Calls Try.prog 9 #[.agg #[.bool b0, .slice A0 n0 c0], .agg #[.bool b1, .slice A1 n1 c1], .agg #[.int .u8 x, .int .u8 y, .int .u8 z]] w fun e w' => e = .returned (.bool true) ∧ Below w.heap.size w w' := by
  obtain ⟨za, hza⟩ : ∃ z, z = sgn b0 (val (ws0.take 4)) := ⟨_, rfl⟩
  have SZa : Hid (Sz za 4) := by rw [hza]; exact sz_take _ _ _ h0.wds
  obtain ⟨zb, hzb⟩ : ∃ z, z = sgn b1 (val (ws1.take 4)) := ⟨_, rfl⟩
  have SZb : Hid (Sz zb 4) := by rw [hzb]; exact sz_take _ _ _ h1.wds
  rw [← hza] at hx0
  have HX := Lib.hid hx0
  clear hx0
  obtain ⟨m, hm, hm20⟩ := small_mod hxyz.1
  obtain ⟨l, hl, hl20⟩ := small_mod hxyz.2.1
  obtain ⟨k, hk, hk20⟩ := small_mod hxyz.2.2
  have HXY := Lib.hid hxyz
  clear hxyz
  go_enter Try.func9, Try.ntmps9
  go_wp2_with fail
  obtain ⟨W, hW⟩ : ∃ W, W = (((w.alloc (Obj.cells #[Value.bool b0, Value.slice A0 n0 c0] 24)).alloc (Obj.cells #[Value.bool b1, Value.slice A1 n1 c1] 24)).alloc (Obj.cells #[Value.int IntKind.u8 x, Value.int IntKind.u8 y, Value.int IntKind.u8 z] 48)) := ⟨_, rfl⟩
  rw [← hW]
  have AX0 : Hid (CBox W (w.heap.size + 1 + 1) #[Value.int IntKind.u8 x, Value.int IntKind.u8 y, Value.int IntKind.u8 z] 48) := by rw [hW]; have := CBox.new ((w.alloc (Obj.cells #[Value.bool b0, Value.slice A0 n0 c0] 24)).alloc (Obj.cells #[Value.bool b1, Value.slice A1 n1 c1] 24)) #[Value.int IntKind.u8 x, Value.int IntKind.u8 y, Value.int IntKind.u8 z] 48; simpa [Hid] using this
  have RX0 : Hid (RBox W (w.heap.size) b0 (.slice A0 n0 c0)) := by rw [hW]; have := ((RBox.new w b0 (.slice A0 n0 c0)).alloc (Obj.cells #[Value.bool b1, Value.slice A1 n1 c1] 24)).alloc (Obj.cells #[Value.int IntKind.u8 x, Value.int IntKind.u8 y, Value.int IntKind.u8 z] 48); simpa [Hid] using this
  have RW0 : Hid (Wd W A0 n0 ws0) := by rw [hW]; exact (((h0).alloc _).alloc _).alloc _
  have RX1 : Hid (RBox W (w.heap.size + 1) b1 (.slice A1 n1 c1)) := by rw [hW]; have := (RBox.new (w.alloc (Obj.cells #[Value.bool b0, Value.slice A0 n0 c0] 24)) b1 (.slice A1 n1 c1)).alloc (Obj.cells #[Value.int IntKind.u8 x, Value.int IntKind.u8 y, Value.int IntKind.u8 z] 48); simpa [Hid] using this
  have RW1 : Hid (Wd W A1 n1 ws1) := by rw [hW]; exact (((h1).alloc _).alloc _).alloc _
  have DW : Hid (Below w.heap.size w W) := by rw [hW]; exact (((Below.refl _ _).alloc (by simp <;> omega) _).alloc (by simp <;> omega) _).alloc (by simp <;> omega) _
  clear hW h0 h1
  generalize hg : w.heap.size = g at *
  refine (sanity_any _).mono ?_
  rintro e w1 ⟨rfl, hb1⟩
  replace RX0 := Lib.hid (RX0.out.next hb1 rfl); replace RW0 := Lib.hid (RW0.out.next hb1 rfl)
  replace RX1 := Lib.hid (RX1.out.next hb1 rfl); replace RW1 := Lib.hid (RW1.out.next hb1 rfl)
  replace AX0 := Lib.hid (AX0.out.next hb1 rfl)
  replace DW := Lib.hid (link_below DW.out hb1 (by have := DW.out.size; omega) rfl rfl rfl rfl)
  clear hb1
  have u1 := RX0.out.cell0; have u2 := RX0.out.cell1
  go_wp2_with fail
  clear u1 u2
  refine (rmade_raw b0 A0 n0 c0 4 4 ws0 _ RW0.out rfl (by omega) m0).mono ?_
  rw [← hza]
  rintro e y1 ⟨_, rfl, hq, hb⟩
  clear RX0 RW0
  obtain ⟨Xa, pa, qa, rfl, _, _, _⟩ := hq.form
  have Q := Lib.hid hq; have B := Lib.hid hb; clear hq hb
  generalize hs : decide ((za : Int) < 0) = sa at *
  clear hs
  go_upto_region 5 with fail
  obtain ⟨W2, hW⟩ : ∃ W2, W2 = y1.alloc (Obj.cells #[Value.bool sa, Value.slice Xa pa qa] 27) := ⟨_, rfl⟩
  rw [← hW]
  have BXa : Hid (Box W2 y1.heap.size sa (.slice Xa pa qa)) := by rw [hW]; exact Box.new _ _ _
  have IVa : Hid (Iv W2 (.agg #[.bool sa, .slice Xa pa qa]) (za)) := by rw [hW]; exact Q.out.alloc _
  have hd : Below w1.heap.size w1 W2 := by rw [hW]; exact B.out.alloc B.out.size _
  clear hW Q B
  generalize hgn : y1.heap.size = ga at *
  clear hgn
  replace RX1 := Lib.hid (RX1.out.next hd rfl); replace RW1 := Lib.hid (RW1.out.next hd rfl)
  replace AX0 := Lib.hid (AX0.out.next hd rfl)
  replace DW := Lib.hid (link_below DW.out hd (by have := DW.out.size; omega) rfl rfl rfl rfl)
  clear hd
  have u1 := RX1.out.cell0; have u2 := RX1.out.cell1
  go_wp2_with fail
  clear u1 u2
  refine (rmade_raw b1 A1 n1 c1 4 4 ws1 _ RW1.out rfl (by omega) m1).mono ?_
  rw [← hzb]
  rintro e y3 ⟨_, rfl, hq, hb⟩
  clear RX1 RW1
  obtain ⟨Xb, pb, qb, rfl, _, _, _⟩ := hq.form
  have Q := Lib.hid hq; have B := Lib.hid hb; clear hq hb
  generalize hs : decide ((zb : Int) < 0) = sb at *
  clear hs
  go_upto_region 6 with fail
  obtain ⟨W4, hW⟩ : ∃ W4, W4 = y3.alloc (Obj.cells #[Value.bool sb, Value.slice Xb pb qb] 27) := ⟨_, rfl⟩
  rw [← hW]
  have BXb : Hid (Box W4 y3.heap.size sb (.slice Xb pb qb)) := by rw [hW]; exact Box.new _ _ _
  have IVb : Hid (Iv W4 (.agg #[.bool sb, .slice Xb pb qb]) (zb)) := by rw [hW]; exact Q.out.alloc _
  have hd : Below W2.heap.size W2 W4 := by rw [hW]; exact B.out.alloc B.out.size _
  clear hW Q B
  generalize hgn : y3.heap.size = gb at *
  clear hgn
  replace BXa := Lib.hid (BXa.out.next hd rfl); replace IVa := Lib.hid (iv_next IVa.out hd rfl)
  replace AX0 := Lib.hid (AX0.out.next hd rfl)
  replace DW := Lib.hid (link_below DW.out hd (by have := DW.out.size; omega) rfl rfl rfl rfl)
  clear hd
  have v0 := AX0.out.cell 0; have v1 := AX0.out.cell 1; have v2 := AX0.out.cell 2
  simp at v0 v1 v2
  have hx0 := HXY.out.1.1; have hx1 := HXY.out.1.2; have hy0 := HXY.out.2.1.1; have hy1 := HXY.out.2.1.2; have hw0 := HXY.out.2.2.1; have hw1 := HXY.out.2.2.2
  go_upto_region 9 with fail
  clear v0 v1 v2 AX0 hm hl hk hx0 hx1 hy0 hy1 hw0 hw1
  obtain ⟨kk, hkk⟩ : ∃ kk : Nat, (1 + (k : Int)) = (kk : Int) := ⟨1 + k, by omega⟩
  rw [hkk]
  have hk1 : 1 ≤ kk := by omega
  have hk2 : kk ≤ 20 := by omega
  clear hkk hk20
  have w50a := BXa.out.cell0; have w50b := BXa.out.cell1
  go_wp2_with fail
  clear w50a w50b
  refine (pow_any _ (za) (m) ((m : Int)) _ IVa.out (SZa.out.mono (by omega)) (by simp) (by omega)).mono ?_
  rintro e y6 ⟨_, rfl, hq, hb⟩
  have SZp : Hid (Sz ((za) ^ m) 161) := (SZa.out.pow (m)).mono (by omega)
  obtain ⟨Xp, pp, qp, rfl, _, _, _⟩ := hq.form
  have Q := Lib.hid hq; have B := Lib.hid hb; clear hq hb
  generalize hs : decide (((za) ^ m : Int) < 0) = sp at *
  clear hs
  go_upto_region 10 with fail
  obtain ⟨W7, hW⟩ : ∃ W7, W7 = y6.alloc (Obj.cells #[Value.bool sp, Value.slice Xp pp qp] 27) := ⟨_, rfl⟩
  rw [← hW]
  have BXp : Hid (Box W7 y6.heap.size sp (.slice Xp pp qp)) := by rw [hW]; exact Box.new _ _ _
  have IVp : Hid (Iv W7 (.agg #[.bool sp, .slice Xp pp qp]) ((za) ^ m)) := by rw [hW]; exact Q.out.alloc _
  have hd : Below W4.heap.size W4 W7 := by rw [hW]; exact B.out.alloc B.out.size _
  clear hW Q B
  generalize hgn : y6.heap.size = gp at *
  clear hgn
  replace BXa := Lib.hid (BXa.out.next hd rfl); replace IVa := Lib.hid (iv_next IVa.out hd rfl)
  replace BXb := Lib.hid (BXb.out.next hd rfl); replace IVb := Lib.hid (iv_next IVb.out hd rfl)
  replace DW := Lib.hid (link_below DW.out hd (by have := DW.out.size; omega) rfl rfl rfl rfl)
  clear hd
  have w80a := BXa.out.cell0; have w80b := BXa.out.cell1
  go_wp2_with fail
  clear w80a w80b
  refine (pow_any _ (za) (l) ((l : Int)) _ IVa.out (SZa.out.mono (by omega)) (by simp) (by omega)).mono ?_
  rintro e y9 ⟨_, rfl, hq, hb⟩
  have SZq : Hid (Sz ((za) ^ l) 161) := (SZa.out.pow (l)).mono (by omega)
  obtain ⟨Xq, pq, qq, rfl, _, _, _⟩ := hq.form
  have Q := Lib.hid hq; have B := Lib.hid hb; clear hq hb
  generalize hs : decide (((za) ^ l : Int) < 0) = sq at *
  clear hs
  go_upto_region 11 with fail
  obtain ⟨W10, hW⟩ : ∃ W10, W10 = y9.alloc (Obj.cells #[Value.bool sq, Value.slice Xq pq qq] 27) := ⟨_, rfl⟩
  rw [← hW]
  have BXq : Hid (Box W10 y9.heap.size sq (.slice Xq pq qq)) := by rw [hW]; exact Box.new _ _ _
  have IVq : Hid (Iv W10 (.agg #[.bool sq, .slice Xq pq qq]) ((za) ^ l)) := by rw [hW]; exact Q.out.alloc _
  have hd : Below W7.heap.size W7 W10 := by rw [hW]; exact B.out.alloc B.out.size _
  clear hW Q B
  generalize hgn : y9.heap.size = gq at *
  clear hgn
  replace BXa := Lib.hid (BXa.out.next hd rfl); replace IVa := Lib.hid (iv_next IVa.out hd rfl)
  replace BXb := Lib.hid (BXb.out.next hd rfl); replace IVb := Lib.hid (iv_next IVb.out hd rfl)
  replace BXp := Lib.hid (BXp.out.next hd rfl); replace IVp := Lib.hid (iv_next IVp.out hd rfl)
  replace DW := Lib.hid (link_below DW.out hd (by have := DW.out.size; omega) rfl rfl rfl rfl)
  clear hd
  have w110a := BXa.out.cell0; have w110b := BXa.out.cell1
  go_wp2_with fail
  clear w110a w110b
  refine (pow_any _ (za) (m + l) ((m : Int) + l) _ IVa.out (SZa.out.mono (by omega)) (by simp) (by omega)).mono ?_
  rintro e y12 ⟨_, rfl, hq, hb⟩
  have SZs : Hid (Sz ((za) ^ (m + l)) 161) := (SZa.out.pow (m + l)).mono (by omega)
  obtain ⟨Xs, ps, qs, rfl, _, _, _⟩ := hq.form
  have Q := Lib.hid hq; have B := Lib.hid hb; clear hq hb
  generalize hs : decide (((za) ^ (m + l) : Int) < 0) = ss at *
  clear hs
  go_upto_region 12 with fail
  obtain ⟨W13, hW⟩ : ∃ W13, W13 = y12.alloc (Obj.cells #[Value.bool ss, Value.slice Xs ps qs] 27) := ⟨_, rfl⟩
  rw [← hW]
  have BXs : Hid (Box W13 y12.heap.size ss (.slice Xs ps qs)) := by rw [hW]; exact Box.new _ _ _
  have IVs : Hid (Iv W13 (.agg #[.bool ss, .slice Xs ps qs]) ((za) ^ (m + l))) := by rw [hW]; exact Q.out.alloc _
  have hd : Below W10.heap.size W10 W13 := by rw [hW]; exact B.out.alloc B.out.size _
  clear hW Q B
  generalize hgn : y12.heap.size = gs at *
  clear hgn
  replace BXa := Lib.hid (BXa.out.next hd rfl); replace IVa := Lib.hid (iv_next IVa.out hd rfl)
  replace BXb := Lib.hid (BXb.out.next hd rfl); replace IVb := Lib.hid (iv_next IVb.out hd rfl)
  replace BXp := Lib.hid (BXp.out.next hd rfl); replace IVp := Lib.hid (iv_next IVp.out hd rfl)
  replace BXq := Lib.hid (BXq.out.next hd rfl); replace IVq := Lib.hid (iv_next IVq.out hd rfl)
  replace DW := Lib.hid (link_below DW.out hd (by have := DW.out.size; omega) rfl rfl rfl rfl)
  clear hd
  have w140a := BXb.out.cell0; have w140b := BXb.out.cell1
  go_wp2_with fail
  clear w140a w140b
  refine (pow_any _ (zb) (m) ((m : Int)) _ IVb.out (SZb.out.mono (by omega)) (by simp) (by omega)).mono ?_
  rintro e y15 ⟨_, rfl, hq, hb⟩
  have SZt : Hid (Sz ((zb) ^ m) 161) := (SZb.out.pow (m)).mono (by omega)
  obtain ⟨Xt, pt, qt, rfl, _, _, _⟩ := hq.form
  have Q := Lib.hid hq; have B := Lib.hid hb; clear hq hb
  generalize hs : decide (((zb) ^ m : Int) < 0) = st at *
  clear hs
  go_upto_region 13 with fail
  obtain ⟨W16, hW⟩ : ∃ W16, W16 = y15.alloc (Obj.cells #[Value.bool st, Value.slice Xt pt qt] 27) := ⟨_, rfl⟩
  rw [← hW]
  have BXt : Hid (Box W16 y15.heap.size st (.slice Xt pt qt)) := by rw [hW]; exact Box.new _ _ _
  have IVt : Hid (Iv W16 (.agg #[.bool st, .slice Xt pt qt]) ((zb) ^ m)) := by rw [hW]; exact Q.out.alloc _
  have hd : Below W13.heap.size W13 W16 := by rw [hW]; exact B.out.alloc B.out.size _
  clear hW Q B
  generalize hgn : y15.heap.size = gt at *
  clear hgn
  replace BXa := Lib.hid (BXa.out.next hd rfl); replace IVa := Lib.hid (iv_next IVa.out hd rfl)
  replace BXb := Lib.hid (BXb.out.next hd rfl); replace IVb := Lib.hid (iv_next IVb.out hd rfl)
  replace BXp := Lib.hid (BXp.out.next hd rfl); replace IVp := Lib.hid (iv_next IVp.out hd rfl)
  replace BXq := Lib.hid (BXq.out.next hd rfl); replace IVq := Lib.hid (iv_next IVq.out hd rfl)
  replace BXs := Lib.hid (BXs.out.next hd rfl); replace IVs := Lib.hid (iv_next IVs.out hd rfl)
  replace DW := Lib.hid (link_below DW.out hd (by have := DW.out.size; omega) rfl rfl rfl rfl)
  clear hd
  have w170a := BXa.out.cell0; have w170b := BXa.out.cell1; have w171a := BXb.out.cell0; have w171b := BXb.out.cell1
  go_wp2_with fail
  clear w170a w170b w171a w171b
  refine (mul_any _ _ (za) zb _ IVa.out IVb.out (SZa.out.mono (by omega)) (SZb.out.mono (by omega))).mono ?_
  rintro e ym ⟨vm, rfl, hvm, hbm⟩
  have HVM := Lib.hid hvm; have HBM := Lib.hid hbm; clear hvm hbm
  have SZm : Hid (Sz ((za) * zb) 8) := SZa.out.mul SZb.out
  go_wp2_with fail
  refine (pow_any _ ((za) * zb) m (m : Int) _ HVM.out (SZm.out.mono (by omega)) rfl (by omega)).mono ?_
  rintro e yw ⟨_, rfl, hq, hb2⟩
  have hb := link_below HBM.out hb2 HBM.out.size rfl rfl rfl rfl
  clear HBM HVM hb2
  have SZw : Hid (Sz (((za) * zb) ^ m) 161) := (SZm.out.pow m).mono (by omega)
  obtain ⟨Xw, pw, qw, rfl, _, _, _⟩ := hq.form
  have Q := Lib.hid hq; have B := Lib.hid hb; clear hq hb
  generalize hs : decide ((((za) * zb) ^ m : Int) < 0) = sw at *
  clear hs
  go_upto_region 14 with fail
  obtain ⟨W18, hW⟩ : ∃ W18, W18 = yw.alloc (Obj.cells #[Value.bool sw, Value.slice Xw pw qw] 27) := ⟨_, rfl⟩
  rw [← hW]
  have BXw : Hid (Box W18 yw.heap.size sw (.slice Xw pw qw)) := by rw [hW]; exact Box.new _ _ _
  have IVw : Hid (Iv W18 (.agg #[.bool sw, .slice Xw pw qw]) (((za) * zb) ^ m)) := by rw [hW]; exact Q.out.alloc _
  have hd : Below W16.heap.size W16 W18 := by rw [hW]; exact B.out.alloc B.out.size _
  clear hW Q B
  generalize hgn : yw.heap.size = gw at *
  clear hgn
  replace BXa := Lib.hid (BXa.out.next hd rfl); replace IVa := Lib.hid (iv_next IVa.out hd rfl)
  replace BXb := Lib.hid (BXb.out.next hd rfl); replace IVb := Lib.hid (iv_next IVb.out hd rfl)
  replace BXp := Lib.hid (BXp.out.next hd rfl); replace IVp := Lib.hid (iv_next IVp.out hd rfl)
  replace BXq := Lib.hid (BXq.out.next hd rfl); replace IVq := Lib.hid (iv_next IVq.out hd rfl)
  replace BXs := Lib.hid (BXs.out.next hd rfl); replace IVs := Lib.hid (iv_next IVs.out hd rfl)
  replace BXt := Lib.hid (BXt.out.next hd rfl); replace IVt := Lib.hid (iv_next IVt.out hd rfl)
  replace DW := Lib.hid (link_below DW.out hd (by have := DW.out.size; omega) rfl rfl rfl rfl)
  clear hd
  have SR14x21 : Hid (Sz (((za) ^ m) * ((za) ^ l)) 322) := (Sz.mul SZp.out SZq.out)
  have SR14x29 : Hid (Sz (((za) ^ m) * ((zb) ^ m)) 322) := (Sz.mul SZp.out SZt.out)
  refine region_go W18 [.is (Value.int IntKind.i64 0), .is (Value.bool false), .is (Value.bool false), .is (Value.int IntKind.i64 0), .is (Value.bool false), .is (Value.bool false), .is (Value.bool false), .is (Value.int IntKind.i64 0), .is (Value.bool false), .is (Value.bool false), .is (Value.bool false), .is (Value.int IntKind.i64 0), .is (Value.bool false), .is (Value.bool false), .is (Value.bool false), .is (Value.int IntKind.i64 0), .is (Value.bool false), .is (Value.bool false), .is (Value.bool false), .is (.agg #[.bool sp, .slice Xp pp qp]), .is (.agg #[.bool sq, .slice Xq pq qq]), .iv (((za) ^ m) * ((za) ^ l)), .is (.agg #[.bool ss, .slice Xs ps qs]), .is (Value.bool true), .is (Value.bool false), .is (Value.bool false), .is (Value.bool false), .is (.agg #[.bool sp, .slice Xp pp qp]), .is (.agg #[.bool st, .slice Xt pt qt]), .iv (((za) ^ m) * ((zb) ^ m)), .is (.agg #[.bool sw, .slice Xw pw qw]), .is (Value.bool true), .is (Value.bool false), .is (Value.bool false)] [some 83, some 84, some 85, some 86, some 87, some 88, some 89, some 90, some 91, some 92, some 93, some 94, some 95, some 96, some 97, some 98, some 99, some 100, some 101, some 102, some 103, some 104, some 105, some 106, some 107, some 108, some 109, some 110, some 111, some 112, some 113, some 114, some 115, some 116] (by kernel_rfl) (by kernel_rfl) (by kernel_rfl) (by kernel_rfl) (by kernel_rfl) (by rfl) (by kernel_rfl) ((Below.refl _ _).drew) (fun Q' => ?_) (fun K hK wn hs => ?_)
  · refine ⟨?_, ?_, ?_, ?_, ?_, ?_, ?_, ?_, ?_, ?_, ?_, ?_, ?_, ?_, ?_, ?_, ?_, ?_, ?_, ?_, ?_, ?_, ?_, ?_, ?_, ?_, ?_, ?_, ?_, ?_, ?_, ?_, ?_, ?_, trivial⟩
    · intro a' w' ha hs hw
      have eo14 : a'.tmps[14]? = some (Value.int IntKind.i64 0) := (ha.rest 14 (by kernel_rfl)).trans rfl
      exact ⟨wanted_none rfl, rfl, wp_val (run_move rfl (ev_tmp eo14)) ⟨rfl, Below.refl _ _⟩⟩
    · intro a' w' ha hs hw
      have e0 : a'.tmps[83]? = some (Value.int IntKind.i64 0) := slot_get rfl rfl (hw 0 (by kernel_rfl) _ rfl)
      exact ⟨wanted_none rfl, rfl, wp_val (show _ = _ from (run_neq_int rfl (ev_tmp e0) rfl).trans (by rfl)) ⟨rfl, Below.refl _ _⟩⟩
    · intro a' w' ha hs hw
      have e1 : a'.tmps[84]? = some (Value.bool false) := slot_get rfl rfl (hw 1 (by kernel_rfl) _ rfl)
      exact ⟨wanted_none rfl, rfl, wp_val (run_move rfl (ev_tmp e1)) ⟨rfl, Below.refl _ _⟩⟩
    · intro a' w' ha hs hw
      have e2 : a'.tmps[85]? = some (Value.bool false) := slot_get rfl rfl (hw 2 (by kernel_rfl) _ rfl)
      have eo16 : a'.tmps[16]? = some (Value.int IntKind.i64 0) := (ha.rest 16 (by kernel_rfl)).trans rfl
      exact ⟨wanted_some rfl rfl rfl e2, rfl, wp_val (run_move rfl (ev_tmp eo16)) ⟨rfl, Below.refl _ _⟩⟩
    · intro a' w' ha hs hw
      have e2 : a'.tmps[85]? = some (Value.bool false) := slot_get rfl rfl (hw 2 (by kernel_rfl) _ rfl)
      have e3 : a'.tmps[86]? = some (Value.int IntKind.i64 0) := slot_get rfl rfl (hw 3 (by kernel_rfl) _ rfl)
      exact ⟨wanted_some rfl rfl rfl e2, rfl, wp_val (show _ = _ from (run_neq_int rfl (ev_tmp e3) rfl).trans (by rfl)) ⟨rfl, Below.refl _ _⟩⟩
    · intro a' w' ha hs hw
      have e2 : a'.tmps[85]? = some (Value.bool false) := slot_get rfl rfl (hw 2 (by kernel_rfl) _ rfl)
      have e4 : a'.tmps[87]? = some (Value.bool false) := slot_get rfl rfl (hw 4 (by kernel_rfl) _ rfl)
      exact ⟨wanted_none rfl, rfl, wp_val (run_pick (b := false) rfl (ev_tmp e2) (ev_tmp e4)) ⟨rfl, Below.refl _ _⟩⟩
    · intro a' w' ha hs hw
      have e5 : a'.tmps[88]? = some (Value.bool false) := slot_get rfl rfl (hw 5 (by kernel_rfl) _ rfl)
      exact ⟨wanted_none rfl, rfl, wp_val (run_move rfl (ev_tmp e5)) ⟨rfl, Below.refl _ _⟩⟩
    · intro a' w' ha hs hw
      have e6 : a'.tmps[89]? = some (Value.bool false) := slot_get rfl rfl (hw 6 (by kernel_rfl) _ rfl)
      have eo18 : a'.tmps[18]? = some (Value.int IntKind.i64 0) := (ha.rest 18 (by kernel_rfl)).trans rfl
      exact ⟨wanted_some rfl rfl rfl e6, rfl, wp_val (run_move rfl (ev_tmp eo18)) ⟨rfl, Below.refl _ _⟩⟩
    · intro a' w' ha hs hw
      have e6 : a'.tmps[89]? = some (Value.bool false) := slot_get rfl rfl (hw 6 (by kernel_rfl) _ rfl)
      have e7 : a'.tmps[90]? = some (Value.int IntKind.i64 0) := slot_get rfl rfl (hw 7 (by kernel_rfl) _ rfl)
      exact ⟨wanted_some rfl rfl rfl e6, rfl, wp_val (show _ = _ from (run_neq_int rfl (ev_tmp e7) rfl).trans (by rfl)) ⟨rfl, Below.refl _ _⟩⟩
    · intro a' w' ha hs hw
      have e6 : a'.tmps[89]? = some (Value.bool false) := slot_get rfl rfl (hw 6 (by kernel_rfl) _ rfl)
      have e8 : a'.tmps[91]? = some (Value.bool false) := slot_get rfl rfl (hw 8 (by kernel_rfl) _ rfl)
      exact ⟨wanted_none rfl, rfl, wp_val (run_pick (b := false) rfl (ev_tmp e6) (ev_tmp e8)) ⟨rfl, Below.refl _ _⟩⟩
    · intro a' w' ha hs hw
      have e9 : a'.tmps[92]? = some (Value.bool false) := slot_get rfl rfl (hw 9 (by kernel_rfl) _ rfl)
      exact ⟨wanted_none rfl, rfl, wp_val (run_move rfl (ev_tmp e9)) ⟨rfl, Below.refl _ _⟩⟩
    · intro a' w' ha hs hw
      have e10 : a'.tmps[93]? = some (Value.bool false) := slot_get rfl rfl (hw 10 (by kernel_rfl) _ rfl)
      have eo20 : a'.tmps[20]? = some (Value.int IntKind.i64 0) := (ha.rest 20 (by kernel_rfl)).trans rfl
      exact ⟨wanted_some rfl rfl rfl e10, rfl, wp_val (run_move rfl (ev_tmp eo20)) ⟨rfl, Below.refl _ _⟩⟩
    · intro a' w' ha hs hw
      have e10 : a'.tmps[93]? = some (Value.bool false) := slot_get rfl rfl (hw 10 (by kernel_rfl) _ rfl)
      have e11 : a'.tmps[94]? = some (Value.int IntKind.i64 0) := slot_get rfl rfl (hw 11 (by kernel_rfl) _ rfl)
      exact ⟨wanted_some rfl rfl rfl e10, rfl, wp_val (show _ = _ from (run_neq_int rfl (ev_tmp e11) rfl).trans (by rfl)) ⟨rfl, Below.refl _ _⟩⟩
    · intro a' w' ha hs hw
      have e10 : a'.tmps[93]? = some (Value.bool false) := slot_get rfl rfl (hw 10 (by kernel_rfl) _ rfl)
      have e12 : a'.tmps[95]? = some (Value.bool false) := slot_get rfl rfl (hw 12 (by kernel_rfl) _ rfl)
      exact ⟨wanted_none rfl, rfl, wp_val (run_pick (b := false) rfl (ev_tmp e10) (ev_tmp e12)) ⟨rfl, Below.refl _ _⟩⟩
    · intro a' w' ha hs hw
      have e13 : a'.tmps[96]? = some (Value.bool false) := slot_get rfl rfl (hw 13 (by kernel_rfl) _ rfl)
      exact ⟨wanted_none rfl, rfl, wp_val (run_move rfl (ev_tmp e13)) ⟨rfl, Below.refl _ _⟩⟩
    · intro a' w' ha hs hw
      have e14 : a'.tmps[97]? = some (Value.bool false) := slot_get rfl rfl (hw 14 (by kernel_rfl) _ rfl)
      have eo22 : a'.tmps[22]? = some (Value.int IntKind.i64 0) := (ha.rest 22 (by kernel_rfl)).trans rfl
      exact ⟨wanted_some rfl rfl rfl e14, rfl, wp_val (run_move rfl (ev_tmp eo22)) ⟨rfl, Below.refl _ _⟩⟩
    · intro a' w' ha hs hw
      have e14 : a'.tmps[97]? = some (Value.bool false) := slot_get rfl rfl (hw 14 (by kernel_rfl) _ rfl)
      have e15 : a'.tmps[98]? = some (Value.int IntKind.i64 0) := slot_get rfl rfl (hw 15 (by kernel_rfl) _ rfl)
      exact ⟨wanted_some rfl rfl rfl e14, rfl, wp_val (show _ = _ from (run_neq_int rfl (ev_tmp e15) rfl).trans (by rfl)) ⟨rfl, Below.refl _ _⟩⟩
    · intro a' w' ha hs hw
      have e14 : a'.tmps[97]? = some (Value.bool false) := slot_get rfl rfl (hw 14 (by kernel_rfl) _ rfl)
      have e16 : a'.tmps[99]? = some (Value.bool false) := slot_get rfl rfl (hw 16 (by kernel_rfl) _ rfl)
      exact ⟨wanted_none rfl, rfl, wp_val (run_pick (b := false) rfl (ev_tmp e14) (ev_tmp e16)) ⟨rfl, Below.refl _ _⟩⟩
    · intro a' w' ha hs hw
      have e17 : a'.tmps[100]? = some (Value.bool false) := slot_get rfl rfl (hw 17 (by kernel_rfl) _ rfl)
      exact ⟨wanted_none rfl, rfl, wp_val (run_move rfl (ev_tmp e17)) ⟨rfl, Below.refl _ _⟩⟩
    · intro a' w' ha hs hw
      have e18 : a'.tmps[101]? = some (Value.bool false) := slot_get rfl rfl (hw 18 (by kernel_rfl) _ rfl)
      have eo13 : a'.tmps[13]? = some (ptr gp) := (ha.rest 13 (by kernel_rfl)).trans rfl
      exact ⟨wanted_some rfl rfl rfl e18, rfl, wp_val (run_load rfl (ev_tmp eo13) (BXp.out.next hs rfl)) ⟨rfl, Below.refl _ _⟩⟩
    · intro a' w' ha hs hw
      have e18 : a'.tmps[101]? = some (Value.bool false) := slot_get rfl rfl (hw 18 (by kernel_rfl) _ rfl)
      have eo15 : a'.tmps[15]? = some (ptr gq) := (ha.rest 15 (by kernel_rfl)).trans rfl
      exact ⟨wanted_some rfl rfl rfl e18, rfl, wp_val (run_load rfl (ev_tmp eo15) (BXq.out.next hs rfl)) ⟨rfl, Below.refl _ _⟩⟩
    · intro a' w' ha hs hw
      have e18 : a'.tmps[101]? = some (Value.bool false) := slot_get rfl rfl (hw 18 (by kernel_rfl) _ rfl)
      have e19 : a'.tmps[102]? = some (.agg #[.bool sp, .slice Xp pp qp]) := slot_get rfl rfl (hw 19 (by kernel_rfl) _ rfl)
      have e20 : a'.tmps[103]? = some (.agg #[.bool sq, .slice Xq pq qq]) := slot_get rfl rfl (hw 20 (by kernel_rfl) _ rfl)
      exact ⟨wanted_some rfl rfl rfl e18, rfl, call_step rfl Try.func30 (by kernel_rfl) rfl (map_two (ev_tmp e19) (ev_tmp e20)) (mul_any _ _ ((za) ^ m) ((za) ^ l) _ (iv_next IVp.out hs rfl) (iv_next IVq.out hs rfl) (SZp.out.mono (by omega)) (SZq.out.mono (by omega))) (fun e w2 he => by obtain ⟨v, rfl, hv, hb⟩ := he; exact ⟨v, rfl, v, rfl, hv, hb⟩)⟩
    · intro a' w' ha hs hw
      have e18 : a'.tmps[101]? = some (Value.bool false) := slot_get rfl rfl (hw 18 (by kernel_rfl) _ rfl)
      have eo17 : a'.tmps[17]? = some (ptr gs) := (ha.rest 17 (by kernel_rfl)).trans rfl
      exact ⟨wanted_some rfl rfl rfl e18, rfl, wp_val (run_load rfl (ev_tmp eo17) (BXs.out.next hs rfl)) ⟨rfl, Below.refl _ _⟩⟩
    · intro a' w' ha hs hw
      have e18 : a'.tmps[101]? = some (Value.bool false) := slot_get rfl rfl (hw 18 (by kernel_rfl) _ rfl)
      obtain ⟨v21, e21, q21⟩ := hw 21 (by kernel_rfl) _ rfl
      replace e21 : a'.tmps[104]? = some v21 := slot_get rfl rfl e21
      have e22 : a'.tmps[105]? = some (.agg #[.bool ss, .slice Xs ps qs]) := slot_get rfl rfl (hw 22 (by kernel_rfl) _ rfl)
      exact ⟨wanted_some rfl rfl rfl e18, rfl, call_step rfl Try.func19 (by kernel_rfl) rfl (map_two (ev_tmp e21) (ev_tmp e22)) (same_true _ _ (((za) ^ m) * ((za) ^ l)) ((za) ^ (m + l)) _ q21 (iv_next IVs.out hs rfl) (SR14x21.out.mono (by omega)) ((Int.pow_add (za) m l).symm)) (fun e w2 he => by obtain ⟨rfl, hb⟩ := he; exact ⟨_, rfl, rfl, hb⟩)⟩
    · intro a' w' ha hs hw
      have e18 : a'.tmps[101]? = some (Value.bool false) := slot_get rfl rfl (hw 18 (by kernel_rfl) _ rfl)
      have e23 : a'.tmps[106]? = some (Value.bool true) := slot_get rfl rfl (hw 23 (by kernel_rfl) _ rfl)
      exact ⟨wanted_some rfl rfl rfl e18, rfl, wp_val (run_not rfl (ev_tmp e23)) ⟨rfl, Below.refl _ _⟩⟩
    · intro a' w' ha hs hw
      have e18 : a'.tmps[101]? = some (Value.bool false) := slot_get rfl rfl (hw 18 (by kernel_rfl) _ rfl)
      have e24 : a'.tmps[107]? = some (Value.bool false) := slot_get rfl rfl (hw 24 (by kernel_rfl) _ rfl)
      exact ⟨wanted_none rfl, rfl, wp_val (run_pick (b := false) rfl (ev_tmp e18) (ev_tmp e24)) ⟨rfl, Below.refl _ _⟩⟩
    · intro a' w' ha hs hw
      have e25 : a'.tmps[108]? = some (Value.bool false) := slot_get rfl rfl (hw 25 (by kernel_rfl) _ rfl)
      exact ⟨wanted_none rfl, rfl, wp_val (run_move rfl (ev_tmp e25)) ⟨rfl, Below.refl _ _⟩⟩
    · intro a' w' ha hs hw
      have e26 : a'.tmps[109]? = some (Value.bool false) := slot_get rfl rfl (hw 26 (by kernel_rfl) _ rfl)
      have eo13 : a'.tmps[13]? = some (ptr gp) := (ha.rest 13 (by kernel_rfl)).trans rfl
      exact ⟨wanted_some rfl rfl rfl e26, rfl, wp_val (run_load rfl (ev_tmp eo13) (BXp.out.next hs rfl)) ⟨rfl, Below.refl _ _⟩⟩
    · intro a' w' ha hs hw
      have e26 : a'.tmps[109]? = some (Value.bool false) := slot_get rfl rfl (hw 26 (by kernel_rfl) _ rfl)
      have eo19 : a'.tmps[19]? = some (ptr gt) := (ha.rest 19 (by kernel_rfl)).trans rfl
      exact ⟨wanted_some rfl rfl rfl e26, rfl, wp_val (run_load rfl (ev_tmp eo19) (BXt.out.next hs rfl)) ⟨rfl, Below.refl _ _⟩⟩
    · intro a' w' ha hs hw
      have e26 : a'.tmps[109]? = some (Value.bool false) := slot_get rfl rfl (hw 26 (by kernel_rfl) _ rfl)
      have e27 : a'.tmps[110]? = some (.agg #[.bool sp, .slice Xp pp qp]) := slot_get rfl rfl (hw 27 (by kernel_rfl) _ rfl)
      have e28 : a'.tmps[111]? = some (.agg #[.bool st, .slice Xt pt qt]) := slot_get rfl rfl (hw 28 (by kernel_rfl) _ rfl)
      exact ⟨wanted_some rfl rfl rfl e26, rfl, call_step rfl Try.func30 (by kernel_rfl) rfl (map_two (ev_tmp e27) (ev_tmp e28)) (mul_any _ _ ((za) ^ m) ((zb) ^ m) _ (iv_next IVp.out hs rfl) (iv_next IVt.out hs rfl) (SZp.out.mono (by omega)) (SZt.out.mono (by omega))) (fun e w2 he => by obtain ⟨v, rfl, hv, hb⟩ := he; exact ⟨v, rfl, v, rfl, hv, hb⟩)⟩
    · intro a' w' ha hs hw
      have e26 : a'.tmps[109]? = some (Value.bool false) := slot_get rfl rfl (hw 26 (by kernel_rfl) _ rfl)
      have eo21 : a'.tmps[21]? = some (ptr gw) := (ha.rest 21 (by kernel_rfl)).trans rfl
      exact ⟨wanted_some rfl rfl rfl e26, rfl, wp_val (run_load rfl (ev_tmp eo21) (BXw.out.next hs rfl)) ⟨rfl, Below.refl _ _⟩⟩
    · intro a' w' ha hs hw
      have e26 : a'.tmps[109]? = some (Value.bool false) := slot_get rfl rfl (hw 26 (by kernel_rfl) _ rfl)
      obtain ⟨v29, e29, q29⟩ := hw 29 (by kernel_rfl) _ rfl
      replace e29 : a'.tmps[112]? = some v29 := slot_get rfl rfl e29
      have e30 : a'.tmps[113]? = some (.agg #[.bool sw, .slice Xw pw qw]) := slot_get rfl rfl (hw 30 (by kernel_rfl) _ rfl)
      exact ⟨wanted_some rfl rfl rfl e26, rfl, call_step rfl Try.func19 (by kernel_rfl) rfl (map_two (ev_tmp e29) (ev_tmp e30)) (same_true _ _ (((za) ^ m) * ((zb) ^ m)) (((za) * zb) ^ m) _ q29 (iv_next IVw.out hs rfl) (SR14x29.out.mono (by omega)) ((mul_pow_int (za) zb m).symm)) (fun e w2 he => by obtain ⟨rfl, hb⟩ := he; exact ⟨_, rfl, rfl, hb⟩)⟩
    · intro a' w' ha hs hw
      have e26 : a'.tmps[109]? = some (Value.bool false) := slot_get rfl rfl (hw 26 (by kernel_rfl) _ rfl)
      have e31 : a'.tmps[114]? = some (Value.bool true) := slot_get rfl rfl (hw 31 (by kernel_rfl) _ rfl)
      exact ⟨wanted_some rfl rfl rfl e26, rfl, wp_val (run_not rfl (ev_tmp e31)) ⟨rfl, Below.refl _ _⟩⟩
    · intro a' w' ha hs hw
      have e26 : a'.tmps[109]? = some (Value.bool false) := slot_get rfl rfl (hw 26 (by kernel_rfl) _ rfl)
      have e32 : a'.tmps[115]? = some (Value.bool false) := slot_get rfl rfl (hw 32 (by kernel_rfl) _ rfl)
      exact ⟨wanted_none rfl, rfl, wp_val (run_pick (b := false) rfl (ev_tmp e26) (ev_tmp e32)) ⟨rfl, Below.refl _ _⟩⟩
  simp only [allQ]
  intro r19x21 _
  intro r19x29 _
  simp only [setOpt, List.set_cons_succ, List.set_cons_zero, ptr]
  refine hK _ _ ?_
  clear hK K
  replace BXa := Lib.hid (BXa.out.next hs rfl); replace IVa := Lib.hid (iv_next IVa.out hs rfl)
  replace BXb := Lib.hid (BXb.out.next hs rfl); replace IVb := Lib.hid (iv_next IVb.out hs rfl)
  replace BXp := Lib.hid (BXp.out.next hs rfl); replace IVp := Lib.hid (iv_next IVp.out hs rfl)
  replace BXq := Lib.hid (BXq.out.next hs rfl); replace IVq := Lib.hid (iv_next IVq.out hs rfl)
  replace BXs := Lib.hid (BXs.out.next hs rfl); replace IVs := Lib.hid (iv_next IVs.out hs rfl)
  replace BXt := Lib.hid (BXt.out.next hs rfl); replace IVt := Lib.hid (iv_next IVt.out hs rfl)
  replace BXw := Lib.hid (BXw.out.next hs rfl); replace IVw := Lib.hid (iv_next IVw.out hs rfl)
  replace DW := Lib.hid (link_below DW.out hs (by have := DW.out.size; omega) rfl rfl rfl rfl)
  clear hs
  go_upto_region 16 with fail
  obtain rfl : sa = true := by rw [IVa.out.sign]; exact decide_eq_true HX.out
  have w200a := BXa.out.cell0; have w200b := BXa.out.cell1
  go_wp2_with fail
  clear w200a w200b
  refine (root_bad _ za (kk : Int) _ IVa.out (SZa.out.mono (by omega)) (.inl HX.out)).mono ?_
  unfold zeroI
  rintro e yy ⟨rfl, hb⟩
  go_upto_region 17 with fail
  obtain ⟨W9, hW⟩ : ∃ W9, W9 = yy.alloc (Obj.cells #[Value.bool false, Value.slice none 0 0] 27) := ⟨_, rfl⟩
  rw [← hW]
  have x1 : Box W9 yy.heap.size false (.slice none 0 0) := by rw [hW]; exact Box.new _ _ _
  have hd : Below wn.heap.size wn W9 := by rw [hW]; exact hb.alloc hb.size _
  clear hW hb
  replace BXa := Lib.hid (BXa.out.next hd rfl); replace IVa := Lib.hid (iv_next IVa.out hd rfl)
  replace BXb := Lib.hid (BXb.out.next hd rfl); replace IVb := Lib.hid (iv_next IVb.out hd rfl)
  replace BXp := Lib.hid (BXp.out.next hd rfl); replace IVp := Lib.hid (iv_next IVp.out hd rfl)
  replace BXq := Lib.hid (BXq.out.next hd rfl); replace IVq := Lib.hid (iv_next IVq.out hd rfl)
  replace BXs := Lib.hid (BXs.out.next hd rfl); replace IVs := Lib.hid (iv_next IVs.out hd rfl)
  replace BXt := Lib.hid (BXt.out.next hd rfl); replace IVt := Lib.hid (iv_next IVt.out hd rfl)
  replace BXw := Lib.hid (BXw.out.next hd rfl); replace IVw := Lib.hid (iv_next IVw.out hd rfl)
  replace DW := Lib.hid (link_below DW.out hd (by have := DW.out.size; omega) rfl rfl rfl rfl)
  have w210a := BXa.out.cell0; have w210b := BXa.out.cell1
  have v1 := x1.cell0; have v2 := x1.cell1
  go_wp2
  go_ret
  exact ⟨by simp, by rw [hg]; exact DW.out⟩

set_option maxHeartbeats 16000000 in
set_option maxRecDepth 100000 in
theorem lawPowersP_any (b0 : Bool) (A0 : Option Addr) (n0 c0 : Nat) (ws0 : List Nat) (b1 : Bool) (A1 : Option Addr) (n1 c1 : Nat) (ws1 : List Nat) (x y z : Int) (w : World) (h0 : Wd w A0 n0 ws0) (m0 : n0 ≤ 9223372036854775807) (h1 : Wd w A1 n1 ws1) (m1 : n1 ≤ 9223372036854775807) (hxyz : (0 ≤ x ∧ x ≤ 255) ∧ (0 ≤ y ∧ y ≤ 255) ∧ (0 ≤ z ∧ z ≤ 255)) (hx0 : 0 ≤ sgn b0 (val (ws0.take 4))) :
    Calls Try.prog 9 #[.agg #[.bool b0, .slice A0 n0 c0], .agg #[.bool b1, .slice A1 n1 c1], .agg #[.int .u8 x, .int .u8 y, .int .u8 z]] w fun e w' => e = .returned (.bool true) ∧ Below w.heap.size w w' := by
  obtain ⟨za, hza⟩ : ∃ z, z = sgn b0 (val (ws0.take 4)) := ⟨_, rfl⟩
  have SZa : Hid (Sz za 4) := by rw [hza]; exact sz_take _ _ _ h0.wds
  obtain ⟨zb, hzb⟩ : ∃ z, z = sgn b1 (val (ws1.take 4)) := ⟨_, rfl⟩
  have SZb : Hid (Sz zb 4) := by rw [hzb]; exact sz_take _ _ _ h1.wds
  rw [← hza] at hx0
  have HX := Lib.hid hx0
  clear hx0
  obtain ⟨an, rfl⟩ : ∃ an : Nat, za = (an : Int) := ⟨za.toNat, by have := HX.out; omega⟩
  obtain ⟨m, hm, hm20⟩ := small_mod hxyz.1
  obtain ⟨l, hl, hl20⟩ := small_mod hxyz.2.1
  obtain ⟨k, hk, hk20⟩ := small_mod hxyz.2.2
  have HXY := Lib.hid hxyz
  clear hxyz
  go_enter Try.func9, Try.ntmps9
  go_wp2_with fail
  obtain ⟨W, hW⟩ : ∃ W, W = (((w.alloc (Obj.cells #[Value.bool b0, Value.slice A0 n0 c0] 24)).alloc (Obj.cells #[Value.bool b1, Value.slice A1 n1 c1] 24)).alloc (Obj.cells #[Value.int IntKind.u8 x, Value.int IntKind.u8 y, Value.int IntKind.u8 z] 48)) := ⟨_, rfl⟩
  rw [← hW]
  have AX0 : Hid (CBox W (w.heap.size + 1 + 1) #[Value.int IntKind.u8 x, Value.int IntKind.u8 y, Value.int IntKind.u8 z] 48) := by rw [hW]; have := CBox.new ((w.alloc (Obj.cells #[Value.bool b0, Value.slice A0 n0 c0] 24)).alloc (Obj.cells #[Value.bool b1, Value.slice A1 n1 c1] 24)) #[Value.int IntKind.u8 x, Value.int IntKind.u8 y, Value.int IntKind.u8 z] 48; simpa [Hid] using this
  have RX0 : Hid (RBox W (w.heap.size) b0 (.slice A0 n0 c0)) := by rw [hW]; have := ((RBox.new w b0 (.slice A0 n0 c0)).alloc (Obj.cells #[Value.bool b1, Value.slice A1 n1 c1] 24)).alloc (Obj.cells #[Value.int IntKind.u8 x, Value.int IntKind.u8 y, Value.int IntKind.u8 z] 48); simpa [Hid] using this
  have RW0 : Hid (Wd W A0 n0 ws0) := by rw [hW]; exact (((h0).alloc _).alloc _).alloc _
  have RX1 : Hid (RBox W (w.heap.size + 1) b1 (.slice A1 n1 c1)) := by rw [hW]; have := (RBox.new (w.alloc (Obj.cells #[Value.bool b0, Value.slice A0 n0 c0] 24)) b1 (.slice A1 n1 c1)).alloc (Obj.cells #[Value.int IntKind.u8 x, Value.int IntKind.u8 y, Value.int IntKind.u8 z] 48); simpa [Hid] using this
  have RW1 : Hid (Wd W A1 n1 ws1) := by rw [hW]; exact (((h1).alloc _).alloc _).alloc _
  have DW : Hid (Below w.heap.size w W) := by rw [hW]; exact (((Below.refl _ _).alloc (by simp <;> omega) _).alloc (by simp <;> omega) _).alloc (by simp <;> omega) _
  clear hW h0 h1
  generalize hg : w.heap.size = g at *
  refine (sanity_any _).mono ?_
  rintro e w1 ⟨rfl, hb1⟩
  replace RX0 := Lib.hid (RX0.out.next hb1 rfl); replace RW0 := Lib.hid (RW0.out.next hb1 rfl)
  replace RX1 := Lib.hid (RX1.out.next hb1 rfl); replace RW1 := Lib.hid (RW1.out.next hb1 rfl)
  replace AX0 := Lib.hid (AX0.out.next hb1 rfl)
  replace DW := Lib.hid (link_below DW.out hb1 (by have := DW.out.size; omega) rfl rfl rfl rfl)
  clear hb1
  have u1 := RX0.out.cell0; have u2 := RX0.out.cell1
  go_wp2_with fail
  clear u1 u2
  refine (rmade_raw b0 A0 n0 c0 4 4 ws0 _ RW0.out rfl (by omega) m0).mono ?_
  rw [← hza]
  rintro e y1 ⟨_, rfl, hq, hb⟩
  clear RX0 RW0
  obtain ⟨Xa, pa, qa, rfl, _, _, _⟩ := hq.form
  have Q := Lib.hid hq; have B := Lib.hid hb; clear hq hb
  generalize hs : decide (((an : Int) : Int) < 0) = sa at *
  clear hs
  go_upto_region 5 with fail
  obtain ⟨W2, hW⟩ : ∃ W2, W2 = y1.alloc (Obj.cells #[Value.bool sa, Value.slice Xa pa qa] 27) := ⟨_, rfl⟩
  rw [← hW]
  have BXa : Hid (Box W2 y1.heap.size sa (.slice Xa pa qa)) := by rw [hW]; exact Box.new _ _ _
  have IVa : Hid (Iv W2 (.agg #[.bool sa, .slice Xa pa qa]) ((an : Int))) := by rw [hW]; exact Q.out.alloc _
  have hd : Below w1.heap.size w1 W2 := by rw [hW]; exact B.out.alloc B.out.size _
  clear hW Q B
  generalize hgn : y1.heap.size = ga at *
  clear hgn
  replace RX1 := Lib.hid (RX1.out.next hd rfl); replace RW1 := Lib.hid (RW1.out.next hd rfl)
  replace AX0 := Lib.hid (AX0.out.next hd rfl)
  replace DW := Lib.hid (link_below DW.out hd (by have := DW.out.size; omega) rfl rfl rfl rfl)
  clear hd
  have u1 := RX1.out.cell0; have u2 := RX1.out.cell1
  go_wp2_with fail
  clear u1 u2
  refine (rmade_raw b1 A1 n1 c1 4 4 ws1 _ RW1.out rfl (by omega) m1).mono ?_
  rw [← hzb]
  rintro e y3 ⟨_, rfl, hq, hb⟩
  clear RX1 RW1
  obtain ⟨Xb, pb, qb, rfl, _, _, _⟩ := hq.form
  have Q := Lib.hid hq; have B := Lib.hid hb; clear hq hb
  generalize hs : decide ((zb : Int) < 0) = sb at *
  clear hs
  go_upto_region 6 with fail
  obtain ⟨W4, hW⟩ : ∃ W4, W4 = y3.alloc (Obj.cells #[Value.bool sb, Value.slice Xb pb qb] 27) := ⟨_, rfl⟩
  rw [← hW]
  have BXb : Hid (Box W4 y3.heap.size sb (.slice Xb pb qb)) := by rw [hW]; exact Box.new _ _ _
  have IVb : Hid (Iv W4 (.agg #[.bool sb, .slice Xb pb qb]) (zb)) := by rw [hW]; exact Q.out.alloc _
  have hd : Below W2.heap.size W2 W4 := by rw [hW]; exact B.out.alloc B.out.size _
  clear hW Q B
  generalize hgn : y3.heap.size = gb at *
  clear hgn
  replace BXa := Lib.hid (BXa.out.next hd rfl); replace IVa := Lib.hid (iv_next IVa.out hd rfl)
  replace AX0 := Lib.hid (AX0.out.next hd rfl)
  replace DW := Lib.hid (link_below DW.out hd (by have := DW.out.size; omega) rfl rfl rfl rfl)
  clear hd
  have v0 := AX0.out.cell 0; have v1 := AX0.out.cell 1; have v2 := AX0.out.cell 2
  simp at v0 v1 v2
  have hx0 := HXY.out.1.1; have hx1 := HXY.out.1.2; have hy0 := HXY.out.2.1.1; have hy1 := HXY.out.2.1.2; have hw0 := HXY.out.2.2.1; have hw1 := HXY.out.2.2.2
  go_upto_region 9 with fail
  clear v0 v1 v2 AX0 hm hl hk hx0 hx1 hy0 hy1 hw0 hw1
  obtain ⟨kk, hkk⟩ : ∃ kk : Nat, (1 + (k : Int)) = (kk : Int) := ⟨1 + k, by omega⟩
  rw [hkk]
  have hk1 : 1 ≤ kk := by omega
  have hk2 : kk ≤ 20 := by omega
  clear hkk hk20
  have w50a := BXa.out.cell0; have w50b := BXa.out.cell1
  go_wp2_with fail
  clear w50a w50b
  refine (pow_any _ ((an : Int)) (m) ((m : Int)) _ IVa.out (SZa.out.mono (by omega)) (by simp) (by omega)).mono ?_
  rintro e y6 ⟨_, rfl, hq, hb⟩
  have SZp : Hid (Sz (((an : Int)) ^ m) 161) := (SZa.out.pow (m)).mono (by omega)
  obtain ⟨Xp, pp, qp, rfl, _, _, _⟩ := hq.form
  have Q := Lib.hid hq; have B := Lib.hid hb; clear hq hb
  generalize hs : decide ((((an : Int)) ^ m : Int) < 0) = sp at *
  clear hs
  go_upto_region 10 with fail
  obtain ⟨W7, hW⟩ : ∃ W7, W7 = y6.alloc (Obj.cells #[Value.bool sp, Value.slice Xp pp qp] 27) := ⟨_, rfl⟩
  rw [← hW]
  have BXp : Hid (Box W7 y6.heap.size sp (.slice Xp pp qp)) := by rw [hW]; exact Box.new _ _ _
  have IVp : Hid (Iv W7 (.agg #[.bool sp, .slice Xp pp qp]) (((an : Int)) ^ m)) := by rw [hW]; exact Q.out.alloc _
  have hd : Below W4.heap.size W4 W7 := by rw [hW]; exact B.out.alloc B.out.size _
  clear hW Q B
  generalize hgn : y6.heap.size = gp at *
  clear hgn
  replace BXa := Lib.hid (BXa.out.next hd rfl); replace IVa := Lib.hid (iv_next IVa.out hd rfl)
  replace BXb := Lib.hid (BXb.out.next hd rfl); replace IVb := Lib.hid (iv_next IVb.out hd rfl)
  replace DW := Lib.hid (link_below DW.out hd (by have := DW.out.size; omega) rfl rfl rfl rfl)
  clear hd
  have w80a := BXa.out.cell0; have w80b := BXa.out.cell1
  go_wp2_with fail
  clear w80a w80b
  refine (pow_any _ ((an : Int)) (l) ((l : Int)) _ IVa.out (SZa.out.mono (by omega)) (by simp) (by omega)).mono ?_
  rintro e y9 ⟨_, rfl, hq, hb⟩
  have SZq : Hid (Sz (((an : Int)) ^ l) 161) := (SZa.out.pow (l)).mono (by omega)
  obtain ⟨Xq, pq, qq, rfl, _, _, _⟩ := hq.form
  have Q := Lib.hid hq; have B := Lib.hid hb; clear hq hb
  generalize hs : decide ((((an : Int)) ^ l : Int) < 0) = sq at *
  clear hs
  go_upto_region 11 with fail
  obtain ⟨W10, hW⟩ : ∃ W10, W10 = y9.alloc (Obj.cells #[Value.bool sq, Value.slice Xq pq qq] 27) := ⟨_, rfl⟩
  rw [← hW]
  have BXq : Hid (Box W10 y9.heap.size sq (.slice Xq pq qq)) := by rw [hW]; exact Box.new _ _ _
  have IVq : Hid (Iv W10 (.agg #[.bool sq, .slice Xq pq qq]) (((an : Int)) ^ l)) := by rw [hW]; exact Q.out.alloc _
  have hd : Below W7.heap.size W7 W10 := by rw [hW]; exact B.out.alloc B.out.size _
  clear hW Q B
  generalize hgn : y9.heap.size = gq at *
  clear hgn
  replace BXa := Lib.hid (BXa.out.next hd rfl); replace IVa := Lib.hid (iv_next IVa.out hd rfl)
  replace BXb := Lib.hid (BXb.out.next hd rfl); replace IVb := Lib.hid (iv_next IVb.out hd rfl)
  replace BXp := Lib.hid (BXp.out.next hd rfl); replace IVp := Lib.hid (iv_next IVp.out hd rfl)
  replace DW := Lib.hid (link_below DW.out hd (by have := DW.out.size; omega) rfl rfl rfl rfl)
  clear hd
  have w110a := BXa.out.cell0; have w110b := BXa.out.cell1
  go_wp2_with fail
  clear w110a w110b
  refine (pow_any _ ((an : Int)) (m + l) ((m : Int) + l) _ IVa.out (SZa.out.mono (by omega)) (by simp) (by omega)).mono ?_
  rintro e y12 ⟨_, rfl, hq, hb⟩
  have SZs : Hid (Sz (((an : Int)) ^ (m + l)) 161) := (SZa.out.pow (m + l)).mono (by omega)
  obtain ⟨Xs, ps, qs, rfl, _, _, _⟩ := hq.form
  have Q := Lib.hid hq; have B := Lib.hid hb; clear hq hb
  generalize hs : decide ((((an : Int)) ^ (m + l) : Int) < 0) = ss at *
  clear hs
  go_upto_region 12 with fail
  obtain ⟨W13, hW⟩ : ∃ W13, W13 = y12.alloc (Obj.cells #[Value.bool ss, Value.slice Xs ps qs] 27) := ⟨_, rfl⟩
  rw [← hW]
  have BXs : Hid (Box W13 y12.heap.size ss (.slice Xs ps qs)) := by rw [hW]; exact Box.new _ _ _
  have IVs : Hid (Iv W13 (.agg #[.bool ss, .slice Xs ps qs]) (((an : Int)) ^ (m + l))) := by rw [hW]; exact Q.out.alloc _
  have hd : Below W10.heap.size W10 W13 := by rw [hW]; exact B.out.alloc B.out.size _
  clear hW Q B
  generalize hgn : y12.heap.size = gs at *
  clear hgn
  replace BXa := Lib.hid (BXa.out.next hd rfl); replace IVa := Lib.hid (iv_next IVa.out hd rfl)
  replace BXb := Lib.hid (BXb.out.next hd rfl); replace IVb := Lib.hid (iv_next IVb.out hd rfl)
  replace BXp := Lib.hid (BXp.out.next hd rfl); replace IVp := Lib.hid (iv_next IVp.out hd rfl)
  replace BXq := Lib.hid (BXq.out.next hd rfl); replace IVq := Lib.hid (iv_next IVq.out hd rfl)
  replace DW := Lib.hid (link_below DW.out hd (by have := DW.out.size; omega) rfl rfl rfl rfl)
  clear hd
  have w140a := BXb.out.cell0; have w140b := BXb.out.cell1
  go_wp2_with fail
  clear w140a w140b
  refine (pow_any _ (zb) (m) ((m : Int)) _ IVb.out (SZb.out.mono (by omega)) (by simp) (by omega)).mono ?_
  rintro e y15 ⟨_, rfl, hq, hb⟩
  have SZt : Hid (Sz ((zb) ^ m) 161) := (SZb.out.pow (m)).mono (by omega)
  obtain ⟨Xt, pt, qt, rfl, _, _, _⟩ := hq.form
  have Q := Lib.hid hq; have B := Lib.hid hb; clear hq hb
  generalize hs : decide (((zb) ^ m : Int) < 0) = st at *
  clear hs
  go_upto_region 13 with fail
  obtain ⟨W16, hW⟩ : ∃ W16, W16 = y15.alloc (Obj.cells #[Value.bool st, Value.slice Xt pt qt] 27) := ⟨_, rfl⟩
  rw [← hW]
  have BXt : Hid (Box W16 y15.heap.size st (.slice Xt pt qt)) := by rw [hW]; exact Box.new _ _ _
  have IVt : Hid (Iv W16 (.agg #[.bool st, .slice Xt pt qt]) ((zb) ^ m)) := by rw [hW]; exact Q.out.alloc _
  have hd : Below W13.heap.size W13 W16 := by rw [hW]; exact B.out.alloc B.out.size _
  clear hW Q B
  generalize hgn : y15.heap.size = gt at *
  clear hgn
  replace BXa := Lib.hid (BXa.out.next hd rfl); replace IVa := Lib.hid (iv_next IVa.out hd rfl)
  replace BXb := Lib.hid (BXb.out.next hd rfl); replace IVb := Lib.hid (iv_next IVb.out hd rfl)
  replace BXp := Lib.hid (BXp.out.next hd rfl); replace IVp := Lib.hid (iv_next IVp.out hd rfl)
  replace BXq := Lib.hid (BXq.out.next hd rfl); replace IVq := Lib.hid (iv_next IVq.out hd rfl)
  replace BXs := Lib.hid (BXs.out.next hd rfl); replace IVs := Lib.hid (iv_next IVs.out hd rfl)
  replace DW := Lib.hid (link_below DW.out hd (by have := DW.out.size; omega) rfl rfl rfl rfl)
  clear hd
  have w170a := BXa.out.cell0; have w170b := BXa.out.cell1; have w171a := BXb.out.cell0; have w171b := BXb.out.cell1
  go_wp2_with fail
  clear w170a w170b w171a w171b
  refine (mul_any _ _ ((an : Int)) zb _ IVa.out IVb.out (SZa.out.mono (by omega)) (SZb.out.mono (by omega))).mono ?_
  rintro e ym ⟨vm, rfl, hvm, hbm⟩
  have HVM := Lib.hid hvm; have HBM := Lib.hid hbm; clear hvm hbm
  have SZm : Hid (Sz (((an : Int)) * zb) 8) := SZa.out.mul SZb.out
  go_wp2_with fail
  refine (pow_any _ (((an : Int)) * zb) m (m : Int) _ HVM.out (SZm.out.mono (by omega)) rfl (by omega)).mono ?_
  rintro e yw ⟨_, rfl, hq, hb2⟩
  have hb := link_below HBM.out hb2 HBM.out.size rfl rfl rfl rfl
  clear HBM HVM hb2
  have SZw : Hid (Sz ((((an : Int)) * zb) ^ m) 161) := (SZm.out.pow m).mono (by omega)
  obtain ⟨Xw, pw, qw, rfl, _, _, _⟩ := hq.form
  have Q := Lib.hid hq; have B := Lib.hid hb; clear hq hb
  generalize hs : decide (((((an : Int)) * zb) ^ m : Int) < 0) = sw at *
  clear hs
  go_upto_region 14 with fail
  obtain ⟨W18, hW⟩ : ∃ W18, W18 = yw.alloc (Obj.cells #[Value.bool sw, Value.slice Xw pw qw] 27) := ⟨_, rfl⟩
  rw [← hW]
  have BXw : Hid (Box W18 yw.heap.size sw (.slice Xw pw qw)) := by rw [hW]; exact Box.new _ _ _
  have IVw : Hid (Iv W18 (.agg #[.bool sw, .slice Xw pw qw]) ((((an : Int)) * zb) ^ m)) := by rw [hW]; exact Q.out.alloc _
  have hd : Below W16.heap.size W16 W18 := by rw [hW]; exact B.out.alloc B.out.size _
  clear hW Q B
  generalize hgn : yw.heap.size = gw at *
  clear hgn
  replace BXa := Lib.hid (BXa.out.next hd rfl); replace IVa := Lib.hid (iv_next IVa.out hd rfl)
  replace BXb := Lib.hid (BXb.out.next hd rfl); replace IVb := Lib.hid (iv_next IVb.out hd rfl)
  replace BXp := Lib.hid (BXp.out.next hd rfl); replace IVp := Lib.hid (iv_next IVp.out hd rfl)
  replace BXq := Lib.hid (BXq.out.next hd rfl); replace IVq := Lib.hid (iv_next IVq.out hd rfl)
  replace BXs := Lib.hid (BXs.out.next hd rfl); replace IVs := Lib.hid (iv_next IVs.out hd rfl)
  replace BXt := Lib.hid (BXt.out.next hd rfl); replace IVt := Lib.hid (iv_next IVt.out hd rfl)
  replace DW := Lib.hid (link_below DW.out hd (by have := DW.out.size; omega) rfl rfl rfl rfl)
  clear hd
  have SR14x21 : Hid (Sz ((((an : Int)) ^ m) * (((an : Int)) ^ l)) 322) := (Sz.mul SZp.out SZq.out)
  have SR14x29 : Hid (Sz ((((an : Int)) ^ m) * ((zb) ^ m)) 322) := (Sz.mul SZp.out SZt.out)
  refine region_go W18 [.is (Value.int IntKind.i64 0), .is (Value.bool false), .is (Value.bool false), .is (Value.int IntKind.i64 0), .is (Value.bool false), .is (Value.bool false), .is (Value.bool false), .is (Value.int IntKind.i64 0), .is (Value.bool false), .is (Value.bool false), .is (Value.bool false), .is (Value.int IntKind.i64 0), .is (Value.bool false), .is (Value.bool false), .is (Value.bool false), .is (Value.int IntKind.i64 0), .is (Value.bool false), .is (Value.bool false), .is (Value.bool false), .is (.agg #[.bool sp, .slice Xp pp qp]), .is (.agg #[.bool sq, .slice Xq pq qq]), .iv ((((an : Int)) ^ m) * (((an : Int)) ^ l)), .is (.agg #[.bool ss, .slice Xs ps qs]), .is (Value.bool true), .is (Value.bool false), .is (Value.bool false), .is (Value.bool false), .is (.agg #[.bool sp, .slice Xp pp qp]), .is (.agg #[.bool st, .slice Xt pt qt]), .iv ((((an : Int)) ^ m) * ((zb) ^ m)), .is (.agg #[.bool sw, .slice Xw pw qw]), .is (Value.bool true), .is (Value.bool false), .is (Value.bool false)] [some 83, some 84, some 85, some 86, some 87, some 88, some 89, some 90, some 91, some 92, some 93, some 94, some 95, some 96, some 97, some 98, some 99, some 100, some 101, some 102, some 103, some 104, some 105, some 106, some 107, some 108, some 109, some 110, some 111, some 112, some 113, some 114, some 115, some 116] (by kernel_rfl) (by kernel_rfl) (by kernel_rfl) (by kernel_rfl) (by kernel_rfl) (by rfl) (by kernel_rfl) ((Below.refl _ _).drew) (fun Q' => ?_) (fun K hK wn hs => ?_)
  · refine ⟨?_, ?_, ?_, ?_, ?_, ?_, ?_, ?_, ?_, ?_, ?_, ?_, ?_, ?_, ?_, ?_, ?_, ?_, ?_, ?_, ?_, ?_, ?_, ?_, ?_, ?_, ?_, ?_, ?_, ?_, ?_, ?_, ?_, ?_, trivial⟩
    · intro a' w' ha hs hw
      have eo14 : a'.tmps[14]? = some (Value.int IntKind.i64 0) := (ha.rest 14 (by kernel_rfl)).trans rfl
      exact ⟨wanted_none rfl, rfl, wp_val (run_move rfl (ev_tmp eo14)) ⟨rfl, Below.refl _ _⟩⟩
    · intro a' w' ha hs hw
      have e0 : a'.tmps[83]? = some (Value.int IntKind.i64 0) := slot_get rfl rfl (hw 0 (by kernel_rfl) _ rfl)
      exact ⟨wanted_none rfl, rfl, wp_val (show _ = _ from (run_neq_int rfl (ev_tmp e0) rfl).trans (by rfl)) ⟨rfl, Below.refl _ _⟩⟩
    · intro a' w' ha hs hw
      have e1 : a'.tmps[84]? = some (Value.bool false) := slot_get rfl rfl (hw 1 (by kernel_rfl) _ rfl)
      exact ⟨wanted_none rfl, rfl, wp_val (run_move rfl (ev_tmp e1)) ⟨rfl, Below.refl _ _⟩⟩
    · intro a' w' ha hs hw
      have e2 : a'.tmps[85]? = some (Value.bool false) := slot_get rfl rfl (hw 2 (by kernel_rfl) _ rfl)
      have eo16 : a'.tmps[16]? = some (Value.int IntKind.i64 0) := (ha.rest 16 (by kernel_rfl)).trans rfl
      exact ⟨wanted_some rfl rfl rfl e2, rfl, wp_val (run_move rfl (ev_tmp eo16)) ⟨rfl, Below.refl _ _⟩⟩
    · intro a' w' ha hs hw
      have e2 : a'.tmps[85]? = some (Value.bool false) := slot_get rfl rfl (hw 2 (by kernel_rfl) _ rfl)
      have e3 : a'.tmps[86]? = some (Value.int IntKind.i64 0) := slot_get rfl rfl (hw 3 (by kernel_rfl) _ rfl)
      exact ⟨wanted_some rfl rfl rfl e2, rfl, wp_val (show _ = _ from (run_neq_int rfl (ev_tmp e3) rfl).trans (by rfl)) ⟨rfl, Below.refl _ _⟩⟩
    · intro a' w' ha hs hw
      have e2 : a'.tmps[85]? = some (Value.bool false) := slot_get rfl rfl (hw 2 (by kernel_rfl) _ rfl)
      have e4 : a'.tmps[87]? = some (Value.bool false) := slot_get rfl rfl (hw 4 (by kernel_rfl) _ rfl)
      exact ⟨wanted_none rfl, rfl, wp_val (run_pick (b := false) rfl (ev_tmp e2) (ev_tmp e4)) ⟨rfl, Below.refl _ _⟩⟩
    · intro a' w' ha hs hw
      have e5 : a'.tmps[88]? = some (Value.bool false) := slot_get rfl rfl (hw 5 (by kernel_rfl) _ rfl)
      exact ⟨wanted_none rfl, rfl, wp_val (run_move rfl (ev_tmp e5)) ⟨rfl, Below.refl _ _⟩⟩
    · intro a' w' ha hs hw
      have e6 : a'.tmps[89]? = some (Value.bool false) := slot_get rfl rfl (hw 6 (by kernel_rfl) _ rfl)
      have eo18 : a'.tmps[18]? = some (Value.int IntKind.i64 0) := (ha.rest 18 (by kernel_rfl)).trans rfl
      exact ⟨wanted_some rfl rfl rfl e6, rfl, wp_val (run_move rfl (ev_tmp eo18)) ⟨rfl, Below.refl _ _⟩⟩
    · intro a' w' ha hs hw
      have e6 : a'.tmps[89]? = some (Value.bool false) := slot_get rfl rfl (hw 6 (by kernel_rfl) _ rfl)
      have e7 : a'.tmps[90]? = some (Value.int IntKind.i64 0) := slot_get rfl rfl (hw 7 (by kernel_rfl) _ rfl)
      exact ⟨wanted_some rfl rfl rfl e6, rfl, wp_val (show _ = _ from (run_neq_int rfl (ev_tmp e7) rfl).trans (by rfl)) ⟨rfl, Below.refl _ _⟩⟩
    · intro a' w' ha hs hw
      have e6 : a'.tmps[89]? = some (Value.bool false) := slot_get rfl rfl (hw 6 (by kernel_rfl) _ rfl)
      have e8 : a'.tmps[91]? = some (Value.bool false) := slot_get rfl rfl (hw 8 (by kernel_rfl) _ rfl)
      exact ⟨wanted_none rfl, rfl, wp_val (run_pick (b := false) rfl (ev_tmp e6) (ev_tmp e8)) ⟨rfl, Below.refl _ _⟩⟩
    · intro a' w' ha hs hw
      have e9 : a'.tmps[92]? = some (Value.bool false) := slot_get rfl rfl (hw 9 (by kernel_rfl) _ rfl)
      exact ⟨wanted_none rfl, rfl, wp_val (run_move rfl (ev_tmp e9)) ⟨rfl, Below.refl _ _⟩⟩
    · intro a' w' ha hs hw
      have e10 : a'.tmps[93]? = some (Value.bool false) := slot_get rfl rfl (hw 10 (by kernel_rfl) _ rfl)
      have eo20 : a'.tmps[20]? = some (Value.int IntKind.i64 0) := (ha.rest 20 (by kernel_rfl)).trans rfl
      exact ⟨wanted_some rfl rfl rfl e10, rfl, wp_val (run_move rfl (ev_tmp eo20)) ⟨rfl, Below.refl _ _⟩⟩
    · intro a' w' ha hs hw
      have e10 : a'.tmps[93]? = some (Value.bool false) := slot_get rfl rfl (hw 10 (by kernel_rfl) _ rfl)
      have e11 : a'.tmps[94]? = some (Value.int IntKind.i64 0) := slot_get rfl rfl (hw 11 (by kernel_rfl) _ rfl)
      exact ⟨wanted_some rfl rfl rfl e10, rfl, wp_val (show _ = _ from (run_neq_int rfl (ev_tmp e11) rfl).trans (by rfl)) ⟨rfl, Below.refl _ _⟩⟩
    · intro a' w' ha hs hw
      have e10 : a'.tmps[93]? = some (Value.bool false) := slot_get rfl rfl (hw 10 (by kernel_rfl) _ rfl)
      have e12 : a'.tmps[95]? = some (Value.bool false) := slot_get rfl rfl (hw 12 (by kernel_rfl) _ rfl)
      exact ⟨wanted_none rfl, rfl, wp_val (run_pick (b := false) rfl (ev_tmp e10) (ev_tmp e12)) ⟨rfl, Below.refl _ _⟩⟩
    · intro a' w' ha hs hw
      have e13 : a'.tmps[96]? = some (Value.bool false) := slot_get rfl rfl (hw 13 (by kernel_rfl) _ rfl)
      exact ⟨wanted_none rfl, rfl, wp_val (run_move rfl (ev_tmp e13)) ⟨rfl, Below.refl _ _⟩⟩
    · intro a' w' ha hs hw
      have e14 : a'.tmps[97]? = some (Value.bool false) := slot_get rfl rfl (hw 14 (by kernel_rfl) _ rfl)
      have eo22 : a'.tmps[22]? = some (Value.int IntKind.i64 0) := (ha.rest 22 (by kernel_rfl)).trans rfl
      exact ⟨wanted_some rfl rfl rfl e14, rfl, wp_val (run_move rfl (ev_tmp eo22)) ⟨rfl, Below.refl _ _⟩⟩
    · intro a' w' ha hs hw
      have e14 : a'.tmps[97]? = some (Value.bool false) := slot_get rfl rfl (hw 14 (by kernel_rfl) _ rfl)
      have e15 : a'.tmps[98]? = some (Value.int IntKind.i64 0) := slot_get rfl rfl (hw 15 (by kernel_rfl) _ rfl)
      exact ⟨wanted_some rfl rfl rfl e14, rfl, wp_val (show _ = _ from (run_neq_int rfl (ev_tmp e15) rfl).trans (by rfl)) ⟨rfl, Below.refl _ _⟩⟩
    · intro a' w' ha hs hw
      have e14 : a'.tmps[97]? = some (Value.bool false) := slot_get rfl rfl (hw 14 (by kernel_rfl) _ rfl)
      have e16 : a'.tmps[99]? = some (Value.bool false) := slot_get rfl rfl (hw 16 (by kernel_rfl) _ rfl)
      exact ⟨wanted_none rfl, rfl, wp_val (run_pick (b := false) rfl (ev_tmp e14) (ev_tmp e16)) ⟨rfl, Below.refl _ _⟩⟩
    · intro a' w' ha hs hw
      have e17 : a'.tmps[100]? = some (Value.bool false) := slot_get rfl rfl (hw 17 (by kernel_rfl) _ rfl)
      exact ⟨wanted_none rfl, rfl, wp_val (run_move rfl (ev_tmp e17)) ⟨rfl, Below.refl _ _⟩⟩
    · intro a' w' ha hs hw
      have e18 : a'.tmps[101]? = some (Value.bool false) := slot_get rfl rfl (hw 18 (by kernel_rfl) _ rfl)
      have eo13 : a'.tmps[13]? = some (ptr gp) := (ha.rest 13 (by kernel_rfl)).trans rfl
      exact ⟨wanted_some rfl rfl rfl e18, rfl, wp_val (run_load rfl (ev_tmp eo13) (BXp.out.next hs rfl)) ⟨rfl, Below.refl _ _⟩⟩
    · intro a' w' ha hs hw
      have e18 : a'.tmps[101]? = some (Value.bool false) := slot_get rfl rfl (hw 18 (by kernel_rfl) _ rfl)
      have eo15 : a'.tmps[15]? = some (ptr gq) := (ha.rest 15 (by kernel_rfl)).trans rfl
      exact ⟨wanted_some rfl rfl rfl e18, rfl, wp_val (run_load rfl (ev_tmp eo15) (BXq.out.next hs rfl)) ⟨rfl, Below.refl _ _⟩⟩
    · intro a' w' ha hs hw
      have e18 : a'.tmps[101]? = some (Value.bool false) := slot_get rfl rfl (hw 18 (by kernel_rfl) _ rfl)
      have e19 : a'.tmps[102]? = some (.agg #[.bool sp, .slice Xp pp qp]) := slot_get rfl rfl (hw 19 (by kernel_rfl) _ rfl)
      have e20 : a'.tmps[103]? = some (.agg #[.bool sq, .slice Xq pq qq]) := slot_get rfl rfl (hw 20 (by kernel_rfl) _ rfl)
      exact ⟨wanted_some rfl rfl rfl e18, rfl, call_step rfl Try.func30 (by kernel_rfl) rfl (map_two (ev_tmp e19) (ev_tmp e20)) (mul_any _ _ (((an : Int)) ^ m) (((an : Int)) ^ l) _ (iv_next IVp.out hs rfl) (iv_next IVq.out hs rfl) (SZp.out.mono (by omega)) (SZq.out.mono (by omega))) (fun e w2 he => by obtain ⟨v, rfl, hv, hb⟩ := he; exact ⟨v, rfl, v, rfl, hv, hb⟩)⟩
    · intro a' w' ha hs hw
      have e18 : a'.tmps[101]? = some (Value.bool false) := slot_get rfl rfl (hw 18 (by kernel_rfl) _ rfl)
      have eo17 : a'.tmps[17]? = some (ptr gs) := (ha.rest 17 (by kernel_rfl)).trans rfl
      exact ⟨wanted_some rfl rfl rfl e18, rfl, wp_val (run_load rfl (ev_tmp eo17) (BXs.out.next hs rfl)) ⟨rfl, Below.refl _ _⟩⟩
    · intro a' w' ha hs hw
      have e18 : a'.tmps[101]? = some (Value.bool false) := slot_get rfl rfl (hw 18 (by kernel_rfl) _ rfl)
      obtain ⟨v21, e21, q21⟩ := hw 21 (by kernel_rfl) _ rfl
      replace e21 : a'.tmps[104]? = some v21 := slot_get rfl rfl e21
      have e22 : a'.tmps[105]? = some (.agg #[.bool ss, .slice Xs ps qs]) := slot_get rfl rfl (hw 22 (by kernel_rfl) _ rfl)
      exact ⟨wanted_some rfl rfl rfl e18, rfl, call_step rfl Try.func19 (by kernel_rfl) rfl (map_two (ev_tmp e21) (ev_tmp e22)) (same_true _ _ ((((an : Int)) ^ m) * (((an : Int)) ^ l)) (((an : Int)) ^ (m + l)) _ q21 (iv_next IVs.out hs rfl) (SR14x21.out.mono (by omega)) ((Int.pow_add ((an : Int)) m l).symm)) (fun e w2 he => by obtain ⟨rfl, hb⟩ := he; exact ⟨_, rfl, rfl, hb⟩)⟩
    · intro a' w' ha hs hw
      have e18 : a'.tmps[101]? = some (Value.bool false) := slot_get rfl rfl (hw 18 (by kernel_rfl) _ rfl)
      have e23 : a'.tmps[106]? = some (Value.bool true) := slot_get rfl rfl (hw 23 (by kernel_rfl) _ rfl)
      exact ⟨wanted_some rfl rfl rfl e18, rfl, wp_val (run_not rfl (ev_tmp e23)) ⟨rfl, Below.refl _ _⟩⟩
    · intro a' w' ha hs hw
      have e18 : a'.tmps[101]? = some (Value.bool false) := slot_get rfl rfl (hw 18 (by kernel_rfl) _ rfl)
      have e24 : a'.tmps[107]? = some (Value.bool false) := slot_get rfl rfl (hw 24 (by kernel_rfl) _ rfl)
      exact ⟨wanted_none rfl, rfl, wp_val (run_pick (b := false) rfl (ev_tmp e18) (ev_tmp e24)) ⟨rfl, Below.refl _ _⟩⟩
    · intro a' w' ha hs hw
      have e25 : a'.tmps[108]? = some (Value.bool false) := slot_get rfl rfl (hw 25 (by kernel_rfl) _ rfl)
      exact ⟨wanted_none rfl, rfl, wp_val (run_move rfl (ev_tmp e25)) ⟨rfl, Below.refl _ _⟩⟩
    · intro a' w' ha hs hw
      have e26 : a'.tmps[109]? = some (Value.bool false) := slot_get rfl rfl (hw 26 (by kernel_rfl) _ rfl)
      have eo13 : a'.tmps[13]? = some (ptr gp) := (ha.rest 13 (by kernel_rfl)).trans rfl
      exact ⟨wanted_some rfl rfl rfl e26, rfl, wp_val (run_load rfl (ev_tmp eo13) (BXp.out.next hs rfl)) ⟨rfl, Below.refl _ _⟩⟩
    · intro a' w' ha hs hw
      have e26 : a'.tmps[109]? = some (Value.bool false) := slot_get rfl rfl (hw 26 (by kernel_rfl) _ rfl)
      have eo19 : a'.tmps[19]? = some (ptr gt) := (ha.rest 19 (by kernel_rfl)).trans rfl
      exact ⟨wanted_some rfl rfl rfl e26, rfl, wp_val (run_load rfl (ev_tmp eo19) (BXt.out.next hs rfl)) ⟨rfl, Below.refl _ _⟩⟩
    · intro a' w' ha hs hw
      have e26 : a'.tmps[109]? = some (Value.bool false) := slot_get rfl rfl (hw 26 (by kernel_rfl) _ rfl)
      have e27 : a'.tmps[110]? = some (.agg #[.bool sp, .slice Xp pp qp]) := slot_get rfl rfl (hw 27 (by kernel_rfl) _ rfl)
      have e28 : a'.tmps[111]? = some (.agg #[.bool st, .slice Xt pt qt]) := slot_get rfl rfl (hw 28 (by kernel_rfl) _ rfl)
      exact ⟨wanted_some rfl rfl rfl e26, rfl, call_step rfl Try.func30 (by kernel_rfl) rfl (map_two (ev_tmp e27) (ev_tmp e28)) (mul_any _ _ (((an : Int)) ^ m) ((zb) ^ m) _ (iv_next IVp.out hs rfl) (iv_next IVt.out hs rfl) (SZp.out.mono (by omega)) (SZt.out.mono (by omega))) (fun e w2 he => by obtain ⟨v, rfl, hv, hb⟩ := he; exact ⟨v, rfl, v, rfl, hv, hb⟩)⟩
    · intro a' w' ha hs hw
      have e26 : a'.tmps[109]? = some (Value.bool false) := slot_get rfl rfl (hw 26 (by kernel_rfl) _ rfl)
      have eo21 : a'.tmps[21]? = some (ptr gw) := (ha.rest 21 (by kernel_rfl)).trans rfl
      exact ⟨wanted_some rfl rfl rfl e26, rfl, wp_val (run_load rfl (ev_tmp eo21) (BXw.out.next hs rfl)) ⟨rfl, Below.refl _ _⟩⟩
    · intro a' w' ha hs hw
      have e26 : a'.tmps[109]? = some (Value.bool false) := slot_get rfl rfl (hw 26 (by kernel_rfl) _ rfl)
      obtain ⟨v29, e29, q29⟩ := hw 29 (by kernel_rfl) _ rfl
      replace e29 : a'.tmps[112]? = some v29 := slot_get rfl rfl e29
      have e30 : a'.tmps[113]? = some (.agg #[.bool sw, .slice Xw pw qw]) := slot_get rfl rfl (hw 30 (by kernel_rfl) _ rfl)
      exact ⟨wanted_some rfl rfl rfl e26, rfl, call_step rfl Try.func19 (by kernel_rfl) rfl (map_two (ev_tmp e29) (ev_tmp e30)) (same_true _ _ ((((an : Int)) ^ m) * ((zb) ^ m)) ((((an : Int)) * zb) ^ m) _ q29 (iv_next IVw.out hs rfl) (SR14x29.out.mono (by omega)) ((mul_pow_int ((an : Int)) zb m).symm)) (fun e w2 he => by obtain ⟨rfl, hb⟩ := he; exact ⟨_, rfl, rfl, hb⟩)⟩
    · intro a' w' ha hs hw
      have e26 : a'.tmps[109]? = some (Value.bool false) := slot_get rfl rfl (hw 26 (by kernel_rfl) _ rfl)
      have e31 : a'.tmps[114]? = some (Value.bool true) := slot_get rfl rfl (hw 31 (by kernel_rfl) _ rfl)
      exact ⟨wanted_some rfl rfl rfl e26, rfl, wp_val (run_not rfl (ev_tmp e31)) ⟨rfl, Below.refl _ _⟩⟩
    · intro a' w' ha hs hw
      have e26 : a'.tmps[109]? = some (Value.bool false) := slot_get rfl rfl (hw 26 (by kernel_rfl) _ rfl)
      have e32 : a'.tmps[115]? = some (Value.bool false) := slot_get rfl rfl (hw 32 (by kernel_rfl) _ rfl)
      exact ⟨wanted_none rfl, rfl, wp_val (run_pick (b := false) rfl (ev_tmp e26) (ev_tmp e32)) ⟨rfl, Below.refl _ _⟩⟩
  simp only [allQ]
  intro r19x21 _
  intro r19x29 _
  simp only [setOpt, List.set_cons_succ, List.set_cons_zero, ptr]
  refine hK _ _ ?_
  clear hK K
  replace BXa := Lib.hid (BXa.out.next hs rfl); replace IVa := Lib.hid (iv_next IVa.out hs rfl)
  replace BXb := Lib.hid (BXb.out.next hs rfl); replace IVb := Lib.hid (iv_next IVb.out hs rfl)
  replace BXp := Lib.hid (BXp.out.next hs rfl); replace IVp := Lib.hid (iv_next IVp.out hs rfl)
  replace BXq := Lib.hid (BXq.out.next hs rfl); replace IVq := Lib.hid (iv_next IVq.out hs rfl)
  replace BXs := Lib.hid (BXs.out.next hs rfl); replace IVs := Lib.hid (iv_next IVs.out hs rfl)
  replace BXt := Lib.hid (BXt.out.next hs rfl); replace IVt := Lib.hid (iv_next IVt.out hs rfl)
  replace BXw := Lib.hid (BXw.out.next hs rfl); replace IVw := Lib.hid (iv_next IVw.out hs rfl)
  replace DW := Lib.hid (link_below DW.out hs (by have := DW.out.size; omega) rfl rfl rfl rfl)
  clear hs
  go_upto_region 16 with fail
  obtain rfl : sa = false := by rw [IVa.out.sign]; simp
  obtain ⟨r, hr1, hr2⟩ := root_ex kk hk1 an
  have HR1 := Lib.hid hr1; have HR2 := Lib.hid hr2; clear hr1 hr2
  have w200a := BXa.out.cell0; have w200b := BXa.out.cell1
  go_wp2_with fail
  clear w200a w200b
  refine (root_int _ an kk r (kk : Int) _ IVa.out (SZa.out.mono (by omega)) rfl (by omega) hk1 HR1.out HR2.out).mono ?_
  rintro e yy ⟨_, rfl, hq, hb⟩
  have SZr : Hid (Sz (r : Int) 4) := sz_of_le SZa.out (by have h1 := root_self_le hk1 HR1.out; simp; exact h1)
  obtain ⟨Xr, pr, qr, rfl, _, _, _⟩ := hq.form
  have Q := Lib.hid hq; have B := Lib.hid hb; clear hq hb
  generalize hs : decide (((r : Int) : Int) < 0) = sr at *
  obtain rfl : sr = false := by rw [← hs]; simp only [decide_eq_false_iff_not, Int.not_lt]; exact Int.natCast_nonneg r
  clear hs
  go_upto_region 17 with fail
  obtain ⟨W21, hW⟩ : ∃ W21, W21 = yy.alloc (Obj.cells #[Value.bool false, Value.slice Xr pr qr] 27) := ⟨_, rfl⟩
  rw [← hW]
  have BXr : Hid (Box W21 yy.heap.size false (.slice Xr pr qr)) := by rw [hW]; exact Box.new _ _ _
  have IVr : Hid (Iv W21 (.agg #[.bool false, .slice Xr pr qr]) ((r : Int))) := by rw [hW]; exact Q.out.alloc _
  have hd : Below wn.heap.size wn W21 := by rw [hW]; exact B.out.alloc B.out.size _
  clear hW Q B
  generalize hgn : yy.heap.size = gr at *
  clear hgn
  replace BXa := Lib.hid (BXa.out.next hd rfl); replace IVa := Lib.hid (iv_next IVa.out hd rfl)
  replace BXb := Lib.hid (BXb.out.next hd rfl); replace IVb := Lib.hid (iv_next IVb.out hd rfl)
  replace BXp := Lib.hid (BXp.out.next hd rfl); replace IVp := Lib.hid (iv_next IVp.out hd rfl)
  replace BXq := Lib.hid (BXq.out.next hd rfl); replace IVq := Lib.hid (iv_next IVq.out hd rfl)
  replace BXs := Lib.hid (BXs.out.next hd rfl); replace IVs := Lib.hid (iv_next IVs.out hd rfl)
  replace BXt := Lib.hid (BXt.out.next hd rfl); replace IVt := Lib.hid (iv_next IVt.out hd rfl)
  replace BXw := Lib.hid (BXw.out.next hd rfl); replace IVw := Lib.hid (iv_next IVw.out hd rfl)
  replace DW := Lib.hid (link_below DW.out hd (by have := DW.out.size; omega) rfl rfl rfl rfl)
  clear hd
  have w220a := BXa.out.cell0; have w220b := BXa.out.cell1
  go_upto_region 19 with fail
  clear w220a w220b
  have w230a := BXr.out.cell0; have w230b := BXr.out.cell1
  go_wp2_with fail
  clear w230a w230b
  refine (pow_any _ ((r : Int)) (kk) ((kk : Int)) _ IVr.out (SZr.out.mono (by omega)) (by simp) (by omega)).mono ?_
  rintro e y24 ⟨_, rfl, hq, hb⟩
  have SZlo : Hid (Sz ((r : Int) ^ kk) 161) := (SZr.out.pow (kk)).mono (by omega)
  obtain ⟨Xlo, plo, qlo, rfl, _, _, _⟩ := hq.form
  have Q := Lib.hid hq; have B := Lib.hid hb; clear hq hb
  generalize hs : decide (((r : Int) ^ kk : Int) < 0) = slo at *
  clear hs
  go_upto_region 20 with fail
  obtain ⟨W25, hW⟩ : ∃ W25, W25 = y24.alloc (Obj.cells #[Value.bool slo, Value.slice Xlo plo qlo] 27) := ⟨_, rfl⟩
  rw [← hW]
  have BXlo : Hid (Box W25 y24.heap.size slo (.slice Xlo plo qlo)) := by rw [hW]; exact Box.new _ _ _
  have IVlo : Hid (Iv W25 (.agg #[.bool slo, .slice Xlo plo qlo]) ((r : Int) ^ kk)) := by rw [hW]; exact Q.out.alloc _
  have hd : Below W21.heap.size W21 W25 := by rw [hW]; exact B.out.alloc B.out.size _
  clear hW Q B
  generalize hgn : y24.heap.size = glo at *
  clear hgn
  replace BXa := Lib.hid (BXa.out.next hd rfl); replace IVa := Lib.hid (iv_next IVa.out hd rfl)
  replace BXb := Lib.hid (BXb.out.next hd rfl); replace IVb := Lib.hid (iv_next IVb.out hd rfl)
  replace BXp := Lib.hid (BXp.out.next hd rfl); replace IVp := Lib.hid (iv_next IVp.out hd rfl)
  replace BXq := Lib.hid (BXq.out.next hd rfl); replace IVq := Lib.hid (iv_next IVq.out hd rfl)
  replace BXs := Lib.hid (BXs.out.next hd rfl); replace IVs := Lib.hid (iv_next IVs.out hd rfl)
  replace BXt := Lib.hid (BXt.out.next hd rfl); replace IVt := Lib.hid (iv_next IVt.out hd rfl)
  replace BXw := Lib.hid (BXw.out.next hd rfl); replace IVw := Lib.hid (iv_next IVw.out hd rfl)
  replace BXr := Lib.hid (BXr.out.next hd rfl); replace IVr := Lib.hid (iv_next IVr.out hd rfl)
  replace DW := Lib.hid (link_below DW.out hd (by have := DW.out.size; omega) rfl rfl rfl rfl)
  clear hd
  have SZr1 : Hid (Sz ((r : Int) + (1 : Int)) 5) := Sz.add (SZr.out.mono (by omega)) (Sz.mono (I64.sz ⟨by omega, by omega⟩) (by omega))
  have SZhi : Hid (Sz (((r : Int) + (1 : Int)) ^ kk) 161) := (SZr1.out.pow kk).mono (by omega)
  have SR20x1 : Hid (Sz (1) 2) := I64.sz ⟨by omega, by omega⟩
  have SR20x2 : Hid (Sz (((r : Int)) + ((1 : Int))) 5) := (Sz.add (N := 4) (SZr.out.mono (by omega)) (SR20x1.out.mono (by omega)))
  refine region_go W25 [.is (.agg #[.bool false, .slice Xr pr qr]), .iv ((1 : Int)), .iv (((r : Int)) + ((1 : Int))), .is (Value.int IntKind.i64 (kk : Int)), .tup [.inl (((r : Int) + (1 : Int)) ^ kk), .inr (Value.int IntKind.i64 0)], .tup [.inl (((r : Int) + (1 : Int)) ^ kk), .inr (Value.int IntKind.i64 0)], .iv (((r : Int) + (1 : Int)) ^ kk), .is (Value.int IntKind.i64 0), .new, .put 8 (((r : Int) + (1 : Int)) ^ kk), .is (Value.int IntKind.i64 0)] [some 148, some 149, some 150, some 151, some 152, some 147, some 153, some 154, some 27, none, some 28] (by kernel_rfl) (by kernel_rfl) (by kernel_rfl) (by kernel_rfl) (by kernel_rfl) (by rfl) (by kernel_rfl) ((Below.refl _ _).drew) (fun Q' => ?_) (fun K hK wn hs => ?_)
  · refine ⟨?_, ?_, ?_, ?_, ?_, ?_, ?_, ?_, ?_, ?_, ?_, trivial⟩
    · intro a' w' ha hs hw
      have eo23 : a'.tmps[23]? = some (ptr gr) := (ha.rest 23 (by kernel_rfl)).trans rfl
      exact ⟨wanted_none rfl, rfl, wp_val (run_load rfl (ev_tmp eo23) (BXr.out.next hs rfl)) ⟨rfl, Below.refl _ _⟩⟩
    · intro a' w' ha hs hw
      exact ⟨wanted_none rfl, rfl, call_step rfl Try.func40 (by kernel_rfl) rfl (map_one rfl) (lof_any (1) _ (by omega) (by omega)) (fun e w2 he => by obtain ⟨v, rfl, hv, hb⟩ := he; exact ⟨v, rfl, v, rfl, hv, hb⟩)⟩
    · intro a' w' ha hs hw
      have e0 : a'.tmps[148]? = some (.agg #[.bool false, .slice Xr pr qr]) := slot_get rfl rfl (hw 0 (by kernel_rfl) _ rfl)
      obtain ⟨v1, e1, q1⟩ := hw 1 (by kernel_rfl) _ rfl
      replace e1 : a'.tmps[149]? = some v1 := slot_get rfl rfl e1
      exact ⟨wanted_none rfl, rfl, call_step rfl Try.func26 (by kernel_rfl) rfl (map_two (ev_tmp e0) (ev_tmp e1)) (add_any _ _ ((r : Int)) ((1 : Int)) _ (iv_next IVr.out hs rfl) q1 (SZr.out.mono (by omega)) (SR20x1.out.mono (by omega))) (fun e w2 he => by obtain ⟨v, rfl, hv, hb⟩ := he; exact ⟨v, rfl, v, rfl, hv, hb⟩)⟩
    · intro a' w' ha hs hw
      have eo12 : a'.tmps[12]? = some (Value.int IntKind.i64 (kk : Int)) := (ha.rest 12 (by kernel_rfl)).trans rfl
      exact ⟨wanted_none rfl, rfl, wp_val (run_move rfl (ev_tmp eo12)) ⟨rfl, Below.refl _ _⟩⟩
    · intro a' w' ha hs hw
      obtain ⟨v2, e2, q2⟩ := hw 2 (by kernel_rfl) _ rfl
      replace e2 : a'.tmps[150]? = some v2 := slot_get rfl rfl e2
      have e3 : a'.tmps[151]? = some (Value.int IntKind.i64 (kk : Int)) := slot_get rfl rfl (hw 3 (by kernel_rfl) _ rfl)
      exact ⟨wanted_none rfl, rfl, call_step rfl Try.func33 (by kernel_rfl) rfl (map_two (ev_tmp e2) (ev_tmp e3)) (pow_any _ ((r : Int) + (1 : Int)) kk (kk : Int) _ q2 (SZr1.out.mono (by omega)) rfl (by omega)) (fun e w2 he => by obtain ⟨v, rfl, h1, hb⟩ := he; exact ⟨_, rfl, [v, .int .i64 0], rfl, ⟨h1, rfl, trivial⟩, hb⟩)⟩
    · intro a' w' ha hs hw
      obtain ⟨us4, e4, q4⟩ := hw 4 (by kernel_rfl) _ rfl
      replace e4 : a'.tmps[152]? = some (.tuple us4.toArray) := slot_get rfl rfl e4
      exact ⟨wanted_none rfl, rfl, wp_val (run_move rfl (ev_tmp e4)) ⟨_, rfl, q4, Below.refl _ _⟩⟩
    · intro a' w' ha hs hw
      obtain ⟨us5, e5, q5⟩ := hw 5 (by kernel_rfl) _ rfl
      replace e5 : a'.tmps[147]? = some (.tuple us5.toArray) := slot_get rfl rfl e5
      match us5, e5, q5 with
      | [u0, u1], e5, ⟨h0, h1, _⟩ =>
        exact ⟨wanted_none rfl, rfl, wp_val (run_extract rfl (ev_tmp e5) rfl) ⟨_, rfl, h0, Below.refl _ _⟩⟩
    · intro a' w' ha hs hw
      obtain ⟨us5, e5, q5⟩ := hw 5 (by kernel_rfl) _ rfl
      replace e5 : a'.tmps[147]? = some (.tuple us5.toArray) := slot_get rfl rfl e5
      match us5, e5, q5 with
      | [u0, u1], e5, ⟨h0, h1, _⟩ =>
        exact ⟨wanted_none rfl, rfl, wp_val (run_extract rfl (ev_tmp e5) (by rw [h1]; rfl)) ⟨rfl, Below.refl _ _⟩⟩
    · intro a' w' ha hs hw
      exact ⟨wanted_none rfl, rfl, wp_valw (run_alloc rfl) ⟨rfl, rfl⟩⟩
    · intro a' w' ha hs hw
      obtain ⟨v6, e6, q6⟩ := hw 6 (by kernel_rfl) _ rfl
      replace e6 : a'.tmps[153]? = some v6 := slot_get rfl rfl e6
      refine ⟨wanted_none rfl, by kernel_rfl, fun g hg => ?_⟩
      obtain ⟨A, n, c, hf, _, _, _⟩ := q6.form
      subst hf
      exact ⟨_, A, n, c, q6, fun ⟨_, _, _, _, hb⟩ => wp_skipw (run_store rfl (ev_tmp (slot_get rfl rfl hg)) (ev_tmp e6) hb) rfl ⟨rfl, rfl⟩⟩
    · intro a' w' ha hs hw
      have e7 : a'.tmps[154]? = some (Value.int IntKind.i64 0) := slot_get rfl rfl (hw 7 (by kernel_rfl) _ rfl)
      exact ⟨wanted_none rfl, rfl, wp_val (run_assign rfl (ev_tmp e7)) ⟨rfl, Below.refl _ _⟩⟩
  simp only [allQ]
  intro r26x1 _
  intro r26x2 _
  intro r26x4 _
  intro r26x5 _
  intro r26x6 _
  intro ghi hGhi
  intro gg shi Xhi phi qhi he BXhi IVhi
  simp only [List.nil_append, List.cons_append, List.getElem?_cons_succ, List.getElem?_cons_zero, Option.some.injEq] at he
  obtain rfl := ptr_inj he
  clear he
  replace BXhi := Lib.hid BXhi; replace IVhi := Lib.hid IVhi
  simp only [setOpt, List.set_cons_succ, List.set_cons_zero, ptr]
  refine hK _ _ ?_
  clear hK K
  replace BXa := Lib.hid (BXa.out.next hs rfl); replace IVa := Lib.hid (iv_next IVa.out hs rfl)
  replace BXb := Lib.hid (BXb.out.next hs rfl); replace IVb := Lib.hid (iv_next IVb.out hs rfl)
  replace BXp := Lib.hid (BXp.out.next hs rfl); replace IVp := Lib.hid (iv_next IVp.out hs rfl)
  replace BXq := Lib.hid (BXq.out.next hs rfl); replace IVq := Lib.hid (iv_next IVq.out hs rfl)
  replace BXs := Lib.hid (BXs.out.next hs rfl); replace IVs := Lib.hid (iv_next IVs.out hs rfl)
  replace BXt := Lib.hid (BXt.out.next hs rfl); replace IVt := Lib.hid (iv_next IVt.out hs rfl)
  replace BXw := Lib.hid (BXw.out.next hs rfl); replace IVw := Lib.hid (iv_next IVw.out hs rfl)
  replace BXr := Lib.hid (BXr.out.next hs rfl); replace IVr := Lib.hid (iv_next IVr.out hs rfl)
  replace BXlo := Lib.hid (BXlo.out.next hs rfl); replace IVlo := Lib.hid (iv_next IVlo.out hs rfl)
  replace DW := Lib.hid (link_below DW.out hs (by have := DW.out.size; omega) rfl rfl rfl rfl)
  clear hs
  go_upto_region 21 with fail
  have w270a := BXr.out.cell0; have w270b := BXr.out.cell1
  go_wp2_with fail
  clear w270a w270b
  refine (rvalid_any _ (r : Int) _ IVr.out (SZr.out.mono (by omega))).mono ?_
  rintro e yv ⟨rfl, hb⟩
  replace BXa := Lib.hid (BXa.out.next hb rfl); replace IVa := Lib.hid (iv_next IVa.out hb rfl)
  replace BXb := Lib.hid (BXb.out.next hb rfl); replace IVb := Lib.hid (iv_next IVb.out hb rfl)
  replace BXp := Lib.hid (BXp.out.next hb rfl); replace IVp := Lib.hid (iv_next IVp.out hb rfl)
  replace BXq := Lib.hid (BXq.out.next hb rfl); replace IVq := Lib.hid (iv_next IVq.out hb rfl)
  replace BXs := Lib.hid (BXs.out.next hb rfl); replace IVs := Lib.hid (iv_next IVs.out hb rfl)
  replace BXt := Lib.hid (BXt.out.next hb rfl); replace IVt := Lib.hid (iv_next IVt.out hb rfl)
  replace BXw := Lib.hid (BXw.out.next hb rfl); replace IVw := Lib.hid (iv_next IVw.out hb rfl)
  replace BXr := Lib.hid (BXr.out.next hb rfl); replace IVr := Lib.hid (iv_next IVr.out hb rfl)
  replace BXlo := Lib.hid (BXlo.out.next hb rfl); replace IVlo := Lib.hid (iv_next IVlo.out hb rfl)
  replace BXhi := Lib.hid (BXhi.out.next hb rfl); replace IVhi := Lib.hid (iv_next IVhi.out hb rfl)
  replace DW := Lib.hid (link_below DW.out hb (by have := DW.out.size; omega) rfl rfl rfl rfl)
  clear hb
  have w280a := BXr.out.cell0; have w280b := BXr.out.cell1; have w281a := BXlo.out.cell0; have w281b := BXlo.out.cell1; have w282a := BXa.out.cell0; have w282b := BXa.out.cell1
  obtain ⟨o1, ho1, hle1⟩ := cmp_le (pow_cast_le HR1.out)
  go_wp2_with fail
  clear w280a w280b w281a w281b w282a w282b
  refine (cmp_is _ _ ((r : Int) ^ kk) (an : Int) o1 _ IVlo.out IVa.out (SZlo.out.mono (by omega)) (SZa.out.mono (by omega)) ho1.out).mono ?_
  rintro e yc ⟨rfl, hb⟩
  replace BXa := Lib.hid (BXa.out.next hb rfl); replace IVa := Lib.hid (iv_next IVa.out hb rfl)
  replace BXb := Lib.hid (BXb.out.next hb rfl); replace IVb := Lib.hid (iv_next IVb.out hb rfl)
  replace BXp := Lib.hid (BXp.out.next hb rfl); replace IVp := Lib.hid (iv_next IVp.out hb rfl)
  replace BXq := Lib.hid (BXq.out.next hb rfl); replace IVq := Lib.hid (iv_next IVq.out hb rfl)
  replace BXs := Lib.hid (BXs.out.next hb rfl); replace IVs := Lib.hid (iv_next IVs.out hb rfl)
  replace BXt := Lib.hid (BXt.out.next hb rfl); replace IVt := Lib.hid (iv_next IVt.out hb rfl)
  replace BXw := Lib.hid (BXw.out.next hb rfl); replace IVw := Lib.hid (iv_next IVw.out hb rfl)
  replace BXr := Lib.hid (BXr.out.next hb rfl); replace IVr := Lib.hid (iv_next IVr.out hb rfl)
  replace BXlo := Lib.hid (BXlo.out.next hb rfl); replace IVlo := Lib.hid (iv_next IVlo.out hb rfl)
  replace BXhi := Lib.hid (BXhi.out.next hb rfl); replace IVhi := Lib.hid (iv_next IVhi.out hb rfl)
  replace DW := Lib.hid (link_below DW.out hb (by have := DW.out.size; omega) rfl rfl rfl rfl)
  clear hb
  have w290a := BXhi.out.cell0; have w290b := BXhi.out.cell1; have w291a := BXa.out.cell0; have w291b := BXa.out.cell1
  go_wp2_with fail
  clear w290a w290b w291a w291b
  refine (cmp_is _ _ (((r : Int) + (1 : Int)) ^ kk) (an : Int) 1 _ IVhi.out IVa.out (SZhi.out.mono (by omega)) (SZa.out.mono (by omega)) (cmpZ_gt (pow_cast_gt HR2.out))).mono ?_
  rintro e ye ⟨rfl, hb⟩
  replace BXa := Lib.hid (BXa.out.next hb rfl); replace IVa := Lib.hid (iv_next IVa.out hb rfl)
  replace BXb := Lib.hid (BXb.out.next hb rfl); replace IVb := Lib.hid (iv_next IVb.out hb rfl)
  replace BXp := Lib.hid (BXp.out.next hb rfl); replace IVp := Lib.hid (iv_next IVp.out hb rfl)
  replace BXq := Lib.hid (BXq.out.next hb rfl); replace IVq := Lib.hid (iv_next IVq.out hb rfl)
  replace BXs := Lib.hid (BXs.out.next hb rfl); replace IVs := Lib.hid (iv_next IVs.out hb rfl)
  replace BXt := Lib.hid (BXt.out.next hb rfl); replace IVt := Lib.hid (iv_next IVt.out hb rfl)
  replace BXw := Lib.hid (BXw.out.next hb rfl); replace IVw := Lib.hid (iv_next IVw.out hb rfl)
  replace BXr := Lib.hid (BXr.out.next hb rfl); replace IVr := Lib.hid (iv_next IVr.out hb rfl)
  replace BXlo := Lib.hid (BXlo.out.next hb rfl); replace IVlo := Lib.hid (iv_next IVlo.out hb rfl)
  replace BXhi := Lib.hid (BXhi.out.next hb rfl); replace IVhi := Lib.hid (iv_next IVhi.out hb rfl)
  replace DW := Lib.hid (link_below DW.out hb (by have := DW.out.size; omega) rfl rfl rfl rfl)
  clear hb
  go_wp2
  go_ret
  exact ⟨by simp, by rw [hg]; exact DW.out⟩

theorem lawPowers_any (b0 : Bool) (A0 : Option Addr) (n0 c0 : Nat) (ws0 : List Nat) (b1 : Bool) (A1 : Option Addr) (n1 c1 : Nat) (ws1 : List Nat) (x y z : Int) (w : World) (h0 : Wd w A0 n0 ws0) (m0 : n0 ≤ 9223372036854775807) (h1 : Wd w A1 n1 ws1) (m1 : n1 ≤ 9223372036854775807) (hxyz : (0 ≤ x ∧ x ≤ 255) ∧ (0 ≤ y ∧ y ≤ 255) ∧ (0 ≤ z ∧ z ≤ 255)) :
    Calls Try.prog 9 #[.agg #[.bool b0, .slice A0 n0 c0], .agg #[.bool b1, .slice A1 n1 c1], .agg #[.int .u8 x, .int .u8 y, .int .u8 z]] w fun e w' => e = .returned (.bool true) ∧ Below w.heap.size w w' := by
  by_cases h : sgn b0 (val (ws0.take 4)) < 0
  · exact lawPowersN_any b0 A0 n0 c0 ws0 b1 A1 n1 c1 ws1 x y z w h0 m0 h1 m1 hxyz h
  · exact lawPowersP_any b0 A0 n0 c0 ws0 b1 A1 n1 c1 ws1 x y z w h0 m0 h1 m1 hxyz (by omega)
end Go.Proofs.Ytloiabkopacfgaa
