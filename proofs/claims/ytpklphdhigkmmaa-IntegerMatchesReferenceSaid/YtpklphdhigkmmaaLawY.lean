/-
  The law IntegerMatchesReference: the walk.
-/
import Derived.Test.YtpklphdhigkmmaaLawI
import Derived.Test.YtpklphdhigkmmaaLawE
import Derived.Test.YtpklphdhigkmmaaSanB
import Derived.Test.YtpklphdhigkmmaaRefB
import Derived.Deep.DeepCutAuto
import Derived.Handy
namespace Go.Proofs.Ytpklphdhigkmmaa
open Go.RowKit
attribute [local go_sem ↓] Go.wp_at_zero Go.wp_at_succ

theorem wrap_bits {w : Int} {n : Nat} (hn : n ≤ 384) (h0 : 0 ≤ w) (h1 : w ≤ 4096) : IntKind.i64.wrap (w * (n : Int)) = w * (n : Int) := by
  have e0 : 0 ≤ w * (n : Int) := Int.mul_nonneg h0 (by omega)
  have e1 : w * (n : Int) ≤ 4096 * 384 := Int.mul_le_mul h1 (by omega) (by omega) (by omega)
  exact IntWalk.i64_in _ (by omega)
theorem bits12 {z : Int} (h : Sz z 12) : bl z.natAbs ≤ 384 := by have := bits_sz h; omega
theorem sz_gcdm {a b : Int} {N : Nat} (sa : Sz a N) (sb : Sz b N) : Sz (Int.gcd a b : Int) N := by
  by_cases h : b = 0
  · subst h
    exact sa.of_le (by simp)
  · refine sb.of_le ?_
    rw [Int.natAbs_natCast]
    have := Nat.le_of_dvd (show 0 < b.natAbs by omega) (Int.natAbs_dvd_natAbs.2 (Int.gcd_dvd_right a b))
    rwa [Int.natAbs_natCast] at this

set_option maxHeartbeats 16000000 in
set_option maxRecDepth 100000 in
theorem lawMatches_any (b0 : Bool) (A0 : Option Addr) (n0 c0 : Nat) (ws0 : List Nat) (b1 : Bool) (A1 : Option Addr) (n1 c1 : Nat) (ws1 : List Nat) (x y : Int) (w : World) (h0 : Wd w A0 n0 ws0) (m0 : n0 ≤ 9223372036854775807) (h1 : Wd w A1 n1 ws1) (m1 : n1 ≤ 9223372036854775807) (hxy : (-9223372036854775808 ≤ x ∧ x ≤ 9223372036854775807) ∧ (-9223372036854775808 ≤ y ∧ y ≤ 9223372036854775807)) :
    Calls Try.prog 3 #[.agg #[.bool b0, .slice A0 n0 c0], .agg #[.bool b1, .slice A1 n1 c1], .agg #[.int .i64 x, .int .i64 y]] w fun e w' => e = .returned (.bool true) ∧ Below w.heap.size w w' := by
  obtain ⟨za, hza⟩ : ∃ z, z = sgn b0 (val (ws0.take 12)) := ⟨_, rfl⟩
  have SZa : Hid (Sz za 12) := by rw [hza]; exact sz_take _ _ _ h0.wds
  obtain ⟨zb, hzb⟩ : ∃ z, z = sgn b1 (val (ws1.take 12)) := ⟨_, rfl⟩
  have SZb : Hid (Sz zb 12) := by rw [hzb]; exact sz_take _ _ _ h1.wds
  have HXY := Lib.hid hxy
  clear hxy
  go_enter Try.func3, Try.ntmps3
  go_wp2_with fail
  obtain ⟨W, hW⟩ : ∃ W, W = (((w.alloc (Obj.cells #[Value.bool b0, Value.slice A0 n0 c0] 24)).alloc (Obj.cells #[Value.bool b1, Value.slice A1 n1 c1] 24)).alloc (Obj.cells #[Value.int IntKind.i64 x, Value.int IntKind.i64 y] 25)) := ⟨_, rfl⟩
  rw [← hW]
  have AX0 : Hid (CBox W (w.heap.size + 1 + 1) #[Value.int IntKind.i64 x, Value.int IntKind.i64 y] 25) := by rw [hW]; have := CBox.new ((w.alloc (Obj.cells #[Value.bool b0, Value.slice A0 n0 c0] 24)).alloc (Obj.cells #[Value.bool b1, Value.slice A1 n1 c1] 24)) #[Value.int IntKind.i64 x, Value.int IntKind.i64 y] 25; simpa [Hid] using this
  have RX0 : Hid (RBox W (w.heap.size) b0 (.slice A0 n0 c0)) := by rw [hW]; have := ((RBox.new w b0 (.slice A0 n0 c0)).alloc (Obj.cells #[Value.bool b1, Value.slice A1 n1 c1] 24)).alloc (Obj.cells #[Value.int IntKind.i64 x, Value.int IntKind.i64 y] 25); simpa [Hid] using this
  have RW0 : Hid (Wd W A0 n0 ws0) := by rw [hW]; exact (((h0).alloc _).alloc _).alloc _
  have RX1 : Hid (RBox W (w.heap.size + 1) b1 (.slice A1 n1 c1)) := by rw [hW]; have := (RBox.new (w.alloc (Obj.cells #[Value.bool b0, Value.slice A0 n0 c0] 24)) b1 (.slice A1 n1 c1)).alloc (Obj.cells #[Value.int IntKind.i64 x, Value.int IntKind.i64 y] 25); simpa [Hid] using this
  have RW1 : Hid (Wd W A1 n1 ws1) := by rw [hW]; exact (((h1).alloc _).alloc _).alloc _
  have DW : Hid (Below w.heap.size w W) := by rw [hW]; exact (((Below.refl _ _).alloc (by simp <;> omega) _).alloc (by simp <;> omega) _).alloc (by simp <;> omega) _
  clear hW h0 h1
  generalize hg : w.heap.size = g at *
  refine (sanity_any _).mono ?_
  rintro e w1 ⟨rfl, hb1⟩
  replace RX0 := Lib.hid (RX0.out.next hb1 rfl); replace RW0 := Lib.hid (RW0.out.next hb1 rfl)
  replace RX1 := Lib.hid (RX1.out.next hb1 rfl); replace RW1 := Lib.hid (RW1.out.next hb1 rfl)
  replace AX0 := Lib.hid (AX0.out.next hb1 rfl)
  replace DW := Lib.hid (link_below DW.out hb1 (by have := DW.out.size; omega) rfl rfl rfl rfl)
  clear hb1
  have u1 := RX0.out.cell0; have u2 := RX0.out.cell1
  go_wp2_with fail
  clear u1 u2
  refine (rmade_raw b0 A0 n0 c0 12 12 ws0 _ RW0.out rfl (by omega) m0).mono ?_
  rw [← hza]
  rintro e y1 ⟨_, rfl, hq, hb⟩
  clear RX0 RW0
  obtain ⟨Xa, pa, qa, rfl, _, _, _⟩ := hq.form
  have Q := Lib.hid hq; have B := Lib.hid hb; clear hq hb
  generalize hs : decide ((za : Int) < 0) = sa at *
  clear hs
  go_upto_region 5 with fail
  obtain ⟨W2, hW⟩ : ∃ W2, W2 = y1.alloc (Obj.cells #[Value.bool sa, Value.slice Xa pa qa] 27) := ⟨_, rfl⟩
  rw [← hW]
  have BXa : Hid (Box W2 y1.heap.size sa (.slice Xa pa qa)) := by rw [hW]; exact Box.new _ _ _
  have IVa : Hid (Iv W2 (.agg #[.bool sa, .slice Xa pa qa]) (za)) := by rw [hW]; exact Q.out.alloc _
  have hd : Below w1.heap.size w1 W2 := by rw [hW]; exact B.out.alloc B.out.size _
  clear hW Q B
  generalize hgn : y1.heap.size = ga at *
  clear hgn
  replace RX1 := Lib.hid (RX1.out.next hd rfl); replace RW1 := Lib.hid (RW1.out.next hd rfl)
  replace AX0 := Lib.hid (AX0.out.next hd rfl)
  replace DW := Lib.hid (link_below DW.out hd (by have := DW.out.size; omega) rfl rfl rfl rfl)
  clear hd
  have u1 := RX1.out.cell0; have u2 := RX1.out.cell1
  go_wp2_with fail
  clear u1 u2
  refine (rmade_raw b1 A1 n1 c1 12 12 ws1 _ RW1.out rfl (by omega) m1).mono ?_
  rw [← hzb]
  rintro e y3 ⟨_, rfl, hq, hb⟩
  clear RX1 RW1
  obtain ⟨Xb, pb, qb, rfl, _, _, _⟩ := hq.form
  have Q := Lib.hid hq; have B := Lib.hid hb; clear hq hb
  generalize hs : decide ((zb : Int) < 0) = sb at *
  clear hs
  go_upto_region 6 with fail
  obtain ⟨W4, hW⟩ : ∃ W4, W4 = y3.alloc (Obj.cells #[Value.bool sb, Value.slice Xb pb qb] 27) := ⟨_, rfl⟩
  rw [← hW]
  have BXb : Hid (Box W4 y3.heap.size sb (.slice Xb pb qb)) := by rw [hW]; exact Box.new _ _ _
  have IVb : Hid (Iv W4 (.agg #[.bool sb, .slice Xb pb qb]) (zb)) := by rw [hW]; exact Q.out.alloc _
  have hd : Below W2.heap.size W2 W4 := by rw [hW]; exact B.out.alloc B.out.size _
  clear hW Q B
  generalize hgn : y3.heap.size = gb at *
  clear hgn
  replace BXa := Lib.hid (BXa.out.next hd rfl); replace IVa := Lib.hid (iv_next IVa.out hd rfl)
  replace AX0 := Lib.hid (AX0.out.next hd rfl)
  replace DW := Lib.hid (link_below DW.out hd (by have := DW.out.size; omega) rfl rfl rfl rfl)
  clear hd
  clear hza hzb
  obtain ⟨zq, zr, ze, hdm⟩ := dm_both SZa.out SZb.out
  have DM := Lib.hid hdm
  have SZq := Lib.hid hdm.szq; have SZr := Lib.hid hdm.szr
  obtain ⟨zh, zu, zv, hbz⟩ := bez_both SZa.out SZb.out
  have BZ := Lib.hid hbz
  have SZh := Lib.hid hbz.szg; have SZu := Lib.hid hbz.szu; have SZv := Lib.hid hbz.szv
  clear hdm hbz
  have w5aa := BXa.out.cell0; have w5ab := BXa.out.cell1; have w5ba := BXb.out.cell0; have w5bb := BXb.out.cell1
  go_wp2_with fail
  clear w5aa w5ab w5ba w5bb
  refine (DM.out.i _ _ _ IVa.out IVb.out).mono ?_
  rintro e y6 ⟨_, _, rfl, hq0, hq1, hb⟩
  obtain ⟨Xq, pq, qq, rfl, _, _, _⟩ := hq0.form
  have Q0 := Lib.hid hq0; clear hq0
  obtain ⟨Xr, pr, qr, rfl, _, _, _⟩ := hq1.form
  have Q1 := Lib.hid hq1; clear hq1
  have B := Lib.hid hb; clear hb
  generalize hs : decide ((zq : Int) < 0) = sq at *
  clear hs
  generalize hs : decide ((zr : Int) < 0) = sr at *
  clear hs
  go_upto_region 7 with fail
  obtain ⟨W7, hW⟩ : ∃ W7, W7 = ((y6.alloc (Obj.cells #[Value.bool sq, Value.slice Xq pq qq] 27)).alloc (Obj.cells #[Value.bool sr, Value.slice Xr pr qr] 27)) := ⟨_, rfl⟩
  rw [← hW]
  have BXq : Hid (Box W7 (y6.heap.size) sq (.slice Xq pq qq)) := by rw [hW]; exact (Box.new _ _ _).alloc _
  have IVq : Hid (Iv W7 (.agg #[.bool sq, .slice Xq pq qq]) (zq)) := by rw [hW]; exact ((Q0.out).alloc _).alloc _
  have BXr : Hid (Box W7 (y6.heap.size + 1) sr (.slice Xr pr qr)) := by rw [hW]; exact new_at (by simp)
  have IVr : Hid (Iv W7 (.agg #[.bool sr, .slice Xr pr qr]) (zr)) := by rw [hW]; exact ((Q1.out).alloc _).alloc _
  have hd : Below W4.heap.size W4 W7 := by rw [hW]; exact ((B.out).alloc B.out.size _).alloc (by have := B.out.size; simp; omega) _
  clear hW B Q0 Q1
  generalize hgn : y6.heap.size + 1 = gr at *
  clear hgn
  generalize hgn : y6.heap.size = gq at *
  clear hgn
  replace BXa := Lib.hid (BXa.out.next hd rfl); replace IVa := Lib.hid (iv_next IVa.out hd rfl)
  replace BXb := Lib.hid (BXb.out.next hd rfl); replace IVb := Lib.hid (iv_next IVb.out hd rfl)
  replace AX0 := Lib.hid (AX0.out.next hd rfl)
  replace DW := Lib.hid (link_below DW.out hd (by have := DW.out.size; omega) rfl rfl rfl rfl)
  clear hd
  have w8aa := BXa.out.cell0; have w8ab := BXa.out.cell1; have w8ba := BXb.out.cell0; have w8bb := BXb.out.cell1
  go_wp2_with fail
  clear w8aa w8ab w8ba w8bb
  refine (DM.out.r _ _ _ IVa.out IVb.out).mono ?_
  rintro e y9 ⟨_, _, rfl, hq0, hq1, hb⟩
  obtain ⟨Xs, ps, qs, rfl, _, _, _⟩ := hq0.form
  have Q0 := Lib.hid hq0; clear hq0
  obtain ⟨Xt, pt, qt, rfl, _, _, _⟩ := hq1.form
  have Q1 := Lib.hid hq1; clear hq1
  have B := Lib.hid hb; clear hb
  generalize hs : decide ((zq : Int) < 0) = ss at *
  clear hs
  generalize hs : decide ((zr : Int) < 0) = st at *
  clear hs
  go_upto_region 8 with fail
  obtain ⟨W10, hW⟩ : ∃ W10, W10 = ((y9.alloc (Obj.cells #[Value.bool ss, Value.slice Xs ps qs] 27)).alloc (Obj.cells #[Value.bool st, Value.slice Xt pt qt] 27)) := ⟨_, rfl⟩
  rw [← hW]
  have BXs : Hid (Box W10 (y9.heap.size) ss (.slice Xs ps qs)) := by rw [hW]; exact (Box.new _ _ _).alloc _
  have IVs : Hid (Iv W10 (.agg #[.bool ss, .slice Xs ps qs]) (zq)) := by rw [hW]; exact ((Q0.out).alloc _).alloc _
  have BXt : Hid (Box W10 (y9.heap.size + 1) st (.slice Xt pt qt)) := by rw [hW]; exact new_at (by simp)
  have IVt : Hid (Iv W10 (.agg #[.bool st, .slice Xt pt qt]) (zr)) := by rw [hW]; exact ((Q1.out).alloc _).alloc _
  have hd : Below W7.heap.size W7 W10 := by rw [hW]; exact ((B.out).alloc B.out.size _).alloc (by have := B.out.size; simp; omega) _
  clear hW B Q0 Q1
  generalize hgn : y9.heap.size + 1 = gt at *
  clear hgn
  generalize hgn : y9.heap.size = gs at *
  clear hgn
  replace BXa := Lib.hid (BXa.out.next hd rfl); replace IVa := Lib.hid (iv_next IVa.out hd rfl)
  replace BXb := Lib.hid (BXb.out.next hd rfl); replace IVb := Lib.hid (iv_next IVb.out hd rfl)
  replace BXq := Lib.hid (BXq.out.next hd rfl); replace IVq := Lib.hid (iv_next IVq.out hd rfl)
  replace BXr := Lib.hid (BXr.out.next hd rfl); replace IVr := Lib.hid (iv_next IVr.out hd rfl)
  replace AX0 := Lib.hid (AX0.out.next hd rfl)
  replace DW := Lib.hid (link_below DW.out hd (by have := DW.out.size; omega) rfl rfl rfl rfl)
  clear hd
  clear DM
  have w11aa := BXa.out.cell0; have w11ab := BXa.out.cell1; have w11ba := BXb.out.cell0; have w11bb := BXb.out.cell1
  go_wp2_with fail
  clear w11aa w11ab w11ba w11bb
  refine (BZ.out.i _ _ _ IVa.out IVb.out).mono ?_
  rintro e y12 ⟨_, _, _, rfl, hq0, hq1, hq2, hb⟩
  obtain ⟨Xh, ph, qh, rfl, _, _, _⟩ := hq0.form
  have Q0 := Lib.hid hq0; clear hq0
  obtain ⟨Xu, pu, qu, rfl, _, _, _⟩ := hq1.form
  have Q1 := Lib.hid hq1; clear hq1
  obtain ⟨Xv, pv, qv, rfl, _, _, _⟩ := hq2.form
  have Q2 := Lib.hid hq2; clear hq2
  have B := Lib.hid hb; clear hb
  generalize hs : decide ((zh : Int) < 0) = sh at *
  clear hs
  generalize hs : decide ((zu : Int) < 0) = su at *
  clear hs
  generalize hs : decide ((zv : Int) < 0) = sv at *
  clear hs
  go_upto_region 9 with fail
  obtain ⟨W13, hW⟩ : ∃ W13, W13 = (((y12.alloc (Obj.cells #[Value.bool sh, Value.slice Xh ph qh] 27)).alloc (Obj.cells #[Value.bool su, Value.slice Xu pu qu] 27)).alloc (Obj.cells #[Value.bool sv, Value.slice Xv pv qv] 27)) := ⟨_, rfl⟩
  rw [← hW]
  have BXh : Hid (Box W13 (y12.heap.size) sh (.slice Xh ph qh)) := by rw [hW]; exact ((Box.new _ _ _).alloc _).alloc _
  have IVh : Hid (Iv W13 (.agg #[.bool sh, .slice Xh ph qh]) (zh)) := by rw [hW]; exact (((Q0.out).alloc _).alloc _).alloc _
  have BXu : Hid (Box W13 (y12.heap.size + 1) su (.slice Xu pu qu)) := by rw [hW]; exact (new_at (by simp)).alloc _
  have IVu : Hid (Iv W13 (.agg #[.bool su, .slice Xu pu qu]) (zu)) := by rw [hW]; exact (((Q1.out).alloc _).alloc _).alloc _
  have BXv : Hid (Box W13 (y12.heap.size + 1 + 1) sv (.slice Xv pv qv)) := by rw [hW]; exact new_at (by simp)
  have IVv : Hid (Iv W13 (.agg #[.bool sv, .slice Xv pv qv]) (zv)) := by rw [hW]; exact (((Q2.out).alloc _).alloc _).alloc _
  have hd : Below W10.heap.size W10 W13 := by rw [hW]; exact (((B.out).alloc B.out.size _).alloc (by have := B.out.size; simp; omega) _).alloc (by have := B.out.size; simp; omega) _
  clear hW B Q0 Q1 Q2
  generalize hgn : y12.heap.size + 1 + 1 = gv at *
  clear hgn
  generalize hgn : y12.heap.size + 1 = gu at *
  clear hgn
  generalize hgn : y12.heap.size = gh at *
  clear hgn
  replace BXa := Lib.hid (BXa.out.next hd rfl); replace IVa := Lib.hid (iv_next IVa.out hd rfl)
  replace BXb := Lib.hid (BXb.out.next hd rfl); replace IVb := Lib.hid (iv_next IVb.out hd rfl)
  replace BXq := Lib.hid (BXq.out.next hd rfl); replace IVq := Lib.hid (iv_next IVq.out hd rfl)
  replace BXr := Lib.hid (BXr.out.next hd rfl); replace IVr := Lib.hid (iv_next IVr.out hd rfl)
  replace BXs := Lib.hid (BXs.out.next hd rfl); replace IVs := Lib.hid (iv_next IVs.out hd rfl)
  replace BXt := Lib.hid (BXt.out.next hd rfl); replace IVt := Lib.hid (iv_next IVt.out hd rfl)
  replace AX0 := Lib.hid (AX0.out.next hd rfl)
  replace DW := Lib.hid (link_below DW.out hd (by have := DW.out.size; omega) rfl rfl rfl rfl)
  clear hd
  have w14aa := BXa.out.cell0; have w14ab := BXa.out.cell1; have w14ba := BXb.out.cell0; have w14bb := BXb.out.cell1
  go_wp2_with fail
  clear w14aa w14ab w14ba w14bb
  refine (BZ.out.r _ _ _ IVa.out IVb.out).mono ?_
  rintro e y15 ⟨_, _, _, rfl, hq0, hq1, hq2, hb⟩
  obtain ⟨Xk, pk, qk, rfl, _, _, _⟩ := hq0.form
  have Q0 := Lib.hid hq0; clear hq0
  obtain ⟨Xl, pl, ql, rfl, _, _, _⟩ := hq1.form
  have Q1 := Lib.hid hq1; clear hq1
  obtain ⟨Xm, pm, qm, rfl, _, _, _⟩ := hq2.form
  have Q2 := Lib.hid hq2; clear hq2
  have B := Lib.hid hb; clear hb
  generalize hs : decide ((zh : Int) < 0) = sk at *
  clear hs
  generalize hs : decide ((zu : Int) < 0) = sl at *
  clear hs
  generalize hs : decide ((zv : Int) < 0) = sm at *
  clear hs
  go_upto_region 10 with fail
  obtain ⟨W16, hW⟩ : ∃ W16, W16 = (((y15.alloc (Obj.cells #[Value.bool sk, Value.slice Xk pk qk] 27)).alloc (Obj.cells #[Value.bool sl, Value.slice Xl pl ql] 27)).alloc (Obj.cells #[Value.bool sm, Value.slice Xm pm qm] 27)) := ⟨_, rfl⟩
  rw [← hW]
  have BXk : Hid (Box W16 (y15.heap.size) sk (.slice Xk pk qk)) := by rw [hW]; exact ((Box.new _ _ _).alloc _).alloc _
  have IVk : Hid (Iv W16 (.agg #[.bool sk, .slice Xk pk qk]) (zh)) := by rw [hW]; exact (((Q0.out).alloc _).alloc _).alloc _
  have BXl : Hid (Box W16 (y15.heap.size + 1) sl (.slice Xl pl ql)) := by rw [hW]; exact (new_at (by simp)).alloc _
  have IVl : Hid (Iv W16 (.agg #[.bool sl, .slice Xl pl ql]) (zu)) := by rw [hW]; exact (((Q1.out).alloc _).alloc _).alloc _
  have BXm : Hid (Box W16 (y15.heap.size + 1 + 1) sm (.slice Xm pm qm)) := by rw [hW]; exact new_at (by simp)
  have IVm : Hid (Iv W16 (.agg #[.bool sm, .slice Xm pm qm]) (zv)) := by rw [hW]; exact (((Q2.out).alloc _).alloc _).alloc _
  have hd : Below W13.heap.size W13 W16 := by rw [hW]; exact (((B.out).alloc B.out.size _).alloc (by have := B.out.size; simp; omega) _).alloc (by have := B.out.size; simp; omega) _
  clear hW B Q0 Q1 Q2
  generalize hgn : y15.heap.size + 1 + 1 = gm at *
  clear hgn
  generalize hgn : y15.heap.size + 1 = gl at *
  clear hgn
  generalize hgn : y15.heap.size = gk at *
  clear hgn
  replace BXa := Lib.hid (BXa.out.next hd rfl); replace IVa := Lib.hid (iv_next IVa.out hd rfl)
  replace BXb := Lib.hid (BXb.out.next hd rfl); replace IVb := Lib.hid (iv_next IVb.out hd rfl)
  replace BXq := Lib.hid (BXq.out.next hd rfl); replace IVq := Lib.hid (iv_next IVq.out hd rfl)
  replace BXr := Lib.hid (BXr.out.next hd rfl); replace IVr := Lib.hid (iv_next IVr.out hd rfl)
  replace BXs := Lib.hid (BXs.out.next hd rfl); replace IVs := Lib.hid (iv_next IVs.out hd rfl)
  replace BXt := Lib.hid (BXt.out.next hd rfl); replace IVt := Lib.hid (iv_next IVt.out hd rfl)
  replace BXh := Lib.hid (BXh.out.next hd rfl); replace IVh := Lib.hid (iv_next IVh.out hd rfl)
  replace BXu := Lib.hid (BXu.out.next hd rfl); replace IVu := Lib.hid (iv_next IVu.out hd rfl)
  replace BXv := Lib.hid (BXv.out.next hd rfl); replace IVv := Lib.hid (iv_next IVv.out hd rfl)
  replace AX0 := Lib.hid (AX0.out.next hd rfl)
  replace DW := Lib.hid (link_below DW.out hd (by have := DW.out.size; omega) rfl rfl rfl rfl)
  clear hd
  clear BZ
  have SZs := SZq; have SZt := SZr; have SZk := SZh; have SZl := SZu; have SZm := SZv
  have SZg : Hid (Sz (Int.gcd za zb : Int) 12) := sz_gcdm SZa.out SZb.out
  refine region_go W16 [.is (Value.int IntKind.i64 ze), .is (Value.int IntKind.i64 ze), .is (Value.bool false), .is (Value.bool false), .is (.agg #[.bool sq, .slice Xq pq qq]), .is (.agg #[.bool ss, .slice Xs ps qs]), .is (Value.bool true), .is (Value.bool false), .is (Value.bool false), .is (Value.bool false), .is (.agg #[.bool sr, .slice Xr pr qr]), .is (.agg #[.bool st, .slice Xt pt qt]), .is (Value.bool true), .is (Value.bool false), .is (Value.bool false), .is (Value.bool false), .is (.agg #[.bool sh, .slice Xh ph qh]), .is (.agg #[.bool su, .slice Xu pu qu]), .is (.agg #[.bool sv, .slice Xv pv qv]), .is (.agg #[.bool sk, .slice Xk pk qk]), .is (.agg #[.bool sl, .slice Xl pl ql]), .is (.agg #[.bool sm, .slice Xm pm qm]), .is (Value.bool true), .is (Value.bool false), .is (Value.bool false), .is (Value.bool false), .is (.agg #[.bool sa, .slice Xa pa qa]), .is (.agg #[.bool sb, .slice Xb pb qb]), .iv ((Int.gcd za zb : Int)), .is (.agg #[.bool sa, .slice Xa pa qa]), .is (.agg #[.bool sb, .slice Xb pb qb]), .iv ((Int.gcd za zb : Int)), .is (Value.bool true), .is (Value.bool false), .is (Value.bool false)] [some 65, some 66, some 67, some 68, some 69, some 70, some 71, some 72, some 73, some 74, some 75, some 76, some 77, some 78, some 79, some 80, some 81, some 82, some 83, some 84, some 85, some 86, some 87, some 88, some 89, some 90, some 91, some 92, some 93, some 94, some 95, some 96, some 97, some 98, some 99] (by kernel_rfl) (by kernel_rfl) (by kernel_rfl) (by kernel_rfl) (by kernel_rfl) (by rfl) (by kernel_rfl) ((Below.refl _ _).drew) (fun Q' => ?_) (fun K hK wn hs => ?_)
  · refine ⟨?_, ?_, ?_, ?_, ?_, ?_, ?_, ?_, ?_, ?_, ?_, ?_, ?_, ?_, ?_, ?_, ?_, ?_, ?_, ?_, ?_, ?_, ?_, ?_, ?_, ?_, ?_, ?_, ?_, ?_, ?_, ?_, ?_, ?_, ?_, trivial⟩
    · intro a' w' ha hs hw
      have eo12 : a'.tmps[12]? = some (Value.int IntKind.i64 ze) := (ha.rest 12 (by kernel_rfl)).trans rfl
      exact ⟨wanted_none rfl, rfl, wp_val (run_move rfl (ev_tmp eo12)) ⟨rfl, Below.refl _ _⟩⟩
    · intro a' w' ha hs hw
      have eo15 : a'.tmps[15]? = some (Value.int IntKind.i64 ze) := (ha.rest 15 (by kernel_rfl)).trans rfl
      exact ⟨wanted_none rfl, rfl, wp_val (run_move rfl (ev_tmp eo15)) ⟨rfl, Below.refl _ _⟩⟩
    · intro a' w' ha hs hw
      have e0 : a'.tmps[65]? = some (Value.int IntKind.i64 ze) := slot_get rfl rfl (hw 0 (by kernel_rfl) _ rfl)
      have e1 : a'.tmps[66]? = some (Value.int IntKind.i64 ze) := slot_get rfl rfl (hw 1 (by kernel_rfl) _ rfl)
      exact ⟨wanted_none rfl, rfl, wp_val (show _ = _ from (run_neq_int rfl (ev_tmp e0) (ev_tmp e1)).trans (by simp)) ⟨rfl, Below.refl _ _⟩⟩
    · intro a' w' ha hs hw
      have e2 : a'.tmps[67]? = some (Value.bool false) := slot_get rfl rfl (hw 2 (by kernel_rfl) _ rfl)
      exact ⟨wanted_none rfl, rfl, wp_val (run_move rfl (ev_tmp e2)) ⟨rfl, Below.refl _ _⟩⟩
    · intro a' w' ha hs hw
      have e3 : a'.tmps[68]? = some (Value.bool false) := slot_get rfl rfl (hw 3 (by kernel_rfl) _ rfl)
      have eo10 : a'.tmps[10]? = some (ptr gq) := (ha.rest 10 (by kernel_rfl)).trans rfl
      exact ⟨wanted_some rfl rfl rfl e3, rfl, wp_val (run_load rfl (ev_tmp eo10) (BXq.out.next hs rfl)) ⟨rfl, Below.refl _ _⟩⟩
    · intro a' w' ha hs hw
      have e3 : a'.tmps[68]? = some (Value.bool false) := slot_get rfl rfl (hw 3 (by kernel_rfl) _ rfl)
      have eo13 : a'.tmps[13]? = some (ptr gs) := (ha.rest 13 (by kernel_rfl)).trans rfl
      exact ⟨wanted_some rfl rfl rfl e3, rfl, wp_val (run_load rfl (ev_tmp eo13) (BXs.out.next hs rfl)) ⟨rfl, Below.refl _ _⟩⟩
    · intro a' w' ha hs hw
      have e3 : a'.tmps[68]? = some (Value.bool false) := slot_get rfl rfl (hw 3 (by kernel_rfl) _ rfl)
      have e4 : a'.tmps[69]? = some (.agg #[.bool sq, .slice Xq pq qq]) := slot_get rfl rfl (hw 4 (by kernel_rfl) _ rfl)
      have e5 : a'.tmps[70]? = some (.agg #[.bool ss, .slice Xs ps qs]) := slot_get rfl rfl (hw 5 (by kernel_rfl) _ rfl)
      exact ⟨wanted_some rfl rfl rfl e3, rfl, call_step rfl Try.func19 (by kernel_rfl) rfl (map_two (ev_tmp e4) (ev_tmp e5)) (same_true _ _ (zq) (zq) _ (iv_next IVq.out hs rfl) (iv_next IVs.out hs rfl) (SZq.out.mono (by omega)) (rfl)) (fun e w2 he => by obtain ⟨rfl, hb⟩ := he; exact ⟨_, rfl, rfl, hb⟩)⟩
    · intro a' w' ha hs hw
      have e3 : a'.tmps[68]? = some (Value.bool false) := slot_get rfl rfl (hw 3 (by kernel_rfl) _ rfl)
      have e6 : a'.tmps[71]? = some (Value.bool true) := slot_get rfl rfl (hw 6 (by kernel_rfl) _ rfl)
      exact ⟨wanted_some rfl rfl rfl e3, rfl, wp_val (run_not rfl (ev_tmp e6)) ⟨rfl, Below.refl _ _⟩⟩
    · intro a' w' ha hs hw
      have e3 : a'.tmps[68]? = some (Value.bool false) := slot_get rfl rfl (hw 3 (by kernel_rfl) _ rfl)
      have e7 : a'.tmps[72]? = some (Value.bool false) := slot_get rfl rfl (hw 7 (by kernel_rfl) _ rfl)
      exact ⟨wanted_none rfl, rfl, wp_val (run_pick (b := false) rfl (ev_tmp e3) (ev_tmp e7)) ⟨rfl, Below.refl _ _⟩⟩
    · intro a' w' ha hs hw
      have e8 : a'.tmps[73]? = some (Value.bool false) := slot_get rfl rfl (hw 8 (by kernel_rfl) _ rfl)
      exact ⟨wanted_none rfl, rfl, wp_val (run_move rfl (ev_tmp e8)) ⟨rfl, Below.refl _ _⟩⟩
    · intro a' w' ha hs hw
      have e9 : a'.tmps[74]? = some (Value.bool false) := slot_get rfl rfl (hw 9 (by kernel_rfl) _ rfl)
      have eo11 : a'.tmps[11]? = some (ptr gr) := (ha.rest 11 (by kernel_rfl)).trans rfl
      exact ⟨wanted_some rfl rfl rfl e9, rfl, wp_val (run_load rfl (ev_tmp eo11) (BXr.out.next hs rfl)) ⟨rfl, Below.refl _ _⟩⟩
    · intro a' w' ha hs hw
      have e9 : a'.tmps[74]? = some (Value.bool false) := slot_get rfl rfl (hw 9 (by kernel_rfl) _ rfl)
      have eo14 : a'.tmps[14]? = some (ptr gt) := (ha.rest 14 (by kernel_rfl)).trans rfl
      exact ⟨wanted_some rfl rfl rfl e9, rfl, wp_val (run_load rfl (ev_tmp eo14) (BXt.out.next hs rfl)) ⟨rfl, Below.refl _ _⟩⟩
    · intro a' w' ha hs hw
      have e9 : a'.tmps[74]? = some (Value.bool false) := slot_get rfl rfl (hw 9 (by kernel_rfl) _ rfl)
      have e10 : a'.tmps[75]? = some (.agg #[.bool sr, .slice Xr pr qr]) := slot_get rfl rfl (hw 10 (by kernel_rfl) _ rfl)
      have e11 : a'.tmps[76]? = some (.agg #[.bool st, .slice Xt pt qt]) := slot_get rfl rfl (hw 11 (by kernel_rfl) _ rfl)
      exact ⟨wanted_some rfl rfl rfl e9, rfl, call_step rfl Try.func19 (by kernel_rfl) rfl (map_two (ev_tmp e10) (ev_tmp e11)) (same_true _ _ (zr) (zr) _ (iv_next IVr.out hs rfl) (iv_next IVt.out hs rfl) (SZr.out.mono (by omega)) (rfl)) (fun e w2 he => by obtain ⟨rfl, hb⟩ := he; exact ⟨_, rfl, rfl, hb⟩)⟩
    · intro a' w' ha hs hw
      have e9 : a'.tmps[74]? = some (Value.bool false) := slot_get rfl rfl (hw 9 (by kernel_rfl) _ rfl)
      have e12 : a'.tmps[77]? = some (Value.bool true) := slot_get rfl rfl (hw 12 (by kernel_rfl) _ rfl)
      exact ⟨wanted_some rfl rfl rfl e9, rfl, wp_val (run_not rfl (ev_tmp e12)) ⟨rfl, Below.refl _ _⟩⟩
    · intro a' w' ha hs hw
      have e9 : a'.tmps[74]? = some (Value.bool false) := slot_get rfl rfl (hw 9 (by kernel_rfl) _ rfl)
      have e13 : a'.tmps[78]? = some (Value.bool false) := slot_get rfl rfl (hw 13 (by kernel_rfl) _ rfl)
      exact ⟨wanted_none rfl, rfl, wp_val (run_pick (b := false) rfl (ev_tmp e9) (ev_tmp e13)) ⟨rfl, Below.refl _ _⟩⟩
    · intro a' w' ha hs hw
      have e14 : a'.tmps[79]? = some (Value.bool false) := slot_get rfl rfl (hw 14 (by kernel_rfl) _ rfl)
      exact ⟨wanted_none rfl, rfl, wp_val (run_move rfl (ev_tmp e14)) ⟨rfl, Below.refl _ _⟩⟩
    · intro a' w' ha hs hw
      have e15 : a'.tmps[80]? = some (Value.bool false) := slot_get rfl rfl (hw 15 (by kernel_rfl) _ rfl)
      have eo16 : a'.tmps[16]? = some (ptr gh) := (ha.rest 16 (by kernel_rfl)).trans rfl
      exact ⟨wanted_some rfl rfl rfl e15, rfl, wp_val (run_load rfl (ev_tmp eo16) (BXh.out.next hs rfl)) ⟨rfl, Below.refl _ _⟩⟩
    · intro a' w' ha hs hw
      have e15 : a'.tmps[80]? = some (Value.bool false) := slot_get rfl rfl (hw 15 (by kernel_rfl) _ rfl)
      have eo17 : a'.tmps[17]? = some (ptr gu) := (ha.rest 17 (by kernel_rfl)).trans rfl
      exact ⟨wanted_some rfl rfl rfl e15, rfl, wp_val (run_load rfl (ev_tmp eo17) (BXu.out.next hs rfl)) ⟨rfl, Below.refl _ _⟩⟩
    · intro a' w' ha hs hw
      have e15 : a'.tmps[80]? = some (Value.bool false) := slot_get rfl rfl (hw 15 (by kernel_rfl) _ rfl)
      have eo18 : a'.tmps[18]? = some (ptr gv) := (ha.rest 18 (by kernel_rfl)).trans rfl
      exact ⟨wanted_some rfl rfl rfl e15, rfl, wp_val (run_load rfl (ev_tmp eo18) (BXv.out.next hs rfl)) ⟨rfl, Below.refl _ _⟩⟩
    · intro a' w' ha hs hw
      have e15 : a'.tmps[80]? = some (Value.bool false) := slot_get rfl rfl (hw 15 (by kernel_rfl) _ rfl)
      have eo19 : a'.tmps[19]? = some (ptr gk) := (ha.rest 19 (by kernel_rfl)).trans rfl
      exact ⟨wanted_some rfl rfl rfl e15, rfl, wp_val (run_load rfl (ev_tmp eo19) (BXk.out.next hs rfl)) ⟨rfl, Below.refl _ _⟩⟩
    · intro a' w' ha hs hw
      have e15 : a'.tmps[80]? = some (Value.bool false) := slot_get rfl rfl (hw 15 (by kernel_rfl) _ rfl)
      have eo20 : a'.tmps[20]? = some (ptr gl) := (ha.rest 20 (by kernel_rfl)).trans rfl
      exact ⟨wanted_some rfl rfl rfl e15, rfl, wp_val (run_load rfl (ev_tmp eo20) (BXl.out.next hs rfl)) ⟨rfl, Below.refl _ _⟩⟩
    · intro a' w' ha hs hw
      have e15 : a'.tmps[80]? = some (Value.bool false) := slot_get rfl rfl (hw 15 (by kernel_rfl) _ rfl)
      have eo21 : a'.tmps[21]? = some (ptr gm) := (ha.rest 21 (by kernel_rfl)).trans rfl
      exact ⟨wanted_some rfl rfl rfl e15, rfl, wp_val (run_load rfl (ev_tmp eo21) (BXm.out.next hs rfl)) ⟨rfl, Below.refl _ _⟩⟩
    · intro a' w' ha hs hw
      have e15 : a'.tmps[80]? = some (Value.bool false) := slot_get rfl rfl (hw 15 (by kernel_rfl) _ rfl)
      have e16 : a'.tmps[81]? = some (.agg #[.bool sh, .slice Xh ph qh]) := slot_get rfl rfl (hw 16 (by kernel_rfl) _ rfl)
      have e17 : a'.tmps[82]? = some (.agg #[.bool su, .slice Xu pu qu]) := slot_get rfl rfl (hw 17 (by kernel_rfl) _ rfl)
      have e18 : a'.tmps[83]? = some (.agg #[.bool sv, .slice Xv pv qv]) := slot_get rfl rfl (hw 18 (by kernel_rfl) _ rfl)
      have e19 : a'.tmps[84]? = some (.agg #[.bool sk, .slice Xk pk qk]) := slot_get rfl rfl (hw 19 (by kernel_rfl) _ rfl)
      have e20 : a'.tmps[85]? = some (.agg #[.bool sl, .slice Xl pl ql]) := slot_get rfl rfl (hw 20 (by kernel_rfl) _ rfl)
      have e21 : a'.tmps[86]? = some (.agg #[.bool sm, .slice Xm pm qm]) := slot_get rfl rfl (hw 21 (by kernel_rfl) _ rfl)
      exact ⟨wanted_some rfl rfl rfl e15, rfl, call_step rfl Try.func20 (by kernel_rfl) rfl (map_six (ev_tmp e16) (ev_tmp e17) (ev_tmp e18) (ev_tmp e19) (ev_tmp e20) (ev_tmp e21)) (same3_any _ _ _ _ _ _ zh zu zv _ (iv_next IVh.out hs rfl) (iv_next IVu.out hs rfl) (iv_next IVv.out hs rfl) (iv_next IVk.out hs rfl) (iv_next IVl.out hs rfl) (iv_next IVm.out hs rfl) (SZh.out.mono (by omega)) (SZu.out.mono (by omega)) (SZv.out.mono (by omega))) (fun e w2 he => by obtain ⟨rfl, hb⟩ := he; exact ⟨_, rfl, rfl, hb⟩)⟩
    · intro a' w' ha hs hw
      have e15 : a'.tmps[80]? = some (Value.bool false) := slot_get rfl rfl (hw 15 (by kernel_rfl) _ rfl)
      have e22 : a'.tmps[87]? = some (Value.bool true) := slot_get rfl rfl (hw 22 (by kernel_rfl) _ rfl)
      exact ⟨wanted_some rfl rfl rfl e15, rfl, wp_val (run_not rfl (ev_tmp e22)) ⟨rfl, Below.refl _ _⟩⟩
    · intro a' w' ha hs hw
      have e15 : a'.tmps[80]? = some (Value.bool false) := slot_get rfl rfl (hw 15 (by kernel_rfl) _ rfl)
      have e23 : a'.tmps[88]? = some (Value.bool false) := slot_get rfl rfl (hw 23 (by kernel_rfl) _ rfl)
      exact ⟨wanted_none rfl, rfl, wp_val (run_pick (b := false) rfl (ev_tmp e15) (ev_tmp e23)) ⟨rfl, Below.refl _ _⟩⟩
    · intro a' w' ha hs hw
      have e24 : a'.tmps[89]? = some (Value.bool false) := slot_get rfl rfl (hw 24 (by kernel_rfl) _ rfl)
      exact ⟨wanted_none rfl, rfl, wp_val (run_move rfl (ev_tmp e24)) ⟨rfl, Below.refl _ _⟩⟩
    · intro a' w' ha hs hw
      have e25 : a'.tmps[90]? = some (Value.bool false) := slot_get rfl rfl (hw 25 (by kernel_rfl) _ rfl)
      have eo8 : a'.tmps[8]? = some (ptr ga) := (ha.rest 8 (by kernel_rfl)).trans rfl
      exact ⟨wanted_some rfl rfl rfl e25, rfl, wp_val (run_load rfl (ev_tmp eo8) (BXa.out.next hs rfl)) ⟨rfl, Below.refl _ _⟩⟩
    · intro a' w' ha hs hw
      have e25 : a'.tmps[90]? = some (Value.bool false) := slot_get rfl rfl (hw 25 (by kernel_rfl) _ rfl)
      have eo9 : a'.tmps[9]? = some (ptr gb) := (ha.rest 9 (by kernel_rfl)).trans rfl
      exact ⟨wanted_some rfl rfl rfl e25, rfl, wp_val (run_load rfl (ev_tmp eo9) (BXb.out.next hs rfl)) ⟨rfl, Below.refl _ _⟩⟩
    · intro a' w' ha hs hw
      have e25 : a'.tmps[90]? = some (Value.bool false) := slot_get rfl rfl (hw 25 (by kernel_rfl) _ rfl)
      have e26 : a'.tmps[91]? = some (.agg #[.bool sa, .slice Xa pa qa]) := slot_get rfl rfl (hw 26 (by kernel_rfl) _ rfl)
      have e27 : a'.tmps[92]? = some (.agg #[.bool sb, .slice Xb pb qb]) := slot_get rfl rfl (hw 27 (by kernel_rfl) _ rfl)
      exact ⟨wanted_some rfl rfl rfl e25, rfl, call_step rfl Try.func21 (by kernel_rfl) rfl (map_two (ev_tmp e26) (ev_tmp e27)) (gcd_is _ _ za zb (Int.gcd za zb : Int) _ (iv_next IVa.out hs rfl) (iv_next IVb.out hs rfl) (SZa.out.mono (by omega)) (SZb.out.mono (by omega)) rfl) (fun e w2 he => by obtain ⟨v, rfl, hv, hb⟩ := he; exact ⟨v, rfl, v, rfl, hv, hb⟩)⟩
    · intro a' w' ha hs hw
      have e25 : a'.tmps[90]? = some (Value.bool false) := slot_get rfl rfl (hw 25 (by kernel_rfl) _ rfl)
      have eo8 : a'.tmps[8]? = some (ptr ga) := (ha.rest 8 (by kernel_rfl)).trans rfl
      exact ⟨wanted_some rfl rfl rfl e25, rfl, wp_val (run_load rfl (ev_tmp eo8) (BXa.out.next hs rfl)) ⟨rfl, Below.refl _ _⟩⟩
    · intro a' w' ha hs hw
      have e25 : a'.tmps[90]? = some (Value.bool false) := slot_get rfl rfl (hw 25 (by kernel_rfl) _ rfl)
      have eo9 : a'.tmps[9]? = some (ptr gb) := (ha.rest 9 (by kernel_rfl)).trans rfl
      exact ⟨wanted_some rfl rfl rfl e25, rfl, wp_val (run_load rfl (ev_tmp eo9) (BXb.out.next hs rfl)) ⟨rfl, Below.refl _ _⟩⟩
    · intro a' w' ha hs hw
      have e25 : a'.tmps[90]? = some (Value.bool false) := slot_get rfl rfl (hw 25 (by kernel_rfl) _ rfl)
      have e29 : a'.tmps[94]? = some (.agg #[.bool sa, .slice Xa pa qa]) := slot_get rfl rfl (hw 29 (by kernel_rfl) _ rfl)
      have e30 : a'.tmps[95]? = some (.agg #[.bool sb, .slice Xb pb qb]) := slot_get rfl rfl (hw 30 (by kernel_rfl) _ rfl)
      exact ⟨wanted_some rfl rfl rfl e25, rfl, call_step rfl Try.func22 (by kernel_rfl) rfl (map_two (ev_tmp e29) (ev_tmp e30)) (rgcd_any _ _ za zb (Int.gcd za zb : Int) _ (iv_next IVa.out hs rfl) (iv_next IVb.out hs rfl) (SZa.out.mono (by omega)) (SZb.out.mono (by omega)) rfl) (fun e w2 he => by obtain ⟨v, rfl, hv, hb⟩ := he; exact ⟨v, rfl, v, rfl, hv, hb⟩)⟩
    · intro a' w' ha hs hw
      have e25 : a'.tmps[90]? = some (Value.bool false) := slot_get rfl rfl (hw 25 (by kernel_rfl) _ rfl)
      obtain ⟨v28, e28, q28⟩ := hw 28 (by kernel_rfl) _ rfl
      replace e28 : a'.tmps[93]? = some v28 := slot_get rfl rfl e28
      obtain ⟨v31, e31, q31⟩ := hw 31 (by kernel_rfl) _ rfl
      replace e31 : a'.tmps[96]? = some v31 := slot_get rfl rfl e31
      exact ⟨wanted_some rfl rfl rfl e25, rfl, call_step rfl Try.func19 (by kernel_rfl) rfl (map_two (ev_tmp e28) (ev_tmp e31)) (same_true _ _ ((Int.gcd za zb : Int)) ((Int.gcd za zb : Int)) _ q28 q31 (SZg.out.mono (by omega)) (rfl)) (fun e w2 he => by obtain ⟨rfl, hb⟩ := he; exact ⟨_, rfl, rfl, hb⟩)⟩
    · intro a' w' ha hs hw
      have e25 : a'.tmps[90]? = some (Value.bool false) := slot_get rfl rfl (hw 25 (by kernel_rfl) _ rfl)
      have e32 : a'.tmps[97]? = some (Value.bool true) := slot_get rfl rfl (hw 32 (by kernel_rfl) _ rfl)
      exact ⟨wanted_some rfl rfl rfl e25, rfl, wp_val (run_not rfl (ev_tmp e32)) ⟨rfl, Below.refl _ _⟩⟩
    · intro a' w' ha hs hw
      have e25 : a'.tmps[90]? = some (Value.bool false) := slot_get rfl rfl (hw 25 (by kernel_rfl) _ rfl)
      have e33 : a'.tmps[98]? = some (Value.bool false) := slot_get rfl rfl (hw 33 (by kernel_rfl) _ rfl)
      exact ⟨wanted_none rfl, rfl, wp_val (run_pick (b := false) rfl (ev_tmp e25) (ev_tmp e33)) ⟨rfl, Below.refl _ _⟩⟩
  simp only [allQ]
  intro r17x28 _
  intro r17x31 _
  simp only [setOpt, List.set_cons_succ, List.set_cons_zero]
  refine hK _ _ ?_
  clear hK K
  replace BXa := Lib.hid (BXa.out.next hs rfl); replace IVa := Lib.hid (iv_next IVa.out hs rfl)
  replace BXb := Lib.hid (BXb.out.next hs rfl); replace IVb := Lib.hid (iv_next IVb.out hs rfl)
  replace BXq := Lib.hid (BXq.out.next hs rfl); replace IVq := Lib.hid (iv_next IVq.out hs rfl)
  replace BXr := Lib.hid (BXr.out.next hs rfl); replace IVr := Lib.hid (iv_next IVr.out hs rfl)
  replace BXs := Lib.hid (BXs.out.next hs rfl); replace IVs := Lib.hid (iv_next IVs.out hs rfl)
  replace BXt := Lib.hid (BXt.out.next hs rfl); replace IVt := Lib.hid (iv_next IVt.out hs rfl)
  replace BXh := Lib.hid (BXh.out.next hs rfl); replace IVh := Lib.hid (iv_next IVh.out hs rfl)
  replace BXu := Lib.hid (BXu.out.next hs rfl); replace IVu := Lib.hid (iv_next IVu.out hs rfl)
  replace BXv := Lib.hid (BXv.out.next hs rfl); replace IVv := Lib.hid (iv_next IVv.out hs rfl)
  replace BXk := Lib.hid (BXk.out.next hs rfl); replace IVk := Lib.hid (iv_next IVk.out hs rfl)
  replace BXl := Lib.hid (BXl.out.next hs rfl); replace IVl := Lib.hid (iv_next IVl.out hs rfl)
  replace BXm := Lib.hid (BXm.out.next hs rfl); replace IVm := Lib.hid (iv_next IVm.out hs rfl)
  replace AX0 := Lib.hid (AX0.out.next hs rfl)
  replace DW := Lib.hid (link_below DW.out hs (by have := DW.out.size; omega) rfl rfl rfl rfl)
  clear hs
  clear BXq IVq SZq
  clear BXr IVr SZr
  clear BXs IVs SZs
  clear BXt IVt SZt
  clear BXh IVh SZh
  clear BXu IVu SZu
  clear BXv IVv SZv
  clear BXk IVk SZk
  clear BXl IVl SZl
  clear BXm IVm SZm
  go_upto_region 12 with fail
  have SZ1 : Hid (Sz (za + zb) 13) := Sz.add SZa.out SZb.out
  have SZ2 : Hid (Sz (za - zb) 13) := Sz.sub SZa.out SZb.out
  have SZ3 : Hid (Sz (za * zb) 24) := Sz.mul SZa.out SZb.out
  refine region_go wn [.is (.agg #[.bool sa, .slice Xa pa qa]), .is (Value.bool true), .is (Value.bool false), .is (Value.bool false), .is (.agg #[.bool sa, .slice Xa pa qa]), .is (.agg #[.bool sb, .slice Xb pb qb]), .is (Value.int IntKind.i64 (cmpZ za zb)), .is (.agg #[.bool sa, .slice Xa pa qa]), .is (.agg #[.bool sb, .slice Xb pb qb]), .is (Value.int IntKind.i64 (cmpZ za zb)), .is (Value.bool false), .is (Value.bool false), .is (Value.bool false), .is (.agg #[.bool sa, .slice Xa pa qa]), .is (.agg #[.bool sb, .slice Xb pb qb]), .iv (za + zb), .is (.agg #[.bool sa, .slice Xa pa qa]), .is (.agg #[.bool sb, .slice Xb pb qb]), .iv (za + zb), .is (Value.bool true), .is (Value.bool false), .is (Value.bool false), .is (Value.bool false), .is (.agg #[.bool sa, .slice Xa pa qa]), .is (.agg #[.bool sb, .slice Xb pb qb]), .iv (za - zb), .is (.agg #[.bool sa, .slice Xa pa qa]), .is (.agg #[.bool sb, .slice Xb pb qb]), .iv (za - zb), .is (Value.bool true), .is (Value.bool false), .is (Value.bool false), .is (Value.bool false), .is (.agg #[.bool sa, .slice Xa pa qa]), .is (.agg #[.bool sb, .slice Xb pb qb]), .iv (za * zb), .is (.agg #[.bool sa, .slice Xa pa qa]), .is (.agg #[.bool sb, .slice Xb pb qb]), .iv (za * zb), .is (Value.bool true), .is (Value.bool false), .is (Value.bool false)] [some 100, some 101, some 102, some 103, some 104, some 105, some 106, some 107, some 108, some 109, some 110, some 111, some 112, some 113, some 114, some 115, some 116, some 117, some 118, some 119, some 120, some 121, some 122, some 123, some 124, some 125, some 126, some 127, some 128, some 129, some 130, some 131, some 132, some 133, some 134, some 135, some 136, some 137, some 138, some 139, some 140, some 141] (by kernel_rfl) (by kernel_rfl) (by kernel_rfl) (by kernel_rfl) (by kernel_rfl) (by rfl) (by kernel_rfl) ((Below.refl _ _).drew) (fun Q' => ?_) (fun K hK wn hs => ?_)
  · refine ⟨?_, ?_, ?_, ?_, ?_, ?_, ?_, ?_, ?_, ?_, ?_, ?_, ?_, ?_, ?_, ?_, ?_, ?_, ?_, ?_, ?_, ?_, ?_, ?_, ?_, ?_, ?_, ?_, ?_, ?_, ?_, ?_, ?_, ?_, ?_, ?_, ?_, ?_, ?_, ?_, ?_, ?_, trivial⟩
    · intro a' w' ha hs hw
      have eo8 : a'.tmps[8]? = some (ptr ga) := (ha.rest 8 (by kernel_rfl)).trans rfl
      exact ⟨wanted_none rfl, rfl, wp_val (run_load rfl (ev_tmp eo8) (BXa.out.next hs rfl)) ⟨rfl, Below.refl _ _⟩⟩
    · intro a' w' ha hs hw
      have e0 : a'.tmps[100]? = some (.agg #[.bool sa, .slice Xa pa qa]) := slot_get rfl rfl (hw 0 (by kernel_rfl) _ rfl)
      exact ⟨wanted_none rfl, rfl, call_step rfl Try.func23 (by kernel_rfl) rfl (map_one (ev_tmp e0)) (numbers_any _ za _ (iv_next IVa.out hs rfl) (SZa.out.mono (by omega))) (fun e w2 he => by obtain ⟨rfl, hb⟩ := he; exact ⟨_, rfl, rfl, hb⟩)⟩
    · intro a' w' ha hs hw
      have e1 : a'.tmps[101]? = some (Value.bool true) := slot_get rfl rfl (hw 1 (by kernel_rfl) _ rfl)
      exact ⟨wanted_none rfl, rfl, wp_val (run_not rfl (ev_tmp e1)) ⟨rfl, Below.refl _ _⟩⟩
    · intro a' w' ha hs hw
      have e2 : a'.tmps[102]? = some (Value.bool false) := slot_get rfl rfl (hw 2 (by kernel_rfl) _ rfl)
      exact ⟨wanted_none rfl, rfl, wp_val (run_move rfl (ev_tmp e2)) ⟨rfl, Below.refl _ _⟩⟩
    · intro a' w' ha hs hw
      have e3 : a'.tmps[103]? = some (Value.bool false) := slot_get rfl rfl (hw 3 (by kernel_rfl) _ rfl)
      have eo8 : a'.tmps[8]? = some (ptr ga) := (ha.rest 8 (by kernel_rfl)).trans rfl
      exact ⟨wanted_some rfl rfl rfl e3, rfl, wp_val (run_load rfl (ev_tmp eo8) (BXa.out.next hs rfl)) ⟨rfl, Below.refl _ _⟩⟩
    · intro a' w' ha hs hw
      have e3 : a'.tmps[103]? = some (Value.bool false) := slot_get rfl rfl (hw 3 (by kernel_rfl) _ rfl)
      have eo9 : a'.tmps[9]? = some (ptr gb) := (ha.rest 9 (by kernel_rfl)).trans rfl
      exact ⟨wanted_some rfl rfl rfl e3, rfl, wp_val (run_load rfl (ev_tmp eo9) (BXb.out.next hs rfl)) ⟨rfl, Below.refl _ _⟩⟩
    · intro a' w' ha hs hw
      have e3 : a'.tmps[103]? = some (Value.bool false) := slot_get rfl rfl (hw 3 (by kernel_rfl) _ rfl)
      have e4 : a'.tmps[104]? = some (.agg #[.bool sa, .slice Xa pa qa]) := slot_get rfl rfl (hw 4 (by kernel_rfl) _ rfl)
      have e5 : a'.tmps[105]? = some (.agg #[.bool sb, .slice Xb pb qb]) := slot_get rfl rfl (hw 5 (by kernel_rfl) _ rfl)
      exact ⟨wanted_some rfl rfl rfl e3, rfl, call_step rfl Try.func24 (by kernel_rfl) rfl (map_two (ev_tmp e4) (ev_tmp e5)) (cmp_any _ _ za zb _ (iv_next IVa.out hs rfl) (iv_next IVb.out hs rfl) (SZa.out.mono (by omega)) (SZb.out.mono (by omega))) (fun e w2 he => by obtain ⟨rfl, hb⟩ := he; exact ⟨_, rfl, rfl, hb⟩)⟩
    · intro a' w' ha hs hw
      have e3 : a'.tmps[103]? = some (Value.bool false) := slot_get rfl rfl (hw 3 (by kernel_rfl) _ rfl)
      have eo8 : a'.tmps[8]? = some (ptr ga) := (ha.rest 8 (by kernel_rfl)).trans rfl
      exact ⟨wanted_some rfl rfl rfl e3, rfl, wp_val (run_load rfl (ev_tmp eo8) (BXa.out.next hs rfl)) ⟨rfl, Below.refl _ _⟩⟩
    · intro a' w' ha hs hw
      have e3 : a'.tmps[103]? = some (Value.bool false) := slot_get rfl rfl (hw 3 (by kernel_rfl) _ rfl)
      have eo9 : a'.tmps[9]? = some (ptr gb) := (ha.rest 9 (by kernel_rfl)).trans rfl
      exact ⟨wanted_some rfl rfl rfl e3, rfl, wp_val (run_load rfl (ev_tmp eo9) (BXb.out.next hs rfl)) ⟨rfl, Below.refl _ _⟩⟩
    · intro a' w' ha hs hw
      have e3 : a'.tmps[103]? = some (Value.bool false) := slot_get rfl rfl (hw 3 (by kernel_rfl) _ rfl)
      have e7 : a'.tmps[107]? = some (.agg #[.bool sa, .slice Xa pa qa]) := slot_get rfl rfl (hw 7 (by kernel_rfl) _ rfl)
      have e8 : a'.tmps[108]? = some (.agg #[.bool sb, .slice Xb pb qb]) := slot_get rfl rfl (hw 8 (by kernel_rfl) _ rfl)
      exact ⟨wanted_some rfl rfl rfl e3, rfl, call_step rfl Try.func25 (by kernel_rfl) rfl (map_two (ev_tmp e7) (ev_tmp e8)) (rcmp_any _ _ za zb _ (iv_next IVa.out hs rfl) (iv_next IVb.out hs rfl) (SZa.out.mono (by omega)) (SZb.out.mono (by omega))) (fun e w2 he => by obtain ⟨rfl, hb⟩ := he; exact ⟨_, rfl, rfl, hb⟩)⟩
    · intro a' w' ha hs hw
      have e3 : a'.tmps[103]? = some (Value.bool false) := slot_get rfl rfl (hw 3 (by kernel_rfl) _ rfl)
      have e6 : a'.tmps[106]? = some (Value.int IntKind.i64 (cmpZ za zb)) := slot_get rfl rfl (hw 6 (by kernel_rfl) _ rfl)
      have e9 : a'.tmps[109]? = some (Value.int IntKind.i64 (cmpZ za zb)) := slot_get rfl rfl (hw 9 (by kernel_rfl) _ rfl)
      exact ⟨wanted_some rfl rfl rfl e3, rfl, wp_val (show _ = _ from (run_neq_int rfl (ev_tmp e6) (ev_tmp e9)).trans (by simp)) ⟨rfl, Below.refl _ _⟩⟩
    · intro a' w' ha hs hw
      have e3 : a'.tmps[103]? = some (Value.bool false) := slot_get rfl rfl (hw 3 (by kernel_rfl) _ rfl)
      have e10 : a'.tmps[110]? = some (Value.bool false) := slot_get rfl rfl (hw 10 (by kernel_rfl) _ rfl)
      exact ⟨wanted_none rfl, rfl, wp_val (run_pick (b := false) rfl (ev_tmp e3) (ev_tmp e10)) ⟨rfl, Below.refl _ _⟩⟩
    · intro a' w' ha hs hw
      have e11 : a'.tmps[111]? = some (Value.bool false) := slot_get rfl rfl (hw 11 (by kernel_rfl) _ rfl)
      exact ⟨wanted_none rfl, rfl, wp_val (run_move rfl (ev_tmp e11)) ⟨rfl, Below.refl _ _⟩⟩
    · intro a' w' ha hs hw
      have e12 : a'.tmps[112]? = some (Value.bool false) := slot_get rfl rfl (hw 12 (by kernel_rfl) _ rfl)
      have eo8 : a'.tmps[8]? = some (ptr ga) := (ha.rest 8 (by kernel_rfl)).trans rfl
      exact ⟨wanted_some rfl rfl rfl e12, rfl, wp_val (run_load rfl (ev_tmp eo8) (BXa.out.next hs rfl)) ⟨rfl, Below.refl _ _⟩⟩
    · intro a' w' ha hs hw
      have e12 : a'.tmps[112]? = some (Value.bool false) := slot_get rfl rfl (hw 12 (by kernel_rfl) _ rfl)
      have eo9 : a'.tmps[9]? = some (ptr gb) := (ha.rest 9 (by kernel_rfl)).trans rfl
      exact ⟨wanted_some rfl rfl rfl e12, rfl, wp_val (run_load rfl (ev_tmp eo9) (BXb.out.next hs rfl)) ⟨rfl, Below.refl _ _⟩⟩
    · intro a' w' ha hs hw
      have e12 : a'.tmps[112]? = some (Value.bool false) := slot_get rfl rfl (hw 12 (by kernel_rfl) _ rfl)
      have e13 : a'.tmps[113]? = some (.agg #[.bool sa, .slice Xa pa qa]) := slot_get rfl rfl (hw 13 (by kernel_rfl) _ rfl)
      have e14 : a'.tmps[114]? = some (.agg #[.bool sb, .slice Xb pb qb]) := slot_get rfl rfl (hw 14 (by kernel_rfl) _ rfl)
      exact ⟨wanted_some rfl rfl rfl e12, rfl, call_step rfl Try.func26 (by kernel_rfl) rfl (map_two (ev_tmp e13) (ev_tmp e14)) (add_any _ _ za zb _ (iv_next IVa.out hs rfl) (iv_next IVb.out hs rfl) (SZa.out.mono (by omega)) (SZb.out.mono (by omega))) (fun e w2 he => by obtain ⟨v, rfl, hv, hb⟩ := he; exact ⟨v, rfl, v, rfl, hv, hb⟩)⟩
    · intro a' w' ha hs hw
      have e12 : a'.tmps[112]? = some (Value.bool false) := slot_get rfl rfl (hw 12 (by kernel_rfl) _ rfl)
      have eo8 : a'.tmps[8]? = some (ptr ga) := (ha.rest 8 (by kernel_rfl)).trans rfl
      exact ⟨wanted_some rfl rfl rfl e12, rfl, wp_val (run_load rfl (ev_tmp eo8) (BXa.out.next hs rfl)) ⟨rfl, Below.refl _ _⟩⟩
    · intro a' w' ha hs hw
      have e12 : a'.tmps[112]? = some (Value.bool false) := slot_get rfl rfl (hw 12 (by kernel_rfl) _ rfl)
      have eo9 : a'.tmps[9]? = some (ptr gb) := (ha.rest 9 (by kernel_rfl)).trans rfl
      exact ⟨wanted_some rfl rfl rfl e12, rfl, wp_val (run_load rfl (ev_tmp eo9) (BXb.out.next hs rfl)) ⟨rfl, Below.refl _ _⟩⟩
    · intro a' w' ha hs hw
      have e12 : a'.tmps[112]? = some (Value.bool false) := slot_get rfl rfl (hw 12 (by kernel_rfl) _ rfl)
      have e16 : a'.tmps[116]? = some (.agg #[.bool sa, .slice Xa pa qa]) := slot_get rfl rfl (hw 16 (by kernel_rfl) _ rfl)
      have e17 : a'.tmps[117]? = some (.agg #[.bool sb, .slice Xb pb qb]) := slot_get rfl rfl (hw 17 (by kernel_rfl) _ rfl)
      exact ⟨wanted_some rfl rfl rfl e12, rfl, call_step rfl Try.func27 (by kernel_rfl) rfl (map_two (ev_tmp e16) (ev_tmp e17)) (radd_any _ _ za zb _ (iv_next IVa.out hs rfl) (iv_next IVb.out hs rfl) (SZa.out.mono (by omega)) (SZb.out.mono (by omega))) (fun e w2 he => by obtain ⟨v, rfl, hv, hb⟩ := he; exact ⟨v, rfl, v, rfl, hv, hb⟩)⟩
    · intro a' w' ha hs hw
      have e12 : a'.tmps[112]? = some (Value.bool false) := slot_get rfl rfl (hw 12 (by kernel_rfl) _ rfl)
      obtain ⟨v15, e15, q15⟩ := hw 15 (by kernel_rfl) _ rfl
      replace e15 : a'.tmps[115]? = some v15 := slot_get rfl rfl e15
      obtain ⟨v18, e18, q18⟩ := hw 18 (by kernel_rfl) _ rfl
      replace e18 : a'.tmps[118]? = some v18 := slot_get rfl rfl e18
      exact ⟨wanted_some rfl rfl rfl e12, rfl, call_step rfl Try.func19 (by kernel_rfl) rfl (map_two (ev_tmp e15) (ev_tmp e18)) (same_true _ _ (za + zb) (za + zb) _ q15 q18 (SZ1.out.mono (by omega)) (rfl)) (fun e w2 he => by obtain ⟨rfl, hb⟩ := he; exact ⟨_, rfl, rfl, hb⟩)⟩
    · intro a' w' ha hs hw
      have e12 : a'.tmps[112]? = some (Value.bool false) := slot_get rfl rfl (hw 12 (by kernel_rfl) _ rfl)
      have e19 : a'.tmps[119]? = some (Value.bool true) := slot_get rfl rfl (hw 19 (by kernel_rfl) _ rfl)
      exact ⟨wanted_some rfl rfl rfl e12, rfl, wp_val (run_not rfl (ev_tmp e19)) ⟨rfl, Below.refl _ _⟩⟩
    · intro a' w' ha hs hw
      have e12 : a'.tmps[112]? = some (Value.bool false) := slot_get rfl rfl (hw 12 (by kernel_rfl) _ rfl)
      have e20 : a'.tmps[120]? = some (Value.bool false) := slot_get rfl rfl (hw 20 (by kernel_rfl) _ rfl)
      exact ⟨wanted_none rfl, rfl, wp_val (run_pick (b := false) rfl (ev_tmp e12) (ev_tmp e20)) ⟨rfl, Below.refl _ _⟩⟩
    · intro a' w' ha hs hw
      have e21 : a'.tmps[121]? = some (Value.bool false) := slot_get rfl rfl (hw 21 (by kernel_rfl) _ rfl)
      exact ⟨wanted_none rfl, rfl, wp_val (run_move rfl (ev_tmp e21)) ⟨rfl, Below.refl _ _⟩⟩
    · intro a' w' ha hs hw
      have e22 : a'.tmps[122]? = some (Value.bool false) := slot_get rfl rfl (hw 22 (by kernel_rfl) _ rfl)
      have eo8 : a'.tmps[8]? = some (ptr ga) := (ha.rest 8 (by kernel_rfl)).trans rfl
      exact ⟨wanted_some rfl rfl rfl e22, rfl, wp_val (run_load rfl (ev_tmp eo8) (BXa.out.next hs rfl)) ⟨rfl, Below.refl _ _⟩⟩
    · intro a' w' ha hs hw
      have e22 : a'.tmps[122]? = some (Value.bool false) := slot_get rfl rfl (hw 22 (by kernel_rfl) _ rfl)
      have eo9 : a'.tmps[9]? = some (ptr gb) := (ha.rest 9 (by kernel_rfl)).trans rfl
      exact ⟨wanted_some rfl rfl rfl e22, rfl, wp_val (run_load rfl (ev_tmp eo9) (BXb.out.next hs rfl)) ⟨rfl, Below.refl _ _⟩⟩
    · intro a' w' ha hs hw
      have e22 : a'.tmps[122]? = some (Value.bool false) := slot_get rfl rfl (hw 22 (by kernel_rfl) _ rfl)
      have e23 : a'.tmps[123]? = some (.agg #[.bool sa, .slice Xa pa qa]) := slot_get rfl rfl (hw 23 (by kernel_rfl) _ rfl)
      have e24 : a'.tmps[124]? = some (.agg #[.bool sb, .slice Xb pb qb]) := slot_get rfl rfl (hw 24 (by kernel_rfl) _ rfl)
      exact ⟨wanted_some rfl rfl rfl e22, rfl, call_step rfl Try.func28 (by kernel_rfl) rfl (map_two (ev_tmp e23) (ev_tmp e24)) (sub_any _ _ za zb _ (iv_next IVa.out hs rfl) (iv_next IVb.out hs rfl) (SZa.out.mono (by omega)) (SZb.out.mono (by omega))) (fun e w2 he => by obtain ⟨v, rfl, hv, hb⟩ := he; exact ⟨v, rfl, v, rfl, hv, hb⟩)⟩
    · intro a' w' ha hs hw
      have e22 : a'.tmps[122]? = some (Value.bool false) := slot_get rfl rfl (hw 22 (by kernel_rfl) _ rfl)
      have eo8 : a'.tmps[8]? = some (ptr ga) := (ha.rest 8 (by kernel_rfl)).trans rfl
      exact ⟨wanted_some rfl rfl rfl e22, rfl, wp_val (run_load rfl (ev_tmp eo8) (BXa.out.next hs rfl)) ⟨rfl, Below.refl _ _⟩⟩
    · intro a' w' ha hs hw
      have e22 : a'.tmps[122]? = some (Value.bool false) := slot_get rfl rfl (hw 22 (by kernel_rfl) _ rfl)
      have eo9 : a'.tmps[9]? = some (ptr gb) := (ha.rest 9 (by kernel_rfl)).trans rfl
      exact ⟨wanted_some rfl rfl rfl e22, rfl, wp_val (run_load rfl (ev_tmp eo9) (BXb.out.next hs rfl)) ⟨rfl, Below.refl _ _⟩⟩
    · intro a' w' ha hs hw
      have e22 : a'.tmps[122]? = some (Value.bool false) := slot_get rfl rfl (hw 22 (by kernel_rfl) _ rfl)
      have e26 : a'.tmps[126]? = some (.agg #[.bool sa, .slice Xa pa qa]) := slot_get rfl rfl (hw 26 (by kernel_rfl) _ rfl)
      have e27 : a'.tmps[127]? = some (.agg #[.bool sb, .slice Xb pb qb]) := slot_get rfl rfl (hw 27 (by kernel_rfl) _ rfl)
      exact ⟨wanted_some rfl rfl rfl e22, rfl, call_step rfl Try.func29 (by kernel_rfl) rfl (map_two (ev_tmp e26) (ev_tmp e27)) (rsub_any _ _ za zb _ (iv_next IVa.out hs rfl) (iv_next IVb.out hs rfl) (SZa.out.mono (by omega)) (SZb.out.mono (by omega))) (fun e w2 he => by obtain ⟨v, rfl, hv, hb⟩ := he; exact ⟨v, rfl, v, rfl, hv, hb⟩)⟩
    · intro a' w' ha hs hw
      have e22 : a'.tmps[122]? = some (Value.bool false) := slot_get rfl rfl (hw 22 (by kernel_rfl) _ rfl)
      obtain ⟨v25, e25, q25⟩ := hw 25 (by kernel_rfl) _ rfl
      replace e25 : a'.tmps[125]? = some v25 := slot_get rfl rfl e25
      obtain ⟨v28, e28, q28⟩ := hw 28 (by kernel_rfl) _ rfl
      replace e28 : a'.tmps[128]? = some v28 := slot_get rfl rfl e28
      exact ⟨wanted_some rfl rfl rfl e22, rfl, call_step rfl Try.func19 (by kernel_rfl) rfl (map_two (ev_tmp e25) (ev_tmp e28)) (same_true _ _ (za - zb) (za - zb) _ q25 q28 (SZ2.out.mono (by omega)) (rfl)) (fun e w2 he => by obtain ⟨rfl, hb⟩ := he; exact ⟨_, rfl, rfl, hb⟩)⟩
    · intro a' w' ha hs hw
      have e22 : a'.tmps[122]? = some (Value.bool false) := slot_get rfl rfl (hw 22 (by kernel_rfl) _ rfl)
      have e29 : a'.tmps[129]? = some (Value.bool true) := slot_get rfl rfl (hw 29 (by kernel_rfl) _ rfl)
      exact ⟨wanted_some rfl rfl rfl e22, rfl, wp_val (run_not rfl (ev_tmp e29)) ⟨rfl, Below.refl _ _⟩⟩
    · intro a' w' ha hs hw
      have e22 : a'.tmps[122]? = some (Value.bool false) := slot_get rfl rfl (hw 22 (by kernel_rfl) _ rfl)
      have e30 : a'.tmps[130]? = some (Value.bool false) := slot_get rfl rfl (hw 30 (by kernel_rfl) _ rfl)
      exact ⟨wanted_none rfl, rfl, wp_val (run_pick (b := false) rfl (ev_tmp e22) (ev_tmp e30)) ⟨rfl, Below.refl _ _⟩⟩
    · intro a' w' ha hs hw
      have e31 : a'.tmps[131]? = some (Value.bool false) := slot_get rfl rfl (hw 31 (by kernel_rfl) _ rfl)
      exact ⟨wanted_none rfl, rfl, wp_val (run_move rfl (ev_tmp e31)) ⟨rfl, Below.refl _ _⟩⟩
    · intro a' w' ha hs hw
      have e32 : a'.tmps[132]? = some (Value.bool false) := slot_get rfl rfl (hw 32 (by kernel_rfl) _ rfl)
      have eo8 : a'.tmps[8]? = some (ptr ga) := (ha.rest 8 (by kernel_rfl)).trans rfl
      exact ⟨wanted_some rfl rfl rfl e32, rfl, wp_val (run_load rfl (ev_tmp eo8) (BXa.out.next hs rfl)) ⟨rfl, Below.refl _ _⟩⟩
    · intro a' w' ha hs hw
      have e32 : a'.tmps[132]? = some (Value.bool false) := slot_get rfl rfl (hw 32 (by kernel_rfl) _ rfl)
      have eo9 : a'.tmps[9]? = some (ptr gb) := (ha.rest 9 (by kernel_rfl)).trans rfl
      exact ⟨wanted_some rfl rfl rfl e32, rfl, wp_val (run_load rfl (ev_tmp eo9) (BXb.out.next hs rfl)) ⟨rfl, Below.refl _ _⟩⟩
    · intro a' w' ha hs hw
      have e32 : a'.tmps[132]? = some (Value.bool false) := slot_get rfl rfl (hw 32 (by kernel_rfl) _ rfl)
      have e33 : a'.tmps[133]? = some (.agg #[.bool sa, .slice Xa pa qa]) := slot_get rfl rfl (hw 33 (by kernel_rfl) _ rfl)
      have e34 : a'.tmps[134]? = some (.agg #[.bool sb, .slice Xb pb qb]) := slot_get rfl rfl (hw 34 (by kernel_rfl) _ rfl)
      exact ⟨wanted_some rfl rfl rfl e32, rfl, call_step rfl Try.func30 (by kernel_rfl) rfl (map_two (ev_tmp e33) (ev_tmp e34)) (mul_any _ _ za zb _ (iv_next IVa.out hs rfl) (iv_next IVb.out hs rfl) (SZa.out.mono (by omega)) (SZb.out.mono (by omega))) (fun e w2 he => by obtain ⟨v, rfl, hv, hb⟩ := he; exact ⟨v, rfl, v, rfl, hv, hb⟩)⟩
    · intro a' w' ha hs hw
      have e32 : a'.tmps[132]? = some (Value.bool false) := slot_get rfl rfl (hw 32 (by kernel_rfl) _ rfl)
      have eo8 : a'.tmps[8]? = some (ptr ga) := (ha.rest 8 (by kernel_rfl)).trans rfl
      exact ⟨wanted_some rfl rfl rfl e32, rfl, wp_val (run_load rfl (ev_tmp eo8) (BXa.out.next hs rfl)) ⟨rfl, Below.refl _ _⟩⟩
    · intro a' w' ha hs hw
      have e32 : a'.tmps[132]? = some (Value.bool false) := slot_get rfl rfl (hw 32 (by kernel_rfl) _ rfl)
      have eo9 : a'.tmps[9]? = some (ptr gb) := (ha.rest 9 (by kernel_rfl)).trans rfl
      exact ⟨wanted_some rfl rfl rfl e32, rfl, wp_val (run_load rfl (ev_tmp eo9) (BXb.out.next hs rfl)) ⟨rfl, Below.refl _ _⟩⟩
    · intro a' w' ha hs hw
      have e32 : a'.tmps[132]? = some (Value.bool false) := slot_get rfl rfl (hw 32 (by kernel_rfl) _ rfl)
      have e36 : a'.tmps[136]? = some (.agg #[.bool sa, .slice Xa pa qa]) := slot_get rfl rfl (hw 36 (by kernel_rfl) _ rfl)
      have e37 : a'.tmps[137]? = some (.agg #[.bool sb, .slice Xb pb qb]) := slot_get rfl rfl (hw 37 (by kernel_rfl) _ rfl)
      exact ⟨wanted_some rfl rfl rfl e32, rfl, call_step rfl Try.func31 (by kernel_rfl) rfl (map_two (ev_tmp e36) (ev_tmp e37)) (rmul_any _ _ za zb _ (iv_next IVa.out hs rfl) (iv_next IVb.out hs rfl) (SZa.out.mono (by omega)) (SZb.out.mono (by omega))) (fun e w2 he => by obtain ⟨v, rfl, hv, hb⟩ := he; exact ⟨v, rfl, v, rfl, hv, hb⟩)⟩
    · intro a' w' ha hs hw
      have e32 : a'.tmps[132]? = some (Value.bool false) := slot_get rfl rfl (hw 32 (by kernel_rfl) _ rfl)
      obtain ⟨v35, e35, q35⟩ := hw 35 (by kernel_rfl) _ rfl
      replace e35 : a'.tmps[135]? = some v35 := slot_get rfl rfl e35
      obtain ⟨v38, e38, q38⟩ := hw 38 (by kernel_rfl) _ rfl
      replace e38 : a'.tmps[138]? = some v38 := slot_get rfl rfl e38
      exact ⟨wanted_some rfl rfl rfl e32, rfl, call_step rfl Try.func19 (by kernel_rfl) rfl (map_two (ev_tmp e35) (ev_tmp e38)) (same_true _ _ (za * zb) (za * zb) _ q35 q38 (SZ3.out.mono (by omega)) (rfl)) (fun e w2 he => by obtain ⟨rfl, hb⟩ := he; exact ⟨_, rfl, rfl, hb⟩)⟩
    · intro a' w' ha hs hw
      have e32 : a'.tmps[132]? = some (Value.bool false) := slot_get rfl rfl (hw 32 (by kernel_rfl) _ rfl)
      have e39 : a'.tmps[139]? = some (Value.bool true) := slot_get rfl rfl (hw 39 (by kernel_rfl) _ rfl)
      exact ⟨wanted_some rfl rfl rfl e32, rfl, wp_val (run_not rfl (ev_tmp e39)) ⟨rfl, Below.refl _ _⟩⟩
    · intro a' w' ha hs hw
      have e32 : a'.tmps[132]? = some (Value.bool false) := slot_get rfl rfl (hw 32 (by kernel_rfl) _ rfl)
      have e40 : a'.tmps[140]? = some (Value.bool false) := slot_get rfl rfl (hw 40 (by kernel_rfl) _ rfl)
      exact ⟨wanted_none rfl, rfl, wp_val (run_pick (b := false) rfl (ev_tmp e32) (ev_tmp e40)) ⟨rfl, Below.refl _ _⟩⟩
  simp only [allQ]
  intro r18x15 _
  intro r18x18 _
  intro r18x25 _
  intro r18x28 _
  intro r18x35 _
  intro r18x38 _
  simp only [setOpt, List.set_cons_succ, List.set_cons_zero]
  refine hK _ _ ?_
  clear hK K
  replace BXa := Lib.hid (BXa.out.next hs rfl); replace IVa := Lib.hid (iv_next IVa.out hs rfl)
  replace BXb := Lib.hid (BXb.out.next hs rfl); replace IVb := Lib.hid (iv_next IVb.out hs rfl)
  replace AX0 := Lib.hid (AX0.out.next hs rfl)
  replace DW := Lib.hid (link_below DW.out hs (by have := DW.out.size; omega) rfl rfl rfl rfl)
  clear hs
  clear SZ1 SZ2 SZ3
  go_upto_region 14 with fail
  have hx1 := HXY.out.1.1; have hx2 := HXY.out.1.2; have hy1 := HXY.out.2.1; have hy2 := HXY.out.2.2
  have v0 := AX0.out.cell 0; have v1 := AX0.out.cell 1
  simp at v0 v1
  obtain ⟨zo, zn, hrt⟩ := root_both (n := y) SZa.out hy2
  have RT := Lib.hid hrt
  clear hrt
  by_cases hx : x < 0
  · obtain ⟨zp, zc, hpw⟩ := pow_both (a := za) (n := x) SZa.out hx1 hx2 (.inl hx)
    have PW := Lib.hid hpw
    clear hpw
    go_region
    obtain ⟨WD, hWD⟩ : ∃ W', W' = wn.drew := ⟨_, rfl⟩
    rw [← hWD]
    have hd : Below wn.heap.size wn WD := by rw [hWD]; exact (Below.refl _ _).drew
    clear hWD v0 v1 hx
    replace BXa := Lib.hid (BXa.out.next hd rfl); replace IVa := Lib.hid (iv_next IVa.out hd rfl)
    replace BXb := Lib.hid (BXb.out.next hd rfl); replace IVb := Lib.hid (iv_next IVb.out hd rfl)
    replace AX0 := Lib.hid (AX0.out.next hd rfl)
    replace DW := Lib.hid (link_below DW.out hd (by have := DW.out.size; omega) rfl rfl rfl rfl)
    clear hd
    have SZp := Lib.hid PW.out.sz
    have w19aa := BXa.out.cell0; have w19ab := BXa.out.cell1
    have v0 := AX0.out.cell 0
    simp at v0
    go_wp2_with fail
    clear v0 w19aa w19ab
    refine (PW.out.i _ _ IVa.out).mono ?_
    rintro e y20 ⟨_, rfl, hq, hb⟩
    obtain ⟨Xp, pp, qp, rfl, _, _, _⟩ := hq.form
    have Q := Lib.hid hq; have B := Lib.hid hb; clear hq hb
    generalize hs : decide ((zp : Int) < 0) = sp at *
    clear hs
    go_upto_region 16 with fail
    obtain ⟨W21, hW⟩ : ∃ W21, W21 = y20.alloc (Obj.cells #[Value.bool sp, Value.slice Xp pp qp] 27) := ⟨_, rfl⟩
    rw [← hW]
    have BXp : Hid (Box W21 y20.heap.size sp (.slice Xp pp qp)) := by rw [hW]; exact Box.new _ _ _
    have IVp : Hid (Iv W21 (.agg #[.bool sp, .slice Xp pp qp]) (zp)) := by rw [hW]; exact Q.out.alloc _
    have hd : Below WD.heap.size WD W21 := by rw [hW]; exact B.out.alloc B.out.size _
    clear hW Q B
    generalize hgn : y20.heap.size = gp at *
    clear hgn
    replace BXa := Lib.hid (BXa.out.next hd rfl); replace IVa := Lib.hid (iv_next IVa.out hd rfl)
    replace BXb := Lib.hid (BXb.out.next hd rfl); replace IVb := Lib.hid (iv_next IVb.out hd rfl)
    replace AX0 := Lib.hid (AX0.out.next hd rfl)
    replace DW := Lib.hid (link_below DW.out hd (by have := DW.out.size; omega) rfl rfl rfl rfl)
    clear hd
    have w22aa := BXa.out.cell0; have w22ab := BXa.out.cell1
    have v0 := AX0.out.cell 0
    simp at v0
    go_wp2_with fail
    clear v0 w22aa w22ab
    refine (PW.out.r _ _ IVa.out).mono ?_
    rintro e y23 ⟨_, rfl, hq, hb⟩
    obtain ⟨Xf, pf, qf, rfl, _, _, _⟩ := hq.form
    have Q := Lib.hid hq; have B := Lib.hid hb; clear hq hb
    generalize hs : decide ((zp : Int) < 0) = sf at *
    clear hs
    go_upto_region 17 with fail
    obtain ⟨W24, hW⟩ : ∃ W24, W24 = y23.alloc (Obj.cells #[Value.bool sf, Value.slice Xf pf qf] 27) := ⟨_, rfl⟩
    rw [← hW]
    have BXf : Hid (Box W24 y23.heap.size sf (.slice Xf pf qf)) := by rw [hW]; exact Box.new _ _ _
    have IVf : Hid (Iv W24 (.agg #[.bool sf, .slice Xf pf qf]) (zp)) := by rw [hW]; exact Q.out.alloc _
    have hd : Below W21.heap.size W21 W24 := by rw [hW]; exact B.out.alloc B.out.size _
    clear hW Q B
    generalize hgn : y23.heap.size = gf at *
    clear hgn
    replace BXa := Lib.hid (BXa.out.next hd rfl); replace IVa := Lib.hid (iv_next IVa.out hd rfl)
    replace BXb := Lib.hid (BXb.out.next hd rfl); replace IVb := Lib.hid (iv_next IVb.out hd rfl)
    replace BXp := Lib.hid (BXp.out.next hd rfl); replace IVp := Lib.hid (iv_next IVp.out hd rfl)
    replace AX0 := Lib.hid (AX0.out.next hd rfl)
    replace DW := Lib.hid (link_below DW.out hd (by have := DW.out.size; omega) rfl rfl rfl rfl)
    clear hd
    have w25pa := BXp.out.cell0; have w25pb := BXp.out.cell1; have w25fa := BXf.out.cell0; have w25fb := BXf.out.cell1
    go_wp2_with fail
    clear w25pa w25pb w25fa w25fb
    refine (same_true _ _ zp zp _ IVp.out IVf.out (SZp.out.mono (by omega)) rfl).mono ?_
    rintro e y26 ⟨rfl, hb⟩
    replace BXa := Lib.hid (BXa.out.next hb rfl); replace IVa := Lib.hid (iv_next IVa.out hb rfl)
    replace BXb := Lib.hid (BXb.out.next hb rfl); replace IVb := Lib.hid (iv_next IVb.out hb rfl)
    replace BXp := Lib.hid (BXp.out.next hb rfl); replace IVp := Lib.hid (iv_next IVp.out hb rfl)
    replace BXf := Lib.hid (BXf.out.next hb rfl); replace IVf := Lib.hid (iv_next IVf.out hb rfl)
    replace AX0 := Lib.hid (AX0.out.next hb rfl)
    replace DW := Lib.hid (link_below DW.out hb (by have := DW.out.size; omega) rfl rfl rfl rfl)
    clear hb
    clear BXp IVp
    clear BXf IVf
    go_upto_region 19 with fail
    have SZn := Lib.hid RT.out.sz
    have w27aa := BXa.out.cell0; have w27ab := BXa.out.cell1
    have v0 := AX0.out.cell 1
    simp at v0
    go_wp2_with fail
    clear v0 w27aa w27ab
    refine (RT.out.i _ _ IVa.out).mono ?_
    rintro e y28 ⟨_, rfl, hq, hb⟩
    obtain ⟨Xn, pn, qn, rfl, _, _, _⟩ := hq.form
    have Q := Lib.hid hq; have B := Lib.hid hb; clear hq hb
    generalize hs : decide ((zo : Int) < 0) = sn at *
    clear hs
    go_upto_region 20 with fail
    obtain ⟨W29, hW⟩ : ∃ W29, W29 = y28.alloc (Obj.cells #[Value.bool sn, Value.slice Xn pn qn] 27) := ⟨_, rfl⟩
    rw [← hW]
    have BXn : Hid (Box W29 y28.heap.size sn (.slice Xn pn qn)) := by rw [hW]; exact Box.new _ _ _
    have IVn : Hid (Iv W29 (.agg #[.bool sn, .slice Xn pn qn]) (zo)) := by rw [hW]; exact Q.out.alloc _
    have hd : Below y26.heap.size y26 W29 := by rw [hW]; exact B.out.alloc B.out.size _
    clear hW Q B
    generalize hgn : y28.heap.size = gn at *
    clear hgn
    replace BXa := Lib.hid (BXa.out.next hd rfl); replace IVa := Lib.hid (iv_next IVa.out hd rfl)
    replace BXb := Lib.hid (BXb.out.next hd rfl); replace IVb := Lib.hid (iv_next IVb.out hd rfl)
    replace AX0 := Lib.hid (AX0.out.next hd rfl)
    replace DW := Lib.hid (link_below DW.out hd (by have := DW.out.size; omega) rfl rfl rfl rfl)
    clear hd
    have w30aa := BXa.out.cell0; have w30ab := BXa.out.cell1
    have v0 := AX0.out.cell 1
    simp at v0
    go_wp2_with fail
    clear v0 w30aa w30ab
    refine (RT.out.r _ _ IVa.out).mono ?_
    rintro e y31 ⟨_, rfl, hq, hb⟩
    obtain ⟨Xo, po, qo, rfl, _, _, _⟩ := hq.form
    have Q := Lib.hid hq; have B := Lib.hid hb; clear hq hb
    generalize hs : decide ((zo : Int) < 0) = so at *
    clear hs
    go_upto_region 21 with fail
    obtain ⟨W32, hW⟩ : ∃ W32, W32 = y31.alloc (Obj.cells #[Value.bool so, Value.slice Xo po qo] 27) := ⟨_, rfl⟩
    rw [← hW]
    have BXo : Hid (Box W32 y31.heap.size so (.slice Xo po qo)) := by rw [hW]; exact Box.new _ _ _
    have IVo : Hid (Iv W32 (.agg #[.bool so, .slice Xo po qo]) (zo)) := by rw [hW]; exact Q.out.alloc _
    have hd : Below W29.heap.size W29 W32 := by rw [hW]; exact B.out.alloc B.out.size _
    clear hW Q B
    generalize hgn : y31.heap.size = go at *
    clear hgn
    replace BXa := Lib.hid (BXa.out.next hd rfl); replace IVa := Lib.hid (iv_next IVa.out hd rfl)
    replace BXb := Lib.hid (BXb.out.next hd rfl); replace IVb := Lib.hid (iv_next IVb.out hd rfl)
    replace BXn := Lib.hid (BXn.out.next hd rfl); replace IVn := Lib.hid (iv_next IVn.out hd rfl)
    replace AX0 := Lib.hid (AX0.out.next hd rfl)
    replace DW := Lib.hid (link_below DW.out hd (by have := DW.out.size; omega) rfl rfl rfl rfl)
    clear hd
    have w33na := BXn.out.cell0; have w33nb := BXn.out.cell1; have w33oa := BXo.out.cell0; have w33ob := BXo.out.cell1
    go_wp2_with fail
    clear w33na w33nb w33oa w33ob
    refine (same_true _ _ zo zo _ IVn.out IVo.out (SZn.out.mono (by omega)) rfl).mono ?_
    rintro e y34 ⟨rfl, hb⟩
    replace BXa := Lib.hid (BXa.out.next hb rfl); replace IVa := Lib.hid (iv_next IVa.out hb rfl)
    replace BXb := Lib.hid (BXb.out.next hb rfl); replace IVb := Lib.hid (iv_next IVb.out hb rfl)
    replace BXn := Lib.hid (BXn.out.next hb rfl); replace IVn := Lib.hid (iv_next IVn.out hb rfl)
    replace BXo := Lib.hid (BXo.out.next hb rfl); replace IVo := Lib.hid (iv_next IVo.out hb rfl)
    replace AX0 := Lib.hid (AX0.out.next hb rfl)
    replace DW := Lib.hid (link_below DW.out hb (by have := DW.out.size; omega) rfl rfl rfl rfl)
    clear hb
    go_wp2
    go_ret
    exact ⟨by simp, by rw [hg]; exact DW.out⟩
  · by_cases hx4 : 4096 < x
    · obtain ⟨zp, zc, hpw⟩ := pow_both (a := za) (n := x) SZa.out hx1 hx2 (.inr (.inl hx4))
      have PW := Lib.hid hpw
      clear hpw
      have hx0' : decide (x < 0) = false := by rw [decide_eq_false_iff_not]; omega
      go_region
      obtain ⟨WD, hWD⟩ : ∃ W', W' = wn.drew := ⟨_, rfl⟩
      rw [← hWD]
      have hd : Below wn.heap.size wn WD := by rw [hWD]; exact (Below.refl _ _).drew
      clear hWD v0 v1 hx0' hx hx4
      replace BXa := Lib.hid (BXa.out.next hd rfl); replace IVa := Lib.hid (iv_next IVa.out hd rfl)
      replace BXb := Lib.hid (BXb.out.next hd rfl); replace IVb := Lib.hid (iv_next IVb.out hd rfl)
      replace AX0 := Lib.hid (AX0.out.next hd rfl)
      replace DW := Lib.hid (link_below DW.out hd (by have := DW.out.size; omega) rfl rfl rfl rfl)
      clear hd
      have SZp := Lib.hid PW.out.sz
      have w19aa := BXa.out.cell0; have w19ab := BXa.out.cell1
      have v0 := AX0.out.cell 0
      simp at v0
      go_wp2_with fail
      clear v0 w19aa w19ab
      refine (PW.out.i _ _ IVa.out).mono ?_
      rintro e y20 ⟨_, rfl, hq, hb⟩
      obtain ⟨Xp, pp, qp, rfl, _, _, _⟩ := hq.form
      have Q := Lib.hid hq; have B := Lib.hid hb; clear hq hb
      generalize hs : decide ((zp : Int) < 0) = sp at *
      clear hs
      go_upto_region 16 with fail
      obtain ⟨W21, hW⟩ : ∃ W21, W21 = y20.alloc (Obj.cells #[Value.bool sp, Value.slice Xp pp qp] 27) := ⟨_, rfl⟩
      rw [← hW]
      have BXp : Hid (Box W21 y20.heap.size sp (.slice Xp pp qp)) := by rw [hW]; exact Box.new _ _ _
      have IVp : Hid (Iv W21 (.agg #[.bool sp, .slice Xp pp qp]) (zp)) := by rw [hW]; exact Q.out.alloc _
      have hd : Below WD.heap.size WD W21 := by rw [hW]; exact B.out.alloc B.out.size _
      clear hW Q B
      generalize hgn : y20.heap.size = gp at *
      clear hgn
      replace BXa := Lib.hid (BXa.out.next hd rfl); replace IVa := Lib.hid (iv_next IVa.out hd rfl)
      replace BXb := Lib.hid (BXb.out.next hd rfl); replace IVb := Lib.hid (iv_next IVb.out hd rfl)
      replace AX0 := Lib.hid (AX0.out.next hd rfl)
      replace DW := Lib.hid (link_below DW.out hd (by have := DW.out.size; omega) rfl rfl rfl rfl)
      clear hd
      have w22aa := BXa.out.cell0; have w22ab := BXa.out.cell1
      have v0 := AX0.out.cell 0
      simp at v0
      go_wp2_with fail
      clear v0 w22aa w22ab
      refine (PW.out.r _ _ IVa.out).mono ?_
      rintro e y23 ⟨_, rfl, hq, hb⟩
      obtain ⟨Xf, pf, qf, rfl, _, _, _⟩ := hq.form
      have Q := Lib.hid hq; have B := Lib.hid hb; clear hq hb
      generalize hs : decide ((zp : Int) < 0) = sf at *
      clear hs
      go_upto_region 17 with fail
      obtain ⟨W24, hW⟩ : ∃ W24, W24 = y23.alloc (Obj.cells #[Value.bool sf, Value.slice Xf pf qf] 27) := ⟨_, rfl⟩
      rw [← hW]
      have BXf : Hid (Box W24 y23.heap.size sf (.slice Xf pf qf)) := by rw [hW]; exact Box.new _ _ _
      have IVf : Hid (Iv W24 (.agg #[.bool sf, .slice Xf pf qf]) (zp)) := by rw [hW]; exact Q.out.alloc _
      have hd : Below W21.heap.size W21 W24 := by rw [hW]; exact B.out.alloc B.out.size _
      clear hW Q B
      generalize hgn : y23.heap.size = gf at *
      clear hgn
      replace BXa := Lib.hid (BXa.out.next hd rfl); replace IVa := Lib.hid (iv_next IVa.out hd rfl)
      replace BXb := Lib.hid (BXb.out.next hd rfl); replace IVb := Lib.hid (iv_next IVb.out hd rfl)
      replace BXp := Lib.hid (BXp.out.next hd rfl); replace IVp := Lib.hid (iv_next IVp.out hd rfl)
      replace AX0 := Lib.hid (AX0.out.next hd rfl)
      replace DW := Lib.hid (link_below DW.out hd (by have := DW.out.size; omega) rfl rfl rfl rfl)
      clear hd
      have w25pa := BXp.out.cell0; have w25pb := BXp.out.cell1; have w25fa := BXf.out.cell0; have w25fb := BXf.out.cell1
      go_wp2_with fail
      clear w25pa w25pb w25fa w25fb
      refine (same_true _ _ zp zp _ IVp.out IVf.out (SZp.out.mono (by omega)) rfl).mono ?_
      rintro e y26 ⟨rfl, hb⟩
      replace BXa := Lib.hid (BXa.out.next hb rfl); replace IVa := Lib.hid (iv_next IVa.out hb rfl)
      replace BXb := Lib.hid (BXb.out.next hb rfl); replace IVb := Lib.hid (iv_next IVb.out hb rfl)
      replace BXp := Lib.hid (BXp.out.next hb rfl); replace IVp := Lib.hid (iv_next IVp.out hb rfl)
      replace BXf := Lib.hid (BXf.out.next hb rfl); replace IVf := Lib.hid (iv_next IVf.out hb rfl)
      replace AX0 := Lib.hid (AX0.out.next hb rfl)
      replace DW := Lib.hid (link_below DW.out hb (by have := DW.out.size; omega) rfl rfl rfl rfl)
      clear hb
      clear BXp IVp
      clear BXf IVf
      go_upto_region 19 with fail
      have SZn := Lib.hid RT.out.sz
      have w27aa := BXa.out.cell0; have w27ab := BXa.out.cell1
      have v0 := AX0.out.cell 1
      simp at v0
      go_wp2_with fail
      clear v0 w27aa w27ab
      refine (RT.out.i _ _ IVa.out).mono ?_
      rintro e y28 ⟨_, rfl, hq, hb⟩
      obtain ⟨Xn, pn, qn, rfl, _, _, _⟩ := hq.form
      have Q := Lib.hid hq; have B := Lib.hid hb; clear hq hb
      generalize hs : decide ((zo : Int) < 0) = sn at *
      clear hs
      go_upto_region 20 with fail
      obtain ⟨W29, hW⟩ : ∃ W29, W29 = y28.alloc (Obj.cells #[Value.bool sn, Value.slice Xn pn qn] 27) := ⟨_, rfl⟩
      rw [← hW]
      have BXn : Hid (Box W29 y28.heap.size sn (.slice Xn pn qn)) := by rw [hW]; exact Box.new _ _ _
      have IVn : Hid (Iv W29 (.agg #[.bool sn, .slice Xn pn qn]) (zo)) := by rw [hW]; exact Q.out.alloc _
      have hd : Below y26.heap.size y26 W29 := by rw [hW]; exact B.out.alloc B.out.size _
      clear hW Q B
      generalize hgn : y28.heap.size = gn at *
      clear hgn
      replace BXa := Lib.hid (BXa.out.next hd rfl); replace IVa := Lib.hid (iv_next IVa.out hd rfl)
      replace BXb := Lib.hid (BXb.out.next hd rfl); replace IVb := Lib.hid (iv_next IVb.out hd rfl)
      replace AX0 := Lib.hid (AX0.out.next hd rfl)
      replace DW := Lib.hid (link_below DW.out hd (by have := DW.out.size; omega) rfl rfl rfl rfl)
      clear hd
      have w30aa := BXa.out.cell0; have w30ab := BXa.out.cell1
      have v0 := AX0.out.cell 1
      simp at v0
      go_wp2_with fail
      clear v0 w30aa w30ab
      refine (RT.out.r _ _ IVa.out).mono ?_
      rintro e y31 ⟨_, rfl, hq, hb⟩
      obtain ⟨Xo, po, qo, rfl, _, _, _⟩ := hq.form
      have Q := Lib.hid hq; have B := Lib.hid hb; clear hq hb
      generalize hs : decide ((zo : Int) < 0) = so at *
      clear hs
      go_upto_region 21 with fail
      obtain ⟨W32, hW⟩ : ∃ W32, W32 = y31.alloc (Obj.cells #[Value.bool so, Value.slice Xo po qo] 27) := ⟨_, rfl⟩
      rw [← hW]
      have BXo : Hid (Box W32 y31.heap.size so (.slice Xo po qo)) := by rw [hW]; exact Box.new _ _ _
      have IVo : Hid (Iv W32 (.agg #[.bool so, .slice Xo po qo]) (zo)) := by rw [hW]; exact Q.out.alloc _
      have hd : Below W29.heap.size W29 W32 := by rw [hW]; exact B.out.alloc B.out.size _
      clear hW Q B
      generalize hgn : y31.heap.size = go at *
      clear hgn
      replace BXa := Lib.hid (BXa.out.next hd rfl); replace IVa := Lib.hid (iv_next IVa.out hd rfl)
      replace BXb := Lib.hid (BXb.out.next hd rfl); replace IVb := Lib.hid (iv_next IVb.out hd rfl)
      replace BXn := Lib.hid (BXn.out.next hd rfl); replace IVn := Lib.hid (iv_next IVn.out hd rfl)
      replace AX0 := Lib.hid (AX0.out.next hd rfl)
      replace DW := Lib.hid (link_below DW.out hd (by have := DW.out.size; omega) rfl rfl rfl rfl)
      clear hd
      have w33na := BXn.out.cell0; have w33nb := BXn.out.cell1; have w33oa := BXo.out.cell0; have w33ob := BXo.out.cell1
      go_wp2_with fail
      clear w33na w33nb w33oa w33ob
      refine (same_true _ _ zo zo _ IVn.out IVo.out (SZn.out.mono (by omega)) rfl).mono ?_
      rintro e y34 ⟨rfl, hb⟩
      replace BXa := Lib.hid (BXa.out.next hb rfl); replace IVa := Lib.hid (iv_next IVa.out hb rfl)
      replace BXb := Lib.hid (BXb.out.next hb rfl); replace IVb := Lib.hid (iv_next IVb.out hb rfl)
      replace BXn := Lib.hid (BXn.out.next hb rfl); replace IVn := Lib.hid (iv_next IVn.out hb rfl)
      replace BXo := Lib.hid (BXo.out.next hb rfl); replace IVo := Lib.hid (iv_next IVo.out hb rfl)
      replace AX0 := Lib.hid (AX0.out.next hb rfl)
      replace DW := Lib.hid (link_below DW.out hb (by have := DW.out.size; omega) rfl rfl rfl rfl)
      clear hb
      go_wp2
      go_ret
      exact ⟨by simp, by rw [hg]; exact DW.out⟩
    · by_cases hbt : x * ((bl za.natAbs : Nat) : Int) ≤ 20000
      · have hx0' : decide (x < 0) = false := by rw [decide_eq_false_iff_not]; omega
        have hx4' : decide (4096 < x) = false := by rw [decide_eq_false_iff_not]; omega
        obtain ⟨zp, zc, hpw⟩ := pow_both (a := za) (n := x) SZa.out hx1 hx2 (.inr (.inr hbt))
        have PW := Lib.hid hpw
        clear hpw
        have hbl384 := bits12 SZa.out
        have hdec := wrap_bits (w := x) hbl384 (by omega) (by omega)
        have hdec2 : decide (IntKind.i64.wrap (x * ((bl za.natAbs : Nat) : Int)) ≤ 20000) = true := by rw [hdec]; exact decide_eq_true hbt
        have HD2 := Lib.hid hdec2
        have ua := BXa.out.cell0; have ub := BXa.out.cell1
        clear hbl384 hdec hdec2 hbt
        go_region_held3 (fun w' => w'.cell? ⟨ga, 0, none⟩ = some (.bool sa) ∧ w'.cell? ⟨ga, 1, none⟩ = some (.slice Xa pa qa) ∧ w'.cell? ⟨g + 1 + 1, 0, none⟩ = some (.int .i64 x)) (go_keep)
          (first
            | (go_at_call 32; refine (rbits_any _ za _ (by exact IVa.out) (SZa.out.mono (by omega))).mono ?_; rintro e w4 ⟨rfl, hbl4⟩
               have r0 := (BXa.out.next hbl4 rfl).cell0
               have r1 := (BXa.out.next hbl4 rfl).cell1
               have r2 := (AX0.out.next hbl4 rfl).cell 0
               simp at r2))
        rw [HD2.out]
        go_upto_region 15 with fail
        clear v0 v1 ua ub r0 r1 r2 hx hx4 hx0' hx4' HD2
        have hd : Below wn.heap.size wn w4 := Below.trans (Below.refl _ _).drew hbl4
        clear hbl4
        replace BXa := Lib.hid (BXa.out.next hd rfl); replace IVa := Lib.hid (iv_next IVa.out hd rfl)
        replace BXb := Lib.hid (BXb.out.next hd rfl); replace IVb := Lib.hid (iv_next IVb.out hd rfl)
        replace AX0 := Lib.hid (AX0.out.next hd rfl)
        replace DW := Lib.hid (link_below DW.out hd (by have := DW.out.size; omega) rfl rfl rfl rfl)
        clear hd
        have SZp := Lib.hid PW.out.sz
        have w19aa := BXa.out.cell0; have w19ab := BXa.out.cell1
        have v0 := AX0.out.cell 0
        simp at v0
        go_wp2_with fail
        clear v0 w19aa w19ab
        refine (PW.out.i _ _ IVa.out).mono ?_
        rintro e y20 ⟨_, rfl, hq, hb⟩
        obtain ⟨Xp, pp, qp, rfl, _, _, _⟩ := hq.form
        have Q := Lib.hid hq; have B := Lib.hid hb; clear hq hb
        generalize hs : decide ((zp : Int) < 0) = sp at *
        clear hs
        go_upto_region 16 with fail
        obtain ⟨W21, hW⟩ : ∃ W21, W21 = y20.alloc (Obj.cells #[Value.bool sp, Value.slice Xp pp qp] 27) := ⟨_, rfl⟩
        rw [← hW]
        have BXp : Hid (Box W21 y20.heap.size sp (.slice Xp pp qp)) := by rw [hW]; exact Box.new _ _ _
        have IVp : Hid (Iv W21 (.agg #[.bool sp, .slice Xp pp qp]) (zp)) := by rw [hW]; exact Q.out.alloc _
        have hd : Below w4.heap.size w4 W21 := by rw [hW]; exact B.out.alloc B.out.size _
        clear hW Q B
        generalize hgn : y20.heap.size = gp at *
        clear hgn
        replace BXa := Lib.hid (BXa.out.next hd rfl); replace IVa := Lib.hid (iv_next IVa.out hd rfl)
        replace BXb := Lib.hid (BXb.out.next hd rfl); replace IVb := Lib.hid (iv_next IVb.out hd rfl)
        replace AX0 := Lib.hid (AX0.out.next hd rfl)
        replace DW := Lib.hid (link_below DW.out hd (by have := DW.out.size; omega) rfl rfl rfl rfl)
        clear hd
        have w22aa := BXa.out.cell0; have w22ab := BXa.out.cell1
        have v0 := AX0.out.cell 0
        simp at v0
        go_wp2_with fail
        clear v0 w22aa w22ab
        refine (PW.out.r _ _ IVa.out).mono ?_
        rintro e y23 ⟨_, rfl, hq, hb⟩
        obtain ⟨Xf, pf, qf, rfl, _, _, _⟩ := hq.form
        have Q := Lib.hid hq; have B := Lib.hid hb; clear hq hb
        generalize hs : decide ((zp : Int) < 0) = sf at *
        clear hs
        go_upto_region 17 with fail
        obtain ⟨W24, hW⟩ : ∃ W24, W24 = y23.alloc (Obj.cells #[Value.bool sf, Value.slice Xf pf qf] 27) := ⟨_, rfl⟩
        rw [← hW]
        have BXf : Hid (Box W24 y23.heap.size sf (.slice Xf pf qf)) := by rw [hW]; exact Box.new _ _ _
        have IVf : Hid (Iv W24 (.agg #[.bool sf, .slice Xf pf qf]) (zp)) := by rw [hW]; exact Q.out.alloc _
        have hd : Below W21.heap.size W21 W24 := by rw [hW]; exact B.out.alloc B.out.size _
        clear hW Q B
        generalize hgn : y23.heap.size = gf at *
        clear hgn
        replace BXa := Lib.hid (BXa.out.next hd rfl); replace IVa := Lib.hid (iv_next IVa.out hd rfl)
        replace BXb := Lib.hid (BXb.out.next hd rfl); replace IVb := Lib.hid (iv_next IVb.out hd rfl)
        replace BXp := Lib.hid (BXp.out.next hd rfl); replace IVp := Lib.hid (iv_next IVp.out hd rfl)
        replace AX0 := Lib.hid (AX0.out.next hd rfl)
        replace DW := Lib.hid (link_below DW.out hd (by have := DW.out.size; omega) rfl rfl rfl rfl)
        clear hd
        have w25pa := BXp.out.cell0; have w25pb := BXp.out.cell1; have w25fa := BXf.out.cell0; have w25fb := BXf.out.cell1
        go_wp2_with fail
        clear w25pa w25pb w25fa w25fb
        refine (same_true _ _ zp zp _ IVp.out IVf.out (SZp.out.mono (by omega)) rfl).mono ?_
        rintro e y26 ⟨rfl, hb⟩
        replace BXa := Lib.hid (BXa.out.next hb rfl); replace IVa := Lib.hid (iv_next IVa.out hb rfl)
        replace BXb := Lib.hid (BXb.out.next hb rfl); replace IVb := Lib.hid (iv_next IVb.out hb rfl)
        replace BXp := Lib.hid (BXp.out.next hb rfl); replace IVp := Lib.hid (iv_next IVp.out hb rfl)
        replace BXf := Lib.hid (BXf.out.next hb rfl); replace IVf := Lib.hid (iv_next IVf.out hb rfl)
        replace AX0 := Lib.hid (AX0.out.next hb rfl)
        replace DW := Lib.hid (link_below DW.out hb (by have := DW.out.size; omega) rfl rfl rfl rfl)
        clear hb
        clear BXp IVp
        clear BXf IVf
        go_upto_region 19 with fail
        have SZn := Lib.hid RT.out.sz
        have w27aa := BXa.out.cell0; have w27ab := BXa.out.cell1
        have v0 := AX0.out.cell 1
        simp at v0
        go_wp2_with fail
        clear v0 w27aa w27ab
        refine (RT.out.i _ _ IVa.out).mono ?_
        rintro e y28 ⟨_, rfl, hq, hb⟩
        obtain ⟨Xn, pn, qn, rfl, _, _, _⟩ := hq.form
        have Q := Lib.hid hq; have B := Lib.hid hb; clear hq hb
        generalize hs : decide ((zo : Int) < 0) = sn at *
        clear hs
        go_upto_region 20 with fail
        obtain ⟨W29, hW⟩ : ∃ W29, W29 = y28.alloc (Obj.cells #[Value.bool sn, Value.slice Xn pn qn] 27) := ⟨_, rfl⟩
        rw [← hW]
        have BXn : Hid (Box W29 y28.heap.size sn (.slice Xn pn qn)) := by rw [hW]; exact Box.new _ _ _
        have IVn : Hid (Iv W29 (.agg #[.bool sn, .slice Xn pn qn]) (zo)) := by rw [hW]; exact Q.out.alloc _
        have hd : Below y26.heap.size y26 W29 := by rw [hW]; exact B.out.alloc B.out.size _
        clear hW Q B
        generalize hgn : y28.heap.size = gn at *
        clear hgn
        replace BXa := Lib.hid (BXa.out.next hd rfl); replace IVa := Lib.hid (iv_next IVa.out hd rfl)
        replace BXb := Lib.hid (BXb.out.next hd rfl); replace IVb := Lib.hid (iv_next IVb.out hd rfl)
        replace AX0 := Lib.hid (AX0.out.next hd rfl)
        replace DW := Lib.hid (link_below DW.out hd (by have := DW.out.size; omega) rfl rfl rfl rfl)
        clear hd
        have w30aa := BXa.out.cell0; have w30ab := BXa.out.cell1
        have v0 := AX0.out.cell 1
        simp at v0
        go_wp2_with fail
        clear v0 w30aa w30ab
        refine (RT.out.r _ _ IVa.out).mono ?_
        rintro e y31 ⟨_, rfl, hq, hb⟩
        obtain ⟨Xo, po, qo, rfl, _, _, _⟩ := hq.form
        have Q := Lib.hid hq; have B := Lib.hid hb; clear hq hb
        generalize hs : decide ((zo : Int) < 0) = so at *
        clear hs
        go_upto_region 21 with fail
        obtain ⟨W32, hW⟩ : ∃ W32, W32 = y31.alloc (Obj.cells #[Value.bool so, Value.slice Xo po qo] 27) := ⟨_, rfl⟩
        rw [← hW]
        have BXo : Hid (Box W32 y31.heap.size so (.slice Xo po qo)) := by rw [hW]; exact Box.new _ _ _
        have IVo : Hid (Iv W32 (.agg #[.bool so, .slice Xo po qo]) (zo)) := by rw [hW]; exact Q.out.alloc _
        have hd : Below W29.heap.size W29 W32 := by rw [hW]; exact B.out.alloc B.out.size _
        clear hW Q B
        generalize hgn : y31.heap.size = go at *
        clear hgn
        replace BXa := Lib.hid (BXa.out.next hd rfl); replace IVa := Lib.hid (iv_next IVa.out hd rfl)
        replace BXb := Lib.hid (BXb.out.next hd rfl); replace IVb := Lib.hid (iv_next IVb.out hd rfl)
        replace BXn := Lib.hid (BXn.out.next hd rfl); replace IVn := Lib.hid (iv_next IVn.out hd rfl)
        replace AX0 := Lib.hid (AX0.out.next hd rfl)
        replace DW := Lib.hid (link_below DW.out hd (by have := DW.out.size; omega) rfl rfl rfl rfl)
        clear hd
        have w33na := BXn.out.cell0; have w33nb := BXn.out.cell1; have w33oa := BXo.out.cell0; have w33ob := BXo.out.cell1
        go_wp2_with fail
        clear w33na w33nb w33oa w33ob
        refine (same_true _ _ zo zo _ IVn.out IVo.out (SZn.out.mono (by omega)) rfl).mono ?_
        rintro e y34 ⟨rfl, hb⟩
        replace BXa := Lib.hid (BXa.out.next hb rfl); replace IVa := Lib.hid (iv_next IVa.out hb rfl)
        replace BXb := Lib.hid (BXb.out.next hb rfl); replace IVb := Lib.hid (iv_next IVb.out hb rfl)
        replace BXn := Lib.hid (BXn.out.next hb rfl); replace IVn := Lib.hid (iv_next IVn.out hb rfl)
        replace BXo := Lib.hid (BXo.out.next hb rfl); replace IVo := Lib.hid (iv_next IVo.out hb rfl)
        replace AX0 := Lib.hid (AX0.out.next hb rfl)
        replace DW := Lib.hid (link_below DW.out hb (by have := DW.out.size; omega) rfl rfl rfl rfl)
        clear hb
        go_wp2
        go_ret
        exact ⟨by simp, by rw [hg]; exact DW.out⟩
      · have hx0' : decide (x < 0) = false := by rw [decide_eq_false_iff_not]; omega
        have hx4' : decide (4096 < x) = false := by rw [decide_eq_false_iff_not]; omega
        have hbl384 := bits12 SZa.out
        have hdec := wrap_bits (w := x) hbl384 (by omega) (by omega)
        have hdec2 : decide (IntKind.i64.wrap (x * ((bl za.natAbs : Nat) : Int)) ≤ 20000) = false := by rw [hdec]; exact decide_eq_false hbt
        have HD2 := Lib.hid hdec2
        have ua := BXa.out.cell0; have ub := BXa.out.cell1
        clear hbl384 hdec hdec2 hbt
        go_region_held3 (fun w' => w'.cell? ⟨ga, 0, none⟩ = some (.bool sa) ∧ w'.cell? ⟨ga, 1, none⟩ = some (.slice Xa pa qa) ∧ w'.cell? ⟨g + 1 + 1, 0, none⟩ = some (.int .i64 x)) (go_keep)
          (first
            | (go_at_call 32; refine (rbits_any _ za _ (by exact IVa.out) (SZa.out.mono (by omega))).mono ?_; rintro e w4 ⟨rfl, hbl4⟩
               have r0 := (BXa.out.next hbl4 rfl).cell0
               have r1 := (BXa.out.next hbl4 rfl).cell1
               have r2 := (AX0.out.next hbl4 rfl).cell 0
               simp at r2))
        rw [HD2.out]
        go_upto_region 19 with fail
        clear v0 v1 ua ub r0 r1 r2 hx hx4 hx0' hx4' HD2
        have hd : Below wn.heap.size wn w4 := Below.trans (Below.refl _ _).drew hbl4
        clear hbl4
        replace BXa := Lib.hid (BXa.out.next hd rfl); replace IVa := Lib.hid (iv_next IVa.out hd rfl)
        replace BXb := Lib.hid (BXb.out.next hd rfl); replace IVb := Lib.hid (iv_next IVb.out hd rfl)
        replace AX0 := Lib.hid (AX0.out.next hd rfl)
        replace DW := Lib.hid (link_below DW.out hd (by have := DW.out.size; omega) rfl rfl rfl rfl)
        clear hd
        have SZn := Lib.hid RT.out.sz
        have w19aa := BXa.out.cell0; have w19ab := BXa.out.cell1
        have v0 := AX0.out.cell 1
        simp at v0
        go_wp2_with fail
        clear v0 w19aa w19ab
        refine (RT.out.i _ _ IVa.out).mono ?_
        rintro e y20 ⟨_, rfl, hq, hb⟩
        obtain ⟨Xn, pn, qn, rfl, _, _, _⟩ := hq.form
        have Q := Lib.hid hq; have B := Lib.hid hb; clear hq hb
        generalize hs : decide ((zo : Int) < 0) = sn at *
        clear hs
        go_upto_region 20 with fail
        obtain ⟨W21, hW⟩ : ∃ W21, W21 = y20.alloc (Obj.cells #[Value.bool sn, Value.slice Xn pn qn] 27) := ⟨_, rfl⟩
        rw [← hW]
        have BXn : Hid (Box W21 y20.heap.size sn (.slice Xn pn qn)) := by rw [hW]; exact Box.new _ _ _
        have IVn : Hid (Iv W21 (.agg #[.bool sn, .slice Xn pn qn]) (zo)) := by rw [hW]; exact Q.out.alloc _
        have hd : Below w4.heap.size w4 W21 := by rw [hW]; exact B.out.alloc B.out.size _
        clear hW Q B
        generalize hgn : y20.heap.size = gn at *
        clear hgn
        replace BXa := Lib.hid (BXa.out.next hd rfl); replace IVa := Lib.hid (iv_next IVa.out hd rfl)
        replace BXb := Lib.hid (BXb.out.next hd rfl); replace IVb := Lib.hid (iv_next IVb.out hd rfl)
        replace AX0 := Lib.hid (AX0.out.next hd rfl)
        replace DW := Lib.hid (link_below DW.out hd (by have := DW.out.size; omega) rfl rfl rfl rfl)
        clear hd
        have w22aa := BXa.out.cell0; have w22ab := BXa.out.cell1
        have v0 := AX0.out.cell 1
        simp at v0
        go_wp2_with fail
        clear v0 w22aa w22ab
        refine (RT.out.r _ _ IVa.out).mono ?_
        rintro e y23 ⟨_, rfl, hq, hb⟩
        obtain ⟨Xo, po, qo, rfl, _, _, _⟩ := hq.form
        have Q := Lib.hid hq; have B := Lib.hid hb; clear hq hb
        generalize hs : decide ((zo : Int) < 0) = so at *
        clear hs
        go_upto_region 21 with fail
        obtain ⟨W24, hW⟩ : ∃ W24, W24 = y23.alloc (Obj.cells #[Value.bool so, Value.slice Xo po qo] 27) := ⟨_, rfl⟩
        rw [← hW]
        have BXo : Hid (Box W24 y23.heap.size so (.slice Xo po qo)) := by rw [hW]; exact Box.new _ _ _
        have IVo : Hid (Iv W24 (.agg #[.bool so, .slice Xo po qo]) (zo)) := by rw [hW]; exact Q.out.alloc _
        have hd : Below W21.heap.size W21 W24 := by rw [hW]; exact B.out.alloc B.out.size _
        clear hW Q B
        generalize hgn : y23.heap.size = go at *
        clear hgn
        replace BXa := Lib.hid (BXa.out.next hd rfl); replace IVa := Lib.hid (iv_next IVa.out hd rfl)
        replace BXb := Lib.hid (BXb.out.next hd rfl); replace IVb := Lib.hid (iv_next IVb.out hd rfl)
        replace BXn := Lib.hid (BXn.out.next hd rfl); replace IVn := Lib.hid (iv_next IVn.out hd rfl)
        replace AX0 := Lib.hid (AX0.out.next hd rfl)
        replace DW := Lib.hid (link_below DW.out hd (by have := DW.out.size; omega) rfl rfl rfl rfl)
        clear hd
        have w25na := BXn.out.cell0; have w25nb := BXn.out.cell1; have w25oa := BXo.out.cell0; have w25ob := BXo.out.cell1
        go_wp2_with fail
        clear w25na w25nb w25oa w25ob
        refine (same_true _ _ zo zo _ IVn.out IVo.out (SZn.out.mono (by omega)) rfl).mono ?_
        rintro e y26 ⟨rfl, hb⟩
        replace BXa := Lib.hid (BXa.out.next hb rfl); replace IVa := Lib.hid (iv_next IVa.out hb rfl)
        replace BXb := Lib.hid (BXb.out.next hb rfl); replace IVb := Lib.hid (iv_next IVb.out hb rfl)
        replace BXn := Lib.hid (BXn.out.next hb rfl); replace IVn := Lib.hid (iv_next IVn.out hb rfl)
        replace BXo := Lib.hid (BXo.out.next hb rfl); replace IVo := Lib.hid (iv_next IVo.out hb rfl)
        replace AX0 := Lib.hid (AX0.out.next hb rfl)
        replace DW := Lib.hid (link_below DW.out hb (by have := DW.out.size; omega) rfl rfl rfl rfl)
        clear hb
        go_wp2
        go_ret
        exact ⟨by simp, by rw [hg]; exact DW.out⟩
end Go.Proofs.Ytpklphdhigkmmaa
