/-
  The law IntegerDivisors: the walk.
-/
import Derived.Test.YtpklphdhigkmmaaLawE
import Derived.Test.YtpklphdhigkmmaaLawB
import Derived.Test.YtpklphdhigkmmaaRegE
import Derived.Deep.DeepCutAuto
import Derived.Handy
namespace Go.Proofs.Ytpklphdhigkmmaa
open Go.RowKit
attribute [local go_sem ↓] Go.wp_at_zero Go.wp_at_succ

set_option maxHeartbeats 16000000 in
set_option maxRecDepth 100000 in
theorem lawDivisorsZ_any (b0 : Bool) (A0 : Option Addr) (n0 c0 : Nat) (ws0 : List Nat) (b1 : Bool) (A1 : Option Addr) (n1 c1 : Nat) (ws1 : List Nat) (b2 : Bool) (A2 : Option Addr) (n2 c2 : Nat) (ws2 : List Nat)  (w : World) (h0 : Wd w A0 n0 ws0) (m0 : n0 ≤ 9223372036854775807) (h1 : Wd w A1 n1 ws1) (m1 : n1 ≤ 9223372036854775807) (h2 : Wd w A2 n2 ws2) (m2 : n2 ≤ 9223372036854775807) (hx0 : sgn b1 (val (ws1.take 6)) * sgn b2 (val (ws2.take 4)) = 0) :
    Calls Try.prog 4 #[.agg #[.bool b0, .slice A0 n0 c0], .agg #[.bool b1, .slice A1 n1 c1], .agg #[.bool b2, .slice A2 n2 c2]] w fun e w' => e = .returned (.bool true) ∧ Below w.heap.size w w' := by
  obtain ⟨zx, hzx⟩ : ∃ z, z = sgn b0 (val (ws0.take 6)) := ⟨_, rfl⟩
  have SZx : Hid (Sz zx 6) := by rw [hzx]; exact sz_take _ _ _ h0.wds
  obtain ⟨zy, hzy⟩ : ∃ z, z = sgn b1 (val (ws1.take 6)) := ⟨_, rfl⟩
  have SZy : Hid (Sz zy 6) := by rw [hzy]; exact sz_take _ _ _ h1.wds
  obtain ⟨zc, hzc⟩ : ∃ z, z = sgn b2 (val (ws2.take 4)) := ⟨_, rfl⟩
  have SZc : Hid (Sz zc 4) := by rw [hzc]; exact sz_take _ _ _ h2.wds
  rw [← hzy, ← hzc] at hx0
  obtain ⟨za, hza⟩ : ∃ z, zx * zc = z := ⟨_, rfl⟩
  obtain ⟨zb, hzb⟩ : ∃ z, zy * zc = z := ⟨_, rfl⟩
  rw [hzb] at hx0
  have HX := Lib.hid hx0
  have SZa : Hid (Sz za 10) := by rw [← hza]; exact SZx.out.mul SZc.out
  have SZb : Hid (Sz zb 10) := by rw [← hzb]; exact SZy.out.mul SZc.out
  obtain ⟨zg, hzg⟩ : ∃ z, (Int.gcd za zb : Int) = z := ⟨_, rfl⟩
  have SZg : Hid (Sz zg 11) := by rw [← hzg]; exact sz_gcd SZa.out SZb.out
  have G0 : Hid (0 ≤ zg) := by rw [← hzg]; exact Int.natCast_nonneg _
  have D1 : Hid (zg ∣ za) := by rw [← hzg]; exact Int.gcd_dvd_left ..
  have D2 : Hid (zg ∣ zb) := by rw [← hzg]; exact Int.gcd_dvd_right ..
  have D3 : Hid (zc ∣ zg) := by rw [← hzg, ← hza, ← hzb]; exact dvd_gcd_mul zx zy zc
  have HZA := Lib.hid hza; have HZB := Lib.hid hzb; have HZG := Lib.hid hzg
  clear hx0 hza hzb hzg
  have MKx : Hid (∀ W, Wd W A0 n0 ws0 → Calls Try.prog 14 #[.agg #[.bool b0, .slice A0 n0 c0], .int .i64 6] W (RetIv zx W)) := fun W h => by rw [hzx]; exact rmade_raw b0 A0 n0 c0 6 6 ws0 W h rfl (by omega) m0
  have MKy : Hid (∀ W, Wd W A1 n1 ws1 → Calls Try.prog 14 #[.agg #[.bool b1, .slice A1 n1 c1], .int .i64 6] W (RetIv zy W)) := fun W h => by rw [hzy]; exact rmade_raw b1 A1 n1 c1 6 6 ws1 W h rfl (by omega) m1
  have HZX := Lib.hid hzx; have HZY := Lib.hid hzy
  clear hzx hzy
  go_enter Try.func4, Try.ntmps4
  go_wp2_with fail
  obtain ⟨W, hW⟩ : ∃ W, W = (((w.alloc (Obj.cells #[Value.bool b0, Value.slice A0 n0 c0] 24)).alloc (Obj.cells #[Value.bool b1, Value.slice A1 n1 c1] 24)).alloc (Obj.cells #[Value.bool b2, Value.slice A2 n2 c2] 24)) := ⟨_, rfl⟩
  rw [← hW]
  have RX0 : Hid (RBox W (w.heap.size) b0 (.slice A0 n0 c0)) := by rw [hW]; have := ((RBox.new w b0 (.slice A0 n0 c0)).alloc (Obj.cells #[Value.bool b1, Value.slice A1 n1 c1] 24)).alloc (Obj.cells #[Value.bool b2, Value.slice A2 n2 c2] 24); simpa [Hid] using this
  have RW0 : Hid (Wd W A0 n0 ws0) := by rw [hW]; exact (((h0).alloc _).alloc _).alloc _
  have RX1 : Hid (RBox W (w.heap.size + 1) b1 (.slice A1 n1 c1)) := by rw [hW]; have := (RBox.new (w.alloc (Obj.cells #[Value.bool b0, Value.slice A0 n0 c0] 24)) b1 (.slice A1 n1 c1)).alloc (Obj.cells #[Value.bool b2, Value.slice A2 n2 c2] 24); simpa [Hid] using this
  have RW1 : Hid (Wd W A1 n1 ws1) := by rw [hW]; exact (((h1).alloc _).alloc _).alloc _
  have RX2 : Hid (RBox W (w.heap.size + 1 + 1) b2 (.slice A2 n2 c2)) := by rw [hW]; have := RBox.new ((w.alloc (Obj.cells #[Value.bool b0, Value.slice A0 n0 c0] 24)).alloc (Obj.cells #[Value.bool b1, Value.slice A1 n1 c1] 24)) b2 (.slice A2 n2 c2); simpa [Hid] using this
  have RW2 : Hid (Wd W A2 n2 ws2) := by rw [hW]; exact (((h2).alloc _).alloc _).alloc _
  have DW : Hid (Below w.heap.size w W) := by rw [hW]; exact (((Below.refl _ _).alloc (by simp <;> omega) _).alloc (by simp <;> omega) _).alloc (by simp <;> omega) _
  clear hW h0 h1 h2
  generalize hg : w.heap.size = g at *
  refine (sanity_any _).mono ?_
  rintro e w1 ⟨rfl, hb1⟩
  replace RX0 := Lib.hid (RX0.out.next hb1 rfl); replace RW0 := Lib.hid (RW0.out.next hb1 rfl)
  replace RX1 := Lib.hid (RX1.out.next hb1 rfl); replace RW1 := Lib.hid (RW1.out.next hb1 rfl)
  replace RX2 := Lib.hid (RX2.out.next hb1 rfl); replace RW2 := Lib.hid (RW2.out.next hb1 rfl)
  replace DW := Lib.hid (link_below DW.out hb1 (by have := DW.out.size; omega) rfl rfl rfl rfl)
  clear hb1
  have u1 := RX2.out.cell0; have u2 := RX2.out.cell1
  go_wp2_with fail
  clear u1 u2
  refine (rmade_raw b2 A2 n2 c2 4 4 ws2 _ RW2.out rfl (by omega) m2).mono ?_
  rw [← hzc]
  rintro e y1 ⟨_, rfl, hq, hb⟩
  clear RX2 RW2
  obtain ⟨Xc, pc, qc, rfl, _, _, _⟩ := hq.form
  have Q := Lib.hid hq; have B := Lib.hid hb; clear hq hb
  generalize hs : decide ((zc : Int) < 0) = sc at *
  clear hs
  go_upto_region 5 with fail
  obtain ⟨W2, hW⟩ : ∃ W2, W2 = y1.alloc (Obj.cells #[Value.bool sc, Value.slice Xc pc qc] 27) := ⟨_, rfl⟩
  rw [← hW]
  have BXc : Hid (Box W2 y1.heap.size sc (.slice Xc pc qc)) := by rw [hW]; exact Box.new _ _ _
  have IVc : Hid (Iv W2 (.agg #[.bool sc, .slice Xc pc qc]) (zc)) := by rw [hW]; exact Q.out.alloc _
  have hd : Below w1.heap.size w1 W2 := by rw [hW]; exact B.out.alloc B.out.size _
  clear hW Q B
  generalize hgn : y1.heap.size = gc at *
  clear hgn
  replace RX0 := Lib.hid (RX0.out.next hd rfl); replace RW0 := Lib.hid (RW0.out.next hd rfl)
  replace RX1 := Lib.hid (RX1.out.next hd rfl); replace RW1 := Lib.hid (RW1.out.next hd rfl)
  replace DW := Lib.hid (link_below DW.out hd (by have := DW.out.size; omega) rfl rfl rfl rfl)
  clear hd
  refine region_go W2 [.is (.agg #[.bool b0, .slice A0 n0 c0]), .iv (zx), .is (.agg #[.bool sc, .slice Xc pc qc]), .iv (za), .new, .put 4 (za)] [some 23, some 24, some 25, some 26, some 9, none] (by kernel_rfl) (by kernel_rfl) (by kernel_rfl) (by kernel_rfl) (by kernel_rfl) (by rfl) (by kernel_rfl) ((Below.refl _ _).drew) (fun Q' => ?_) (fun K hK wn hs => ?_)
  · refine ⟨?_, ?_, ?_, ?_, ?_, ?_, trivial⟩
    · intro a' w' ha hs hw
      have eo3 : a'.tmps[3]? = some (ptr (g)) := (ha.rest 3 (by kernel_rfl)).trans rfl
      exact ⟨wanted_none rfl, rfl, wp_val (run_loadR rfl (ev_tmp eo3) (RX0.out.next hs rfl)) ⟨rfl, Below.refl _ _⟩⟩
    · intro a' w' ha hs hw
      have e0 : a'.tmps[23]? = some (.agg #[.bool b0, .slice A0 n0 c0]) := slot_get rfl rfl (hw 0 (by kernel_rfl) _ rfl)
      exact ⟨wanted_none rfl, rfl, call_step rfl Try.func14 (by kernel_rfl) rfl (map_two (ev_tmp e0) rfl) (MKx.out _ (RW0.out.next hs rfl)) (fun e w2 he => by obtain ⟨v, rfl, hv, hb⟩ := he; exact ⟨v, rfl, v, rfl, hv, hb⟩)⟩
    · intro a' w' ha hs hw
      have eo8 : a'.tmps[8]? = some (ptr gc) := (ha.rest 8 (by kernel_rfl)).trans rfl
      exact ⟨wanted_none rfl, rfl, wp_val (run_load rfl (ev_tmp eo8) (BXc.out.next hs rfl)) ⟨rfl, Below.refl _ _⟩⟩
    · intro a' w' ha hs hw
      obtain ⟨v1, e1, q1⟩ := hw 1 (by kernel_rfl) _ rfl
      replace e1 : a'.tmps[24]? = some v1 := slot_get rfl rfl e1
      have e2 : a'.tmps[25]? = some (.agg #[.bool sc, .slice Xc pc qc]) := slot_get rfl rfl (hw 2 (by kernel_rfl) _ rfl)
      exact ⟨wanted_none rfl, rfl, call_step rfl Try.func30 (by kernel_rfl) rfl (map_two (ev_tmp e1) (ev_tmp e2)) (mul_is _ _ zx zc za _ q1 (iv_next IVc.out hs rfl) (SZx.out.mono (by omega)) (SZc.out.mono (by omega)) HZA.out) (fun e w2 he => by obtain ⟨v, rfl, hv, hb⟩ := he; exact ⟨v, rfl, v, rfl, hv, hb⟩)⟩
    · intro a' w' ha hs hw
      exact ⟨wanted_none rfl, rfl, wp_valw (run_alloc rfl) ⟨rfl, rfl⟩⟩
    · intro a' w' ha hs hw
      obtain ⟨v3, e3, q3⟩ := hw 3 (by kernel_rfl) _ rfl
      replace e3 : a'.tmps[26]? = some v3 := slot_get rfl rfl e3
      refine ⟨wanted_none rfl, by kernel_rfl, fun g hg => ?_⟩
      obtain ⟨A, n, c, hf, _, _, _⟩ := q3.form
      subst hf
      exact ⟨_, A, n, c, q3, fun ⟨_, _, _, _, hb⟩ => wp_skipw (run_store rfl (ev_tmp (slot_get rfl rfl hg)) (ev_tmp e3) hb) rfl ⟨rfl, rfl⟩⟩
  simp only [allQ]
  intro r3x1 _
  intro r3x3 _
  intro ga hGa
  intro gg sa Xa pa qa he BXa IVa
  simp only [List.nil_append, List.cons_append, List.getElem?_cons_succ, List.getElem?_cons_zero, Option.some.injEq] at he
  obtain rfl := ptr_inj he
  clear he
  replace BXa := Lib.hid BXa; replace IVa := Lib.hid IVa
  simp only [setOpt, List.set_cons_succ, List.set_cons_zero, ptr]
  refine hK _ _ ?_
  clear hK K
  replace BXc := Lib.hid (BXc.out.next hs rfl); replace IVc := Lib.hid (iv_next IVc.out hs rfl)
  replace RX0 := Lib.hid (RX0.out.next hs rfl); replace RW0 := Lib.hid (RW0.out.next hs rfl)
  replace RX1 := Lib.hid (RX1.out.next hs rfl); replace RW1 := Lib.hid (RW1.out.next hs rfl)
  replace DW := Lib.hid (link_below DW.out hs (by have := DW.out.size; omega) rfl rfl rfl rfl)
  clear hs
  clear RX0 RW0 MKx
  go_upto_region 6 with fail
  refine region_go wn [.is (.agg #[.bool b1, .slice A1 n1 c1]), .iv (zy), .is (.agg #[.bool sc, .slice Xc pc qc]), .iv (zb), .new, .put 4 (zb)] [some 27, some 28, some 29, some 30, some 10, none] (by kernel_rfl) (by kernel_rfl) (by kernel_rfl) (by kernel_rfl) (by kernel_rfl) (by rfl) (by kernel_rfl) ((Below.refl _ _).drew) (fun Q' => ?_) (fun K hK wn hs => ?_)
  · refine ⟨?_, ?_, ?_, ?_, ?_, ?_, trivial⟩
    · intro a' w' ha hs hw
      have eo4 : a'.tmps[4]? = some (ptr (g + 1)) := (ha.rest 4 (by kernel_rfl)).trans rfl
      exact ⟨wanted_none rfl, rfl, wp_val (run_loadR rfl (ev_tmp eo4) (RX1.out.next hs rfl)) ⟨rfl, Below.refl _ _⟩⟩
    · intro a' w' ha hs hw
      have e0 : a'.tmps[27]? = some (.agg #[.bool b1, .slice A1 n1 c1]) := slot_get rfl rfl (hw 0 (by kernel_rfl) _ rfl)
      exact ⟨wanted_none rfl, rfl, call_step rfl Try.func14 (by kernel_rfl) rfl (map_two (ev_tmp e0) rfl) (MKy.out _ (RW1.out.next hs rfl)) (fun e w2 he => by obtain ⟨v, rfl, hv, hb⟩ := he; exact ⟨v, rfl, v, rfl, hv, hb⟩)⟩
    · intro a' w' ha hs hw
      have eo8 : a'.tmps[8]? = some (ptr gc) := (ha.rest 8 (by kernel_rfl)).trans rfl
      exact ⟨wanted_none rfl, rfl, wp_val (run_load rfl (ev_tmp eo8) (BXc.out.next hs rfl)) ⟨rfl, Below.refl _ _⟩⟩
    · intro a' w' ha hs hw
      obtain ⟨v1, e1, q1⟩ := hw 1 (by kernel_rfl) _ rfl
      replace e1 : a'.tmps[28]? = some v1 := slot_get rfl rfl e1
      have e2 : a'.tmps[29]? = some (.agg #[.bool sc, .slice Xc pc qc]) := slot_get rfl rfl (hw 2 (by kernel_rfl) _ rfl)
      exact ⟨wanted_none rfl, rfl, call_step rfl Try.func30 (by kernel_rfl) rfl (map_two (ev_tmp e1) (ev_tmp e2)) (mul_is _ _ zy zc zb _ q1 (iv_next IVc.out hs rfl) (SZy.out.mono (by omega)) (SZc.out.mono (by omega)) HZB.out) (fun e w2 he => by obtain ⟨v, rfl, hv, hb⟩ := he; exact ⟨v, rfl, v, rfl, hv, hb⟩)⟩
    · intro a' w' ha hs hw
      exact ⟨wanted_none rfl, rfl, wp_valw (run_alloc rfl) ⟨rfl, rfl⟩⟩
    · intro a' w' ha hs hw
      obtain ⟨v3, e3, q3⟩ := hw 3 (by kernel_rfl) _ rfl
      replace e3 : a'.tmps[30]? = some v3 := slot_get rfl rfl e3
      refine ⟨wanted_none rfl, by kernel_rfl, fun g hg => ?_⟩
      obtain ⟨A, n, c, hf, _, _, _⟩ := q3.form
      subst hf
      exact ⟨_, A, n, c, q3, fun ⟨_, _, _, _, hb⟩ => wp_skipw (run_store rfl (ev_tmp (slot_get rfl rfl hg)) (ev_tmp e3) hb) rfl ⟨rfl, rfl⟩⟩
  simp only [allQ]
  intro r4x1 _
  intro r4x3 _
  intro gb hGb
  intro gg sb Xb pb qb he BXb IVb
  simp only [List.nil_append, List.cons_append, List.getElem?_cons_succ, List.getElem?_cons_zero, Option.some.injEq] at he
  obtain rfl := ptr_inj he
  clear he
  replace BXb := Lib.hid BXb; replace IVb := Lib.hid IVb
  simp only [setOpt, List.set_cons_succ, List.set_cons_zero, ptr]
  refine hK _ _ ?_
  clear hK K
  replace BXc := Lib.hid (BXc.out.next hs rfl); replace IVc := Lib.hid (iv_next IVc.out hs rfl)
  replace BXa := Lib.hid (BXa.out.next hs rfl); replace IVa := Lib.hid (iv_next IVa.out hs rfl)
  replace RX1 := Lib.hid (RX1.out.next hs rfl); replace RW1 := Lib.hid (RW1.out.next hs rfl)
  replace DW := Lib.hid (link_below DW.out hs (by have := DW.out.size; omega) rfl rfl rfl rfl)
  clear hs
  clear RX1 RW1 MKy
  have hpb : pb = 0 := IVb.out.len0.2 HX.out
  subst hpb
  have w50a := BXa.out.cell0; have w50b := BXa.out.cell1; have w51a := BXb.out.cell0; have w51b := BXb.out.cell1
  go_wp2_with fail
  clear w50a w50b w51a w51b
  refine (gcd_is _ _ za zb zg _ IVa.out IVb.out (SZa.out.mono (by omega)) (SZb.out.mono (by omega)) HZG.out).mono ?_
  rintro e y7 ⟨_, rfl, hq, hb⟩
  obtain ⟨Xg, pg, qg, rfl, _, _, _⟩ := hq.form
  have Q := Lib.hid hq; have B := Lib.hid hb; clear hq hb
  generalize hs : decide ((zg : Int) < 0) = sg at *
  obtain rfl : sg = false := by rw [← hs]; simp only [decide_eq_false_iff_not, Int.not_lt]; exact G0.out
  clear hs
  go_upto_region 8 with fail
  obtain ⟨W6, hW⟩ : ∃ W6, W6 = y7.alloc (Obj.cells #[Value.bool false, Value.slice Xg pg qg] 27) := ⟨_, rfl⟩
  rw [← hW]
  have BXg : Hid (Box W6 y7.heap.size false (.slice Xg pg qg)) := by rw [hW]; exact Box.new _ _ _
  have IVg : Hid (Iv W6 (.agg #[.bool false, .slice Xg pg qg]) (zg)) := by rw [hW]; exact Q.out.alloc _
  have hd : Below wn.heap.size wn W6 := by rw [hW]; exact B.out.alloc B.out.size _
  clear hW Q B
  generalize hgn : y7.heap.size = gg at *
  clear hgn
  replace BXc := Lib.hid (BXc.out.next hd rfl); replace IVc := Lib.hid (iv_next IVc.out hd rfl)
  replace BXa := Lib.hid (BXa.out.next hd rfl); replace IVa := Lib.hid (iv_next IVa.out hd rfl)
  replace BXb := Lib.hid (BXb.out.next hd rfl); replace IVb := Lib.hid (iv_next IVb.out hd rfl)
  replace DW := Lib.hid (link_below DW.out hd (by have := DW.out.size; omega) rfl rfl rfl rfl)
  clear hd
  have w70a := BXa.out.cell0; have w70b := BXa.out.cell1; have w71a := BXb.out.cell0; have w71b := BXb.out.cell1
  go_wp2_with fail
  clear w70a w70b w71a w71b
  refine (bezout_zero_is _ _ za zb zg _ IVa.out IVb.out (SZa.out.mono (by omega)) HX.out HZG.out).mono ?_
  rintro e y8 ⟨_, _, _, rfl, hq0, hq1, hq2, hb⟩
  have SG : Hid (-1 ≤ sg za ∧ sg za ≤ 1) := sg_one za
  have SZu : Hid (Sz (sg za) 2) := I64.sz ⟨by have := SG.out; omega, by have := SG.out; omega⟩
  have SZv : Hid (Sz 0 2) := I64.sz ⟨by omega, by omega⟩
  have HEQ : Hid ((sg za) * (za) + (0) * (zb) = zg) := sg_mul_abs za zb zg 0 HZG.out HX.out
  obtain ⟨Xh, ph, qh, rfl, _, _, _⟩ := hq0.form
  have Q0 := Lib.hid hq0; clear hq0
  obtain ⟨Xu, pu, qu, rfl, _, _, _⟩ := hq1.form
  have Q1 := Lib.hid hq1; clear hq1
  obtain ⟨Xv, pv, qv, rfl, _, _, _⟩ := hq2.form
  have Q2 := Lib.hid hq2; clear hq2
  have B := Lib.hid hb; clear hb
  generalize hs : decide ((zg : Int) < 0) = sh at *
  obtain rfl : sh = false := by rw [← hs]; simp only [decide_eq_false_iff_not, Int.not_lt]; exact G0.out
  clear hs
  generalize hs : decide ((sg za : Int) < 0) = su at *
  clear hs
  generalize hs : decide ((0 : Int) < 0) = sv at *
  obtain rfl : sv = false := by rw [← hs]; simp only [decide_eq_false_iff_not, Int.not_lt]; exact Int.le_refl 0
  clear hs
  go_upto_region 9 with fail
  obtain ⟨W8, hW⟩ : ∃ W8, W8 = (((y8.alloc (Obj.cells #[Value.bool false, Value.slice Xh ph qh] 27)).alloc (Obj.cells #[Value.bool su, Value.slice Xu pu qu] 27)).alloc (Obj.cells #[Value.bool false, Value.slice Xv pv qv] 27)) := ⟨_, rfl⟩
  rw [← hW]
  have BXh : Hid (Box W8 (y8.heap.size) false (.slice Xh ph qh)) := by rw [hW]; have := ((Box.new y8 false (.slice Xh ph qh)).alloc (Obj.cells #[Value.bool su, Value.slice Xu pu qu] 27)).alloc (Obj.cells #[Value.bool false, Value.slice Xv pv qv] 27); simpa [Hid] using this
  have IVh : Hid (Iv W8 (.agg #[.bool false, .slice Xh ph qh]) (zg)) := by rw [hW]; exact (((Q0.out.alloc _).alloc _).alloc _)
  have BXu : Hid (Box W8 (y8.heap.size + 1) su (.slice Xu pu qu)) := by rw [hW]; have := (Box.new (y8.alloc (Obj.cells #[Value.bool false, Value.slice Xh ph qh] 27)) su (.slice Xu pu qu)).alloc (Obj.cells #[Value.bool false, Value.slice Xv pv qv] 27); simpa [Hid] using this
  have IVu : Hid (Iv W8 (.agg #[.bool su, .slice Xu pu qu]) (sg za)) := by rw [hW]; exact (((Q1.out.alloc _).alloc _).alloc _)
  have BXv : Hid (Box W8 (y8.heap.size + 1 + 1) false (.slice Xv pv qv)) := by rw [hW]; have := Box.new ((y8.alloc (Obj.cells #[Value.bool false, Value.slice Xh ph qh] 27)).alloc (Obj.cells #[Value.bool su, Value.slice Xu pu qu] 27)) false (.slice Xv pv qv); simpa [Hid] using this
  have IVv : Hid (Iv W8 (.agg #[.bool false, .slice Xv pv qv]) (0)) := by rw [hW]; exact (((Q2.out.alloc _).alloc _).alloc _)
  have hd : Below W6.heap.size W6 W8 := by rw [hW]; exact (((B.out.alloc (by have := B.out.size; simp <;> omega) _).alloc (by have := B.out.size; simp <;> omega) _).alloc (by have := B.out.size; simp <;> omega) _)
  clear hW B Q0 Q1 Q2
  generalize hgn2 : y8.heap.size + 1 + 1 = gv at *
  clear hgn2
  generalize hgn1 : y8.heap.size + 1 = gu at *
  clear hgn1
  generalize hgn0 : y8.heap.size = gh at *
  clear hgn0
  replace BXc := Lib.hid (BXc.out.next hd rfl); replace IVc := Lib.hid (iv_next IVc.out hd rfl)
  replace BXa := Lib.hid (BXa.out.next hd rfl); replace IVa := Lib.hid (iv_next IVa.out hd rfl)
  replace BXb := Lib.hid (BXb.out.next hd rfl); replace IVb := Lib.hid (iv_next IVb.out hd rfl)
  replace BXg := Lib.hid (BXg.out.next hd rfl); replace IVg := Lib.hid (iv_next IVg.out hd rfl)
  replace DW := Lib.hid (link_below DW.out hd (by have := DW.out.size; omega) rfl rfl rfl rfl)
  clear hd
  have SR9x16 : Hid (Sz (-(za)) 10) := (Sz.neg SZa.out)
  refine region_go W8 [.is (.agg #[.bool false, .slice Xg pg qg]), .is (Value.bool true), .is (Value.bool false), .is (Value.bool false), .is (.pointer (some ⟨gg, 0, none⟩)), .is (.bool false), .is (.bool false), .is (.bool false), .is (.agg #[.bool false, .slice Xg pg qg]), .is (.agg #[.bool false, .slice Xh ph qh]), .is (Value.bool true), .is (Value.bool false), .is (Value.bool false), .is (Value.bool false), .is (.agg #[.bool sb, .slice Xb 0 qb]), .is (.agg #[.bool sa, .slice Xa pa qa]), .iv (-(za)), .iv (zg), .is (.agg #[.bool false, .slice Xg pg qg]), .is (Value.bool true), .is (Value.bool false), .is (Value.bool false), .is (Value.bool false), .is (.agg #[.bool false, .slice Xg pg qg]), .is (.agg #[.bool sa, .slice Xa pa qa]), .is (Value.bool true), .is (Value.bool false), .is (Value.bool false), .is (Value.bool false), .is (.agg #[.bool false, .slice Xg pg qg]), .is (.agg #[.bool sb, .slice Xb 0 qb]), .is (Value.bool true), .is (Value.bool false), .is (Value.bool false), .is (Value.bool false), .is (.agg #[.bool sc, .slice Xc pc qc]), .is (.agg #[.bool false, .slice Xg pg qg]), .is (Value.bool true), .is (Value.bool false), .is (Value.bool false)] [some 41, some 42, some 43, some 44, some 45, some 46, some 47, some 48, some 49, some 50, some 51, some 52, some 53, some 54, some 55, some 56, some 57, some 58, some 59, some 60, some 61, some 62, some 63, some 64, some 65, some 66, some 67, some 68, some 69, some 70, some 71, some 72, some 73, some 74, some 75, some 76, some 77, some 78, some 79, some 80] (by kernel_rfl) (by kernel_rfl) (by kernel_rfl) (by kernel_rfl) (by kernel_rfl) (by rfl) (by kernel_rfl) ((Below.refl _ _).drew) (fun Q' => ?_) (fun K hK wn hs => ?_)
  · refine ⟨?_, ?_, ?_, ?_, ?_, ?_, ?_, ?_, ?_, ?_, ?_, ?_, ?_, ?_, ?_, ?_, ?_, ?_, ?_, ?_, ?_, ?_, ?_, ?_, ?_, ?_, ?_, ?_, ?_, ?_, ?_, ?_, ?_, ?_, ?_, ?_, ?_, ?_, ?_, ?_, trivial⟩
    · intro a' w' ha hs hw
      have eo11 : a'.tmps[11]? = some (ptr gg) := (ha.rest 11 (by kernel_rfl)).trans rfl
      exact ⟨wanted_none rfl, rfl, wp_val (run_load rfl (ev_tmp eo11) (BXg.out.next hs rfl)) ⟨rfl, Below.refl _ _⟩⟩
    · intro a' w' ha hs hw
      have e0 : a'.tmps[41]? = some (.agg #[.bool false, .slice Xg pg qg]) := slot_get rfl rfl (hw 0 (by kernel_rfl) _ rfl)
      exact ⟨wanted_none rfl, rfl, call_step rfl Try.func37 (by kernel_rfl) rfl (map_one (ev_tmp e0)) (rvalid_any _ (zg) _ (iv_next IVg.out hs rfl) (SZg.out.mono (by omega))) (fun e w2 he => by obtain ⟨rfl, hb⟩ := he; exact ⟨_, rfl, rfl, hb⟩)⟩
    · intro a' w' ha hs hw
      have e1 : a'.tmps[42]? = some (Value.bool true) := slot_get rfl rfl (hw 1 (by kernel_rfl) _ rfl)
      exact ⟨wanted_none rfl, rfl, wp_val (run_not rfl (ev_tmp e1)) ⟨rfl, Below.refl _ _⟩⟩
    · intro a' w' ha hs hw
      have e2 : a'.tmps[43]? = some (Value.bool false) := slot_get rfl rfl (hw 2 (by kernel_rfl) _ rfl)
      exact ⟨wanted_none rfl, rfl, wp_val (run_move rfl (ev_tmp e2)) ⟨rfl, Below.refl _ _⟩⟩
    · intro a' w' ha hs hw
      have e3 : a'.tmps[44]? = some (Value.bool false) := slot_get rfl rfl (hw 3 (by kernel_rfl) _ rfl)
      have eo11 : a'.tmps[11]? = some (ptr gg) := (ha.rest 11 (by kernel_rfl)).trans rfl
      exact ⟨wanted_some rfl rfl rfl e3, rfl, wp_val (run_field0 rfl (ev_tmp eo11)) ⟨rfl, Below.refl _ _⟩⟩
    · intro a' w' ha hs hw
      have e3 : a'.tmps[44]? = some (Value.bool false) := slot_get rfl rfl (hw 3 (by kernel_rfl) _ rfl)
      have e4 : a'.tmps[45]? = some (.pointer (some ⟨gg, 0, none⟩)) := slot_get rfl rfl (hw 4 (by kernel_rfl) _ rfl)
      exact ⟨wanted_some rfl rfl rfl e3, rfl, wp_val (run_load0 rfl (ev_tmp e4) (BXg.out.next hs rfl)) ⟨rfl, Below.refl _ _⟩⟩
    · intro a' w' ha hs hw
      have e3 : a'.tmps[44]? = some (Value.bool false) := slot_get rfl rfl (hw 3 (by kernel_rfl) _ rfl)
      have e5 : a'.tmps[46]? = some (.bool false) := slot_get rfl rfl (hw 5 (by kernel_rfl) _ rfl)
      exact ⟨wanted_none rfl, rfl, wp_val (run_pick (b := false) rfl (ev_tmp e3) (ev_tmp e5)) ⟨rfl, Below.refl _ _⟩⟩
    · intro a' w' ha hs hw
      have e6 : a'.tmps[47]? = some (.bool false) := slot_get rfl rfl (hw 6 (by kernel_rfl) _ rfl)
      exact ⟨wanted_none rfl, rfl, wp_val (run_move rfl (ev_tmp e6)) ⟨rfl, Below.refl _ _⟩⟩
    · intro a' w' ha hs hw
      have e7 : a'.tmps[48]? = some (.bool false) := slot_get rfl rfl (hw 7 (by kernel_rfl) _ rfl)
      have eo11 : a'.tmps[11]? = some (ptr gg) := (ha.rest 11 (by kernel_rfl)).trans rfl
      exact ⟨wanted_some rfl rfl rfl e7, rfl, wp_val (run_load rfl (ev_tmp eo11) (BXg.out.next hs rfl)) ⟨rfl, Below.refl _ _⟩⟩
    · intro a' w' ha hs hw
      have e7 : a'.tmps[48]? = some (.bool false) := slot_get rfl rfl (hw 7 (by kernel_rfl) _ rfl)
      have eo12 : a'.tmps[12]? = some (ptr gh) := (ha.rest 12 (by kernel_rfl)).trans rfl
      exact ⟨wanted_some rfl rfl rfl e7, rfl, wp_val (run_load rfl (ev_tmp eo12) (BXh.out.next hs rfl)) ⟨rfl, Below.refl _ _⟩⟩
    · intro a' w' ha hs hw
      have e7 : a'.tmps[48]? = some (.bool false) := slot_get rfl rfl (hw 7 (by kernel_rfl) _ rfl)
      have e8 : a'.tmps[49]? = some (.agg #[.bool false, .slice Xg pg qg]) := slot_get rfl rfl (hw 8 (by kernel_rfl) _ rfl)
      have e9 : a'.tmps[50]? = some (.agg #[.bool false, .slice Xh ph qh]) := slot_get rfl rfl (hw 9 (by kernel_rfl) _ rfl)
      exact ⟨wanted_some rfl rfl rfl e7, rfl, call_step rfl Try.func19 (by kernel_rfl) rfl (map_two (ev_tmp e8) (ev_tmp e9)) (same_true _ _ (zg) (zg) _ (iv_next IVg.out hs rfl) (iv_next IVh.out hs rfl) (SZg.out.mono (by omega)) (rfl)) (fun e w2 he => by obtain ⟨rfl, hb⟩ := he; exact ⟨_, rfl, rfl, hb⟩)⟩
    · intro a' w' ha hs hw
      have e7 : a'.tmps[48]? = some (.bool false) := slot_get rfl rfl (hw 7 (by kernel_rfl) _ rfl)
      have e10 : a'.tmps[51]? = some (Value.bool true) := slot_get rfl rfl (hw 10 (by kernel_rfl) _ rfl)
      exact ⟨wanted_some rfl rfl rfl e7, rfl, wp_val (run_not rfl (ev_tmp e10)) ⟨rfl, Below.refl _ _⟩⟩
    · intro a' w' ha hs hw
      have e7 : a'.tmps[48]? = some (.bool false) := slot_get rfl rfl (hw 7 (by kernel_rfl) _ rfl)
      have e11 : a'.tmps[52]? = some (Value.bool false) := slot_get rfl rfl (hw 11 (by kernel_rfl) _ rfl)
      exact ⟨wanted_none rfl, rfl, wp_val (run_pick (b := false) rfl (ev_tmp e7) (ev_tmp e11)) ⟨rfl, Below.refl _ _⟩⟩
    · intro a' w' ha hs hw
      have e12 : a'.tmps[53]? = some (Value.bool false) := slot_get rfl rfl (hw 12 (by kernel_rfl) _ rfl)
      exact ⟨wanted_none rfl, rfl, wp_val (run_move rfl (ev_tmp e12)) ⟨rfl, Below.refl _ _⟩⟩
    · intro a' w' ha hs hw
      have e13 : a'.tmps[54]? = some (Value.bool false) := slot_get rfl rfl (hw 13 (by kernel_rfl) _ rfl)
      have eo10 : a'.tmps[10]? = some (ptr gb) := (ha.rest 10 (by kernel_rfl)).trans rfl
      exact ⟨wanted_some rfl rfl rfl e13, rfl, wp_val (run_load rfl (ev_tmp eo10) (BXb.out.next hs rfl)) ⟨rfl, Below.refl _ _⟩⟩
    · intro a' w' ha hs hw
      have e13 : a'.tmps[54]? = some (Value.bool false) := slot_get rfl rfl (hw 13 (by kernel_rfl) _ rfl)
      have eo9 : a'.tmps[9]? = some (ptr ga) := (ha.rest 9 (by kernel_rfl)).trans rfl
      exact ⟨wanted_some rfl rfl rfl e13, rfl, wp_val (run_load rfl (ev_tmp eo9) (BXa.out.next hs rfl)) ⟨rfl, Below.refl _ _⟩⟩
    · intro a' w' ha hs hw
      have e13 : a'.tmps[54]? = some (Value.bool false) := slot_get rfl rfl (hw 13 (by kernel_rfl) _ rfl)
      have e15 : a'.tmps[56]? = some (.agg #[.bool sa, .slice Xa pa qa]) := slot_get rfl rfl (hw 15 (by kernel_rfl) _ rfl)
      exact ⟨wanted_some rfl rfl rfl e13, rfl, call_step rfl Try.func38 (by kernel_rfl) rfl (map_one (ev_tmp e15)) (neg_any _ (za) _ (iv_next IVa.out hs rfl) (SZa.out.mono (by omega))) (fun e w2 he => by obtain ⟨v, rfl, hv, hb⟩ := he; exact ⟨v, rfl, v, rfl, hv, hb⟩)⟩
    · intro a' w' ha hs hw
      have e13 : a'.tmps[54]? = some (Value.bool false) := slot_get rfl rfl (hw 13 (by kernel_rfl) _ rfl)
      have e14 : a'.tmps[55]? = some (.agg #[.bool sb, .slice Xb 0 qb]) := slot_get rfl rfl (hw 14 (by kernel_rfl) _ rfl)
      obtain ⟨v16, e16, q16⟩ := hw 16 (by kernel_rfl) _ rfl
      replace e16 : a'.tmps[57]? = some v16 := slot_get rfl rfl e16
      exact ⟨wanted_some rfl rfl rfl e13, rfl, call_step rfl Try.func21 (by kernel_rfl) rfl (map_two (ev_tmp e14) (ev_tmp e16)) (gcd_is _ _ zb (-(za)) zg _ (iv_next IVb.out hs rfl) q16 (SZb.out.mono (by omega)) (Sz.mono (Sz.neg SZa.out) (by omega)) (by rw [gcd_turn]; exact HZG.out)) (fun e w2 he => by obtain ⟨v, rfl, hv, hb⟩ := he; exact ⟨v, rfl, v, rfl, hv, hb⟩)⟩
    · intro a' w' ha hs hw
      have e13 : a'.tmps[54]? = some (Value.bool false) := slot_get rfl rfl (hw 13 (by kernel_rfl) _ rfl)
      have eo11 : a'.tmps[11]? = some (ptr gg) := (ha.rest 11 (by kernel_rfl)).trans rfl
      exact ⟨wanted_some rfl rfl rfl e13, rfl, wp_val (run_load rfl (ev_tmp eo11) (BXg.out.next hs rfl)) ⟨rfl, Below.refl _ _⟩⟩
    · intro a' w' ha hs hw
      have e13 : a'.tmps[54]? = some (Value.bool false) := slot_get rfl rfl (hw 13 (by kernel_rfl) _ rfl)
      obtain ⟨v17, e17, q17⟩ := hw 17 (by kernel_rfl) _ rfl
      replace e17 : a'.tmps[58]? = some v17 := slot_get rfl rfl e17
      have e18 : a'.tmps[59]? = some (.agg #[.bool false, .slice Xg pg qg]) := slot_get rfl rfl (hw 18 (by kernel_rfl) _ rfl)
      exact ⟨wanted_some rfl rfl rfl e13, rfl, call_step rfl Try.func19 (by kernel_rfl) rfl (map_two (ev_tmp e17) (ev_tmp e18)) (same_true _ _ (zg) (zg) _ q17 (iv_next IVg.out hs rfl) (SZg.out.mono (by omega)) (rfl)) (fun e w2 he => by obtain ⟨rfl, hb⟩ := he; exact ⟨_, rfl, rfl, hb⟩)⟩
    · intro a' w' ha hs hw
      have e13 : a'.tmps[54]? = some (Value.bool false) := slot_get rfl rfl (hw 13 (by kernel_rfl) _ rfl)
      have e19 : a'.tmps[60]? = some (Value.bool true) := slot_get rfl rfl (hw 19 (by kernel_rfl) _ rfl)
      exact ⟨wanted_some rfl rfl rfl e13, rfl, wp_val (run_not rfl (ev_tmp e19)) ⟨rfl, Below.refl _ _⟩⟩
    · intro a' w' ha hs hw
      have e13 : a'.tmps[54]? = some (Value.bool false) := slot_get rfl rfl (hw 13 (by kernel_rfl) _ rfl)
      have e20 : a'.tmps[61]? = some (Value.bool false) := slot_get rfl rfl (hw 20 (by kernel_rfl) _ rfl)
      exact ⟨wanted_none rfl, rfl, wp_val (run_pick (b := false) rfl (ev_tmp e13) (ev_tmp e20)) ⟨rfl, Below.refl _ _⟩⟩
    · intro a' w' ha hs hw
      have e21 : a'.tmps[62]? = some (Value.bool false) := slot_get rfl rfl (hw 21 (by kernel_rfl) _ rfl)
      exact ⟨wanted_none rfl, rfl, wp_val (run_move rfl (ev_tmp e21)) ⟨rfl, Below.refl _ _⟩⟩
    · intro a' w' ha hs hw
      have e22 : a'.tmps[63]? = some (Value.bool false) := slot_get rfl rfl (hw 22 (by kernel_rfl) _ rfl)
      have eo11 : a'.tmps[11]? = some (ptr gg) := (ha.rest 11 (by kernel_rfl)).trans rfl
      exact ⟨wanted_some rfl rfl rfl e22, rfl, wp_val (run_load rfl (ev_tmp eo11) (BXg.out.next hs rfl)) ⟨rfl, Below.refl _ _⟩⟩
    · intro a' w' ha hs hw
      have e22 : a'.tmps[63]? = some (Value.bool false) := slot_get rfl rfl (hw 22 (by kernel_rfl) _ rfl)
      have eo9 : a'.tmps[9]? = some (ptr ga) := (ha.rest 9 (by kernel_rfl)).trans rfl
      exact ⟨wanted_some rfl rfl rfl e22, rfl, wp_val (run_load rfl (ev_tmp eo9) (BXa.out.next hs rfl)) ⟨rfl, Below.refl _ _⟩⟩
    · intro a' w' ha hs hw
      have e22 : a'.tmps[63]? = some (Value.bool false) := slot_get rfl rfl (hw 22 (by kernel_rfl) _ rfl)
      have e23 : a'.tmps[64]? = some (.agg #[.bool false, .slice Xg pg qg]) := slot_get rfl rfl (hw 23 (by kernel_rfl) _ rfl)
      have e24 : a'.tmps[65]? = some (.agg #[.bool sa, .slice Xa pa qa]) := slot_get rfl rfl (hw 24 (by kernel_rfl) _ rfl)
      exact ⟨wanted_some rfl rfl rfl e22, rfl, call_step rfl Try.func39 (by kernel_rfl) rfl (map_two (ev_tmp e23) (ev_tmp e24)) (divides_true _ _ zg za _ (iv_next IVg.out hs rfl) (iv_next IVa.out hs rfl) (SZg.out.mono (by omega)) (SZa.out.mono (by omega)) D1.out) (fun e w2 he => by obtain ⟨rfl, hb⟩ := he; exact ⟨_, rfl, rfl, hb⟩)⟩
    · intro a' w' ha hs hw
      have e22 : a'.tmps[63]? = some (Value.bool false) := slot_get rfl rfl (hw 22 (by kernel_rfl) _ rfl)
      have e25 : a'.tmps[66]? = some (Value.bool true) := slot_get rfl rfl (hw 25 (by kernel_rfl) _ rfl)
      exact ⟨wanted_some rfl rfl rfl e22, rfl, wp_val (run_not rfl (ev_tmp e25)) ⟨rfl, Below.refl _ _⟩⟩
    · intro a' w' ha hs hw
      have e22 : a'.tmps[63]? = some (Value.bool false) := slot_get rfl rfl (hw 22 (by kernel_rfl) _ rfl)
      have e26 : a'.tmps[67]? = some (Value.bool false) := slot_get rfl rfl (hw 26 (by kernel_rfl) _ rfl)
      exact ⟨wanted_none rfl, rfl, wp_val (run_pick (b := false) rfl (ev_tmp e22) (ev_tmp e26)) ⟨rfl, Below.refl _ _⟩⟩
    · intro a' w' ha hs hw
      have e27 : a'.tmps[68]? = some (Value.bool false) := slot_get rfl rfl (hw 27 (by kernel_rfl) _ rfl)
      exact ⟨wanted_none rfl, rfl, wp_val (run_move rfl (ev_tmp e27)) ⟨rfl, Below.refl _ _⟩⟩
    · intro a' w' ha hs hw
      have e28 : a'.tmps[69]? = some (Value.bool false) := slot_get rfl rfl (hw 28 (by kernel_rfl) _ rfl)
      have eo11 : a'.tmps[11]? = some (ptr gg) := (ha.rest 11 (by kernel_rfl)).trans rfl
      exact ⟨wanted_some rfl rfl rfl e28, rfl, wp_val (run_load rfl (ev_tmp eo11) (BXg.out.next hs rfl)) ⟨rfl, Below.refl _ _⟩⟩
    · intro a' w' ha hs hw
      have e28 : a'.tmps[69]? = some (Value.bool false) := slot_get rfl rfl (hw 28 (by kernel_rfl) _ rfl)
      have eo10 : a'.tmps[10]? = some (ptr gb) := (ha.rest 10 (by kernel_rfl)).trans rfl
      exact ⟨wanted_some rfl rfl rfl e28, rfl, wp_val (run_load rfl (ev_tmp eo10) (BXb.out.next hs rfl)) ⟨rfl, Below.refl _ _⟩⟩
    · intro a' w' ha hs hw
      have e28 : a'.tmps[69]? = some (Value.bool false) := slot_get rfl rfl (hw 28 (by kernel_rfl) _ rfl)
      have e29 : a'.tmps[70]? = some (.agg #[.bool false, .slice Xg pg qg]) := slot_get rfl rfl (hw 29 (by kernel_rfl) _ rfl)
      have e30 : a'.tmps[71]? = some (.agg #[.bool sb, .slice Xb 0 qb]) := slot_get rfl rfl (hw 30 (by kernel_rfl) _ rfl)
      exact ⟨wanted_some rfl rfl rfl e28, rfl, call_step rfl Try.func39 (by kernel_rfl) rfl (map_two (ev_tmp e29) (ev_tmp e30)) (divides_true _ _ zg zb _ (iv_next IVg.out hs rfl) (iv_next IVb.out hs rfl) (SZg.out.mono (by omega)) (SZb.out.mono (by omega)) D2.out) (fun e w2 he => by obtain ⟨rfl, hb⟩ := he; exact ⟨_, rfl, rfl, hb⟩)⟩
    · intro a' w' ha hs hw
      have e28 : a'.tmps[69]? = some (Value.bool false) := slot_get rfl rfl (hw 28 (by kernel_rfl) _ rfl)
      have e31 : a'.tmps[72]? = some (Value.bool true) := slot_get rfl rfl (hw 31 (by kernel_rfl) _ rfl)
      exact ⟨wanted_some rfl rfl rfl e28, rfl, wp_val (run_not rfl (ev_tmp e31)) ⟨rfl, Below.refl _ _⟩⟩
    · intro a' w' ha hs hw
      have e28 : a'.tmps[69]? = some (Value.bool false) := slot_get rfl rfl (hw 28 (by kernel_rfl) _ rfl)
      have e32 : a'.tmps[73]? = some (Value.bool false) := slot_get rfl rfl (hw 32 (by kernel_rfl) _ rfl)
      exact ⟨wanted_none rfl, rfl, wp_val (run_pick (b := false) rfl (ev_tmp e28) (ev_tmp e32)) ⟨rfl, Below.refl _ _⟩⟩
    · intro a' w' ha hs hw
      have e33 : a'.tmps[74]? = some (Value.bool false) := slot_get rfl rfl (hw 33 (by kernel_rfl) _ rfl)
      exact ⟨wanted_none rfl, rfl, wp_val (run_move rfl (ev_tmp e33)) ⟨rfl, Below.refl _ _⟩⟩
    · intro a' w' ha hs hw
      have e34 : a'.tmps[75]? = some (Value.bool false) := slot_get rfl rfl (hw 34 (by kernel_rfl) _ rfl)
      have eo8 : a'.tmps[8]? = some (ptr gc) := (ha.rest 8 (by kernel_rfl)).trans rfl
      exact ⟨wanted_some rfl rfl rfl e34, rfl, wp_val (run_load rfl (ev_tmp eo8) (BXc.out.next hs rfl)) ⟨rfl, Below.refl _ _⟩⟩
    · intro a' w' ha hs hw
      have e34 : a'.tmps[75]? = some (Value.bool false) := slot_get rfl rfl (hw 34 (by kernel_rfl) _ rfl)
      have eo11 : a'.tmps[11]? = some (ptr gg) := (ha.rest 11 (by kernel_rfl)).trans rfl
      exact ⟨wanted_some rfl rfl rfl e34, rfl, wp_val (run_load rfl (ev_tmp eo11) (BXg.out.next hs rfl)) ⟨rfl, Below.refl _ _⟩⟩
    · intro a' w' ha hs hw
      have e34 : a'.tmps[75]? = some (Value.bool false) := slot_get rfl rfl (hw 34 (by kernel_rfl) _ rfl)
      have e35 : a'.tmps[76]? = some (.agg #[.bool sc, .slice Xc pc qc]) := slot_get rfl rfl (hw 35 (by kernel_rfl) _ rfl)
      have e36 : a'.tmps[77]? = some (.agg #[.bool false, .slice Xg pg qg]) := slot_get rfl rfl (hw 36 (by kernel_rfl) _ rfl)
      exact ⟨wanted_some rfl rfl rfl e34, rfl, call_step rfl Try.func39 (by kernel_rfl) rfl (map_two (ev_tmp e35) (ev_tmp e36)) (divides_true _ _ zc zg _ (iv_next IVc.out hs rfl) (iv_next IVg.out hs rfl) (SZc.out.mono (by omega)) (SZg.out.mono (by omega)) D3.out) (fun e w2 he => by obtain ⟨rfl, hb⟩ := he; exact ⟨_, rfl, rfl, hb⟩)⟩
    · intro a' w' ha hs hw
      have e34 : a'.tmps[75]? = some (Value.bool false) := slot_get rfl rfl (hw 34 (by kernel_rfl) _ rfl)
      have e37 : a'.tmps[78]? = some (Value.bool true) := slot_get rfl rfl (hw 37 (by kernel_rfl) _ rfl)
      exact ⟨wanted_some rfl rfl rfl e34, rfl, wp_val (run_not rfl (ev_tmp e37)) ⟨rfl, Below.refl _ _⟩⟩
    · intro a' w' ha hs hw
      have e34 : a'.tmps[75]? = some (Value.bool false) := slot_get rfl rfl (hw 34 (by kernel_rfl) _ rfl)
      have e38 : a'.tmps[79]? = some (Value.bool false) := slot_get rfl rfl (hw 38 (by kernel_rfl) _ rfl)
      exact ⟨wanted_none rfl, rfl, wp_val (run_pick (b := false) rfl (ev_tmp e34) (ev_tmp e38)) ⟨rfl, Below.refl _ _⟩⟩
  simp only [allQ]
  intro r9x16 _
  intro r9x17 _
  simp only [setOpt, List.set_cons_succ, List.set_cons_zero, ptr]
  refine hK _ _ ?_
  clear hK K
  replace BXc := Lib.hid (BXc.out.next hs rfl); replace IVc := Lib.hid (iv_next IVc.out hs rfl)
  replace BXa := Lib.hid (BXa.out.next hs rfl); replace IVa := Lib.hid (iv_next IVa.out hs rfl)
  replace BXb := Lib.hid (BXb.out.next hs rfl); replace IVb := Lib.hid (iv_next IVb.out hs rfl)
  replace BXg := Lib.hid (BXg.out.next hs rfl); replace IVg := Lib.hid (iv_next IVg.out hs rfl)
  replace BXh := Lib.hid (BXh.out.next hs rfl); replace IVh := Lib.hid (iv_next IVh.out hs rfl)
  replace BXu := Lib.hid (BXu.out.next hs rfl); replace IVu := Lib.hid (iv_next IVu.out hs rfl)
  replace BXv := Lib.hid (BXv.out.next hs rfl); replace IVv := Lib.hid (iv_next IVv.out hs rfl)
  replace DW := Lib.hid (link_below DW.out hs (by have := DW.out.size; omega) rfl rfl rfl rfl)
  clear hs
  go_upto_region 11 with fail
  have SR11x2 : Hid (Sz ((sg za) * (za)) 12) := (Sz.mul SZu.out SZa.out)
  have SR11x5 : Hid (Sz ((0) * (zb)) 12) := (Sz.mul SZv.out SZb.out)
  have SR11x6 : Hid (Sz (((sg za) * (za)) + ((0) * (zb))) 13) := (Sz.add (N := 12) (SR11x2.out.mono (by omega)) (SR11x5.out.mono (by omega)))
  refine region_go wn [.is (.agg #[.bool su, .slice Xu pu qu]), .is (.agg #[.bool sa, .slice Xa pa qa]), .iv ((sg za) * (za)), .is (.agg #[.bool false, .slice Xv pv qv]), .is (.agg #[.bool sb, .slice Xb 0 qb]), .iv ((0) * (zb)), .iv (((sg za) * (za)) + ((0) * (zb))), .is (.agg #[.bool false, .slice Xg pg qg]), .is (Value.bool true), .is (Value.bool false)] [some 81, some 82, some 83, some 84, some 85, some 86, some 87, some 88, some 89, some 90] (by kernel_rfl) (by kernel_rfl) (by kernel_rfl) (by kernel_rfl) (by kernel_rfl) (by rfl) (by kernel_rfl) ((Below.refl _ _).drew) (fun Q' => ?_) (fun K hK wn hs => ?_)
  · refine ⟨?_, ?_, ?_, ?_, ?_, ?_, ?_, ?_, ?_, ?_, trivial⟩
    · intro a' w' ha hs hw
      have eo13 : a'.tmps[13]? = some (ptr gu) := (ha.rest 13 (by kernel_rfl)).trans rfl
      exact ⟨wanted_none rfl, rfl, wp_val (run_load rfl (ev_tmp eo13) (BXu.out.next hs rfl)) ⟨rfl, Below.refl _ _⟩⟩
    · intro a' w' ha hs hw
      have eo9 : a'.tmps[9]? = some (ptr ga) := (ha.rest 9 (by kernel_rfl)).trans rfl
      exact ⟨wanted_none rfl, rfl, wp_val (run_load rfl (ev_tmp eo9) (BXa.out.next hs rfl)) ⟨rfl, Below.refl _ _⟩⟩
    · intro a' w' ha hs hw
      have e0 : a'.tmps[81]? = some (.agg #[.bool su, .slice Xu pu qu]) := slot_get rfl rfl (hw 0 (by kernel_rfl) _ rfl)
      have e1 : a'.tmps[82]? = some (.agg #[.bool sa, .slice Xa pa qa]) := slot_get rfl rfl (hw 1 (by kernel_rfl) _ rfl)
      exact ⟨wanted_none rfl, rfl, call_step rfl Try.func30 (by kernel_rfl) rfl (map_two (ev_tmp e0) (ev_tmp e1)) (mul_any _ _ (sg za) (za) _ (iv_next IVu.out hs rfl) (iv_next IVa.out hs rfl) (SZu.out.mono (by omega)) (SZa.out.mono (by omega))) (fun e w2 he => by obtain ⟨v, rfl, hv, hb⟩ := he; exact ⟨v, rfl, v, rfl, hv, hb⟩)⟩
    · intro a' w' ha hs hw
      have eo14 : a'.tmps[14]? = some (ptr gv) := (ha.rest 14 (by kernel_rfl)).trans rfl
      exact ⟨wanted_none rfl, rfl, wp_val (run_load rfl (ev_tmp eo14) (BXv.out.next hs rfl)) ⟨rfl, Below.refl _ _⟩⟩
    · intro a' w' ha hs hw
      have eo10 : a'.tmps[10]? = some (ptr gb) := (ha.rest 10 (by kernel_rfl)).trans rfl
      exact ⟨wanted_none rfl, rfl, wp_val (run_load rfl (ev_tmp eo10) (BXb.out.next hs rfl)) ⟨rfl, Below.refl _ _⟩⟩
    · intro a' w' ha hs hw
      have e3 : a'.tmps[84]? = some (.agg #[.bool false, .slice Xv pv qv]) := slot_get rfl rfl (hw 3 (by kernel_rfl) _ rfl)
      have e4 : a'.tmps[85]? = some (.agg #[.bool sb, .slice Xb 0 qb]) := slot_get rfl rfl (hw 4 (by kernel_rfl) _ rfl)
      exact ⟨wanted_none rfl, rfl, call_step rfl Try.func30 (by kernel_rfl) rfl (map_two (ev_tmp e3) (ev_tmp e4)) (mul_any _ _ (0) (zb) _ (iv_next IVv.out hs rfl) (iv_next IVb.out hs rfl) (SZv.out.mono (by omega)) (SZb.out.mono (by omega))) (fun e w2 he => by obtain ⟨v, rfl, hv, hb⟩ := he; exact ⟨v, rfl, v, rfl, hv, hb⟩)⟩
    · intro a' w' ha hs hw
      obtain ⟨v2, e2, q2⟩ := hw 2 (by kernel_rfl) _ rfl
      replace e2 : a'.tmps[83]? = some v2 := slot_get rfl rfl e2
      obtain ⟨v5, e5, q5⟩ := hw 5 (by kernel_rfl) _ rfl
      replace e5 : a'.tmps[86]? = some v5 := slot_get rfl rfl e5
      exact ⟨wanted_none rfl, rfl, call_step rfl Try.func26 (by kernel_rfl) rfl (map_two (ev_tmp e2) (ev_tmp e5)) (add_any _ _ ((sg za) * (za)) ((0) * (zb)) _ q2 q5 (SR11x2.out.mono (by omega)) (SR11x5.out.mono (by omega))) (fun e w2 he => by obtain ⟨v, rfl, hv, hb⟩ := he; exact ⟨v, rfl, v, rfl, hv, hb⟩)⟩
    · intro a' w' ha hs hw
      have eo11 : a'.tmps[11]? = some (ptr gg) := (ha.rest 11 (by kernel_rfl)).trans rfl
      exact ⟨wanted_none rfl, rfl, wp_val (run_load rfl (ev_tmp eo11) (BXg.out.next hs rfl)) ⟨rfl, Below.refl _ _⟩⟩
    · intro a' w' ha hs hw
      obtain ⟨v6, e6, q6⟩ := hw 6 (by kernel_rfl) _ rfl
      replace e6 : a'.tmps[87]? = some v6 := slot_get rfl rfl e6
      have e7 : a'.tmps[88]? = some (.agg #[.bool false, .slice Xg pg qg]) := slot_get rfl rfl (hw 7 (by kernel_rfl) _ rfl)
      exact ⟨wanted_none rfl, rfl, call_step rfl Try.func19 (by kernel_rfl) rfl (map_two (ev_tmp e6) (ev_tmp e7)) (same_true _ _ (((sg za) * (za)) + ((0) * (zb))) (zg) _ q6 (iv_next IVg.out hs rfl) (SR11x6.out.mono (by omega)) (HEQ.out)) (fun e w2 he => by obtain ⟨rfl, hb⟩ := he; exact ⟨_, rfl, rfl, hb⟩)⟩
    · intro a' w' ha hs hw
      have e8 : a'.tmps[89]? = some (Value.bool true) := slot_get rfl rfl (hw 8 (by kernel_rfl) _ rfl)
      exact ⟨wanted_none rfl, rfl, wp_val (run_not rfl (ev_tmp e8)) ⟨rfl, Below.refl _ _⟩⟩
  simp only [allQ]
  intro r10x2 _
  intro r10x5 _
  intro r10x6 _
  simp only [setOpt, List.set_cons_succ, List.set_cons_zero, ptr]
  refine hK _ _ ?_
  clear hK K
  replace BXc := Lib.hid (BXc.out.next hs rfl); replace IVc := Lib.hid (iv_next IVc.out hs rfl)
  replace BXa := Lib.hid (BXa.out.next hs rfl); replace IVa := Lib.hid (iv_next IVa.out hs rfl)
  replace BXb := Lib.hid (BXb.out.next hs rfl); replace IVb := Lib.hid (iv_next IVb.out hs rfl)
  replace BXg := Lib.hid (BXg.out.next hs rfl); replace IVg := Lib.hid (iv_next IVg.out hs rfl)
  replace BXh := Lib.hid (BXh.out.next hs rfl); replace IVh := Lib.hid (iv_next IVh.out hs rfl)
  replace BXu := Lib.hid (BXu.out.next hs rfl); replace IVu := Lib.hid (iv_next IVu.out hs rfl)
  replace BXv := Lib.hid (BXv.out.next hs rfl); replace IVv := Lib.hid (iv_next IVv.out hs rfl)
  replace DW := Lib.hid (link_below DW.out hs (by have := DW.out.size; omega) rfl rfl rfl rfl)
  clear hs
  have hpv : pv = 0 := IVv.out.len0.2 rfl
  subst hpv
  have w110a := BXb.out.cell0; have w110b := BXb.out.cell1
  go_upto_region 14 with fail
  clear w110a w110b
  refine region_go wn [.is (Value.bool true), .is (Value.bool true), .is (.agg #[.bool su, .slice Xu pu qu]), .is (.agg #[.bool sa, .slice Xa pa qa]), .is (Value.int IntKind.i64 (sg za)), .iv (sg za), .is (Value.bool true), .is (Value.bool true), .is (Value.bool true), .is (.pointer (some ⟨gv, 1, none⟩)), .is (.slice Xv 0 qv), .is (Value.int IntKind.i64 0), .is (Value.bool true), .is (Value.bool true), .is (Value.bool true)] [some 95, some 96, some 97, some 98, some 99, some 100, some 101, some 102, some 103, some 104, some 105, some 106, some 107, some 108, some 6] (by kernel_rfl) (by kernel_rfl) (by kernel_rfl) (by kernel_rfl) (by kernel_rfl) (by rfl) (by kernel_rfl) ((Below.refl _ _).drew) (fun Q' => ?_) (fun K hK wn hs => ?_)
  · refine ⟨?_, ?_, ?_, ?_, ?_, ?_, ?_, ?_, ?_, ?_, ?_, ?_, ?_, ?_, ?_, trivial⟩
    · intro a' w' ha hs hw
      have eo7 : a'.tmps[7]? = some (Value.bool true) := (ha.rest 7 (by kernel_rfl)).trans rfl
      exact ⟨wanted_none rfl, rfl, wp_val (run_move rfl (ev_tmp eo7)) ⟨rfl, Below.refl _ _⟩⟩
    · intro a' w' ha hs hw
      have e0 : a'.tmps[95]? = some (Value.bool true) := slot_get rfl rfl (hw 0 (by kernel_rfl) _ rfl)
      exact ⟨wanted_none rfl, rfl, wp_val (run_move rfl (ev_tmp e0)) ⟨rfl, Below.refl _ _⟩⟩
    · intro a' w' ha hs hw
      have e1 : a'.tmps[96]? = some (Value.bool true) := slot_get rfl rfl (hw 1 (by kernel_rfl) _ rfl)
      have eo13 : a'.tmps[13]? = some (ptr gu) := (ha.rest 13 (by kernel_rfl)).trans rfl
      exact ⟨wanted_some rfl rfl rfl e1, rfl, wp_val (run_load rfl (ev_tmp eo13) (BXu.out.next hs rfl)) ⟨rfl, Below.refl _ _⟩⟩
    · intro a' w' ha hs hw
      have e1 : a'.tmps[96]? = some (Value.bool true) := slot_get rfl rfl (hw 1 (by kernel_rfl) _ rfl)
      have eo9 : a'.tmps[9]? = some (ptr ga) := (ha.rest 9 (by kernel_rfl)).trans rfl
      exact ⟨wanted_some rfl rfl rfl e1, rfl, wp_val (run_load rfl (ev_tmp eo9) (BXa.out.next hs rfl)) ⟨rfl, Below.refl _ _⟩⟩
    · intro a' w' ha hs hw
      have e1 : a'.tmps[96]? = some (Value.bool true) := slot_get rfl rfl (hw 1 (by kernel_rfl) _ rfl)
      have e3 : a'.tmps[98]? = some (.agg #[.bool sa, .slice Xa pa qa]) := slot_get rfl rfl (hw 3 (by kernel_rfl) _ rfl)
      exact ⟨wanted_some rfl rfl rfl e1, rfl, call_step rfl Try.func41 (by kernel_rfl) rfl (map_one (ev_tmp e3)) (rsign_any _ za _ (iv_next IVa.out hs rfl)) (fun e w2 he => by obtain ⟨rfl, hb⟩ := he; exact ⟨_, rfl, rfl, hb⟩)⟩
    · intro a' w' ha hs hw
      have e1 : a'.tmps[96]? = some (Value.bool true) := slot_get rfl rfl (hw 1 (by kernel_rfl) _ rfl)
      have e4 : a'.tmps[99]? = some (Value.int IntKind.i64 (sg za)) := slot_get rfl rfl (hw 4 (by kernel_rfl) _ rfl)
      exact ⟨wanted_some rfl rfl rfl e1, rfl, call_step rfl Try.func40 (by kernel_rfl) rfl (map_one (ev_tmp e4)) (lof_any (sg za) _ (by have := SG.out; omega) (by have := SG.out; omega)) (fun e w2 he => by obtain ⟨v, rfl, hv, hb⟩ := he; exact ⟨v, rfl, v, rfl, hv, hb⟩)⟩
    · intro a' w' ha hs hw
      have e1 : a'.tmps[96]? = some (Value.bool true) := slot_get rfl rfl (hw 1 (by kernel_rfl) _ rfl)
      have e2 : a'.tmps[97]? = some (.agg #[.bool su, .slice Xu pu qu]) := slot_get rfl rfl (hw 2 (by kernel_rfl) _ rfl)
      obtain ⟨v5, e5, q5⟩ := hw 5 (by kernel_rfl) _ rfl
      replace e5 : a'.tmps[100]? = some v5 := slot_get rfl rfl e5
      exact ⟨wanted_some rfl rfl rfl e1, rfl, call_step rfl Try.func19 (by kernel_rfl) rfl (map_two (ev_tmp e2) (ev_tmp e5)) (same_true _ _ (sg za) (sg za) _ (iv_next IVu.out hs rfl) q5 (SZu.out.mono (by omega)) (rfl)) (fun e w2 he => by obtain ⟨rfl, hb⟩ := he; exact ⟨_, rfl, rfl, hb⟩)⟩
    · intro a' w' ha hs hw
      have e1 : a'.tmps[96]? = some (Value.bool true) := slot_get rfl rfl (hw 1 (by kernel_rfl) _ rfl)
      have e6 : a'.tmps[101]? = some (Value.bool true) := slot_get rfl rfl (hw 6 (by kernel_rfl) _ rfl)
      exact ⟨wanted_none rfl, rfl, wp_val (run_pick (b := true) rfl (ev_tmp e1) (ev_tmp e6)) ⟨rfl, Below.refl _ _⟩⟩
    · intro a' w' ha hs hw
      have e7 : a'.tmps[102]? = some (Value.bool true) := slot_get rfl rfl (hw 7 (by kernel_rfl) _ rfl)
      exact ⟨wanted_none rfl, rfl, wp_val (run_move rfl (ev_tmp e7)) ⟨rfl, Below.refl _ _⟩⟩
    · intro a' w' ha hs hw
      have e8 : a'.tmps[103]? = some (Value.bool true) := slot_get rfl rfl (hw 8 (by kernel_rfl) _ rfl)
      have eo14 : a'.tmps[14]? = some (ptr gv) := (ha.rest 14 (by kernel_rfl)).trans rfl
      exact ⟨wanted_some rfl rfl rfl e8, rfl, wp_val (run_field1 rfl (ev_tmp eo14)) ⟨rfl, Below.refl _ _⟩⟩
    · intro a' w' ha hs hw
      have e8 : a'.tmps[103]? = some (Value.bool true) := slot_get rfl rfl (hw 8 (by kernel_rfl) _ rfl)
      have e9 : a'.tmps[104]? = some (.pointer (some ⟨gv, 1, none⟩)) := slot_get rfl rfl (hw 9 (by kernel_rfl) _ rfl)
      exact ⟨wanted_some rfl rfl rfl e8, rfl, wp_val (run_load1 rfl (ev_tmp e9) (BXv.out.next hs rfl)) ⟨rfl, Below.refl _ _⟩⟩
    · intro a' w' ha hs hw
      have e8 : a'.tmps[103]? = some (Value.bool true) := slot_get rfl rfl (hw 8 (by kernel_rfl) _ rfl)
      have e10 : a'.tmps[105]? = some (.slice Xv 0 qv) := slot_get rfl rfl (hw 10 (by kernel_rfl) _ rfl)
      exact ⟨wanted_some rfl rfl rfl e8, rfl, wp_val (run_len rfl (ev_tmp e10) (by rfl)) ⟨rfl, Below.refl _ _⟩⟩
    · intro a' w' ha hs hw
      have e8 : a'.tmps[103]? = some (Value.bool true) := slot_get rfl rfl (hw 8 (by kernel_rfl) _ rfl)
      have e11 : a'.tmps[106]? = some (Value.int IntKind.i64 0) := slot_get rfl rfl (hw 11 (by kernel_rfl) _ rfl)
      exact ⟨wanted_some rfl rfl rfl e8, rfl, wp_val (show _ = _ from (run_eql_int rfl (ev_tmp e11) rfl).trans (by rfl)) ⟨rfl, Below.refl _ _⟩⟩
    · intro a' w' ha hs hw
      have e8 : a'.tmps[103]? = some (Value.bool true) := slot_get rfl rfl (hw 8 (by kernel_rfl) _ rfl)
      have e12 : a'.tmps[107]? = some (Value.bool true) := slot_get rfl rfl (hw 12 (by kernel_rfl) _ rfl)
      exact ⟨wanted_none rfl, rfl, wp_val (run_pick (b := true) rfl (ev_tmp e8) (ev_tmp e12)) ⟨rfl, Below.refl _ _⟩⟩
    · intro a' w' ha hs hw
      have e13 : a'.tmps[108]? = some (Value.bool true) := slot_get rfl rfl (hw 13 (by kernel_rfl) _ rfl)
      exact ⟨wanted_none rfl, rfl, wp_val (run_assign rfl (ev_tmp e13)) ⟨rfl, Below.refl _ _⟩⟩
  simp only [allQ]
  intro r12x5 _
  simp only [setOpt, List.set_cons_succ, List.set_cons_zero, ptr]
  refine hK _ _ ?_
  clear hK K
  replace BXc := Lib.hid (BXc.out.next hs rfl); replace IVc := Lib.hid (iv_next IVc.out hs rfl)
  replace BXa := Lib.hid (BXa.out.next hs rfl); replace IVa := Lib.hid (iv_next IVa.out hs rfl)
  replace BXb := Lib.hid (BXb.out.next hs rfl); replace IVb := Lib.hid (iv_next IVb.out hs rfl)
  replace BXg := Lib.hid (BXg.out.next hs rfl); replace IVg := Lib.hid (iv_next IVg.out hs rfl)
  replace BXh := Lib.hid (BXh.out.next hs rfl); replace IVh := Lib.hid (iv_next IVh.out hs rfl)
  replace BXu := Lib.hid (BXu.out.next hs rfl); replace IVu := Lib.hid (iv_next IVu.out hs rfl)
  replace BXv := Lib.hid (BXv.out.next hs rfl); replace IVv := Lib.hid (iv_next IVv.out hs rfl)
  replace DW := Lib.hid (link_below DW.out hs (by have := DW.out.size; omega) rfl rfl rfl rfl)
  clear hs
  go_wp2
  go_ret
  exact ⟨by simp, by rw [hg]; exact DW.out⟩

set_option maxHeartbeats 16000000 in
set_option maxRecDepth 100000 in
theorem lawDivisorsN_any (b0 : Bool) (A0 : Option Addr) (n0 c0 : Nat) (ws0 : List Nat) (b1 : Bool) (A1 : Option Addr) (n1 c1 : Nat) (ws1 : List Nat) (b2 : Bool) (A2 : Option Addr) (n2 c2 : Nat) (ws2 : List Nat)  (w : World) (h0 : Wd w A0 n0 ws0) (m0 : n0 ≤ 9223372036854775807) (h1 : Wd w A1 n1 ws1) (m1 : n1 ≤ 9223372036854775807) (h2 : Wd w A2 n2 ws2) (m2 : n2 ≤ 9223372036854775807) (hx0 : sgn b1 (val (ws1.take 6)) * sgn b2 (val (ws2.take 4)) ≠ 0) :
    Calls Try.prog 4 #[.agg #[.bool b0, .slice A0 n0 c0], .agg #[.bool b1, .slice A1 n1 c1], .agg #[.bool b2, .slice A2 n2 c2]] w fun e w' => e = .returned (.bool true) ∧ Below w.heap.size w w' := by
  obtain ⟨zx, hzx⟩ : ∃ z, z = sgn b0 (val (ws0.take 6)) := ⟨_, rfl⟩
  have SZx : Hid (Sz zx 6) := by rw [hzx]; exact sz_take _ _ _ h0.wds
  obtain ⟨zy, hzy⟩ : ∃ z, z = sgn b1 (val (ws1.take 6)) := ⟨_, rfl⟩
  have SZy : Hid (Sz zy 6) := by rw [hzy]; exact sz_take _ _ _ h1.wds
  obtain ⟨zc, hzc⟩ : ∃ z, z = sgn b2 (val (ws2.take 4)) := ⟨_, rfl⟩
  have SZc : Hid (Sz zc 4) := by rw [hzc]; exact sz_take _ _ _ h2.wds
  rw [← hzy, ← hzc] at hx0
  obtain ⟨za, hza⟩ : ∃ z, zx * zc = z := ⟨_, rfl⟩
  obtain ⟨zb, hzb⟩ : ∃ z, zy * zc = z := ⟨_, rfl⟩
  rw [hzb] at hx0
  have HX := Lib.hid hx0
  have SZa : Hid (Sz za 10) := by rw [← hza]; exact SZx.out.mul SZc.out
  have SZb : Hid (Sz zb 10) := by rw [← hzb]; exact SZy.out.mul SZc.out
  obtain ⟨zg, hzg⟩ : ∃ z, (Int.gcd za zb : Int) = z := ⟨_, rfl⟩
  have SZg : Hid (Sz zg 11) := by rw [← hzg]; exact sz_gcd SZa.out SZb.out
  have G0 : Hid (0 ≤ zg) := by rw [← hzg]; exact Int.natCast_nonneg _
  have D1 : Hid (zg ∣ za) := by rw [← hzg]; exact Int.gcd_dvd_left ..
  have D2 : Hid (zg ∣ zb) := by rw [← hzg]; exact Int.gcd_dvd_right ..
  have D3 : Hid (zc ∣ zg) := by rw [← hzg, ← hza, ← hzb]; exact dvd_gcd_mul zx zy zc
  have HZA := Lib.hid hza; have HZB := Lib.hid hzb; have HZG := Lib.hid hzg
  clear hx0 hza hzb hzg
  have MKx : Hid (∀ W, Wd W A0 n0 ws0 → Calls Try.prog 14 #[.agg #[.bool b0, .slice A0 n0 c0], .int .i64 6] W (RetIv zx W)) := fun W h => by rw [hzx]; exact rmade_raw b0 A0 n0 c0 6 6 ws0 W h rfl (by omega) m0
  have MKy : Hid (∀ W, Wd W A1 n1 ws1 → Calls Try.prog 14 #[.agg #[.bool b1, .slice A1 n1 c1], .int .i64 6] W (RetIv zy W)) := fun W h => by rw [hzy]; exact rmade_raw b1 A1 n1 c1 6 6 ws1 W h rfl (by omega) m1
  have HZX := Lib.hid hzx; have HZY := Lib.hid hzy
  clear hzx hzy
  go_enter Try.func4, Try.ntmps4
  go_wp2_with fail
  obtain ⟨W, hW⟩ : ∃ W, W = (((w.alloc (Obj.cells #[Value.bool b0, Value.slice A0 n0 c0] 24)).alloc (Obj.cells #[Value.bool b1, Value.slice A1 n1 c1] 24)).alloc (Obj.cells #[Value.bool b2, Value.slice A2 n2 c2] 24)) := ⟨_, rfl⟩
  rw [← hW]
  have RX0 : Hid (RBox W (w.heap.size) b0 (.slice A0 n0 c0)) := by rw [hW]; have := ((RBox.new w b0 (.slice A0 n0 c0)).alloc (Obj.cells #[Value.bool b1, Value.slice A1 n1 c1] 24)).alloc (Obj.cells #[Value.bool b2, Value.slice A2 n2 c2] 24); simpa [Hid] using this
  have RW0 : Hid (Wd W A0 n0 ws0) := by rw [hW]; exact (((h0).alloc _).alloc _).alloc _
  have RX1 : Hid (RBox W (w.heap.size + 1) b1 (.slice A1 n1 c1)) := by rw [hW]; have := (RBox.new (w.alloc (Obj.cells #[Value.bool b0, Value.slice A0 n0 c0] 24)) b1 (.slice A1 n1 c1)).alloc (Obj.cells #[Value.bool b2, Value.slice A2 n2 c2] 24); simpa [Hid] using this
  have RW1 : Hid (Wd W A1 n1 ws1) := by rw [hW]; exact (((h1).alloc _).alloc _).alloc _
  have RX2 : Hid (RBox W (w.heap.size + 1 + 1) b2 (.slice A2 n2 c2)) := by rw [hW]; have := RBox.new ((w.alloc (Obj.cells #[Value.bool b0, Value.slice A0 n0 c0] 24)).alloc (Obj.cells #[Value.bool b1, Value.slice A1 n1 c1] 24)) b2 (.slice A2 n2 c2); simpa [Hid] using this
  have RW2 : Hid (Wd W A2 n2 ws2) := by rw [hW]; exact (((h2).alloc _).alloc _).alloc _
  have DW : Hid (Below w.heap.size w W) := by rw [hW]; exact (((Below.refl _ _).alloc (by simp <;> omega) _).alloc (by simp <;> omega) _).alloc (by simp <;> omega) _
  clear hW h0 h1 h2
  generalize hg : w.heap.size = g at *
  refine (sanity_any _).mono ?_
  rintro e w1 ⟨rfl, hb1⟩
  replace RX0 := Lib.hid (RX0.out.next hb1 rfl); replace RW0 := Lib.hid (RW0.out.next hb1 rfl)
  replace RX1 := Lib.hid (RX1.out.next hb1 rfl); replace RW1 := Lib.hid (RW1.out.next hb1 rfl)
  replace RX2 := Lib.hid (RX2.out.next hb1 rfl); replace RW2 := Lib.hid (RW2.out.next hb1 rfl)
  replace DW := Lib.hid (link_below DW.out hb1 (by have := DW.out.size; omega) rfl rfl rfl rfl)
  clear hb1
  have u1 := RX2.out.cell0; have u2 := RX2.out.cell1
  go_wp2_with fail
  clear u1 u2
  refine (rmade_raw b2 A2 n2 c2 4 4 ws2 _ RW2.out rfl (by omega) m2).mono ?_
  rw [← hzc]
  rintro e y1 ⟨_, rfl, hq, hb⟩
  clear RX2 RW2
  obtain ⟨Xc, pc, qc, rfl, _, _, _⟩ := hq.form
  have Q := Lib.hid hq; have B := Lib.hid hb; clear hq hb
  generalize hs : decide ((zc : Int) < 0) = sc at *
  clear hs
  go_upto_region 5 with fail
  obtain ⟨W2, hW⟩ : ∃ W2, W2 = y1.alloc (Obj.cells #[Value.bool sc, Value.slice Xc pc qc] 27) := ⟨_, rfl⟩
  rw [← hW]
  have BXc : Hid (Box W2 y1.heap.size sc (.slice Xc pc qc)) := by rw [hW]; exact Box.new _ _ _
  have IVc : Hid (Iv W2 (.agg #[.bool sc, .slice Xc pc qc]) (zc)) := by rw [hW]; exact Q.out.alloc _
  have hd : Below w1.heap.size w1 W2 := by rw [hW]; exact B.out.alloc B.out.size _
  clear hW Q B
  generalize hgn : y1.heap.size = gc at *
  clear hgn
  replace RX0 := Lib.hid (RX0.out.next hd rfl); replace RW0 := Lib.hid (RW0.out.next hd rfl)
  replace RX1 := Lib.hid (RX1.out.next hd rfl); replace RW1 := Lib.hid (RW1.out.next hd rfl)
  replace DW := Lib.hid (link_below DW.out hd (by have := DW.out.size; omega) rfl rfl rfl rfl)
  clear hd
  refine region_go W2 [.is (.agg #[.bool b0, .slice A0 n0 c0]), .iv (zx), .is (.agg #[.bool sc, .slice Xc pc qc]), .iv (za), .new, .put 4 (za)] [some 23, some 24, some 25, some 26, some 9, none] (by kernel_rfl) (by kernel_rfl) (by kernel_rfl) (by kernel_rfl) (by kernel_rfl) (by rfl) (by kernel_rfl) ((Below.refl _ _).drew) (fun Q' => ?_) (fun K hK wn hs => ?_)
  · refine ⟨?_, ?_, ?_, ?_, ?_, ?_, trivial⟩
    · intro a' w' ha hs hw
      have eo3 : a'.tmps[3]? = some (ptr (g)) := (ha.rest 3 (by kernel_rfl)).trans rfl
      exact ⟨wanted_none rfl, rfl, wp_val (run_loadR rfl (ev_tmp eo3) (RX0.out.next hs rfl)) ⟨rfl, Below.refl _ _⟩⟩
    · intro a' w' ha hs hw
      have e0 : a'.tmps[23]? = some (.agg #[.bool b0, .slice A0 n0 c0]) := slot_get rfl rfl (hw 0 (by kernel_rfl) _ rfl)
      exact ⟨wanted_none rfl, rfl, call_step rfl Try.func14 (by kernel_rfl) rfl (map_two (ev_tmp e0) rfl) (MKx.out _ (RW0.out.next hs rfl)) (fun e w2 he => by obtain ⟨v, rfl, hv, hb⟩ := he; exact ⟨v, rfl, v, rfl, hv, hb⟩)⟩
    · intro a' w' ha hs hw
      have eo8 : a'.tmps[8]? = some (ptr gc) := (ha.rest 8 (by kernel_rfl)).trans rfl
      exact ⟨wanted_none rfl, rfl, wp_val (run_load rfl (ev_tmp eo8) (BXc.out.next hs rfl)) ⟨rfl, Below.refl _ _⟩⟩
    · intro a' w' ha hs hw
      obtain ⟨v1, e1, q1⟩ := hw 1 (by kernel_rfl) _ rfl
      replace e1 : a'.tmps[24]? = some v1 := slot_get rfl rfl e1
      have e2 : a'.tmps[25]? = some (.agg #[.bool sc, .slice Xc pc qc]) := slot_get rfl rfl (hw 2 (by kernel_rfl) _ rfl)
      exact ⟨wanted_none rfl, rfl, call_step rfl Try.func30 (by kernel_rfl) rfl (map_two (ev_tmp e1) (ev_tmp e2)) (mul_is _ _ zx zc za _ q1 (iv_next IVc.out hs rfl) (SZx.out.mono (by omega)) (SZc.out.mono (by omega)) HZA.out) (fun e w2 he => by obtain ⟨v, rfl, hv, hb⟩ := he; exact ⟨v, rfl, v, rfl, hv, hb⟩)⟩
    · intro a' w' ha hs hw
      exact ⟨wanted_none rfl, rfl, wp_valw (run_alloc rfl) ⟨rfl, rfl⟩⟩
    · intro a' w' ha hs hw
      obtain ⟨v3, e3, q3⟩ := hw 3 (by kernel_rfl) _ rfl
      replace e3 : a'.tmps[26]? = some v3 := slot_get rfl rfl e3
      refine ⟨wanted_none rfl, by kernel_rfl, fun g hg => ?_⟩
      obtain ⟨A, n, c, hf, _, _, _⟩ := q3.form
      subst hf
      exact ⟨_, A, n, c, q3, fun ⟨_, _, _, _, hb⟩ => wp_skipw (run_store rfl (ev_tmp (slot_get rfl rfl hg)) (ev_tmp e3) hb) rfl ⟨rfl, rfl⟩⟩
  simp only [allQ]
  intro r3x1 _
  intro r3x3 _
  intro ga hGa
  intro gg sa Xa pa qa he BXa IVa
  simp only [List.nil_append, List.cons_append, List.getElem?_cons_succ, List.getElem?_cons_zero, Option.some.injEq] at he
  obtain rfl := ptr_inj he
  clear he
  replace BXa := Lib.hid BXa; replace IVa := Lib.hid IVa
  simp only [setOpt, List.set_cons_succ, List.set_cons_zero, ptr]
  refine hK _ _ ?_
  clear hK K
  replace BXc := Lib.hid (BXc.out.next hs rfl); replace IVc := Lib.hid (iv_next IVc.out hs rfl)
  replace RX0 := Lib.hid (RX0.out.next hs rfl); replace RW0 := Lib.hid (RW0.out.next hs rfl)
  replace RX1 := Lib.hid (RX1.out.next hs rfl); replace RW1 := Lib.hid (RW1.out.next hs rfl)
  replace DW := Lib.hid (link_below DW.out hs (by have := DW.out.size; omega) rfl rfl rfl rfl)
  clear hs
  clear RX0 RW0 MKx
  go_upto_region 6 with fail
  refine region_go wn [.is (.agg #[.bool b1, .slice A1 n1 c1]), .iv (zy), .is (.agg #[.bool sc, .slice Xc pc qc]), .iv (zb), .new, .put 4 (zb)] [some 27, some 28, some 29, some 30, some 10, none] (by kernel_rfl) (by kernel_rfl) (by kernel_rfl) (by kernel_rfl) (by kernel_rfl) (by rfl) (by kernel_rfl) ((Below.refl _ _).drew) (fun Q' => ?_) (fun K hK wn hs => ?_)
  · refine ⟨?_, ?_, ?_, ?_, ?_, ?_, trivial⟩
    · intro a' w' ha hs hw
      have eo4 : a'.tmps[4]? = some (ptr (g + 1)) := (ha.rest 4 (by kernel_rfl)).trans rfl
      exact ⟨wanted_none rfl, rfl, wp_val (run_loadR rfl (ev_tmp eo4) (RX1.out.next hs rfl)) ⟨rfl, Below.refl _ _⟩⟩
    · intro a' w' ha hs hw
      have e0 : a'.tmps[27]? = some (.agg #[.bool b1, .slice A1 n1 c1]) := slot_get rfl rfl (hw 0 (by kernel_rfl) _ rfl)
      exact ⟨wanted_none rfl, rfl, call_step rfl Try.func14 (by kernel_rfl) rfl (map_two (ev_tmp e0) rfl) (MKy.out _ (RW1.out.next hs rfl)) (fun e w2 he => by obtain ⟨v, rfl, hv, hb⟩ := he; exact ⟨v, rfl, v, rfl, hv, hb⟩)⟩
    · intro a' w' ha hs hw
      have eo8 : a'.tmps[8]? = some (ptr gc) := (ha.rest 8 (by kernel_rfl)).trans rfl
      exact ⟨wanted_none rfl, rfl, wp_val (run_load rfl (ev_tmp eo8) (BXc.out.next hs rfl)) ⟨rfl, Below.refl _ _⟩⟩
    · intro a' w' ha hs hw
      obtain ⟨v1, e1, q1⟩ := hw 1 (by kernel_rfl) _ rfl
      replace e1 : a'.tmps[28]? = some v1 := slot_get rfl rfl e1
      have e2 : a'.tmps[29]? = some (.agg #[.bool sc, .slice Xc pc qc]) := slot_get rfl rfl (hw 2 (by kernel_rfl) _ rfl)
      exact ⟨wanted_none rfl, rfl, call_step rfl Try.func30 (by kernel_rfl) rfl (map_two (ev_tmp e1) (ev_tmp e2)) (mul_is _ _ zy zc zb _ q1 (iv_next IVc.out hs rfl) (SZy.out.mono (by omega)) (SZc.out.mono (by omega)) HZB.out) (fun e w2 he => by obtain ⟨v, rfl, hv, hb⟩ := he; exact ⟨v, rfl, v, rfl, hv, hb⟩)⟩
    · intro a' w' ha hs hw
      exact ⟨wanted_none rfl, rfl, wp_valw (run_alloc rfl) ⟨rfl, rfl⟩⟩
    · intro a' w' ha hs hw
      obtain ⟨v3, e3, q3⟩ := hw 3 (by kernel_rfl) _ rfl
      replace e3 : a'.tmps[30]? = some v3 := slot_get rfl rfl e3
      refine ⟨wanted_none rfl, by kernel_rfl, fun g hg => ?_⟩
      obtain ⟨A, n, c, hf, _, _, _⟩ := q3.form
      subst hf
      exact ⟨_, A, n, c, q3, fun ⟨_, _, _, _, hb⟩ => wp_skipw (run_store rfl (ev_tmp (slot_get rfl rfl hg)) (ev_tmp e3) hb) rfl ⟨rfl, rfl⟩⟩
  simp only [allQ]
  intro r4x1 _
  intro r4x3 _
  intro gb hGb
  intro gg sb Xb pb qb he BXb IVb
  simp only [List.nil_append, List.cons_append, List.getElem?_cons_succ, List.getElem?_cons_zero, Option.some.injEq] at he
  obtain rfl := ptr_inj he
  clear he
  replace BXb := Lib.hid BXb; replace IVb := Lib.hid IVb
  simp only [setOpt, List.set_cons_succ, List.set_cons_zero, ptr]
  refine hK _ _ ?_
  clear hK K
  replace BXc := Lib.hid (BXc.out.next hs rfl); replace IVc := Lib.hid (iv_next IVc.out hs rfl)
  replace BXa := Lib.hid (BXa.out.next hs rfl); replace IVa := Lib.hid (iv_next IVa.out hs rfl)
  replace RX1 := Lib.hid (RX1.out.next hs rfl); replace RW1 := Lib.hid (RW1.out.next hs rfl)
  replace DW := Lib.hid (link_below DW.out hs (by have := DW.out.size; omega) rfl rfl rfl rfl)
  clear hs
  clear RX1 RW1 MKy
  have w50a := BXa.out.cell0; have w50b := BXa.out.cell1; have w51a := BXb.out.cell0; have w51b := BXb.out.cell1
  go_wp2_with fail
  clear w50a w50b w51a w51b
  refine (gcd_is _ _ za zb zg _ IVa.out IVb.out (SZa.out.mono (by omega)) (SZb.out.mono (by omega)) HZG.out).mono ?_
  rintro e y7 ⟨_, rfl, hq, hb⟩
  obtain ⟨Xg, pg, qg, rfl, _, _, _⟩ := hq.form
  have Q := Lib.hid hq; have B := Lib.hid hb; clear hq hb
  generalize hs : decide ((zg : Int) < 0) = sg at *
  obtain rfl : sg = false := by rw [← hs]; simp only [decide_eq_false_iff_not, Int.not_lt]; exact G0.out
  clear hs
  go_upto_region 8 with fail
  obtain ⟨W6, hW⟩ : ∃ W6, W6 = y7.alloc (Obj.cells #[Value.bool false, Value.slice Xg pg qg] 27) := ⟨_, rfl⟩
  rw [← hW]
  have BXg : Hid (Box W6 y7.heap.size false (.slice Xg pg qg)) := by rw [hW]; exact Box.new _ _ _
  have IVg : Hid (Iv W6 (.agg #[.bool false, .slice Xg pg qg]) (zg)) := by rw [hW]; exact Q.out.alloc _
  have hd : Below wn.heap.size wn W6 := by rw [hW]; exact B.out.alloc B.out.size _
  clear hW Q B
  generalize hgn : y7.heap.size = gg at *
  clear hgn
  replace BXc := Lib.hid (BXc.out.next hd rfl); replace IVc := Lib.hid (iv_next IVc.out hd rfl)
  replace BXa := Lib.hid (BXa.out.next hd rfl); replace IVa := Lib.hid (iv_next IVa.out hd rfl)
  replace BXb := Lib.hid (BXb.out.next hd rfl); replace IVb := Lib.hid (iv_next IVb.out hd rfl)
  replace DW := Lib.hid (link_below DW.out hd (by have := DW.out.size; omega) rfl rfl rfl rfl)
  clear hd
  have w70a := BXa.out.cell0; have w70b := BXa.out.cell1; have w71a := BXb.out.cell0; have w71b := BXb.out.cell1
  go_wp2_with fail
  clear w70a w70b w71a w71b
  refine (bezout_any _ _ za zb _ IVa.out IVb.out (SZa.out.mono (by omega)) (SZb.out.mono (by omega)) HX.out).mono ?_
  rintro e y8 ⟨zu, zv, hbd, _, _, _, rfl, hq0, hq1, hq2, hb⟩
  rw [HZG.out] at hq0
  have SZu : Hid (Sz zu 10) := (bez_sz hbd HX.out SZa.out SZb.out).1
  have SZv : Hid (Sz zv 21) := (bez_sz hbd HX.out SZa.out SZb.out).2
  have U0 : Hid (0 ≤ zu) := hbd.nn
  have ULT : Hid (zu < (zb.natAbs : Int) / zg) := bez_lt hbd HZG.out HX.out
  have HEQ : Hid ((zu) * (za) + (zv) * (zb) = zg) := by rw [hbd.eq]; exact HZG.out
  clear hbd
  obtain ⟨Xh, ph, qh, rfl, _, _, _⟩ := hq0.form
  have Q0 := Lib.hid hq0; clear hq0
  obtain ⟨Xu, pu, qu, rfl, _, _, _⟩ := hq1.form
  have Q1 := Lib.hid hq1; clear hq1
  obtain ⟨Xv, pv, qv, rfl, _, _, _⟩ := hq2.form
  have Q2 := Lib.hid hq2; clear hq2
  have B := Lib.hid hb; clear hb
  generalize hs : decide ((zg : Int) < 0) = sh at *
  obtain rfl : sh = false := by rw [← hs]; simp only [decide_eq_false_iff_not, Int.not_lt]; exact G0.out
  clear hs
  generalize hs : decide ((zu : Int) < 0) = su at *
  obtain rfl : su = false := by rw [← hs]; simp only [decide_eq_false_iff_not, Int.not_lt]; exact U0.out
  clear hs
  generalize hs : decide ((zv : Int) < 0) = sv at *
  clear hs
  go_upto_region 9 with fail
  obtain ⟨W8, hW⟩ : ∃ W8, W8 = (((y8.alloc (Obj.cells #[Value.bool false, Value.slice Xh ph qh] 27)).alloc (Obj.cells #[Value.bool false, Value.slice Xu pu qu] 27)).alloc (Obj.cells #[Value.bool sv, Value.slice Xv pv qv] 27)) := ⟨_, rfl⟩
  rw [← hW]
  have BXh : Hid (Box W8 (y8.heap.size) false (.slice Xh ph qh)) := by rw [hW]; have := ((Box.new y8 false (.slice Xh ph qh)).alloc (Obj.cells #[Value.bool false, Value.slice Xu pu qu] 27)).alloc (Obj.cells #[Value.bool sv, Value.slice Xv pv qv] 27); simpa [Hid] using this
  have IVh : Hid (Iv W8 (.agg #[.bool false, .slice Xh ph qh]) (zg)) := by rw [hW]; exact (((Q0.out.alloc _).alloc _).alloc _)
  have BXu : Hid (Box W8 (y8.heap.size + 1) false (.slice Xu pu qu)) := by rw [hW]; have := (Box.new (y8.alloc (Obj.cells #[Value.bool false, Value.slice Xh ph qh] 27)) false (.slice Xu pu qu)).alloc (Obj.cells #[Value.bool sv, Value.slice Xv pv qv] 27); simpa [Hid] using this
  have IVu : Hid (Iv W8 (.agg #[.bool false, .slice Xu pu qu]) (zu)) := by rw [hW]; exact (((Q1.out.alloc _).alloc _).alloc _)
  have BXv : Hid (Box W8 (y8.heap.size + 1 + 1) sv (.slice Xv pv qv)) := by rw [hW]; have := Box.new ((y8.alloc (Obj.cells #[Value.bool false, Value.slice Xh ph qh] 27)).alloc (Obj.cells #[Value.bool false, Value.slice Xu pu qu] 27)) sv (.slice Xv pv qv); simpa [Hid] using this
  have IVv : Hid (Iv W8 (.agg #[.bool sv, .slice Xv pv qv]) (zv)) := by rw [hW]; exact (((Q2.out.alloc _).alloc _).alloc _)
  have hd : Below W6.heap.size W6 W8 := by rw [hW]; exact (((B.out.alloc (by have := B.out.size; simp <;> omega) _).alloc (by have := B.out.size; simp <;> omega) _).alloc (by have := B.out.size; simp <;> omega) _)
  clear hW B Q0 Q1 Q2
  generalize hgn2 : y8.heap.size + 1 + 1 = gv at *
  clear hgn2
  generalize hgn1 : y8.heap.size + 1 = gu at *
  clear hgn1
  generalize hgn0 : y8.heap.size = gh at *
  clear hgn0
  replace BXc := Lib.hid (BXc.out.next hd rfl); replace IVc := Lib.hid (iv_next IVc.out hd rfl)
  replace BXa := Lib.hid (BXa.out.next hd rfl); replace IVa := Lib.hid (iv_next IVa.out hd rfl)
  replace BXb := Lib.hid (BXb.out.next hd rfl); replace IVb := Lib.hid (iv_next IVb.out hd rfl)
  replace BXg := Lib.hid (BXg.out.next hd rfl); replace IVg := Lib.hid (iv_next IVg.out hd rfl)
  replace DW := Lib.hid (link_below DW.out hd (by have := DW.out.size; omega) rfl rfl rfl rfl)
  clear hd
  have SR9x16 : Hid (Sz (-(za)) 10) := (Sz.neg SZa.out)
  refine region_go W8 [.is (.agg #[.bool false, .slice Xg pg qg]), .is (Value.bool true), .is (Value.bool false), .is (Value.bool false), .is (.pointer (some ⟨gg, 0, none⟩)), .is (.bool false), .is (.bool false), .is (.bool false), .is (.agg #[.bool false, .slice Xg pg qg]), .is (.agg #[.bool false, .slice Xh ph qh]), .is (Value.bool true), .is (Value.bool false), .is (Value.bool false), .is (Value.bool false), .is (.agg #[.bool sb, .slice Xb pb qb]), .is (.agg #[.bool sa, .slice Xa pa qa]), .iv (-(za)), .iv (zg), .is (.agg #[.bool false, .slice Xg pg qg]), .is (Value.bool true), .is (Value.bool false), .is (Value.bool false), .is (Value.bool false), .is (.agg #[.bool false, .slice Xg pg qg]), .is (.agg #[.bool sa, .slice Xa pa qa]), .is (Value.bool true), .is (Value.bool false), .is (Value.bool false), .is (Value.bool false), .is (.agg #[.bool false, .slice Xg pg qg]), .is (.agg #[.bool sb, .slice Xb pb qb]), .is (Value.bool true), .is (Value.bool false), .is (Value.bool false), .is (Value.bool false), .is (.agg #[.bool sc, .slice Xc pc qc]), .is (.agg #[.bool false, .slice Xg pg qg]), .is (Value.bool true), .is (Value.bool false), .is (Value.bool false)] [some 41, some 42, some 43, some 44, some 45, some 46, some 47, some 48, some 49, some 50, some 51, some 52, some 53, some 54, some 55, some 56, some 57, some 58, some 59, some 60, some 61, some 62, some 63, some 64, some 65, some 66, some 67, some 68, some 69, some 70, some 71, some 72, some 73, some 74, some 75, some 76, some 77, some 78, some 79, some 80] (by kernel_rfl) (by kernel_rfl) (by kernel_rfl) (by kernel_rfl) (by kernel_rfl) (by rfl) (by kernel_rfl) ((Below.refl _ _).drew) (fun Q' => ?_) (fun K hK wn hs => ?_)
  · refine ⟨?_, ?_, ?_, ?_, ?_, ?_, ?_, ?_, ?_, ?_, ?_, ?_, ?_, ?_, ?_, ?_, ?_, ?_, ?_, ?_, ?_, ?_, ?_, ?_, ?_, ?_, ?_, ?_, ?_, ?_, ?_, ?_, ?_, ?_, ?_, ?_, ?_, ?_, ?_, ?_, trivial⟩
    · intro a' w' ha hs hw
      have eo11 : a'.tmps[11]? = some (ptr gg) := (ha.rest 11 (by kernel_rfl)).trans rfl
      exact ⟨wanted_none rfl, rfl, wp_val (run_load rfl (ev_tmp eo11) (BXg.out.next hs rfl)) ⟨rfl, Below.refl _ _⟩⟩
    · intro a' w' ha hs hw
      have e0 : a'.tmps[41]? = some (.agg #[.bool false, .slice Xg pg qg]) := slot_get rfl rfl (hw 0 (by kernel_rfl) _ rfl)
      exact ⟨wanted_none rfl, rfl, call_step rfl Try.func37 (by kernel_rfl) rfl (map_one (ev_tmp e0)) (rvalid_any _ (zg) _ (iv_next IVg.out hs rfl) (SZg.out.mono (by omega))) (fun e w2 he => by obtain ⟨rfl, hb⟩ := he; exact ⟨_, rfl, rfl, hb⟩)⟩
    · intro a' w' ha hs hw
      have e1 : a'.tmps[42]? = some (Value.bool true) := slot_get rfl rfl (hw 1 (by kernel_rfl) _ rfl)
      exact ⟨wanted_none rfl, rfl, wp_val (run_not rfl (ev_tmp e1)) ⟨rfl, Below.refl _ _⟩⟩
    · intro a' w' ha hs hw
      have e2 : a'.tmps[43]? = some (Value.bool false) := slot_get rfl rfl (hw 2 (by kernel_rfl) _ rfl)
      exact ⟨wanted_none rfl, rfl, wp_val (run_move rfl (ev_tmp e2)) ⟨rfl, Below.refl _ _⟩⟩
    · intro a' w' ha hs hw
      have e3 : a'.tmps[44]? = some (Value.bool false) := slot_get rfl rfl (hw 3 (by kernel_rfl) _ rfl)
      have eo11 : a'.tmps[11]? = some (ptr gg) := (ha.rest 11 (by kernel_rfl)).trans rfl
      exact ⟨wanted_some rfl rfl rfl e3, rfl, wp_val (run_field0 rfl (ev_tmp eo11)) ⟨rfl, Below.refl _ _⟩⟩
    · intro a' w' ha hs hw
      have e3 : a'.tmps[44]? = some (Value.bool false) := slot_get rfl rfl (hw 3 (by kernel_rfl) _ rfl)
      have e4 : a'.tmps[45]? = some (.pointer (some ⟨gg, 0, none⟩)) := slot_get rfl rfl (hw 4 (by kernel_rfl) _ rfl)
      exact ⟨wanted_some rfl rfl rfl e3, rfl, wp_val (run_load0 rfl (ev_tmp e4) (BXg.out.next hs rfl)) ⟨rfl, Below.refl _ _⟩⟩
    · intro a' w' ha hs hw
      have e3 : a'.tmps[44]? = some (Value.bool false) := slot_get rfl rfl (hw 3 (by kernel_rfl) _ rfl)
      have e5 : a'.tmps[46]? = some (.bool false) := slot_get rfl rfl (hw 5 (by kernel_rfl) _ rfl)
      exact ⟨wanted_none rfl, rfl, wp_val (run_pick (b := false) rfl (ev_tmp e3) (ev_tmp e5)) ⟨rfl, Below.refl _ _⟩⟩
    · intro a' w' ha hs hw
      have e6 : a'.tmps[47]? = some (.bool false) := slot_get rfl rfl (hw 6 (by kernel_rfl) _ rfl)
      exact ⟨wanted_none rfl, rfl, wp_val (run_move rfl (ev_tmp e6)) ⟨rfl, Below.refl _ _⟩⟩
    · intro a' w' ha hs hw
      have e7 : a'.tmps[48]? = some (.bool false) := slot_get rfl rfl (hw 7 (by kernel_rfl) _ rfl)
      have eo11 : a'.tmps[11]? = some (ptr gg) := (ha.rest 11 (by kernel_rfl)).trans rfl
      exact ⟨wanted_some rfl rfl rfl e7, rfl, wp_val (run_load rfl (ev_tmp eo11) (BXg.out.next hs rfl)) ⟨rfl, Below.refl _ _⟩⟩
    · intro a' w' ha hs hw
      have e7 : a'.tmps[48]? = some (.bool false) := slot_get rfl rfl (hw 7 (by kernel_rfl) _ rfl)
      have eo12 : a'.tmps[12]? = some (ptr gh) := (ha.rest 12 (by kernel_rfl)).trans rfl
      exact ⟨wanted_some rfl rfl rfl e7, rfl, wp_val (run_load rfl (ev_tmp eo12) (BXh.out.next hs rfl)) ⟨rfl, Below.refl _ _⟩⟩
    · intro a' w' ha hs hw
      have e7 : a'.tmps[48]? = some (.bool false) := slot_get rfl rfl (hw 7 (by kernel_rfl) _ rfl)
      have e8 : a'.tmps[49]? = some (.agg #[.bool false, .slice Xg pg qg]) := slot_get rfl rfl (hw 8 (by kernel_rfl) _ rfl)
      have e9 : a'.tmps[50]? = some (.agg #[.bool false, .slice Xh ph qh]) := slot_get rfl rfl (hw 9 (by kernel_rfl) _ rfl)
      exact ⟨wanted_some rfl rfl rfl e7, rfl, call_step rfl Try.func19 (by kernel_rfl) rfl (map_two (ev_tmp e8) (ev_tmp e9)) (same_true _ _ (zg) (zg) _ (iv_next IVg.out hs rfl) (iv_next IVh.out hs rfl) (SZg.out.mono (by omega)) (rfl)) (fun e w2 he => by obtain ⟨rfl, hb⟩ := he; exact ⟨_, rfl, rfl, hb⟩)⟩
    · intro a' w' ha hs hw
      have e7 : a'.tmps[48]? = some (.bool false) := slot_get rfl rfl (hw 7 (by kernel_rfl) _ rfl)
      have e10 : a'.tmps[51]? = some (Value.bool true) := slot_get rfl rfl (hw 10 (by kernel_rfl) _ rfl)
      exact ⟨wanted_some rfl rfl rfl e7, rfl, wp_val (run_not rfl (ev_tmp e10)) ⟨rfl, Below.refl _ _⟩⟩
    · intro a' w' ha hs hw
      have e7 : a'.tmps[48]? = some (.bool false) := slot_get rfl rfl (hw 7 (by kernel_rfl) _ rfl)
      have e11 : a'.tmps[52]? = some (Value.bool false) := slot_get rfl rfl (hw 11 (by kernel_rfl) _ rfl)
      exact ⟨wanted_none rfl, rfl, wp_val (run_pick (b := false) rfl (ev_tmp e7) (ev_tmp e11)) ⟨rfl, Below.refl _ _⟩⟩
    · intro a' w' ha hs hw
      have e12 : a'.tmps[53]? = some (Value.bool false) := slot_get rfl rfl (hw 12 (by kernel_rfl) _ rfl)
      exact ⟨wanted_none rfl, rfl, wp_val (run_move rfl (ev_tmp e12)) ⟨rfl, Below.refl _ _⟩⟩
    · intro a' w' ha hs hw
      have e13 : a'.tmps[54]? = some (Value.bool false) := slot_get rfl rfl (hw 13 (by kernel_rfl) _ rfl)
      have eo10 : a'.tmps[10]? = some (ptr gb) := (ha.rest 10 (by kernel_rfl)).trans rfl
      exact ⟨wanted_some rfl rfl rfl e13, rfl, wp_val (run_load rfl (ev_tmp eo10) (BXb.out.next hs rfl)) ⟨rfl, Below.refl _ _⟩⟩
    · intro a' w' ha hs hw
      have e13 : a'.tmps[54]? = some (Value.bool false) := slot_get rfl rfl (hw 13 (by kernel_rfl) _ rfl)
      have eo9 : a'.tmps[9]? = some (ptr ga) := (ha.rest 9 (by kernel_rfl)).trans rfl
      exact ⟨wanted_some rfl rfl rfl e13, rfl, wp_val (run_load rfl (ev_tmp eo9) (BXa.out.next hs rfl)) ⟨rfl, Below.refl _ _⟩⟩
    · intro a' w' ha hs hw
      have e13 : a'.tmps[54]? = some (Value.bool false) := slot_get rfl rfl (hw 13 (by kernel_rfl) _ rfl)
      have e15 : a'.tmps[56]? = some (.agg #[.bool sa, .slice Xa pa qa]) := slot_get rfl rfl (hw 15 (by kernel_rfl) _ rfl)
      exact ⟨wanted_some rfl rfl rfl e13, rfl, call_step rfl Try.func38 (by kernel_rfl) rfl (map_one (ev_tmp e15)) (neg_any _ (za) _ (iv_next IVa.out hs rfl) (SZa.out.mono (by omega))) (fun e w2 he => by obtain ⟨v, rfl, hv, hb⟩ := he; exact ⟨v, rfl, v, rfl, hv, hb⟩)⟩
    · intro a' w' ha hs hw
      have e13 : a'.tmps[54]? = some (Value.bool false) := slot_get rfl rfl (hw 13 (by kernel_rfl) _ rfl)
      have e14 : a'.tmps[55]? = some (.agg #[.bool sb, .slice Xb pb qb]) := slot_get rfl rfl (hw 14 (by kernel_rfl) _ rfl)
      obtain ⟨v16, e16, q16⟩ := hw 16 (by kernel_rfl) _ rfl
      replace e16 : a'.tmps[57]? = some v16 := slot_get rfl rfl e16
      exact ⟨wanted_some rfl rfl rfl e13, rfl, call_step rfl Try.func21 (by kernel_rfl) rfl (map_two (ev_tmp e14) (ev_tmp e16)) (gcd_is _ _ zb (-(za)) zg _ (iv_next IVb.out hs rfl) q16 (SZb.out.mono (by omega)) (Sz.mono (Sz.neg SZa.out) (by omega)) (by rw [gcd_turn]; exact HZG.out)) (fun e w2 he => by obtain ⟨v, rfl, hv, hb⟩ := he; exact ⟨v, rfl, v, rfl, hv, hb⟩)⟩
    · intro a' w' ha hs hw
      have e13 : a'.tmps[54]? = some (Value.bool false) := slot_get rfl rfl (hw 13 (by kernel_rfl) _ rfl)
      have eo11 : a'.tmps[11]? = some (ptr gg) := (ha.rest 11 (by kernel_rfl)).trans rfl
      exact ⟨wanted_some rfl rfl rfl e13, rfl, wp_val (run_load rfl (ev_tmp eo11) (BXg.out.next hs rfl)) ⟨rfl, Below.refl _ _⟩⟩
    · intro a' w' ha hs hw
      have e13 : a'.tmps[54]? = some (Value.bool false) := slot_get rfl rfl (hw 13 (by kernel_rfl) _ rfl)
      obtain ⟨v17, e17, q17⟩ := hw 17 (by kernel_rfl) _ rfl
      replace e17 : a'.tmps[58]? = some v17 := slot_get rfl rfl e17
      have e18 : a'.tmps[59]? = some (.agg #[.bool false, .slice Xg pg qg]) := slot_get rfl rfl (hw 18 (by kernel_rfl) _ rfl)
      exact ⟨wanted_some rfl rfl rfl e13, rfl, call_step rfl Try.func19 (by kernel_rfl) rfl (map_two (ev_tmp e17) (ev_tmp e18)) (same_true _ _ (zg) (zg) _ q17 (iv_next IVg.out hs rfl) (SZg.out.mono (by omega)) (rfl)) (fun e w2 he => by obtain ⟨rfl, hb⟩ := he; exact ⟨_, rfl, rfl, hb⟩)⟩
    · intro a' w' ha hs hw
      have e13 : a'.tmps[54]? = some (Value.bool false) := slot_get rfl rfl (hw 13 (by kernel_rfl) _ rfl)
      have e19 : a'.tmps[60]? = some (Value.bool true) := slot_get rfl rfl (hw 19 (by kernel_rfl) _ rfl)
      exact ⟨wanted_some rfl rfl rfl e13, rfl, wp_val (run_not rfl (ev_tmp e19)) ⟨rfl, Below.refl _ _⟩⟩
    · intro a' w' ha hs hw
      have e13 : a'.tmps[54]? = some (Value.bool false) := slot_get rfl rfl (hw 13 (by kernel_rfl) _ rfl)
      have e20 : a'.tmps[61]? = some (Value.bool false) := slot_get rfl rfl (hw 20 (by kernel_rfl) _ rfl)
      exact ⟨wanted_none rfl, rfl, wp_val (run_pick (b := false) rfl (ev_tmp e13) (ev_tmp e20)) ⟨rfl, Below.refl _ _⟩⟩
    · intro a' w' ha hs hw
      have e21 : a'.tmps[62]? = some (Value.bool false) := slot_get rfl rfl (hw 21 (by kernel_rfl) _ rfl)
      exact ⟨wanted_none rfl, rfl, wp_val (run_move rfl (ev_tmp e21)) ⟨rfl, Below.refl _ _⟩⟩
    · intro a' w' ha hs hw
      have e22 : a'.tmps[63]? = some (Value.bool false) := slot_get rfl rfl (hw 22 (by kernel_rfl) _ rfl)
      have eo11 : a'.tmps[11]? = some (ptr gg) := (ha.rest 11 (by kernel_rfl)).trans rfl
      exact ⟨wanted_some rfl rfl rfl e22, rfl, wp_val (run_load rfl (ev_tmp eo11) (BXg.out.next hs rfl)) ⟨rfl, Below.refl _ _⟩⟩
    · intro a' w' ha hs hw
      have e22 : a'.tmps[63]? = some (Value.bool false) := slot_get rfl rfl (hw 22 (by kernel_rfl) _ rfl)
      have eo9 : a'.tmps[9]? = some (ptr ga) := (ha.rest 9 (by kernel_rfl)).trans rfl
      exact ⟨wanted_some rfl rfl rfl e22, rfl, wp_val (run_load rfl (ev_tmp eo9) (BXa.out.next hs rfl)) ⟨rfl, Below.refl _ _⟩⟩
    · intro a' w' ha hs hw
      have e22 : a'.tmps[63]? = some (Value.bool false) := slot_get rfl rfl (hw 22 (by kernel_rfl) _ rfl)
      have e23 : a'.tmps[64]? = some (.agg #[.bool false, .slice Xg pg qg]) := slot_get rfl rfl (hw 23 (by kernel_rfl) _ rfl)
      have e24 : a'.tmps[65]? = some (.agg #[.bool sa, .slice Xa pa qa]) := slot_get rfl rfl (hw 24 (by kernel_rfl) _ rfl)
      exact ⟨wanted_some rfl rfl rfl e22, rfl, call_step rfl Try.func39 (by kernel_rfl) rfl (map_two (ev_tmp e23) (ev_tmp e24)) (divides_true _ _ zg za _ (iv_next IVg.out hs rfl) (iv_next IVa.out hs rfl) (SZg.out.mono (by omega)) (SZa.out.mono (by omega)) D1.out) (fun e w2 he => by obtain ⟨rfl, hb⟩ := he; exact ⟨_, rfl, rfl, hb⟩)⟩
    · intro a' w' ha hs hw
      have e22 : a'.tmps[63]? = some (Value.bool false) := slot_get rfl rfl (hw 22 (by kernel_rfl) _ rfl)
      have e25 : a'.tmps[66]? = some (Value.bool true) := slot_get rfl rfl (hw 25 (by kernel_rfl) _ rfl)
      exact ⟨wanted_some rfl rfl rfl e22, rfl, wp_val (run_not rfl (ev_tmp e25)) ⟨rfl, Below.refl _ _⟩⟩
    · intro a' w' ha hs hw
      have e22 : a'.tmps[63]? = some (Value.bool false) := slot_get rfl rfl (hw 22 (by kernel_rfl) _ rfl)
      have e26 : a'.tmps[67]? = some (Value.bool false) := slot_get rfl rfl (hw 26 (by kernel_rfl) _ rfl)
      exact ⟨wanted_none rfl, rfl, wp_val (run_pick (b := false) rfl (ev_tmp e22) (ev_tmp e26)) ⟨rfl, Below.refl _ _⟩⟩
    · intro a' w' ha hs hw
      have e27 : a'.tmps[68]? = some (Value.bool false) := slot_get rfl rfl (hw 27 (by kernel_rfl) _ rfl)
      exact ⟨wanted_none rfl, rfl, wp_val (run_move rfl (ev_tmp e27)) ⟨rfl, Below.refl _ _⟩⟩
    · intro a' w' ha hs hw
      have e28 : a'.tmps[69]? = some (Value.bool false) := slot_get rfl rfl (hw 28 (by kernel_rfl) _ rfl)
      have eo11 : a'.tmps[11]? = some (ptr gg) := (ha.rest 11 (by kernel_rfl)).trans rfl
      exact ⟨wanted_some rfl rfl rfl e28, rfl, wp_val (run_load rfl (ev_tmp eo11) (BXg.out.next hs rfl)) ⟨rfl, Below.refl _ _⟩⟩
    · intro a' w' ha hs hw
      have e28 : a'.tmps[69]? = some (Value.bool false) := slot_get rfl rfl (hw 28 (by kernel_rfl) _ rfl)
      have eo10 : a'.tmps[10]? = some (ptr gb) := (ha.rest 10 (by kernel_rfl)).trans rfl
      exact ⟨wanted_some rfl rfl rfl e28, rfl, wp_val (run_load rfl (ev_tmp eo10) (BXb.out.next hs rfl)) ⟨rfl, Below.refl _ _⟩⟩
    · intro a' w' ha hs hw
      have e28 : a'.tmps[69]? = some (Value.bool false) := slot_get rfl rfl (hw 28 (by kernel_rfl) _ rfl)
      have e29 : a'.tmps[70]? = some (.agg #[.bool false, .slice Xg pg qg]) := slot_get rfl rfl (hw 29 (by kernel_rfl) _ rfl)
      have e30 : a'.tmps[71]? = some (.agg #[.bool sb, .slice Xb pb qb]) := slot_get rfl rfl (hw 30 (by kernel_rfl) _ rfl)
      exact ⟨wanted_some rfl rfl rfl e28, rfl, call_step rfl Try.func39 (by kernel_rfl) rfl (map_two (ev_tmp e29) (ev_tmp e30)) (divides_true _ _ zg zb _ (iv_next IVg.out hs rfl) (iv_next IVb.out hs rfl) (SZg.out.mono (by omega)) (SZb.out.mono (by omega)) D2.out) (fun e w2 he => by obtain ⟨rfl, hb⟩ := he; exact ⟨_, rfl, rfl, hb⟩)⟩
    · intro a' w' ha hs hw
      have e28 : a'.tmps[69]? = some (Value.bool false) := slot_get rfl rfl (hw 28 (by kernel_rfl) _ rfl)
      have e31 : a'.tmps[72]? = some (Value.bool true) := slot_get rfl rfl (hw 31 (by kernel_rfl) _ rfl)
      exact ⟨wanted_some rfl rfl rfl e28, rfl, wp_val (run_not rfl (ev_tmp e31)) ⟨rfl, Below.refl _ _⟩⟩
    · intro a' w' ha hs hw
      have e28 : a'.tmps[69]? = some (Value.bool false) := slot_get rfl rfl (hw 28 (by kernel_rfl) _ rfl)
      have e32 : a'.tmps[73]? = some (Value.bool false) := slot_get rfl rfl (hw 32 (by kernel_rfl) _ rfl)
      exact ⟨wanted_none rfl, rfl, wp_val (run_pick (b := false) rfl (ev_tmp e28) (ev_tmp e32)) ⟨rfl, Below.refl _ _⟩⟩
    · intro a' w' ha hs hw
      have e33 : a'.tmps[74]? = some (Value.bool false) := slot_get rfl rfl (hw 33 (by kernel_rfl) _ rfl)
      exact ⟨wanted_none rfl, rfl, wp_val (run_move rfl (ev_tmp e33)) ⟨rfl, Below.refl _ _⟩⟩
    · intro a' w' ha hs hw
      have e34 : a'.tmps[75]? = some (Value.bool false) := slot_get rfl rfl (hw 34 (by kernel_rfl) _ rfl)
      have eo8 : a'.tmps[8]? = some (ptr gc) := (ha.rest 8 (by kernel_rfl)).trans rfl
      exact ⟨wanted_some rfl rfl rfl e34, rfl, wp_val (run_load rfl (ev_tmp eo8) (BXc.out.next hs rfl)) ⟨rfl, Below.refl _ _⟩⟩
    · intro a' w' ha hs hw
      have e34 : a'.tmps[75]? = some (Value.bool false) := slot_get rfl rfl (hw 34 (by kernel_rfl) _ rfl)
      have eo11 : a'.tmps[11]? = some (ptr gg) := (ha.rest 11 (by kernel_rfl)).trans rfl
      exact ⟨wanted_some rfl rfl rfl e34, rfl, wp_val (run_load rfl (ev_tmp eo11) (BXg.out.next hs rfl)) ⟨rfl, Below.refl _ _⟩⟩
    · intro a' w' ha hs hw
      have e34 : a'.tmps[75]? = some (Value.bool false) := slot_get rfl rfl (hw 34 (by kernel_rfl) _ rfl)
      have e35 : a'.tmps[76]? = some (.agg #[.bool sc, .slice Xc pc qc]) := slot_get rfl rfl (hw 35 (by kernel_rfl) _ rfl)
      have e36 : a'.tmps[77]? = some (.agg #[.bool false, .slice Xg pg qg]) := slot_get rfl rfl (hw 36 (by kernel_rfl) _ rfl)
      exact ⟨wanted_some rfl rfl rfl e34, rfl, call_step rfl Try.func39 (by kernel_rfl) rfl (map_two (ev_tmp e35) (ev_tmp e36)) (divides_true _ _ zc zg _ (iv_next IVc.out hs rfl) (iv_next IVg.out hs rfl) (SZc.out.mono (by omega)) (SZg.out.mono (by omega)) D3.out) (fun e w2 he => by obtain ⟨rfl, hb⟩ := he; exact ⟨_, rfl, rfl, hb⟩)⟩
    · intro a' w' ha hs hw
      have e34 : a'.tmps[75]? = some (Value.bool false) := slot_get rfl rfl (hw 34 (by kernel_rfl) _ rfl)
      have e37 : a'.tmps[78]? = some (Value.bool true) := slot_get rfl rfl (hw 37 (by kernel_rfl) _ rfl)
      exact ⟨wanted_some rfl rfl rfl e34, rfl, wp_val (run_not rfl (ev_tmp e37)) ⟨rfl, Below.refl _ _⟩⟩
    · intro a' w' ha hs hw
      have e34 : a'.tmps[75]? = some (Value.bool false) := slot_get rfl rfl (hw 34 (by kernel_rfl) _ rfl)
      have e38 : a'.tmps[79]? = some (Value.bool false) := slot_get rfl rfl (hw 38 (by kernel_rfl) _ rfl)
      exact ⟨wanted_none rfl, rfl, wp_val (run_pick (b := false) rfl (ev_tmp e34) (ev_tmp e38)) ⟨rfl, Below.refl _ _⟩⟩
  simp only [allQ]
  intro r9x16 _
  intro r9x17 _
  simp only [setOpt, List.set_cons_succ, List.set_cons_zero, ptr]
  refine hK _ _ ?_
  clear hK K
  replace BXc := Lib.hid (BXc.out.next hs rfl); replace IVc := Lib.hid (iv_next IVc.out hs rfl)
  replace BXa := Lib.hid (BXa.out.next hs rfl); replace IVa := Lib.hid (iv_next IVa.out hs rfl)
  replace BXb := Lib.hid (BXb.out.next hs rfl); replace IVb := Lib.hid (iv_next IVb.out hs rfl)
  replace BXg := Lib.hid (BXg.out.next hs rfl); replace IVg := Lib.hid (iv_next IVg.out hs rfl)
  replace BXh := Lib.hid (BXh.out.next hs rfl); replace IVh := Lib.hid (iv_next IVh.out hs rfl)
  replace BXu := Lib.hid (BXu.out.next hs rfl); replace IVu := Lib.hid (iv_next IVu.out hs rfl)
  replace BXv := Lib.hid (BXv.out.next hs rfl); replace IVv := Lib.hid (iv_next IVv.out hs rfl)
  replace DW := Lib.hid (link_below DW.out hs (by have := DW.out.size; omega) rfl rfl rfl rfl)
  clear hs
  go_upto_region 11 with fail
  have SR11x2 : Hid (Sz ((zu) * (za)) 20) := (Sz.mul SZu.out SZa.out)
  have SR11x5 : Hid (Sz ((zv) * (zb)) 31) := (Sz.mul SZv.out SZb.out)
  have SR11x6 : Hid (Sz (((zu) * (za)) + ((zv) * (zb))) 32) := (Sz.add (N := 31) (SR11x2.out.mono (by omega)) (SR11x5.out.mono (by omega)))
  refine region_go wn [.is (.agg #[.bool false, .slice Xu pu qu]), .is (.agg #[.bool sa, .slice Xa pa qa]), .iv ((zu) * (za)), .is (.agg #[.bool sv, .slice Xv pv qv]), .is (.agg #[.bool sb, .slice Xb pb qb]), .iv ((zv) * (zb)), .iv (((zu) * (za)) + ((zv) * (zb))), .is (.agg #[.bool false, .slice Xg pg qg]), .is (Value.bool true), .is (Value.bool false)] [some 81, some 82, some 83, some 84, some 85, some 86, some 87, some 88, some 89, some 90] (by kernel_rfl) (by kernel_rfl) (by kernel_rfl) (by kernel_rfl) (by kernel_rfl) (by rfl) (by kernel_rfl) ((Below.refl _ _).drew) (fun Q' => ?_) (fun K hK wn hs => ?_)
  · refine ⟨?_, ?_, ?_, ?_, ?_, ?_, ?_, ?_, ?_, ?_, trivial⟩
    · intro a' w' ha hs hw
      have eo13 : a'.tmps[13]? = some (ptr gu) := (ha.rest 13 (by kernel_rfl)).trans rfl
      exact ⟨wanted_none rfl, rfl, wp_val (run_load rfl (ev_tmp eo13) (BXu.out.next hs rfl)) ⟨rfl, Below.refl _ _⟩⟩
    · intro a' w' ha hs hw
      have eo9 : a'.tmps[9]? = some (ptr ga) := (ha.rest 9 (by kernel_rfl)).trans rfl
      exact ⟨wanted_none rfl, rfl, wp_val (run_load rfl (ev_tmp eo9) (BXa.out.next hs rfl)) ⟨rfl, Below.refl _ _⟩⟩
    · intro a' w' ha hs hw
      have e0 : a'.tmps[81]? = some (.agg #[.bool false, .slice Xu pu qu]) := slot_get rfl rfl (hw 0 (by kernel_rfl) _ rfl)
      have e1 : a'.tmps[82]? = some (.agg #[.bool sa, .slice Xa pa qa]) := slot_get rfl rfl (hw 1 (by kernel_rfl) _ rfl)
      exact ⟨wanted_none rfl, rfl, call_step rfl Try.func30 (by kernel_rfl) rfl (map_two (ev_tmp e0) (ev_tmp e1)) (mul_any _ _ (zu) (za) _ (iv_next IVu.out hs rfl) (iv_next IVa.out hs rfl) (SZu.out.mono (by omega)) (SZa.out.mono (by omega))) (fun e w2 he => by obtain ⟨v, rfl, hv, hb⟩ := he; exact ⟨v, rfl, v, rfl, hv, hb⟩)⟩
    · intro a' w' ha hs hw
      have eo14 : a'.tmps[14]? = some (ptr gv) := (ha.rest 14 (by kernel_rfl)).trans rfl
      exact ⟨wanted_none rfl, rfl, wp_val (run_load rfl (ev_tmp eo14) (BXv.out.next hs rfl)) ⟨rfl, Below.refl _ _⟩⟩
    · intro a' w' ha hs hw
      have eo10 : a'.tmps[10]? = some (ptr gb) := (ha.rest 10 (by kernel_rfl)).trans rfl
      exact ⟨wanted_none rfl, rfl, wp_val (run_load rfl (ev_tmp eo10) (BXb.out.next hs rfl)) ⟨rfl, Below.refl _ _⟩⟩
    · intro a' w' ha hs hw
      have e3 : a'.tmps[84]? = some (.agg #[.bool sv, .slice Xv pv qv]) := slot_get rfl rfl (hw 3 (by kernel_rfl) _ rfl)
      have e4 : a'.tmps[85]? = some (.agg #[.bool sb, .slice Xb pb qb]) := slot_get rfl rfl (hw 4 (by kernel_rfl) _ rfl)
      exact ⟨wanted_none rfl, rfl, call_step rfl Try.func30 (by kernel_rfl) rfl (map_two (ev_tmp e3) (ev_tmp e4)) (mul_any _ _ (zv) (zb) _ (iv_next IVv.out hs rfl) (iv_next IVb.out hs rfl) (SZv.out.mono (by omega)) (SZb.out.mono (by omega))) (fun e w2 he => by obtain ⟨v, rfl, hv, hb⟩ := he; exact ⟨v, rfl, v, rfl, hv, hb⟩)⟩
    · intro a' w' ha hs hw
      obtain ⟨v2, e2, q2⟩ := hw 2 (by kernel_rfl) _ rfl
      replace e2 : a'.tmps[83]? = some v2 := slot_get rfl rfl e2
      obtain ⟨v5, e5, q5⟩ := hw 5 (by kernel_rfl) _ rfl
      replace e5 : a'.tmps[86]? = some v5 := slot_get rfl rfl e5
      exact ⟨wanted_none rfl, rfl, call_step rfl Try.func26 (by kernel_rfl) rfl (map_two (ev_tmp e2) (ev_tmp e5)) (add_any _ _ ((zu) * (za)) ((zv) * (zb)) _ q2 q5 (SR11x2.out.mono (by omega)) (SR11x5.out.mono (by omega))) (fun e w2 he => by obtain ⟨v, rfl, hv, hb⟩ := he; exact ⟨v, rfl, v, rfl, hv, hb⟩)⟩
    · intro a' w' ha hs hw
      have eo11 : a'.tmps[11]? = some (ptr gg) := (ha.rest 11 (by kernel_rfl)).trans rfl
      exact ⟨wanted_none rfl, rfl, wp_val (run_load rfl (ev_tmp eo11) (BXg.out.next hs rfl)) ⟨rfl, Below.refl _ _⟩⟩
    · intro a' w' ha hs hw
      obtain ⟨v6, e6, q6⟩ := hw 6 (by kernel_rfl) _ rfl
      replace e6 : a'.tmps[87]? = some v6 := slot_get rfl rfl e6
      have e7 : a'.tmps[88]? = some (.agg #[.bool false, .slice Xg pg qg]) := slot_get rfl rfl (hw 7 (by kernel_rfl) _ rfl)
      exact ⟨wanted_none rfl, rfl, call_step rfl Try.func19 (by kernel_rfl) rfl (map_two (ev_tmp e6) (ev_tmp e7)) (same_true _ _ (((zu) * (za)) + ((zv) * (zb))) (zg) _ q6 (iv_next IVg.out hs rfl) (SR11x6.out.mono (by omega)) (HEQ.out)) (fun e w2 he => by obtain ⟨rfl, hb⟩ := he; exact ⟨_, rfl, rfl, hb⟩)⟩
    · intro a' w' ha hs hw
      have e8 : a'.tmps[89]? = some (Value.bool true) := slot_get rfl rfl (hw 8 (by kernel_rfl) _ rfl)
      exact ⟨wanted_none rfl, rfl, wp_val (run_not rfl (ev_tmp e8)) ⟨rfl, Below.refl _ _⟩⟩
  simp only [allQ]
  intro r10x2 _
  intro r10x5 _
  intro r10x6 _
  simp only [setOpt, List.set_cons_succ, List.set_cons_zero, ptr]
  refine hK _ _ ?_
  clear hK K
  replace BXc := Lib.hid (BXc.out.next hs rfl); replace IVc := Lib.hid (iv_next IVc.out hs rfl)
  replace BXa := Lib.hid (BXa.out.next hs rfl); replace IVa := Lib.hid (iv_next IVa.out hs rfl)
  replace BXb := Lib.hid (BXb.out.next hs rfl); replace IVb := Lib.hid (iv_next IVb.out hs rfl)
  replace BXg := Lib.hid (BXg.out.next hs rfl); replace IVg := Lib.hid (iv_next IVg.out hs rfl)
  replace BXh := Lib.hid (BXh.out.next hs rfl); replace IVh := Lib.hid (iv_next IVh.out hs rfl)
  replace BXu := Lib.hid (BXu.out.next hs rfl); replace IVu := Lib.hid (iv_next IVu.out hs rfl)
  replace BXv := Lib.hid (BXv.out.next hs rfl); replace IVv := Lib.hid (iv_next IVv.out hs rfl)
  replace DW := Lib.hid (link_below DW.out hs (by have := DW.out.size; omega) rfl rfl rfl rfl)
  clear hs
  have hpb : ((pb : Int) == 0) = false := by have h1 := IVb.out.len0; have h2 := HX.out; simp; intro e; exact h2 (h1.1 e)
  have HG0 : Hid (zg ≠ 0) := by rw [← HZG.out]; have h1 := Int.gcd_pos_of_ne_zero_right za HX.out; exact fun e => by omega
  have w110a := BXb.out.cell0; have w110b := BXb.out.cell1; have w111a := BXg.out.cell0; have w111b := BXg.out.cell1
  go_wp2_with fail
  clear w110a w110b w111a w111b
  refine (divMod_any _ _ (zb.natAbs : Int) zg _ IVb.out.abs IVg.out (SZb.out.abs.mono (by omega)) (SZg.out.mono (by omega)) HG0.out).mono ?_
  rintro e y15 ⟨_, _, rfl, hq0, hq1, hb⟩
  obtain ⟨Xm, pm, qm, rfl, _, _, _⟩ := hq0.form
  have Q0 := Lib.hid hq0; clear hq0
  obtain ⟨Xk, pk, qk, rfl, _, _, _⟩ := hq1.form
  have Q1 := Lib.hid hq1; clear hq1
  have B := Lib.hid hb; clear hb
  generalize hs : decide (((zb.natAbs : Int) / zg : Int) < 0) = sm at *
  clear hs
  generalize hs : decide (((zb.natAbs : Int) % zg : Int) < 0) = sk at *
  clear hs
  go_upto_region 16 with fail
  obtain ⟨W12, hW⟩ : ∃ W12, W12 = ((y15.alloc (Obj.cells #[Value.bool sm, Value.slice Xm pm qm] 27)).alloc (Obj.cells #[Value.bool sk, Value.slice Xk pk qk] 27)) := ⟨_, rfl⟩
  rw [← hW]
  have BXm : Hid (Box W12 (y15.heap.size) sm (.slice Xm pm qm)) := by rw [hW]; have := (Box.new y15 sm (.slice Xm pm qm)).alloc (Obj.cells #[Value.bool sk, Value.slice Xk pk qk] 27); simpa [Hid] using this
  have IVm : Hid (Iv W12 (.agg #[.bool sm, .slice Xm pm qm]) ((zb.natAbs : Int) / zg)) := by rw [hW]; exact ((Q0.out.alloc _).alloc _)
  have BXk : Hid (Box W12 (y15.heap.size + 1) sk (.slice Xk pk qk)) := by rw [hW]; have := Box.new (y15.alloc (Obj.cells #[Value.bool sm, Value.slice Xm pm qm] 27)) sk (.slice Xk pk qk); simpa [Hid] using this
  have IVk : Hid (Iv W12 (.agg #[.bool sk, .slice Xk pk qk]) ((zb.natAbs : Int) % zg)) := by rw [hW]; exact ((Q1.out.alloc _).alloc _)
  have hd : Below wn.heap.size wn W12 := by rw [hW]; exact ((B.out.alloc (by have := B.out.size; simp <;> omega) _).alloc (by have := B.out.size; simp <;> omega) _)
  clear hW B Q0 Q1
  generalize hgn1 : y15.heap.size + 1 = gk at *
  clear hgn1
  generalize hgn0 : y15.heap.size = gm at *
  clear hgn0
  replace BXc := Lib.hid (BXc.out.next hd rfl); replace IVc := Lib.hid (iv_next IVc.out hd rfl)
  replace BXa := Lib.hid (BXa.out.next hd rfl); replace IVa := Lib.hid (iv_next IVa.out hd rfl)
  replace BXb := Lib.hid (BXb.out.next hd rfl); replace IVb := Lib.hid (iv_next IVb.out hd rfl)
  replace BXg := Lib.hid (BXg.out.next hd rfl); replace IVg := Lib.hid (iv_next IVg.out hd rfl)
  replace BXh := Lib.hid (BXh.out.next hd rfl); replace IVh := Lib.hid (iv_next IVh.out hd rfl)
  replace BXu := Lib.hid (BXu.out.next hd rfl); replace IVu := Lib.hid (iv_next IVu.out hd rfl)
  replace BXv := Lib.hid (BXv.out.next hd rfl); replace IVv := Lib.hid (iv_next IVv.out hd rfl)
  replace DW := Lib.hid (link_below DW.out hd (by have := DW.out.size; omega) rfl rfl rfl rfl)
  clear hd
  have SZm : Hid (Sz ((zb.natAbs : Int) / zg) 10) := SZb.out.abs.ediv HG0.out
  have w130a := BXu.out.cell0; have w130b := BXu.out.cell1; have w131a := BXv.out.cell0; have w131b := BXv.out.cell1; have w132a := BXm.out.cell0; have w132b := BXm.out.cell1
  go_wp2_with fail
  clear w130a w130b w131a w131b w132a w132b
  refine (rvalid_any _ zu _ IVu.out (SZu.out.mono (by omega))).mono ?_
  rintro e yvu ⟨rfl, hb⟩
  replace BXc := Lib.hid (BXc.out.next hb rfl); replace IVc := Lib.hid (iv_next IVc.out hb rfl)
  replace BXa := Lib.hid (BXa.out.next hb rfl); replace IVa := Lib.hid (iv_next IVa.out hb rfl)
  replace BXb := Lib.hid (BXb.out.next hb rfl); replace IVb := Lib.hid (iv_next IVb.out hb rfl)
  replace BXg := Lib.hid (BXg.out.next hb rfl); replace IVg := Lib.hid (iv_next IVg.out hb rfl)
  replace BXh := Lib.hid (BXh.out.next hb rfl); replace IVh := Lib.hid (iv_next IVh.out hb rfl)
  replace BXu := Lib.hid (BXu.out.next hb rfl); replace IVu := Lib.hid (iv_next IVu.out hb rfl)
  replace BXv := Lib.hid (BXv.out.next hb rfl); replace IVv := Lib.hid (iv_next IVv.out hb rfl)
  replace BXm := Lib.hid (BXm.out.next hb rfl); replace IVm := Lib.hid (iv_next IVm.out hb rfl)
  replace BXk := Lib.hid (BXk.out.next hb rfl); replace IVk := Lib.hid (iv_next IVk.out hb rfl)
  replace DW := Lib.hid (link_below DW.out hb (by have := DW.out.size; omega) rfl rfl rfl rfl)
  clear hb
  have w140a := BXu.out.cell0; have w140b := BXu.out.cell1; have w141a := BXv.out.cell0; have w141b := BXv.out.cell1; have w142a := BXm.out.cell0; have w142b := BXm.out.cell1
  go_wp2_with fail
  clear w140a w140b w141a w141b w142a w142b
  refine (rvalid_any _ zv _ IVv.out (SZv.out.mono (by omega))).mono ?_
  rintro e yvv ⟨rfl, hb⟩
  replace BXc := Lib.hid (BXc.out.next hb rfl); replace IVc := Lib.hid (iv_next IVc.out hb rfl)
  replace BXa := Lib.hid (BXa.out.next hb rfl); replace IVa := Lib.hid (iv_next IVa.out hb rfl)
  replace BXb := Lib.hid (BXb.out.next hb rfl); replace IVb := Lib.hid (iv_next IVb.out hb rfl)
  replace BXg := Lib.hid (BXg.out.next hb rfl); replace IVg := Lib.hid (iv_next IVg.out hb rfl)
  replace BXh := Lib.hid (BXh.out.next hb rfl); replace IVh := Lib.hid (iv_next IVh.out hb rfl)
  replace BXu := Lib.hid (BXu.out.next hb rfl); replace IVu := Lib.hid (iv_next IVu.out hb rfl)
  replace BXv := Lib.hid (BXv.out.next hb rfl); replace IVv := Lib.hid (iv_next IVv.out hb rfl)
  replace BXm := Lib.hid (BXm.out.next hb rfl); replace IVm := Lib.hid (iv_next IVm.out hb rfl)
  replace BXk := Lib.hid (BXk.out.next hb rfl); replace IVk := Lib.hid (iv_next IVk.out hb rfl)
  replace DW := Lib.hid (link_below DW.out hb (by have := DW.out.size; omega) rfl rfl rfl rfl)
  clear hb
  have w150a := BXu.out.cell0; have w150b := BXu.out.cell1; have w151a := BXv.out.cell0; have w151b := BXv.out.cell1; have w152a := BXm.out.cell0; have w152b := BXm.out.cell1
  go_wp2_with fail
  clear w150a w150b w151a w151b w152a w152b
  refine (cmp_is _ _ zu ((zb.natAbs : Int) / zg) (-1) _ IVu.out IVm.out (SZu.out.mono (by omega)) (SZm.out.mono (by omega)) (cmpZ_lt ULT.out)).mono ?_
  rintro e yc ⟨rfl, hb⟩
  replace BXc := Lib.hid (BXc.out.next hb rfl); replace IVc := Lib.hid (iv_next IVc.out hb rfl)
  replace BXa := Lib.hid (BXa.out.next hb rfl); replace IVa := Lib.hid (iv_next IVa.out hb rfl)
  replace BXb := Lib.hid (BXb.out.next hb rfl); replace IVb := Lib.hid (iv_next IVb.out hb rfl)
  replace BXg := Lib.hid (BXg.out.next hb rfl); replace IVg := Lib.hid (iv_next IVg.out hb rfl)
  replace BXh := Lib.hid (BXh.out.next hb rfl); replace IVh := Lib.hid (iv_next IVh.out hb rfl)
  replace BXu := Lib.hid (BXu.out.next hb rfl); replace IVu := Lib.hid (iv_next IVu.out hb rfl)
  replace BXv := Lib.hid (BXv.out.next hb rfl); replace IVv := Lib.hid (iv_next IVv.out hb rfl)
  replace BXm := Lib.hid (BXm.out.next hb rfl); replace IVm := Lib.hid (iv_next IVm.out hb rfl)
  replace BXk := Lib.hid (BXk.out.next hb rfl); replace IVk := Lib.hid (iv_next IVk.out hb rfl)
  replace DW := Lib.hid (link_below DW.out hb (by have := DW.out.size; omega) rfl rfl rfl rfl)
  clear hb
  go_wp2
  go_ret
  exact ⟨by simp, by rw [hg]; exact DW.out⟩

theorem lawDivisors_any (b0 : Bool) (A0 : Option Addr) (n0 c0 : Nat) (ws0 : List Nat) (b1 : Bool) (A1 : Option Addr) (n1 c1 : Nat) (ws1 : List Nat) (b2 : Bool) (A2 : Option Addr) (n2 c2 : Nat) (ws2 : List Nat) (w : World) (h0 : Wd w A0 n0 ws0) (m0 : n0 ≤ 9223372036854775807) (h1 : Wd w A1 n1 ws1) (m1 : n1 ≤ 9223372036854775807) (h2 : Wd w A2 n2 ws2) (m2 : n2 ≤ 9223372036854775807) :
    Calls Try.prog 4 #[.agg #[.bool b0, .slice A0 n0 c0], .agg #[.bool b1, .slice A1 n1 c1], .agg #[.bool b2, .slice A2 n2 c2]] w fun e w' => e = .returned (.bool true) ∧ Below w.heap.size w w' := by
  by_cases h : sgn b1 (val (ws1.take 6)) * sgn b2 (val (ws2.take 4)) = 0
  · exact lawDivisorsZ_any b0 A0 n0 c0 ws0 b1 A1 n1 c1 ws1 b2 A2 n2 c2 ws2 w h0 m0 h1 m1 h2 m2 h
  · exact lawDivisorsN_any b0 A0 n0 c0 ws0 b1 A1 n1 c1 ws1 b2 A2 n2 c2 ws2 w h0 m0 h1 m1 h2 m2 h
end Go.Proofs.Ytpklphdhigkmmaa
