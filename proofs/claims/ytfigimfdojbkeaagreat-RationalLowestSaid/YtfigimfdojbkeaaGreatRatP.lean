/-
  Layer 2's law of the lowest terms.
-/
import Derived.Test.YtfigimfdojbkeaaGreatRatN2
import Derived.Test.YtfigimfdojbkeaaGreatRegE
import Derived.Deep.DeepCutAuto
import Derived.Handy
set_option linter.unusedSimpArgs false
set_option linter.unusedVariables false
namespace Go.Proofs.YtfigimfdojbkeaaGreat
open Go.RowKit
attribute [local go_sem ↓] Go.wp_at_zero Go.wp_at_succ

theorem ints_is (b : Bool) (A : Option Addr) (n c : Nat) (ws : List Nat) (x : Int) (w : World) (h : Wd w A n ws) (hnc : n ≤ c) (hc : c ≤ 9223372036854775807) (e : sgn b (val (ws.take 12)) = x) : Calls Tryz.prog 50 #[.agg #[.bool b, .slice A n c]] w (RetIv x w) := e ▸ ints_any b A n c ws w h hnc hc
theorem sgn_sz {b : Bool} {ws : List Nat} (h : Wds ws) : Sz (sgn b (val (ws.take 12))) 12 := ⟨by
  have := val_take_lt h 12
  cases b <;> simpa [sgn] using this⟩
theorem new_eq {x y : Int} (h : y ≠ 0) : (Rat.divInt x y).num * y = (Rat.divInt x y).den * x := by
  have e := Rat.num_divInt_den (Rat.divInt x y)
  rw [Rat.divInt_eq_divInt_iff (by have := rat_pos (Rat.divInt x y); omega) h] at e
  rw [e, Int.mul_comm]
theorem valid_low (va : Value) (f : Rat) (w : World) (ha : Qv w va f.num f.den) (sa : Sr f 1000000) : Calls Tryz.prog 45 #[va] w (RetV (.bool true) w) := by
  have h := qvalid_pos va f.num f.den w ha sa.num sa.den (den_cast f)
  rw [Int.natAbs_natCast, gcd_num] at h
  exact h
theorem sg_pos {a : Int} (h : 0 < a) : sg a = 1 := by unfold sg; rw [if_neg (by omega), if_neg (by omega)]
theorem gcd_one (a : Rat) : (Int.gcd a.num a.den : Int) = 1 := by
  have := gcd_num a
  rw [Int.gcd, Int.natAbs_natCast, this]
  rfl
section
variable {o : Oper} {w : World} {ρ : Operand → Value} {x : Operand}
theorem run_rawload {g n c : Nat} {b : Bool} {A : Option Addr} (ho : o.op = .load 29 x) (hx : ρ x = ptr g) (hb : Box w g b (.slice A n c)) : (execOp ρ o).run Tryz.prog w = .ok (.value (.agg #[.bool b, .slice A n c])) w := run_pload ho hx hb
end


set_option maxHeartbeats 8000000 in
set_option maxRecDepth 100000 in
theorem lawLowest_any (b1 : Bool) (A1 : Option Addr) (n1 c1 : Nat) (ws1 : List Nat) (b2 : Bool) (A2 : Option Addr) (n2 c2 : Nat) (ws2 : List Nat) (w : World) (h1 : Wd w A1 n1 ws1) (h2 : n1 ≤ 9223372036854775807) (h3 : n1 ≤ c1) (h4 : c1 ≤ 9223372036854775807) (k1 : Wd w A2 n2 ws2) (k2 : n2 ≤ 9223372036854775807) (k3 : n2 ≤ c2) (k4 : c2 ≤ 9223372036854775807) : Calls Tryz.prog 5 #[.agg #[.bool b1, .slice A1 n1 c1], .agg #[.bool b2, .slice A2 n2 c2]] w (RetV (.bool true) w) := by
  obtain ⟨x, ex⟩ : ∃ x, sgn b1 (val (ws1.take 12)) = x := ⟨_, rfl⟩
  obtain ⟨y, ey⟩ : ∃ x, sgn b2 (val (ws2.take 12)) = x := ⟨_, rfl⟩
  have SX : Hid (Sz x 12) := ex ▸ sgn_sz h1.wds
  have SY : Hid (Sz y 12) := ey ▸ sgn_sz k1.wds
  replace ex := Lib.hid ex; replace ey := Lib.hid ey
  replace h3 := Lib.hid h3; replace h4 := Lib.hid h4; replace k3 := Lib.hid k3; replace k4 := Lib.hid k4
  have H0 := Lib.hid h1; have K0 := Lib.hid k1
  clear h1 k1 h2 k2
  go_enter Tryz.func5, Tryz.ntmps5
  go_wp2_with fail
  obtain ⟨W, hW⟩ : ∃ W, W = (w.alloc (Obj.cells #[Value.bool b1, Value.slice A1 n1 c1] 29)).alloc (Obj.cells #[Value.bool b2, Value.slice A2 n2 c2] 29) := ⟨_, rfl⟩
  rw [← hW]
  have BXr1 : Hid (Box W w.heap.size b1 (.slice A1 n1 c1)) := by rw [hW]; have := (Box.new w b1 (.slice A1 n1 c1)).alloc (Obj.cells #[Value.bool b2, Value.slice A2 n2 c2] 29); simpa [Hid] using this
  have BXr2 : Hid (Box W (w.heap.size + 1) b2 (.slice A2 n2 c2)) := by rw [hW]; have := Box.new (w.alloc (Obj.cells #[Value.bool b1, Value.slice A1 n1 c1] 29)) b2 (.slice A2 n2 c2); simpa [Hid] using this
  have HW1 : Hid (Wd W A1 n1 ws1) := by rw [hW]; exact (H0.out.alloc _).alloc _
  have HW2 : Hid (Wd W A2 n2 ws2) := by rw [hW]; exact (K0.out.alloc _).alloc _
  have DW : Hid (Below w.heap.size w W) := by rw [hW]; exact ((Below.refl _ _).alloc (by simp <;> omega) _).alloc (by simp <;> omega) _
  clear hW H0 K0
  generalize hg : w.heap.size = g at *
  replace hg := Lib.hid hg
  refine (examples_any _).mono ?_
  rintro e y0 ⟨rfl, hb⟩
  replace BXr1 := Lib.hid (BXr1.out.next hb rfl)
  replace BXr2 := Lib.hid (BXr2.out.next hb rfl)
  replace HW1 := Lib.hid (HW1.out.next hb rfl)
  replace HW2 := Lib.hid (HW2.out.next hb rfl)
  replace DW := Lib.hid (link_below DW.out hb (by have := DW.out.size; have := hg.out; omega) rfl rfl rfl rfl)
  clear hb
  go_upto_region 4 with fail
  refine Rg.region_gg y0 [.is (.agg #[.bool b1, .slice A1 n1 c1]), .sat (pIv (x)) (pIv_keep _), .is (.agg #[.bool b2, .slice A2 n2 c2]), .sat (pIv (y)) (pIv_keep _), .own pNew pNew_keep, .own pNew pNew_keep, .put 4 (pPut (x)) (pPut_keep _), .put 5 (pPut (y)) (pPut_keep _)] [] [some 13, some 14, some 15, some 16, some 6, some 7, none, none] (by kernel_rfl) (by kernel_rfl) (by kernel_rfl) (by kernel_rfl) (by kernel_rfl) (by simp [Rg.stos]) (by rfl) (by rfl) (by kernel_rfl) (by simp) ((Below.refl _ _).drew) (fun Q' => ?_) (fun K hK wn hs => ?_)
  · refine ⟨?_, ?_, ?_, ?_, ?_, ?_, ?_, ?_, trivial⟩
    · intro a' w' ha hs hw hold
      have eo2 : a'.tmps[2]? = some (ptr g) := (ha.rest 2 (by kernel_rfl)).trans rfl
      exact ⟨rfl, .inl ⟨wanted_none rfl, wp_val (run_rawload rfl (ev_tmp eo2) (BXr1.out.bel hs (by simp))) ⟨rfl, Below.refl _ _⟩⟩⟩
    · intro a' w' ha hs hw hold
      have e0 : a'.tmps[13]? = some (.agg #[.bool b1, .slice A1 n1 c1]) := Rg.slot_get rfl rfl (hw 0 (by kernel_rfl) _ rfl)
      exact ⟨rfl, wanted_none rfl, call_step rfl Tryz.func50 (by kernel_rfl) rfl (map_one (ev_tmp e0)) (ints_is b1 A1 n1 c1 ws1 x _ (wd_kn HW1.out hs.kn) h3.out h4.out ex.out) (fun e w2 he => by obtain ⟨v, rfl, hv, hb⟩ := he; exact ⟨v, rfl, v, rfl, hv, hb⟩)⟩
    · intro a' w' ha hs hw hold
      have eo3 : a'.tmps[3]? = some (ptr (g + 1)) := (ha.rest 3 (by kernel_rfl)).trans rfl
      exact ⟨rfl, .inl ⟨wanted_none rfl, wp_val (run_rawload rfl (ev_tmp eo3) (BXr2.out.bel hs (by simp))) ⟨rfl, Below.refl _ _⟩⟩⟩
    · intro a' w' ha hs hw hold
      have e2 : a'.tmps[15]? = some (.agg #[.bool b2, .slice A2 n2 c2]) := Rg.slot_get rfl rfl (hw 2 (by kernel_rfl) _ rfl)
      exact ⟨rfl, wanted_none rfl, call_step rfl Tryz.func50 (by kernel_rfl) rfl (map_one (ev_tmp e2)) (ints_is b2 A2 n2 c2 ws2 y _ (wd_kn HW2.out hs.kn) k3.out k4.out ey.out) (fun e w2 he => by obtain ⟨v, rfl, hv, hb⟩ := he; exact ⟨v, rfl, v, rfl, hv, hb⟩)⟩
    · intro a' w' ha hs hw hold
      exact ⟨rfl, wanted_none rfl, step_new rfl⟩
    · intro a' w' ha hs hw hold
      exact ⟨rfl, wanted_none rfl, step_new rfl⟩
    · intro a' w' ha hs hw hold
      obtain ⟨v1, e1, q1⟩ := hw 1 (by kernel_rfl) _ rfl
      replace e1 : a'.tmps[14]? = some v1 := Rg.slot_get rfl rfl e1
      refine ⟨rfl, wanted_none rfl, by kernel_rfl, fun pv pg pp ph pe1 pe2 pe3 pe4 => ?_⟩
      cases pe1
      exact step_put rfl rfl (ev_tmp (Rg.slot_get rfl rfl pe2)) (ev_tmp e1) pe3 pe4 q1
    · intro a' w' ha hs hw hold
      obtain ⟨v3, e3, q3⟩ := hw 3 (by kernel_rfl) _ rfl
      replace e3 : a'.tmps[16]? = some v3 := Rg.slot_get rfl rfl e3
      refine ⟨rfl, wanted_none rfl, by kernel_rfl, fun pv pg pp ph pe1 pe2 pe3 pe4 => ?_⟩
      cases pe1
      exact step_put rfl rfl (ev_tmp (Rg.slot_get rfl rfl pe2)) (ev_tmp e3) pe3 pe4 q3
  simp only [Rg.allG]
  intro r1x1 _
  intro r1x3 _
  intro a1x4 gb1x4 hE1x4 hB1x4 _ hN1x4 _
  intro a1x5 gb1x5 hE1x5 hB1x5 _ hN1x5 _
  intro v1 he hp
  simp only [List.nil_append, List.cons_append, List.getElem?_cons_succ, List.getElem?_cons_zero, Option.some.injEq] at he
  subst he
  obtain ⟨gx, rfl, Xx, px, qx, BXx, IVx⟩ := hp
  intro v1 he hp
  simp only [List.nil_append, List.cons_append, List.getElem?_cons_succ, List.getElem?_cons_zero, Option.some.injEq] at he
  subst he
  obtain ⟨gy, rfl, Xy, py, qy, BXy, IVy⟩ := hp
  simp only [setOpt, Rg.setOpt, List.set_cons_succ, List.set_cons_zero, ptr]
  refine hK _ _ ?_
  clear hK K
  replace hs := hs.below
  have hgb : gx = gb1x4 := Option.some.inj hE1x4
  clear hgb
  have hgb : gy = gb1x5 := Option.some.inj hE1x5
  clear hgb
  clear hE1x4 hB1x4 hN1x4 hE1x5 hB1x5 hN1x5
  replace BXr1 := Lib.hid (BXr1.out.next hs rfl)
  replace BXr2 := Lib.hid (BXr2.out.next hs rfl)
  replace HW1 := Lib.hid (HW1.out.next hs rfl)
  replace HW2 := Lib.hid (HW2.out.next hs rfl)
  replace DW := Lib.hid (link_below DW.out hs (by have := DW.out.size; have := hg.out; omega) rfl rfl rfl rfl)
  generalize hsg : decide ((x : Int) < 0) = sx at *
  clear hsg
  replace BXx := Lib.hid BXx; replace IVx := Lib.hid IVx
  generalize hsg : decide ((y : Int) < 0) = sy at *
  clear hsg
  replace BXy := Lib.hid BXy; replace IVy := Lib.hid IVy
  clear hs
  clear BXr1 BXr2 HW1 HW2 ex ey
  go_upto_region 5 with fail
  by_cases hy0 : y = 0
  · replace hy0 := Lib.hid hy0
    obtain ⟨z1, hz1⟩ : ∃ z : Int, z = 0 := ⟨_, rfl⟩
    obtain ⟨z2, hz2⟩ : ∃ z : Int, z = 0 := ⟨_, rfl⟩
    replace hz1 := Lib.hid hz1; replace hz2 := Lib.hid hz2
    have u2a := BXx.out.cell0; have u2b := BXx.out.cell1
    have u3a := BXy.out.cell0; have u3b := BXy.out.cell1
    go_wp2_with fail
    clear u2a u2b u3a u3b
    refine ((qnew_zero _ _ x y _ IVx.out (SX.out.mono (by decide)) IVy.out (SY.out.mono (by decide)) hy0.out).mono fun _ _ h => retqd hz1.out hz2.out h).mono ?_
    rintro e y4 ⟨_, rfl, hq, hb⟩
    obtain ⟨Xan, pan, qan, Xad, pad, qad, rfl, han, had⟩ := hq
    have Qan := Lib.hid han; have Qad := Lib.hid had; clear han had
    have B := Lib.hid hb; clear hb
    generalize hs : decide ((z1 : Int) < 0) = san at *
    clear hs
    generalize hs : decide ((z2 : Int) < 0) = sad at *
    clear hs
    go_upto_region 6 with fail
    obtain ⟨W5, hW⟩ : ∃ W5, W5 = y4.alloc (Obj.cells #[Value.bool san, Value.slice Xan pan qan, Value.bool sad, Value.slice Xad pad qad] 31) := ⟨_, rfl⟩
    rw [← hW]
    have QXa : Hid (QBox W5 y4.heap.size san (.slice Xan pan qan) sad (.slice Xad pad qad)) := by rw [hW]; exact QBox.new _ _ _ _ _
    have IVna : Hid (Iv W5 (.agg #[.bool san, .slice Xan pan qan]) (z1)) := by rw [hW]; exact Qan.out.alloc _
    have IVda : Hid (Iv W5 (.agg #[.bool sad, .slice Xad pad qad]) (z2)) := by rw [hW]; exact Qad.out.alloc _
    have hd : Below wn.heap.size wn W5 := by rw [hW]; exact B.out.alloc (by have := B.out.size; omega) _
    clear hW B Qan Qad
    generalize hgn5 : y4.heap.size = ga at *
    clear hgn5
    replace BXx := Lib.hid (BXx.out.next hd rfl); replace IVx := Lib.hid (iv_next IVx.out hd rfl)
    replace BXy := Lib.hid (BXy.out.next hd rfl); replace IVy := Lib.hid (iv_next IVy.out hd rfl)
    replace DW := Lib.hid (link_below DW.out hd (by have := DW.out.size; have := hg.out; omega) rfl rfl rfl rfl)
    clear hd
    have hpy : py = 0 := by
      have h1 := IVy.out
      rw [hy0.out] at h1
      exact (iv_zero_len h1).2
    have hpi : ((py : Int) == 0) = true := by rw [hpy]; rfl
    have u6a := BXy.out.cell0; have u6b := BXy.out.cell1
    go_upto_region 7 with fail
    clear hpi hpy u6a u6b
    have QVa : Hid (Qv W5 (.agg #[.bool san, .slice Xan pan qan, .bool sad, .slice Xad pad qad]) z1 z2) := qv_of IVna.out IVda.out
    have u7a := QXa.out.cell0; have u7b := QXa.out.cell1; have u7c := QXa.out.cell2; have u7d := QXa.out.cell3
    go_wp2_with fail
    clear u7a u7b u7c u7d
    refine (fails_zero _ 10 _ (qv00 hz1.out hz2.out QVa.out)).mono ?_
    rintro e y8 ⟨rfl, hb⟩
    clear QVa
    replace BXx := Lib.hid (BXx.out.next hb rfl); replace IVx := Lib.hid (iv_next IVx.out hb rfl)
    replace BXy := Lib.hid (BXy.out.next hb rfl); replace IVy := Lib.hid (iv_next IVy.out hb rfl)
    replace QXa := Lib.hid (QXa.out.next hb rfl); replace IVna := Lib.hid (iv_next IVna.out hb rfl); replace IVda := Lib.hid (iv_next IVda.out hb rfl)
    replace DW := Lib.hid (link_below DW.out hb (by have := DW.out.size; have := hg.out; omega) rfl rfl rfl rfl)
    clear hb
    go_wp2
    go_ret
    exact ⟨rfl, by rw [hg.out]; exact DW.out⟩
  · replace hy0 : Hid (y ≠ 0) := hy0
    obtain ⟨a, ea⟩ : ∃ a, Rat.divInt x y = a := ⟨_, rfl⟩
    have SA : Hid (Sr a 12) := ea ▸ divInt_sr SX.out SY.out hy0.out
    have EQ : Hid (a.num * y = a.den * x) := ea ▸ new_eq hy0.out
    replace ea := Lib.hid ea
    have u9a := BXx.out.cell0; have u9b := BXx.out.cell1
    have u10a := BXy.out.cell0; have u10b := BXy.out.cell1
    go_wp2_with fail
    clear u9a u9b u10a u10b
    refine (ea.out ▸ qnew_any _ _ x y _ IVx.out (SX.out.mono (by decide)) IVy.out (SY.out.mono (by decide)) hy0.out).mono ?_
    rintro e y11 ⟨_, rfl, hq, hb⟩
    obtain ⟨Xan, pan, qan, Xad, pad, qad, rfl, han, had⟩ := hq
    have Qan := Lib.hid han; have Qad := Lib.hid had; clear han had
    have B := Lib.hid hb; clear hb
    generalize hs : decide ((a.num : Int) < 0) = san at *
    clear hs
    generalize hs : decide (((a.den : Int) : Int) < 0) = sad at *
    clear hs
    go_upto_region 6 with fail
    obtain ⟨W12, hW⟩ : ∃ W12, W12 = y11.alloc (Obj.cells #[Value.bool san, Value.slice Xan pan qan, Value.bool sad, Value.slice Xad pad qad] 31) := ⟨_, rfl⟩
    rw [← hW]
    have QXa : Hid (QBox W12 y11.heap.size san (.slice Xan pan qan) sad (.slice Xad pad qad)) := by rw [hW]; exact QBox.new _ _ _ _ _
    have IVna : Hid (Iv W12 (.agg #[.bool san, .slice Xan pan qan]) (a.num)) := by rw [hW]; exact Qan.out.alloc _
    have IVda : Hid (Iv W12 (.agg #[.bool sad, .slice Xad pad qad]) ((a.den : Int))) := by rw [hW]; exact Qad.out.alloc _
    have hd : Below wn.heap.size wn W12 := by rw [hW]; exact B.out.alloc (by have := B.out.size; omega) _
    clear hW B Qan Qad
    generalize hgn12 : y11.heap.size = ga at *
    clear hgn12
    replace BXx := Lib.hid (BXx.out.next hd rfl); replace IVx := Lib.hid (iv_next IVx.out hd rfl)
    replace BXy := Lib.hid (BXy.out.next hd rfl); replace IVy := Lib.hid (iv_next IVy.out hd rfl)
    replace DW := Lib.hid (link_below DW.out hd (by have := DW.out.size; have := hg.out; omega) rfl rfl rfl rfl)
    clear hd
    have hpi : ((py : Int) == 0) = false := by
      obtain ⟨A, n, c, e, _, _, h3⟩ := IVy.out.form
      have e1 := congrArg (fun t : Value => match t with | .agg a => a[1]? | _ => none) e
      simp at e1
      obtain ⟨rfl, rfl, rfl⟩ := e1
      rw [beq_eq_false_iff_ne]
      intro hp
      have hl := h3.len
      rw [show py = 0 by omega] at hl
      exact hy0.out (by have := mag_length_zero.1 hl; omega)
    have u13a := BXy.out.cell0; have u13b := BXy.out.cell1
    go_upto_region 8 with fail
    clear hpi u13a u13b
    have QVa : Hid (Qv W12 (.agg #[.bool san, .slice Xan pan qan, .bool sad, .slice Xad pad qad]) (a.num) ((a.den : Int))) := qv_of IVna.out IVda.out
    refine Rg.region_gg W12 [.is (Value.int IntKind.i64 0), .is (Value.bool true), .is (Value.bool true), .is (.agg #[.bool san, .slice Xan pan qan, .bool sad, .slice Xad pad qad]), .is (Value.bool true), .is (Value.bool true), .is (Value.bool true), .is (.pointer (some ⟨ga, 0, none⟩)), .is (.agg #[.bool san, .slice Xan pan qan]), .is (.agg #[.bool sy, .slice Xy py qy]), .sat (pIv (a.num * y)) (pIv_keep _), .is (.pointer (some ⟨ga, 2, none⟩)), .is (.agg #[.bool sad, .slice Xad pad qad]), .is (.agg #[.bool sx, .slice Xx px qx]), .sat (pIv ((a.den : Int) * x)) (pIv_keep _), .is (Value.int IntKind.i64 0), .is (Value.bool true), .is (Value.bool true), .is (Value.bool true), .is (.pointer (some ⟨ga, 2, none⟩)), .is (.agg #[.bool sad, .slice Xad pad qad]), .is (Value.int IntKind.i64 1), .is (Value.bool true), .is (Value.bool true), .is (Value.bool true), .is (.pointer (some ⟨ga, 0, none⟩)), .is (.agg #[.bool san, .slice Xan pan qan]), .is (.pointer (some ⟨ga, 2, none⟩)), .is (.agg #[.bool sad, .slice Xad pad qad]), .sat (pIv ((1 : Int))) (pIv_keep _), .sat (pIv ((1 : Int))) (pIv_keep _), .is (Value.int IntKind.i64 0), .is (Value.bool true), .is (Value.bool true), .is (Value.bool true), .is (Value.bool true), .is (Value.bool true), .is (Value.bool true)] [] [some 33, some 34, some 35, some 36, some 37, some 38, some 39, some 40, some 41, some 42, some 43, some 44, some 45, some 46, some 47, some 48, some 49, some 50, some 51, some 52, some 53, some 54, some 55, some 56, some 57, some 58, some 59, some 60, some 61, some 62, some 63, some 64, some 65, some 66, some 67, some 68, some 69, some 4] (by kernel_rfl) (by kernel_rfl) (by kernel_rfl) (by kernel_rfl) (by kernel_rfl) (by simp [Rg.stos]) (by rfl) (by rfl) (by kernel_rfl) (by simp) ((Below.refl _ _).drew) (fun Q' => ?_) (fun K hK wn hs => ?_)
    · refine ⟨?_, ?_, ?_, ?_, ?_, ?_, ?_, ?_, ?_, ?_, ?_, ?_, ?_, ?_, ?_, ?_, ?_, ?_, ?_, ?_, ?_, ?_, ?_, ?_, ?_, ?_, ?_, ?_, ?_, ?_, ?_, ?_, ?_, ?_, ?_, ?_, ?_, ?_, trivial⟩
      · intro a' w' ha hs hw hold
        have eo9 : a'.tmps[9]? = some (Value.int IntKind.i64 0) := (ha.rest 9 (by kernel_rfl)).trans rfl
        exact ⟨rfl, .inl ⟨wanted_none rfl, wp_val (run_move rfl (ev_tmp eo9)) ⟨rfl, Below.refl _ _⟩⟩⟩
      · intro a' w' ha hs hw hold
        have e0 : a'.tmps[33]? = some (Value.int IntKind.i64 0) := Rg.slot_get rfl rfl (hw 0 (by kernel_rfl) _ rfl)
        exact ⟨rfl, .inl ⟨wanted_none rfl, wp_val (show _ = _ from (run_eql_int rfl (ev_tmp e0) rfl).trans (by rfl)) ⟨rfl, Below.refl _ _⟩⟩⟩
      · intro a' w' ha hs hw hold
        have e1 : a'.tmps[34]? = some (Value.bool true) := Rg.slot_get rfl rfl (hw 1 (by kernel_rfl) _ rfl)
        exact ⟨rfl, .inl ⟨wanted_none rfl, wp_val (run_move rfl (ev_tmp e1)) ⟨rfl, Below.refl _ _⟩⟩⟩
      · intro a' w' ha hs hw hold
        have e2 : a'.tmps[35]? = some (Value.bool true) := Rg.slot_get rfl rfl (hw 2 (by kernel_rfl) _ rfl)
        have eo8 : a'.tmps[8]? = some (ptr ga) := (ha.rest 8 (by kernel_rfl)).trans rfl
        exact ⟨rfl, .inl ⟨wanted_some rfl rfl rfl e2, wp_val (run_qload rfl (ev_tmp eo8) (QXa.out.bel hs (by simp))) ⟨rfl, Below.refl _ _⟩⟩⟩
      · intro a' w' ha hs hw hold
        have e2 : a'.tmps[35]? = some (Value.bool true) := Rg.slot_get rfl rfl (hw 2 (by kernel_rfl) _ rfl)
        have e3 : a'.tmps[36]? = some (.agg #[.bool san, .slice Xan pan qan, .bool sad, .slice Xad pad qad]) := Rg.slot_get rfl rfl (hw 3 (by kernel_rfl) _ rfl)
        exact ⟨rfl, .inl ⟨wanted_some rfl rfl rfl e2, call_step rfl Tryz.func45 (by kernel_rfl) rfl (map_one (ev_tmp e3)) (valid_low _ a _ (QVa.out.kn hs.kn) (SA.out.mono (by decide))) (fun e w2 he => by obtain ⟨rfl, hb⟩ := he; exact ⟨_, rfl, rfl, hb⟩)⟩⟩
      · intro a' w' ha hs hw hold
        have e2 : a'.tmps[35]? = some (Value.bool true) := Rg.slot_get rfl rfl (hw 2 (by kernel_rfl) _ rfl)
        have e4 : a'.tmps[37]? = some (Value.bool true) := Rg.slot_get rfl rfl (hw 4 (by kernel_rfl) _ rfl)
        exact ⟨rfl, .inl ⟨wanted_none rfl, wp_val (run_pick (b := true) rfl (ev_tmp e2) (ev_tmp e4)) ⟨rfl, Below.refl _ _⟩⟩⟩
      · intro a' w' ha hs hw hold
        have e5 : a'.tmps[38]? = some (Value.bool true) := Rg.slot_get rfl rfl (hw 5 (by kernel_rfl) _ rfl)
        exact ⟨rfl, .inl ⟨wanted_none rfl, wp_val (run_move rfl (ev_tmp e5)) ⟨rfl, Below.refl _ _⟩⟩⟩
      · intro a' w' ha hs hw hold
        have e6 : a'.tmps[39]? = some (Value.bool true) := Rg.slot_get rfl rfl (hw 6 (by kernel_rfl) _ rfl)
        have eo8 : a'.tmps[8]? = some (ptr ga) := (ha.rest 8 (by kernel_rfl)).trans rfl
        exact ⟨rfl, .inl ⟨wanted_some rfl rfl rfl e6, wp_val (run_qfield0 rfl (ev_tmp eo8)) ⟨rfl, Below.refl _ _⟩⟩⟩
      · intro a' w' ha hs hw hold
        have e6 : a'.tmps[39]? = some (Value.bool true) := Rg.slot_get rfl rfl (hw 6 (by kernel_rfl) _ rfl)
        have e7 : a'.tmps[40]? = some (.pointer (some ⟨ga, 0, none⟩)) := Rg.slot_get rfl rfl (hw 7 (by kernel_rfl) _ rfl)
        exact ⟨rfl, .inl ⟨wanted_some rfl rfl rfl e6, wp_val (run_qload0 rfl (ev_tmp e7) (QXa.out.bel hs (by simp))) ⟨rfl, Below.refl _ _⟩⟩⟩
      · intro a' w' ha hs hw hold
        have e6 : a'.tmps[39]? = some (Value.bool true) := Rg.slot_get rfl rfl (hw 6 (by kernel_rfl) _ rfl)
        have eo7 : a'.tmps[7]? = some (ptr gy) := (ha.rest 7 (by kernel_rfl)).trans rfl
        exact ⟨rfl, .inl ⟨wanted_some rfl rfl rfl e6, wp_val (run_pload rfl (ev_tmp eo7) (BXy.out.bel hs (by simp))) ⟨rfl, Below.refl _ _⟩⟩⟩
      · intro a' w' ha hs hw hold
        have e6 : a'.tmps[39]? = some (Value.bool true) := Rg.slot_get rfl rfl (hw 6 (by kernel_rfl) _ rfl)
        have e8 : a'.tmps[41]? = some (.agg #[.bool san, .slice Xan pan qan]) := Rg.slot_get rfl rfl (hw 8 (by kernel_rfl) _ rfl)
        have e9 : a'.tmps[42]? = some (.agg #[.bool sy, .slice Xy py qy]) := Rg.slot_get rfl rfl (hw 9 (by kernel_rfl) _ rfl)
        exact ⟨rfl, wanted_some rfl rfl rfl e6, call_step rfl Tryz.func52 (by kernel_rfl) rfl (map_two (ev_tmp e8) (ev_tmp e9)) (mul_any _ _ a.num y _ (IVna.out.kn hs.kn) (IVy.out.kn hs.kn) (SA.out.num.mono (by decide)) (SY.out.mono (by decide))) (fun e w2 he => by obtain ⟨v, rfl, hv, hb⟩ := he; exact ⟨v, rfl, v, rfl, hv, hb⟩)⟩
      · intro a' w' ha hs hw hold
        have e6 : a'.tmps[39]? = some (Value.bool true) := Rg.slot_get rfl rfl (hw 6 (by kernel_rfl) _ rfl)
        have eo8 : a'.tmps[8]? = some (ptr ga) := (ha.rest 8 (by kernel_rfl)).trans rfl
        exact ⟨rfl, .inl ⟨wanted_some rfl rfl rfl e6, wp_val (run_qfield1 rfl (ev_tmp eo8)) ⟨rfl, Below.refl _ _⟩⟩⟩
      · intro a' w' ha hs hw hold
        have e6 : a'.tmps[39]? = some (Value.bool true) := Rg.slot_get rfl rfl (hw 6 (by kernel_rfl) _ rfl)
        have e11 : a'.tmps[44]? = some (.pointer (some ⟨ga, 2, none⟩)) := Rg.slot_get rfl rfl (hw 11 (by kernel_rfl) _ rfl)
        exact ⟨rfl, .inl ⟨wanted_some rfl rfl rfl e6, wp_val (run_qload1 rfl (ev_tmp e11) (QXa.out.bel hs (by simp))) ⟨rfl, Below.refl _ _⟩⟩⟩
      · intro a' w' ha hs hw hold
        have e6 : a'.tmps[39]? = some (Value.bool true) := Rg.slot_get rfl rfl (hw 6 (by kernel_rfl) _ rfl)
        have eo6 : a'.tmps[6]? = some (ptr gx) := (ha.rest 6 (by kernel_rfl)).trans rfl
        exact ⟨rfl, .inl ⟨wanted_some rfl rfl rfl e6, wp_val (run_pload rfl (ev_tmp eo6) (BXx.out.bel hs (by simp))) ⟨rfl, Below.refl _ _⟩⟩⟩
      · intro a' w' ha hs hw hold
        have e6 : a'.tmps[39]? = some (Value.bool true) := Rg.slot_get rfl rfl (hw 6 (by kernel_rfl) _ rfl)
        have e12 : a'.tmps[45]? = some (.agg #[.bool sad, .slice Xad pad qad]) := Rg.slot_get rfl rfl (hw 12 (by kernel_rfl) _ rfl)
        have e13 : a'.tmps[46]? = some (.agg #[.bool sx, .slice Xx px qx]) := Rg.slot_get rfl rfl (hw 13 (by kernel_rfl) _ rfl)
        exact ⟨rfl, wanted_some rfl rfl rfl e6, call_step rfl Tryz.func52 (by kernel_rfl) rfl (map_two (ev_tmp e12) (ev_tmp e13)) (mul_any _ _ (a.den : Int) x _ (IVda.out.kn hs.kn) (IVx.out.kn hs.kn) (SA.out.den.mono (by decide)) (SX.out.mono (by decide))) (fun e w2 he => by obtain ⟨v, rfl, hv, hb⟩ := he; exact ⟨v, rfl, v, rfl, hv, hb⟩)⟩
      · intro a' w' ha hs hw hold
        have e6 : a'.tmps[39]? = some (Value.bool true) := Rg.slot_get rfl rfl (hw 6 (by kernel_rfl) _ rfl)
        obtain ⟨v10, e10, q10⟩ := hw 10 (by kernel_rfl) _ rfl
        replace e10 : a'.tmps[43]? = some v10 := Rg.slot_get rfl rfl e10
        obtain ⟨v14, e14, q14⟩ := hw 14 (by kernel_rfl) _ rfl
        replace e14 : a'.tmps[47]? = some v14 := Rg.slot_get rfl rfl e14
        exact ⟨rfl, .inl ⟨wanted_some rfl rfl rfl e6, call_step rfl Tryz.func35 (by kernel_rfl) rfl (map_two (ev_tmp e10) (ev_tmp e14)) (cmp_is _ _ (a.num * y) ((a.den : Int) * x) 0 _ q10 q14 ((SA.out.num.mul SY.out).mono (by decide)) ((SA.out.den.mul SX.out).mono (by decide)) (cmpZ_eq EQ.out)) (fun e w2 he => by obtain ⟨rfl, hb⟩ := he; exact ⟨_, rfl, rfl, hb⟩)⟩⟩
      · intro a' w' ha hs hw hold
        have e6 : a'.tmps[39]? = some (Value.bool true) := Rg.slot_get rfl rfl (hw 6 (by kernel_rfl) _ rfl)
        have e15 : a'.tmps[48]? = some (Value.int IntKind.i64 0) := Rg.slot_get rfl rfl (hw 15 (by kernel_rfl) _ rfl)
        exact ⟨rfl, .inl ⟨wanted_some rfl rfl rfl e6, wp_val (show _ = _ from (run_eql_int rfl (ev_tmp e15) rfl).trans (by rfl)) ⟨rfl, Below.refl _ _⟩⟩⟩
      · intro a' w' ha hs hw hold
        have e6 : a'.tmps[39]? = some (Value.bool true) := Rg.slot_get rfl rfl (hw 6 (by kernel_rfl) _ rfl)
        have e16 : a'.tmps[49]? = some (Value.bool true) := Rg.slot_get rfl rfl (hw 16 (by kernel_rfl) _ rfl)
        exact ⟨rfl, .inl ⟨wanted_none rfl, wp_val (run_pick (b := true) rfl (ev_tmp e6) (ev_tmp e16)) ⟨rfl, Below.refl _ _⟩⟩⟩
      · intro a' w' ha hs hw hold
        have e17 : a'.tmps[50]? = some (Value.bool true) := Rg.slot_get rfl rfl (hw 17 (by kernel_rfl) _ rfl)
        exact ⟨rfl, .inl ⟨wanted_none rfl, wp_val (run_move rfl (ev_tmp e17)) ⟨rfl, Below.refl _ _⟩⟩⟩
      · intro a' w' ha hs hw hold
        have e18 : a'.tmps[51]? = some (Value.bool true) := Rg.slot_get rfl rfl (hw 18 (by kernel_rfl) _ rfl)
        have eo8 : a'.tmps[8]? = some (ptr ga) := (ha.rest 8 (by kernel_rfl)).trans rfl
        exact ⟨rfl, .inl ⟨wanted_some rfl rfl rfl e18, wp_val (run_qfield1 rfl (ev_tmp eo8)) ⟨rfl, Below.refl _ _⟩⟩⟩
      · intro a' w' ha hs hw hold
        have e18 : a'.tmps[51]? = some (Value.bool true) := Rg.slot_get rfl rfl (hw 18 (by kernel_rfl) _ rfl)
        have e19 : a'.tmps[52]? = some (.pointer (some ⟨ga, 2, none⟩)) := Rg.slot_get rfl rfl (hw 19 (by kernel_rfl) _ rfl)
        exact ⟨rfl, .inl ⟨wanted_some rfl rfl rfl e18, wp_val (run_qload1 rfl (ev_tmp e19) (QXa.out.bel hs (by simp))) ⟨rfl, Below.refl _ _⟩⟩⟩
      · intro a' w' ha hs hw hold
        have e18 : a'.tmps[51]? = some (Value.bool true) := Rg.slot_get rfl rfl (hw 18 (by kernel_rfl) _ rfl)
        have e20 : a'.tmps[53]? = some (.agg #[.bool sad, .slice Xad pad qad]) := Rg.slot_get rfl rfl (hw 20 (by kernel_rfl) _ rfl)
        exact ⟨rfl, .inl ⟨wanted_some rfl rfl rfl e18, call_step rfl Tryz.func53 (by kernel_rfl) rfl (map_one (ev_tmp e20)) (sign_is _ (a.den : Int) 1 _ (IVda.out.kn hs.kn) (SA.out.den.mono (by decide)) (sg_pos (den_cast a))) (fun e w2 he => by obtain ⟨rfl, hb⟩ := he; exact ⟨_, rfl, rfl, hb⟩)⟩⟩
      · intro a' w' ha hs hw hold
        have e18 : a'.tmps[51]? = some (Value.bool true) := Rg.slot_get rfl rfl (hw 18 (by kernel_rfl) _ rfl)
        have e21 : a'.tmps[54]? = some (Value.int IntKind.i64 1) := Rg.slot_get rfl rfl (hw 21 (by kernel_rfl) _ rfl)
        exact ⟨rfl, .inl ⟨wanted_some rfl rfl rfl e18, wp_val (show _ = _ from (run_eql_int rfl (ev_tmp e21) rfl).trans (by rfl)) ⟨rfl, Below.refl _ _⟩⟩⟩
      · intro a' w' ha hs hw hold
        have e18 : a'.tmps[51]? = some (Value.bool true) := Rg.slot_get rfl rfl (hw 18 (by kernel_rfl) _ rfl)
        have e22 : a'.tmps[55]? = some (Value.bool true) := Rg.slot_get rfl rfl (hw 22 (by kernel_rfl) _ rfl)
        exact ⟨rfl, .inl ⟨wanted_none rfl, wp_val (run_pick (b := true) rfl (ev_tmp e18) (ev_tmp e22)) ⟨rfl, Below.refl _ _⟩⟩⟩
      · intro a' w' ha hs hw hold
        have e23 : a'.tmps[56]? = some (Value.bool true) := Rg.slot_get rfl rfl (hw 23 (by kernel_rfl) _ rfl)
        exact ⟨rfl, .inl ⟨wanted_none rfl, wp_val (run_move rfl (ev_tmp e23)) ⟨rfl, Below.refl _ _⟩⟩⟩
      · intro a' w' ha hs hw hold
        have e24 : a'.tmps[57]? = some (Value.bool true) := Rg.slot_get rfl rfl (hw 24 (by kernel_rfl) _ rfl)
        have eo8 : a'.tmps[8]? = some (ptr ga) := (ha.rest 8 (by kernel_rfl)).trans rfl
        exact ⟨rfl, .inl ⟨wanted_some rfl rfl rfl e24, wp_val (run_qfield0 rfl (ev_tmp eo8)) ⟨rfl, Below.refl _ _⟩⟩⟩
      · intro a' w' ha hs hw hold
        have e24 : a'.tmps[57]? = some (Value.bool true) := Rg.slot_get rfl rfl (hw 24 (by kernel_rfl) _ rfl)
        have e25 : a'.tmps[58]? = some (.pointer (some ⟨ga, 0, none⟩)) := Rg.slot_get rfl rfl (hw 25 (by kernel_rfl) _ rfl)
        exact ⟨rfl, .inl ⟨wanted_some rfl rfl rfl e24, wp_val (run_qload0 rfl (ev_tmp e25) (QXa.out.bel hs (by simp))) ⟨rfl, Below.refl _ _⟩⟩⟩
      · intro a' w' ha hs hw hold
        have e24 : a'.tmps[57]? = some (Value.bool true) := Rg.slot_get rfl rfl (hw 24 (by kernel_rfl) _ rfl)
        have eo8 : a'.tmps[8]? = some (ptr ga) := (ha.rest 8 (by kernel_rfl)).trans rfl
        exact ⟨rfl, .inl ⟨wanted_some rfl rfl rfl e24, wp_val (run_qfield1 rfl (ev_tmp eo8)) ⟨rfl, Below.refl _ _⟩⟩⟩
      · intro a' w' ha hs hw hold
        have e24 : a'.tmps[57]? = some (Value.bool true) := Rg.slot_get rfl rfl (hw 24 (by kernel_rfl) _ rfl)
        have e27 : a'.tmps[60]? = some (.pointer (some ⟨ga, 2, none⟩)) := Rg.slot_get rfl rfl (hw 27 (by kernel_rfl) _ rfl)
        exact ⟨rfl, .inl ⟨wanted_some rfl rfl rfl e24, wp_val (run_qload1 rfl (ev_tmp e27) (QXa.out.bel hs (by simp))) ⟨rfl, Below.refl _ _⟩⟩⟩
      · intro a' w' ha hs hw hold
        have e24 : a'.tmps[57]? = some (Value.bool true) := Rg.slot_get rfl rfl (hw 24 (by kernel_rfl) _ rfl)
        have e26 : a'.tmps[59]? = some (.agg #[.bool san, .slice Xan pan qan]) := Rg.slot_get rfl rfl (hw 26 (by kernel_rfl) _ rfl)
        have e28 : a'.tmps[61]? = some (.agg #[.bool sad, .slice Xad pad qad]) := Rg.slot_get rfl rfl (hw 28 (by kernel_rfl) _ rfl)
        exact ⟨rfl, wanted_some rfl rfl rfl e24, call_step rfl Tryz.func54 (by kernel_rfl) rfl (map_two (ev_tmp e26) (ev_tmp e28)) (gcd_is _ _ a.num (a.den : Int) 1 _ (IVna.out.kn hs.kn) (IVda.out.kn hs.kn) (SA.out.num.mono (by decide)) (SA.out.den.mono (by decide)) (gcd_one a)) (fun e w2 he => by obtain ⟨v, rfl, hv, hb⟩ := he; exact ⟨v, rfl, v, rfl, hv, hb⟩)⟩
      · intro a' w' ha hs hw hold
        have e24 : a'.tmps[57]? = some (Value.bool true) := Rg.slot_get rfl rfl (hw 24 (by kernel_rfl) _ rfl)
        exact ⟨rfl, wanted_some rfl rfl rfl e24, call_step rfl Tryz.func55 (by kernel_rfl) rfl (map_one rfl) (of_any 1 _ (by omega) (by omega)) (fun e w2 he => by obtain ⟨v, rfl, hv, hb⟩ := he; exact ⟨v, rfl, v, rfl, hv, hb⟩)⟩
      · intro a' w' ha hs hw hold
        have e24 : a'.tmps[57]? = some (Value.bool true) := Rg.slot_get rfl rfl (hw 24 (by kernel_rfl) _ rfl)
        obtain ⟨v29, e29, q29⟩ := hw 29 (by kernel_rfl) _ rfl
        replace e29 : a'.tmps[62]? = some v29 := Rg.slot_get rfl rfl e29
        obtain ⟨v30, e30, q30⟩ := hw 30 (by kernel_rfl) _ rfl
        replace e30 : a'.tmps[63]? = some v30 := Rg.slot_get rfl rfl e30
        exact ⟨rfl, .inl ⟨wanted_some rfl rfl rfl e24, call_step rfl Tryz.func35 (by kernel_rfl) rfl (map_two (ev_tmp e29) (ev_tmp e30)) (cmp_is _ _ 1 1 0 _ q29 q30 (szs (by omega) (by omega)) (szs (by omega) (by omega)) (by decide)) (fun e w2 he => by obtain ⟨rfl, hb⟩ := he; exact ⟨_, rfl, rfl, hb⟩)⟩⟩
      · intro a' w' ha hs hw hold
        have e24 : a'.tmps[57]? = some (Value.bool true) := Rg.slot_get rfl rfl (hw 24 (by kernel_rfl) _ rfl)
        have e31 : a'.tmps[64]? = some (Value.int IntKind.i64 0) := Rg.slot_get rfl rfl (hw 31 (by kernel_rfl) _ rfl)
        exact ⟨rfl, .inl ⟨wanted_some rfl rfl rfl e24, wp_val (show _ = _ from (run_eql_int rfl (ev_tmp e31) rfl).trans (by rfl)) ⟨rfl, Below.refl _ _⟩⟩⟩
      · intro a' w' ha hs hw hold
        have e24 : a'.tmps[57]? = some (Value.bool true) := Rg.slot_get rfl rfl (hw 24 (by kernel_rfl) _ rfl)
        have e32 : a'.tmps[65]? = some (Value.bool true) := Rg.slot_get rfl rfl (hw 32 (by kernel_rfl) _ rfl)
        exact ⟨rfl, .inl ⟨wanted_none rfl, wp_val (run_pick (b := true) rfl (ev_tmp e24) (ev_tmp e32)) ⟨rfl, Below.refl _ _⟩⟩⟩
      · intro a' w' ha hs hw hold
        have e33 : a'.tmps[66]? = some (Value.bool true) := Rg.slot_get rfl rfl (hw 33 (by kernel_rfl) _ rfl)
        exact ⟨rfl, .inl ⟨wanted_none rfl, wp_val (run_move rfl (ev_tmp e33)) ⟨rfl, Below.refl _ _⟩⟩⟩
      · intro a' w' ha hs hw hold
        have e34 : a'.tmps[67]? = some (Value.bool true) := Rg.slot_get rfl rfl (hw 34 (by kernel_rfl) _ rfl)
        have eo5 : a'.tmps[5]? = some (Value.bool true) := (ha.rest 5 (by kernel_rfl)).trans rfl
        exact ⟨rfl, .inl ⟨wanted_some rfl rfl rfl e34, wp_val (run_move rfl (ev_tmp eo5)) ⟨rfl, Below.refl _ _⟩⟩⟩
      · intro a' w' ha hs hw hold
        have e34 : a'.tmps[67]? = some (Value.bool true) := Rg.slot_get rfl rfl (hw 34 (by kernel_rfl) _ rfl)
        have e35 : a'.tmps[68]? = some (Value.bool true) := Rg.slot_get rfl rfl (hw 35 (by kernel_rfl) _ rfl)
        exact ⟨rfl, .inl ⟨wanted_none rfl, wp_val (run_pick (b := true) rfl (ev_tmp e34) (ev_tmp e35)) ⟨rfl, Below.refl _ _⟩⟩⟩
      · intro a' w' ha hs hw hold
        have e36 : a'.tmps[69]? = some (Value.bool true) := Rg.slot_get rfl rfl (hw 36 (by kernel_rfl) _ rfl)
        exact ⟨rfl, .inl ⟨wanted_none rfl, wp_val (run_assign rfl (ev_tmp e36)) ⟨rfl, Below.refl _ _⟩⟩⟩
    simp only [Rg.allG]
    intro r14x10 _
    intro r14x14 _
    intro r14x29 _
    intro r14x30 _
    simp only [setOpt, Rg.setOpt, List.set_cons_succ, List.set_cons_zero]
    refine hK _ _ ?_
    clear hK K
    replace hs := hs.below
    replace BXx := Lib.hid (BXx.out.next hs rfl); replace IVx := Lib.hid (iv_next IVx.out hs rfl)
    replace BXy := Lib.hid (BXy.out.next hs rfl); replace IVy := Lib.hid (iv_next IVy.out hs rfl)
    replace QXa := Lib.hid (QXa.out.next hs rfl); replace IVna := Lib.hid (iv_next IVna.out hs rfl); replace IVda := Lib.hid (iv_next IVda.out hs rfl)
    replace DW := Lib.hid (link_below DW.out hs (by have := DW.out.size; have := hg.out; omega) rfl rfl rfl rfl)
    clear hs
    go_wp2
    go_ret
    exact ⟨rfl, by rw [hg.out]; exact DW.out⟩
end Go.Proofs.YtfigimfdojbkeaaGreat
