/-
  The reference's functions on fractions.
-/
import Derived.Test.YtfigimfdojbkeaaGreatRatQ
import Derived.Deep.DeepCutAuto
import Derived.Handy
set_option linter.unusedSimpArgs false
set_option linter.unusedVariables false
namespace Go.Proofs.YtfigimfdojbkeaaGreat
open Go.RowKit
attribute [local go_sem ↓] Go.wp_at_zero Go.wp_at_succ

/-- The number that raw parts make. -/
def big (k : Int) : Int := 4611686018427387904 + k
def mkN (n k : Int) : Int := if k % 8 = 7 then n * big k * big k + k else n
def mkD (d k : Int) : Int := if k % 8 = 6 then (if d = 0 then 1 else d) * big k * big k else if d = 0 then 1 else d
def mkQ (n d k : Int) : Rat := Rat.divInt (mkN n k) (mkD d k)
theorem mkD_ne (d k : Int) (hk : 0 ≤ k) : mkD d k ≠ 0 := by
  unfold mkD big
  have h1 : (if d = 0 then 1 else d) ≠ 0 := by split <;> omega
  split
  · exact Int.mul_ne_zero (Int.mul_ne_zero h1 (by omega)) (by omega)
  · exact h1

set_option maxHeartbeats 8000000 in
set_option maxRecDepth 100000 in
theorem qmade_any (na da ka : Int) (w : World) (hn : -128 ≤ na ∧ na ≤ 127) (hd : -128 ≤ da ∧ da ≤ 127) (hk : 0 ≤ ka ∧ ka ≤ 255) : Calls Tryz.prog 15 #[.agg #[.int .i8 na, .int .i8 da, .int .u8 ka]] w (RetQ (mkQ na da ka).num (mkQ na da ka).den w) := by
  have HN : Hid (-9223372036854775808 ≤ na ∧ na ≤ 9223372036854775807) := ⟨by omega, by omega⟩
  have HDD : Hid (-9223372036854775808 ≤ da ∧ da ≤ 9223372036854775807) := ⟨by omega, by omega⟩
  have HK : Hid (-9223372036854775808 ≤ ka ∧ ka ≤ 9223372036854775807) := ⟨by omega, by omega⟩
  have HK1 : Hid (0 ≤ ka ∧ ka ≤ 255) := hk
  have hne := Lib.hid (mkD_ne da ka hk.1)
  have SN : Hid (Sz na 2) := I64.sz HN.out
  have SD : Hid (Sz da 2) := I64.sz HDD.out
  have SK : Hid (Sz ka 2) := I64.sz HK.out
  have SB : Hid (Sz (big ka) 2) := I64.sz ⟨by unfold big; omega, by unfold big; omega⟩
  clear hn hd hk
  go_enter Tryz.func15, Tryz.ntmps15
  go_wp2_with fail
  obtain ⟨W, hW⟩ : ∃ W, W = ((w.alloc (Obj.cells #[Value.int IntKind.i8 na, Value.int IntKind.i8 da, Value.int IntKind.u8 ka] 24)).alloc (Obj.cells #[Value.bool false, Value.slice none 0 0, Value.bool false, Value.slice none 0 0] 31)) := ⟨_, rfl⟩
  rw [← hW]
  have KXa : Hid (KBox W (w.heap.size) na da ka) := by rw [hW]; have := (KBox.new w na da ka).alloc (Obj.cells #[Value.bool false, Value.slice none 0 0, Value.bool false, Value.slice none 0 0] 31); simpa [Hid] using this
  have RXr : Hid (QBox W (w.heap.size + 1) false (.slice none 0 0) false (.slice none 0 0)) := by rw [hW]; have := QBox.new (w.alloc (Obj.cells #[Value.int IntKind.i8 na, Value.int IntKind.i8 da, Value.int IntKind.u8 ka] 24)) false (Value.slice none 0 0) false (Value.slice none 0 0); simpa [Hid] using this
  have DW : Hid (Below w.heap.size w W) := by rw [hW]; exact ((Below.refl _ _).alloc (by simp <;> omega) _).alloc (by simp <;> omega) _
  clear hW
  generalize hg : w.heap.size = g at *
  replace hg := Lib.hid hg
  go_upto_region 1 with fail
  refine Rg.region_gg W [.is (.pointer (some ⟨g, 0, none⟩)), .is (.int .i8 na), .is (.int .i64 na), .sat (pIv (na)) (pIv_keep _), .is (.pointer (some ⟨g, 1, none⟩)), .is (.int .i8 da), .is (.int .i64 da), .sat (pIv (da)) (pIv_keep _), .own pNew pNew_keep, .own pNew pNew_keep, .put 8 (pPut (na)) (pPut_keep _), .put 9 (pPut (da)) (pPut_keep _)] [] [some 6, some 7, some 8, some 9, some 10, some 11, some 12, some 13, some 3, some 4, none, none] (by kernel_rfl) (by kernel_rfl) (by kernel_rfl) (by kernel_rfl) (by kernel_rfl) (by simp [Rg.stos]) (by rfl) (by rfl) (by kernel_rfl) (by simp) ((Below.refl _ _).drew) (fun Q' => ?_) (fun K hK wn hs => ?_)
  · refine ⟨?_, ?_, ?_, ?_, ?_, ?_, ?_, ?_, ?_, ?_, ?_, ?_, trivial⟩
    · intro a' w' ha hs hw hold
      have eo1 : a'.tmps[1]? = some (ptr g) := (ha.rest 1 (by kernel_rfl)).trans rfl
      exact ⟨rfl, .inl ⟨wanted_none rfl, wp_val (run_kfield rfl (by omega) (ev_tmp eo1)) ⟨rfl, Below.refl _ _⟩⟩⟩
    · intro a' w' ha hs hw hold
      have e0 : a'.tmps[6]? = some (.pointer (some ⟨g, 0, none⟩)) := Rg.slot_get rfl rfl (hw 0 (by kernel_rfl) _ rfl)
      exact ⟨rfl, .inl ⟨wanted_none rfl, wp_val (run_kload8 rfl (ev_tmp e0) (KXa.out.bel hs (by simp)).cell0) ⟨rfl, Below.refl _ _⟩⟩⟩
    · intro a' w' ha hs hw hold
      have e1 : a'.tmps[7]? = some (.int .i8 na) := Rg.slot_get rfl rfl (hw 1 (by kernel_rfl) _ rfl)
      exact ⟨rfl, .inl ⟨wanted_none rfl, wp_val (run_conv8 rfl (ev_tmp e1) HN.out) ⟨rfl, Below.refl _ _⟩⟩⟩
    · intro a' w' ha hs hw hold
      have e2 : a'.tmps[8]? = some (.int .i64 na) := Rg.slot_get rfl rfl (hw 2 (by kernel_rfl) _ rfl)
      exact ⟨rfl, wanted_none rfl, call_step rfl Tryz.func89 (by kernel_rfl) rfl (map_one (ev_tmp e2)) (rof_any na _ HN.out.1 HN.out.2) (fun e w2 he => by obtain ⟨v, rfl, hv, hb⟩ := he; exact ⟨v, rfl, v, rfl, hv, hb⟩)⟩
    · intro a' w' ha hs hw hold
      have eo1 : a'.tmps[1]? = some (ptr g) := (ha.rest 1 (by kernel_rfl)).trans rfl
      exact ⟨rfl, .inl ⟨wanted_none rfl, wp_val (run_kfield rfl (by omega) (ev_tmp eo1)) ⟨rfl, Below.refl _ _⟩⟩⟩
    · intro a' w' ha hs hw hold
      have e4 : a'.tmps[10]? = some (.pointer (some ⟨g, 1, none⟩)) := Rg.slot_get rfl rfl (hw 4 (by kernel_rfl) _ rfl)
      exact ⟨rfl, .inl ⟨wanted_none rfl, wp_val (run_kload8 rfl (ev_tmp e4) (KXa.out.bel hs (by simp)).cell1) ⟨rfl, Below.refl _ _⟩⟩⟩
    · intro a' w' ha hs hw hold
      have e5 : a'.tmps[11]? = some (.int .i8 da) := Rg.slot_get rfl rfl (hw 5 (by kernel_rfl) _ rfl)
      exact ⟨rfl, .inl ⟨wanted_none rfl, wp_val (run_conv8 rfl (ev_tmp e5) HDD.out) ⟨rfl, Below.refl _ _⟩⟩⟩
    · intro a' w' ha hs hw hold
      have e6 : a'.tmps[12]? = some (.int .i64 da) := Rg.slot_get rfl rfl (hw 6 (by kernel_rfl) _ rfl)
      exact ⟨rfl, wanted_none rfl, call_step rfl Tryz.func89 (by kernel_rfl) rfl (map_one (ev_tmp e6)) (rof_any da _ HDD.out.1 HDD.out.2) (fun e w2 he => by obtain ⟨v, rfl, hv, hb⟩ := he; exact ⟨v, rfl, v, rfl, hv, hb⟩)⟩
    · intro a' w' ha hs hw hold
      exact ⟨rfl, wanted_none rfl, step_new rfl⟩
    · intro a' w' ha hs hw hold
      exact ⟨rfl, wanted_none rfl, step_new rfl⟩
    · intro a' w' ha hs hw hold
      obtain ⟨v3, e3, q3⟩ := hw 3 (by kernel_rfl) _ rfl
      replace e3 : a'.tmps[9]? = some v3 := Rg.slot_get rfl rfl e3
      refine ⟨rfl, wanted_none rfl, by kernel_rfl, fun pv pg pp ph pe1 pe2 pe3 pe4 => ?_⟩
      cases pe1
      exact step_put rfl rfl (ev_tmp (Rg.slot_get rfl rfl pe2)) (ev_tmp e3) pe3 pe4 q3
    · intro a' w' ha hs hw hold
      obtain ⟨v7, e7, q7⟩ := hw 7 (by kernel_rfl) _ rfl
      replace e7 : a'.tmps[13]? = some v7 := Rg.slot_get rfl rfl e7
      refine ⟨rfl, wanted_none rfl, by kernel_rfl, fun pv pg pp ph pe1 pe2 pe3 pe4 => ?_⟩
      cases pe1
      exact step_put rfl rfl (ev_tmp (Rg.slot_get rfl rfl pe2)) (ev_tmp e7) pe3 pe4 q7
  simp only [Rg.allG]
  intro r1x3 _
  intro r1x7 _
  intro a1x8 gb1x8 hE1x8 hB1x8 _ hN1x8 _
  intro a1x9 gb1x9 hE1x9 hB1x9 _ hN1x9 _
  intro v1 he hp
  simp only [List.nil_append, List.cons_append, List.getElem?_cons_succ, List.getElem?_cons_zero, Option.some.injEq] at he
  subst he
  obtain ⟨gn, rfl, Xn, pn, qn, BXn, IVn⟩ := hp
  intro v1 he hp
  simp only [List.nil_append, List.cons_append, List.getElem?_cons_succ, List.getElem?_cons_zero, Option.some.injEq] at he
  subst he
  obtain ⟨gd, rfl, Xd, pd, qd, BXd, IVd⟩ := hp
  simp only [setOpt, Rg.setOpt, List.set_cons_succ, List.set_cons_zero, ptr]
  refine hK _ _ ?_
  clear hK K
  replace hs := hs.below
  have hgb : gn = gb1x8 := Option.some.inj hE1x8
  have NEnr : Hid (gn ≠ (g + 1)) := by have h1 := RXr.out.lt; unfold Hid; omega
  have GBn : Hid (g ≤ gn) := by have := DW.out.size; have := hg.out; unfold Hid; omega
  have LTan : Hid (g < gn) := by have := KXa.out.lt; unfold Hid; omega
  clear hgb
  have hgb : gd = gb1x9 := Option.some.inj hE1x9
  have NEdr : Hid (gd ≠ (g + 1)) := by have h1 := RXr.out.lt; unfold Hid; omega
  have GBd : Hid (g ≤ gd) := by have := DW.out.size; have := hg.out; unfold Hid; omega
  have LTad : Hid (g < gd) := by have := KXa.out.lt; unfold Hid; omega
  have NQnd : Hid (gn ≠ gd) := by have h3 := hN1x9 8 _ (by rfl) (by kernel_rfl); unfold Hid; rintro rfl; exact h3 (congrArg some hgb)
  clear hgb
  clear hE1x8 hB1x8 hN1x8 hE1x9 hB1x9 hN1x9
  replace RXr := Lib.hid (RXr.out.next hs rfl)
  replace KXa := Lib.hid (KXa.out.next hs rfl)
  replace DW := nxd DW hg hs rfl rfl rfl rfl
  generalize hsg : decide ((na : Int) < 0) = sn at *
  clear hsg
  replace BXn := Lib.hid BXn; replace IVn := Lib.hid IVn
  generalize hsg : decide ((da : Int) < 0) = sd at *
  clear hsg
  replace BXd := Lib.hid BXd; replace IVd := Lib.hid IVd
  clear hs
  by_cases h0 : da = 0
  · skip
    have hc : (da == 0) = true := by rw [h0]; rfl
    have u2a := KXa.out.cell0; have u2b := KXa.out.cell1; have u2c := KXa.out.cell2
    go_upto_region 3 with fail
    clear hc u2a u2b u2c
    go_wp2_with fail
    refine (rof_any 1 _ (by omega) (by omega)).mono ?_
    rintro e y3 ⟨_, rfl, hq, hb⟩
    obtain ⟨Xd9, pd9, qd9, rfl, _, _, _⟩ := hq.form
    have Q9 := Lib.hid hq; clear hq
    replace BXn := nxb BXn hb rfl; replace IVn := nxv IVn hb rfl
    replace BXd := nxb BXd hb rfl; replace IVd := nxv IVd hb rfl
    replace RXr := Lib.hid (RXr.out.next hb rfl)
    replace KXa := Lib.hid (KXa.out.next hb rfl)
    replace DW := nxd DW hg hb rfl rfl rfl rfl
    clear hb IVd
    generalize hs : decide ((1 : Int) < 0) = s9 at *
    clear hs
    have u1 := BXd.out.cell0; have u2 := BXd.out.cell1; have u3 := BXd.out.frozen 0; have u4 := BXd.out.frozen 1
    go_upto_region 4 with fail
    clear u1 u2 u3 u4
    obtain ⟨W4, hW⟩ : ∃ W4, W4 = (y3.setCell ⟨gd, 0, none⟩ (.bool s9)).setCell ⟨gd, 1, none⟩ (.slice Xd9 pd9 qd9) := ⟨_, rfl⟩
    rw [← hW]
    replace BXn : Hid (Box W4 gn sn (.slice Xn pn qn)) := by rw [hW]; exact (BXn.out.far (by have := NQnd.out; simp; omega) _).far (by have := NQnd.out; simp; omega) _
    replace IVn := Lib.hid (iv_keep IVn.out BXd.out s9 (u := .slice Xd9 pd9 qd9))
    rw [← hW] at IVn
    replace KXa := Lib.hid ((KXa.out.far (by have := LTad.out; simp; omega) (.bool s9) (p := ⟨gd, 0, none⟩)).far (by have := LTad.out; simp; omega) (.slice Xd9 pd9 qd9) (p := ⟨gd, 1, none⟩))
    rw [← hW] at KXa
    replace RXr := Lib.hid ((RXr.out.far (by have := NEdr.out; simp; omega) (.bool s9) (p := ⟨gd, 0, none⟩)).far (by have := NEdr.out; simp; omega) (.slice Xd9 pd9 qd9) (p := ⟨gd, 1, none⟩))
    rw [← hW] at RXr
    replace DW : Hid (Below g w W4) := by rw [hW]; exact (DW.out.setCell (by simp <;> have := GBd.out <;> omega) _).setCell (by simp <;> have := GBd.out <;> omega) _
    have IVd : Hid (Iv W4 (.agg #[.bool s9, .slice Xd9 pd9 qd9]) (1)) := by rw [hW]; exact iv_keep Q9.out BXd.out _
    replace BXd : Hid (Box W4 gd s9 (.slice Xd9 pd9 qd9)) := by rw [hW]; exact box_store BXd.out
    clear hW Q9
    generalize hx1 : Xd9 = Xdx at *
    generalize hx2 : pd9 = pdx at *
    generalize hx3 : qd9 = qdx at *
    generalize hx4 : s9 = sdx at *
    clear hx1 hx2 hx3 hx4
    have HD0 : (if da = 0 then (1 : Int) else da) = 1 := if_pos h0
    clear h0
    have u5a := KXa.out.cell0; have u5b := KXa.out.cell1; have u5c := KXa.out.cell2
    have k1 := HK1.out.1; have k2 := HK1.out.2
    go_wp2_with fail
    clear k1 k2 u5a u5b u5c
    refine (rof_any (big ka) _ (by have := HK1.out; unfold big; omega) (by have := HK1.out; unfold big; omega)).mono ?_
    rintro e y6 ⟨_, rfl, hq, hb⟩
    obtain ⟨Xb, pb, qb, rfl, _, _, _⟩ := hq.form
    have Qb := Lib.hid hq; clear hq
    have B := Lib.hid hb; clear hb
    generalize hs : decide ((big ka : Int) < 0) = sb at *
    clear hs
    go_upto_region 5 with fail
    obtain ⟨W7, hW⟩ : ∃ W7, W7 = (y6.alloc (Obj.cells #[Value.bool sb, Value.slice Xb pb qb] 29)) := ⟨_, rfl⟩
    rw [← hW]
    have BXb : Hid (Box W7 (y6.heap.size) sb (.slice Xb pb qb)) := by rw [hW]; have := Box.new y6 sb (.slice Xb pb qb); simpa [Hid] using this
    have IVb : Hid (Iv W7 (.agg #[.bool sb, .slice Xb pb qb]) (big ka)) := by rw [hW]; exact (Qb.out).alloc _
    have hd : Below W4.heap.size W4 W7 := by rw [hW]; exact (B.out).alloc (by have := B.out.size; simp <;> omega) _
    have NEbr : Hid ((y6.heap.size) ≠ (g + 1)) := by have := RXr.out.lt; have := B.out.size; unfold Hid; omega
    have GBb : Hid (g ≤ y6.heap.size) := by have := DW.out.size; have := hg.out; have := B.out.size; unfold Hid; omega
    have LTab : Hid (g < y6.heap.size) := by have := KXa.out.lt; have := B.out.size; unfold Hid; omega
    have LTnb : Hid (gn < y6.heap.size) := by have := BXn.out.lt; have := B.out.size; unfold Hid; omega
    have LTdb : Hid (gd < y6.heap.size) := by have := BXd.out.lt; have := B.out.size; unfold Hid; omega
    clear hW B Qb
    generalize hgn7 : y6.heap.size = gb at *
    clear hgn7
    replace BXn := nxb BXn hd rfl; replace IVn := nxv IVn hd rfl
    replace BXd := nxb BXd hd rfl; replace IVd := nxv IVd hd rfl
    replace RXr := Lib.hid (RXr.out.next hd rfl)
    replace KXa := Lib.hid (KXa.out.next hd rfl)
    replace DW := nxd DW hg hd rfl rfl rfl rfl
    clear hd
    by_cases h7 : ka % 8 = 7
    · skip
      have c1 : (ka % 8 == 7) = true := by rw [h7]; rfl
      have c2 : (ka.tmod 8 == 7) = true := by rw [Int.tmod_eq_emod_of_nonneg HK1.out.1]; exact c1
      have c3 : (ka % 8 == 6) = false := by rw [h7]; rfl
      have c4 : (ka.tmod 8 == 6) = false := by rw [Int.tmod_eq_emod_of_nonneg HK1.out.1]; exact c3
      have u8a := KXa.out.cell0; have u8b := KXa.out.cell1; have u8c := KXa.out.cell2
      go_upto_region 6 with fail
      clear c1 c2 u8a u8b u8c
      replace c3 := Lib.hid c3; replace c4 := Lib.hid c4
      refine Rg.region_gg W7 [.is (.agg #[.bool sn, .slice Xn pn qn]), .is (.agg #[.bool sb, .slice Xb pb qb]), .sat (pIv (na * big ka)) (pIv_keep _), .is (.agg #[.bool sb, .slice Xb pb qb]), .sat (pIv (na * big ka * big ka)) (pIv_keep _), .is (.pointer (some ⟨g, 2, none⟩)), .is (.int .u8 ka), .is (.int .i64 ka), .sat (pIv (ka)) (pIv_keep _), .sat (pIv (na * big ka * big ka + ka)) (pIv_keep _), .sto gn (sI gn (na * big ka * big ka + ka)) (sI_keep _ _)] [gn] [some 27, some 28, some 29, some 30, some 31, some 32, some 33, some 34, some 35, some 36, none] (by kernel_rfl) (by kernel_rfl) (by kernel_rfl) (by kernel_rfl) (by kernel_rfl) (by simp [Rg.stos]) (by rfl) (by rfl) (by kernel_rfl) (by intro g hg; simp only [List.mem_cons, List.not_mem_nil, or_false] at hg; subst hg; exact BXn.out.lt) ((Below.refl _ _).drew) (fun Q' => ?_) (fun K hK wn hs => ?_)
      · refine ⟨?_, ?_, ?_, ?_, ?_, ?_, ?_, ?_, ?_, ?_, ?_, trivial⟩
        · intro a' w' ha hs hw hold
          have eo3 : a'.tmps[3]? = some (ptr gn) := (ha.rest 3 (by kernel_rfl)).trans rfl
          exact ⟨rfl, .inl ⟨wanted_none rfl, wp_val (run_pload rfl (ev_tmp eo3) ((hold 10 _ _ _ _ (by rfl) (by rfl) (by kernel_rfl)).trans BXn.out)) ⟨rfl, Below.refl _ _⟩⟩⟩
        · intro a' w' ha hs hw hold
          have eo5 : a'.tmps[5]? = some (ptr gb) := (ha.rest 5 (by kernel_rfl)).trans rfl
          exact ⟨rfl, .inl ⟨wanted_none rfl, wp_val (run_pload rfl (ev_tmp eo5) (BXb.out.bel hs (by simp only [List.mem_cons, List.not_mem_nil, or_false, not_or]; exact (Nat.ne_of_gt LTnb.out)))) ⟨rfl, Below.refl _ _⟩⟩⟩
        · intro a' w' ha hs hw hold
          have e0 : a'.tmps[27]? = some (.agg #[.bool sn, .slice Xn pn qn]) := Rg.slot_get rfl rfl (hw 0 (by kernel_rfl) _ rfl)
          have e1 : a'.tmps[28]? = some (.agg #[.bool sb, .slice Xb pb qb]) := Rg.slot_get rfl rfl (hw 1 (by kernel_rfl) _ rfl)
          exact ⟨rfl, wanted_none rfl, call_step rfl Tryz.func91 (by kernel_rfl) rfl (map_two (ev_tmp e0) (ev_tmp e1)) (rmul_any _ _ na (big ka) _ (IVn.out.kn hs.kn) (IVb.out.kn hs.kn) (SN.out.mono (by omega)) (SB.out.mono (by omega))) (fun e w2 he => by obtain ⟨v, rfl, hv, hb⟩ := he; exact ⟨v, rfl, v, rfl, hv, hb⟩)⟩
        · intro a' w' ha hs hw hold
          have eo5 : a'.tmps[5]? = some (ptr gb) := (ha.rest 5 (by kernel_rfl)).trans rfl
          exact ⟨rfl, .inl ⟨wanted_none rfl, wp_val (run_pload rfl (ev_tmp eo5) (BXb.out.bel hs (by simp only [List.mem_cons, List.not_mem_nil, or_false, not_or]; exact (Nat.ne_of_gt LTnb.out)))) ⟨rfl, Below.refl _ _⟩⟩⟩
        · intro a' w' ha hs hw hold
          obtain ⟨v2, e2, q2⟩ := hw 2 (by kernel_rfl) _ rfl
          replace e2 : a'.tmps[29]? = some v2 := Rg.slot_get rfl rfl e2
          have e3 : a'.tmps[30]? = some (.agg #[.bool sb, .slice Xb pb qb]) := Rg.slot_get rfl rfl (hw 3 (by kernel_rfl) _ rfl)
          exact ⟨rfl, wanted_none rfl, call_step rfl Tryz.func91 (by kernel_rfl) rfl (map_two (ev_tmp e2) (ev_tmp e3)) (rmul_any _ _ (na * big ka) (big ka) _ q2 (IVb.out.kn hs.kn) ((SN.out.mul SB.out).mono (by omega)) (SB.out.mono (by omega))) (fun e w2 he => by obtain ⟨v, rfl, hv, hb⟩ := he; exact ⟨v, rfl, v, rfl, hv, hb⟩)⟩
        · intro a' w' ha hs hw hold
          have eo1 : a'.tmps[1]? = some (ptr g) := (ha.rest 1 (by kernel_rfl)).trans rfl
          exact ⟨rfl, .inl ⟨wanted_none rfl, wp_val (run_kfield rfl (by omega) (ev_tmp eo1)) ⟨rfl, Below.refl _ _⟩⟩⟩
        · intro a' w' ha hs hw hold
          have e5 : a'.tmps[32]? = some (.pointer (some ⟨g, 2, none⟩)) := Rg.slot_get rfl rfl (hw 5 (by kernel_rfl) _ rfl)
          exact ⟨rfl, .inl ⟨wanted_none rfl, wp_val (run_kloadu rfl (ev_tmp e5) (KXa.out.bel hs (by simp only [List.mem_cons, List.not_mem_nil, or_false, not_or]; exact (Nat.ne_of_lt LTan.out))).cell2) ⟨rfl, Below.refl _ _⟩⟩⟩
        · intro a' w' ha hs hw hold
          have e6 : a'.tmps[33]? = some (.int .u8 ka) := Rg.slot_get rfl rfl (hw 6 (by kernel_rfl) _ rfl)
          exact ⟨rfl, .inl ⟨wanted_none rfl, wp_val (run_convu rfl (ev_tmp e6) HK.out) ⟨rfl, Below.refl _ _⟩⟩⟩
        · intro a' w' ha hs hw hold
          have e7 : a'.tmps[34]? = some (.int .i64 ka) := Rg.slot_get rfl rfl (hw 7 (by kernel_rfl) _ rfl)
          exact ⟨rfl, wanted_none rfl, call_step rfl Tryz.func89 (by kernel_rfl) rfl (map_one (ev_tmp e7)) (rof_any ka _ HK.out.1 HK.out.2) (fun e w2 he => by obtain ⟨v, rfl, hv, hb⟩ := he; exact ⟨v, rfl, v, rfl, hv, hb⟩)⟩
        · intro a' w' ha hs hw hold
          obtain ⟨v4, e4, q4⟩ := hw 4 (by kernel_rfl) _ rfl
          replace e4 : a'.tmps[31]? = some v4 := Rg.slot_get rfl rfl e4
          obtain ⟨v8, e8, q8⟩ := hw 8 (by kernel_rfl) _ rfl
          replace e8 : a'.tmps[35]? = some v8 := Rg.slot_get rfl rfl e8
          exact ⟨rfl, wanted_none rfl, call_step rfl Tryz.func90 (by kernel_rfl) rfl (map_two (ev_tmp e4) (ev_tmp e8)) (radd_any _ _ (na * big ka * big ka) ka _ q4 q8 (((SN.out.mul SB.out).mul SB.out).mono (by omega)) (SK.out.mono (by omega))) (fun e w2 he => by obtain ⟨v, rfl, hv, hb⟩ := he; exact ⟨v, rfl, v, rfl, hv, hb⟩)⟩
        · intro a' w' ha hs hw hold
          obtain ⟨v9, e9, q9⟩ := hw 9 (by kernel_rfl) _ rfl
          replace e9 : a'.tmps[36]? = some v9 := Rg.slot_get rfl rfl e9
          have eo3 : a'.tmps[3]? = some (ptr gn) := (ha.rest 3 (by kernel_rfl)).trans rfl
          exact ⟨rfl, wanted_none rfl, fun he => step_stoi rfl rfl (ev_tmp eo3) (ev_tmp e9) q9 BXn.out he⟩
      simp only [Rg.allG]
      intro r9x2 _
      intro r9x4 _
      intro r9x8 _
      intro r9x9 _
      intro hSn
      simp only [setOpt, Rg.setOpt, List.set_cons_succ, List.set_cons_zero]
      refine hK _ _ ?_
      clear hK K
      replace BXd := Lib.hid (BXd.out.bel hs (by simp only [List.mem_cons, List.not_mem_nil, or_false, not_or]; exact (Ne.symm NQnd.out))); replace IVd := Lib.hid (IVd.out.kn hs.kn)
      replace BXb := Lib.hid (BXb.out.bel hs (by simp only [List.mem_cons, List.not_mem_nil, or_false, not_or]; exact (Nat.ne_of_gt LTnb.out))); replace IVb := Lib.hid (IVb.out.kn hs.kn)
      replace RXr := Lib.hid (RXr.out.bel hs (by simp only [List.mem_cons, List.not_mem_nil, or_false, not_or]; exact (Ne.symm NEnr.out)))
      replace KXa := Lib.hid (KXa.out.bel hs (by simp only [List.mem_cons, List.not_mem_nil, or_false, not_or]; exact (Nat.ne_of_lt LTan.out)))
      replace DW := Lib.hid (hs.base DW.out (by have := hg.out; omega) (by intro x hx; simp only [List.mem_cons, List.not_mem_nil, or_false] at hx; subst hx; first | (have := GBn.out; omega) | omega))
      clear BXn IVn
      obtain ⟨Xny, pny, qny, BXn, IVn⟩ := hSn
      generalize hsg : decide ((na * big ka * big ka + ka : Int) < 0) = sny at *
      clear hsg
      replace BXn := Lib.hid BXn; replace IVn := Lib.hid IVn
      clear hs
      have u10a := KXa.out.cell0; have u10b := KXa.out.cell1; have u10c := KXa.out.cell2
      have c5 := c3.out; have c6 := c4.out
      go_upto_region 9 with fail
      clear c5 c6 c3 c4 u10a u10b u10c
      have SNN : Hid (Sz (na * big ka * big ka + ka) 7) := Sz.add ((SN.out.mul SB.out).mul SB.out) (SK.out.mono (by omega))
      have EN : mkN na ka = na * big ka * big ka + ka := if_pos h7
      have ED : mkD da ka = 1 := by unfold mkD; rw [if_neg (by omega), HD0]
      have hQ : mkQ na da ka = Rat.divInt (na * big ka * big ka + ka) (1) := by unfold mkQ; rw [EN, ED]
      replace hQ := Lib.hid hQ
      have u11a := BXn.out.cell0; have u11b := BXn.out.cell1
      have u12a := BXd.out.cell0; have u12b := BXd.out.cell1
      go_wp2_with fail
      clear u11a u11b u12a u12b
      refine (rlowest_any _ _ (na * big ka * big ka + ka) (1) _ IVn.out (SNN.out.mono (by omega)) IVd.out ((I64.sz ⟨by omega, by omega⟩ : Sz 1 2).mono (by omega)) (by have := hne.out; rwa [ED] at this)).mono ?_
      rintro e y13 ⟨_, rfl, hq, hb⟩
      obtain ⟨Xz, pz, qz, Yz, uz, tz, rfl, k1, k2⟩ := hq
      have K1 := Lib.hid k1; have K2 := Lib.hid k2; clear k1 k2
      replace BXn := nxb BXn hb rfl; replace IVn := nxv IVn hb rfl
      replace BXd := nxb BXd hb rfl; replace IVd := nxv IVd hb rfl
      replace BXb := nxb BXb hb rfl; replace IVb := nxv IVb hb rfl
      replace RXr := Lib.hid (RXr.out.next hb rfl)
      replace KXa := Lib.hid (KXa.out.next hb rfl)
      replace DW := nxd DW hg hb rfl rfl rfl rfl
      clear hb
      generalize hs1 : decide ((Rat.divInt (na * big ka * big ka + ka) (1)).num < 0) = s1 at *
      generalize hs2 : decide (((Rat.divInt (na * big ka * big ka + ka) (1)).den : Int) < 0) = s2 at *
      clear hs1 hs2
      have u14a := RXr.out.cell0; have u14b := RXr.out.cell1; have u14c := RXr.out.cell2; have u14d := RXr.out.cell3; have u14f := RXr.out.frozen 0; have u14g := RXr.out.frozen 1; have u14h := RXr.out.frozen 2; have u14i := RXr.out.frozen 3
      go_wp2
      refine bodyPost_ret (v := .agg #[.bool s1, .slice Xz pz qz, .bool s2, .slice Yz uz tz]) (by simp [results, Tryz.results15, go_sem, u14a, u14b, u14c, u14d, u14f, u14g, u14h, u14i]) rfl ⟨_, rfl, ?_, by rw [hg.out]; exact (((DW.out.setCell (by simp <;> omega) _).setCell (by simp <;> omega) _).setCell (by simp <;> omega) _).setCell (by simp <;> omega) _⟩
      have hc := chg_qbox (b' := s1) (d' := s2) (A' := Xz) (n' := pz) (c' := qz) (B' := Yz) (m' := uz) (e' := tz) RXr.out
      rw [hQ.out]
      exact qv_of (K1.out.kn hc.kn) (K2.out.kn hc.kn)
    · by_cases h6 : ka % 8 = 6
      · skip
        have c1 : (ka % 8 == 7) = false := by rw [h6]; rfl
        have c2 : (ka.tmod 8 == 7) = false := by rw [Int.tmod_eq_emod_of_nonneg HK1.out.1]; exact c1
        have c3 : (ka % 8 == 6) = true := by rw [h6]; rfl
        have c4 : (ka.tmod 8 == 6) = true := by rw [Int.tmod_eq_emod_of_nonneg HK1.out.1]; exact c3
        have u15a := KXa.out.cell0; have u15b := KXa.out.cell1; have u15c := KXa.out.cell2
        go_upto_region 8 with fail
        clear c1 c2 c3 c4 u15a u15b u15c
        have SDD : Hid (Sz (1 : Int) 2) := (I64.sz ⟨by omega, by omega⟩ : Sz 1 2)
        refine Rg.region_gg W7 [.is (.agg #[.bool sdx, .slice Xdx pdx qdx]), .is (.agg #[.bool sb, .slice Xb pb qb]), .sat (pIv ((1) * big ka)) (pIv_keep _), .is (.agg #[.bool sb, .slice Xb pb qb]), .sat (pIv ((1) * big ka * big ka)) (pIv_keep _), .sto gd (sI gd ((1) * big ka * big ka)) (sI_keep _ _)] [gd] [some 41, some 42, some 43, some 44, some 45, none] (by kernel_rfl) (by kernel_rfl) (by kernel_rfl) (by kernel_rfl) (by kernel_rfl) (by simp [Rg.stos]) (by rfl) (by rfl) (by kernel_rfl) (by intro g hg; simp only [List.mem_cons, List.not_mem_nil, or_false] at hg; subst hg; exact BXd.out.lt) ((Below.refl _ _).drew) (fun Q' => ?_) (fun K hK wn hs => ?_)
        · refine ⟨?_, ?_, ?_, ?_, ?_, ?_, trivial⟩
          · intro a' w' ha hs hw hold
            have eo4 : a'.tmps[4]? = some (ptr gd) := (ha.rest 4 (by kernel_rfl)).trans rfl
            exact ⟨rfl, .inl ⟨wanted_none rfl, wp_val (run_pload rfl (ev_tmp eo4) ((hold 5 _ _ _ _ (by rfl) (by rfl) (by kernel_rfl)).trans BXd.out)) ⟨rfl, Below.refl _ _⟩⟩⟩
          · intro a' w' ha hs hw hold
            have eo5 : a'.tmps[5]? = some (ptr gb) := (ha.rest 5 (by kernel_rfl)).trans rfl
            exact ⟨rfl, .inl ⟨wanted_none rfl, wp_val (run_pload rfl (ev_tmp eo5) (BXb.out.bel hs (by simp only [List.mem_cons, List.not_mem_nil, or_false, not_or]; exact (Nat.ne_of_gt LTdb.out)))) ⟨rfl, Below.refl _ _⟩⟩⟩
          · intro a' w' ha hs hw hold
            have e0 : a'.tmps[41]? = some (.agg #[.bool sdx, .slice Xdx pdx qdx]) := Rg.slot_get rfl rfl (hw 0 (by kernel_rfl) _ rfl)
            have e1 : a'.tmps[42]? = some (.agg #[.bool sb, .slice Xb pb qb]) := Rg.slot_get rfl rfl (hw 1 (by kernel_rfl) _ rfl)
            exact ⟨rfl, wanted_none rfl, call_step rfl Tryz.func91 (by kernel_rfl) rfl (map_two (ev_tmp e0) (ev_tmp e1)) (rmul_any _ _ (1) (big ka) _ (IVd.out.kn hs.kn) (IVb.out.kn hs.kn) (SDD.out.mono (by omega)) (SB.out.mono (by omega))) (fun e w2 he => by obtain ⟨v, rfl, hv, hb⟩ := he; exact ⟨v, rfl, v, rfl, hv, hb⟩)⟩
          · intro a' w' ha hs hw hold
            have eo5 : a'.tmps[5]? = some (ptr gb) := (ha.rest 5 (by kernel_rfl)).trans rfl
            exact ⟨rfl, .inl ⟨wanted_none rfl, wp_val (run_pload rfl (ev_tmp eo5) (BXb.out.bel hs (by simp only [List.mem_cons, List.not_mem_nil, or_false, not_or]; exact (Nat.ne_of_gt LTdb.out)))) ⟨rfl, Below.refl _ _⟩⟩⟩
          · intro a' w' ha hs hw hold
            obtain ⟨v2, e2, q2⟩ := hw 2 (by kernel_rfl) _ rfl
            replace e2 : a'.tmps[43]? = some v2 := Rg.slot_get rfl rfl e2
            have e3 : a'.tmps[44]? = some (.agg #[.bool sb, .slice Xb pb qb]) := Rg.slot_get rfl rfl (hw 3 (by kernel_rfl) _ rfl)
            exact ⟨rfl, wanted_none rfl, call_step rfl Tryz.func91 (by kernel_rfl) rfl (map_two (ev_tmp e2) (ev_tmp e3)) (rmul_any _ _ ((1) * big ka) (big ka) _ q2 (IVb.out.kn hs.kn) ((SDD.out.mul SB.out).mono (by omega)) (SB.out.mono (by omega))) (fun e w2 he => by obtain ⟨v, rfl, hv, hb⟩ := he; exact ⟨v, rfl, v, rfl, hv, hb⟩)⟩
          · intro a' w' ha hs hw hold
            obtain ⟨v4, e4, q4⟩ := hw 4 (by kernel_rfl) _ rfl
            replace e4 : a'.tmps[45]? = some v4 := Rg.slot_get rfl rfl e4
            have eo4 : a'.tmps[4]? = some (ptr gd) := (ha.rest 4 (by kernel_rfl)).trans rfl
            exact ⟨rfl, wanted_none rfl, fun he => step_stoi rfl rfl (ev_tmp eo4) (ev_tmp e4) q4 BXd.out he⟩
        simp only [Rg.allG]
        intro r16x2 _
        intro r16x4 _
        intro hSd
        simp only [setOpt, Rg.setOpt, List.set_cons_succ, List.set_cons_zero]
        refine hK _ _ ?_
        clear hK K
        replace BXn := Lib.hid (BXn.out.bel hs (by simp only [List.mem_cons, List.not_mem_nil, or_false, not_or]; exact NQnd.out)); replace IVn := Lib.hid (IVn.out.kn hs.kn)
        replace BXb := Lib.hid (BXb.out.bel hs (by simp only [List.mem_cons, List.not_mem_nil, or_false, not_or]; exact (Nat.ne_of_gt LTdb.out))); replace IVb := Lib.hid (IVb.out.kn hs.kn)
        replace RXr := Lib.hid (RXr.out.bel hs (by simp only [List.mem_cons, List.not_mem_nil, or_false, not_or]; exact (Ne.symm NEdr.out)))
        replace KXa := Lib.hid (KXa.out.bel hs (by simp only [List.mem_cons, List.not_mem_nil, or_false, not_or]; exact (Nat.ne_of_lt LTad.out)))
        replace DW := Lib.hid (hs.base DW.out (by have := hg.out; omega) (by intro x hx; simp only [List.mem_cons, List.not_mem_nil, or_false] at hx; subst hx; first | (have := GBd.out; omega) | omega))
        clear BXd IVd
        obtain ⟨Xdxy, pdxy, qdxy, BXd, IVd⟩ := hSd
        generalize hsg : decide (((1) * big ka * big ka : Int) < 0) = sdxy at *
        clear hsg
        replace BXd := Lib.hid BXd; replace IVd := Lib.hid IVd
        clear hs
        go_upto_region 9 with fail
        have SDM : Hid (Sz ((1) * big ka * big ka) 6) := (SDD.out.mul SB.out).mul SB.out
        have EN : mkN na ka = na := if_neg (by omega)
        have ED : mkD da ka = (1) * big ka * big ka := by unfold mkD; rw [if_pos h6, HD0]
        have hQ : mkQ na da ka = Rat.divInt (na) ((1) * big ka * big ka) := by unfold mkQ; rw [EN, ED]
        replace hQ := Lib.hid hQ
        have u17a := BXn.out.cell0; have u17b := BXn.out.cell1
        have u18a := BXd.out.cell0; have u18b := BXd.out.cell1
        go_wp2_with fail
        clear u17a u17b u18a u18b
        refine (rlowest_any _ _ (na) ((1) * big ka * big ka) _ IVn.out (SN.out.mono (by omega)) IVd.out (SDM.out.mono (by omega)) (by have := hne.out; rwa [ED] at this)).mono ?_
        rintro e y19 ⟨_, rfl, hq, hb⟩
        obtain ⟨Xz, pz, qz, Yz, uz, tz, rfl, k1, k2⟩ := hq
        have K1 := Lib.hid k1; have K2 := Lib.hid k2; clear k1 k2
        replace BXn := nxb BXn hb rfl; replace IVn := nxv IVn hb rfl
        replace BXd := nxb BXd hb rfl; replace IVd := nxv IVd hb rfl
        replace BXb := nxb BXb hb rfl; replace IVb := nxv IVb hb rfl
        replace RXr := Lib.hid (RXr.out.next hb rfl)
        replace KXa := Lib.hid (KXa.out.next hb rfl)
        replace DW := nxd DW hg hb rfl rfl rfl rfl
        clear hb
        generalize hs1 : decide ((Rat.divInt (na) ((1) * big ka * big ka)).num < 0) = s1 at *
        generalize hs2 : decide (((Rat.divInt (na) ((1) * big ka * big ka)).den : Int) < 0) = s2 at *
        clear hs1 hs2
        have u20a := RXr.out.cell0; have u20b := RXr.out.cell1; have u20c := RXr.out.cell2; have u20d := RXr.out.cell3; have u20f := RXr.out.frozen 0; have u20g := RXr.out.frozen 1; have u20h := RXr.out.frozen 2; have u20i := RXr.out.frozen 3
        go_wp2
        refine bodyPost_ret (v := .agg #[.bool s1, .slice Xz pz qz, .bool s2, .slice Yz uz tz]) (by simp [results, Tryz.results15, go_sem, u20a, u20b, u20c, u20d, u20f, u20g, u20h, u20i]) rfl ⟨_, rfl, ?_, by rw [hg.out]; exact (((DW.out.setCell (by simp <;> omega) _).setCell (by simp <;> omega) _).setCell (by simp <;> omega) _).setCell (by simp <;> omega) _⟩
        have hc := chg_qbox (b' := s1) (d' := s2) (A' := Xz) (n' := pz) (c' := qz) (B' := Yz) (m' := uz) (e' := tz) RXr.out
        rw [hQ.out]
        exact qv_of (K1.out.kn hc.kn) (K2.out.kn hc.kn)
      · skip
        have c1 : (ka % 8 == 7) = false := by rw [beq_eq_false_iff_ne]; exact h7
        have c2 : (ka.tmod 8 == 7) = false := by rw [Int.tmod_eq_emod_of_nonneg HK1.out.1]; exact c1
        have c3 : (ka % 8 == 6) = false := by rw [beq_eq_false_iff_ne]; exact h6
        have c4 : (ka.tmod 8 == 6) = false := by rw [Int.tmod_eq_emod_of_nonneg HK1.out.1]; exact c3
        have u21a := KXa.out.cell0; have u21b := KXa.out.cell1; have u21c := KXa.out.cell2
        go_upto_region 9 with fail
        clear c1 c2 c3 c4 u21a u21b u21c
        have EN : mkN na ka = na := if_neg h7
        have ED : mkD da ka = 1 := by unfold mkD; rw [if_neg h6, HD0]
        have hQ : mkQ na da ka = Rat.divInt (na) (1) := by unfold mkQ; rw [EN, ED]
        replace hQ := Lib.hid hQ
        have u22a := BXn.out.cell0; have u22b := BXn.out.cell1
        have u23a := BXd.out.cell0; have u23b := BXd.out.cell1
        go_wp2_with fail
        clear u22a u22b u23a u23b
        refine (rlowest_any _ _ (na) (1) _ IVn.out (SN.out.mono (by omega)) IVd.out ((I64.sz ⟨by omega, by omega⟩ : Sz 1 2).mono (by omega)) (by have := hne.out; rwa [ED] at this)).mono ?_
        rintro e y24 ⟨_, rfl, hq, hb⟩
        obtain ⟨Xz, pz, qz, Yz, uz, tz, rfl, k1, k2⟩ := hq
        have K1 := Lib.hid k1; have K2 := Lib.hid k2; clear k1 k2
        replace BXn := nxb BXn hb rfl; replace IVn := nxv IVn hb rfl
        replace BXd := nxb BXd hb rfl; replace IVd := nxv IVd hb rfl
        replace BXb := nxb BXb hb rfl; replace IVb := nxv IVb hb rfl
        replace RXr := Lib.hid (RXr.out.next hb rfl)
        replace KXa := Lib.hid (KXa.out.next hb rfl)
        replace DW := nxd DW hg hb rfl rfl rfl rfl
        clear hb
        generalize hs1 : decide ((Rat.divInt (na) (1)).num < 0) = s1 at *
        generalize hs2 : decide (((Rat.divInt (na) (1)).den : Int) < 0) = s2 at *
        clear hs1 hs2
        have u25a := RXr.out.cell0; have u25b := RXr.out.cell1; have u25c := RXr.out.cell2; have u25d := RXr.out.cell3; have u25f := RXr.out.frozen 0; have u25g := RXr.out.frozen 1; have u25h := RXr.out.frozen 2; have u25i := RXr.out.frozen 3
        go_wp2
        refine bodyPost_ret (v := .agg #[.bool s1, .slice Xz pz qz, .bool s2, .slice Yz uz tz]) (by simp [results, Tryz.results15, go_sem, u25a, u25b, u25c, u25d, u25f, u25g, u25h, u25i]) rfl ⟨_, rfl, ?_, by rw [hg.out]; exact (((DW.out.setCell (by simp <;> omega) _).setCell (by simp <;> omega) _).setCell (by simp <;> omega) _).setCell (by simp <;> omega) _⟩
        have hc := chg_qbox (b' := s1) (d' := s2) (A' := Xz) (n' := pz) (c' := qz) (B' := Yz) (m' := uz) (e' := tz) RXr.out
        rw [hQ.out]
        exact qv_of (K1.out.kn hc.kn) (K2.out.kn hc.kn)
  · skip
    have hc : (da == 0) = false := by rw [beq_eq_false_iff_ne]; exact h0
    have u26a := KXa.out.cell0; have u26b := KXa.out.cell1; have u26c := KXa.out.cell2
    go_upto_region 4 with fail
    clear hc u26a u26b u26c
    have HD0 : (if da = 0 then (1 : Int) else da) = da := if_neg h0
    clear h0
    have u27a := KXa.out.cell0; have u27b := KXa.out.cell1; have u27c := KXa.out.cell2
    have k1 := HK1.out.1; have k2 := HK1.out.2
    go_wp2_with fail
    clear k1 k2 u27a u27b u27c
    refine (rof_any (big ka) _ (by have := HK1.out; unfold big; omega) (by have := HK1.out; unfold big; omega)).mono ?_
    rintro e y28 ⟨_, rfl, hq, hb⟩
    obtain ⟨Xb, pb, qb, rfl, _, _, _⟩ := hq.form
    have Qb := Lib.hid hq; clear hq
    have B := Lib.hid hb; clear hb
    generalize hs : decide ((big ka : Int) < 0) = sb at *
    clear hs
    go_upto_region 5 with fail
    obtain ⟨W29, hW⟩ : ∃ W29, W29 = (y28.alloc (Obj.cells #[Value.bool sb, Value.slice Xb pb qb] 29)) := ⟨_, rfl⟩
    rw [← hW]
    have BXb : Hid (Box W29 (y28.heap.size) sb (.slice Xb pb qb)) := by rw [hW]; have := Box.new y28 sb (.slice Xb pb qb); simpa [Hid] using this
    have IVb : Hid (Iv W29 (.agg #[.bool sb, .slice Xb pb qb]) (big ka)) := by rw [hW]; exact (Qb.out).alloc _
    have hd : Below wn.heap.size wn W29 := by rw [hW]; exact (B.out).alloc (by have := B.out.size; simp <;> omega) _
    have NEbr : Hid ((y28.heap.size) ≠ (g + 1)) := by have := RXr.out.lt; have := B.out.size; unfold Hid; omega
    have GBb : Hid (g ≤ y28.heap.size) := by have := DW.out.size; have := hg.out; have := B.out.size; unfold Hid; omega
    have LTab : Hid (g < y28.heap.size) := by have := KXa.out.lt; have := B.out.size; unfold Hid; omega
    have LTnb : Hid (gn < y28.heap.size) := by have := BXn.out.lt; have := B.out.size; unfold Hid; omega
    have LTdb : Hid (gd < y28.heap.size) := by have := BXd.out.lt; have := B.out.size; unfold Hid; omega
    clear hW B Qb
    generalize hgn29 : y28.heap.size = gb at *
    clear hgn29
    replace BXn := nxb BXn hd rfl; replace IVn := nxv IVn hd rfl
    replace BXd := nxb BXd hd rfl; replace IVd := nxv IVd hd rfl
    replace RXr := Lib.hid (RXr.out.next hd rfl)
    replace KXa := Lib.hid (KXa.out.next hd rfl)
    replace DW := nxd DW hg hd rfl rfl rfl rfl
    clear hd
    by_cases h7 : ka % 8 = 7
    · skip
      have c1 : (ka % 8 == 7) = true := by rw [h7]; rfl
      have c2 : (ka.tmod 8 == 7) = true := by rw [Int.tmod_eq_emod_of_nonneg HK1.out.1]; exact c1
      have c3 : (ka % 8 == 6) = false := by rw [h7]; rfl
      have c4 : (ka.tmod 8 == 6) = false := by rw [Int.tmod_eq_emod_of_nonneg HK1.out.1]; exact c3
      have u30a := KXa.out.cell0; have u30b := KXa.out.cell1; have u30c := KXa.out.cell2
      go_upto_region 6 with fail
      clear c1 c2 u30a u30b u30c
      replace c3 := Lib.hid c3; replace c4 := Lib.hid c4
      refine Rg.region_gg W29 [.is (.agg #[.bool sn, .slice Xn pn qn]), .is (.agg #[.bool sb, .slice Xb pb qb]), .sat (pIv (na * big ka)) (pIv_keep _), .is (.agg #[.bool sb, .slice Xb pb qb]), .sat (pIv (na * big ka * big ka)) (pIv_keep _), .is (.pointer (some ⟨g, 2, none⟩)), .is (.int .u8 ka), .is (.int .i64 ka), .sat (pIv (ka)) (pIv_keep _), .sat (pIv (na * big ka * big ka + ka)) (pIv_keep _), .sto gn (sI gn (na * big ka * big ka + ka)) (sI_keep _ _)] [gn] [some 27, some 28, some 29, some 30, some 31, some 32, some 33, some 34, some 35, some 36, none] (by kernel_rfl) (by kernel_rfl) (by kernel_rfl) (by kernel_rfl) (by kernel_rfl) (by simp [Rg.stos]) (by rfl) (by rfl) (by kernel_rfl) (by intro g hg; simp only [List.mem_cons, List.not_mem_nil, or_false] at hg; subst hg; exact BXn.out.lt) ((Below.refl _ _).drew) (fun Q' => ?_) (fun K hK wn hs => ?_)
      · refine ⟨?_, ?_, ?_, ?_, ?_, ?_, ?_, ?_, ?_, ?_, ?_, trivial⟩
        · intro a' w' ha hs hw hold
          have eo3 : a'.tmps[3]? = some (ptr gn) := (ha.rest 3 (by kernel_rfl)).trans rfl
          exact ⟨rfl, .inl ⟨wanted_none rfl, wp_val (run_pload rfl (ev_tmp eo3) ((hold 10 _ _ _ _ (by rfl) (by rfl) (by kernel_rfl)).trans BXn.out)) ⟨rfl, Below.refl _ _⟩⟩⟩
        · intro a' w' ha hs hw hold
          have eo5 : a'.tmps[5]? = some (ptr gb) := (ha.rest 5 (by kernel_rfl)).trans rfl
          exact ⟨rfl, .inl ⟨wanted_none rfl, wp_val (run_pload rfl (ev_tmp eo5) (BXb.out.bel hs (by simp only [List.mem_cons, List.not_mem_nil, or_false, not_or]; exact (Nat.ne_of_gt LTnb.out)))) ⟨rfl, Below.refl _ _⟩⟩⟩
        · intro a' w' ha hs hw hold
          have e0 : a'.tmps[27]? = some (.agg #[.bool sn, .slice Xn pn qn]) := Rg.slot_get rfl rfl (hw 0 (by kernel_rfl) _ rfl)
          have e1 : a'.tmps[28]? = some (.agg #[.bool sb, .slice Xb pb qb]) := Rg.slot_get rfl rfl (hw 1 (by kernel_rfl) _ rfl)
          exact ⟨rfl, wanted_none rfl, call_step rfl Tryz.func91 (by kernel_rfl) rfl (map_two (ev_tmp e0) (ev_tmp e1)) (rmul_any _ _ na (big ka) _ (IVn.out.kn hs.kn) (IVb.out.kn hs.kn) (SN.out.mono (by omega)) (SB.out.mono (by omega))) (fun e w2 he => by obtain ⟨v, rfl, hv, hb⟩ := he; exact ⟨v, rfl, v, rfl, hv, hb⟩)⟩
        · intro a' w' ha hs hw hold
          have eo5 : a'.tmps[5]? = some (ptr gb) := (ha.rest 5 (by kernel_rfl)).trans rfl
          exact ⟨rfl, .inl ⟨wanted_none rfl, wp_val (run_pload rfl (ev_tmp eo5) (BXb.out.bel hs (by simp only [List.mem_cons, List.not_mem_nil, or_false, not_or]; exact (Nat.ne_of_gt LTnb.out)))) ⟨rfl, Below.refl _ _⟩⟩⟩
        · intro a' w' ha hs hw hold
          obtain ⟨v2, e2, q2⟩ := hw 2 (by kernel_rfl) _ rfl
          replace e2 : a'.tmps[29]? = some v2 := Rg.slot_get rfl rfl e2
          have e3 : a'.tmps[30]? = some (.agg #[.bool sb, .slice Xb pb qb]) := Rg.slot_get rfl rfl (hw 3 (by kernel_rfl) _ rfl)
          exact ⟨rfl, wanted_none rfl, call_step rfl Tryz.func91 (by kernel_rfl) rfl (map_two (ev_tmp e2) (ev_tmp e3)) (rmul_any _ _ (na * big ka) (big ka) _ q2 (IVb.out.kn hs.kn) ((SN.out.mul SB.out).mono (by omega)) (SB.out.mono (by omega))) (fun e w2 he => by obtain ⟨v, rfl, hv, hb⟩ := he; exact ⟨v, rfl, v, rfl, hv, hb⟩)⟩
        · intro a' w' ha hs hw hold
          have eo1 : a'.tmps[1]? = some (ptr g) := (ha.rest 1 (by kernel_rfl)).trans rfl
          exact ⟨rfl, .inl ⟨wanted_none rfl, wp_val (run_kfield rfl (by omega) (ev_tmp eo1)) ⟨rfl, Below.refl _ _⟩⟩⟩
        · intro a' w' ha hs hw hold
          have e5 : a'.tmps[32]? = some (.pointer (some ⟨g, 2, none⟩)) := Rg.slot_get rfl rfl (hw 5 (by kernel_rfl) _ rfl)
          exact ⟨rfl, .inl ⟨wanted_none rfl, wp_val (run_kloadu rfl (ev_tmp e5) (KXa.out.bel hs (by simp only [List.mem_cons, List.not_mem_nil, or_false, not_or]; exact (Nat.ne_of_lt LTan.out))).cell2) ⟨rfl, Below.refl _ _⟩⟩⟩
        · intro a' w' ha hs hw hold
          have e6 : a'.tmps[33]? = some (.int .u8 ka) := Rg.slot_get rfl rfl (hw 6 (by kernel_rfl) _ rfl)
          exact ⟨rfl, .inl ⟨wanted_none rfl, wp_val (run_convu rfl (ev_tmp e6) HK.out) ⟨rfl, Below.refl _ _⟩⟩⟩
        · intro a' w' ha hs hw hold
          have e7 : a'.tmps[34]? = some (.int .i64 ka) := Rg.slot_get rfl rfl (hw 7 (by kernel_rfl) _ rfl)
          exact ⟨rfl, wanted_none rfl, call_step rfl Tryz.func89 (by kernel_rfl) rfl (map_one (ev_tmp e7)) (rof_any ka _ HK.out.1 HK.out.2) (fun e w2 he => by obtain ⟨v, rfl, hv, hb⟩ := he; exact ⟨v, rfl, v, rfl, hv, hb⟩)⟩
        · intro a' w' ha hs hw hold
          obtain ⟨v4, e4, q4⟩ := hw 4 (by kernel_rfl) _ rfl
          replace e4 : a'.tmps[31]? = some v4 := Rg.slot_get rfl rfl e4
          obtain ⟨v8, e8, q8⟩ := hw 8 (by kernel_rfl) _ rfl
          replace e8 : a'.tmps[35]? = some v8 := Rg.slot_get rfl rfl e8
          exact ⟨rfl, wanted_none rfl, call_step rfl Tryz.func90 (by kernel_rfl) rfl (map_two (ev_tmp e4) (ev_tmp e8)) (radd_any _ _ (na * big ka * big ka) ka _ q4 q8 (((SN.out.mul SB.out).mul SB.out).mono (by omega)) (SK.out.mono (by omega))) (fun e w2 he => by obtain ⟨v, rfl, hv, hb⟩ := he; exact ⟨v, rfl, v, rfl, hv, hb⟩)⟩
        · intro a' w' ha hs hw hold
          obtain ⟨v9, e9, q9⟩ := hw 9 (by kernel_rfl) _ rfl
          replace e9 : a'.tmps[36]? = some v9 := Rg.slot_get rfl rfl e9
          have eo3 : a'.tmps[3]? = some (ptr gn) := (ha.rest 3 (by kernel_rfl)).trans rfl
          exact ⟨rfl, wanted_none rfl, fun he => step_stoi rfl rfl (ev_tmp eo3) (ev_tmp e9) q9 BXn.out he⟩
      simp only [Rg.allG]
      intro r31x2 _
      intro r31x4 _
      intro r31x8 _
      intro r31x9 _
      intro hSn
      simp only [setOpt, Rg.setOpt, List.set_cons_succ, List.set_cons_zero]
      refine hK _ _ ?_
      clear hK K
      replace BXd := Lib.hid (BXd.out.bel hs (by simp only [List.mem_cons, List.not_mem_nil, or_false, not_or]; exact (Ne.symm NQnd.out))); replace IVd := Lib.hid (IVd.out.kn hs.kn)
      replace BXb := Lib.hid (BXb.out.bel hs (by simp only [List.mem_cons, List.not_mem_nil, or_false, not_or]; exact (Nat.ne_of_gt LTnb.out))); replace IVb := Lib.hid (IVb.out.kn hs.kn)
      replace RXr := Lib.hid (RXr.out.bel hs (by simp only [List.mem_cons, List.not_mem_nil, or_false, not_or]; exact (Ne.symm NEnr.out)))
      replace KXa := Lib.hid (KXa.out.bel hs (by simp only [List.mem_cons, List.not_mem_nil, or_false, not_or]; exact (Nat.ne_of_lt LTan.out)))
      replace DW := Lib.hid (hs.base DW.out (by have := hg.out; omega) (by intro x hx; simp only [List.mem_cons, List.not_mem_nil, or_false] at hx; subst hx; first | (have := GBn.out; omega) | omega))
      clear BXn IVn
      obtain ⟨Xny, pny, qny, BXn, IVn⟩ := hSn
      generalize hsg : decide ((na * big ka * big ka + ka : Int) < 0) = sny at *
      clear hsg
      replace BXn := Lib.hid BXn; replace IVn := Lib.hid IVn
      clear hs
      have u32a := KXa.out.cell0; have u32b := KXa.out.cell1; have u32c := KXa.out.cell2
      have c5 := c3.out; have c6 := c4.out
      go_upto_region 9 with fail
      clear c5 c6 c3 c4 u32a u32b u32c
      have SNN : Hid (Sz (na * big ka * big ka + ka) 7) := Sz.add ((SN.out.mul SB.out).mul SB.out) (SK.out.mono (by omega))
      have EN : mkN na ka = na * big ka * big ka + ka := if_pos h7
      have ED : mkD da ka = da := by unfold mkD; rw [if_neg (by omega), HD0]
      have hQ : mkQ na da ka = Rat.divInt (na * big ka * big ka + ka) (da) := by unfold mkQ; rw [EN, ED]
      replace hQ := Lib.hid hQ
      have u33a := BXn.out.cell0; have u33b := BXn.out.cell1
      have u34a := BXd.out.cell0; have u34b := BXd.out.cell1
      go_wp2_with fail
      clear u33a u33b u34a u34b
      refine (rlowest_any _ _ (na * big ka * big ka + ka) (da) _ IVn.out (SNN.out.mono (by omega)) IVd.out (SD.out.mono (by omega)) (by have := hne.out; rwa [ED] at this)).mono ?_
      rintro e y35 ⟨_, rfl, hq, hb⟩
      obtain ⟨Xz, pz, qz, Yz, uz, tz, rfl, k1, k2⟩ := hq
      have K1 := Lib.hid k1; have K2 := Lib.hid k2; clear k1 k2
      replace BXn := nxb BXn hb rfl; replace IVn := nxv IVn hb rfl
      replace BXd := nxb BXd hb rfl; replace IVd := nxv IVd hb rfl
      replace BXb := nxb BXb hb rfl; replace IVb := nxv IVb hb rfl
      replace RXr := Lib.hid (RXr.out.next hb rfl)
      replace KXa := Lib.hid (KXa.out.next hb rfl)
      replace DW := nxd DW hg hb rfl rfl rfl rfl
      clear hb
      generalize hs1 : decide ((Rat.divInt (na * big ka * big ka + ka) (da)).num < 0) = s1 at *
      generalize hs2 : decide (((Rat.divInt (na * big ka * big ka + ka) (da)).den : Int) < 0) = s2 at *
      clear hs1 hs2
      have u36a := RXr.out.cell0; have u36b := RXr.out.cell1; have u36c := RXr.out.cell2; have u36d := RXr.out.cell3; have u36f := RXr.out.frozen 0; have u36g := RXr.out.frozen 1; have u36h := RXr.out.frozen 2; have u36i := RXr.out.frozen 3
      go_wp2
      refine bodyPost_ret (v := .agg #[.bool s1, .slice Xz pz qz, .bool s2, .slice Yz uz tz]) (by simp [results, Tryz.results15, go_sem, u36a, u36b, u36c, u36d, u36f, u36g, u36h, u36i]) rfl ⟨_, rfl, ?_, by rw [hg.out]; exact (((DW.out.setCell (by simp <;> omega) _).setCell (by simp <;> omega) _).setCell (by simp <;> omega) _).setCell (by simp <;> omega) _⟩
      have hc := chg_qbox (b' := s1) (d' := s2) (A' := Xz) (n' := pz) (c' := qz) (B' := Yz) (m' := uz) (e' := tz) RXr.out
      rw [hQ.out]
      exact qv_of (K1.out.kn hc.kn) (K2.out.kn hc.kn)
    · by_cases h6 : ka % 8 = 6
      · skip
        have c1 : (ka % 8 == 7) = false := by rw [h6]; rfl
        have c2 : (ka.tmod 8 == 7) = false := by rw [Int.tmod_eq_emod_of_nonneg HK1.out.1]; exact c1
        have c3 : (ka % 8 == 6) = true := by rw [h6]; rfl
        have c4 : (ka.tmod 8 == 6) = true := by rw [Int.tmod_eq_emod_of_nonneg HK1.out.1]; exact c3
        have u37a := KXa.out.cell0; have u37b := KXa.out.cell1; have u37c := KXa.out.cell2
        go_upto_region 8 with fail
        clear c1 c2 c3 c4 u37a u37b u37c
        have SDD : Hid (Sz (da : Int) 2) := SD.out
        refine Rg.region_gg W29 [.is (.agg #[.bool sd, .slice Xd pd qd]), .is (.agg #[.bool sb, .slice Xb pb qb]), .sat (pIv ((da) * big ka)) (pIv_keep _), .is (.agg #[.bool sb, .slice Xb pb qb]), .sat (pIv ((da) * big ka * big ka)) (pIv_keep _), .sto gd (sI gd ((da) * big ka * big ka)) (sI_keep _ _)] [gd] [some 41, some 42, some 43, some 44, some 45, none] (by kernel_rfl) (by kernel_rfl) (by kernel_rfl) (by kernel_rfl) (by kernel_rfl) (by simp [Rg.stos]) (by rfl) (by rfl) (by kernel_rfl) (by intro g hg; simp only [List.mem_cons, List.not_mem_nil, or_false] at hg; subst hg; exact BXd.out.lt) ((Below.refl _ _).drew) (fun Q' => ?_) (fun K hK wn hs => ?_)
        · refine ⟨?_, ?_, ?_, ?_, ?_, ?_, trivial⟩
          · intro a' w' ha hs hw hold
            have eo4 : a'.tmps[4]? = some (ptr gd) := (ha.rest 4 (by kernel_rfl)).trans rfl
            exact ⟨rfl, .inl ⟨wanted_none rfl, wp_val (run_pload rfl (ev_tmp eo4) ((hold 5 _ _ _ _ (by rfl) (by rfl) (by kernel_rfl)).trans BXd.out)) ⟨rfl, Below.refl _ _⟩⟩⟩
          · intro a' w' ha hs hw hold
            have eo5 : a'.tmps[5]? = some (ptr gb) := (ha.rest 5 (by kernel_rfl)).trans rfl
            exact ⟨rfl, .inl ⟨wanted_none rfl, wp_val (run_pload rfl (ev_tmp eo5) (BXb.out.bel hs (by simp only [List.mem_cons, List.not_mem_nil, or_false, not_or]; exact (Nat.ne_of_gt LTdb.out)))) ⟨rfl, Below.refl _ _⟩⟩⟩
          · intro a' w' ha hs hw hold
            have e0 : a'.tmps[41]? = some (.agg #[.bool sd, .slice Xd pd qd]) := Rg.slot_get rfl rfl (hw 0 (by kernel_rfl) _ rfl)
            have e1 : a'.tmps[42]? = some (.agg #[.bool sb, .slice Xb pb qb]) := Rg.slot_get rfl rfl (hw 1 (by kernel_rfl) _ rfl)
            exact ⟨rfl, wanted_none rfl, call_step rfl Tryz.func91 (by kernel_rfl) rfl (map_two (ev_tmp e0) (ev_tmp e1)) (rmul_any _ _ (da) (big ka) _ (IVd.out.kn hs.kn) (IVb.out.kn hs.kn) (SDD.out.mono (by omega)) (SB.out.mono (by omega))) (fun e w2 he => by obtain ⟨v, rfl, hv, hb⟩ := he; exact ⟨v, rfl, v, rfl, hv, hb⟩)⟩
          · intro a' w' ha hs hw hold
            have eo5 : a'.tmps[5]? = some (ptr gb) := (ha.rest 5 (by kernel_rfl)).trans rfl
            exact ⟨rfl, .inl ⟨wanted_none rfl, wp_val (run_pload rfl (ev_tmp eo5) (BXb.out.bel hs (by simp only [List.mem_cons, List.not_mem_nil, or_false, not_or]; exact (Nat.ne_of_gt LTdb.out)))) ⟨rfl, Below.refl _ _⟩⟩⟩
          · intro a' w' ha hs hw hold
            obtain ⟨v2, e2, q2⟩ := hw 2 (by kernel_rfl) _ rfl
            replace e2 : a'.tmps[43]? = some v2 := Rg.slot_get rfl rfl e2
            have e3 : a'.tmps[44]? = some (.agg #[.bool sb, .slice Xb pb qb]) := Rg.slot_get rfl rfl (hw 3 (by kernel_rfl) _ rfl)
            exact ⟨rfl, wanted_none rfl, call_step rfl Tryz.func91 (by kernel_rfl) rfl (map_two (ev_tmp e2) (ev_tmp e3)) (rmul_any _ _ ((da) * big ka) (big ka) _ q2 (IVb.out.kn hs.kn) ((SDD.out.mul SB.out).mono (by omega)) (SB.out.mono (by omega))) (fun e w2 he => by obtain ⟨v, rfl, hv, hb⟩ := he; exact ⟨v, rfl, v, rfl, hv, hb⟩)⟩
          · intro a' w' ha hs hw hold
            obtain ⟨v4, e4, q4⟩ := hw 4 (by kernel_rfl) _ rfl
            replace e4 : a'.tmps[45]? = some v4 := Rg.slot_get rfl rfl e4
            have eo4 : a'.tmps[4]? = some (ptr gd) := (ha.rest 4 (by kernel_rfl)).trans rfl
            exact ⟨rfl, wanted_none rfl, fun he => step_stoi rfl rfl (ev_tmp eo4) (ev_tmp e4) q4 BXd.out he⟩
        simp only [Rg.allG]
        intro r38x2 _
        intro r38x4 _
        intro hSd
        simp only [setOpt, Rg.setOpt, List.set_cons_succ, List.set_cons_zero]
        refine hK _ _ ?_
        clear hK K
        replace BXn := Lib.hid (BXn.out.bel hs (by simp only [List.mem_cons, List.not_mem_nil, or_false, not_or]; exact NQnd.out)); replace IVn := Lib.hid (IVn.out.kn hs.kn)
        replace BXb := Lib.hid (BXb.out.bel hs (by simp only [List.mem_cons, List.not_mem_nil, or_false, not_or]; exact (Nat.ne_of_gt LTdb.out))); replace IVb := Lib.hid (IVb.out.kn hs.kn)
        replace RXr := Lib.hid (RXr.out.bel hs (by simp only [List.mem_cons, List.not_mem_nil, or_false, not_or]; exact (Ne.symm NEdr.out)))
        replace KXa := Lib.hid (KXa.out.bel hs (by simp only [List.mem_cons, List.not_mem_nil, or_false, not_or]; exact (Nat.ne_of_lt LTad.out)))
        replace DW := Lib.hid (hs.base DW.out (by have := hg.out; omega) (by intro x hx; simp only [List.mem_cons, List.not_mem_nil, or_false] at hx; subst hx; first | (have := GBd.out; omega) | omega))
        clear BXd IVd
        obtain ⟨Xdy, pdy, qdy, BXd, IVd⟩ := hSd
        generalize hsg : decide (((da) * big ka * big ka : Int) < 0) = sdy at *
        clear hsg
        replace BXd := Lib.hid BXd; replace IVd := Lib.hid IVd
        clear hs
        go_upto_region 9 with fail
        have SDM : Hid (Sz ((da) * big ka * big ka) 6) := (SDD.out.mul SB.out).mul SB.out
        have EN : mkN na ka = na := if_neg (by omega)
        have ED : mkD da ka = (da) * big ka * big ka := by unfold mkD; rw [if_pos h6, HD0]
        have hQ : mkQ na da ka = Rat.divInt (na) ((da) * big ka * big ka) := by unfold mkQ; rw [EN, ED]
        replace hQ := Lib.hid hQ
        have u39a := BXn.out.cell0; have u39b := BXn.out.cell1
        have u40a := BXd.out.cell0; have u40b := BXd.out.cell1
        go_wp2_with fail
        clear u39a u39b u40a u40b
        refine (rlowest_any _ _ (na) ((da) * big ka * big ka) _ IVn.out (SN.out.mono (by omega)) IVd.out (SDM.out.mono (by omega)) (by have := hne.out; rwa [ED] at this)).mono ?_
        rintro e y41 ⟨_, rfl, hq, hb⟩
        obtain ⟨Xz, pz, qz, Yz, uz, tz, rfl, k1, k2⟩ := hq
        have K1 := Lib.hid k1; have K2 := Lib.hid k2; clear k1 k2
        replace BXn := nxb BXn hb rfl; replace IVn := nxv IVn hb rfl
        replace BXd := nxb BXd hb rfl; replace IVd := nxv IVd hb rfl
        replace BXb := nxb BXb hb rfl; replace IVb := nxv IVb hb rfl
        replace RXr := Lib.hid (RXr.out.next hb rfl)
        replace KXa := Lib.hid (KXa.out.next hb rfl)
        replace DW := nxd DW hg hb rfl rfl rfl rfl
        clear hb
        generalize hs1 : decide ((Rat.divInt (na) ((da) * big ka * big ka)).num < 0) = s1 at *
        generalize hs2 : decide (((Rat.divInt (na) ((da) * big ka * big ka)).den : Int) < 0) = s2 at *
        clear hs1 hs2
        have u42a := RXr.out.cell0; have u42b := RXr.out.cell1; have u42c := RXr.out.cell2; have u42d := RXr.out.cell3; have u42f := RXr.out.frozen 0; have u42g := RXr.out.frozen 1; have u42h := RXr.out.frozen 2; have u42i := RXr.out.frozen 3
        go_wp2
        refine bodyPost_ret (v := .agg #[.bool s1, .slice Xz pz qz, .bool s2, .slice Yz uz tz]) (by simp [results, Tryz.results15, go_sem, u42a, u42b, u42c, u42d, u42f, u42g, u42h, u42i]) rfl ⟨_, rfl, ?_, by rw [hg.out]; exact (((DW.out.setCell (by simp <;> omega) _).setCell (by simp <;> omega) _).setCell (by simp <;> omega) _).setCell (by simp <;> omega) _⟩
        have hc := chg_qbox (b' := s1) (d' := s2) (A' := Xz) (n' := pz) (c' := qz) (B' := Yz) (m' := uz) (e' := tz) RXr.out
        rw [hQ.out]
        exact qv_of (K1.out.kn hc.kn) (K2.out.kn hc.kn)
      · skip
        have c1 : (ka % 8 == 7) = false := by rw [beq_eq_false_iff_ne]; exact h7
        have c2 : (ka.tmod 8 == 7) = false := by rw [Int.tmod_eq_emod_of_nonneg HK1.out.1]; exact c1
        have c3 : (ka % 8 == 6) = false := by rw [beq_eq_false_iff_ne]; exact h6
        have c4 : (ka.tmod 8 == 6) = false := by rw [Int.tmod_eq_emod_of_nonneg HK1.out.1]; exact c3
        have u43a := KXa.out.cell0; have u43b := KXa.out.cell1; have u43c := KXa.out.cell2
        go_upto_region 9 with fail
        clear c1 c2 c3 c4 u43a u43b u43c
        have EN : mkN na ka = na := if_neg h7
        have ED : mkD da ka = da := by unfold mkD; rw [if_neg h6, HD0]
        have hQ : mkQ na da ka = Rat.divInt (na) (da) := by unfold mkQ; rw [EN, ED]
        replace hQ := Lib.hid hQ
        have u44a := BXn.out.cell0; have u44b := BXn.out.cell1
        have u45a := BXd.out.cell0; have u45b := BXd.out.cell1
        go_wp2_with fail
        clear u44a u44b u45a u45b
        refine (rlowest_any _ _ (na) (da) _ IVn.out (SN.out.mono (by omega)) IVd.out (SD.out.mono (by omega)) (by have := hne.out; rwa [ED] at this)).mono ?_
        rintro e y46 ⟨_, rfl, hq, hb⟩
        obtain ⟨Xz, pz, qz, Yz, uz, tz, rfl, k1, k2⟩ := hq
        have K1 := Lib.hid k1; have K2 := Lib.hid k2; clear k1 k2
        replace BXn := nxb BXn hb rfl; replace IVn := nxv IVn hb rfl
        replace BXd := nxb BXd hb rfl; replace IVd := nxv IVd hb rfl
        replace BXb := nxb BXb hb rfl; replace IVb := nxv IVb hb rfl
        replace RXr := Lib.hid (RXr.out.next hb rfl)
        replace KXa := Lib.hid (KXa.out.next hb rfl)
        replace DW := nxd DW hg hb rfl rfl rfl rfl
        clear hb
        generalize hs1 : decide ((Rat.divInt (na) (da)).num < 0) = s1 at *
        generalize hs2 : decide (((Rat.divInt (na) (da)).den : Int) < 0) = s2 at *
        clear hs1 hs2
        have u47a := RXr.out.cell0; have u47b := RXr.out.cell1; have u47c := RXr.out.cell2; have u47d := RXr.out.cell3; have u47f := RXr.out.frozen 0; have u47g := RXr.out.frozen 1; have u47h := RXr.out.frozen 2; have u47i := RXr.out.frozen 3
        go_wp2
        refine bodyPost_ret (v := .agg #[.bool s1, .slice Xz pz qz, .bool s2, .slice Yz uz tz]) (by simp [results, Tryz.results15, go_sem, u47a, u47b, u47c, u47d, u47f, u47g, u47h, u47i]) rfl ⟨_, rfl, ?_, by rw [hg.out]; exact (((DW.out.setCell (by simp <;> omega) _).setCell (by simp <;> omega) _).setCell (by simp <;> omega) _).setCell (by simp <;> omega) _⟩
        have hc := chg_qbox (b' := s1) (d' := s2) (A' := Xz) (n' := pz) (c' := qz) (B' := Yz) (m' := uz) (e' := tz) RXr.out
        rw [hQ.out]
        exact qv_of (K1.out.kn hc.kn) (K2.out.kn hc.kn)
end Go.Proofs.YtfigimfdojbkeaaGreat
