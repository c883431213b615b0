/-
  The program's functions on fractions.
-/
import Derived.Test.YtfigimfdojbkeaaGreatRatG
import Derived.Deep.DeepCutAuto
import Derived.Handy
set_option linter.unusedSimpArgs false
set_option linter.unusedVariables false
namespace Go.Proofs.YtfigimfdojbkeaaGreat
open Go.RowKit
attribute [local go_sem ↓] Go.wp_at_zero Go.wp_at_succ

set_option maxHeartbeats 8000000 in
set_option maxRecDepth 100000 in
theorem qnew_zero (va vb : Value) (za zb : Int) (w : World) (ha : Iv w va za) (sa : Sz za 100000) (hb : Iv w vb zb) (sb : Sz zb 100000) (h0 : zb = 0) : Calls Tryz.prog 51 #[va, vb] w (RetV (.tuple #[zeroQ, .int .i64 10]) w) := by
  have hsg : Hid (sg zb = 0) := by rw [h0]; rfl
  clear h0
  obtain ⟨Xa, pa, qa, rfl, _, _, _⟩ := ha.form
  have Ha := Lib.hid ha
  have SZa := Lib.hid sa
  clear ha sa
  generalize hs : decide (za < 0) = sa at *
  clear hs
  obtain ⟨Xb, pb, qb, rfl, _, _, _⟩ := hb.form
  have Hb := Lib.hid hb
  have SZb := Lib.hid sb
  clear hb sb
  generalize hs : decide (zb < 0) = sb at *
  clear hs

  go_enter Tryz.func51, Tryz.ntmps51
  go_wp2_with fail
  obtain ⟨W, hW⟩ : ∃ W, W = (((w.alloc (Obj.cells #[Value.bool sa, Value.slice Xa pa qa] 29)).alloc (Obj.cells #[Value.bool sb, Value.slice Xb pb qb] 29)).alloc (Obj.cells #[Value.bool false, Value.slice none 0 0, Value.bool false, Value.slice none 0 0] 31)) := ⟨_, rfl⟩
  rw [← hW]
  have BXa : Hid (Box W (w.heap.size) sa (.slice Xa pa qa)) := by rw [hW]; have := ((Box.new w sa (Value.slice Xa pa qa)).alloc (Obj.cells #[Value.bool sb, Value.slice Xb pb qb] 29)).alloc (Obj.cells #[Value.bool false, Value.slice none 0 0, Value.bool false, Value.slice none 0 0] 31); simpa [Hid] using this
  have BXb : Hid (Box W (w.heap.size + 1) sb (.slice Xb pb qb)) := by rw [hW]; have := (Box.new (w.alloc (Obj.cells #[Value.bool sa, Value.slice Xa pa qa] 29)) sb (Value.slice Xb pb qb)).alloc (Obj.cells #[Value.bool false, Value.slice none 0 0, Value.bool false, Value.slice none 0 0] 31); simpa [Hid] using this
  have RXr : Hid (QBox W (w.heap.size + 1 + 1) false (.slice none 0 0) false (.slice none 0 0)) := by rw [hW]; have := QBox.new ((w.alloc (Obj.cells #[Value.bool sa, Value.slice Xa pa qa] 29)).alloc (Obj.cells #[Value.bool sb, Value.slice Xb pb qb] 29)) false (Value.slice none 0 0) false (Value.slice none 0 0); simpa [Hid] using this
  have IVa : Hid (Iv W (.agg #[.bool sa, .slice Xa pa qa]) (za)) := by rw [hW]; exact (((Ha.out).alloc _).alloc _).alloc _
  have IVb : Hid (Iv W (.agg #[.bool sb, .slice Xb pb qb]) (zb)) := by rw [hW]; exact (((Hb.out).alloc _).alloc _).alloc _
  have DW : Hid (Below w.heap.size w W) := by rw [hW]; exact (((Below.refl _ _).alloc (by simp <;> omega) _).alloc (by simp <;> omega) _).alloc (by simp <;> omega) _
  clear hW
  generalize hg : w.heap.size = g at *
  replace hg := Lib.hid hg
  go_upto_region 1 with fail
  have u1a := BXb.out.cell0; have u1b := BXb.out.cell1
  go_wp2_with fail
  clear u1a u1b
  refine (sign_any _ zb _ IVb.out (SZb.out.mono (by omega))).mono ?_
  rintro e y2 ⟨rfl, hb⟩
  replace BXa := nxb BXa hb rfl; replace IVa := nxv IVa hb rfl
  replace BXb := nxb BXb hb rfl; replace IVb := nxv IVb hb rfl
  replace RXr := Lib.hid (RXr.out.next hb rfl)
  replace DW := nxd DW hg hb rfl rfl rfl rfl
  clear hb
  rw [hsg.out]
  have u3a := RXr.out.cell0; have u3b := RXr.out.cell1; have u3c := RXr.out.cell2; have u3d := RXr.out.cell3; have u3f := RXr.out.frozen 0; have u3g := RXr.out.frozen 1; have u3h := RXr.out.frozen 2; have u3i := RXr.out.frozen 3
  go_wp2
  refine bodyPost_ret (v := .tuple #[zeroQ, .int .i64 10]) (by simp [results, Tryz.results51, go_sem, zeroQ, u3a, u3b, u3c, u3d, u3f, u3g, u3h, u3i]) rfl ⟨rfl, by rw [hg.out]; exact (((DW.out.setCell (by simp <;> omega) _).setCell (by simp <;> omega) _).setCell (by simp <;> omega) _).setCell (by simp <;> omega) _⟩

set_option maxHeartbeats 8000000 in
set_option maxRecDepth 100000 in
theorem qnew_at (va vb : Value) (za zb N D : Int) (w : World) (ha : Iv w va za) (sa : Sz za 100000) (hb : Iv w vb zb) (sb : Sz zb 100000) (h0 : zb ≠ 0) (h1 : 0 < zb → N = za / (Nat.gcd za.natAbs zb.natAbs : Nat) ∧ D = zb / (Nat.gcd za.natAbs zb.natAbs : Nat)) (h2 : zb < 0 → N = za / (-(Nat.gcd za.natAbs zb.natAbs : Nat)) ∧ D = zb / (-(Nat.gcd za.natAbs zb.natAbs : Nat))) : Calls Tryz.prog 51 #[va, vb] w (RetQE N D w) := by
  obtain ⟨Xa, pa, qa, rfl, _, _, _⟩ := ha.form
  have Ha := Lib.hid ha
  have SZa := Lib.hid sa
  clear ha sa
  generalize hs : decide (za < 0) = sa at *
  clear hs
  obtain ⟨Xb, pb, qb, rfl, _, _, _⟩ := hb.form
  have Hb := Lib.hid hb
  have SZb := Lib.hid sb
  clear hb sb
  generalize hs : decide (zb < 0) = sb at *
  clear hs
  obtain ⟨G, hG⟩ : ∃ G : Int, ((Nat.gcd za.natAbs zb.natAbs : Nat) : Int) = G := ⟨_, rfl⟩
  have SG : Hid (Sz G 100000) := by
    refine ⟨?_⟩
    rw [← hG, Int.natAbs_natCast]
    exact Nat.lt_of_le_of_lt (Nat.gcd_le_right _ (by omega)) SZb.out.lt
  have NG : Hid (0 < G) := by
    have := Nat.gcd_pos_of_pos_right za.natAbs (show 0 < zb.natAbs by omega)
    unfold Hid; omega
  rw [hG] at h1 h2
  replace hG := Lib.hid hG
  obtain ⟨SB, hSB⟩ : ∃ x, sg zb = x := ⟨_, rfl⟩
  have hsg : (SB == 0) = false := by rw [beq_eq_false_iff_ne, ← hSB]; intro e; rcases sg_cases zb with ⟨h1, e1⟩ | ⟨h1, e1⟩ | ⟨h1, e1⟩ <;> omega
  have hcase : (0 < zb ∧ decide (SB < 0) = false) ∨ (zb < 0 ∧ decide (SB < 0) = true) := by
    rcases sg_cases zb with ⟨h1, e1⟩ | ⟨h1, e1⟩ | ⟨h1, e1⟩
    · right; exact ⟨h1, by rw [← hSB, e1]; rfl⟩
    · exact absurd h1 h0
    · left; exact ⟨h1, by rw [← hSB, e1]; rfl⟩
  replace hsg := Lib.hid hsg
  replace hSB := Lib.hid hSB
  replace h1 := Lib.hid h1
  replace h2 := Lib.hid h2
  replace hcase := Lib.hid hcase
  clear h0
  go_enter Tryz.func51, Tryz.ntmps51
  go_wp2_with fail
  obtain ⟨W, hW⟩ : ∃ W, W = (((w.alloc (Obj.cells #[Value.bool sa, Value.slice Xa pa qa] 29)).alloc (Obj.cells #[Value.bool sb, Value.slice Xb pb qb] 29)).alloc (Obj.cells #[Value.bool false, Value.slice none 0 0, Value.bool false, Value.slice none 0 0] 31)) := ⟨_, rfl⟩
  rw [← hW]
  have BXa : Hid (Box W (w.heap.size) sa (.slice Xa pa qa)) := by rw [hW]; have := ((Box.new w sa (Value.slice Xa pa qa)).alloc (Obj.cells #[Value.bool sb, Value.slice Xb pb qb] 29)).alloc (Obj.cells #[Value.bool false, Value.slice none 0 0, Value.bool false, Value.slice none 0 0] 31); simpa [Hid] using this
  have BXb : Hid (Box W (w.heap.size + 1) sb (.slice Xb pb qb)) := by rw [hW]; have := (Box.new (w.alloc (Obj.cells #[Value.bool sa, Value.slice Xa pa qa] 29)) sb (Value.slice Xb pb qb)).alloc (Obj.cells #[Value.bool false, Value.slice none 0 0, Value.bool false, Value.slice none 0 0] 31); simpa [Hid] using this
  have RXr : Hid (QBox W (w.heap.size + 1 + 1) false (.slice none 0 0) false (.slice none 0 0)) := by rw [hW]; have := QBox.new ((w.alloc (Obj.cells #[Value.bool sa, Value.slice Xa pa qa] 29)).alloc (Obj.cells #[Value.bool sb, Value.slice Xb pb qb] 29)) false (Value.slice none 0 0) false (Value.slice none 0 0); simpa [Hid] using this
  have IVa : Hid (Iv W (.agg #[.bool sa, .slice Xa pa qa]) (za)) := by rw [hW]; exact (((Ha.out).alloc _).alloc _).alloc _
  have IVb : Hid (Iv W (.agg #[.bool sb, .slice Xb pb qb]) (zb)) := by rw [hW]; exact (((Hb.out).alloc _).alloc _).alloc _
  have DW : Hid (Below w.heap.size w W) := by rw [hW]; exact (((Below.refl _ _).alloc (by simp <;> omega) _).alloc (by simp <;> omega) _).alloc (by simp <;> omega) _
  clear hW
  generalize hg : w.heap.size = g at *
  replace hg := Lib.hid hg
  go_upto_region 1 with fail
  have u1a := BXb.out.cell0; have u1b := BXb.out.cell1
  go_wp2_with fail
  clear u1a u1b
  refine (sign_any _ zb _ IVb.out (SZb.out.mono (by omega))).mono ?_
  rintro e y2 ⟨rfl, hb⟩
  replace BXa := nxb BXa hb rfl; replace IVa := nxv IVa hb rfl
  replace BXb := nxb BXb hb rfl; replace IVb := nxv IVb hb rfl
  replace RXr := Lib.hid (RXr.out.next hb rfl)
  replace DW := nxd DW hg hb rfl rfl rfl rfl
  clear hb
  rw [hSB.out]
  have hsg1 := hsg.out
  go_upto_region 3 with fail
  clear hsg1
  have u3a := BXa.out.cell0; have u3b := BXa.out.cell1
  have u4a := BXb.out.cell0; have u4b := BXb.out.cell1
  go_wp2_with fail
  clear u3a u3b u4a u4b
  refine (gcdI_any _ _ za zb _ IVa.out IVb.out (SZa.out.mono (by omega)) (SZb.out.mono (by omega))).mono ?_
  rintro e y5 ⟨_, rfl, hq, hb⟩
  rw [hG.out] at hq
  obtain ⟨Xg, pg, qg, rfl, _, _, _⟩ := hq.form
  have Qg := Lib.hid hq; clear hq
  have B := Lib.hid hb; clear hb
  generalize hs : decide ((G : Int) < 0) = sg at *
  clear hs
  go_upto_region 4 with fail
  obtain ⟨W6, hW⟩ : ∃ W6, W6 = (y5.alloc (Obj.cells #[Value.bool sg, Value.slice Xg pg qg] 29)) := ⟨_, rfl⟩
  rw [← hW]
  have BXg : Hid (Box W6 (y5.heap.size) sg (.slice Xg pg qg)) := by rw [hW]; have := Box.new y5 sg (.slice Xg pg qg); simpa [Hid] using this
  have IVg : Hid (Iv W6 (.agg #[.bool sg, .slice Xg pg qg]) (G)) := by rw [hW]; exact (Qg.out).alloc _
  have hd : Below y2.heap.size y2 W6 := by rw [hW]; exact (B.out).alloc (by have := B.out.size; simp <;> omega) _
  have NEgr : Hid ((y5.heap.size) ≠ (g + 1 + 1)) := by have := RXr.out.lt; have := B.out.size; unfold Hid; omega
  have GBg : Hid (g ≤ y5.heap.size) := by have := DW.out.size; have := hg.out; have := B.out.size; unfold Hid; omega
  have LTag : Hid (g < y5.heap.size) := by have := BXa.out.lt; have := B.out.size; unfold Hid; omega
  have LTbg : Hid ((g + 1) < y5.heap.size) := by have := BXb.out.lt; have := B.out.size; unfold Hid; omega
  clear hW B Qg
  generalize hgn6 : y5.heap.size = gg at *
  clear hgn6
  replace BXa := nxb BXa hd rfl; replace IVa := nxv IVa hd rfl
  replace BXb := nxb BXb hd rfl; replace IVb := nxv IVb hd rfl
  replace RXr := Lib.hid (RXr.out.next hd rfl)
  replace DW := nxd DW hg hd rfl rfl rfl rfl
  clear hd
  have u7a := BXb.out.cell0; have u7b := BXb.out.cell1
  go_wp2_with fail
  clear u7a u7b
  refine (sign_any _ zb _ IVb.out (SZb.out.mono (by omega))).mono ?_
  rintro e y8 ⟨rfl, hb⟩
  replace BXa := nxb BXa hb rfl; replace IVa := nxv IVa hb rfl
  replace BXb := nxb BXb hb rfl; replace IVb := nxv IVb hb rfl
  replace BXg := nxb BXg hb rfl; replace IVg := nxv IVg hb rfl
  replace RXr := Lib.hid (RXr.out.next hb rfl)
  replace DW := nxd DW hg hb rfl rfl rfl rfl
  clear hb
  rw [hSB.out]
  rcases hcase.out with ⟨hp, hc⟩ | ⟨hp, hc⟩
  · obtain ⟨rfl, rfl⟩ := h1.out hp
    clear hp h1 h2 hcase
    go_upto_region 6 with fail
    clear hc
    refine Rg.region_gg y8 [.is (.agg #[.bool sa, .slice Xa pa qa]), .is (.agg #[.bool sg, .slice Xg pg qg]), .sat (pIv (za / (G))) (pIv_keep _), .is (.agg #[.bool sb, .slice Xb pb qb]), .is (.agg #[.bool sg, .slice Xg pg qg]), .sat (pIv (zb / (G))) (pIv_keep _), .sat (pQv (za / (G)) (zb / (G))) (pQv_keep _ _), .sto (g + 1 + 1) (sQ (g + 1 + 1) (za / (G)) (zb / (G))) (sQ_keep _ _ _), .is (Value.int IntKind.i64 0)] [(g + 1 + 1)] [some 19, some 20, some 21, some 22, some 23, some 24, some 25, none, some 5] (by kernel_rfl) (by kernel_rfl) (by kernel_rfl) (by kernel_rfl) (by kernel_rfl) (by simp [Rg.stos]) (by rfl) (by rfl) (by kernel_rfl) (by intro g hg; simp only [List.mem_cons, List.not_mem_nil, or_false] at hg; subst hg; exact RXr.out.lt) ((Below.refl _ _).drew) (fun Q' => ?_) (fun K hK wn hs => ?_)
    · refine ⟨?_, ?_, ?_, ?_, ?_, ?_, ?_, ?_, ?_, trivial⟩
      · intro a' w' ha hs hw hold
        have eo2 : a'.tmps[2]? = some (ptr g) := (ha.rest 2 (by kernel_rfl)).trans rfl
        exact ⟨rfl, .inl ⟨wanted_none rfl, wp_val (run_pload rfl (ev_tmp eo2) (BXa.out.bel hs (by simp only [List.mem_cons, List.not_mem_nil, or_false, not_or]; exact (by omega)))) ⟨rfl, Below.refl _ _⟩⟩⟩
      · intro a' w' ha hs hw hold
        have eo6 : a'.tmps[6]? = some (ptr gg) := (ha.rest 6 (by kernel_rfl)).trans rfl
        exact ⟨rfl, .inl ⟨wanted_none rfl, wp_val (run_pload rfl (ev_tmp eo6) (BXg.out.bel hs (by simp only [List.mem_cons, List.not_mem_nil, or_false, not_or]; exact NEgr.out))) ⟨rfl, Below.refl _ _⟩⟩⟩
      · intro a' w' ha hs hw hold
        have e0 : a'.tmps[19]? = some (.agg #[.bool sa, .slice Xa pa qa]) := Rg.slot_get rfl rfl (hw 0 (by kernel_rfl) _ rfl)
        have e1 : a'.tmps[20]? = some (.agg #[.bool sg, .slice Xg pg qg]) := Rg.slot_get rfl rfl (hw 1 (by kernel_rfl) _ rfl)
        exact ⟨rfl, wanted_none rfl, call_step rfl Tryz.func97 (by kernel_rfl) rfl (map_two (ev_tmp e0) (ev_tmp e1)) (quotient_any _ _ za (G) _ _ (IVa.out.kn hs.kn) (IVg.out.kn hs.kn) (SZa.out.mono (by omega)) (SG.out.mono (by omega)) (by have := NG.out; omega) rfl) (fun e w2 he => by obtain ⟨v, rfl, hv, hb⟩ := he; exact ⟨v, rfl, v, rfl, hv, hb⟩)⟩
      · intro a' w' ha hs hw hold
        have eo3 : a'.tmps[3]? = some (ptr (g + 1)) := (ha.rest 3 (by kernel_rfl)).trans rfl
        exact ⟨rfl, .inl ⟨wanted_none rfl, wp_val (run_pload rfl (ev_tmp eo3) (BXb.out.bel hs (by simp only [List.mem_cons, List.not_mem_nil, or_false, not_or]; exact (by omega)))) ⟨rfl, Below.refl _ _⟩⟩⟩
      · intro a' w' ha hs hw hold
        have eo6 : a'.tmps[6]? = some (ptr gg) := (ha.rest 6 (by kernel_rfl)).trans rfl
        exact ⟨rfl, .inl ⟨wanted_none rfl, wp_val (run_pload rfl (ev_tmp eo6) (BXg.out.bel hs (by simp only [List.mem_cons, List.not_mem_nil, or_false, not_or]; exact NEgr.out))) ⟨rfl, Below.refl _ _⟩⟩⟩
      · intro a' w' ha hs hw hold
        have e3 : a'.tmps[22]? = some (.agg #[.bool sb, .slice Xb pb qb]) := Rg.slot_get rfl rfl (hw 3 (by kernel_rfl) _ rfl)
        have e4 : a'.tmps[23]? = some (.agg #[.bool sg, .slice Xg pg qg]) := Rg.slot_get rfl rfl (hw 4 (by kernel_rfl) _ rfl)
        exact ⟨rfl, wanted_none rfl, call_step rfl Tryz.func97 (by kernel_rfl) rfl (map_two (ev_tmp e3) (ev_tmp e4)) (quotient_any _ _ zb (G) _ _ (IVb.out.kn hs.kn) (IVg.out.kn hs.kn) (SZb.out.mono (by omega)) (SG.out.mono (by omega)) (by have := NG.out; omega) rfl) (fun e w2 he => by obtain ⟨v, rfl, hv, hb⟩ := he; exact ⟨v, rfl, v, rfl, hv, hb⟩)⟩
      · intro a' w' ha hs hw hold
        obtain ⟨v2, e2, q2⟩ := hw 2 (by kernel_rfl) _ rfl
        replace e2 : a'.tmps[21]? = some v2 := Rg.slot_get rfl rfl e2
        obtain ⟨v5, e5, q5⟩ := hw 5 (by kernel_rfl) _ rfl
        replace e5 : a'.tmps[24]? = some v5 := Rg.slot_get rfl rfl e5
        exact ⟨rfl, wanted_none rfl, step_build rfl (ev_tmp e2) (ev_tmp e5) q2 q5⟩
      · intro a' w' ha hs hw hold
        obtain ⟨v6, e6, q6⟩ := hw 6 (by kernel_rfl) _ rfl
        replace e6 : a'.tmps[25]? = some v6 := Rg.slot_get rfl rfl e6
        have eo4 : a'.tmps[4]? = some (ptr (g + 1 + 1)) := (ha.rest 4 (by kernel_rfl)).trans rfl
        exact ⟨rfl, wanted_none rfl, fun he => step_stoq rfl rfl (ev_tmp eo4) (ev_tmp e6) q6 RXr.out he⟩
      · intro a' w' ha hs hw hold
        exact ⟨rfl, .inl ⟨wanted_none rfl, wp_val (run_assign rfl rfl) ⟨rfl, Below.refl _ _⟩⟩⟩
    simp only [Rg.allG]
    intro r9x2 _
    intro r9x5 _
    intro r9x6 _
    intro hSr
    simp only [setOpt, Rg.setOpt, List.set_cons_succ, List.set_cons_zero]
    refine hK _ _ ?_
    clear hK K
    have DN : Hid (Below g w wn) := hs.base DW.out (by have := hg.out; omega) (by simp only [List.mem_cons, List.not_mem_nil, or_false]; omega)
    obtain ⟨Ar, ir, cr, Br, jr, dr, hcr, hir, hjr⟩ := hSr
    have kra := hcr.cell0; have krb := hcr.cell1; have krc := hcr.cell2; have krd := hcr.cell3
    have HIr := Lib.hid hir; clear hir
    have HJr := Lib.hid hjr; clear hjr
    go_wp2
    exact bodyPost_ret (v := .tuple #[.agg #[.bool (decide (za / (G) < 0)), .slice Ar ir cr, .bool (decide (zb / (G) < 0)), .slice Br jr dr], .int .i64 0]) (by simp [results, Tryz.results51, go_sem, kra, krb, krc, krd]) rfl ⟨_, rfl, ⟨Ar, ir, cr, Br, jr, dr, rfl, HIr.out, HJr.out⟩, by rw [hg.out]; exact DN.out⟩
  · obtain ⟨rfl, rfl⟩ := h2.out hp
    clear hp h1 h2 hcase
    go_upto_region 5 with fail
    clear hc
    have u10a := BXg.out.cell0; have u10b := BXg.out.cell1
    go_wp2_with fail
    clear u10a u10b
    refine (neg_any _ G _ IVg.out (SG.out.mono (by omega))).mono ?_
    rintro e y11 ⟨_, rfl, hq, hb⟩
    obtain ⟨Xg9, pg9, qg9, rfl, _, _, _⟩ := hq.form
    have Q9 := Lib.hid hq; clear hq
    replace BXa := nxb BXa hb rfl; replace IVa := nxv IVa hb rfl
    replace BXb := nxb BXb hb rfl; replace IVb := nxv IVb hb rfl
    replace BXg := nxb BXg hb rfl; replace IVg := nxv IVg hb rfl
    replace RXr := Lib.hid (RXr.out.next hb rfl)
    replace DW := nxd DW hg hb rfl rfl rfl rfl
    clear hb IVg
    generalize hs : decide ((-G : Int) < 0) = s9 at *
    clear hs
    have u1 := BXg.out.cell0; have u2 := BXg.out.cell1; have u3 := BXg.out.frozen 0; have u4 := BXg.out.frozen 1
    go_upto_region 6 with fail
    clear u1 u2 u3 u4
    obtain ⟨W12, hW⟩ : ∃ W12, W12 = (y11.setCell ⟨gg, 0, none⟩ (.bool s9)).setCell ⟨gg, 1, none⟩ (.slice Xg9 pg9 qg9) := ⟨_, rfl⟩
    rw [← hW]
    replace BXa : Hid (Box W12 g sa (.slice Xa pa qa)) := by rw [hW]; exact (BXa.out.far (by have := LTag.out; simp; omega) _).far (by have := LTag.out; simp; omega) _
    replace IVa := Lib.hid (iv_keep IVa.out BXg.out s9 (u := .slice Xg9 pg9 qg9))
    rw [← hW] at IVa
    replace BXb : Hid (Box W12 (g + 1) sb (.slice Xb pb qb)) := by rw [hW]; exact (BXb.out.far (by have := LTbg.out; simp; omega) _).far (by have := LTbg.out; simp; omega) _
    replace IVb := Lib.hid (iv_keep IVb.out BXg.out s9 (u := .slice Xg9 pg9 qg9))
    rw [← hW] at IVb
    replace RXr := Lib.hid ((RXr.out.far (by have := NEgr.out; simp; omega) (.bool s9) (p := ⟨gg, 0, none⟩)).far (by have := NEgr.out; simp; omega) (.slice Xg9 pg9 qg9) (p := ⟨gg, 1, none⟩))
    rw [← hW] at RXr
    replace DW : Hid (Below g w W12) := by rw [hW]; exact (DW.out.setCell (by simp <;> have := GBg.out <;> omega) _).setCell (by simp <;> have := GBg.out <;> omega) _
    have IVg : Hid (Iv W12 (.agg #[.bool s9, .slice Xg9 pg9 qg9]) (-G)) := by rw [hW]; exact iv_keep Q9.out BXg.out _
    replace BXg : Hid (Box W12 gg s9 (.slice Xg9 pg9 qg9)) := by rw [hW]; exact box_store BXg.out
    clear hW Q9
    generalize hx1 : Xg9 = Xgx at *
    generalize hx2 : pg9 = pgx at *
    generalize hx3 : qg9 = qgx at *
    generalize hx4 : s9 = sgx at *
    clear hx1 hx2 hx3 hx4
    refine Rg.region_gg W12 [.is (.agg #[.bool sa, .slice Xa pa qa]), .is (.agg #[.bool sgx, .slice Xgx pgx qgx]), .sat (pIv (za / (-G))) (pIv_keep _), .is (.agg #[.bool sb, .slice Xb pb qb]), .is (.agg #[.bool sgx, .slice Xgx pgx qgx]), .sat (pIv (zb / (-G))) (pIv_keep _), .sat (pQv (za / (-G)) (zb / (-G))) (pQv_keep _ _), .sto (g + 1 + 1) (sQ (g + 1 + 1) (za / (-G)) (zb / (-G))) (sQ_keep _ _ _), .is (Value.int IntKind.i64 0)] [(g + 1 + 1)] [some 19, some 20, some 21, some 22, some 23, some 24, some 25, none, some 5] (by kernel_rfl) (by kernel_rfl) (by kernel_rfl) (by kernel_rfl) (by kernel_rfl) (by simp [Rg.stos]) (by rfl) (by rfl) (by kernel_rfl) (by intro g hg; simp only [List.mem_cons, List.not_mem_nil, or_false] at hg; subst hg; exact RXr.out.lt) ((Below.refl _ _).drew) (fun Q' => ?_) (fun K hK wn hs => ?_)
    · refine ⟨?_, ?_, ?_, ?_, ?_, ?_, ?_, ?_, ?_, trivial⟩
      · intro a' w' ha hs hw hold
        have eo2 : a'.tmps[2]? = some (ptr g) := (ha.rest 2 (by kernel_rfl)).trans rfl
        exact ⟨rfl, .inl ⟨wanted_none rfl, wp_val (run_pload rfl (ev_tmp eo2) (BXa.out.bel hs (by simp only [List.mem_cons, List.not_mem_nil, or_false, not_or]; exact (by omega)))) ⟨rfl, Below.refl _ _⟩⟩⟩
      · intro a' w' ha hs hw hold
        have eo6 : a'.tmps[6]? = some (ptr gg) := (ha.rest 6 (by kernel_rfl)).trans rfl
        exact ⟨rfl, .inl ⟨wanted_none rfl, wp_val (run_pload rfl (ev_tmp eo6) (BXg.out.bel hs (by simp only [List.mem_cons, List.not_mem_nil, or_false, not_or]; exact NEgr.out))) ⟨rfl, Below.refl _ _⟩⟩⟩
      · intro a' w' ha hs hw hold
        have e0 : a'.tmps[19]? = some (.agg #[.bool sa, .slice Xa pa qa]) := Rg.slot_get rfl rfl (hw 0 (by kernel_rfl) _ rfl)
        have e1 : a'.tmps[20]? = some (.agg #[.bool sgx, .slice Xgx pgx qgx]) := Rg.slot_get rfl rfl (hw 1 (by kernel_rfl) _ rfl)
        exact ⟨rfl, wanted_none rfl, call_step rfl Tryz.func97 (by kernel_rfl) rfl (map_two (ev_tmp e0) (ev_tmp e1)) (quotient_any _ _ za (-G) _ _ (IVa.out.kn hs.kn) (IVg.out.kn hs.kn) (SZa.out.mono (by omega)) (SG.out.neg.mono (by omega)) (by have := NG.out; omega) rfl) (fun e w2 he => by obtain ⟨v, rfl, hv, hb⟩ := he; exact ⟨v, rfl, v, rfl, hv, hb⟩)⟩
      · intro a' w' ha hs hw hold
        have eo3 : a'.tmps[3]? = some (ptr (g + 1)) := (ha.rest 3 (by kernel_rfl)).trans rfl
        exact ⟨rfl, .inl ⟨wanted_none rfl, wp_val (run_pload rfl (ev_tmp eo3) (BXb.out.bel hs (by simp only [List.mem_cons, List.not_mem_nil, or_false, not_or]; exact (by omega)))) ⟨rfl, Below.refl _ _⟩⟩⟩
      · intro a' w' ha hs hw hold
        have eo6 : a'.tmps[6]? = some (ptr gg) := (ha.rest 6 (by kernel_rfl)).trans rfl
        exact ⟨rfl, .inl ⟨wanted_none rfl, wp_val (run_pload rfl (ev_tmp eo6) (BXg.out.bel hs (by simp only [List.mem_cons, List.not_mem_nil, or_false, not_or]; exact NEgr.out))) ⟨rfl, Below.refl _ _⟩⟩⟩
      · intro a' w' ha hs hw hold
        have e3 : a'.tmps[22]? = some (.agg #[.bool sb, .slice Xb pb qb]) := Rg.slot_get rfl rfl (hw 3 (by kernel_rfl) _ rfl)
        have e4 : a'.tmps[23]? = some (.agg #[.bool sgx, .slice Xgx pgx qgx]) := Rg.slot_get rfl rfl (hw 4 (by kernel_rfl) _ rfl)
        exact ⟨rfl, wanted_none rfl, call_step rfl Tryz.func97 (by kernel_rfl) rfl (map_two (ev_tmp e3) (ev_tmp e4)) (quotient_any _ _ zb (-G) _ _ (IVb.out.kn hs.kn) (IVg.out.kn hs.kn) (SZb.out.mono (by omega)) (SG.out.neg.mono (by omega)) (by have := NG.out; omega) rfl) (fun e w2 he => by obtain ⟨v, rfl, hv, hb⟩ := he; exact ⟨v, rfl, v, rfl, hv, hb⟩)⟩
      · intro a' w' ha hs hw hold
        obtain ⟨v2, e2, q2⟩ := hw 2 (by kernel_rfl) _ rfl
        replace e2 : a'.tmps[21]? = some v2 := Rg.slot_get rfl rfl e2
        obtain ⟨v5, e5, q5⟩ := hw 5 (by kernel_rfl) _ rfl
        replace e5 : a'.tmps[24]? = some v5 := Rg.slot_get rfl rfl e5
        exact ⟨rfl, wanted_none rfl, step_build rfl (ev_tmp e2) (ev_tmp e5) q2 q5⟩
      · intro a' w' ha hs hw hold
        obtain ⟨v6, e6, q6⟩ := hw 6 (by kernel_rfl) _ rfl
        replace e6 : a'.tmps[25]? = some v6 := Rg.slot_get rfl rfl e6
        have eo4 : a'.tmps[4]? = some (ptr (g + 1 + 1)) := (ha.rest 4 (by kernel_rfl)).trans rfl
        exact ⟨rfl, wanted_none rfl, fun he => step_stoq rfl rfl (ev_tmp eo4) (ev_tmp e6) q6 RXr.out he⟩
      · intro a' w' ha hs hw hold
        exact ⟨rfl, .inl ⟨wanted_none rfl, wp_val (run_assign rfl rfl) ⟨rfl, Below.refl _ _⟩⟩⟩
    simp only [Rg.allG]
    intro r13x2 _
    intro r13x5 _
    intro r13x6 _
    intro hSr
    simp only [setOpt, Rg.setOpt, List.set_cons_succ, List.set_cons_zero]
    refine hK _ _ ?_
    clear hK K
    have DN : Hid (Below g w wn) := hs.base DW.out (by have := hg.out; omega) (by simp only [List.mem_cons, List.not_mem_nil, or_false]; omega)
    obtain ⟨Ar, ir, cr, Br, jr, dr, hcr, hir, hjr⟩ := hSr
    have kra := hcr.cell0; have krb := hcr.cell1; have krc := hcr.cell2; have krd := hcr.cell3
    have HIr := Lib.hid hir; clear hir
    have HJr := Lib.hid hjr; clear hjr
    go_wp2
    exact bodyPost_ret (v := .tuple #[.agg #[.bool (decide (za / (-G) < 0)), .slice Ar ir cr, .bool (decide (zb / (-G) < 0)), .slice Br jr dr], .int .i64 0]) (by simp [results, Tryz.results51, go_sem, kra, krb, krc, krd]) rfl ⟨_, rfl, ⟨Ar, ir, cr, Br, jr, dr, rfl, HIr.out, HJr.out⟩, by rw [hg.out]; exact DN.out⟩

theorem qnew_any (va vb : Value) (za zb : Int) (w : World) (ha : Iv w va za) (sa : Sz za 100000) (hb : Iv w vb zb) (sb : Sz zb 100000) (h0 : zb ≠ 0) : Calls Tryz.prog 51 #[va, vb] w (RetQE (Rat.divInt za zb).num (Rat.divInt za zb).den w) :=
  qnew_at va vb za zb _ _ w ha sa hb sb h0 (fun h => ⟨rnew_num za zb h, rnew_den za zb h⟩) (fun h => ⟨rnew_num_neg za zb h, rnew_den_neg za zb h⟩)

set_option maxHeartbeats 8000000 in
set_option maxRecDepth 100000 in
theorem qcmp_any (va vb : Value) (a b : Rat) (w : World) (ha : Qv w va a.num a.den) (sa : Sr a 100000) (hb : Qv w vb b.num b.den) (sb : Sr b 100000) : Calls Tryz.prog 39 #[va, vb] w (RetV (.int .i64 (cmpZ (a.num * b.den) (b.num * a.den))) w) := by
  obtain ⟨Xan, pan, qan, Xad, pad, qad, rfl, han, had⟩ := ha
  have Han := Lib.hid han
  have Had := Lib.hid had
  have SRa := Lib.hid sa
  clear han had sa
  generalize hs : decide (a.num < 0) = san at *
  clear hs
  generalize hs : decide ((a.den : Int) < 0) = sad at *
  clear hs
  obtain ⟨Xbn, pbn, qbn, Xbd, pbd, qbd, rfl, hbn, hbd⟩ := hb
  have Hbn := Lib.hid hbn
  have Hbd := Lib.hid hbd
  have SRb := Lib.hid sb
  clear hbn hbd sb
  generalize hs : decide (b.num < 0) = sbn at *
  clear hs
  generalize hs : decide ((b.den : Int) < 0) = sbd at *
  clear hs

  go_enter Tryz.func39, Tryz.ntmps39
  go_wp2_with fail
  obtain ⟨W, hW⟩ : ∃ W, W = ((w.alloc (Obj.cells #[Value.bool san, Value.slice Xan pan qan, Value.bool sad, Value.slice Xad pad qad] 31)).alloc (Obj.cells #[Value.bool sbn, Value.slice Xbn pbn qbn, Value.bool sbd, Value.slice Xbd pbd qbd] 31)) := ⟨_, rfl⟩
  rw [← hW]
  have QXa : Hid (QBox W (w.heap.size) san (.slice Xan pan qan) sad (.slice Xad pad qad)) := by rw [hW]; have := (QBox.new w san (Value.slice Xan pan qan) sad (Value.slice Xad pad qad)).alloc (Obj.cells #[Value.bool sbn, Value.slice Xbn pbn qbn, Value.bool sbd, Value.slice Xbd pbd qbd] 31); simpa [Hid] using this
  have QXb : Hid (QBox W (w.heap.size + 1) sbn (.slice Xbn pbn qbn) sbd (.slice Xbd pbd qbd)) := by rw [hW]; have := QBox.new (w.alloc (Obj.cells #[Value.bool san, Value.slice Xan pan qan, Value.bool sad, Value.slice Xad pad qad] 31)) sbn (Value.slice Xbn pbn qbn) sbd (Value.slice Xbd pbd qbd); simpa [Hid] using this
  have IVna : Hid (Iv W (.agg #[.bool san, .slice Xan pan qan]) (a.num)) := by rw [hW]; exact ((Han.out).alloc _).alloc _
  have IVda : Hid (Iv W (.agg #[.bool sad, .slice Xad pad qad]) ((a.den : Int))) := by rw [hW]; exact ((Had.out).alloc _).alloc _
  have IVnb : Hid (Iv W (.agg #[.bool sbn, .slice Xbn pbn qbn]) (b.num)) := by rw [hW]; exact ((Hbn.out).alloc _).alloc _
  have IVdb : Hid (Iv W (.agg #[.bool sbd, .slice Xbd pbd qbd]) ((b.den : Int))) := by rw [hW]; exact ((Hbd.out).alloc _).alloc _
  have DW : Hid (Below w.heap.size w W) := by rw [hW]; exact ((Below.refl _ _).alloc (by simp <;> omega) _).alloc (by simp <;> omega) _
  clear hW
  generalize hg : w.heap.size = g at *
  replace hg := Lib.hid hg
  go_upto_region 1 with fail
  refine Rg.region_gg W [.is (.pointer (some ⟨g, 0, none⟩)), .is (.agg #[.bool san, .slice Xan pan qan]), .is (.pointer (some ⟨(g + 1), 2, none⟩)), .is (.agg #[.bool sbd, .slice Xbd pbd qbd]), .own (pL1 ((b.den : Int))) (pL1_keep _), .sat (pIv (a.num * (b.den : Int))) (pIv_keep _), .is (.pointer (some ⟨(g + 1), 0, none⟩)), .is (.agg #[.bool sbn, .slice Xbn pbn qbn]), .is (.pointer (some ⟨g, 2, none⟩)), .is (.agg #[.bool sad, .slice Xad pad qad]), .own (pL1 ((a.den : Int))) (pL1_keep _), .sat (pIv (b.num * (a.den : Int))) (pIv_keep _), .is (Value.int IntKind.i64 (cmpZ (a.num * (b.den : Int)) (b.num * (a.den : Int)))), .is (Value.int IntKind.i64 (cmpZ (a.num * (b.den : Int)) (b.num * (a.den : Int))))] [] [some 5, some 6, some 7, some 8, some 9, some 10, some 11, some 12, some 13, some 14, some 15, some 16, some 17, some 4] (by kernel_rfl) (by kernel_rfl) (by kernel_rfl) (by kernel_rfl) (by kernel_rfl) (by simp [Rg.stos]) (by rfl) (by rfl) (by kernel_rfl) (by simp) ((Below.refl _ _).drew) (fun Q' => ?_) (fun K hK wn hs => ?_)
  · refine ⟨?_, ?_, ?_, ?_, ?_, ?_, ?_, ?_, ?_, ?_, ?_, ?_, ?_, ?_, trivial⟩
    · intro a' w' ha hs hw hold
      have eo2 : a'.tmps[2]? = some (ptr g) := (ha.rest 2 (by kernel_rfl)).trans rfl
      exact ⟨rfl, .inl ⟨wanted_none rfl, wp_val (run_qfield0 rfl (ev_tmp eo2)) ⟨rfl, Below.refl _ _⟩⟩⟩
    · intro a' w' ha hs hw hold
      have e0 : a'.tmps[5]? = some (.pointer (some ⟨g, 0, none⟩)) := Rg.slot_get rfl rfl (hw 0 (by kernel_rfl) _ rfl)
      exact ⟨rfl, .inl ⟨wanted_none rfl, wp_val (run_qload0 rfl (ev_tmp e0) (QXa.out.bel hs (by simp))) ⟨rfl, Below.refl _ _⟩⟩⟩
    · intro a' w' ha hs hw hold
      have eo3 : a'.tmps[3]? = some (ptr (g + 1)) := (ha.rest 3 (by kernel_rfl)).trans rfl
      exact ⟨rfl, .inl ⟨wanted_none rfl, wp_val (run_qfield1 rfl (ev_tmp eo3)) ⟨rfl, Below.refl _ _⟩⟩⟩
    · intro a' w' ha hs hw hold
      have e2 : a'.tmps[7]? = some (.pointer (some ⟨(g + 1), 2, none⟩)) := Rg.slot_get rfl rfl (hw 2 (by kernel_rfl) _ rfl)
      exact ⟨rfl, .inl ⟨wanted_none rfl, wp_val (run_qload1 rfl (ev_tmp e2) (QXb.out.bel hs (by simp))) ⟨rfl, Below.refl _ _⟩⟩⟩
    · intro a' w' ha hs hw hold
      have e3 : a'.tmps[8]? = some (.agg #[.bool sbd, .slice Xbd pbd qbd]) := Rg.slot_get rfl rfl (hw 3 (by kernel_rfl) _ rfl)
      exact ⟨rfl, wanted_none rfl, step_list1 rfl (ev_tmp e3) (IVdb.out.kn hs.kn)⟩
    · intro a' w' ha hs hw hold
      have e1 : a'.tmps[6]? = some (.agg #[.bool san, .slice Xan pan qan]) := Rg.slot_get rfl rfl (hw 1 (by kernel_rfl) _ rfl)
      obtain ⟨v4, g4, h4, q4⟩ := hw 4 (by kernel_rfl) _ rfl
      have e4 : a'.tmps[9]? = some v4 := Rg.slot_get rfl rfl h4.1
      replace q4 := q4 (by kernel_rfl)
      exact ⟨rfl, wanted_none rfl, call_step rfl Tryz.func96 (by kernel_rfl) rfl (map_two (ev_tmp e1) (ev_tmp e4)) (product1_any _ _ a.num (b.den : Int) _ (IVna.out.kn hs.kn) q4 (SRa.out.num.mono (by omega)) (SRb.out.den.mono (by omega))) (fun e w2 he => by obtain ⟨v, rfl, hv, hb⟩ := he; exact ⟨v, rfl, v, rfl, hv, hb⟩)⟩
    · intro a' w' ha hs hw hold
      have eo3 : a'.tmps[3]? = some (ptr (g + 1)) := (ha.rest 3 (by kernel_rfl)).trans rfl
      exact ⟨rfl, .inl ⟨wanted_none rfl, wp_val (run_qfield0 rfl (ev_tmp eo3)) ⟨rfl, Below.refl _ _⟩⟩⟩
    · intro a' w' ha hs hw hold
      have e6 : a'.tmps[11]? = some (.pointer (some ⟨(g + 1), 0, none⟩)) := Rg.slot_get rfl rfl (hw 6 (by kernel_rfl) _ rfl)
      exact ⟨rfl, .inl ⟨wanted_none rfl, wp_val (run_qload0 rfl (ev_tmp e6) (QXb.out.bel hs (by simp))) ⟨rfl, Below.refl _ _⟩⟩⟩
    · intro a' w' ha hs hw hold
      have eo2 : a'.tmps[2]? = some (ptr g) := (ha.rest 2 (by kernel_rfl)).trans rfl
      exact ⟨rfl, .inl ⟨wanted_none rfl, wp_val (run_qfield1 rfl (ev_tmp eo2)) ⟨rfl, Below.refl _ _⟩⟩⟩
    · intro a' w' ha hs hw hold
      have e8 : a'.tmps[13]? = some (.pointer (some ⟨g, 2, none⟩)) := Rg.slot_get rfl rfl (hw 8 (by kernel_rfl) _ rfl)
      exact ⟨rfl, .inl ⟨wanted_none rfl, wp_val (run_qload1 rfl (ev_tmp e8) (QXa.out.bel hs (by simp))) ⟨rfl, Below.refl _ _⟩⟩⟩
    · intro a' w' ha hs hw hold
      have e9 : a'.tmps[14]? = some (.agg #[.bool sad, .slice Xad pad qad]) := Rg.slot_get rfl rfl (hw 9 (by kernel_rfl) _ rfl)
      exact ⟨rfl, wanted_none rfl, step_list1 rfl (ev_tmp e9) (IVda.out.kn hs.kn)⟩
    · intro a' w' ha hs hw hold
      have e7 : a'.tmps[12]? = some (.agg #[.bool sbn, .slice Xbn pbn qbn]) := Rg.slot_get rfl rfl (hw 7 (by kernel_rfl) _ rfl)
      obtain ⟨v10, g10, h10, q10⟩ := hw 10 (by kernel_rfl) _ rfl
      have e10 : a'.tmps[15]? = some v10 := Rg.slot_get rfl rfl h10.1
      replace q10 := q10 (by kernel_rfl)
      exact ⟨rfl, wanted_none rfl, call_step rfl Tryz.func96 (by kernel_rfl) rfl (map_two (ev_tmp e7) (ev_tmp e10)) (product1_any _ _ b.num (a.den : Int) _ (IVnb.out.kn hs.kn) q10 (SRb.out.num.mono (by omega)) (SRa.out.den.mono (by omega))) (fun e w2 he => by obtain ⟨v, rfl, hv, hb⟩ := he; exact ⟨v, rfl, v, rfl, hv, hb⟩)⟩
    · intro a' w' ha hs hw hold
      obtain ⟨v5, e5, q5⟩ := hw 5 (by kernel_rfl) _ rfl
      replace e5 : a'.tmps[10]? = some v5 := Rg.slot_get rfl rfl e5
      obtain ⟨v11, e11, q11⟩ := hw 11 (by kernel_rfl) _ rfl
      replace e11 : a'.tmps[16]? = some v11 := Rg.slot_get rfl rfl e11
      exact ⟨rfl, .inl ⟨wanted_none rfl, call_step rfl Tryz.func35 (by kernel_rfl) rfl (map_two (ev_tmp e5) (ev_tmp e11)) (cmp_any _ _ (a.num * (b.den : Int)) (b.num * (a.den : Int)) _ q5 q11 ((SRa.out.num.mul SRb.out.den).mono (by omega)) ((SRb.out.num.mul SRa.out.den).mono (by omega))) (fun e w2 he => by obtain ⟨rfl, hb⟩ := he; exact ⟨_, rfl, rfl, hb⟩)⟩⟩
    · intro a' w' ha hs hw hold
      have e12 : a'.tmps[17]? = some (Value.int IntKind.i64 (cmpZ (a.num * (b.den : Int)) (b.num * (a.den : Int)))) := Rg.slot_get rfl rfl (hw 12 (by kernel_rfl) _ rfl)
      exact ⟨rfl, .inl ⟨wanted_none rfl, wp_val (run_assign rfl (ev_tmp e12)) ⟨rfl, Below.refl _ _⟩⟩⟩
  simp only [Rg.allG]
  intro r1x4 _ _ _ _ _ _
  intro r1x5 _
  intro r1x10 _ _ _ _ _ _
  intro r1x11 _
  simp only [setOpt, Rg.setOpt, List.set_cons_succ, List.set_cons_zero]
  refine hK _ _ ?_
  clear hK K
  replace hs := hs.below
  replace QXa := nxq QXa hs rfl; replace IVna := nxv IVna hs rfl; replace IVda := nxv IVda hs rfl
  replace QXb := nxq QXb hs rfl; replace IVnb := nxv IVnb hs rfl; replace IVdb := nxv IVdb hs rfl
  replace DW := nxd DW hg hs rfl rfl rfl rfl
  clear hs
  go_wp2
  go_ret
  exact ⟨rfl, by rw [hg.out]; exact DW.out⟩

set_option maxHeartbeats 8000000 in
set_option maxRecDepth 100000 in
theorem qfloor_any (va : Value) (a : Rat) (w : World) (ha : Qv w va a.num a.den) (sa : Sr a 1000000) : Calls Tryz.prog 33 #[va] w (RetIv (a.num / a.den) w) := by
  obtain ⟨Xan, pan, qan, Xad, pad, qad, rfl, han, had⟩ := ha
  have Han := Lib.hid han
  have Had := Lib.hid had
  have SRa := Lib.hid sa
  clear han had sa
  generalize hs : decide (a.num < 0) = san at *
  clear hs
  generalize hs : decide ((a.den : Int) < 0) = sad at *
  clear hs
  have hd0 : Hid ((a.den : Int) ≠ 0) := by have := den_cast a; unfold Hid; omega

  go_enter Tryz.func33, Tryz.ntmps33
  go_wp2_with fail
  obtain ⟨W, hW⟩ : ∃ W, W = ((w.alloc (Obj.cells #[Value.bool san, Value.slice Xan pan qan, Value.bool sad, Value.slice Xad pad qad] 31)).alloc (Obj.cells #[Value.bool false, Value.slice none 0 0] 29)) := ⟨_, rfl⟩
  rw [← hW]
  have QXa : Hid (QBox W (w.heap.size) san (.slice Xan pan qan) sad (.slice Xad pad qad)) := by rw [hW]; have := (QBox.new w san (Value.slice Xan pan qan) sad (Value.slice Xad pad qad)).alloc (Obj.cells #[Value.bool false, Value.slice none 0 0] 29); simpa [Hid] using this
  have RXr : Hid (Box W (w.heap.size + 1) false (.slice none 0 0)) := by rw [hW]; have := Box.new (w.alloc (Obj.cells #[Value.bool san, Value.slice Xan pan qan, Value.bool sad, Value.slice Xad pad qad] 31)) false (Value.slice none 0 0); simpa [Hid] using this
  have IVna : Hid (Iv W (.agg #[.bool san, .slice Xan pan qan]) (a.num)) := by rw [hW]; exact ((Han.out).alloc _).alloc _
  have IVda : Hid (Iv W (.agg #[.bool sad, .slice Xad pad qad]) ((a.den : Int))) := by rw [hW]; exact ((Had.out).alloc _).alloc _
  have DW : Hid (Below w.heap.size w W) := by rw [hW]; exact ((Below.refl _ _).alloc (by simp <;> omega) _).alloc (by simp <;> omega) _
  clear hW
  generalize hg : w.heap.size = g at *
  replace hg := Lib.hid hg
  go_upto_region 1 with fail
  have u1a := QXa.out.cell0; have u1b := QXa.out.cell1; have u1c := QXa.out.cell2; have u1d := QXa.out.cell3
  go_wp2_with fail
  clear u1a u1b u1c u1d
  refine (quotient_any _ _ a.num (a.den : Int) _ _ IVna.out IVda.out SRa.out.num SRa.out.den hd0.out rfl).mono ?_
  rintro e y2 ⟨_, rfl, hq, hb⟩
  obtain ⟨X9, p9, q9, rfl, _, _, _⟩ := hq.form
  replace hq := Lib.hid hq
  replace QXa := nxq QXa hb rfl; replace IVna := nxv IVna hb rfl; replace IVda := nxv IVda hb rfl
  replace RXr := Lib.hid (RXr.out.next hb rfl)
  replace DW := nxd DW hg hb rfl rfl rfl rfl
  clear hb
  generalize hs9 : decide (a.num / (a.den : Int) < 0) = s9 at *
  clear hs9
  have u3a := RXr.out.cell0; have u3b := RXr.out.cell1; have u3f := RXr.out.frozen 0; have u3g := RXr.out.frozen 1
  go_wp2
  refine bodyPost_ret (v := .agg #[.bool s9, .slice X9 p9 q9]) (by simp [results, Tryz.results33, go_sem, u3a, u3b, u3f, u3g]) rfl ⟨_, rfl, iv_keep hq.out RXr.out _, by rw [hg.out]; exact (DW.out.setCell (by simp <;> omega) _).setCell (by simp <;> omega) _⟩
end Go.Proofs.YtfigimfdojbkeaaGreat
