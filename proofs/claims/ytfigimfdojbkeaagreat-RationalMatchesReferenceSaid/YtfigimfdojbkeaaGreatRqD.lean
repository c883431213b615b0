/-
 The reference's functions on fractions.
-/
import Derived.Test.YtfigimfdojbkeaaGreatRqC
import Derived.Test.YtfigimfdojbkeaaGreatRatU
import Derived.Deep.DeepCutAuto
import Derived.Handy
set_option linter.unusedSimpArgs false
set_option linter.unusedVariables false
namespace Go.Proofs.YtfigimfdojbkeaaGreat
open Go.RowKit
attribute [local go_sem ↓] Go.wp_at_zero Go.wp_at_succ

theorem rfloor_is (va : Value) (a f : Rat) (w : World) (ha : Qv w va a.num a.den) (sa : Sr a 1000000) (h : f.num = a.num / a.den) : Calls Tryz.prog 36 #[va] w (RetIv f.num w) := h ▸ rqfloor_any va a w ha sa
theorem rqcmp_is (va vb : Value) (a b : Rat) (r : Int) (w : World) (ha : Qv w va a.num a.den) (sa : Sr a 100000) (hb : Qv w vb b.num b.den) (sb : Sr b 100000) (h : cq a b = r) : Calls Tryz.prog 40 #[va, vb] w (RetV (.int .i64 r) w) := h ▸ rqcmp_any va vb a b w ha sa hb sb
theorem rqsign_is (va : Value) (a : Rat) (r : Int) (w : World) (ha : Qv w va a.num a.den) (sa : Sr a 1000000) (h : sg a.num = r) : Calls Tryz.prog 38 #[va] w (RetV (.int .i64 r) w) := h ▸ rqsign_any va a w ha sa

set_option maxHeartbeats 8000000 in
set_option maxRecDepth 100000 in
theorem rwhole1_any (va : Value) (za : Int) (w : World) (ha : Iv w va za) (sa : Sz za 100000) : Calls Tryz.prog 156 #[va] w (RetQ za 1 w) := by
 obtain ⟨Xa, pa, qa, rfl, _, _, _⟩ := ha.form
 have Ha := Lib.hid ha
 have SZa := Lib.hid sa
 clear ha sa
 generalize hs : decide (za < 0) = sa at *
 clear hs

 go_enter Tryz.func156, Tryz.ntmps156
 go_wp2_with fail
 obtain ⟨W, hW⟩ : ∃ W, W = ((w.alloc (Obj.cells #[Value.bool sa, Value.slice Xa pa qa] 29)).alloc (Obj.cells #[Value.bool false, Value.slice none 0 0, Value.bool false, Value.slice none 0 0] 31)) := ⟨_, rfl⟩
 rw [← hW]
 have BXa : Hid (Box W (w.heap.size) sa (.slice Xa pa qa)) := by rw [hW]; have := (Box.new w sa (Value.slice Xa pa qa)).alloc (Obj.cells #[Value.bool false, Value.slice none 0 0, Value.bool false, Value.slice none 0 0] 31); simpa [Hid] using this
 have RXr : Hid (QBox W (w.heap.size + 1) false (.slice none 0 0) false (.slice none 0 0)) := by rw [hW]; have := QBox.new (w.alloc (Obj.cells #[Value.bool sa, Value.slice Xa pa qa] 29)) false (Value.slice none 0 0) false (Value.slice none 0 0); simpa [Hid] using this
 have IVa : Hid (Iv W (.agg #[.bool sa, .slice Xa pa qa]) (za)) := by rw [hW]; exact ((Ha.out).alloc _).alloc _
 have DW : Hid (Below w.heap.size w W) := by rw [hW]; exact ((Below.refl _ _).alloc (by simp <;> omega) _).alloc (by simp <;> omega) _
 clear hW
 generalize hg : w.heap.size = g at *
 replace hg := Lib.hid hg
 go_upto_region 1 with fail
 refine Rg.region_gg W [.is (.agg #[.bool sa, .slice Xa pa qa]), .sat (pIv ((1 : Int))) (pIv_keep _), .sat (pQv (za) ((1 : Int))) (pQv_keep _ _), .sto (g + 1) (sQ (g + 1) (za) ((1 : Int))) (sQ_keep _ _ _)] [(g + 1)] [some 3, some 4, some 5, none] (by kernel_rfl) (by kernel_rfl) (by kernel_rfl) (by kernel_rfl) (by kernel_rfl) (by simp [Rg.stos]) (by rfl) (by rfl) (by kernel_rfl) (by intro g hg; simp only [List.mem_cons, List.not_mem_nil, or_false] at hg; subst hg; exact RXr.out.lt) ((Below.refl _ _).drew) (fun Q' => ?_) (fun K hK wn hs => ?_)
 ·refine ⟨?_, ?_, ?_, ?_, trivial⟩
  ·intro a' w' ha hs hw hold
   have eo1 : a'.tmps[1]? = some (ptr g) := (ha.rest 1 (by kernel_rfl)).trans rfl
   exact ⟨rfl, .inl ⟨wanted_none rfl, wp_val (run_pload rfl (ev_tmp eo1) (BXa.out.bel hs (by simp only [List.mem_cons, List.not_mem_nil, or_false, not_or]; exact (by omega)))) ⟨rfl, Below.refl _ _⟩⟩⟩
  ·intro a' w' ha hs hw hold
   exact ⟨rfl, wanted_none rfl, call_step rfl Tryz.func89 (by kernel_rfl) rfl (map_one rfl) (rof_any 1 _ (by omega) (by omega)) (fun e w2 he => by obtain ⟨v, rfl, hv, hb⟩ := he; exact ⟨v, rfl, v, rfl, hv, hb⟩)⟩
  ·intro a' w' ha hs hw hold
   have e0 : a'.tmps[3]? = some (.agg #[.bool sa, .slice Xa pa qa]) := Rg.slot_get rfl rfl (hw 0 (by kernel_rfl) _ rfl)
   obtain ⟨v1, e1, q1⟩ := hw 1 (by kernel_rfl) _ rfl
   replace e1 : a'.tmps[4]? = some v1 := Rg.slot_get rfl rfl e1
   exact ⟨rfl, wanted_none rfl, step_build rfl (ev_tmp e0) (ev_tmp e1) (IVa.out.kn hs.kn) q1⟩
  ·intro a' w' ha hs hw hold
   obtain ⟨v2, e2, q2⟩ := hw 2 (by kernel_rfl) _ rfl
   replace e2 : a'.tmps[5]? = some v2 := Rg.slot_get rfl rfl e2
   have eo2 : a'.tmps[2]? = some (ptr (g + 1)) := (ha.rest 2 (by kernel_rfl)).trans rfl
   exact ⟨rfl, wanted_none rfl, fun he => step_stoq rfl rfl (ev_tmp eo2) (ev_tmp e2) q2 RXr.out he⟩
 simp only [Rg.allG]
 intro r1x1 _
 intro r1x2 _
 intro hSr
 simp only [setOpt, Rg.setOpt, List.set_cons_succ, List.set_cons_zero]
 refine hK _ _ ?_
 clear hK K
 have DN : Hid (Below g w wn) := hs.base DW.out (by have := hg.out; omega) (by simp only [List.mem_cons, List.not_mem_nil, or_false]; omega)
 obtain ⟨Ar, ir, cr, Br, jr, dr, hcr, hir, hjr⟩ := hSr
 have kra := hcr.cell0; have krb := hcr.cell1; have krc := hcr.cell2; have krd := hcr.cell3
 have HIr := Lib.hid hir; clear hir
 have HJr := Lib.hid hjr; clear hjr
 go_wp2
 exact bodyPost_ret (v := .agg #[.bool (decide (za < 0)), .slice Ar ir cr, .bool (decide ((1 : Int) < 0)), .slice Br jr dr]) (by simp [results, Tryz.results156, go_sem, kra, krb, krc, krd]) rfl ⟨_, rfl, ⟨Ar, ir, cr, Br, jr, dr, rfl, HIr.out, HJr.out⟩, by rw [hg.out]; exact DN.out⟩

theorem rwhole1_is (va : Value) (f : Rat) (w : World) (ha : Iv w va f.num) (sa : Sz f.num 100000) (h : (f.den : Int) = 1) : Calls Tryz.prog 156 #[va] w (RetQ f.num f.den w) := h ▸ rwhole1_any va f.num w ha sa

set_option maxHeartbeats 8000000 in
set_option maxRecDepth 100000 in
theorem rsimplest_any : ∀ (N : Nat) (va vb : Value) (a b : Rat) (w : World) (_ : Qv w va a.num a.den) (_ : Sr a 1000) (_ : Qv w vb b.num b.den) (_ : Sr b 1000) (_ : 0 < a.num) (_ : a.num * b.den ≤ b.num * a.den) (_ : a.den + b.den ≤ N), Calls Tryz.prog 104 #[va, vb] w (RetQ (smp a b).num (smp a b).den w) := by
 intro N
 induction N with
 | zero => intro _ _ a b _ _ _ _ _ _ _ h; have := rat_pos a; omega
 | succ N ih =>
  intro va vb a b w ha sa hb sb hp hle hN
  obtain ⟨F, eF⟩ : ∃ F, a.num / (a.den : Int) = F := ⟨_, rfl⟩
  obtain ⟨f, ef⟩ : ∃ f : Rat, (F : Rat) = f := ⟨_, rfl⟩
  have HF1 : Hid (f.num = a.num / (a.den : Int)) := by rw [← ef, Rat.num_intCast]; exact eF.symm
  have HF2 : Hid ((f.den : Int) = 1) := by rw [← ef, Rat.den_intCast]; rfl
  have SF : Hid (Sr f 1000) := ⟨by rw [HF1.out]; exact sa.num.ediv (by have := den_cast a; omega), by rw [HF2.out]; exact szs (by omega) (by omega)⟩
  obtain ⟨R, eR⟩ : ∃ R, smp a b = R := ⟨_, rfl⟩
  rw [eR]
  obtain ⟨o1, ho1⟩ : ∃ o, cq f a = o := ⟨_, rfl⟩
  have Z1 : Hid (o1 = 0 ↔ a.num % a.den = 0) := by rw [← ho1, ← ef]; exact cqf_zero eF
  obtain ⟨o2, ho2⟩ : ∃ o, cq (f + ((1 : Int) : Rat)) b = o := ⟨_, rfl⟩
  have Z2 : Hid (o2 ≤ 0 ↔ F < b.num / b.den) := by rw [← ho2, ← ef]; exact cqn_le F
  have C1 : Hid (a.num % a.den = 0 → R = a) := fun h => by rw [← eR]; exact smp_whole hp hle h
  have C2 : Hid (a.num % a.den ≠ 0 → F < b.num / b.den → R = f + ((1 : Int) : Rat)) := fun h k => by rw [← eR, ← ef]; exact smp_next hp hle F eF h k
  have C3 : Hid (a.num % a.den ≠ 0 → ¬ F < b.num / b.den → ∃ L H Y Z : Rat, (b - f)⁻¹ = L ∧ (a - f)⁻¹ = H ∧ smp L H = Y ∧ Y⁻¹ = Z ∧ R = f + Z ∧ (b - f).num ≠ 0 ∧ (a - f).num ≠ 0 ∧ Y.num ≠ 0 ∧ Sr L 1000 ∧ Sr H 1000 ∧ Sr Y 1000 ∧ 0 < L.num ∧ L.num * H.den ≤ H.num * L.den ∧ L.den + H.den ≤ N) := by
   intro h k
   have hs := smp_step hp hle F eF h k
   rw [ef, eR] at hs
   obtain ⟨nb, na, l1, l2, h1, h2, p1, p2, hla, e, yp⟩ := hs
   have m1 := Int.emod_lt_of_pos a.num (den_cast a)
   have m2 := Int.emod_lt_of_pos b.num (den_cast b)
   have sl : Sr (b - f)⁻¹ 1000 := ⟨by rw [l1]; exact sb.den, by rw [l2]; exact sz_le sb.den (by omega) (by omega)⟩
   have sh : Sr (a - f)⁻¹ 1000 := ⟨by rw [h1]; exact sa.den, by rw [h2]; exact sz_le sa.den (by omega) (by omega)⟩
   have hl : 0 < (b - f)⁻¹.num := by rw [l1]; exact den_cast b
   have hle2 : (b - f)⁻¹.num * ((a - f)⁻¹.den : Int) ≤ (a - f)⁻¹.num * ((b - f)⁻¹.den : Int) := by rw [l1, l2, h1, h2]; exact hla
   exact ⟨_, _, _, _, rfl, rfl, rfl, rfl, e, by omega, by omega, by omega, sl, sh, smp_sr hl hle2 sh, hl, hle2, by omega⟩
  replace ho1 := Lib.hid ho1; replace ho2 := Lib.hid ho2
  clear hp hle hN eF ef eR
  obtain ⟨Xan, pan, qan, Xad, pad, qad, rfl, han, had⟩ := ha
  have Han := Lib.hid han
  have Had := Lib.hid had
  have SRa := Lib.hid sa
  clear han had sa
  generalize hs : decide (a.num < 0) = san at *
  clear hs
  generalize hs : decide ((a.den : Int) < 0) = sad at *
  clear hs
  obtain ⟨Xbn, pbn, qbn, Xbd, pbd, qbd, rfl, hbn, hbd⟩ := hb
  have Hbn := Lib.hid hbn
  have Hbd := Lib.hid hbd
  have SRb := Lib.hid sb
  clear hbn hbd sb
  generalize hs : decide (b.num < 0) = sbn at *
  clear hs
  generalize hs : decide ((b.den : Int) < 0) = sbd at *
  clear hs

  go_enter Tryz.func104, Tryz.ntmps104
  go_wp2_with fail
  obtain ⟨W, hW⟩ : ∃ W, W = (((w.alloc (Obj.cells #[Value.bool san, Value.slice Xan pan qan, Value.bool sad, Value.slice Xad pad qad] 31)).alloc (Obj.cells #[Value.bool sbn, Value.slice Xbn pbn qbn, Value.bool sbd, Value.slice Xbd pbd qbd] 31)).alloc (Obj.cells #[Value.bool false, Value.slice none 0 0, Value.bool false, Value.slice none 0 0] 31)) := ⟨_, rfl⟩
  rw [← hW]
  have QXa : Hid (QBox W (w.heap.size) san (.slice Xan pan qan) sad (.slice Xad pad qad)) := by rw [hW]; have := ((QBox.new w san (Value.slice Xan pan qan) sad (Value.slice Xad pad qad)).alloc (Obj.cells #[Value.bool sbn, Value.slice Xbn pbn qbn, Value.bool sbd, Value.slice Xbd pbd qbd] 31)).alloc (Obj.cells #[Value.bool false, Value.slice none 0 0, Value.bool false, Value.slice none 0 0] 31); simpa [Hid] using this
  have QXb : Hid (QBox W (w.heap.size + 1) sbn (.slice Xbn pbn qbn) sbd (.slice Xbd pbd qbd)) := by rw [hW]; have := (QBox.new (w.alloc (Obj.cells #[Value.bool san, Value.slice Xan pan qan, Value.bool sad, Value.slice Xad pad qad] 31)) sbn (Value.slice Xbn pbn qbn) sbd (Value.slice Xbd pbd qbd)).alloc (Obj.cells #[Value.bool false, Value.slice none 0 0, Value.bool false, Value.slice none 0 0] 31); simpa [Hid] using this
  have RXr : Hid (QBox W (w.heap.size + 1 + 1) false (.slice none 0 0) false (.slice none 0 0)) := by rw [hW]; have := QBox.new ((w.alloc (Obj.cells #[Value.bool san, Value.slice Xan pan qan, Value.bool sad, Value.slice Xad pad qad] 31)).alloc (Obj.cells #[Value.bool sbn, Value.slice Xbn pbn qbn, Value.bool sbd, Value.slice Xbd pbd qbd] 31)) false (Value.slice none 0 0) false (Value.slice none 0 0); simpa [Hid] using this
  have IVna : Hid (Iv W (.agg #[.bool san, .slice Xan pan qan]) (a.num)) := by rw [hW]; exact (((Han.out).alloc _).alloc _).alloc _
  have IVda : Hid (Iv W (.agg #[.bool sad, .slice Xad pad qad]) ((a.den : Int))) := by rw [hW]; exact (((Had.out).alloc _).alloc _).alloc _
  have IVnb : Hid (Iv W (.agg #[.bool sbn, .slice Xbn pbn qbn]) (b.num)) := by rw [hW]; exact (((Hbn.out).alloc _).alloc _).alloc _
  have IVdb : Hid (Iv W (.agg #[.bool sbd, .slice Xbd pbd qbd]) ((b.den : Int))) := by rw [hW]; exact (((Hbd.out).alloc _).alloc _).alloc _
  have DW : Hid (Below w.heap.size w W) := by rw [hW]; exact (((Below.refl _ _).alloc (by simp <;> omega) _).alloc (by simp <;> omega) _).alloc (by simp <;> omega) _
  clear hW
  generalize hg : w.heap.size = g at *
  replace hg := Lib.hid hg
  go_upto_region 1 with fail
  have u1a := QXa.out.cell0; have u1b := QXa.out.cell1; have u1c := QXa.out.cell2; have u1d := QXa.out.cell3
  go_wp2_with fail
  clear u1a u1b u1c u1d
  refine (rfloor_is _ a f _ (qv_of IVna.out IVda.out) (SRa.out.mono (by omega)) HF1.out).mono ?_
  rintro e y2 ⟨_, rfl, hq, hb⟩
  replace hq := Lib.hid hq
  replace QXa := nxq QXa hb rfl; replace IVna := nxv IVna hb rfl; replace IVda := nxv IVda hb rfl
  replace QXb := nxq QXb hb rfl; replace IVnb := nxv IVnb hb rfl; replace IVdb := nxv IVdb hb rfl
  replace RXr := Lib.hid (RXr.out.next hb rfl)
  replace DW := nxd DW hg hb rfl rfl rfl rfl
  clear hb
  go_wp2_with fail
  refine (rwhole1_is _ f _ hq.out (SF.out.num.mono (by omega)) HF2.out).mono ?_
  rintro e y77 ⟨_, rfl, hq2, hb⟩
  clear hq
  obtain ⟨Xfn, pfn, qfn, Xfd, pfd, qfd, rfl, hfn, hfd⟩ := hq2
  have Qfn := Lib.hid hfn; have Qfd := Lib.hid hfd; clear hfn hfd
  have B := Lib.hid hb; clear hb
  generalize hs : decide ((f.num : Int) < 0) = sfn at *
  clear hs
  generalize hs : decide (((f.den : Int) : Int) < 0) = sfd at *
  clear hs
  go_upto_region 2 with fail
  obtain ⟨W3, hW⟩ : ∃ W3, W3 = y77.alloc (Obj.cells #[Value.bool sfn, Value.slice Xfn pfn qfn, Value.bool sfd, Value.slice Xfd pfd qfd] 31) := ⟨_, rfl⟩
  rw [← hW]
  have QXf : Hid (QBox W3 y77.heap.size sfn (.slice Xfn pfn qfn) sfd (.slice Xfd pfd qfd)) := by rw [hW]; exact QBox.new _ _ _ _ _
  have IVnf : Hid (Iv W3 (.agg #[.bool sfn, .slice Xfn pfn qfn]) (f.num)) := by rw [hW]; exact Qfn.out.alloc _
  have IVdf : Hid (Iv W3 (.agg #[.bool sfd, .slice Xfd pfd qfd]) ((f.den : Int))) := by rw [hW]; exact Qfd.out.alloc _
  have hd : Below y2.heap.size y2 W3 := by rw [hW]; exact B.out.alloc (by have := B.out.size; omega) _
  have NEfr : Hid (y77.heap.size ≠ (g + 1 + 1)) := by have := RXr.out.lt; have := B.out.size; unfold Hid; omega
  clear hW B Qfn Qfd
  generalize hgn3 : y77.heap.size = gf at *
  clear hgn3
  replace QXa := nxq QXa hd rfl; replace IVna := nxv IVna hd rfl; replace IVda := nxv IVda hd rfl
  replace QXb := nxq QXb hd rfl; replace IVnb := nxv IVnb hd rfl; replace IVdb := nxv IVdb hd rfl
  replace RXr := Lib.hid (RXr.out.next hd rfl)
  replace DW := nxd DW hg hd rfl rfl rfl rfl
  clear hd
  have u4a := QXf.out.cell0; have u4b := QXf.out.cell1; have u4c := QXf.out.cell2; have u4d := QXf.out.cell3
  have u5a := QXa.out.cell0; have u5b := QXa.out.cell1; have u5c := QXa.out.cell2; have u5d := QXa.out.cell3
  go_wp2_with fail
  clear u4a u4b u4c u4d u5a u5b u5c u5d
  refine (rqcmp_is _ _ f a o1 _ (qv_of IVnf.out IVdf.out) (SF.out.mono (by omega)) (qv_of IVna.out IVda.out) (SRa.out.mono (by omega)) ho1.out).mono ?_
  rintro e y6 ⟨rfl, hb⟩
  replace QXa := nxq QXa hb rfl; replace IVna := nxv IVna hb rfl; replace IVda := nxv IVda hb rfl
  replace QXb := nxq QXb hb rfl; replace IVnb := nxv IVnb hb rfl; replace IVdb := nxv IVdb hb rfl
  replace QXf := nxq QXf hb rfl; replace IVnf := nxv IVnf hb rfl; replace IVdf := nxv IVdf hb rfl
  replace RXr := Lib.hid (RXr.out.next hb rfl)
  replace DW := nxd DW hg hb rfl rfl rfl rfl
  clear hb
  by_cases h1 : a.num % a.den = 0
  ·have e1 : (o1 == 0) = true := by rw [Z1.out.2 h1]; rfl
   go_upto_region 3 with fail
   have u7a := QXa.out.cell0; have u7b := QXa.out.cell1; have u7c := QXa.out.cell2; have u7d := QXa.out.cell3
   have u8a := RXr.out.cell0; have u8b := RXr.out.cell1; have u8c := RXr.out.cell2; have u8d := RXr.out.cell3; have u8f := RXr.out.frozen 0; have u8g := RXr.out.frozen 1; have u8h := RXr.out.frozen 2; have u8i := RXr.out.frozen 3
   go_wp2
   refine bodyPost_ret (v := .agg #[.bool san, .slice Xan pan qan, .bool sad, .slice Xad pad qad]) (by simp [results, Tryz.results104, go_sem, u7a, u7b, u7c, u7d, u8a, u8b, u8c, u8d, u8f, u8g, u8h, u8i]) rfl ⟨_, rfl, ?_, by rw [hg.out]; exact (((DW.out.setCell (by simp <;> omega) _).setCell (by simp <;> omega) _).setCell (by simp <;> omega) _).setCell (by simp <;> omega) _⟩
   have hc := chg_qbox (b' := san) (d' := sad) (A' := Xan) (n' := pan) (c' := qan) (B' := Xad) (m' := pad) (e' := qad) RXr.out
   rw [C1.out h1]
   exact qv_of (IVna.out.kn hc.kn) (IVda.out.kn hc.kn)
  ·have e1 : (o1 == 0) = false := by rw [beq_eq_false_iff_ne]; intro h; exact h1 (Z1.out.1 h)
   go_upto_region 4 with fail
   clear e1
   have QVf : Hid (Qv y6 (.agg #[.bool sfn, .slice Xfn pfn qfn, .bool sfd, .slice Xfd pfd qfd]) (f.num) ((f.den : Int))) := qv_of IVnf.out IVdf.out
   refine Rg.region_gg y6 [.is (.agg #[.bool sfn, .slice Xfn pfn qfn, .bool sfd, .slice Xfd pfd qfd]), .sat (pQv (((1 : Int) : Rat).num) ((((1 : Int) : Rat).den : Int))) (pQv_keep _ _), .sat (pQv ((f + ((1 : Int) : Rat)).num) (((f + ((1 : Int) : Rat)).den : Int))) (pQv_keep _ _), .own pNewQ pNewQ_keep, .put 3 (pPutQ ((f + ((1 : Int) : Rat)).num) (((f + ((1 : Int) : Rat)).den : Int))) (pPutQ_keep _ _)] [] [some 21, some 22, some 23, some 6, none] (by kernel_rfl) (by kernel_rfl) (by kernel_rfl) (by kernel_rfl) (by kernel_rfl) (by simp [Rg.stos]) (by rfl) (by rfl) (by kernel_rfl) (by simp) ((Below.refl _ _).drew) (fun Q' => ?_) (fun K hK wn hs => ?_)
   ·refine ⟨?_, ?_, ?_, ?_, ?_, trivial⟩
    ·intro a' w' ha hs hw hold
     have eo5 : a'.tmps[5]? = some (ptr gf) := (ha.rest 5 (by kernel_rfl)).trans rfl
     exact ⟨rfl, .inl ⟨wanted_none rfl, wp_val (run_qload rfl (ev_tmp eo5) (QXf.out.bel hs (by simp))) ⟨rfl, Below.refl _ _⟩⟩⟩
    ·intro a' w' ha hs hw hold
     exact ⟨rfl, wanted_none rfl, call_step rfl Tryz.func26 (by kernel_rfl) rfl (map_one rfl) (rqWhole_any 1 _ (by decide) (by decide)) (fun e w2 he => by obtain ⟨v, rfl, hv, hb⟩ := he; exact ⟨v, rfl, v, rfl, hv, hb⟩)⟩
    ·intro a' w' ha hs hw hold
     have e0 : a'.tmps[21]? = some (.agg #[.bool sfn, .slice Xfn pfn qfn, .bool sfd, .slice Xfd pfd qfd]) := Rg.slot_get rfl rfl (hw 0 (by kernel_rfl) _ rfl)
     obtain ⟨v1, e1, q1⟩ := hw 1 (by kernel_rfl) _ rfl
     replace e1 : a'.tmps[22]? = some v1 := Rg.slot_get rfl rfl e1
     exact ⟨rfl, wanted_none rfl, call_step rfl Tryz.func18 (by kernel_rfl) rfl (map_two (ev_tmp e0) (ev_tmp e1)) (rqadd_any _ _ f ((1 : Int) : Rat) _ (QVf.out.kn hs.kn) (SF.out.mono (by omega)) q1 ((Sr.whole (by decide)).mono (by omega))) (fun e w2 he => by obtain ⟨v, rfl, hv, hb⟩ := he; exact ⟨v, rfl, v, rfl, hv, hb⟩)⟩
    ·intro a' w' ha hs hw hold
     exact ⟨rfl, wanted_none rfl, step_newq rfl⟩
    ·intro a' w' ha hs hw hold
     obtain ⟨v2, e2, q2⟩ := hw 2 (by kernel_rfl) _ rfl
     replace e2 : a'.tmps[23]? = some v2 := Rg.slot_get rfl rfl e2
     refine ⟨rfl, wanted_none rfl, by kernel_rfl, fun pv pg pp ph pe1 pe2 pe3 pe4 => ?_⟩
     cases pe1
     exact step_putq rfl rfl (ev_tmp (Rg.slot_get rfl rfl pe2)) (ev_tmp e2) pe3 pe4 q2
   simp only [Rg.allG]
   intro r9x1 _
   intro r9x2 _
   intro a9x3 gb9x3 hE9x3 hB9x3 _ hN9x3 _
   intro v9 he hp
   simp only [List.nil_append, List.cons_append, List.getElem?_cons_succ, List.getElem?_cons_zero, Option.some.injEq] at he
   subst he
   obtain ⟨gn, rfl, Xnn, pnn, qnn, Xnd, pnd, qnd, QXn, IVnn, IVdn⟩ := hp
   simp only [setOpt, Rg.setOpt, List.set_cons_succ, List.set_cons_zero, ptr]
   refine hK _ _ ?_
   clear hK K
   replace hs := hs.below
   have hgb : gn = gb9x3 := Option.some.inj hE9x3
   have NEnr : Hid (gn ≠ (g + 1 + 1)) := by have h1 := RXr.out.lt; unfold Hid; omega
   clear hgb
   clear hE9x3 hB9x3 hN9x3
   replace QXa := nxq QXa hs rfl; replace IVna := nxv IVna hs rfl; replace IVda := nxv IVda hs rfl
   replace QXb := nxq QXb hs rfl; replace IVnb := nxv IVnb hs rfl; replace IVdb := nxv IVdb hs rfl
   replace QXf := nxq QXf hs rfl; replace IVnf := nxv IVnf hs rfl; replace IVdf := nxv IVdf hs rfl
   replace RXr := Lib.hid (RXr.out.next hs rfl)
   replace DW := nxd DW hg hs rfl rfl rfl rfl
   generalize hsg : decide (((f + ((1 : Int) : Rat)).num : Int) < 0) = snn at *
   clear hsg
   generalize hsg : decide ((((f + ((1 : Int) : Rat)).den : Int) : Int) < 0) = snd at *
   clear hsg
   replace QXn := Lib.hid QXn; replace IVnn := Lib.hid IVnn; replace IVdn := Lib.hid IVdn
   clear hs
   go_upto_region 5 with fail
   have u10a := QXn.out.cell0; have u10b := QXn.out.cell1; have u10c := QXn.out.cell2; have u10d := QXn.out.cell3
   have u11a := QXb.out.cell0; have u11b := QXb.out.cell1; have u11c := QXb.out.cell2; have u11d := QXb.out.cell3
   go_wp2_with fail
   clear u10a u10b u10c u10d u11a u11b u11c u11d
   refine (rqcmp_is _ _ (f + ((1 : Int) : Rat)) b o2 _ (qv_of IVnn.out IVdn.out) ((SF.out.add (Sr.whole (by decide))).mono (by omega)) (qv_of IVnb.out IVdb.out) (SRb.out.mono (by omega)) ho2.out).mono ?_
   rintro e y12 ⟨rfl, hb⟩
   replace QXa := nxq QXa hb rfl; replace IVna := nxv IVna hb rfl; replace IVda := nxv IVda hb rfl
   replace QXb := nxq QXb hb rfl; replace IVnb := nxv IVnb hb rfl; replace IVdb := nxv IVdb hb rfl
   replace QXf := nxq QXf hb rfl; replace IVnf := nxv IVnf hb rfl; replace IVdf := nxv IVdf hb rfl
   replace QXn := nxq QXn hb rfl; replace IVnn := nxv IVnn hb rfl; replace IVdn := nxv IVdn hb rfl
   replace RXr := Lib.hid (RXr.out.next hb rfl)
   replace DW := nxd DW hg hb rfl rfl rfl rfl
   clear hb
   by_cases h2 : F < b.num / b.den
   ·have e2 : decide (o2 ≤ 0) = true := decide_eq_true (Z2.out.2 h2)
    go_upto_region 6 with fail
    have u13a := QXn.out.cell0; have u13b := QXn.out.cell1; have u13c := QXn.out.cell2; have u13d := QXn.out.cell3
    have u14a := RXr.out.cell0; have u14b := RXr.out.cell1; have u14c := RXr.out.cell2; have u14d := RXr.out.cell3; have u14f := RXr.out.frozen 0; have u14g := RXr.out.frozen 1; have u14h := RXr.out.frozen 2; have u14i := RXr.out.frozen 3
    go_wp2
    refine bodyPost_ret (v := .agg #[.bool snn, .slice Xnn pnn qnn, .bool snd, .slice Xnd pnd qnd]) (by simp [results, Tryz.results104, go_sem, u13a, u13b, u13c, u13d, u14a, u14b, u14c, u14d, u14f, u14g, u14h, u14i]) rfl ⟨_, rfl, ?_, by rw [hg.out]; exact (((DW.out.setCell (by simp <;> omega) _).setCell (by simp <;> omega) _).setCell (by simp <;> omega) _).setCell (by simp <;> omega) _⟩
    have hc := chg_qbox (b' := snn) (d' := snd) (A' := Xnn) (n' := pnn) (c' := qnn) (B' := Xnd) (m' := pnd) (e' := qnd) RXr.out
    rw [C2.out h1 h2]
    exact qv_of (IVnn.out.kn hc.kn) (IVdn.out.kn hc.kn)
   ·have e2 : decide (o2 ≤ 0) = false := decide_eq_false (fun h => h2 (Z2.out.1 h))
    obtain ⟨L, H, Y, Z, eL, eH, eY, eZ, eR, hb0, ha0, hy0, SL, SH, SY, hl0, hlh, hN⟩ := C3.out h1 (by omega)
    replace eL := Lib.hid eL; replace eH := Lib.hid eH; replace eY := Lib.hid eY; replace eZ := Lib.hid eZ; replace eR := Lib.hid eR; replace hb0 := Lib.hid hb0; replace ha0 := Lib.hid ha0; replace hy0 := Lib.hid hy0; replace SL := Lib.hid SL; replace SH := Lib.hid SH; replace SY := Lib.hid SY; replace hl0 := Lib.hid hl0; replace hlh := Lib.hid hlh; replace hN := Lib.hid hN
    clear h1 h2 Z1 Z2 C1 C2 C3
    go_upto_region 7 with fail
    clear e2
    have u15a := QXb.out.cell0; have u15b := QXb.out.cell1; have u15c := QXb.out.cell2; have u15d := QXb.out.cell3
    have u16a := QXf.out.cell0; have u16b := QXf.out.cell1; have u16c := QXf.out.cell2; have u16d := QXf.out.cell3
    go_wp2_with fail
    clear u15a u15b u15c u15d u16a u16b u16c u16d
    refine (rqsub_any _ _ b f _ (qv_of IVnb.out IVdb.out) (SRb.out.mono (by omega)) (qv_of IVnf.out IVdf.out) (SF.out.mono (by omega))).mono ?_
    rintro e y17 ⟨_, rfl, hq, hb⟩
    replace hq := Lib.hid hq
    replace QXa := nxq QXa hb rfl; replace IVna := nxv IVna hb rfl; replace IVda := nxv IVda hb rfl
    replace QXb := nxq QXb hb rfl; replace IVnb := nxv IVnb hb rfl; replace IVdb := nxv IVdb hb rfl
    replace QXf := nxq QXf hb rfl; replace IVnf := nxv IVnf hb rfl; replace IVdf := nxv IVdf hb rfl
    replace QXn := nxq QXn hb rfl; replace IVnn := nxv IVnn hb rfl; replace IVdn := nxv IVdn hb rfl
    replace RXr := Lib.hid (RXr.out.next hb rfl)
    replace DW := nxd DW hg hb rfl rfl rfl rfl
    clear hb
    go_wp2_with fail
    refine (rqinv_any _ (b - f) _ hq.out ((Sr.sub SRb.out SF.out).mono (by omega)) hb0.out).mono ?_
    rintro e y78 ⟨_, rfl, hq2, hb⟩
    clear hq
    rw [eL.out] at hq2
    obtain ⟨Xln, pln, qln, Xld, pld, qld, rfl, hln, hld⟩ := hq2
    have Qln := Lib.hid hln; have Qld := Lib.hid hld; clear hln hld
    have B := Lib.hid hb; clear hb
    generalize hs : decide ((L.num : Int) < 0) = sln at *
    clear hs
    generalize hs : decide (((L.den : Int) : Int) < 0) = sld at *
    clear hs
    go_upto_region 8 with fail
    obtain ⟨W18, hW⟩ : ∃ W18, W18 = y78.alloc (Obj.cells #[Value.bool sln, Value.slice Xln pln qln, Value.bool sld, Value.slice Xld pld qld] 31) := ⟨_, rfl⟩
    rw [← hW]
    have QXl : Hid (QBox W18 y78.heap.size sln (.slice Xln pln qln) sld (.slice Xld pld qld)) := by rw [hW]; exact QBox.new _ _ _ _ _
    have IVnl : Hid (Iv W18 (.agg #[.bool sln, .slice Xln pln qln]) (L.num)) := by rw [hW]; exact Qln.out.alloc _
    have IVdl : Hid (Iv W18 (.agg #[.bool sld, .slice Xld pld qld]) ((L.den : Int))) := by rw [hW]; exact Qld.out.alloc _
    have hd : Below y17.heap.size y17 W18 := by rw [hW]; exact B.out.alloc (by have := B.out.size; omega) _
    have NElr : Hid (y78.heap.size ≠ (g + 1 + 1)) := by have := RXr.out.lt; have := B.out.size; unfold Hid; omega
    clear hW B Qln Qld
    generalize hgn18 : y78.heap.size = gl at *
    clear hgn18
    replace QXa := nxq QXa hd rfl; replace IVna := nxv IVna hd rfl; replace IVda := nxv IVda hd rfl
    replace QXb := nxq QXb hd rfl; replace IVnb := nxv IVnb hd rfl; replace IVdb := nxv IVdb hd rfl
    replace QXf := nxq QXf hd rfl; replace IVnf := nxv IVnf hd rfl; replace IVdf := nxv IVdf hd rfl
    replace QXn := nxq QXn hd rfl; replace IVnn := nxv IVnn hd rfl; replace IVdn := nxv IVdn hd rfl
    replace RXr := Lib.hid (RXr.out.next hd rfl)
    replace DW := nxd DW hg hd rfl rfl rfl rfl
    clear hd
    have u19a := QXa.out.cell0; have u19b := QXa.out.cell1; have u19c := QXa.out.cell2; have u19d := QXa.out.cell3
    have u20a := QXf.out.cell0; have u20b := QXf.out.cell1; have u20c := QXf.out.cell2; have u20d := QXf.out.cell3
    go_wp2_with fail
    clear u19a u19b u19c u19d u20a u20b u20c u20d
    refine (rqsub_any _ _ a f _ (qv_of IVna.out IVda.out) (SRa.out.mono (by omega)) (qv_of IVnf.out IVdf.out) (SF.out.mono (by omega))).mono ?_
    rintro e y21 ⟨_, rfl, hq, hb⟩
    replace hq := Lib.hid hq
    replace QXa := nxq QXa hb rfl; replace IVna := nxv IVna hb rfl; replace IVda := nxv IVda hb rfl
    replace QXb := nxq QXb hb rfl; replace IVnb := nxv IVnb hb rfl; replace IVdb := nxv IVdb hb rfl
    replace QXf := nxq QXf hb rfl; replace IVnf := nxv IVnf hb rfl; replace IVdf := nxv IVdf hb rfl
    replace QXn := nxq QXn hb rfl; replace IVnn := nxv IVnn hb rfl; replace IVdn := nxv IVdn hb rfl
    replace QXl := nxq QXl hb rfl; replace IVnl := nxv IVnl hb rfl; replace IVdl := nxv IVdl hb rfl
    replace RXr := Lib.hid (RXr.out.next hb rfl)
    replace DW := nxd DW hg hb rfl rfl rfl rfl
    clear hb
    go_wp2_with fail
    refine (rqinv_any _ (a - f) _ hq.out ((Sr.sub SRa.out SF.out).mono (by omega)) ha0.out).mono ?_
    rintro e y79 ⟨_, rfl, hq2, hb⟩
    clear hq
    rw [eH.out] at hq2
    obtain ⟨Xhn, phn, qhn, Xhd, phd, qhd, rfl, hhn, hhd⟩ := hq2
    have Qhn := Lib.hid hhn; have Qhd := Lib.hid hhd; clear hhn hhd
    have B := Lib.hid hb; clear hb
    generalize hs : decide ((H.num : Int) < 0) = shn at *
    clear hs
    generalize hs : decide (((H.den : Int) : Int) < 0) = shd at *
    clear hs
    go_upto_region 9 with fail
    obtain ⟨W22, hW⟩ : ∃ W22, W22 = y79.alloc (Obj.cells #[Value.bool shn, Value.slice Xhn phn qhn, Value.bool shd, Value.slice Xhd phd qhd] 31) := ⟨_, rfl⟩
    rw [← hW]
    have QXh : Hid (QBox W22 y79.heap.size shn (.slice Xhn phn qhn) shd (.slice Xhd phd qhd)) := by rw [hW]; exact QBox.new _ _ _ _ _
    have IVnh : Hid (Iv W22 (.agg #[.bool shn, .slice Xhn phn qhn]) (H.num)) := by rw [hW]; exact Qhn.out.alloc _
    have IVdh : Hid (Iv W22 (.agg #[.bool shd, .slice Xhd phd qhd]) ((H.den : Int))) := by rw [hW]; exact Qhd.out.alloc _
    have hd : Below y21.heap.size y21 W22 := by rw [hW]; exact B.out.alloc (by have := B.out.size; omega) _
    have NEhr : Hid (y79.heap.size ≠ (g + 1 + 1)) := by have := RXr.out.lt; have := B.out.size; unfold Hid; omega
    clear hW B Qhn Qhd
    generalize hgn22 : y79.heap.size = gh at *
    clear hgn22
    replace QXa := nxq QXa hd rfl; replace IVna := nxv IVna hd rfl; replace IVda := nxv IVda hd rfl
    replace QXb := nxq QXb hd rfl; replace IVnb := nxv IVnb hd rfl; replace IVdb := nxv IVdb hd rfl
    replace QXf := nxq QXf hd rfl; replace IVnf := nxv IVnf hd rfl; replace IVdf := nxv IVdf hd rfl
    replace QXn := nxq QXn hd rfl; replace IVnn := nxv IVnn hd rfl; replace IVdn := nxv IVdn hd rfl
    replace QXl := nxq QXl hd rfl; replace IVnl := nxv IVnl hd rfl; replace IVdl := nxv IVdl hd rfl
    replace RXr := Lib.hid (RXr.out.next hd rfl)
    replace DW := nxd DW hg hd rfl rfl rfl rfl
    clear hd
    have u23a := QXl.out.cell0; have u23b := QXl.out.cell1; have u23c := QXl.out.cell2; have u23d := QXl.out.cell3
    have u24a := QXh.out.cell0; have u24b := QXh.out.cell1; have u24c := QXh.out.cell2; have u24d := QXh.out.cell3
    go_wp2_with fail
    clear u23a u23b u23c u23d u24a u24b u24c u24d
    refine (eY.out ▸ ih _ _ L H _ (qv_of IVnl.out IVdl.out) SL.out (qv_of IVnh.out IVdh.out) SH.out hl0.out hlh.out hN.out).mono ?_
    rintro e y25 ⟨_, rfl, hq, hb⟩
    replace hq := Lib.hid hq
    replace QXa := nxq QXa hb rfl; replace IVna := nxv IVna hb rfl; replace IVda := nxv IVda hb rfl
    replace QXb := nxq QXb hb rfl; replace IVnb := nxv IVnb hb rfl; replace IVdb := nxv IVdb hb rfl
    replace QXf := nxq QXf hb rfl; replace IVnf := nxv IVnf hb rfl; replace IVdf := nxv IVdf hb rfl
    replace QXn := nxq QXn hb rfl; replace IVnn := nxv IVnn hb rfl; replace IVdn := nxv IVdn hb rfl
    replace QXl := nxq QXl hb rfl; replace IVnl := nxv IVnl hb rfl; replace IVdl := nxv IVdl hb rfl
    replace QXh := nxq QXh hb rfl; replace IVnh := nxv IVnh hb rfl; replace IVdh := nxv IVdh hb rfl
    replace RXr := Lib.hid (RXr.out.next hb rfl)
    replace DW := nxd DW hg hb rfl rfl rfl rfl
    clear hb
    go_wp2_with fail
    refine (rqinv_any _ Y _ hq.out (SY.out.mono (by omega)) hy0.out).mono ?_
    rintro e y80 ⟨_, rfl, hq2, hb⟩
    clear hq
    rw [eZ.out] at hq2
    obtain ⟨Xin, pin, qin, Xid, pid, qid, rfl, hin, hid⟩ := hq2
    have Qin := Lib.hid hin; have Qid := Lib.hid hid; clear hin hid
    have B := Lib.hid hb; clear hb
    generalize hs : decide ((Z.num : Int) < 0) = sin at *
    clear hs
    generalize hs : decide (((Z.den : Int) : Int) < 0) = sid at *
    clear hs
    go_upto_region 10 with fail
    obtain ⟨W26, hW⟩ : ∃ W26, W26 = y80.alloc (Obj.cells #[Value.bool sin, Value.slice Xin pin qin, Value.bool sid, Value.slice Xid pid qid] 31) := ⟨_, rfl⟩
    rw [← hW]
    have QXi : Hid (QBox W26 y80.heap.size sin (.slice Xin pin qin) sid (.slice Xid pid qid)) := by rw [hW]; exact QBox.new _ _ _ _ _
    have IVni : Hid (Iv W26 (.agg #[.bool sin, .slice Xin pin qin]) (Z.num)) := by rw [hW]; exact Qin.out.alloc _
    have IVdi : Hid (Iv W26 (.agg #[.bool sid, .slice Xid pid qid]) ((Z.den : Int))) := by rw [hW]; exact Qid.out.alloc _
    have hd : Below y25.heap.size y25 W26 := by rw [hW]; exact B.out.alloc (by have := B.out.size; omega) _
    have NEir : Hid (y80.heap.size ≠ (g + 1 + 1)) := by have := RXr.out.lt; have := B.out.size; unfold Hid; omega
    clear hW B Qin Qid
    generalize hgn26 : y80.heap.size = gi at *
    clear hgn26
    replace QXa := nxq QXa hd rfl; replace IVna := nxv IVna hd rfl; replace IVda := nxv IVda hd rfl
    replace QXb := nxq QXb hd rfl; replace IVnb := nxv IVnb hd rfl; replace IVdb := nxv IVdb hd rfl
    replace QXf := nxq QXf hd rfl; replace IVnf := nxv IVnf hd rfl; replace IVdf := nxv IVdf hd rfl
    replace QXn := nxq QXn hd rfl; replace IVnn := nxv IVnn hd rfl; replace IVdn := nxv IVdn hd rfl
    replace QXl := nxq QXl hd rfl; replace IVnl := nxv IVnl hd rfl; replace IVdl := nxv IVdl hd rfl
    replace QXh := nxq QXh hd rfl; replace IVnh := nxv IVnh hd rfl; replace IVdh := nxv IVdh hd rfl
    replace RXr := Lib.hid (RXr.out.next hd rfl)
    replace DW := nxd DW hg hd rfl rfl rfl rfl
    clear hd
    have u27a := QXf.out.cell0; have u27b := QXf.out.cell1; have u27c := QXf.out.cell2; have u27d := QXf.out.cell3
    have u28a := QXi.out.cell0; have u28b := QXi.out.cell1; have u28c := QXi.out.cell2; have u28d := QXi.out.cell3
    go_wp2_with fail
    clear u27a u27b u27c u27d u28a u28b u28c u28d
    refine (rqadd_any _ _ f Z _ (qv_of IVnf.out IVdf.out) (SF.out.mono (by omega)) (qv_of IVni.out IVdi.out) (eZ.out ▸ (SY.out.inv (by omega)).mono (by omega))).mono ?_
    rintro e y29 ⟨_, rfl, hq, hb⟩
    obtain ⟨Xz, pz, qz, Yz, uz, tz, rfl, k1, k2⟩ := hq
    replace k1 := Lib.hid k1; replace k2 := Lib.hid k2
    replace QXa := nxq QXa hb rfl; replace IVna := nxv IVna hb rfl; replace IVda := nxv IVda hb rfl
    replace QXb := nxq QXb hb rfl; replace IVnb := nxv IVnb hb rfl; replace IVdb := nxv IVdb hb rfl
    replace QXf := nxq QXf hb rfl; replace IVnf := nxv IVnf hb rfl; replace IVdf := nxv IVdf hb rfl
    replace QXn := nxq QXn hb rfl; replace IVnn := nxv IVnn hb rfl; replace IVdn := nxv IVdn hb rfl
    replace QXl := nxq QXl hb rfl; replace IVnl := nxv IVnl hb rfl; replace IVdl := nxv IVdl hb rfl
    replace QXh := nxq QXh hb rfl; replace IVnh := nxv IVnh hb rfl; replace IVdh := nxv IVdh hb rfl
    replace QXi := nxq QXi hb rfl; replace IVni := nxv IVni hb rfl; replace IVdi := nxv IVdi hb rfl
    replace RXr := Lib.hid (RXr.out.next hb rfl)
    replace DW := nxd DW hg hb rfl rfl rfl rfl
    clear hb
    generalize hs1 : decide (((f + Z).num : Int) < 0) = s1 at *
    generalize hs2 : decide ((((f + Z).den : Int) : Int) < 0) = s2 at *
    clear hs1 hs2
    have u30a := RXr.out.cell0; have u30b := RXr.out.cell1; have u30c := RXr.out.cell2; have u30d := RXr.out.cell3; have u30f := RXr.out.frozen 0; have u30g := RXr.out.frozen 1; have u30h := RXr.out.frozen 2; have u30i := RXr.out.frozen 3
    go_wp2
    refine bodyPost_ret (v := .agg #[.bool s1, .slice Xz pz qz, .bool s2, .slice Yz uz tz]) (by simp [results, Tryz.results104, go_sem, u30a, u30b, u30c, u30d, u30f, u30g, u30h, u30i]) rfl ⟨_, rfl, ?_, by rw [hg.out]; exact (((DW.out.setCell (by simp <;> omega) _).setCell (by simp <;> omega) _).setCell (by simp <;> omega) _).setCell (by simp <;> omega) _⟩
    have hc := chg_qbox (b' := s1) (d' := s2) (A' := Xz) (n' := pz) (c' := qz) (B' := Yz) (m' := uz) (e' := tz) RXr.out
    rw [eR.out]
    exact qv_of (k1.out.kn hc.kn) (k2.out.kn hc.kn)
end Go.Proofs.YtfigimfdojbkeaaGreat
