/-
  The program's functions on fractions.
-/
import Derived.Test.YtfigimfdojbkeaaRatD
import Derived.Test.YtfigimfdojbkeaaRatE
import Derived.Deep.DeepCutAuto
import Derived.Handy
set_option linter.unusedSimpArgs false
set_option linter.unusedVariables false
namespace Go.Proofs.Ytfigimfdojbkeaa
open Go.RowKit
attribute [local go_sem ↓] Go.wp_at_zero Go.wp_at_succ

/-- The numbers of a fraction have at most N words. -/
structure Sr (q : Rat) (N : Nat) : Prop where
  num : Sz q.num N
  den : Sz (q.den : Int) N
theorem Sr.mono {q : Rat} {N M : Nat} (h : Sr q N) (k : N ≤ M) : Sr q M := ⟨h.num.mono k, h.den.mono k⟩
theorem rneg_den (a : Rat) : (-a).den = a.den := rfl
theorem Sr.neg {a : Rat} {N : Nat} (h : Sr a N) : Sr (-a) N := ⟨by rw [Rat.neg_num]; exact h.num.neg, h.den⟩
theorem Sz.divs {a b : Int} {N : Nat} (h : Sz a N) : Sz (a / b) N := ⟨Nat.lt_of_le_of_lt (Int.natAbs_ediv_le_natAbs a b) h.lt⟩
theorem Sr.mul {a b : Rat} {N M : Nat} (h : Sr a N) (k : Sr b M) : Sr (a * b) (N + M) := by
  refine ⟨?_, ?_⟩
  · rw [Rat.num_mul]; exact (h.num.mul k.num).divs
  · rw [Rat.den_mul, Int.natCast_ediv, Int.natCast_mul]; exact (h.den.mul k.den).divs
theorem Sr.add {a b : Rat} {N M : Nat} (h : Sr a N) (k : Sr b M) : Sr (a + b) (N + M + 1) := by
  refine ⟨?_, ?_⟩
  · rw [Rat.num_add]; exact (Sz.add (h.num.mul k.den) ((k.num.mul h.den).mono (by omega))).divs
  · rw [Rat.den_add, Int.natCast_ediv, Int.natCast_mul]; exact ((h.den.mul k.den).divs).mono (by omega)
theorem Sr.inv {a : Rat} {N : Nat} (h : Sr a N) (hp : 0 < N) : Sr a⁻¹ N := by
  refine ⟨⟨?_⟩, ⟨?_⟩⟩
  · rw [Rat.num_inv, Int.natAbs_mul]
    have h1 : a.num.sign.natAbs ≤ 1 := by rcases Int.lt_trichotomy a.num 0 with h | h | h <;> simp [Int.sign_eq_neg_one_of_neg, Int.sign_eq_one_of_pos, h]
    exact Nat.lt_of_le_of_lt (Nat.le_trans (Nat.mul_le_mul_right _ h1) (by omega)) h.den.lt
  · rw [Rat.den_inv]
    split
    · have := pw_le (show 0 + 1 ≤ N by omega); simp [pw] at this ⊢; omega
    · rw [Int.natAbs_natCast]; exact h.num.lt
theorem den_cast (a : Rat) : 0 < (a.den : Int) := by have := rat_pos a; omega

theorem qneg_any (va : Value) (a : Rat) (w : World) (ha : Qv w va a.num a.den) (sa : Sr a 100000) : Calls Try.prog 196 #[va] w (RetQ (-a).num (-a).den w) := by
  rw [Rat.neg_num, rneg_den]
  exact qneg_at va a.num a.den w ha sa.num sa.den (den_cast a)
theorem qmul_any (va vb : Value) (a b : Rat) (w : World) (ha : Qv w va a.num a.den) (hb : Qv w vb b.num b.den) (sa : Sr a 100000) (sb : Sr b 100000) : Calls Try.prog 183 #[va, vb] w (RetQ (a * b).num (a * b).den w) := by
  have h := qmul_at va vb a.num a.den b.num b.den w ha sa.num sa.den (den_cast a) hb sb.num sb.den (den_cast b)
  rw [rmul_num, rmul_den, Int.natCast_mul, Int.natCast_ediv, Int.natCast_ediv]
  simpa using h
theorem qadd_any (va vb : Value) (a b : Rat) (w : World) (ha : Qv w va a.num a.den) (hb : Qv w vb b.num b.den) (sa : Sr a 100000) (sb : Sr b 100000) : Calls Try.prog 195 #[va, vb] w (RetQ (a + b).num (a + b).den w) := by
  refine qadd_at va vb a.num a.den b.num b.den _ _ w ha sa.num sa.den (den_cast a) hb sb.num sb.den (den_cast b) (fun h => ?_) (fun h x y n k ex ey en ek => ?_)
  · simp only [Int.natAbs_natCast] at h
    exact ⟨radd_num1 a b h, by rw [radd_den1 a b h, Int.natCast_mul]⟩
  · simp only [Int.natAbs_natCast] at h ex ey ek ⊢
    have e1 : x = ((a.den / Nat.gcd a.den b.den : Nat) : Int) := by rw [ex, Int.natCast_ediv]
    have e2 : y = ((b.den / Nat.gcd a.den b.den : Nat) : Int) := by rw [ey, Int.natCast_ediv]
    subst e1 e2 en ek
    exact ⟨radd_num2 a b h, by rw [radd_den2 a b h]; simp only [Int.natCast_mul, Int.natCast_ediv]⟩


set_option maxHeartbeats 8000000 in
set_option maxRecDepth 100000 in
theorem qsub_any (va vb : Value) (a b : Rat) (w : World) (ha : Qv w va a.num a.den) (sa : Sr a 100000) (hb : Qv w vb b.num b.den) (sb : Sr b 100000) : Calls Try.prog 182 #[va, vb] w (RetQ (a - b).num (a - b).den w) := by
  rw [Rat.sub_eq_add_neg]
  obtain ⟨Xan, pan, qan, Xad, pad, qad, rfl, han, had⟩ := ha
  have Han := Lib.hid han
  have Had := Lib.hid had
  have SRa := Lib.hid sa
  clear han had sa
  generalize hs : decide (a.num < 0) = san at *
  clear hs
  generalize hs : decide ((a.den : Int) < 0) = sad at *
  clear hs
  obtain ⟨Xbn, pbn, qbn, Xbd, pbd, qbd, rfl, hbn, hbd⟩ := hb
  have Hbn := Lib.hid hbn
  have Hbd := Lib.hid hbd
  have SRb := Lib.hid sb
  clear hbn hbd sb
  generalize hs : decide (b.num < 0) = sbn at *
  clear hs
  generalize hs : decide ((b.den : Int) < 0) = sbd at *
  clear hs

  go_enter Try.func182, Try.ntmps182
  go_wp2_with fail
  obtain ⟨W, hW⟩ : ∃ W, W = (((w.alloc (Obj.cells #[Value.bool san, Value.slice Xan pan qan, Value.bool sad, Value.slice Xad pad qad] 60)).alloc (Obj.cells #[Value.bool sbn, Value.slice Xbn pbn qbn, Value.bool sbd, Value.slice Xbd pbd qbd] 60)).alloc (Obj.cells #[Value.bool false, Value.slice none 0 0, Value.bool false, Value.slice none 0 0] 60)) := ⟨_, rfl⟩
  rw [← hW]
  have QXa : Hid (QBox W (w.heap.size) san (.slice Xan pan qan) sad (.slice Xad pad qad)) := by rw [hW]; have := ((QBox.new w san (Value.slice Xan pan qan) sad (Value.slice Xad pad qad)).alloc (Obj.cells #[Value.bool sbn, Value.slice Xbn pbn qbn, Value.bool sbd, Value.slice Xbd pbd qbd] 60)).alloc (Obj.cells #[Value.bool false, Value.slice none 0 0, Value.bool false, Value.slice none 0 0] 60); simpa [Hid] using this
  have QXb : Hid (QBox W (w.heap.size + 1) sbn (.slice Xbn pbn qbn) sbd (.slice Xbd pbd qbd)) := by rw [hW]; have := (QBox.new (w.alloc (Obj.cells #[Value.bool san, Value.slice Xan pan qan, Value.bool sad, Value.slice Xad pad qad] 60)) sbn (Value.slice Xbn pbn qbn) sbd (Value.slice Xbd pbd qbd)).alloc (Obj.cells #[Value.bool false, Value.slice none 0 0, Value.bool false, Value.slice none 0 0] 60); simpa [Hid] using this
  have RXr : Hid (QBox W (w.heap.size + 1 + 1) false (.slice none 0 0) false (.slice none 0 0)) := by rw [hW]; have := QBox.new ((w.alloc (Obj.cells #[Value.bool san, Value.slice Xan pan qan, Value.bool sad, Value.slice Xad pad qad] 60)).alloc (Obj.cells #[Value.bool sbn, Value.slice Xbn pbn qbn, Value.bool sbd, Value.slice Xbd pbd qbd] 60)) false (Value.slice none 0 0) false (Value.slice none 0 0); simpa [Hid] using this
  have IVna : Hid (Iv W (.agg #[.bool san, .slice Xan pan qan]) (a.num)) := by rw [hW]; exact (((Han.out).alloc _).alloc _).alloc _
  have IVda : Hid (Iv W (.agg #[.bool sad, .slice Xad pad qad]) ((a.den : Int))) := by rw [hW]; exact (((Had.out).alloc _).alloc _).alloc _
  have IVnb : Hid (Iv W (.agg #[.bool sbn, .slice Xbn pbn qbn]) (b.num)) := by rw [hW]; exact (((Hbn.out).alloc _).alloc _).alloc _
  have IVdb : Hid (Iv W (.agg #[.bool sbd, .slice Xbd pbd qbd]) ((b.den : Int))) := by rw [hW]; exact (((Hbd.out).alloc _).alloc _).alloc _
  have DW : Hid (Below w.heap.size w W) := by rw [hW]; exact (((Below.refl _ _).alloc (by simp <;> omega) _).alloc (by simp <;> omega) _).alloc (by simp <;> omega) _
  clear hW
  generalize hg : w.heap.size = g at *
  replace hg := Lib.hid hg
  go_upto_region 1 with fail
  have QVa : Hid (Qv W (.agg #[.bool san, .slice Xan pan qan, .bool sad, .slice Xad pad qad]) (a.num) ((a.den : Int))) := qv_of IVna.out IVda.out
  have QVb : Hid (Qv W (.agg #[.bool sbn, .slice Xbn pbn qbn, .bool sbd, .slice Xbd pbd qbd]) (b.num) ((b.den : Int))) := qv_of IVnb.out IVdb.out
  refine Rg.region_gg W [.is (.agg #[.bool san, .slice Xan pan qan, .bool sad, .slice Xad pad qad]), .is (.agg #[.bool sbn, .slice Xbn pbn qbn, .bool sbd, .slice Xbd pbd qbd]), .sat (pQv ((-b).num) (((-b).den : Int))) (pQv_keep _ _), .sat (pQv ((a + -b).num) (((a + -b).den : Int))) (pQv_keep _ _), .sto (g + 1 + 1) (sQ (g + 1 + 1) ((a + -b).num) (((a + -b).den : Int))) (sQ_keep _ _ _)] [(g + 1 + 1)] [some 5, some 6, some 7, some 8, none] (by kernel_rfl) (by kernel_rfl) (by kernel_rfl) (by kernel_rfl) (by kernel_rfl) (by simp [Rg.stos]) (by rfl) (by rfl) (by kernel_rfl) (by intro g hg; simp only [List.mem_cons, List.not_mem_nil, or_false] at hg; subst hg; exact RXr.out.lt) ((Below.refl _ _).drew) (fun Q' => ?_) (fun K hK wn hs => ?_)
  · refine ⟨?_, ?_, ?_, ?_, ?_, trivial⟩
    · intro a' w' ha hs hw hold
      have eo2 : a'.tmps[2]? = some (ptr g) := (ha.rest 2 (by kernel_rfl)).trans rfl
      exact ⟨rfl, .inl ⟨wanted_none rfl, wp_val (run_qload rfl (ev_tmp eo2) (QXa.out.bel hs (by simp only [List.mem_cons, List.not_mem_nil, or_false, not_or]; exact (by omega)))) ⟨rfl, Below.refl _ _⟩⟩⟩
    · intro a' w' ha hs hw hold
      have eo3 : a'.tmps[3]? = some (ptr (g + 1)) := (ha.rest 3 (by kernel_rfl)).trans rfl
      exact ⟨rfl, .inl ⟨wanted_none rfl, wp_val (run_qload rfl (ev_tmp eo3) (QXb.out.bel hs (by simp only [List.mem_cons, List.not_mem_nil, or_false, not_or]; exact (by omega)))) ⟨rfl, Below.refl _ _⟩⟩⟩
    · intro a' w' ha hs hw hold
      have e1 : a'.tmps[6]? = some (.agg #[.bool sbn, .slice Xbn pbn qbn, .bool sbd, .slice Xbd pbd qbd]) := Rg.slot_get rfl rfl (hw 1 (by kernel_rfl) _ rfl)
      exact ⟨rfl, wanted_none rfl, call_step rfl Try.func196 (by kernel_rfl) rfl (map_one (ev_tmp e1)) (qneg_any _ b _ (QVb.out.kn hs.kn) SRb.out) (fun e w2 he => by obtain ⟨v, rfl, hv, hb⟩ := he; exact ⟨v, rfl, v, rfl, hv, hb⟩)⟩
    · intro a' w' ha hs hw hold
      have e0 : a'.tmps[5]? = some (.agg #[.bool san, .slice Xan pan qan, .bool sad, .slice Xad pad qad]) := Rg.slot_get rfl rfl (hw 0 (by kernel_rfl) _ rfl)
      obtain ⟨v2, e2, q2⟩ := hw 2 (by kernel_rfl) _ rfl
      replace e2 : a'.tmps[7]? = some v2 := Rg.slot_get rfl rfl e2
      exact ⟨rfl, wanted_none rfl, call_step rfl Try.func195 (by kernel_rfl) rfl (map_two (ev_tmp e0) (ev_tmp e2)) (qadd_any _ _ a (-b) _ (QVa.out.kn hs.kn) q2 SRa.out SRb.out.neg) (fun e w2 he => by obtain ⟨v, rfl, hv, hb⟩ := he; exact ⟨v, rfl, v, rfl, hv, hb⟩)⟩
    · intro a' w' ha hs hw hold
      obtain ⟨v3, e3, q3⟩ := hw 3 (by kernel_rfl) _ rfl
      replace e3 : a'.tmps[8]? = some v3 := Rg.slot_get rfl rfl e3
      have eo4 : a'.tmps[4]? = some (ptr (g + 1 + 1)) := (ha.rest 4 (by kernel_rfl)).trans rfl
      exact ⟨rfl, wanted_none rfl, fun he => step_stoq rfl rfl (ev_tmp eo4) (ev_tmp e3) q3 RXr.out he⟩
  simp only [Rg.allG]
  intro r1x2 _
  intro r1x3 _
  intro hSr
  simp only [setOpt, Rg.setOpt, List.set_cons_succ, List.set_cons_zero]
  refine hK _ _ ?_
  clear hK K
  have DN : Hid (Below g w wn) := hs.base DW.out (by have := hg.out; omega) (by simp only [List.mem_cons, List.not_mem_nil, or_false]; omega)
  obtain ⟨Ar, ir, cr, Br, jr, dr, hcr, hir, hjr⟩ := hSr
  have kra := hcr.cell0; have krb := hcr.cell1; have krc := hcr.cell2; have krd := hcr.cell3
  have HIr := Lib.hid hir; clear hir
  have HJr := Lib.hid hjr; clear hjr
  go_wp2
  exact bodyPost_ret (v := .agg #[.bool (decide ((a + -b).num < 0)), .slice Ar ir cr, .bool (decide (((a + -b).den : Int) < 0)), .slice Br jr dr]) (by simp [results, Try.results182, go_sem, kra, krb, krc, krd]) rfl ⟨_, rfl, ⟨Ar, ir, cr, Br, jr, dr, rfl, HIr.out, HJr.out⟩, by rw [hg.out]; exact DN.out⟩

set_option maxHeartbeats 8000000 in
set_option maxRecDepth 100000 in
theorem qsign_any (va : Value) (a : Rat) (w : World) (ha : Qv w va a.num a.den) (sa : Sr a 1000000) : Calls Try.prog 173 #[va] w (RetV (.int .i64 (sg a.num)) w) := by
  obtain ⟨Xan, pan, qan, Xad, pad, qad, rfl, han, had⟩ := ha
  have Han := Lib.hid han
  have Had := Lib.hid had
  have SRa := Lib.hid sa
  clear han had sa
  generalize hs : decide (a.num < 0) = san at *
  clear hs
  generalize hs : decide ((a.den : Int) < 0) = sad at *
  clear hs

  go_enter Try.func173, Try.ntmps173
  go_wp2_with fail
  obtain ⟨W, hW⟩ : ∃ W, W = (w.alloc (Obj.cells #[Value.bool san, Value.slice Xan pan qan, Value.bool sad, Value.slice Xad pad qad] 60)) := ⟨_, rfl⟩
  rw [← hW]
  have QXa : Hid (QBox W (w.heap.size) san (.slice Xan pan qan) sad (.slice Xad pad qad)) := by rw [hW]; have := QBox.new w san (Value.slice Xan pan qan) sad (Value.slice Xad pad qad); simpa [Hid] using this
  have IVna : Hid (Iv W (.agg #[.bool san, .slice Xan pan qan]) (a.num)) := by rw [hW]; exact (Han.out).alloc _
  have IVda : Hid (Iv W (.agg #[.bool sad, .slice Xad pad qad]) ((a.den : Int))) := by rw [hW]; exact (Had.out).alloc _
  have DW : Hid (Below w.heap.size w W) := by rw [hW]; exact (Below.refl _ _).alloc (by simp <;> omega) _
  clear hW
  generalize hg : w.heap.size = g at *
  replace hg := Lib.hid hg
  go_upto_region 1 with fail
  have u1a := QXa.out.cell0; have u1b := QXa.out.cell1; have u1c := QXa.out.cell2; have u1d := QXa.out.cell3
  go_wp2_with fail
  clear u1a u1b u1c u1d
  refine (sign_any _ a.num _ IVna.out SRa.out.num).mono ?_
  rintro e y2 ⟨rfl, hb⟩
  replace QXa := nxq QXa hb rfl; replace IVna := nxv IVna hb rfl; replace IVda := nxv IVda hb rfl
  replace DW := nxd DW hg hb rfl rfl rfl rfl
  clear hb
  go_wp2
  go_ret
  exact ⟨rfl, by rw [hg.out]; exact DW.out⟩

set_option maxHeartbeats 8000000 in
set_option maxRecDepth 100000 in
theorem whole_any (z : Int) (w : World) (h1 : -9223372036854775808 ≤ z) (h2 : z ≤ 9223372036854775807) : Calls Try.prog 180 #[.int .i64 z] w (RetQ (z : Rat).num (z : Rat).den w) := by
  rw [Rat.num_intCast, Rat.den_intCast]
  have HZ : Hid (-9223372036854775808 ≤ z ∧ z ≤ 9223372036854775807) := ⟨h1, h2⟩
  clear h1 h2
  go_enter Try.func180, Try.ntmps180
  go_wp2_with fail
  obtain ⟨W, hW⟩ : ∃ W, W = (w.alloc (Obj.cells #[Value.bool false, Value.slice none 0 0, Value.bool false, Value.slice none 0 0] 60)) := ⟨_, rfl⟩
  rw [← hW]
  have RXr : Hid (QBox W (w.heap.size) false (.slice none 0 0) false (.slice none 0 0)) := by rw [hW]; have := QBox.new w false (Value.slice none 0 0) false (Value.slice none 0 0); simpa [Hid] using this
  have DW : Hid (Below w.heap.size w W) := by rw [hW]; exact (Below.refl _ _).alloc (by simp <;> omega) _
  clear hW
  generalize hg : w.heap.size = g at *
  replace hg := Lib.hid hg
  go_wp2_with fail
  refine (of_any z _ HZ.out.1 HZ.out.2).mono ?_
  rintro e y1 ⟨v1, rfl, hv1, hb⟩
  have HV1 := Lib.hid hv1; clear hv1
  replace RXr := Lib.hid (RXr.out.next hb rfl)
  replace DW := nxd DW hg hb rfl rfl rfl rfl
  clear hb
  go_wp2_with fail
  refine (of_any 1 _ (by omega) (by omega)).mono ?_
  rintro e y2 ⟨v2, rfl, hv2, hb⟩
  obtain ⟨A2, n2, c2, rfl, _, _, _⟩ := hv2.form
  have HV2 := Lib.hid hv2; clear hv2
  replace HV1 := Lib.hid (iv_next HV1.out hb rfl)
  obtain ⟨A1, n1, c1, rfl, _, _, _⟩ := HV1.out.form
  replace RXr := Lib.hid (RXr.out.next hb rfl)
  replace DW := nxd DW hg hb rfl rfl rfl rfl
  clear hb
  generalize hs1 : decide (z < 0) = s1 at *
  replace hs1 := Lib.hid hs1
  have e2 : decide ((1 : Int) < 0) = false := by decide
  rw [e2] at HV2
  rw [e2]
  have u1a := RXr.out.cell0; have u1b := RXr.out.cell1; have u1c := RXr.out.cell2; have u1d := RXr.out.cell3; have u1f := RXr.out.frozen 0; have u1g := RXr.out.frozen 1; have u1h := RXr.out.frozen 2; have u1i := RXr.out.frozen 3
  go_wp2
  refine bodyPost_ret (v := .agg #[.bool s1, .slice A1 n1 c1, .bool false, .slice A2 n2 c2]) (by simp [results, Try.results180, go_sem, u1a, u1b, u1c, u1d, u1f, u1g, u1h, u1i]) rfl ⟨_, rfl, ?_, by rw [hg.out]; exact (((DW.out.setCell (by simp <;> omega) _).setCell (by simp <;> omega) _).setCell (by simp <;> omega) _).setCell (by simp <;> omega) _⟩
  have hc := chg_qbox (b' := s1) (d' := false) (A' := A1) (n' := n1) (c' := c1) (B' := A2) (m' := n2) (e' := c2) RXr.out
  exact qv_of (HV1.out.kn hc.kn) (HV2.out.kn hc.kn)
end Go.Proofs.Ytfigimfdojbkeaa

