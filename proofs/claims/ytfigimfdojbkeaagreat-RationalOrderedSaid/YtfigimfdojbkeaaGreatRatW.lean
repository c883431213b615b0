/-
  Layer 2's law of the order.
-/
import Derived.Test.YtfigimfdojbkeaaGreatRatU
import Derived.Test.YtfigimfdojbkeaaGreatRegE
import Derived.Deep.DeepCutAuto
import Derived.Handy
namespace Go.Proofs.YtfigimfdojbkeaaGreat
open Go.RowKit
attribute [local go_sem ↓] Go.wp_at_zero Go.wp_at_succ

def cq (a b : Rat) : Int := cmpZ (a.num * b.den) (b.num * a.den)
theorem cq_lt {a b : Rat} (h : a < b) : cq a b = -1 := cmpZ_lt ((Rat.lt_iff a b).1 h)
theorem cq_gt {a b : Rat} (h : b < a) : cq a b = 1 := cmpZ_gt ((Rat.lt_iff b a).1 h)
theorem cq_eq {a b : Rat} (h : a = b) : cq a b = 0 := cmpZ_eq (by rw [h])
theorem tri (a b : Rat) : a < b ∨ a = b ∨ b < a := by grind
theorem sg_cq (a : Rat) : sg a.num = cq a 0 := by
  have h : cq a 0 = cmpZ (a.num * ((1 : Nat) : Int)) (0 * (a.den : Int)) := rfl
  rw [h, Int.zero_mul, cmpZ_zero]
  simp
theorem cq_cases (a b : Rat) : cq a b = -1 ∨ cq a b = 0 ∨ cq a b = 1 := by
  rcases tri a b with h | h | h
  · exact .inl (cq_lt h)
  · exact .inr (.inl (cq_eq h))
  · exact .inr (.inr (cq_gt h))
theorem cq_le {a b : Rat} : cq a b ≤ 0 ↔ a ≤ b := by
  rcases tri a b with h | h | h
  · rw [cq_lt h]; constructor <;> intro _ <;> grind
  · rw [cq_eq h]; constructor <;> intro _ <;> grind
  · rw [cq_gt h]; constructor <;> intro _ <;> grind
theorem or_sub (a b : Rat) : sg (a - b).num = cq a b := by
  rw [sg_cq]
  rcases tri a b with h | h | h
  · rw [cq_lt h, cq_lt (by grind)]
  · rw [cq_eq h, cq_eq (by grind)]
  · rw [cq_gt h, cq_gt (by grind)]
theorem or_swap (a b : Rat) : cq b a = -cq a b := by
  rcases tri a b with h | h | h
  · rw [cq_lt h, cq_gt h]; rfl
  · rw [cq_eq h, cq_eq h.symm]; rfl
  · rw [cq_gt h, cq_lt h]
theorem or_add (a b c : Rat) : cq (a + c) (b + c) = cq a b := by
  rcases tri a b with h | h | h
  · rw [cq_lt h, cq_lt (by grind)]
  · rw [cq_eq h, cq_eq (by grind)]
  · rw [cq_gt h, cq_gt (by grind)]
theorem or_neg (a b : Rat) : cq (-a) (-b) = -cq a b := by
  rcases tri a b with h | h | h
  · rw [cq_lt h, cq_gt (by grind)]; rfl
  · rw [cq_eq h, cq_eq (by grind)]; rfl
  · rw [cq_gt h, cq_lt (by grind)]
theorem or_same (a b : Rat) : decide (a = b) = (cq a b == 0) := by
  rcases tri a b with h | h | h
  · rw [cq_lt h, decide_eq_false (by grind)]; rfl
  · rw [cq_eq h, decide_eq_true h]; rfl
  · rw [cq_gt h, decide_eq_false (by grind)]; rfl
theorem or_mul (a b c : Rat) : cq (a * c) (b * c) = cq a b * sg c.num := by
  rw [sg_cq]
  rcases tri c 0 with k | k | k
  · have hn : 0 < -c := by grind
    rw [cq_lt k]
    rcases tri a b with h | h | h
    · have := Rat.mul_lt_mul_of_pos_right h hn
      rw [cq_lt h, cq_gt (by grind)]; rfl
    · rw [cq_eq h, cq_eq (by grind)]; rfl
    · have := Rat.mul_lt_mul_of_pos_right h hn
      rw [cq_gt h, cq_lt (by grind)]; rfl
  · rw [cq_eq k, cq_eq (by grind), Int.mul_zero]
  · rw [cq_gt k]
    rcases tri a b with h | h | h
    · rw [cq_lt h, cq_lt (Rat.mul_lt_mul_of_pos_right h k)]; rfl
    · rw [cq_eq h, cq_eq (by grind)]; rfl
    · rw [cq_gt h, cq_gt (Rat.mul_lt_mul_of_pos_right h k)]; rfl
theorem or_floor (a : Rat) {f : Rat} (hn : f.num = a.num / a.den) (hd : (f.den : Int) = 1) : cq f a ≤ 0 := by
  rw [cq_le, Rat.le_iff, hn, hd, Int.mul_one]
  exact Int.ediv_mul_le _ (by have := rat_pos a; omega)
theorem or_above (a : Rat) {f : Rat} (hn : f.num = a.num / a.den) (hd : (f.den : Int) = 1) : cq a (f + ((1 : Int) : Rat)) = -1 := by
  have e : f = ((a.num / a.den : Int) : Rat) := Rat.ext (by rw [hn, Rat.num_intCast]) (by rw [Rat.den_intCast]; omega)
  apply cq_lt
  rw [e, ← Rat.intCast_add, Rat.lt_iff, Rat.num_intCast, Rat.den_intCast]
  have := Int.lt_ediv_add_one_mul_self a.num (show 0 < (a.den : Int) by have := rat_pos a; omega)
  simpa using this
theorem qcmp_is (va vb : Value) (a b : Rat) (r : Int) (w : World) (ha : Qv w va a.num a.den) (sa : Sr a 100000) (hb : Qv w vb b.num b.den) (sb : Sr b 100000) (h : cq a b = r) : Calls Tryz.prog 39 #[va, vb] w (RetV (.int .i64 r) w) := h ▸ qcmp_any va vb a b w ha sa hb sb
theorem qsign_is (va : Value) (a : Rat) (r : Int) (w : World) (ha : Qv w va a.num a.den) (sa : Sr a 1000000) (h : sg a.num = r) : Calls Tryz.prog 37 #[va] w (RetV (.int .i64 r) w) := h ▸ qsign_any va a w ha sa
theorem floor_is (va : Value) (a f : Rat) (w : World) (ha : Qv w va a.num a.den) (sa : Sr a 1000000) (h : f.num = a.num / a.den) : Calls Tryz.prog 33 #[va] w (RetIv f.num w) := h ▸ qfloor_any va a w ha sa
theorem one_is (f : Rat) (w : World) (h : (f.den : Int) = 1) : Calls Tryz.prog 55 #[.int .i64 1] w (RetIv (f.den : Int) w) := by rw [h]; exact of_any 1 w (by omega) (by omega)
theorem valid_is (va : Value) (f : Rat) (w : World) (ha : Qv w va f.num f.den) (sa : Sr f 1000000) : Calls Tryz.prog 45 #[va] w (RetV (.bool true) w) := by
  have h := qvalid_pos va f.num f.den w ha sa.num sa.den (den_cast f)
  rw [Int.natAbs_natCast, gcd_num] at h
  exact h
theorem wrap3 {n : Int} (h : n = -1 ∨ n = 0 ∨ n = 1) : IntKind.i64.wrap (-n) = -n := by rcases h with rfl | rfl | rfl <;> rfl
theorem wrap3n {n : Int} (h : n = -1 ∨ n = 0 ∨ n = 1) : IntKind.i64.wrap (- -n) = n := by rcases h with rfl | rfl | rfl <;> rfl
theorem wrap33 {n m : Int} (h : n = -1 ∨ n = 0 ∨ n = 1) (k : m = -1 ∨ m = 0 ∨ m = 1) : IntKind.i64.wrap (n * m) = n * m := by rcases h with rfl | rfl | rfl <;> rcases k with rfl | rfl | rfl <;> rfl
section
variable {o : Oper} {w : World} {ρ : Operand → Value} {x y : Operand} {t u : TypeId}
theorem run_neqE {k : IntKind} {m : Int} (ho : o.op = .binOp .neq t x y u) (hx : ρ x = .int k m) (hy : ρ y = .int k m) : (execOp ρ o).run Tryz.prog w = .ok (.value (.bool false)) w := by
  refine (run_neq_int ho hx hy).trans ?_
  simp
set_option maxRecDepth 100000 in
theorem run_neqB {b : Bool} (ho : o.op = .binOp .neq 4 x y u) (hx : ρ x = .bool b) (hy : ρ y = .bool b) : (execOp ρ o).run Tryz.prog w = .ok (.value (.bool false)) w := by
  have h : (binOp .neq 4 (.bool b) (.bool b)).run Tryz.prog w = .ok (.bool false) w := by cases b <;> rfl
  simp [execOp, ho, hx, hy, go_sem, h]
theorem run_eqlI {k : IntKind} {m n : Int} {r : Bool} (ho : o.op = .binOp .eql t x y u) (hx : ρ x = .int k m) (hy : ρ y = .int k n) (h : (m == n) = r) : (execOp ρ o).run Tryz.prog w = .ok (.value (.bool r)) w := h ▸ run_eql_int ho hx hy
theorem run_leqT {k : IntKind} {m n : Int} (ho : o.op = .binOp .leq t x y u) (hx : ρ x = .int k m) (hy : ρ y = .int k n) (h : m ≤ n) : (execOp ρ o).run Tryz.prog w = .ok (.value (.bool true)) w := by
  refine (run_leq_int ho hx hy).trans ?_
  rw [decide_eq_true h]
end


set_option maxHeartbeats 8000000 in
set_option maxRecDepth 100000 in
theorem lawOrdered_any (n0 d0 k0 n1 d1 k1 n2 d2 k2 : Int) (w : World) (h0 : Rw n0 d0 k0) (h1 : Rw n1 d1 k1) (h2 : Rw n2 d2 k2) : Calls Tryz.prog 7 #[.agg #[.int .i8 n0, .int .i8 d0, .int .u8 k0, .int .i8 n1, .int .i8 d1, .int .u8 k1, .int .i8 n2, .int .i8 d2, .int .u8 k2]] w (RetV (.bool true) w) := by
  obtain ⟨a, ea⟩ : ∃ r, mkQ n0 d0 k0 = r := ⟨_, rfl⟩
  obtain ⟨b, eb⟩ : ∃ r, mkQ n1 d1 k1 = r := ⟨_, rfl⟩
  obtain ⟨c, ec⟩ : ∃ r, mkQ n2 d2 k2 = r := ⟨_, rfl⟩
  have SA : Hid (Sr a 7) := ea ▸ mkQ_sr h0
  have SB : Hid (Sr b 7) := eb ▸ mkQ_sr h1
  have SC : Hid (Sr c 7) := ec ▸ mkQ_sr h2
  replace ea := Lib.hid ea; replace eb := Lib.hid eb; replace ec := Lib.hid ec
  replace h0 := Lib.hid h0; replace h1 := Lib.hid h1; replace h2 := Lib.hid h2
  go_enter Tryz.func7, Tryz.ntmps7
  go_wp2_with fail
  obtain ⟨W, hW⟩ : ∃ W, W = w.alloc (Obj.cells #[Value.int IntKind.i8 n0, Value.int IntKind.i8 d0, Value.int IntKind.u8 k0, Value.int IntKind.i8 n1, Value.int IntKind.i8 d1, Value.int IntKind.u8 k1, Value.int IntKind.i8 n2, Value.int IntKind.i8 d2, Value.int IntKind.u8 k2] 59) := ⟨_, rfl⟩
  rw [← hW]
  have TX : Hid (T3 W w.heap.size n0 d0 k0 n1 d1 k1 n2 d2 k2) := by rw [hW]; exact T3.new _ _ _ _ _ _ _ _ _ _
  have DW : Hid (Below w.heap.size w W) := by rw [hW]; exact (Below.refl _ _).alloc (Nat.le_refl _) _
  clear hW
  generalize hg : w.heap.size = g at *
  replace hg := Lib.hid hg
  refine (examples_any _).mono ?_
  rintro e y0 ⟨rfl, hb⟩
  replace TX := Lib.hid (TX.out.next hb rfl)
  replace DW := Lib.hid (link_below DW.out hb (by have := DW.out.size; have := hg.out; omega) rfl rfl rfl rfl)
  clear hb
  go_upto_region 4 with fail
  refine Rg.region_gg y0 [.is (.pointer (some ⟨g, 0, none⟩)), .is (.agg #[.int .i8 n0, .int .i8 d0, .int .u8 k0]), .sat (pQv (a.num) ((a.den : Int))) (pQv_keep _ _), .is (.pointer (some ⟨g, 3, none⟩)), .is (.agg #[.int .i8 n1, .int .i8 d1, .int .u8 k1]), .sat (pQv (b.num) ((b.den : Int))) (pQv_keep _ _), .is (.pointer (some ⟨g, 6, none⟩)), .is (.agg #[.int .i8 n2, .int .i8 d2, .int .u8 k2]), .sat (pQv (c.num) ((c.den : Int))) (pQv_keep _ _), .own pNewQ pNewQ_keep, .own pNewQ pNewQ_keep, .own pNewQ pNewQ_keep, .put 9 (pPutQ (a.num) ((a.den : Int))) (pPutQ_keep _ _), .put 10 (pPutQ (b.num) ((b.den : Int))) (pPutQ_keep _ _), .put 11 (pPutQ (c.num) ((c.den : Int))) (pPutQ_keep _ _)] [] [some 12, some 13, some 14, some 15, some 16, some 17, some 18, some 19, some 20, some 4, some 5, some 6, none, none, none] (by kernel_rfl) (by kernel_rfl) (by kernel_rfl) (by kernel_rfl) (by kernel_rfl) (by simp [Rg.stos]) (by rfl) (by rfl) (by kernel_rfl) (by simp) ((Below.refl _ _).drew) (fun Q' => ?_) (fun K hK wn hs => ?_)
  · refine ⟨?_, ?_, ?_, ?_, ?_, ?_, ?_, ?_, ?_, ?_, ?_, ?_, ?_, ?_, ?_, trivial⟩
    · intro a' w' ha hs hw hold
      have eo1 : a'.tmps[1]? = some (ptr g) := (ha.rest 1 (by kernel_rfl)).trans rfl
      exact ⟨rfl, .inl ⟨wanted_none rfl, wp_val (run_at3 0 rfl (ev_tmp eo1) rfl (by omega)) ⟨rfl, Below.refl _ _⟩⟩⟩
    · intro a' w' ha hs hw hold
      have e0 : a'.tmps[12]? = some (.pointer (some ⟨g, 0, none⟩)) := Rg.slot_get rfl rfl (hw 0 (by kernel_rfl) _ rfl)
      exact ⟨rfl, .inl ⟨wanted_none rfl, wp_val (run_load30 rfl (ev_tmp e0) (TX.out.bel hs (by simp))) ⟨rfl, Below.refl _ _⟩⟩⟩
    · intro a' w' ha hs hw hold
      have e1 : a'.tmps[13]? = some (.agg #[.int .i8 n0, .int .i8 d0, .int .u8 k0]) := Rg.slot_get rfl rfl (hw 1 (by kernel_rfl) _ rfl)
      exact ⟨rfl, wanted_none rfl, call_step rfl Tryz.func15 (by kernel_rfl) rfl (map_one (ev_tmp e1)) (made_is a _ h0.out ea.out) (fun e w2 he => by obtain ⟨v, rfl, hv, hb⟩ := he; exact ⟨v, rfl, v, rfl, hv, hb⟩)⟩
    · intro a' w' ha hs hw hold
      have eo1 : a'.tmps[1]? = some (ptr g) := (ha.rest 1 (by kernel_rfl)).trans rfl
      exact ⟨rfl, .inl ⟨wanted_none rfl, wp_val (run_at3 1 rfl (ev_tmp eo1) rfl (by omega)) ⟨rfl, Below.refl _ _⟩⟩⟩
    · intro a' w' ha hs hw hold
      have e3 : a'.tmps[15]? = some (.pointer (some ⟨g, 3, none⟩)) := Rg.slot_get rfl rfl (hw 3 (by kernel_rfl) _ rfl)
      exact ⟨rfl, .inl ⟨wanted_none rfl, wp_val (run_load31 rfl (ev_tmp e3) (TX.out.bel hs (by simp))) ⟨rfl, Below.refl _ _⟩⟩⟩
    · intro a' w' ha hs hw hold
      have e4 : a'.tmps[16]? = some (.agg #[.int .i8 n1, .int .i8 d1, .int .u8 k1]) := Rg.slot_get rfl rfl (hw 4 (by kernel_rfl) _ rfl)
      exact ⟨rfl, wanted_none rfl, call_step rfl Tryz.func15 (by kernel_rfl) rfl (map_one (ev_tmp e4)) (made_is b _ h1.out eb.out) (fun e w2 he => by obtain ⟨v, rfl, hv, hb⟩ := he; exact ⟨v, rfl, v, rfl, hv, hb⟩)⟩
    · intro a' w' ha hs hw hold
      have eo1 : a'.tmps[1]? = some (ptr g) := (ha.rest 1 (by kernel_rfl)).trans rfl
      exact ⟨rfl, .inl ⟨wanted_none rfl, wp_val (run_at3 2 rfl (ev_tmp eo1) rfl (by omega)) ⟨rfl, Below.refl _ _⟩⟩⟩
    · intro a' w' ha hs hw hold
      have e6 : a'.tmps[18]? = some (.pointer (some ⟨g, 6, none⟩)) := Rg.slot_get rfl rfl (hw 6 (by kernel_rfl) _ rfl)
      exact ⟨rfl, .inl ⟨wanted_none rfl, wp_val (run_load32 rfl (ev_tmp e6) (TX.out.bel hs (by simp))) ⟨rfl, Below.refl _ _⟩⟩⟩
    · intro a' w' ha hs hw hold
      have e7 : a'.tmps[19]? = some (.agg #[.int .i8 n2, .int .i8 d2, .int .u8 k2]) := Rg.slot_get rfl rfl (hw 7 (by kernel_rfl) _ rfl)
      exact ⟨rfl, wanted_none rfl, call_step rfl Tryz.func15 (by kernel_rfl) rfl (map_one (ev_tmp e7)) (made_is c _ h2.out ec.out) (fun e w2 he => by obtain ⟨v, rfl, hv, hb⟩ := he; exact ⟨v, rfl, v, rfl, hv, hb⟩)⟩
    · intro a' w' ha hs hw hold
      exact ⟨rfl, wanted_none rfl, step_newq rfl⟩
    · intro a' w' ha hs hw hold
      exact ⟨rfl, wanted_none rfl, step_newq rfl⟩
    · intro a' w' ha hs hw hold
      exact ⟨rfl, wanted_none rfl, step_newq rfl⟩
    · intro a' w' ha hs hw hold
      obtain ⟨v2, e2, q2⟩ := hw 2 (by kernel_rfl) _ rfl
      replace e2 : a'.tmps[14]? = some v2 := Rg.slot_get rfl rfl e2
      refine ⟨rfl, wanted_none rfl, by kernel_rfl, fun pv pg pp ph pe1 pe2 pe3 pe4 => ?_⟩
      cases pe1
      exact step_putq rfl rfl (ev_tmp (Rg.slot_get rfl rfl pe2)) (ev_tmp e2) pe3 pe4 q2
    · intro a' w' ha hs hw hold
      obtain ⟨v5, e5, q5⟩ := hw 5 (by kernel_rfl) _ rfl
      replace e5 : a'.tmps[17]? = some v5 := Rg.slot_get rfl rfl e5
      refine ⟨rfl, wanted_none rfl, by kernel_rfl, fun pv pg pp ph pe1 pe2 pe3 pe4 => ?_⟩
      cases pe1
      exact step_putq rfl rfl (ev_tmp (Rg.slot_get rfl rfl pe2)) (ev_tmp e5) pe3 pe4 q5
    · intro a' w' ha hs hw hold
      obtain ⟨v8, e8, q8⟩ := hw 8 (by kernel_rfl) _ rfl
      replace e8 : a'.tmps[20]? = some v8 := Rg.slot_get rfl rfl e8
      refine ⟨rfl, wanted_none rfl, by kernel_rfl, fun pv pg pp ph pe1 pe2 pe3 pe4 => ?_⟩
      cases pe1
      exact step_putq rfl rfl (ev_tmp (Rg.slot_get rfl rfl pe2)) (ev_tmp e8) pe3 pe4 q8
  simp only [Rg.allG]
  intro r1x2 _
  intro r1x5 _
  intro r1x8 _
  intro a1x9 gb1x9 hE1x9 hB1x9 _ hN1x9 _
  intro a1x10 gb1x10 hE1x10 hB1x10 _ hN1x10 _
  intro a1x11 gb1x11 hE1x11 hB1x11 _ hN1x11 _
  intro v1 he hp
  simp only [List.nil_append, List.cons_append, List.getElem?_cons_succ, List.getElem?_cons_zero, Option.some.injEq] at he
  subst he
  obtain ⟨ga, rfl, Xan, pan, qan, Xad, pad, qad, QXa, IVna, IVda⟩ := hp
  intro v1 he hp
  simp only [List.nil_append, List.cons_append, List.getElem?_cons_succ, List.getElem?_cons_zero, Option.some.injEq] at he
  subst he
  obtain ⟨gb, rfl, Xbn, pbn, qbn, Xbd, pbd, qbd, QXb, IVnb, IVdb⟩ := hp
  intro v1 he hp
  simp only [List.nil_append, List.cons_append, List.getElem?_cons_succ, List.getElem?_cons_zero, Option.some.injEq] at he
  subst he
  obtain ⟨gc, rfl, Xcn, pcn, qcn, Xcd, pcd, qcd, QXc, IVnc, IVdc⟩ := hp
  simp only [setOpt, Rg.setOpt, List.set_cons_succ, List.set_cons_zero, ptr]
  refine hK _ _ ?_
  clear hK K
  replace hs := hs.below
  have hgb : ga = gb1x9 := Option.some.inj hE1x9
  clear hgb
  have hgb : gb = gb1x10 := Option.some.inj hE1x10
  clear hgb
  have hgb : gc = gb1x11 := Option.some.inj hE1x11
  clear hgb
  clear hE1x9 hB1x9 hN1x9 hE1x10 hB1x10 hN1x10 hE1x11 hB1x11 hN1x11
  replace TX := Lib.hid (TX.out.next hs rfl)
  replace DW := Lib.hid (link_below DW.out hs (by have := DW.out.size; have := hg.out; omega) rfl rfl rfl rfl)
  generalize hsg : decide ((a.num : Int) < 0) = san at *
  clear hsg
  generalize hsg : decide (((a.den : Int) : Int) < 0) = sad at *
  clear hsg
  replace QXa := Lib.hid QXa; replace IVna := Lib.hid IVna; replace IVda := Lib.hid IVda
  generalize hsg : decide ((b.num : Int) < 0) = sbn at *
  clear hsg
  generalize hsg : decide (((b.den : Int) : Int) < 0) = sbd at *
  clear hsg
  replace QXb := Lib.hid QXb; replace IVnb := Lib.hid IVnb; replace IVdb := Lib.hid IVdb
  generalize hsg : decide ((c.num : Int) < 0) = scn at *
  clear hsg
  generalize hsg : decide (((c.den : Int) : Int) < 0) = scd at *
  clear hsg
  replace QXc := Lib.hid QXc; replace IVnc := Lib.hid IVnc; replace IVdc := Lib.hid IVdc
  clear hs
  go_upto_region 5 with fail
  obtain ⟨n, hn⟩ : ∃ n, cq a b = n := ⟨_, rfl⟩
  obtain ⟨sc, hsc⟩ : ∃ n, sg c.num = n := ⟨_, rfl⟩
  obtain ⟨zb, hzb⟩ : ∃ z, (n == 0) = z := ⟨_, rfl⟩
  have WN : Hid (n = -1 ∨ n = 0 ∨ n = 1) := hn ▸ cq_cases a b
  have WC : Hid (sc = -1 ∨ sc = 0 ∨ sc = 1) := by have := cq_cases c 0; rw [← sg_cq, hsc] at this; exact this
  replace hn := Lib.hid hn; replace hsc := Lib.hid hsc; replace hzb := Lib.hid hzb
  have QVa : Hid (Qv wn (.agg #[.bool san, .slice Xan pan qan, .bool sad, .slice Xad pad qad]) (a).num (a).den) := qv_of IVna.out IVda.out
  have QVb : Hid (Qv wn (.agg #[.bool sbn, .slice Xbn pbn qbn, .bool sbd, .slice Xbd pbd qbd]) (b).num (b).den) := qv_of IVnb.out IVdb.out
  have u2a := QXa.out.cell0; have u2b := QXa.out.cell1; have u2c := QXa.out.cell2; have u2d := QXa.out.cell3
  have u3a := QXb.out.cell0; have u3b := QXb.out.cell1; have u3c := QXb.out.cell2; have u3d := QXb.out.cell3
  go_wp2_with fail
  clear u2a u2b u2c u2d u3a u3b u3c u3d
  refine (qcmp_is _ _ a b n _ QVa.out (SA.out.mono (show 7 ≤ 100000 by decide)) QVb.out (SB.out.mono (show 7 ≤ 100000 by decide)) hn.out).mono ?_
  rintro e y4 ⟨rfl, hb⟩
  clear QVa QVb
  replace QXa := Lib.hid (QXa.out.next hb rfl); replace IVna := Lib.hid (iv_next IVna.out hb rfl); replace IVda := Lib.hid (iv_next IVda.out hb rfl)
  replace QXb := Lib.hid (QXb.out.next hb rfl); replace IVnb := Lib.hid (iv_next IVnb.out hb rfl); replace IVdb := Lib.hid (iv_next IVdb.out hb rfl)
  replace QXc := Lib.hid (QXc.out.next hb rfl); replace IVnc := Lib.hid (iv_next IVnc.out hb rfl); replace IVdc := Lib.hid (iv_next IVdc.out hb rfl)
  replace TX := Lib.hid (TX.out.next hb rfl)
  replace DW := Lib.hid (link_below DW.out hb (by have := DW.out.size; have := hg.out; omega) rfl rfl rfl rfl)
  clear hb
  go_upto_region 6 with fail
  have QVa : Hid (Qv y4 (.agg #[.bool san, .slice Xan pan qan, .bool sad, .slice Xad pad qad]) (a.num) ((a.den : Int))) := qv_of IVna.out IVda.out
  have QVb : Hid (Qv y4 (.agg #[.bool sbn, .slice Xbn pbn qbn, .bool sbd, .slice Xbd pbd qbd]) (b.num) ((b.den : Int))) := qv_of IVnb.out IVdb.out
  have QVc : Hid (Qv y4 (.agg #[.bool scn, .slice Xcn pcn qcn, .bool scd, .slice Xcd pcd qcd]) (c.num) ((c.den : Int))) := qv_of IVnc.out IVdc.out
  refine Rg.region_gg y4 [.is (Value.int IntKind.i64 n), .is (.agg #[.bool san, .slice Xan pan qan, .bool sad, .slice Xad pad qad]), .is (.agg #[.bool sbn, .slice Xbn pbn qbn, .bool sbd, .slice Xbd pbd qbd]), .sat (pQv ((a - b).num) (((a - b).den : Int))) (pQv_keep _ _), .is (Value.int IntKind.i64 (n)), .is (Value.bool false), .is (Value.bool false), .is (Value.int IntKind.i64 n), .is (.agg #[.bool sbn, .slice Xbn pbn qbn, .bool sbd, .slice Xbd pbd qbd]), .is (.agg #[.bool san, .slice Xan pan qan, .bool sad, .slice Xad pad qad]), .is (Value.int IntKind.i64 (-n)), .is (Value.int IntKind.i64 n), .is (Value.bool false), .is (Value.bool false), .is (Value.bool false), .is (.agg #[.bool san, .slice Xan pan qan, .bool sad, .slice Xad pad qad]), .is (.agg #[.bool scn, .slice Xcn pcn qcn, .bool scd, .slice Xcd pcd qcd]), .sat (pQv ((a + c).num) (((a + c).den : Int))) (pQv_keep _ _), .is (.agg #[.bool sbn, .slice Xbn pbn qbn, .bool sbd, .slice Xbd pbd qbd]), .is (.agg #[.bool scn, .slice Xcn pcn qcn, .bool scd, .slice Xcd pcd qcd]), .sat (pQv ((b + c).num) (((b + c).den : Int))) (pQv_keep _ _), .is (Value.int IntKind.i64 (n)), .is (Value.int IntKind.i64 n), .is (Value.bool false), .is (Value.bool false), .is (Value.bool false), .is (.agg #[.bool san, .slice Xan pan qan, .bool sad, .slice Xad pad qad]), .sat (pQv ((-a).num) (((-a).den : Int))) (pQv_keep _ _), .is (.agg #[.bool sbn, .slice Xbn pbn qbn, .bool sbd, .slice Xbd pbd qbd]), .sat (pQv ((-b).num) (((-b).den : Int))) (pQv_keep _ _), .is (Value.int IntKind.i64 (-n)), .is (Value.int IntKind.i64 n), .is (Value.int IntKind.i64 (-n)), .is (Value.bool false), .is (Value.bool false), .is (Value.bool false), .is (Value.int IntKind.i64 n), .is (Value.bool zb), .is (.agg #[.bool san, .slice Xan pan qan, .bool sad, .slice Xad pad qad]), .is (.agg #[.bool sbn, .slice Xbn pbn qbn, .bool sbd, .slice Xbd pbd qbd]), .is (Value.bool zb), .is (Value.bool false), .is (Value.bool false)] [] [some 24, some 25, some 26, some 27, some 28, some 29, some 30, some 31, some 32, some 33, some 34, some 35, some 36, some 37, some 38, some 39, some 40, some 41, some 42, some 43, some 44, some 45, some 46, some 47, some 48, some 49, some 50, some 51, some 52, some 53, some 54, some 55, some 56, some 57, some 58, some 59, some 60, some 61, some 62, some 63, some 64, some 65, some 66] (by kernel_rfl) (by kernel_rfl) (by kernel_rfl) (by kernel_rfl) (by kernel_rfl) (by simp [Rg.stos]) (by rfl) (by rfl) (by kernel_rfl) (by simp) ((Below.refl _ _).drew) (fun Q' => ?_) (fun K hK wn hs => ?_)
  · refine ⟨?_, ?_, ?_, ?_, ?_, ?_, ?_, ?_, ?_, ?_, ?_, ?_, ?_, ?_, ?_, ?_, ?_, ?_, ?_, ?_, ?_, ?_, ?_, ?_, ?_, ?_, ?_, ?_, ?_, ?_, ?_, ?_, ?_, ?_, ?_, ?_, ?_, ?_, ?_, ?_, ?_, ?_, ?_, trivial⟩
    · intro a' w' ha hs hw hold
      have eo7 : a'.tmps[7]? = some (Value.int IntKind.i64 n) := (ha.rest 7 (by kernel_rfl)).trans rfl
      exact ⟨rfl, .inl ⟨wanted_none rfl, wp_val (run_move rfl (ev_tmp eo7)) ⟨rfl, Below.refl _ _⟩⟩⟩
    · intro a' w' ha hs hw hold
      have eo4 : a'.tmps[4]? = some (ptr ga) := (ha.rest 4 (by kernel_rfl)).trans rfl
      exact ⟨rfl, .inl ⟨wanted_none rfl, wp_val (run_qload rfl (ev_tmp eo4) (QXa.out.bel hs (by simp))) ⟨rfl, Below.refl _ _⟩⟩⟩
    · intro a' w' ha hs hw hold
      have eo5 : a'.tmps[5]? = some (ptr gb) := (ha.rest 5 (by kernel_rfl)).trans rfl
      exact ⟨rfl, .inl ⟨wanted_none rfl, wp_val (run_qload rfl (ev_tmp eo5) (QXb.out.bel hs (by simp))) ⟨rfl, Below.refl _ _⟩⟩⟩
    · intro a' w' ha hs hw hold
      have e1 : a'.tmps[25]? = some (.agg #[.bool san, .slice Xan pan qan, .bool sad, .slice Xad pad qad]) := Rg.slot_get rfl rfl (hw 1 (by kernel_rfl) _ rfl)
      have e2 : a'.tmps[26]? = some (.agg #[.bool sbn, .slice Xbn pbn qbn, .bool sbd, .slice Xbd pbd qbd]) := Rg.slot_get rfl rfl (hw 2 (by kernel_rfl) _ rfl)
      exact ⟨rfl, wanted_none rfl, call_step rfl Tryz.func19 (by kernel_rfl) rfl (map_two (ev_tmp e1) (ev_tmp e2)) (qsub_any _ _ a b _ (QVa.out.kn hs.kn) (SA.out.mono (show 7 ≤ 100000 by decide)) (QVb.out.kn hs.kn) (SB.out.mono (show 7 ≤ 100000 by decide))) (fun e w2 he => by obtain ⟨v, rfl, hv, hb⟩ := he; exact ⟨v, rfl, v, rfl, hv, hb⟩)⟩
    · intro a' w' ha hs hw hold
      obtain ⟨v3, e3, q3⟩ := hw 3 (by kernel_rfl) _ rfl
      replace e3 : a'.tmps[27]? = some v3 := Rg.slot_get rfl rfl e3
      exact ⟨rfl, .inl ⟨wanted_none rfl, call_step rfl Tryz.func37 (by kernel_rfl) rfl (map_one (ev_tmp e3)) (qsign_is _ (a - b) (n) _ q3 ((SA.out.sub SB.out).mono (show 15 ≤ 1000000 by decide)) ((or_sub _ _).trans hn.out)) (fun e w2 he => by obtain ⟨rfl, hb⟩ := he; exact ⟨_, rfl, rfl, hb⟩)⟩⟩
    · intro a' w' ha hs hw hold
      have e0 : a'.tmps[24]? = some (Value.int IntKind.i64 n) := Rg.slot_get rfl rfl (hw 0 (by kernel_rfl) _ rfl)
      have e4 : a'.tmps[28]? = some (Value.int IntKind.i64 (n)) := Rg.slot_get rfl rfl (hw 4 (by kernel_rfl) _ rfl)
      exact ⟨rfl, .inl ⟨wanted_none rfl, wp_val (run_neqE rfl (ev_tmp e0) (ev_tmp e4)) ⟨rfl, Below.refl _ _⟩⟩⟩
    · intro a' w' ha hs hw hold
      have e5 : a'.tmps[29]? = some (Value.bool false) := Rg.slot_get rfl rfl (hw 5 (by kernel_rfl) _ rfl)
      exact ⟨rfl, .inl ⟨wanted_none rfl, wp_val (run_move rfl (ev_tmp e5)) ⟨rfl, Below.refl _ _⟩⟩⟩
    · intro a' w' ha hs hw hold
      have e6 : a'.tmps[30]? = some (Value.bool false) := Rg.slot_get rfl rfl (hw 6 (by kernel_rfl) _ rfl)
      have eo7 : a'.tmps[7]? = some (Value.int IntKind.i64 n) := (ha.rest 7 (by kernel_rfl)).trans rfl
      exact ⟨rfl, .inl ⟨wanted_some rfl rfl rfl e6, wp_val (run_move rfl (ev_tmp eo7)) ⟨rfl, Below.refl _ _⟩⟩⟩
    · intro a' w' ha hs hw hold
      have e6 : a'.tmps[30]? = some (Value.bool false) := Rg.slot_get rfl rfl (hw 6 (by kernel_rfl) _ rfl)
      have eo5 : a'.tmps[5]? = some (ptr gb) := (ha.rest 5 (by kernel_rfl)).trans rfl
      exact ⟨rfl, .inl ⟨wanted_some rfl rfl rfl e6, wp_val (run_qload rfl (ev_tmp eo5) (QXb.out.bel hs (by simp))) ⟨rfl, Below.refl _ _⟩⟩⟩
    · intro a' w' ha hs hw hold
      have e6 : a'.tmps[30]? = some (Value.bool false) := Rg.slot_get rfl rfl (hw 6 (by kernel_rfl) _ rfl)
      have eo4 : a'.tmps[4]? = some (ptr ga) := (ha.rest 4 (by kernel_rfl)).trans rfl
      exact ⟨rfl, .inl ⟨wanted_some rfl rfl rfl e6, wp_val (run_qload rfl (ev_tmp eo4) (QXa.out.bel hs (by simp))) ⟨rfl, Below.refl _ _⟩⟩⟩
    · intro a' w' ha hs hw hold
      have e6 : a'.tmps[30]? = some (Value.bool false) := Rg.slot_get rfl rfl (hw 6 (by kernel_rfl) _ rfl)
      have e8 : a'.tmps[32]? = some (.agg #[.bool sbn, .slice Xbn pbn qbn, .bool sbd, .slice Xbd pbd qbd]) := Rg.slot_get rfl rfl (hw 8 (by kernel_rfl) _ rfl)
      have e9 : a'.tmps[33]? = some (.agg #[.bool san, .slice Xan pan qan, .bool sad, .slice Xad pad qad]) := Rg.slot_get rfl rfl (hw 9 (by kernel_rfl) _ rfl)
      exact ⟨rfl, .inl ⟨wanted_some rfl rfl rfl e6, call_step rfl Tryz.func39 (by kernel_rfl) rfl (map_two (ev_tmp e8) (ev_tmp e9)) (qcmp_is _ _ b a (-n) _ (QVb.out.kn hs.kn) (SB.out.mono (show 7 ≤ 100000 by decide)) (QVa.out.kn hs.kn) (SA.out.mono (show 7 ≤ 100000 by decide)) ((or_swap _ _).trans (by rw [hn.out]))) (fun e w2 he => by obtain ⟨rfl, hb⟩ := he; exact ⟨_, rfl, rfl, hb⟩)⟩⟩
    · intro a' w' ha hs hw hold
      have e6 : a'.tmps[30]? = some (Value.bool false) := Rg.slot_get rfl rfl (hw 6 (by kernel_rfl) _ rfl)
      have e10 : a'.tmps[34]? = some (Value.int IntKind.i64 (-n)) := Rg.slot_get rfl rfl (hw 10 (by kernel_rfl) _ rfl)
      exact ⟨rfl, .inl ⟨wanted_some rfl rfl rfl e6, wp_val (run_neg_i64 rfl (ev_tmp e10) (wrap3n WN.out)) ⟨rfl, Below.refl _ _⟩⟩⟩
    · intro a' w' ha hs hw hold
      have e6 : a'.tmps[30]? = some (Value.bool false) := Rg.slot_get rfl rfl (hw 6 (by kernel_rfl) _ rfl)
      have e7 : a'.tmps[31]? = some (Value.int IntKind.i64 n) := Rg.slot_get rfl rfl (hw 7 (by kernel_rfl) _ rfl)
      have e11 : a'.tmps[35]? = some (Value.int IntKind.i64 n) := Rg.slot_get rfl rfl (hw 11 (by kernel_rfl) _ rfl)
      exact ⟨rfl, .inl ⟨wanted_some rfl rfl rfl e6, wp_val (run_neqE rfl (ev_tmp e7) (ev_tmp e11)) ⟨rfl, Below.refl _ _⟩⟩⟩
    · intro a' w' ha hs hw hold
      have e6 : a'.tmps[30]? = some (Value.bool false) := Rg.slot_get rfl rfl (hw 6 (by kernel_rfl) _ rfl)
      have e12 : a'.tmps[36]? = some (Value.bool false) := Rg.slot_get rfl rfl (hw 12 (by kernel_rfl) _ rfl)
      exact ⟨rfl, .inl ⟨wanted_none rfl, wp_val (run_pick (b := false) rfl (ev_tmp e6) (ev_tmp e12)) ⟨rfl, Below.refl _ _⟩⟩⟩
    · intro a' w' ha hs hw hold
      have e13 : a'.tmps[37]? = some (Value.bool false) := Rg.slot_get rfl rfl (hw 13 (by kernel_rfl) _ rfl)
      exact ⟨rfl, .inl ⟨wanted_none rfl, wp_val (run_move rfl (ev_tmp e13)) ⟨rfl, Below.refl _ _⟩⟩⟩
    · intro a' w' ha hs hw hold
      have e14 : a'.tmps[38]? = some (Value.bool false) := Rg.slot_get rfl rfl (hw 14 (by kernel_rfl) _ rfl)
      have eo4 : a'.tmps[4]? = some (ptr ga) := (ha.rest 4 (by kernel_rfl)).trans rfl
      exact ⟨rfl, .inl ⟨wanted_some rfl rfl rfl e14, wp_val (run_qload rfl (ev_tmp eo4) (QXa.out.bel hs (by simp))) ⟨rfl, Below.refl _ _⟩⟩⟩
    · intro a' w' ha hs hw hold
      have e14 : a'.tmps[38]? = some (Value.bool false) := Rg.slot_get rfl rfl (hw 14 (by kernel_rfl) _ rfl)
      have eo6 : a'.tmps[6]? = some (ptr gc) := (ha.rest 6 (by kernel_rfl)).trans rfl
      exact ⟨rfl, .inl ⟨wanted_some rfl rfl rfl e14, wp_val (run_qload rfl (ev_tmp eo6) (QXc.out.bel hs (by simp))) ⟨rfl, Below.refl _ _⟩⟩⟩
    · intro a' w' ha hs hw hold
      have e14 : a'.tmps[38]? = some (Value.bool false) := Rg.slot_get rfl rfl (hw 14 (by kernel_rfl) _ rfl)
      have e15 : a'.tmps[39]? = some (.agg #[.bool san, .slice Xan pan qan, .bool sad, .slice Xad pad qad]) := Rg.slot_get rfl rfl (hw 15 (by kernel_rfl) _ rfl)
      have e16 : a'.tmps[40]? = some (.agg #[.bool scn, .slice Xcn pcn qcn, .bool scd, .slice Xcd pcd qcd]) := Rg.slot_get rfl rfl (hw 16 (by kernel_rfl) _ rfl)
      exact ⟨rfl, wanted_some rfl rfl rfl e14, call_step rfl Tryz.func17 (by kernel_rfl) rfl (map_two (ev_tmp e15) (ev_tmp e16)) (qadd_any _ _ a c _ (QVa.out.kn hs.kn) (QVc.out.kn hs.kn) (SA.out.mono (show 7 ≤ 100000 by decide)) (SC.out.mono (show 7 ≤ 100000 by decide))) (fun e w2 he => by obtain ⟨v, rfl, hv, hb⟩ := he; exact ⟨v, rfl, v, rfl, hv, hb⟩)⟩
    · intro a' w' ha hs hw hold
      have e14 : a'.tmps[38]? = some (Value.bool false) := Rg.slot_get rfl rfl (hw 14 (by kernel_rfl) _ rfl)
      have eo5 : a'.tmps[5]? = some (ptr gb) := (ha.rest 5 (by kernel_rfl)).trans rfl
      exact ⟨rfl, .inl ⟨wanted_some rfl rfl rfl e14, wp_val (run_qload rfl (ev_tmp eo5) (QXb.out.bel hs (by simp))) ⟨rfl, Below.refl _ _⟩⟩⟩
    · intro a' w' ha hs hw hold
      have e14 : a'.tmps[38]? = some (Value.bool false) := Rg.slot_get rfl rfl (hw 14 (by kernel_rfl) _ rfl)
      have eo6 : a'.tmps[6]? = some (ptr gc) := (ha.rest 6 (by kernel_rfl)).trans rfl
      exact ⟨rfl, .inl ⟨wanted_some rfl rfl rfl e14, wp_val (run_qload rfl (ev_tmp eo6) (QXc.out.bel hs (by simp))) ⟨rfl, Below.refl _ _⟩⟩⟩
    · intro a' w' ha hs hw hold
      have e14 : a'.tmps[38]? = some (Value.bool false) := Rg.slot_get rfl rfl (hw 14 (by kernel_rfl) _ rfl)
      have e18 : a'.tmps[42]? = some (.agg #[.bool sbn, .slice Xbn pbn qbn, .bool sbd, .slice Xbd pbd qbd]) := Rg.slot_get rfl rfl (hw 18 (by kernel_rfl) _ rfl)
      have e19 : a'.tmps[43]? = some (.agg #[.bool scn, .slice Xcn pcn qcn, .bool scd, .slice Xcd pcd qcd]) := Rg.slot_get rfl rfl (hw 19 (by kernel_rfl) _ rfl)
      exact ⟨rfl, wanted_some rfl rfl rfl e14, call_step rfl Tryz.func17 (by kernel_rfl) rfl (map_two (ev_tmp e18) (ev_tmp e19)) (qadd_any _ _ b c _ (QVb.out.kn hs.kn) (QVc.out.kn hs.kn) (SB.out.mono (show 7 ≤ 100000 by decide)) (SC.out.mono (show 7 ≤ 100000 by decide))) (fun e w2 he => by obtain ⟨v, rfl, hv, hb⟩ := he; exact ⟨v, rfl, v, rfl, hv, hb⟩)⟩
    · intro a' w' ha hs hw hold
      have e14 : a'.tmps[38]? = some (Value.bool false) := Rg.slot_get rfl rfl (hw 14 (by kernel_rfl) _ rfl)
      obtain ⟨v17, e17, q17⟩ := hw 17 (by kernel_rfl) _ rfl
      replace e17 : a'.tmps[41]? = some v17 := Rg.slot_get rfl rfl e17
      obtain ⟨v20, e20, q20⟩ := hw 20 (by kernel_rfl) _ rfl
      replace e20 : a'.tmps[44]? = some v20 := Rg.slot_get rfl rfl e20
      exact ⟨rfl, .inl ⟨wanted_some rfl rfl rfl e14, call_step rfl Tryz.func39 (by kernel_rfl) rfl (map_two (ev_tmp e17) (ev_tmp e20)) (qcmp_is _ _ (a + c) (b + c) (n) _ q17 ((SA.out.add SC.out).mono (show 15 ≤ 100000 by decide)) q20 ((SB.out.add SC.out).mono (show 15 ≤ 100000 by decide)) ((or_add _ _ _).trans hn.out)) (fun e w2 he => by obtain ⟨rfl, hb⟩ := he; exact ⟨_, rfl, rfl, hb⟩)⟩⟩
    · intro a' w' ha hs hw hold
      have e14 : a'.tmps[38]? = some (Value.bool false) := Rg.slot_get rfl rfl (hw 14 (by kernel_rfl) _ rfl)
      have eo7 : a'.tmps[7]? = some (Value.int IntKind.i64 n) := (ha.rest 7 (by kernel_rfl)).trans rfl
      exact ⟨rfl, .inl ⟨wanted_some rfl rfl rfl e14, wp_val (run_move rfl (ev_tmp eo7)) ⟨rfl, Below.refl _ _⟩⟩⟩
    · intro a' w' ha hs hw hold
      have e14 : a'.tmps[38]? = some (Value.bool false) := Rg.slot_get rfl rfl (hw 14 (by kernel_rfl) _ rfl)
      have e21 : a'.tmps[45]? = some (Value.int IntKind.i64 (n)) := Rg.slot_get rfl rfl (hw 21 (by kernel_rfl) _ rfl)
      have e22 : a'.tmps[46]? = some (Value.int IntKind.i64 n) := Rg.slot_get rfl rfl (hw 22 (by kernel_rfl) _ rfl)
      exact ⟨rfl, .inl ⟨wanted_some rfl rfl rfl e14, wp_val (run_neqE rfl (ev_tmp e21) (ev_tmp e22)) ⟨rfl, Below.refl _ _⟩⟩⟩
    · intro a' w' ha hs hw hold
      have e14 : a'.tmps[38]? = some (Value.bool false) := Rg.slot_get rfl rfl (hw 14 (by kernel_rfl) _ rfl)
      have e23 : a'.tmps[47]? = some (Value.bool false) := Rg.slot_get rfl rfl (hw 23 (by kernel_rfl) _ rfl)
      exact ⟨rfl, .inl ⟨wanted_none rfl, wp_val (run_pick (b := false) rfl (ev_tmp e14) (ev_tmp e23)) ⟨rfl, Below.refl _ _⟩⟩⟩
    · intro a' w' ha hs hw hold
      have e24 : a'.tmps[48]? = some (Value.bool false) := Rg.slot_get rfl rfl (hw 24 (by kernel_rfl) _ rfl)
      exact ⟨rfl, .inl ⟨wanted_none rfl, wp_val (run_move rfl (ev_tmp e24)) ⟨rfl, Below.refl _ _⟩⟩⟩
    · intro a' w' ha hs hw hold
      have e25 : a'.tmps[49]? = some (Value.bool false) := Rg.slot_get rfl rfl (hw 25 (by kernel_rfl) _ rfl)
      have eo4 : a'.tmps[4]? = some (ptr ga) := (ha.rest 4 (by kernel_rfl)).trans rfl
      exact ⟨rfl, .inl ⟨wanted_some rfl rfl rfl e25, wp_val (run_qload rfl (ev_tmp eo4) (QXa.out.bel hs (by simp))) ⟨rfl, Below.refl _ _⟩⟩⟩
    · intro a' w' ha hs hw hold
      have e25 : a'.tmps[49]? = some (Value.bool false) := Rg.slot_get rfl rfl (hw 25 (by kernel_rfl) _ rfl)
      have e26 : a'.tmps[50]? = some (.agg #[.bool san, .slice Xan pan qan, .bool sad, .slice Xad pad qad]) := Rg.slot_get rfl rfl (hw 26 (by kernel_rfl) _ rfl)
      exact ⟨rfl, wanted_some rfl rfl rfl e25, call_step rfl Tryz.func23 (by kernel_rfl) rfl (map_one (ev_tmp e26)) (qneg_any _ a _ (QVa.out.kn hs.kn) (SA.out.mono (show 7 ≤ 100000 by decide))) (fun e w2 he => by obtain ⟨v, rfl, hv, hb⟩ := he; exact ⟨v, rfl, v, rfl, hv, hb⟩)⟩
    · intro a' w' ha hs hw hold
      have e25 : a'.tmps[49]? = some (Value.bool false) := Rg.slot_get rfl rfl (hw 25 (by kernel_rfl) _ rfl)
      have eo5 : a'.tmps[5]? = some (ptr gb) := (ha.rest 5 (by kernel_rfl)).trans rfl
      exact ⟨rfl, .inl ⟨wanted_some rfl rfl rfl e25, wp_val (run_qload rfl (ev_tmp eo5) (QXb.out.bel hs (by simp))) ⟨rfl, Below.refl _ _⟩⟩⟩
    · intro a' w' ha hs hw hold
      have e25 : a'.tmps[49]? = some (Value.bool false) := Rg.slot_get rfl rfl (hw 25 (by kernel_rfl) _ rfl)
      have e28 : a'.tmps[52]? = some (.agg #[.bool sbn, .slice Xbn pbn qbn, .bool sbd, .slice Xbd pbd qbd]) := Rg.slot_get rfl rfl (hw 28 (by kernel_rfl) _ rfl)
      exact ⟨rfl, wanted_some rfl rfl rfl e25, call_step rfl Tryz.func23 (by kernel_rfl) rfl (map_one (ev_tmp e28)) (qneg_any _ b _ (QVb.out.kn hs.kn) (SB.out.mono (show 7 ≤ 100000 by decide))) (fun e w2 he => by obtain ⟨v, rfl, hv, hb⟩ := he; exact ⟨v, rfl, v, rfl, hv, hb⟩)⟩
    · intro a' w' ha hs hw hold
      have e25 : a'.tmps[49]? = some (Value.bool false) := Rg.slot_get rfl rfl (hw 25 (by kernel_rfl) _ rfl)
      obtain ⟨v27, e27, q27⟩ := hw 27 (by kernel_rfl) _ rfl
      replace e27 : a'.tmps[51]? = some v27 := Rg.slot_get rfl rfl e27
      obtain ⟨v29, e29, q29⟩ := hw 29 (by kernel_rfl) _ rfl
      replace e29 : a'.tmps[53]? = some v29 := Rg.slot_get rfl rfl e29
      exact ⟨rfl, .inl ⟨wanted_some rfl rfl rfl e25, call_step rfl Tryz.func39 (by kernel_rfl) rfl (map_two (ev_tmp e27) (ev_tmp e29)) (qcmp_is _ _ (-a) (-b) (-n) _ q27 ((SA.out.neg).mono (show 7 ≤ 100000 by decide)) q29 ((SB.out.neg).mono (show 7 ≤ 100000 by decide)) ((or_neg _ _).trans (by rw [hn.out]))) (fun e w2 he => by obtain ⟨rfl, hb⟩ := he; exact ⟨_, rfl, rfl, hb⟩)⟩⟩
    · intro a' w' ha hs hw hold
      have e25 : a'.tmps[49]? = some (Value.bool false) := Rg.slot_get rfl rfl (hw 25 (by kernel_rfl) _ rfl)
      have eo7 : a'.tmps[7]? = some (Value.int IntKind.i64 n) := (ha.rest 7 (by kernel_rfl)).trans rfl
      exact ⟨rfl, .inl ⟨wanted_some rfl rfl rfl e25, wp_val (run_move rfl (ev_tmp eo7)) ⟨rfl, Below.refl _ _⟩⟩⟩
    · intro a' w' ha hs hw hold
      have e25 : a'.tmps[49]? = some (Value.bool false) := Rg.slot_get rfl rfl (hw 25 (by kernel_rfl) _ rfl)
      have e31 : a'.tmps[55]? = some (Value.int IntKind.i64 n) := Rg.slot_get rfl rfl (hw 31 (by kernel_rfl) _ rfl)
      exact ⟨rfl, .inl ⟨wanted_some rfl rfl rfl e25, wp_val (run_neg_i64 rfl (ev_tmp e31) (wrap3 WN.out)) ⟨rfl, Below.refl _ _⟩⟩⟩
    · intro a' w' ha hs hw hold
      have e25 : a'.tmps[49]? = some (Value.bool false) := Rg.slot_get rfl rfl (hw 25 (by kernel_rfl) _ rfl)
      have e30 : a'.tmps[54]? = some (Value.int IntKind.i64 (-n)) := Rg.slot_get rfl rfl (hw 30 (by kernel_rfl) _ rfl)
      have e32 : a'.tmps[56]? = some (Value.int IntKind.i64 (-n)) := Rg.slot_get rfl rfl (hw 32 (by kernel_rfl) _ rfl)
      exact ⟨rfl, .inl ⟨wanted_some rfl rfl rfl e25, wp_val (run_neqE rfl (ev_tmp e30) (ev_tmp e32)) ⟨rfl, Below.refl _ _⟩⟩⟩
    · intro a' w' ha hs hw hold
      have e25 : a'.tmps[49]? = some (Value.bool false) := Rg.slot_get rfl rfl (hw 25 (by kernel_rfl) _ rfl)
      have e33 : a'.tmps[57]? = some (Value.bool false) := Rg.slot_get rfl rfl (hw 33 (by kernel_rfl) _ rfl)
      exact ⟨rfl, .inl ⟨wanted_none rfl, wp_val (run_pick (b := false) rfl (ev_tmp e25) (ev_tmp e33)) ⟨rfl, Below.refl _ _⟩⟩⟩
    · intro a' w' ha hs hw hold
      have e34 : a'.tmps[58]? = some (Value.bool false) := Rg.slot_get rfl rfl (hw 34 (by kernel_rfl) _ rfl)
      exact ⟨rfl, .inl ⟨wanted_none rfl, wp_val (run_move rfl (ev_tmp e34)) ⟨rfl, Below.refl _ _⟩⟩⟩
    · intro a' w' ha hs hw hold
      have e35 : a'.tmps[59]? = some (Value.bool false) := Rg.slot_get rfl rfl (hw 35 (by kernel_rfl) _ rfl)
      have eo7 : a'.tmps[7]? = some (Value.int IntKind.i64 n) := (ha.rest 7 (by kernel_rfl)).trans rfl
      exact ⟨rfl, .inl ⟨wanted_some rfl rfl rfl e35, wp_val (run_move rfl (ev_tmp eo7)) ⟨rfl, Below.refl _ _⟩⟩⟩
    · intro a' w' ha hs hw hold
      have e35 : a'.tmps[59]? = some (Value.bool false) := Rg.slot_get rfl rfl (hw 35 (by kernel_rfl) _ rfl)
      have e36 : a'.tmps[60]? = some (Value.int IntKind.i64 n) := Rg.slot_get rfl rfl (hw 36 (by kernel_rfl) _ rfl)
      exact ⟨rfl, .inl ⟨wanted_some rfl rfl rfl e35, wp_val (run_eqlI rfl (ev_tmp e36) rfl hzb.out) ⟨rfl, Below.refl _ _⟩⟩⟩
    · intro a' w' ha hs hw hold
      have e35 : a'.tmps[59]? = some (Value.bool false) := Rg.slot_get rfl rfl (hw 35 (by kernel_rfl) _ rfl)
      have eo4 : a'.tmps[4]? = some (ptr ga) := (ha.rest 4 (by kernel_rfl)).trans rfl
      exact ⟨rfl, .inl ⟨wanted_some rfl rfl rfl e35, wp_val (run_qload rfl (ev_tmp eo4) (QXa.out.bel hs (by simp))) ⟨rfl, Below.refl _ _⟩⟩⟩
    · intro a' w' ha hs hw hold
      have e35 : a'.tmps[59]? = some (Value.bool false) := Rg.slot_get rfl rfl (hw 35 (by kernel_rfl) _ rfl)
      have eo5 : a'.tmps[5]? = some (ptr gb) := (ha.rest 5 (by kernel_rfl)).trans rfl
      exact ⟨rfl, .inl ⟨wanted_some rfl rfl rfl e35, wp_val (run_qload rfl (ev_tmp eo5) (QXb.out.bel hs (by simp))) ⟨rfl, Below.refl _ _⟩⟩⟩
    · intro a' w' ha hs hw hold
      have e35 : a'.tmps[59]? = some (Value.bool false) := Rg.slot_get rfl rfl (hw 35 (by kernel_rfl) _ rfl)
      have e38 : a'.tmps[62]? = some (.agg #[.bool san, .slice Xan pan qan, .bool sad, .slice Xad pad qad]) := Rg.slot_get rfl rfl (hw 38 (by kernel_rfl) _ rfl)
      have e39 : a'.tmps[63]? = some (.agg #[.bool sbn, .slice Xbn pbn qbn, .bool sbd, .slice Xbd pbd qbd]) := Rg.slot_get rfl rfl (hw 39 (by kernel_rfl) _ rfl)
      exact ⟨rfl, .inl ⟨wanted_some rfl rfl rfl e35, call_step rfl Tryz.func16 (by kernel_rfl) rfl (map_two (ev_tmp e38) (ev_tmp e39)) (qsame_is _ _ a b zb _ (QVa.out.kn hs.kn) (SA.out.mono (show 7 ≤ 1000000 by decide)) (QVb.out.kn hs.kn) (SB.out.mono (show 7 ≤ 1000000 by decide)) ((or_same _ _).trans (by rw [hn.out, hzb.out]))) (fun e w2 he => by obtain ⟨rfl, hb⟩ := he; exact ⟨_, rfl, rfl, hb⟩)⟩⟩
    · intro a' w' ha hs hw hold
      have e35 : a'.tmps[59]? = some (Value.bool false) := Rg.slot_get rfl rfl (hw 35 (by kernel_rfl) _ rfl)
      have e37 : a'.tmps[61]? = some (Value.bool zb) := Rg.slot_get rfl rfl (hw 37 (by kernel_rfl) _ rfl)
      have e40 : a'.tmps[64]? = some (Value.bool zb) := Rg.slot_get rfl rfl (hw 40 (by kernel_rfl) _ rfl)
      exact ⟨rfl, .inl ⟨wanted_some rfl rfl rfl e35, wp_val (run_neqB rfl (ev_tmp e37) (ev_tmp e40)) ⟨rfl, Below.refl _ _⟩⟩⟩
    · intro a' w' ha hs hw hold
      have e35 : a'.tmps[59]? = some (Value.bool false) := Rg.slot_get rfl rfl (hw 35 (by kernel_rfl) _ rfl)
      have e41 : a'.tmps[65]? = some (Value.bool false) := Rg.slot_get rfl rfl (hw 41 (by kernel_rfl) _ rfl)
      exact ⟨rfl, .inl ⟨wanted_none rfl, wp_val (run_pick (b := false) rfl (ev_tmp e35) (ev_tmp e41)) ⟨rfl, Below.refl _ _⟩⟩⟩
  simp only [Rg.allG]
  intro r5x3 _
  intro r5x17 _
  intro r5x20 _
  intro r5x27 _
  intro r5x29 _
  simp only [setOpt, Rg.setOpt, List.set_cons_succ, List.set_cons_zero]
  refine hK _ _ ?_
  clear hK K
  replace hs := hs.below
  replace QXa := Lib.hid (QXa.out.next hs rfl); replace IVna := Lib.hid (iv_next IVna.out hs rfl); replace IVda := Lib.hid (iv_next IVda.out hs rfl)
  replace QXb := Lib.hid (QXb.out.next hs rfl); replace IVnb := Lib.hid (iv_next IVnb.out hs rfl); replace IVdb := Lib.hid (iv_next IVdb.out hs rfl)
  replace QXc := Lib.hid (QXc.out.next hs rfl); replace IVnc := Lib.hid (iv_next IVnc.out hs rfl); replace IVdc := Lib.hid (iv_next IVdc.out hs rfl)
  replace TX := Lib.hid (TX.out.next hs rfl)
  replace DW := Lib.hid (link_below DW.out hs (by have := DW.out.size; have := hg.out; omega) rfl rfl rfl rfl)
  clear hs
  go_upto_region 8 with fail
  have QVa : Hid (Qv wn (.agg #[.bool san, .slice Xan pan qan, .bool sad, .slice Xad pad qad]) (a.num) ((a.den : Int))) := qv_of IVna.out IVda.out
  have QVb : Hid (Qv wn (.agg #[.bool sbn, .slice Xbn pbn qbn, .bool sbd, .slice Xbd pbd qbd]) (b.num) ((b.den : Int))) := qv_of IVnb.out IVdb.out
  have QVc : Hid (Qv wn (.agg #[.bool scn, .slice Xcn pcn qcn, .bool scd, .slice Xcd pcd qcd]) (c.num) ((c.den : Int))) := qv_of IVnc.out IVdc.out
  refine Rg.region_gg wn [.is (.agg #[.bool san, .slice Xan pan qan, .bool sad, .slice Xad pad qad]), .is (.agg #[.bool scn, .slice Xcn pcn qcn, .bool scd, .slice Xcd pcd qcd]), .sat (pQv ((a * c).num) (((a * c).den : Int))) (pQv_keep _ _), .is (.agg #[.bool sbn, .slice Xbn pbn qbn, .bool sbd, .slice Xbd pbd qbd]), .is (.agg #[.bool scn, .slice Xcn pcn qcn, .bool scd, .slice Xcd pcd qcd]), .sat (pQv ((b * c).num) (((b * c).den : Int))) (pQv_keep _ _), .is (Value.int IntKind.i64 (n * sc)), .is (Value.int IntKind.i64 n), .is (.agg #[.bool scn, .slice Xcn pcn qcn, .bool scd, .slice Xcd pcd qcd]), .is (Value.int IntKind.i64 (sc)), .is (Value.int IntKind.i64 (n * sc)), .is (Value.bool false)] [] [some 67, some 68, some 69, some 70, some 71, some 72, some 73, some 74, some 75, some 76, some 77, some 78] (by kernel_rfl) (by kernel_rfl) (by kernel_rfl) (by kernel_rfl) (by kernel_rfl) (by simp [Rg.stos]) (by rfl) (by rfl) (by kernel_rfl) (by simp) ((Below.refl _ _).drew) (fun Q' => ?_) (fun K hK wn hs => ?_)
  · refine ⟨?_, ?_, ?_, ?_, ?_, ?_, ?_, ?_, ?_, ?_, ?_, ?_, trivial⟩
    · intro a' w' ha hs hw hold
      have eo4 : a'.tmps[4]? = some (ptr ga) := (ha.rest 4 (by kernel_rfl)).trans rfl
      exact ⟨rfl, .inl ⟨wanted_none rfl, wp_val (run_qload rfl (ev_tmp eo4) (QXa.out.bel hs (by simp))) ⟨rfl, Below.refl _ _⟩⟩⟩
    · intro a' w' ha hs hw hold
      have eo6 : a'.tmps[6]? = some (ptr gc) := (ha.rest 6 (by kernel_rfl)).trans rfl
      exact ⟨rfl, .inl ⟨wanted_none rfl, wp_val (run_qload rfl (ev_tmp eo6) (QXc.out.bel hs (by simp))) ⟨rfl, Below.refl _ _⟩⟩⟩
    · intro a' w' ha hs hw hold
      have e0 : a'.tmps[67]? = some (.agg #[.bool san, .slice Xan pan qan, .bool sad, .slice Xad pad qad]) := Rg.slot_get rfl rfl (hw 0 (by kernel_rfl) _ rfl)
      have e1 : a'.tmps[68]? = some (.agg #[.bool scn, .slice Xcn pcn qcn, .bool scd, .slice Xcd pcd qcd]) := Rg.slot_get rfl rfl (hw 1 (by kernel_rfl) _ rfl)
      exact ⟨rfl, wanted_none rfl, call_step rfl Tryz.func21 (by kernel_rfl) rfl (map_two (ev_tmp e0) (ev_tmp e1)) (qmul_any _ _ a c _ (QVa.out.kn hs.kn) (QVc.out.kn hs.kn) (SA.out.mono (show 7 ≤ 100000 by decide)) (SC.out.mono (show 7 ≤ 100000 by decide))) (fun e w2 he => by obtain ⟨v, rfl, hv, hb⟩ := he; exact ⟨v, rfl, v, rfl, hv, hb⟩)⟩
    · intro a' w' ha hs hw hold
      have eo5 : a'.tmps[5]? = some (ptr gb) := (ha.rest 5 (by kernel_rfl)).trans rfl
      exact ⟨rfl, .inl ⟨wanted_none rfl, wp_val (run_qload rfl (ev_tmp eo5) (QXb.out.bel hs (by simp))) ⟨rfl, Below.refl _ _⟩⟩⟩
    · intro a' w' ha hs hw hold
      have eo6 : a'.tmps[6]? = some (ptr gc) := (ha.rest 6 (by kernel_rfl)).trans rfl
      exact ⟨rfl, .inl ⟨wanted_none rfl, wp_val (run_qload rfl (ev_tmp eo6) (QXc.out.bel hs (by simp))) ⟨rfl, Below.refl _ _⟩⟩⟩
    · intro a' w' ha hs hw hold
      have e3 : a'.tmps[70]? = some (.agg #[.bool sbn, .slice Xbn pbn qbn, .bool sbd, .slice Xbd pbd qbd]) := Rg.slot_get rfl rfl (hw 3 (by kernel_rfl) _ rfl)
      have e4 : a'.tmps[71]? = some (.agg #[.bool scn, .slice Xcn pcn qcn, .bool scd, .slice Xcd pcd qcd]) := Rg.slot_get rfl rfl (hw 4 (by kernel_rfl) _ rfl)
      exact ⟨rfl, wanted_none rfl, call_step rfl Tryz.func21 (by kernel_rfl) rfl (map_two (ev_tmp e3) (ev_tmp e4)) (qmul_any _ _ b c _ (QVb.out.kn hs.kn) (QVc.out.kn hs.kn) (SB.out.mono (show 7 ≤ 100000 by decide)) (SC.out.mono (show 7 ≤ 100000 by decide))) (fun e w2 he => by obtain ⟨v, rfl, hv, hb⟩ := he; exact ⟨v, rfl, v, rfl, hv, hb⟩)⟩
    · intro a' w' ha hs hw hold
      obtain ⟨v2, e2, q2⟩ := hw 2 (by kernel_rfl) _ rfl
      replace e2 : a'.tmps[69]? = some v2 := Rg.slot_get rfl rfl e2
      obtain ⟨v5, e5, q5⟩ := hw 5 (by kernel_rfl) _ rfl
      replace e5 : a'.tmps[72]? = some v5 := Rg.slot_get rfl rfl e5
      exact ⟨rfl, .inl ⟨wanted_none rfl, call_step rfl Tryz.func39 (by kernel_rfl) rfl (map_two (ev_tmp e2) (ev_tmp e5)) (qcmp_is _ _ (a * c) (b * c) (n * sc) _ q2 ((SA.out.mul SC.out).mono (show 14 ≤ 100000 by decide)) q5 ((SB.out.mul SC.out).mono (show 14 ≤ 100000 by decide)) ((or_mul _ _ _).trans (by rw [hn.out, hsc.out]))) (fun e w2 he => by obtain ⟨rfl, hb⟩ := he; exact ⟨_, rfl, rfl, hb⟩)⟩⟩
    · intro a' w' ha hs hw hold
      have eo7 : a'.tmps[7]? = some (Value.int IntKind.i64 n) := (ha.rest 7 (by kernel_rfl)).trans rfl
      exact ⟨rfl, .inl ⟨wanted_none rfl, wp_val (run_move rfl (ev_tmp eo7)) ⟨rfl, Below.refl _ _⟩⟩⟩
    · intro a' w' ha hs hw hold
      have eo6 : a'.tmps[6]? = some (ptr gc) := (ha.rest 6 (by kernel_rfl)).trans rfl
      exact ⟨rfl, .inl ⟨wanted_none rfl, wp_val (run_qload rfl (ev_tmp eo6) (QXc.out.bel hs (by simp))) ⟨rfl, Below.refl _ _⟩⟩⟩
    · intro a' w' ha hs hw hold
      have e8 : a'.tmps[75]? = some (.agg #[.bool scn, .slice Xcn pcn qcn, .bool scd, .slice Xcd pcd qcd]) := Rg.slot_get rfl rfl (hw 8 (by kernel_rfl) _ rfl)
      exact ⟨rfl, .inl ⟨wanted_none rfl, call_step rfl Tryz.func37 (by kernel_rfl) rfl (map_one (ev_tmp e8)) (qsign_is _ c (sc) _ (QVc.out.kn hs.kn) (SC.out.mono (show 7 ≤ 1000000 by decide)) (hsc.out)) (fun e w2 he => by obtain ⟨rfl, hb⟩ := he; exact ⟨_, rfl, rfl, hb⟩)⟩⟩
    · intro a' w' ha hs hw hold
      have e7 : a'.tmps[74]? = some (Value.int IntKind.i64 n) := Rg.slot_get rfl rfl (hw 7 (by kernel_rfl) _ rfl)
      have e9 : a'.tmps[76]? = some (Value.int IntKind.i64 (sc)) := Rg.slot_get rfl rfl (hw 9 (by kernel_rfl) _ rfl)
      exact ⟨rfl, .inl ⟨wanted_none rfl, wp_val (run_mul_i64 rfl (ev_tmp e7) (ev_tmp e9) (wrap33 WN.out WC.out)) ⟨rfl, Below.refl _ _⟩⟩⟩
    · intro a' w' ha hs hw hold
      have e6 : a'.tmps[73]? = some (Value.int IntKind.i64 (n * sc)) := Rg.slot_get rfl rfl (hw 6 (by kernel_rfl) _ rfl)
      have e10 : a'.tmps[77]? = some (Value.int IntKind.i64 (n * sc)) := Rg.slot_get rfl rfl (hw 10 (by kernel_rfl) _ rfl)
      exact ⟨rfl, .inl ⟨wanted_none rfl, wp_val (run_neqE rfl (ev_tmp e6) (ev_tmp e10)) ⟨rfl, Below.refl _ _⟩⟩⟩
  simp only [Rg.allG]
  intro r6x2 _
  intro r6x5 _
  simp only [setOpt, Rg.setOpt, List.set_cons_succ, List.set_cons_zero]
  refine hK _ _ ?_
  clear hK K
  replace hs := hs.below
  replace QXa := Lib.hid (QXa.out.next hs rfl); replace IVna := Lib.hid (iv_next IVna.out hs rfl); replace IVda := Lib.hid (iv_next IVda.out hs rfl)
  replace QXb := Lib.hid (QXb.out.next hs rfl); replace IVnb := Lib.hid (iv_next IVnb.out hs rfl); replace IVdb := Lib.hid (iv_next IVdb.out hs rfl)
  replace QXc := Lib.hid (QXc.out.next hs rfl); replace IVnc := Lib.hid (iv_next IVnc.out hs rfl); replace IVdc := Lib.hid (iv_next IVdc.out hs rfl)
  replace TX := Lib.hid (TX.out.next hs rfl)
  replace DW := Lib.hid (link_below DW.out hs (by have := DW.out.size; have := hg.out; omega) rfl rfl rfl rfl)
  clear hs
  go_upto_region 10 with fail
  obtain ⟨f, ef⟩ : ∃ f : Rat, ((a.num / a.den : Int) : Rat) = f := ⟨_, rfl⟩
  have hfn : Hid (f.num = a.num / a.den) := by rw [← ef]; exact Rat.num_intCast _
  have hfd : Hid ((f.den : Int) = 1) := by rw [← ef, Rat.den_intCast]; rfl
  clear ef
  have SF : Hid (Sr f 7) := ⟨by rw [hfn.out]; exact SA.out.num.divs, by rw [hfd.out]; exact Sz.small (by omega) (by omega) |>.mono (by omega)⟩
  obtain ⟨u, hu⟩ : ∃ u, cq f a = u := ⟨_, rfl⟩
  have WU : Hid (u ≤ 0) := by rw [← hu]; exact or_floor a hfn.out hfd.out
  replace hu := Lib.hid hu
  have QVa : Hid (Qv wn (.agg #[.bool san, .slice Xan pan qan, .bool sad, .slice Xad pad qad]) (a).num (a).den) := qv_of IVna.out IVda.out
  have u7a := QXa.out.cell0; have u7b := QXa.out.cell1; have u7c := QXa.out.cell2; have u7d := QXa.out.cell3
  go_wp2_with fail
  clear u7a u7b u7c u7d
  refine (floor_is _ a f _ QVa.out (SA.out.mono (show 7 ≤ 1000000 by decide)) hfn.out).mono ?_
  rintro e y8 ⟨vf, rfl, hf, hb⟩
  clear QVa
  replace hf := Lib.hid hf
  replace QXa := Lib.hid (QXa.out.next hb rfl); replace IVna := Lib.hid (iv_next IVna.out hb rfl); replace IVda := Lib.hid (iv_next IVda.out hb rfl)
  replace QXb := Lib.hid (QXb.out.next hb rfl); replace IVnb := Lib.hid (iv_next IVnb.out hb rfl); replace IVdb := Lib.hid (iv_next IVdb.out hb rfl)
  replace QXc := Lib.hid (QXc.out.next hb rfl); replace IVnc := Lib.hid (iv_next IVnc.out hb rfl); replace IVdc := Lib.hid (iv_next IVdc.out hb rfl)
  replace TX := Lib.hid (TX.out.next hb rfl)
  replace DW := Lib.hid (link_below DW.out hb (by have := DW.out.size; have := hg.out; omega) rfl rfl rfl rfl)
  clear hb
  go_wp2_with fail
  refine (one_is f _ hfd.out).mono ?_
  rintro e y93 ⟨vo, rfl, ho, hb⟩
  replace ho := Lib.hid ho
  replace hf := Lib.hid (iv_next hf.out hb rfl)
  replace QXa := Lib.hid (QXa.out.next hb rfl); replace IVna := Lib.hid (iv_next IVna.out hb rfl); replace IVda := Lib.hid (iv_next IVda.out hb rfl)
  replace QXb := Lib.hid (QXb.out.next hb rfl); replace IVnb := Lib.hid (iv_next IVnb.out hb rfl); replace IVdb := Lib.hid (iv_next IVdb.out hb rfl)
  replace QXc := Lib.hid (QXc.out.next hb rfl); replace IVnc := Lib.hid (iv_next IVnc.out hb rfl); replace IVdc := Lib.hid (iv_next IVdc.out hb rfl)
  replace TX := Lib.hid (TX.out.next hb rfl)
  replace DW := Lib.hid (link_below DW.out hb (by have := DW.out.size; have := hg.out; omega) rfl rfl rfl rfl)
  clear hb
  obtain ⟨Xfn, pfn, qfn, rfl, _, _, _⟩ := hf.out.form
  obtain ⟨Xfd, pfd, qfd, rfl, _, _, _⟩ := ho.out.form
  generalize hs : decide ((f.num : Int) < 0) = sfn at *
  clear hs
  generalize hs : decide (((f.den : Int) : Int) < 0) = sfd at *
  clear hs
  go_upto_region 11 with fail
  obtain ⟨W9, hW⟩ : ∃ W9, W9 = y93.alloc (Obj.cells #[Value.bool sfn, Value.slice Xfn pfn qfn, Value.bool sfd, Value.slice Xfd pfd qfd] 31) := ⟨_, rfl⟩
  rw [← hW]
  have QXf : Hid (QBox W9 y93.heap.size sfn (.slice Xfn pfn qfn) sfd (.slice Xfd pfd qfd)) := by rw [hW]; exact QBox.new _ _ _ _ _
  have IVnf : Hid (Iv W9 (.agg #[.bool sfn, .slice Xfn pfn qfn]) (f.num)) := by rw [hW]; exact hf.out.alloc _
  have IVdf : Hid (Iv W9 (.agg #[.bool sfd, .slice Xfd pfd qfd]) ((f.den : Int))) := by rw [hW]; exact ho.out.alloc _
  have hd : Below y93.heap.size y93 W9 := by rw [hW]; exact (Below.refl _ _).alloc (Nat.le_refl _) _
  clear hW hf ho
  replace QXa := Lib.hid (QXa.out.next hd rfl); replace IVna := Lib.hid (iv_next IVna.out hd rfl); replace IVda := Lib.hid (iv_next IVda.out hd rfl)
  replace QXb := Lib.hid (QXb.out.next hd rfl); replace IVnb := Lib.hid (iv_next IVnb.out hd rfl); replace IVdb := Lib.hid (iv_next IVdb.out hd rfl)
  replace QXc := Lib.hid (QXc.out.next hd rfl); replace IVnc := Lib.hid (iv_next IVnc.out hd rfl); replace IVdc := Lib.hid (iv_next IVdc.out hd rfl)
  replace TX := Lib.hid (TX.out.next hd rfl)
  replace DW := Lib.hid (link_below DW.out hd (by have := DW.out.size; have := hg.out; omega) rfl rfl rfl rfl)
  clear hd
  generalize hgn9 : y93.heap.size = gf at *
  clear hgn9
  have QVa : Hid (Qv W9 (.agg #[.bool san, .slice Xan pan qan, .bool sad, .slice Xad pad qad]) (a.num) ((a.den : Int))) := qv_of IVna.out IVda.out
  have QVf : Hid (Qv W9 (.agg #[.bool sfn, .slice Xfn pfn qfn, .bool sfd, .slice Xfd pfd qfd]) (f.num) ((f.den : Int))) := qv_of IVnf.out IVdf.out
  refine Rg.region_gg W9 [.is (.agg #[.bool sfn, .slice Xfn pfn qfn, .bool sfd, .slice Xfd pfd qfd]), .is (Value.bool true), .is (Value.bool true), .is (.agg #[.bool sfn, .slice Xfn pfn qfn, .bool sfd, .slice Xfd pfd qfd]), .is (.agg #[.bool san, .slice Xan pan qan, .bool sad, .slice Xad pad qad]), .is (Value.int IntKind.i64 (u)), .is (Value.bool true), .is (Value.bool true), .is (Value.bool true), .is (.agg #[.bool san, .slice Xan pan qan, .bool sad, .slice Xad pad qad]), .is (.agg #[.bool sfn, .slice Xfn pfn qfn, .bool sfd, .slice Xfd pfd qfd]), .sat (pQv (((1 : Int) : Rat).num) ((((1 : Int) : Rat).den : Int))) (pQv_keep _ _), .sat (pQv ((f + ((1 : Int) : Rat)).num) (((f + ((1 : Int) : Rat)).den : Int))) (pQv_keep _ _), .is (Value.int IntKind.i64 (-1)), .is (Value.bool true), .is (Value.bool true), .is (Value.bool true), .is (Value.bool true), .is (Value.bool true), .is (Value.bool true)] [] [some 83, some 84, some 85, some 86, some 87, some 88, some 89, some 90, some 91, some 92, some 93, some 94, some 95, some 96, some 97, some 98, some 99, some 100, some 101, some 2] (by kernel_rfl) (by kernel_rfl) (by kernel_rfl) (by kernel_rfl) (by kernel_rfl) (by simp [Rg.stos]) (by rfl) (by rfl) (by kernel_rfl) (by simp) ((Below.refl _ _).drew) (fun Q' => ?_) (fun K hK wn hs => ?_)
  · refine ⟨?_, ?_, ?_, ?_, ?_, ?_, ?_, ?_, ?_, ?_, ?_, ?_, ?_, ?_, ?_, ?_, ?_, ?_, ?_, ?_, trivial⟩
    · intro a' w' ha hs hw hold
      have eo8 : a'.tmps[8]? = some (ptr gf) := (ha.rest 8 (by kernel_rfl)).trans rfl
      exact ⟨rfl, .inl ⟨wanted_none rfl, wp_val (run_qload rfl (ev_tmp eo8) (QXf.out.bel hs (by simp))) ⟨rfl, Below.refl _ _⟩⟩⟩
    · intro a' w' ha hs hw hold
      have e0 : a'.tmps[83]? = some (.agg #[.bool sfn, .slice Xfn pfn qfn, .bool sfd, .slice Xfd pfd qfd]) := Rg.slot_get rfl rfl (hw 0 (by kernel_rfl) _ rfl)
      exact ⟨rfl, .inl ⟨wanted_none rfl, call_step rfl Tryz.func45 (by kernel_rfl) rfl (map_one (ev_tmp e0)) (valid_is _ f _ (QVf.out.kn hs.kn) (SF.out.mono (by decide))) (fun e w2 he => by obtain ⟨rfl, hb⟩ := he; exact ⟨_, rfl, rfl, hb⟩)⟩⟩
    · intro a' w' ha hs hw hold
      have e1 : a'.tmps[84]? = some (Value.bool true) := Rg.slot_get rfl rfl (hw 1 (by kernel_rfl) _ rfl)
      exact ⟨rfl, .inl ⟨wanted_none rfl, wp_val (run_move rfl (ev_tmp e1)) ⟨rfl, Below.refl _ _⟩⟩⟩
    · intro a' w' ha hs hw hold
      have e2 : a'.tmps[85]? = some (Value.bool true) := Rg.slot_get rfl rfl (hw 2 (by kernel_rfl) _ rfl)
      have eo8 : a'.tmps[8]? = some (ptr gf) := (ha.rest 8 (by kernel_rfl)).trans rfl
      exact ⟨rfl, .inl ⟨wanted_some rfl rfl rfl e2, wp_val (run_qload rfl (ev_tmp eo8) (QXf.out.bel hs (by simp))) ⟨rfl, Below.refl _ _⟩⟩⟩
    · intro a' w' ha hs hw hold
      have e2 : a'.tmps[85]? = some (Value.bool true) := Rg.slot_get rfl rfl (hw 2 (by kernel_rfl) _ rfl)
      have eo4 : a'.tmps[4]? = some (ptr ga) := (ha.rest 4 (by kernel_rfl)).trans rfl
      exact ⟨rfl, .inl ⟨wanted_some rfl rfl rfl e2, wp_val (run_qload rfl (ev_tmp eo4) (QXa.out.bel hs (by simp))) ⟨rfl, Below.refl _ _⟩⟩⟩
    · intro a' w' ha hs hw hold
      have e2 : a'.tmps[85]? = some (Value.bool true) := Rg.slot_get rfl rfl (hw 2 (by kernel_rfl) _ rfl)
      have e3 : a'.tmps[86]? = some (.agg #[.bool sfn, .slice Xfn pfn qfn, .bool sfd, .slice Xfd pfd qfd]) := Rg.slot_get rfl rfl (hw 3 (by kernel_rfl) _ rfl)
      have e4 : a'.tmps[87]? = some (.agg #[.bool san, .slice Xan pan qan, .bool sad, .slice Xad pad qad]) := Rg.slot_get rfl rfl (hw 4 (by kernel_rfl) _ rfl)
      exact ⟨rfl, .inl ⟨wanted_some rfl rfl rfl e2, call_step rfl Tryz.func39 (by kernel_rfl) rfl (map_two (ev_tmp e3) (ev_tmp e4)) (qcmp_is _ _ f a (u) _ (QVf.out.kn hs.kn) (SF.out.mono (show 7 ≤ 100000 by decide)) (QVa.out.kn hs.kn) (SA.out.mono (show 7 ≤ 100000 by decide)) (hu.out)) (fun e w2 he => by obtain ⟨rfl, hb⟩ := he; exact ⟨_, rfl, rfl, hb⟩)⟩⟩
    · intro a' w' ha hs hw hold
      have e2 : a'.tmps[85]? = some (Value.bool true) := Rg.slot_get rfl rfl (hw 2 (by kernel_rfl) _ rfl)
      have e5 : a'.tmps[88]? = some (Value.int IntKind.i64 (u)) := Rg.slot_get rfl rfl (hw 5 (by kernel_rfl) _ rfl)
      exact ⟨rfl, .inl ⟨wanted_some rfl rfl rfl e2, wp_val (run_leqT rfl (ev_tmp e5) rfl WU.out) ⟨rfl, Below.refl _ _⟩⟩⟩
    · intro a' w' ha hs hw hold
      have e2 : a'.tmps[85]? = some (Value.bool true) := Rg.slot_get rfl rfl (hw 2 (by kernel_rfl) _ rfl)
      have e6 : a'.tmps[89]? = some (Value.bool true) := Rg.slot_get rfl rfl (hw 6 (by kernel_rfl) _ rfl)
      exact ⟨rfl, .inl ⟨wanted_none rfl, wp_val (run_pick (b := true) rfl (ev_tmp e2) (ev_tmp e6)) ⟨rfl, Below.refl _ _⟩⟩⟩
    · intro a' w' ha hs hw hold
      have e7 : a'.tmps[90]? = some (Value.bool true) := Rg.slot_get rfl rfl (hw 7 (by kernel_rfl) _ rfl)
      exact ⟨rfl, .inl ⟨wanted_none rfl, wp_val (run_move rfl (ev_tmp e7)) ⟨rfl, Below.refl _ _⟩⟩⟩
    · intro a' w' ha hs hw hold
      have e8 : a'.tmps[91]? = some (Value.bool true) := Rg.slot_get rfl rfl (hw 8 (by kernel_rfl) _ rfl)
      have eo4 : a'.tmps[4]? = some (ptr ga) := (ha.rest 4 (by kernel_rfl)).trans rfl
      exact ⟨rfl, .inl ⟨wanted_some rfl rfl rfl e8, wp_val (run_qload rfl (ev_tmp eo4) (QXa.out.bel hs (by simp))) ⟨rfl, Below.refl _ _⟩⟩⟩
    · intro a' w' ha hs hw hold
      have e8 : a'.tmps[91]? = some (Value.bool true) := Rg.slot_get rfl rfl (hw 8 (by kernel_rfl) _ rfl)
      have eo8 : a'.tmps[8]? = some (ptr gf) := (ha.rest 8 (by kernel_rfl)).trans rfl
      exact ⟨rfl, .inl ⟨wanted_some rfl rfl rfl e8, wp_val (run_qload rfl (ev_tmp eo8) (QXf.out.bel hs (by simp))) ⟨rfl, Below.refl _ _⟩⟩⟩
    · intro a' w' ha hs hw hold
      have e8 : a'.tmps[91]? = some (Value.bool true) := Rg.slot_get rfl rfl (hw 8 (by kernel_rfl) _ rfl)
      exact ⟨rfl, wanted_some rfl rfl rfl e8, call_step rfl Tryz.func25 (by kernel_rfl) rfl (map_one rfl) (whole_any (1) _ (by decide) (by decide)) (fun e w2 he => by obtain ⟨v, rfl, hv, hb⟩ := he; exact ⟨v, rfl, v, rfl, hv, hb⟩)⟩
    · intro a' w' ha hs hw hold
      have e8 : a'.tmps[91]? = some (Value.bool true) := Rg.slot_get rfl rfl (hw 8 (by kernel_rfl) _ rfl)
      have e10 : a'.tmps[93]? = some (.agg #[.bool sfn, .slice Xfn pfn qfn, .bool sfd, .slice Xfd pfd qfd]) := Rg.slot_get rfl rfl (hw 10 (by kernel_rfl) _ rfl)
      obtain ⟨v11, e11, q11⟩ := hw 11 (by kernel_rfl) _ rfl
      replace e11 : a'.tmps[94]? = some v11 := Rg.slot_get rfl rfl e11
      exact ⟨rfl, wanted_some rfl rfl rfl e8, call_step rfl Tryz.func17 (by kernel_rfl) rfl (map_two (ev_tmp e10) (ev_tmp e11)) (qadd_any _ _ f ((1 : Int) : Rat) _ (QVf.out.kn hs.kn) q11 (SF.out.mono (show 7 ≤ 100000 by decide)) ((Sr.whole (by decide)).mono (show 2 ≤ 100000 by decide))) (fun e w2 he => by obtain ⟨v, rfl, hv, hb⟩ := he; exact ⟨v, rfl, v, rfl, hv, hb⟩)⟩
    · intro a' w' ha hs hw hold
      have e8 : a'.tmps[91]? = some (Value.bool true) := Rg.slot_get rfl rfl (hw 8 (by kernel_rfl) _ rfl)
      have e9 : a'.tmps[92]? = some (.agg #[.bool san, .slice Xan pan qan, .bool sad, .slice Xad pad qad]) := Rg.slot_get rfl rfl (hw 9 (by kernel_rfl) _ rfl)
      obtain ⟨v12, e12, q12⟩ := hw 12 (by kernel_rfl) _ rfl
      replace e12 : a'.tmps[95]? = some v12 := Rg.slot_get rfl rfl e12
      exact ⟨rfl, .inl ⟨wanted_some rfl rfl rfl e8, call_step rfl Tryz.func39 (by kernel_rfl) rfl (map_two (ev_tmp e9) (ev_tmp e12)) (qcmp_is _ _ a (f + ((1 : Int) : Rat)) (-1) _ (QVa.out.kn hs.kn) (SA.out.mono (show 7 ≤ 100000 by decide)) q12 ((SF.out.add (Sr.whole (by decide))).mono (show 10 ≤ 100000 by decide)) (or_above _ hfn.out hfd.out)) (fun e w2 he => by obtain ⟨rfl, hb⟩ := he; exact ⟨_, rfl, rfl, hb⟩)⟩⟩
    · intro a' w' ha hs hw hold
      have e8 : a'.tmps[91]? = some (Value.bool true) := Rg.slot_get rfl rfl (hw 8 (by kernel_rfl) _ rfl)
      have e13 : a'.tmps[96]? = some (Value.int IntKind.i64 (-1)) := Rg.slot_get rfl rfl (hw 13 (by kernel_rfl) _ rfl)
      exact ⟨rfl, .inl ⟨wanted_some rfl rfl rfl e8, wp_val (show _ = _ from (run_lss_int rfl (ev_tmp e13) rfl).trans (by rfl)) ⟨rfl, Below.refl _ _⟩⟩⟩
    · intro a' w' ha hs hw hold
      have e8 : a'.tmps[91]? = some (Value.bool true) := Rg.slot_get rfl rfl (hw 8 (by kernel_rfl) _ rfl)
      have e14 : a'.tmps[97]? = some (Value.bool true) := Rg.slot_get rfl rfl (hw 14 (by kernel_rfl) _ rfl)
      exact ⟨rfl, .inl ⟨wanted_none rfl, wp_val (run_pick (b := true) rfl (ev_tmp e8) (ev_tmp e14)) ⟨rfl, Below.refl _ _⟩⟩⟩
    · intro a' w' ha hs hw hold
      have e15 : a'.tmps[98]? = some (Value.bool true) := Rg.slot_get rfl rfl (hw 15 (by kernel_rfl) _ rfl)
      exact ⟨rfl, .inl ⟨wanted_none rfl, wp_val (run_move rfl (ev_tmp e15)) ⟨rfl, Below.refl _ _⟩⟩⟩
    · intro a' w' ha hs hw hold
      have e16 : a'.tmps[99]? = some (Value.bool true) := Rg.slot_get rfl rfl (hw 16 (by kernel_rfl) _ rfl)
      have eo3 : a'.tmps[3]? = some (Value.bool true) := (ha.rest 3 (by kernel_rfl)).trans rfl
      exact ⟨rfl, .inl ⟨wanted_some rfl rfl rfl e16, wp_val (run_move rfl (ev_tmp eo3)) ⟨rfl, Below.refl _ _⟩⟩⟩
    · intro a' w' ha hs hw hold
      have e16 : a'.tmps[99]? = some (Value.bool true) := Rg.slot_get rfl rfl (hw 16 (by kernel_rfl) _ rfl)
      have e17 : a'.tmps[100]? = some (Value.bool true) := Rg.slot_get rfl rfl (hw 17 (by kernel_rfl) _ rfl)
      exact ⟨rfl, .inl ⟨wanted_none rfl, wp_val (run_pick (b := true) rfl (ev_tmp e16) (ev_tmp e17)) ⟨rfl, Below.refl _ _⟩⟩⟩
    · intro a' w' ha hs hw hold
      have e18 : a'.tmps[101]? = some (Value.bool true) := Rg.slot_get rfl rfl (hw 18 (by kernel_rfl) _ rfl)
      exact ⟨rfl, .inl ⟨wanted_none rfl, wp_val (run_assign rfl (ev_tmp e18)) ⟨rfl, Below.refl _ _⟩⟩⟩
  simp only [Rg.allG]
  intro r10x11 _
  intro r10x12 _
  simp only [setOpt, Rg.setOpt, List.set_cons_succ, List.set_cons_zero]
  refine hK _ _ ?_
  clear hK K
  replace hs := hs.below
  replace QXa := Lib.hid (QXa.out.next hs rfl); replace IVna := Lib.hid (iv_next IVna.out hs rfl); replace IVda := Lib.hid (iv_next IVda.out hs rfl)
  replace QXb := Lib.hid (QXb.out.next hs rfl); replace IVnb := Lib.hid (iv_next IVnb.out hs rfl); replace IVdb := Lib.hid (iv_next IVdb.out hs rfl)
  replace QXc := Lib.hid (QXc.out.next hs rfl); replace IVnc := Lib.hid (iv_next IVnc.out hs rfl); replace IVdc := Lib.hid (iv_next IVdc.out hs rfl)
  replace QXf := Lib.hid (QXf.out.next hs rfl); replace IVnf := Lib.hid (iv_next IVnf.out hs rfl); replace IVdf := Lib.hid (iv_next IVdf.out hs rfl)
  replace TX := Lib.hid (TX.out.next hs rfl)
  replace DW := Lib.hid (link_below DW.out hs (by have := DW.out.size; have := hg.out; omega) rfl rfl rfl rfl)
  clear hs
  go_wp2
  go_ret
  exact ⟨rfl, by rw [hg.out]; exact DW.out⟩
end Go.Proofs.YtfigimfdojbkeaaGreat
