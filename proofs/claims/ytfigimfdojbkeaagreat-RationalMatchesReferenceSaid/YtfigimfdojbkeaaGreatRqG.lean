/-
 The reference's functions on fractions.
-/
import Derived.Test.YtfigimfdojbkeaaGreatRqF
import Derived.Test.YtfigimfdojbkeaaGreatRatS
import Derived.Deep.DeepCutAuto
import Derived.Handy
set_option linter.unusedSimpArgs false
set_option linter.unusedVariables false
namespace Go.Proofs.YtfigimfdojbkeaaGreat
open Go.RowKit
attribute [local go_sem ↓] Go.wp_at_zero Go.wp_at_succ

set_option maxHeartbeats 8000000 in
set_option maxRecDepth 100000 in
theorem lawMatch_any (n0 d0 k0 n1 d1 k1 z : Int) (w : World) (h0 : Rw n0 d0 k0) (h1 : Rw n1 d1 k1) (hz : -9223372036854775808 ≤ z ∧ z ≤ 9223372036854775807) : Calls Tryz.prog 3 #[.agg #[.int .i8 n0, .int .i8 d0, .int .u8 k0, .int .i8 n1, .int .i8 d1, .int .u8 k1], .int .i64 z] w (RetV (.bool true) w) := by
 obtain ⟨a, ea⟩ : ∃ r, mkQ n0 d0 k0 = r := ⟨_, rfl⟩
 obtain ⟨b, eb⟩ : ∃ r, mkQ n1 d1 k1 = r := ⟨_, rfl⟩
 have SA : Hid (Sr a 7) := ea ▸ mkQ_sr h0
 have SB : Hid (Sr b 7) := eb ▸ mkQ_sr h1
 obtain ⟨ni, di, ci, SNi, SDi, PIq, PIs⟩ := pair_inv a (SA.out.mono (by decide))
 obtain ⟨nd, dd, cd, SNd, SDd, PDq, PDs⟩ := pair_div a b (SA.out.mono (by decide)) (SB.out.mono (by decide))
 obtain ⟨nb, db, cb, SNb, SDb, PBq, PBs⟩ := pair_btw a b (SA.out.mono (by decide)) (SB.out.mono (by decide))
 obtain ⟨F, hF⟩ : ∃ F, a.num / (a.den : Int) = F := ⟨_, rfl⟩
 have SF : Hid (Sz F 7) := hF ▸ SA.out.num.divs
 obtain ⟨o, ho⟩ : ∃ o, cq a b = o := ⟨_, rfl⟩
 obtain ⟨p, hp⟩ : ∃ o, sg a.num = o := ⟨_, rfl⟩
 obtain ⟨bt, hbt⟩ : ∃ r : Int, ((bl a.num.natAbs : Nat) : Int) + (bl (a.den : Int).natAbs : Nat) = r := ⟨_, rfl⟩
 obtain ⟨tx, htx⟩ : ∃ t, qtx a = t := ⟨_, rfl⟩
 replace hF := Lib.hid hF; replace ho := Lib.hid ho; replace hp := Lib.hid hp; replace hbt := Lib.hid hbt; replace htx := Lib.hid htx
 replace ea := Lib.hid ea; replace eb := Lib.hid eb; replace hz := Lib.hid hz
 replace h0 := Lib.hid h0; replace h1 := Lib.hid h1
 go_enter Tryz.func3, Tryz.ntmps3
 go_wp2_with fail
 obtain ⟨W, hW⟩ : ∃ W, W = w.alloc (Obj.cells #[Value.int IntKind.i8 n0, Value.int IntKind.i8 d0, Value.int IntKind.u8 k0, Value.int IntKind.i8 n1, Value.int IntKind.i8 d1, Value.int IntKind.u8 k1] 25) := ⟨_, rfl⟩
 rw [← hW]
 have TX : Hid (T2 W w.heap.size n0 d0 k0 n1 d1 k1) := by rw [hW]; exact T2.new _ _ _ _ _ _ _
 have DW : Hid (Below w.heap.size w W) := by rw [hW]; exact (Below.refl _ _).alloc (Nat.le_refl _) _
 clear hW
 generalize hg : w.heap.size = g at *
 replace hg := Lib.hid hg
 refine (examples_any _).mono ?_
 rintro e y0 ⟨rfl, hb⟩
 replace TX := Lib.hid (TX.out.next hb rfl)
 replace DW := nxd DW hg hb rfl rfl rfl rfl
 clear hb
 go_upto_region 4 with fail
 refine Rg.region_gg y0 [.is (.pointer (some ⟨g, 0, none⟩)), .is (.agg #[.int .i8 n0, .int .i8 d0, .int .u8 k0]), .sat (pQv (a.num) ((a.den : Int))) (pQv_keep _ _), .is (.pointer (some ⟨g, 3, none⟩)), .is (.agg #[.int .i8 n1, .int .i8 d1, .int .u8 k1]), .sat (pQv (b.num) ((b.den : Int))) (pQv_keep _ _), .own pNewQ pNewQ_keep, .own pNewQ pNewQ_keep, .put 6 (pPutQ (a.num) ((a.den : Int))) (pPutQ_keep _ _), .put 7 (pPutQ (b.num) ((b.den : Int))) (pPutQ_keep _ _)] [] [some 24, some 25, some 26, some 27, some 28, some 29, some 6, some 7, none, none] (by kernel_rfl) (by kernel_rfl) (by kernel_rfl) (by kernel_rfl) (by kernel_rfl) (by simp [Rg.stos]) (by rfl) (by rfl) (by kernel_rfl) (by simp) ((Below.refl _ _).drew) (fun Q' => ?_) (fun K hK wn hs => ?_)
 ·refine ⟨?_, ?_, ?_, ?_, ?_, ?_, ?_, ?_, ?_, ?_, trivial⟩
  ·intro a' w' ha hs hw hold
   have eo2 : a'.tmps[2]? = some (ptr g) := (ha.rest 2 (by kernel_rfl)).trans rfl
   exact ⟨rfl, .inl ⟨wanted_none rfl, wp_val (run_at2 0 rfl (ev_tmp eo2) rfl (by omega)) ⟨rfl, Below.refl _ _⟩⟩⟩
  ·intro a' w' ha hs hw hold
   have e0 : a'.tmps[24]? = some (.pointer (some ⟨g, 0, none⟩)) := Rg.slot_get rfl rfl (hw 0 (by kernel_rfl) _ rfl)
   exact ⟨rfl, .inl ⟨wanted_none rfl, wp_val (run_load20 rfl (ev_tmp e0) (TX.out.bel hs (by simp))) ⟨rfl, Below.refl _ _⟩⟩⟩
  ·intro a' w' ha hs hw hold
   have e1 : a'.tmps[25]? = some (.agg #[.int .i8 n0, .int .i8 d0, .int .u8 k0]) := Rg.slot_get rfl rfl (hw 1 (by kernel_rfl) _ rfl)
   exact ⟨rfl, wanted_none rfl, call_step rfl Tryz.func15 (by kernel_rfl) rfl (map_one (ev_tmp e1)) (made_is a _ h0.out ea.out) (fun e w2 he => by obtain ⟨v, rfl, hv, hb⟩ := he; exact ⟨v, rfl, v, rfl, hv, hb⟩)⟩
  ·intro a' w' ha hs hw hold
   have eo2 : a'.tmps[2]? = some (ptr g) := (ha.rest 2 (by kernel_rfl)).trans rfl
   exact ⟨rfl, .inl ⟨wanted_none rfl, wp_val (run_at2 1 rfl (ev_tmp eo2) rfl (by omega)) ⟨rfl, Below.refl _ _⟩⟩⟩
  ·intro a' w' ha hs hw hold
   have e3 : a'.tmps[27]? = some (.pointer (some ⟨g, 3, none⟩)) := Rg.slot_get rfl rfl (hw 3 (by kernel_rfl) _ rfl)
   exact ⟨rfl, .inl ⟨wanted_none rfl, wp_val (run_load21 rfl (ev_tmp e3) (TX.out.bel hs (by simp))) ⟨rfl, Below.refl _ _⟩⟩⟩
  ·intro a' w' ha hs hw hold
   have e4 : a'.tmps[28]? = some (.agg #[.int .i8 n1, .int .i8 d1, .int .u8 k1]) := Rg.slot_get rfl rfl (hw 4 (by kernel_rfl) _ rfl)
   exact ⟨rfl, wanted_none rfl, call_step rfl Tryz.func15 (by kernel_rfl) rfl (map_one (ev_tmp e4)) (made_is b _ h1.out eb.out) (fun e w2 he => by obtain ⟨v, rfl, hv, hb⟩ := he; exact ⟨v, rfl, v, rfl, hv, hb⟩)⟩
  ·intro a' w' ha hs hw hold
   exact ⟨rfl, wanted_none rfl, step_newq rfl⟩
  ·intro a' w' ha hs hw hold
   exact ⟨rfl, wanted_none rfl, step_newq rfl⟩
  ·intro a' w' ha hs hw hold
   obtain ⟨v2, e2, q2⟩ := hw 2 (by kernel_rfl) _ rfl
   replace e2 : a'.tmps[26]? = some v2 := Rg.slot_get rfl rfl e2
   refine ⟨rfl, wanted_none rfl, by kernel_rfl, fun pv pg pp ph pe1 pe2 pe3 pe4 => ?_⟩
   cases pe1
   exact step_putq rfl rfl (ev_tmp (Rg.slot_get rfl rfl pe2)) (ev_tmp e2) pe3 pe4 q2
  ·intro a' w' ha hs hw hold
   obtain ⟨v5, e5, q5⟩ := hw 5 (by kernel_rfl) _ rfl
   replace e5 : a'.tmps[29]? = some v5 := Rg.slot_get rfl rfl e5
   refine ⟨rfl, wanted_none rfl, by kernel_rfl, fun pv pg pp ph pe1 pe2 pe3 pe4 => ?_⟩
   cases pe1
   exact step_putq rfl rfl (ev_tmp (Rg.slot_get rfl rfl pe2)) (ev_tmp e5) pe3 pe4 q5
 simp only [Rg.allG]
 intro r1x2 _
 intro r1x5 _
 intro a1x6 gb1x6 hE1x6 hB1x6 _ hN1x6 _
 intro a1x7 gb1x7 hE1x7 hB1x7 _ hN1x7 _
 intro v1 he hp
 simp only [List.nil_append, List.cons_append, List.getElem?_cons_succ, List.getElem?_cons_zero, Option.some.injEq] at he
 subst he
 obtain ⟨ga, rfl, Xan, pan, qan, Xad, pad, qad, QXa, IVna, IVda⟩ := hp
 intro v1 he hp
 simp only [List.nil_append, List.cons_append, List.getElem?_cons_succ, List.getElem?_cons_zero, Option.some.injEq] at he
 subst he
 obtain ⟨gb, rfl, Xbn, pbn, qbn, Xbd, pbd, qbd, QXb, IVnb, IVdb⟩ := hp
 simp only [setOpt, Rg.setOpt, List.set_cons_succ, List.set_cons_zero, ptr]
 refine hK _ _ ?_
 clear hK K
 replace hs := hs.below
 have hgb : ga = gb1x6 := Option.some.inj hE1x6
 clear hgb
 have hgb : gb = gb1x7 := Option.some.inj hE1x7
 clear hgb
 clear hE1x6 hB1x6 hN1x6 hE1x7 hB1x7 hN1x7
 replace TX := Lib.hid (TX.out.next hs rfl)
 replace DW := nxd DW hg hs rfl rfl rfl rfl
 generalize hsg : decide ((a.num : Int) < 0) = san at *
 clear hsg
 generalize hsg : decide (((a.den : Int) : Int) < 0) = sad at *
 clear hsg
 replace QXa := Lib.hid QXa; replace IVna := Lib.hid IVna; replace IVda := Lib.hid IVda
 generalize hsg : decide ((b.num : Int) < 0) = sbn at *
 clear hsg
 generalize hsg : decide (((b.den : Int) : Int) < 0) = sbd at *
 clear hsg
 replace QXb := Lib.hid QXb; replace IVnb := Lib.hid IVnb; replace IVdb := Lib.hid IVdb
 clear hs
 clear TX
 go_upto_region 5 with fail
 have QVa : Hid (Qv wn (.agg #[.bool san, .slice Xan pan qan, .bool sad, .slice Xad pad qad]) (a.num) ((a.den : Int))) := qv_of IVna.out IVda.out
 have QVb : Hid (Qv wn (.agg #[.bool sbn, .slice Xbn pbn qbn, .bool sbd, .slice Xbd pbd qbd]) (b.num) ((b.den : Int))) := qv_of IVnb.out IVdb.out
 refine Rg.region_gg wn [.is (.agg #[.bool san, .slice Xan pan qan, .bool sad, .slice Xad pad qad]), .is (.agg #[.bool sbn, .slice Xbn pbn qbn, .bool sbd, .slice Xbd pbd qbd]), .sat (pQv ((a + b).num) (((a + b).den : Int))) (pQv_keep _ _), .is (.agg #[.bool san, .slice Xan pan qan, .bool sad, .slice Xad pad qad]), .is (.agg #[.bool sbn, .slice Xbn pbn qbn, .bool sbd, .slice Xbd pbd qbd]), .sat (pQv ((a + b).num) (((a + b).den : Int))) (pQv_keep _ _), .is (Value.bool true), .is (Value.bool false), .is (Value.bool false), .is (.agg #[.bool san, .slice Xan pan qan, .bool sad, .slice Xad pad qad]), .is (.agg #[.bool sbn, .slice Xbn pbn qbn, .bool sbd, .slice Xbd pbd qbd]), .sat (pQv ((a - b).num) (((a - b).den : Int))) (pQv_keep _ _), .is (.agg #[.bool san, .slice Xan pan qan, .bool sad, .slice Xad pad qad]), .is (.agg #[.bool sbn, .slice Xbn pbn qbn, .bool sbd, .slice Xbd pbd qbd]), .sat (pQv ((a - b).num) (((a - b).den : Int))) (pQv_keep _ _), .is (Value.bool true), .is (Value.bool false), .is (Value.bool false), .is (Value.bool false), .is (.agg #[.bool san, .slice Xan pan qan, .bool sad, .slice Xad pad qad]), .is (.agg #[.bool sbn, .slice Xbn pbn qbn, .bool sbd, .slice Xbd pbd qbd]), .sat (pQv ((a * b).num) (((a * b).den : Int))) (pQv_keep _ _), .is (.agg #[.bool san, .slice Xan pan qan, .bool sad, .slice Xad pad qad]), .is (.agg #[.bool sbn, .slice Xbn pbn qbn, .bool sbd, .slice Xbd pbd qbd]), .sat (pQv ((a * b).num) (((a * b).den : Int))) (pQv_keep _ _), .is (Value.bool true), .is (Value.bool false), .is (Value.bool false), .is (Value.bool false), .is (.agg #[.bool san, .slice Xan pan qan, .bool sad, .slice Xad pad qad]), .sat (pQv ((-a).num) (((-a).den : Int))) (pQv_keep _ _), .is (.agg #[.bool san, .slice Xan pan qan, .bool sad, .slice Xad pad qad]), .sat (pQv ((-a).num) (((-a).den : Int))) (pQv_keep _ _), .is (Value.bool true), .is (Value.bool false), .is (Value.bool false), .is (Value.bool false), .is (Value.int IntKind.i64 z), .sat (pQv (((z : Int) : Rat).num) ((((z : Int) : Rat).den : Int))) (pQv_keep _ _), .is (Value.int IntKind.i64 z), .sat (pQv (((z : Int) : Rat).num) ((((z : Int) : Rat).den : Int))) (pQv_keep _ _), .is (Value.bool true), .is (Value.bool false), .is (Value.bool false)] [] [some 30, some 31, some 32, some 33, some 34, some 35, some 36, some 37, some 38, some 39, some 40, some 41, some 42, some 43, some 44, some 45, some 46, some 47, some 48, some 49, some 50, some 51, some 52, some 53, some 54, some 55, some 56, some 57, some 58, some 59, some 60, some 61, some 62, some 63, some 64, some 65, some 66, some 67, some 68, some 69, some 70, some 71, some 72, some 73] (by kernel_rfl) (by kernel_rfl) (by kernel_rfl) (by kernel_rfl) (by kernel_rfl) (by simp [Rg.stos]) (by rfl) (by rfl) (by kernel_rfl) (by simp) ((Below.refl _ _).drew) (fun Q' => ?_) (fun K hK wn hs => ?_)
 ·refine ⟨?_, ?_, ?_, ?_, ?_, ?_, ?_, ?_, ?_, ?_, ?_, ?_, ?_, ?_, ?_, ?_, ?_, ?_, ?_, ?_, ?_, ?_, ?_, ?_, ?_, ?_, ?_, ?_, ?_, ?_, ?_, ?_, ?_, ?_, ?_, ?_, ?_, ?_, ?_, ?_, ?_, ?_, ?_, ?_, trivial⟩
  ·intro a' w' ha hs hw hold
   have eo6 : a'.tmps[6]? = some (ptr ga) := (ha.rest 6 (by kernel_rfl)).trans rfl
   exact ⟨rfl, .inl ⟨wanted_none rfl, wp_val (run_qload rfl (ev_tmp eo6) (QXa.out.bel hs (by simp))) ⟨rfl, Below.refl _ _⟩⟩⟩
  ·intro a' w' ha hs hw hold
   have eo7 : a'.tmps[7]? = some (ptr gb) := (ha.rest 7 (by kernel_rfl)).trans rfl
   exact ⟨rfl, .inl ⟨wanted_none rfl, wp_val (run_qload rfl (ev_tmp eo7) (QXb.out.bel hs (by simp))) ⟨rfl, Below.refl _ _⟩⟩⟩
  ·intro a' w' ha hs hw hold
   have e0 : a'.tmps[30]? = some (.agg #[.bool san, .slice Xan pan qan, .bool sad, .slice Xad pad qad]) := Rg.slot_get rfl rfl (hw 0 (by kernel_rfl) _ rfl)
   have e1 : a'.tmps[31]? = some (.agg #[.bool sbn, .slice Xbn pbn qbn, .bool sbd, .slice Xbd pbd qbd]) := Rg.slot_get rfl rfl (hw 1 (by kernel_rfl) _ rfl)
   exact ⟨rfl, wanted_none rfl, call_step rfl Tryz.func17 (by kernel_rfl) rfl (map_two (ev_tmp e0) (ev_tmp e1)) (qadd_any _ _ a b _ (QVa.out.kn hs.kn) (QVb.out.kn hs.kn) (SA.out.mono (show 7 ≤ 100000 by decide)) (SB.out.mono (show 7 ≤ 100000 by decide))) (fun e w2 he => by obtain ⟨v, rfl, hv, hb⟩ := he; exact ⟨v, rfl, v, rfl, hv, hb⟩)⟩
  ·intro a' w' ha hs hw hold
   have eo6 : a'.tmps[6]? = some (ptr ga) := (ha.rest 6 (by kernel_rfl)).trans rfl
   exact ⟨rfl, .inl ⟨wanted_none rfl, wp_val (run_qload rfl (ev_tmp eo6) (QXa.out.bel hs (by simp))) ⟨rfl, Below.refl _ _⟩⟩⟩
  ·intro a' w' ha hs hw hold
   have eo7 : a'.tmps[7]? = some (ptr gb) := (ha.rest 7 (by kernel_rfl)).trans rfl
   exact ⟨rfl, .inl ⟨wanted_none rfl, wp_val (run_qload rfl (ev_tmp eo7) (QXb.out.bel hs (by simp))) ⟨rfl, Below.refl _ _⟩⟩⟩
  ·intro a' w' ha hs hw hold
   have e3 : a'.tmps[33]? = some (.agg #[.bool san, .slice Xan pan qan, .bool sad, .slice Xad pad qad]) := Rg.slot_get rfl rfl (hw 3 (by kernel_rfl) _ rfl)
   have e4 : a'.tmps[34]? = some (.agg #[.bool sbn, .slice Xbn pbn qbn, .bool sbd, .slice Xbd pbd qbd]) := Rg.slot_get rfl rfl (hw 4 (by kernel_rfl) _ rfl)
   exact ⟨rfl, wanted_none rfl, call_step rfl Tryz.func18 (by kernel_rfl) rfl (map_two (ev_tmp e3) (ev_tmp e4)) (rqadd_any _ _ a b _ (QVa.out.kn hs.kn) (SA.out.mono (show 7 ≤ 20000 by decide)) (QVb.out.kn hs.kn) (SB.out.mono (show 7 ≤ 20000 by decide))) (fun e w2 he => by obtain ⟨v, rfl, hv, hb⟩ := he; exact ⟨v, rfl, v, rfl, hv, hb⟩)⟩
  ·intro a' w' ha hs hw hold
   obtain ⟨v2, e2, q2⟩ := hw 2 (by kernel_rfl) _ rfl
   replace e2 : a'.tmps[32]? = some v2 := Rg.slot_get rfl rfl e2
   obtain ⟨v5, e5, q5⟩ := hw 5 (by kernel_rfl) _ rfl
   replace e5 : a'.tmps[35]? = some v5 := Rg.slot_get rfl rfl e5
   exact ⟨rfl, .inl ⟨wanted_none rfl, call_step rfl Tryz.func16 (by kernel_rfl) rfl (map_two (ev_tmp e2) (ev_tmp e5)) (qsame_is _ _ (a + b) (a + b) true _ q2 ((SA.out.add SB.out).mono (show 15 ≤ 1000000 by decide)) q5 ((SA.out.add SB.out).mono (show 15 ≤ 1000000 by decide)) (decide_eq_true rfl)) (fun e w2 he => by obtain ⟨rfl, hb⟩ := he; exact ⟨_, rfl, rfl, hb⟩)⟩⟩
  ·intro a' w' ha hs hw hold
   have e6 : a'.tmps[36]? = some (Value.bool true) := Rg.slot_get rfl rfl (hw 6 (by kernel_rfl) _ rfl)
   exact ⟨rfl, .inl ⟨wanted_none rfl, wp_val (run_not rfl (ev_tmp e6)) ⟨rfl, Below.refl _ _⟩⟩⟩
  ·intro a' w' ha hs hw hold
   have e7 : a'.tmps[37]? = some (Value.bool false) := Rg.slot_get rfl rfl (hw 7 (by kernel_rfl) _ rfl)
   exact ⟨rfl, .inl ⟨wanted_none rfl, wp_val (run_move rfl (ev_tmp e7)) ⟨rfl, Below.refl _ _⟩⟩⟩
  ·intro a' w' ha hs hw hold
   have e8 : a'.tmps[38]? = some (Value.bool false) := Rg.slot_get rfl rfl (hw 8 (by kernel_rfl) _ rfl)
   have eo6 : a'.tmps[6]? = some (ptr ga) := (ha.rest 6 (by kernel_rfl)).trans rfl
   exact ⟨rfl, .inl ⟨wanted_some rfl rfl rfl e8, wp_val (run_qload rfl (ev_tmp eo6) (QXa.out.bel hs (by simp))) ⟨rfl, Below.refl _ _⟩⟩⟩
  ·intro a' w' ha hs hw hold
   have e8 : a'.tmps[38]? = some (Value.bool false) := Rg.slot_get rfl rfl (hw 8 (by kernel_rfl) _ rfl)
   have eo7 : a'.tmps[7]? = some (ptr gb) := (ha.rest 7 (by kernel_rfl)).trans rfl
   exact ⟨rfl, .inl ⟨wanted_some rfl rfl rfl e8, wp_val (run_qload rfl (ev_tmp eo7) (QXb.out.bel hs (by simp))) ⟨rfl, Below.refl _ _⟩⟩⟩
  ·intro a' w' ha hs hw hold
   have e8 : a'.tmps[38]? = some (Value.bool false) := Rg.slot_get rfl rfl (hw 8 (by kernel_rfl) _ rfl)
   have e9 : a'.tmps[39]? = some (.agg #[.bool san, .slice Xan pan qan, .bool sad, .slice Xad pad qad]) := Rg.slot_get rfl rfl (hw 9 (by kernel_rfl) _ rfl)
   have e10 : a'.tmps[40]? = some (.agg #[.bool sbn, .slice Xbn pbn qbn, .bool sbd, .slice Xbd pbd qbd]) := Rg.slot_get rfl rfl (hw 10 (by kernel_rfl) _ rfl)
   exact ⟨rfl, wanted_some rfl rfl rfl e8, call_step rfl Tryz.func19 (by kernel_rfl) rfl (map_two (ev_tmp e9) (ev_tmp e10)) (qsub_any _ _ a b _ (QVa.out.kn hs.kn) (SA.out.mono (show 7 ≤ 100000 by decide)) (QVb.out.kn hs.kn) (SB.out.mono (show 7 ≤ 100000 by decide))) (fun e w2 he => by obtain ⟨v, rfl, hv, hb⟩ := he; exact ⟨v, rfl, v, rfl, hv, hb⟩)⟩
  ·intro a' w' ha hs hw hold
   have e8 : a'.tmps[38]? = some (Value.bool false) := Rg.slot_get rfl rfl (hw 8 (by kernel_rfl) _ rfl)
   have eo6 : a'.tmps[6]? = some (ptr ga) := (ha.rest 6 (by kernel_rfl)).trans rfl
   exact ⟨rfl, .inl ⟨wanted_some rfl rfl rfl e8, wp_val (run_qload rfl (ev_tmp eo6) (QXa.out.bel hs (by simp))) ⟨rfl, Below.refl _ _⟩⟩⟩
  ·intro a' w' ha hs hw hold
   have e8 : a'.tmps[38]? = some (Value.bool false) := Rg.slot_get rfl rfl (hw 8 (by kernel_rfl) _ rfl)
   have eo7 : a'.tmps[7]? = some (ptr gb) := (ha.rest 7 (by kernel_rfl)).trans rfl
   exact ⟨rfl, .inl ⟨wanted_some rfl rfl rfl e8, wp_val (run_qload rfl (ev_tmp eo7) (QXb.out.bel hs (by simp))) ⟨rfl, Below.refl _ _⟩⟩⟩
  ·intro a' w' ha hs hw hold
   have e8 : a'.tmps[38]? = some (Value.bool false) := Rg.slot_get rfl rfl (hw 8 (by kernel_rfl) _ rfl)
   have e12 : a'.tmps[42]? = some (.agg #[.bool san, .slice Xan pan qan, .bool sad, .slice Xad pad qad]) := Rg.slot_get rfl rfl (hw 12 (by kernel_rfl) _ rfl)
   have e13 : a'.tmps[43]? = some (.agg #[.bool sbn, .slice Xbn pbn qbn, .bool sbd, .slice Xbd pbd qbd]) := Rg.slot_get rfl rfl (hw 13 (by kernel_rfl) _ rfl)
   exact ⟨rfl, wanted_some rfl rfl rfl e8, call_step rfl Tryz.func20 (by kernel_rfl) rfl (map_two (ev_tmp e12) (ev_tmp e13)) (rqsub_any _ _ a b _ (QVa.out.kn hs.kn) (SA.out.mono (show 7 ≤ 20000 by decide)) (QVb.out.kn hs.kn) (SB.out.mono (show 7 ≤ 20000 by decide))) (fun e w2 he => by obtain ⟨v, rfl, hv, hb⟩ := he; exact ⟨v, rfl, v, rfl, hv, hb⟩)⟩
  ·intro a' w' ha hs hw hold
   have e8 : a'.tmps[38]? = some (Value.bool false) := Rg.slot_get rfl rfl (hw 8 (by kernel_rfl) _ rfl)
   obtain ⟨v11, e11, q11⟩ := hw 11 (by kernel_rfl) _ rfl
   replace e11 : a'.tmps[41]? = some v11 := Rg.slot_get rfl rfl e11
   obtain ⟨v14, e14, q14⟩ := hw 14 (by kernel_rfl) _ rfl
   replace e14 : a'.tmps[44]? = some v14 := Rg.slot_get rfl rfl e14
   exact ⟨rfl, .inl ⟨wanted_some rfl rfl rfl e8, call_step rfl Tryz.func16 (by kernel_rfl) rfl (map_two (ev_tmp e11) (ev_tmp e14)) (qsame_is _ _ (a - b) (a - b) true _ q11 ((SA.out.sub SB.out).mono (show 15 ≤ 1000000 by decide)) q14 ((SA.out.sub SB.out).mono (show 15 ≤ 1000000 by decide)) (decide_eq_true rfl)) (fun e w2 he => by obtain ⟨rfl, hb⟩ := he; exact ⟨_, rfl, rfl, hb⟩)⟩⟩
  ·intro a' w' ha hs hw hold
   have e8 : a'.tmps[38]? = some (Value.bool false) := Rg.slot_get rfl rfl (hw 8 (by kernel_rfl) _ rfl)
   have e15 : a'.tmps[45]? = some (Value.bool true) := Rg.slot_get rfl rfl (hw 15 (by kernel_rfl) _ rfl)
   exact ⟨rfl, .inl ⟨wanted_some rfl rfl rfl e8, wp_val (run_not rfl (ev_tmp e15)) ⟨rfl, Below.refl _ _⟩⟩⟩
  ·intro a' w' ha hs hw hold
   have e8 : a'.tmps[38]? = some (Value.bool false) := Rg.slot_get rfl rfl (hw 8 (by kernel_rfl) _ rfl)
   have e16 : a'.tmps[46]? = some (Value.bool false) := Rg.slot_get rfl rfl (hw 16 (by kernel_rfl) _ rfl)
   exact ⟨rfl, .inl ⟨wanted_none rfl, wp_val (run_pick (b := false) rfl (ev_tmp e8) (ev_tmp e16)) ⟨rfl, Below.refl _ _⟩⟩⟩
  ·intro a' w' ha hs hw hold
   have e17 : a'.tmps[47]? = some (Value.bool false) := Rg.slot_get rfl rfl (hw 17 (by kernel_rfl) _ rfl)
   exact ⟨rfl, .inl ⟨wanted_none rfl, wp_val (run_move rfl (ev_tmp e17)) ⟨rfl, Below.refl _ _⟩⟩⟩
  ·intro a' w' ha hs hw hold
   have e18 : a'.tmps[48]? = some (Value.bool false) := Rg.slot_get rfl rfl (hw 18 (by kernel_rfl) _ rfl)
   have eo6 : a'.tmps[6]? = some (ptr ga) := (ha.rest 6 (by kernel_rfl)).trans rfl
   exact ⟨rfl, .inl ⟨wanted_some rfl rfl rfl e18, wp_val (run_qload rfl (ev_tmp eo6) (QXa.out.bel hs (by simp))) ⟨rfl, Below.refl _ _⟩⟩⟩
  ·intro a' w' ha hs hw hold
   have e18 : a'.tmps[48]? = some (Value.bool false) := Rg.slot_get rfl rfl (hw 18 (by kernel_rfl) _ rfl)
   have eo7 : a'.tmps[7]? = some (ptr gb) := (ha.rest 7 (by kernel_rfl)).trans rfl
   exact ⟨rfl, .inl ⟨wanted_some rfl rfl rfl e18, wp_val (run_qload rfl (ev_tmp eo7) (QXb.out.bel hs (by simp))) ⟨rfl, Below.refl _ _⟩⟩⟩
  ·intro a' w' ha hs hw hold
   have e18 : a'.tmps[48]? = some (Value.bool false) := Rg.slot_get rfl rfl (hw 18 (by kernel_rfl) _ rfl)
   have e19 : a'.tmps[49]? = some (.agg #[.bool san, .slice Xan pan qan, .bool sad, .slice Xad pad qad]) := Rg.slot_get rfl rfl (hw 19 (by kernel_rfl) _ rfl)
   have e20 : a'.tmps[50]? = some (.agg #[.bool sbn, .slice Xbn pbn qbn, .bool sbd, .slice Xbd pbd qbd]) := Rg.slot_get rfl rfl (hw 20 (by kernel_rfl) _ rfl)
   exact ⟨rfl, wanted_some rfl rfl rfl e18, call_step rfl Tryz.func21 (by kernel_rfl) rfl (map_two (ev_tmp e19) (ev_tmp e20)) (qmul_any _ _ a b _ (QVa.out.kn hs.kn) (QVb.out.kn hs.kn) (SA.out.mono (show 7 ≤ 100000 by decide)) (SB.out.mono (show 7 ≤ 100000 by decide))) (fun e w2 he => by obtain ⟨v, rfl, hv, hb⟩ := he; exact ⟨v, rfl, v, rfl, hv, hb⟩)⟩
  ·intro a' w' ha hs hw hold
   have e18 : a'.tmps[48]? = some (Value.bool false) := Rg.slot_get rfl rfl (hw 18 (by kernel_rfl) _ rfl)
   have eo6 : a'.tmps[6]? = some (ptr ga) := (ha.rest 6 (by kernel_rfl)).trans rfl
   exact ⟨rfl, .inl ⟨wanted_some rfl rfl rfl e18, wp_val (run_qload rfl (ev_tmp eo6) (QXa.out.bel hs (by simp))) ⟨rfl, Below.refl _ _⟩⟩⟩
  ·intro a' w' ha hs hw hold
   have e18 : a'.tmps[48]? = some (Value.bool false) := Rg.slot_get rfl rfl (hw 18 (by kernel_rfl) _ rfl)
   have eo7 : a'.tmps[7]? = some (ptr gb) := (ha.rest 7 (by kernel_rfl)).trans rfl
   exact ⟨rfl, .inl ⟨wanted_some rfl rfl rfl e18, wp_val (run_qload rfl (ev_tmp eo7) (QXb.out.bel hs (by simp))) ⟨rfl, Below.refl _ _⟩⟩⟩
  ·intro a' w' ha hs hw hold
   have e18 : a'.tmps[48]? = some (Value.bool false) := Rg.slot_get rfl rfl (hw 18 (by kernel_rfl) _ rfl)
   have e22 : a'.tmps[52]? = some (.agg #[.bool san, .slice Xan pan qan, .bool sad, .slice Xad pad qad]) := Rg.slot_get rfl rfl (hw 22 (by kernel_rfl) _ rfl)
   have e23 : a'.tmps[53]? = some (.agg #[.bool sbn, .slice Xbn pbn qbn, .bool sbd, .slice Xbd pbd qbd]) := Rg.slot_get rfl rfl (hw 23 (by kernel_rfl) _ rfl)
   exact ⟨rfl, wanted_some rfl rfl rfl e18, call_step rfl Tryz.func22 (by kernel_rfl) rfl (map_two (ev_tmp e22) (ev_tmp e23)) (rqmul_any _ _ a b _ (QVa.out.kn hs.kn) (SA.out.mono (show 7 ≤ 20000 by decide)) (QVb.out.kn hs.kn) (SB.out.mono (show 7 ≤ 20000 by decide))) (fun e w2 he => by obtain ⟨v, rfl, hv, hb⟩ := he; exact ⟨v, rfl, v, rfl, hv, hb⟩)⟩
  ·intro a' w' ha hs hw hold
   have e18 : a'.tmps[48]? = some (Value.bool false) := Rg.slot_get rfl rfl (hw 18 (by kernel_rfl) _ rfl)
   obtain ⟨v21, e21, q21⟩ := hw 21 (by kernel_rfl) _ rfl
   replace e21 : a'.tmps[51]? = some v21 := Rg.slot_get rfl rfl e21
   obtain ⟨v24, e24, q24⟩ := hw 24 (by kernel_rfl) _ rfl
   replace e24 : a'.tmps[54]? = some v24 := Rg.slot_get rfl rfl e24
   exact ⟨rfl, .inl ⟨wanted_some rfl rfl rfl e18, call_step rfl Tryz.func16 (by kernel_rfl) rfl (map_two (ev_tmp e21) (ev_tmp e24)) (qsame_is _ _ (a * b) (a * b) true _ q21 ((SA.out.mul SB.out).mono (show 14 ≤ 1000000 by decide)) q24 ((SA.out.mul SB.out).mono (show 14 ≤ 1000000 by decide)) (decide_eq_true rfl)) (fun e w2 he => by obtain ⟨rfl, hb⟩ := he; exact ⟨_, rfl, rfl, hb⟩)⟩⟩
  ·intro a' w' ha hs hw hold
   have e18 : a'.tmps[48]? = some (Value.bool false) := Rg.slot_get rfl rfl (hw 18 (by kernel_rfl) _ rfl)
   have e25 : a'.tmps[55]? = some (Value.bool true) := Rg.slot_get rfl rfl (hw 25 (by kernel_rfl) _ rfl)
   exact ⟨rfl, .inl ⟨wanted_some rfl rfl rfl e18, wp_val (run_not rfl (ev_tmp e25)) ⟨rfl, Below.refl _ _⟩⟩⟩
  ·intro a' w' ha hs hw hold
   have e18 : a'.tmps[48]? = some (Value.bool false) := Rg.slot_get rfl rfl (hw 18 (by kernel_rfl) _ rfl)
   have e26 : a'.tmps[56]? = some (Value.bool false) := Rg.slot_get rfl rfl (hw 26 (by kernel_rfl) _ rfl)
   exact ⟨rfl, .inl ⟨wanted_none rfl, wp_val (run_pick (b := false) rfl (ev_tmp e18) (ev_tmp e26)) ⟨rfl, Below.refl _ _⟩⟩⟩
  ·intro a' w' ha hs hw hold
   have e27 : a'.tmps[57]? = some (Value.bool false) := Rg.slot_get rfl rfl (hw 27 (by kernel_rfl) _ rfl)
   exact ⟨rfl, .inl ⟨wanted_none rfl, wp_val (run_move rfl (ev_tmp e27)) ⟨rfl, Below.refl _ _⟩⟩⟩
  ·intro a' w' ha hs hw hold
   have e28 : a'.tmps[58]? = some (Value.bool false) := Rg.slot_get rfl rfl (hw 28 (by kernel_rfl) _ rfl)
   have eo6 : a'.tmps[6]? = some (ptr ga) := (ha.rest 6 (by kernel_rfl)).trans rfl
   exact ⟨rfl, .inl ⟨wanted_some rfl rfl rfl e28, wp_val (run_qload rfl (ev_tmp eo6) (QXa.out.bel hs (by simp))) ⟨rfl, Below.refl _ _⟩⟩⟩
  ·intro a' w' ha hs hw hold
   have e28 : a'.tmps[58]? = some (Value.bool false) := Rg.slot_get rfl rfl (hw 28 (by kernel_rfl) _ rfl)
   have e29 : a'.tmps[59]? = some (.agg #[.bool san, .slice Xan pan qan, .bool sad, .slice Xad pad qad]) := Rg.slot_get rfl rfl (hw 29 (by kernel_rfl) _ rfl)
   exact ⟨rfl, wanted_some rfl rfl rfl e28, call_step rfl Tryz.func23 (by kernel_rfl) rfl (map_one (ev_tmp e29)) (qneg_any _ a _ (QVa.out.kn hs.kn) (SA.out.mono (show 7 ≤ 100000 by decide))) (fun e w2 he => by obtain ⟨v, rfl, hv, hb⟩ := he; exact ⟨v, rfl, v, rfl, hv, hb⟩)⟩
  ·intro a' w' ha hs hw hold
   have e28 : a'.tmps[58]? = some (Value.bool false) := Rg.slot_get rfl rfl (hw 28 (by kernel_rfl) _ rfl)
   have eo6 : a'.tmps[6]? = some (ptr ga) := (ha.rest 6 (by kernel_rfl)).trans rfl
   exact ⟨rfl, .inl ⟨wanted_some rfl rfl rfl e28, wp_val (run_qload rfl (ev_tmp eo6) (QXa.out.bel hs (by simp))) ⟨rfl, Below.refl _ _⟩⟩⟩
  ·intro a' w' ha hs hw hold
   have e28 : a'.tmps[58]? = some (Value.bool false) := Rg.slot_get rfl rfl (hw 28 (by kernel_rfl) _ rfl)
   have e31 : a'.tmps[61]? = some (.agg #[.bool san, .slice Xan pan qan, .bool sad, .slice Xad pad qad]) := Rg.slot_get rfl rfl (hw 31 (by kernel_rfl) _ rfl)
   exact ⟨rfl, wanted_some rfl rfl rfl e28, call_step rfl Tryz.func24 (by kernel_rfl) rfl (map_one (ev_tmp e31)) (rqneg_any _ a _ (QVa.out.kn hs.kn) (SA.out.mono (show 7 ≤ 100000 by decide))) (fun e w2 he => by obtain ⟨v, rfl, hv, hb⟩ := he; exact ⟨v, rfl, v, rfl, hv, hb⟩)⟩
  ·intro a' w' ha hs hw hold
   have e28 : a'.tmps[58]? = some (Value.bool false) := Rg.slot_get rfl rfl (hw 28 (by kernel_rfl) _ rfl)
   obtain ⟨v30, e30, q30⟩ := hw 30 (by kernel_rfl) _ rfl
   replace e30 : a'.tmps[60]? = some v30 := Rg.slot_get rfl rfl e30
   obtain ⟨v32, e32, q32⟩ := hw 32 (by kernel_rfl) _ rfl
   replace e32 : a'.tmps[62]? = some v32 := Rg.slot_get rfl rfl e32
   exact ⟨rfl, .inl ⟨wanted_some rfl rfl rfl e28, call_step rfl Tryz.func16 (by kernel_rfl) rfl (map_two (ev_tmp e30) (ev_tmp e32)) (qsame_is _ _ (-a) (-a) true _ q30 ((SA.out.neg).mono (show 7 ≤ 1000000 by decide)) q32 ((SA.out.neg).mono (show 7 ≤ 1000000 by decide)) (decide_eq_true rfl)) (fun e w2 he => by obtain ⟨rfl, hb⟩ := he; exact ⟨_, rfl, rfl, hb⟩)⟩⟩
  ·intro a' w' ha hs hw hold
   have e28 : a'.tmps[58]? = some (Value.bool false) := Rg.slot_get rfl rfl (hw 28 (by kernel_rfl) _ rfl)
   have e33 : a'.tmps[63]? = some (Value.bool true) := Rg.slot_get rfl rfl (hw 33 (by kernel_rfl) _ rfl)
   exact ⟨rfl, .inl ⟨wanted_some rfl rfl rfl e28, wp_val (run_not rfl (ev_tmp e33)) ⟨rfl, Below.refl _ _⟩⟩⟩
  ·intro a' w' ha hs hw hold
   have e28 : a'.tmps[58]? = some (Value.bool false) := Rg.slot_get rfl rfl (hw 28 (by kernel_rfl) _ rfl)
   have e34 : a'.tmps[64]? = some (Value.bool false) := Rg.slot_get rfl rfl (hw 34 (by kernel_rfl) _ rfl)
   exact ⟨rfl, .inl ⟨wanted_none rfl, wp_val (run_pick (b := false) rfl (ev_tmp e28) (ev_tmp e34)) ⟨rfl, Below.refl _ _⟩⟩⟩
  ·intro a' w' ha hs hw hold
   have e35 : a'.tmps[65]? = some (Value.bool false) := Rg.slot_get rfl rfl (hw 35 (by kernel_rfl) _ rfl)
   exact ⟨rfl, .inl ⟨wanted_none rfl, wp_val (run_move rfl (ev_tmp e35)) ⟨rfl, Below.refl _ _⟩⟩⟩
  ·intro a' w' ha hs hw hold
   have e36 : a'.tmps[66]? = some (Value.bool false) := Rg.slot_get rfl rfl (hw 36 (by kernel_rfl) _ rfl)
   have eo1 : a'.tmps[1]? = some (Value.int IntKind.i64 z) := (ha.rest 1 (by kernel_rfl)).trans rfl
   exact ⟨rfl, .inl ⟨wanted_some rfl rfl rfl e36, wp_val (run_move rfl (ev_tmp eo1)) ⟨rfl, Below.refl _ _⟩⟩⟩
  ·intro a' w' ha hs hw hold
   have e36 : a'.tmps[66]? = some (Value.bool false) := Rg.slot_get rfl rfl (hw 36 (by kernel_rfl) _ rfl)
   have e37 : a'.tmps[67]? = some (Value.int IntKind.i64 z) := Rg.slot_get rfl rfl (hw 37 (by kernel_rfl) _ rfl)
   exact ⟨rfl, wanted_some rfl rfl rfl e36, call_step rfl Tryz.func25 (by kernel_rfl) rfl (map_one (ev_tmp e37)) (whole_any z _ hz.out.1 hz.out.2) (fun e w2 he => by obtain ⟨v, rfl, hv, hb⟩ := he; exact ⟨v, rfl, v, rfl, hv, hb⟩)⟩
  ·intro a' w' ha hs hw hold
   have e36 : a'.tmps[66]? = some (Value.bool false) := Rg.slot_get rfl rfl (hw 36 (by kernel_rfl) _ rfl)
   have eo1 : a'.tmps[1]? = some (Value.int IntKind.i64 z) := (ha.rest 1 (by kernel_rfl)).trans rfl
   exact ⟨rfl, .inl ⟨wanted_some rfl rfl rfl e36, wp_val (run_move rfl (ev_tmp eo1)) ⟨rfl, Below.refl _ _⟩⟩⟩
  ·intro a' w' ha hs hw hold
   have e36 : a'.tmps[66]? = some (Value.bool false) := Rg.slot_get rfl rfl (hw 36 (by kernel_rfl) _ rfl)
   have e39 : a'.tmps[69]? = some (Value.int IntKind.i64 z) := Rg.slot_get rfl rfl (hw 39 (by kernel_rfl) _ rfl)
   exact ⟨rfl, wanted_some rfl rfl rfl e36, call_step rfl Tryz.func26 (by kernel_rfl) rfl (map_one (ev_tmp e39)) (rqWhole_any z _ hz.out.1 hz.out.2) (fun e w2 he => by obtain ⟨v, rfl, hv, hb⟩ := he; exact ⟨v, rfl, v, rfl, hv, hb⟩)⟩
  ·intro a' w' ha hs hw hold
   have e36 : a'.tmps[66]? = some (Value.bool false) := Rg.slot_get rfl rfl (hw 36 (by kernel_rfl) _ rfl)
   obtain ⟨v38, e38, q38⟩ := hw 38 (by kernel_rfl) _ rfl
   replace e38 : a'.tmps[68]? = some v38 := Rg.slot_get rfl rfl e38
   obtain ⟨v40, e40, q40⟩ := hw 40 (by kernel_rfl) _ rfl
   replace e40 : a'.tmps[70]? = some v40 := Rg.slot_get rfl rfl e40
   exact ⟨rfl, .inl ⟨wanted_some rfl rfl rfl e36, call_step rfl Tryz.func16 (by kernel_rfl) rfl (map_two (ev_tmp e38) (ev_tmp e40)) (qsame_is _ _ ((z : Int) : Rat) ((z : Int) : Rat) true _ q38 ((Sr.whole hz.out).mono (show 2 ≤ 1000000 by decide)) q40 ((Sr.whole hz.out).mono (show 2 ≤ 1000000 by decide)) (decide_eq_true rfl)) (fun e w2 he => by obtain ⟨rfl, hb⟩ := he; exact ⟨_, rfl, rfl, hb⟩)⟩⟩
  ·intro a' w' ha hs hw hold
   have e36 : a'.tmps[66]? = some (Value.bool false) := Rg.slot_get rfl rfl (hw 36 (by kernel_rfl) _ rfl)
   have e41 : a'.tmps[71]? = some (Value.bool true) := Rg.slot_get rfl rfl (hw 41 (by kernel_rfl) _ rfl)
   exact ⟨rfl, .inl ⟨wanted_some rfl rfl rfl e36, wp_val (run_not rfl (ev_tmp e41)) ⟨rfl, Below.refl _ _⟩⟩⟩
  ·intro a' w' ha hs hw hold
   have e36 : a'.tmps[66]? = some (Value.bool false) := Rg.slot_get rfl rfl (hw 36 (by kernel_rfl) _ rfl)
   have e42 : a'.tmps[72]? = some (Value.bool false) := Rg.slot_get rfl rfl (hw 42 (by kernel_rfl) _ rfl)
   exact ⟨rfl, .inl ⟨wanted_none rfl, wp_val (run_pick (b := false) rfl (ev_tmp e36) (ev_tmp e42)) ⟨rfl, Below.refl _ _⟩⟩⟩
 simp only [Rg.allG]
 intro r2x2 _
 intro r2x5 _
 intro r2x11 _
 intro r2x14 _
 intro r2x21 _
 intro r2x24 _
 intro r2x30 _
 intro r2x32 _
 intro r2x38 _
 intro r2x40 _
 simp only [setOpt, Rg.setOpt, List.set_cons_succ, List.set_cons_zero]
 refine hK _ _ ?_
 clear hK K
 replace hs := hs.below
 replace QXa := nxq QXa hs rfl; replace IVna := nxv IVna hs rfl; replace IVda := nxv IVda hs rfl
 replace QXb := nxq QXb hs rfl; replace IVnb := nxv IVnb hs rfl; replace IVdb := nxv IVdb hs rfl
 replace DW := nxd DW hg hs rfl rfl rfl rfl
 clear hs
 go_upto_region 7 with fail
 have u3a := QXa.out.cell0; have u3b := QXa.out.cell1; have u3c := QXa.out.cell2; have u3d := QXa.out.cell3
 go_wp2_with fail
 clear u3a u3b u3c u3d
 refine (PIq.out _ _ (qv_of IVna.out IVda.out)).mono ?_
 rintro e y4 ⟨_, rfl, hq, hb⟩
 obtain ⟨Xcn, pcn, qcn, Xcd, pcd, qcd, rfl, hcn, hcd⟩ := hq
 have Qcn := Lib.hid hcn; have Qcd := Lib.hid hcd; clear hcn hcd
 have B := Lib.hid hb; clear hb
 generalize hs : decide ((ni : Int) < 0) = scn at *
 clear hs
 generalize hs : decide ((di : Int) < 0) = scd at *
 clear hs
 go_upto_region 8 with fail
 obtain ⟨W5, hW⟩ : ∃ W5, W5 = y4.alloc (Obj.cells #[Value.bool scn, Value.slice Xcn pcn qcn, Value.bool scd, Value.slice Xcd pcd qcd] 31) := ⟨_, rfl⟩
 rw [← hW]
 have QXc : Hid (QBox W5 y4.heap.size scn (.slice Xcn pcn qcn) scd (.slice Xcd pcd qcd)) := by rw [hW]; exact QBox.new _ _ _ _ _
 have IVnc : Hid (Iv W5 (.agg #[.bool scn, .slice Xcn pcn qcn]) (ni)) := by rw [hW]; exact Qcn.out.alloc _
 have IVdc : Hid (Iv W5 (.agg #[.bool scd, .slice Xcd pcd qcd]) (di)) := by rw [hW]; exact Qcd.out.alloc _
 have hd : Below wn.heap.size wn W5 := by rw [hW]; exact B.out.alloc (by have := B.out.size; omega) _
 clear hW B Qcn Qcd
 generalize hgn5 : y4.heap.size = gc at *
 clear hgn5
 replace QXa := nxq QXa hd rfl; replace IVna := nxv IVna hd rfl; replace IVda := nxv IVda hd rfl
 replace QXb := nxq QXb hd rfl; replace IVnb := nxv IVnb hd rfl; replace IVdb := nxv IVdb hd rfl
 replace DW := nxd DW hg hd rfl rfl rfl rfl
 clear hd
 have u6a := QXa.out.cell0; have u6b := QXa.out.cell1; have u6c := QXa.out.cell2; have u6d := QXa.out.cell3
 go_wp2_with fail
 clear u6a u6b u6c u6d
 refine (PIs.out _ _ (qv_of IVna.out IVda.out)).mono ?_
 rintro e y7 ⟨_, rfl, hq, hb⟩
 obtain ⟨Xdn, pdn, qdn, Xdd, pdd, qdd, rfl, hdn, hdd⟩ := hq
 have Qdn := Lib.hid hdn; have Qdd := Lib.hid hdd; clear hdn hdd
 have B := Lib.hid hb; clear hb
 generalize hs : decide ((ni : Int) < 0) = sdn at *
 clear hs
 generalize hs : decide ((di : Int) < 0) = sdd at *
 clear hs
 go_upto_region 9 with fail
 obtain ⟨W8, hW⟩ : ∃ W8, W8 = y7.alloc (Obj.cells #[Value.bool sdn, Value.slice Xdn pdn qdn, Value.bool sdd, Value.slice Xdd pdd qdd] 31) := ⟨_, rfl⟩
 rw [← hW]
 have QXd : Hid (QBox W8 y7.heap.size sdn (.slice Xdn pdn qdn) sdd (.slice Xdd pdd qdd)) := by rw [hW]; exact QBox.new _ _ _ _ _
 have IVnd : Hid (Iv W8 (.agg #[.bool sdn, .slice Xdn pdn qdn]) (ni)) := by rw [hW]; exact Qdn.out.alloc _
 have IVdd : Hid (Iv W8 (.agg #[.bool sdd, .slice Xdd pdd qdd]) (di)) := by rw [hW]; exact Qdd.out.alloc _
 have hd : Below W5.heap.size W5 W8 := by rw [hW]; exact B.out.alloc (by have := B.out.size; omega) _
 clear hW B Qdn Qdd
 generalize hgn8 : y7.heap.size = gd at *
 clear hgn8
 replace QXa := nxq QXa hd rfl; replace IVna := nxv IVna hd rfl; replace IVda := nxv IVda hd rfl
 replace QXb := nxq QXb hd rfl; replace IVnb := nxv IVnb hd rfl; replace IVdb := nxv IVdb hd rfl
 replace QXc := nxq QXc hd rfl; replace IVnc := nxv IVnc hd rfl; replace IVdc := nxv IVdc hd rfl
 replace DW := nxd DW hg hd rfl rfl rfl rfl
 clear hd
 have u9a := QXa.out.cell0; have u9b := QXa.out.cell1; have u9c := QXa.out.cell2; have u9d := QXa.out.cell3
 have u10a := QXb.out.cell0; have u10b := QXb.out.cell1; have u10c := QXb.out.cell2; have u10d := QXb.out.cell3
 go_wp2_with fail
 clear u9a u9b u9c u9d u10a u10b u10c u10d
 refine (PDq.out _ _ _ (qv_of IVna.out IVda.out) (qv_of IVnb.out IVdb.out)).mono ?_
 rintro e y11 ⟨_, rfl, hq, hb⟩
 obtain ⟨Xin, pin, qin, Xid, pid, qid, rfl, hin, hid⟩ := hq
 have Qin := Lib.hid hin; have Qid := Lib.hid hid; clear hin hid
 have B := Lib.hid hb; clear hb
 generalize hs : decide ((nd : Int) < 0) = sin at *
 clear hs
 generalize hs : decide ((dd : Int) < 0) = sid at *
 clear hs
 go_upto_region 10 with fail
 obtain ⟨W12, hW⟩ : ∃ W12, W12 = y11.alloc (Obj.cells #[Value.bool sin, Value.slice Xin pin qin, Value.bool sid, Value.slice Xid pid qid] 31) := ⟨_, rfl⟩
 rw [← hW]
 have QXi : Hid (QBox W12 y11.heap.size sin (.slice Xin pin qin) sid (.slice Xid pid qid)) := by rw [hW]; exact QBox.new _ _ _ _ _
 have IVni : Hid (Iv W12 (.agg #[.bool sin, .slice Xin pin qin]) (nd)) := by rw [hW]; exact Qin.out.alloc _
 have IVdi : Hid (Iv W12 (.agg #[.bool sid, .slice Xid pid qid]) (dd)) := by rw [hW]; exact Qid.out.alloc _
 have hd : Below W8.heap.size W8 W12 := by rw [hW]; exact B.out.alloc (by have := B.out.size; omega) _
 clear hW B Qin Qid
 generalize hgn12 : y11.heap.size = gi at *
 clear hgn12
 replace QXa := nxq QXa hd rfl; replace IVna := nxv IVna hd rfl; replace IVda := nxv IVda hd rfl
 replace QXb := nxq QXb hd rfl; replace IVnb := nxv IVnb hd rfl; replace IVdb := nxv IVdb hd rfl
 replace QXc := nxq QXc hd rfl; replace IVnc := nxv IVnc hd rfl; replace IVdc := nxv IVdc hd rfl
 replace QXd := nxq QXd hd rfl; replace IVnd := nxv IVnd hd rfl; replace IVdd := nxv IVdd hd rfl
 replace DW := nxd DW hg hd rfl rfl rfl rfl
 clear hd
 have u13a := QXa.out.cell0; have u13b := QXa.out.cell1; have u13c := QXa.out.cell2; have u13d := QXa.out.cell3
 have u14a := QXb.out.cell0; have u14b := QXb.out.cell1; have u14c := QXb.out.cell2; have u14d := QXb.out.cell3
 go_wp2_with fail
 clear u13a u13b u13c u13d u14a u14b u14c u14d
 refine (PDs.out _ _ _ (qv_of IVna.out IVda.out) (qv_of IVnb.out IVdb.out)).mono ?_
 rintro e y15 ⟨_, rfl, hq, hb⟩
 obtain ⟨Xjn, pjn, qjn, Xjd, pjd, qjd, rfl, hjn, hjd⟩ := hq
 have Qjn := Lib.hid hjn; have Qjd := Lib.hid hjd; clear hjn hjd
 have B := Lib.hid hb; clear hb
 generalize hs : decide ((nd : Int) < 0) = sjn at *
 clear hs
 generalize hs : decide ((dd : Int) < 0) = sjd at *
 clear hs
 go_upto_region 11 with fail
 obtain ⟨W16, hW⟩ : ∃ W16, W16 = y15.alloc (Obj.cells #[Value.bool sjn, Value.slice Xjn pjn qjn, Value.bool sjd, Value.slice Xjd pjd qjd] 31) := ⟨_, rfl⟩
 rw [← hW]
 have QXj : Hid (QBox W16 y15.heap.size sjn (.slice Xjn pjn qjn) sjd (.slice Xjd pjd qjd)) := by rw [hW]; exact QBox.new _ _ _ _ _
 have IVnj : Hid (Iv W16 (.agg #[.bool sjn, .slice Xjn pjn qjn]) (nd)) := by rw [hW]; exact Qjn.out.alloc _
 have IVdj : Hid (Iv W16 (.agg #[.bool sjd, .slice Xjd pjd qjd]) (dd)) := by rw [hW]; exact Qjd.out.alloc _
 have hd : Below W12.heap.size W12 W16 := by rw [hW]; exact B.out.alloc (by have := B.out.size; omega) _
 clear hW B Qjn Qjd
 generalize hgn16 : y15.heap.size = gj at *
 clear hgn16
 replace QXa := nxq QXa hd rfl; replace IVna := nxv IVna hd rfl; replace IVda := nxv IVda hd rfl
 replace QXb := nxq QXb hd rfl; replace IVnb := nxv IVnb hd rfl; replace IVdb := nxv IVdb hd rfl
 replace QXc := nxq QXc hd rfl; replace IVnc := nxv IVnc hd rfl; replace IVdc := nxv IVdc hd rfl
 replace QXd := nxq QXd hd rfl; replace IVnd := nxv IVnd hd rfl; replace IVdd := nxv IVdd hd rfl
 replace QXi := nxq QXi hd rfl; replace IVni := nxv IVni hd rfl; replace IVdi := nxv IVdi hd rfl
 replace DW := nxd DW hg hd rfl rfl rfl rfl
 clear hd
 have u17a := QXa.out.cell0; have u17b := QXa.out.cell1; have u17c := QXa.out.cell2; have u17d := QXa.out.cell3
 have u18a := QXb.out.cell0; have u18b := QXb.out.cell1; have u18c := QXb.out.cell2; have u18d := QXb.out.cell3
 go_wp2_with fail
 clear u17a u17b u17c u17d u18a u18b u18c u18d
 refine (PBq.out _ _ _ (qv_of IVna.out IVda.out) (qv_of IVnb.out IVdb.out)).mono ?_
 rintro e y19 ⟨_, rfl, hq, hb⟩
 obtain ⟨Xkn, pkn, qkn, Xkd, pkd, qkd, rfl, hkn, hkd⟩ := hq
 have Qkn := Lib.hid hkn; have Qkd := Lib.hid hkd; clear hkn hkd
 have B := Lib.hid hb; clear hb
 generalize hs : decide ((nb : Int) < 0) = skn at *
 clear hs
 generalize hs : decide ((db : Int) < 0) = skd at *
 clear hs
 go_upto_region 12 with fail
 obtain ⟨W20, hW⟩ : ∃ W20, W20 = y19.alloc (Obj.cells #[Value.bool skn, Value.slice Xkn pkn qkn, Value.bool skd, Value.slice Xkd pkd qkd] 31) := ⟨_, rfl⟩
 rw [← hW]
 have QXk : Hid (QBox W20 y19.heap.size skn (.slice Xkn pkn qkn) skd (.slice Xkd pkd qkd)) := by rw [hW]; exact QBox.new _ _ _ _ _
 have IVnk : Hid (Iv W20 (.agg #[.bool skn, .slice Xkn pkn qkn]) (nb)) := by rw [hW]; exact Qkn.out.alloc _
 have IVdk : Hid (Iv W20 (.agg #[.bool skd, .slice Xkd pkd qkd]) (db)) := by rw [hW]; exact Qkd.out.alloc _
 have hd : Below W16.heap.size W16 W20 := by rw [hW]; exact B.out.alloc (by have := B.out.size; omega) _
 clear hW B Qkn Qkd
 generalize hgn20 : y19.heap.size = gk at *
 clear hgn20
 replace QXa := nxq QXa hd rfl; replace IVna := nxv IVna hd rfl; replace IVda := nxv IVda hd rfl
 replace QXb := nxq QXb hd rfl; replace IVnb := nxv IVnb hd rfl; replace IVdb := nxv IVdb hd rfl
 replace QXc := nxq QXc hd rfl; replace IVnc := nxv IVnc hd rfl; replace IVdc := nxv IVdc hd rfl
 replace QXd := nxq QXd hd rfl; replace IVnd := nxv IVnd hd rfl; replace IVdd := nxv IVdd hd rfl
 replace QXi := nxq QXi hd rfl; replace IVni := nxv IVni hd rfl; replace IVdi := nxv IVdi hd rfl
 replace QXj := nxq QXj hd rfl; replace IVnj := nxv IVnj hd rfl; replace IVdj := nxv IVdj hd rfl
 replace DW := nxd DW hg hd rfl rfl rfl rfl
 clear hd
 have u21a := QXa.out.cell0; have u21b := QXa.out.cell1; have u21c := QXa.out.cell2; have u21d := QXa.out.cell3
 have u22a := QXb.out.cell0; have u22b := QXb.out.cell1; have u22c := QXb.out.cell2; have u22d := QXb.out.cell3
 go_wp2_with fail
 clear u21a u21b u21c u21d u22a u22b u22c u22d
 refine (PBs.out _ _ _ (qv_of IVna.out IVda.out) (qv_of IVnb.out IVdb.out)).mono ?_
 rintro e y23 ⟨_, rfl, hq, hb⟩
 obtain ⟨Xmn, pmn, qmn, Xmd, pmd, qmd, rfl, hmn, hmd⟩ := hq
 have Qmn := Lib.hid hmn; have Qmd := Lib.hid hmd; clear hmn hmd
 have B := Lib.hid hb; clear hb
 generalize hs : decide ((nb : Int) < 0) = smn at *
 clear hs
 generalize hs : decide ((db : Int) < 0) = smd at *
 clear hs
 go_upto_region 13 with fail
 obtain ⟨W24, hW⟩ : ∃ W24, W24 = y23.alloc (Obj.cells #[Value.bool smn, Value.slice Xmn pmn qmn, Value.bool smd, Value.slice Xmd pmd qmd] 31) := ⟨_, rfl⟩
 rw [← hW]
 have QXm : Hid (QBox W24 y23.heap.size smn (.slice Xmn pmn qmn) smd (.slice Xmd pmd qmd)) := by rw [hW]; exact QBox.new _ _ _ _ _
 have IVnm : Hid (Iv W24 (.agg #[.bool smn, .slice Xmn pmn qmn]) (nb)) := by rw [hW]; exact Qmn.out.alloc _
 have IVdm : Hid (Iv W24 (.agg #[.bool smd, .slice Xmd pmd qmd]) (db)) := by rw [hW]; exact Qmd.out.alloc _
 have hd : Below W20.heap.size W20 W24 := by rw [hW]; exact B.out.alloc (by have := B.out.size; omega) _
 clear hW B Qmn Qmd
 generalize hgn24 : y23.heap.size = gm at *
 clear hgn24
 replace QXa := nxq QXa hd rfl; replace IVna := nxv IVna hd rfl; replace IVda := nxv IVda hd rfl
 replace QXb := nxq QXb hd rfl; replace IVnb := nxv IVnb hd rfl; replace IVdb := nxv IVdb hd rfl
 replace QXc := nxq QXc hd rfl; replace IVnc := nxv IVnc hd rfl; replace IVdc := nxv IVdc hd rfl
 replace QXd := nxq QXd hd rfl; replace IVnd := nxv IVnd hd rfl; replace IVdd := nxv IVdd hd rfl
 replace QXi := nxq QXi hd rfl; replace IVni := nxv IVni hd rfl; replace IVdi := nxv IVdi hd rfl
 replace QXj := nxq QXj hd rfl; replace IVnj := nxv IVnj hd rfl; replace IVdj := nxv IVdj hd rfl
 replace QXk := nxq QXk hd rfl; replace IVnk := nxv IVnk hd rfl; replace IVdk := nxv IVdk hd rfl
 replace DW := nxd DW hg hd rfl rfl rfl rfl
 clear hd
 have u25a := QXa.out.cell0; have u25b := QXa.out.cell1; have u25c := QXa.out.cell2; have u25d := QXa.out.cell3
 go_wp2_with fail
 clear u25a u25b u25c u25d
 refine (qfloorF _ a F _ (qv_of IVna.out IVda.out) (SA.out.mono (show 7 ≤ 1000000 by decide)) hF.out).mono ?_
 rintro e y26 ⟨_, rfl, hq, hb⟩
 obtain ⟨Xf, pf, qf, rfl, _, _, _⟩ := hq.form
 have Qf := Lib.hid hq; clear hq
 have B := Lib.hid hb; clear hb
 generalize hs : decide ((F : Int) < 0) = sf at *
 clear hs
 go_upto_region 14 with fail
 obtain ⟨W27, hW⟩ : ∃ W27, W27 = (y26.alloc (Obj.cells #[Value.bool sf, Value.slice Xf pf qf] 29)) := ⟨_, rfl⟩
 rw [← hW]
 have BXf : Hid (Box W27 (y26.heap.size) sf (.slice Xf pf qf)) := by rw [hW]; have := Box.new y26 sf (.slice Xf pf qf); simpa [Hid] using this
 have IVf : Hid (Iv W27 (.agg #[.bool sf, .slice Xf pf qf]) (F)) := by rw [hW]; exact (Qf.out).alloc _
 have hd : Below W24.heap.size W24 W27 := by rw [hW]; exact (B.out).alloc (by have := B.out.size; simp <;> omega) _
 clear hW B Qf
 generalize hgn27 : y26.heap.size = gf at *
 clear hgn27
 replace QXa := nxq QXa hd rfl; replace IVna := nxv IVna hd rfl; replace IVda := nxv IVda hd rfl
 replace QXb := nxq QXb hd rfl; replace IVnb := nxv IVnb hd rfl; replace IVdb := nxv IVdb hd rfl
 replace QXc := nxq QXc hd rfl; replace IVnc := nxv IVnc hd rfl; replace IVdc := nxv IVdc hd rfl
 replace QXd := nxq QXd hd rfl; replace IVnd := nxv IVnd hd rfl; replace IVdd := nxv IVdd hd rfl
 replace QXi := nxq QXi hd rfl; replace IVni := nxv IVni hd rfl; replace IVdi := nxv IVdi hd rfl
 replace QXj := nxq QXj hd rfl; replace IVnj := nxv IVnj hd rfl; replace IVdj := nxv IVdj hd rfl
 replace QXk := nxq QXk hd rfl; replace IVnk := nxv IVnk hd rfl; replace IVdk := nxv IVdk hd rfl
 replace QXm := nxq QXm hd rfl; replace IVnm := nxv IVnm hd rfl; replace IVdm := nxv IVdm hd rfl
 replace DW := nxd DW hg hd rfl rfl rfl rfl
 clear hd
 have QVa : Hid (Qv W27 (.agg #[.bool san, .slice Xan pan qan, .bool sad, .slice Xad pad qad]) (a.num) ((a.den : Int))) := qv_of IVna.out IVda.out
 have QVc : Hid (Qv W27 (.agg #[.bool scn, .slice Xcn pcn qcn, .bool scd, .slice Xcd pcd qcd]) (ni) (di)) := qv_of IVnc.out IVdc.out
 have QVd : Hid (Qv W27 (.agg #[.bool sdn, .slice Xdn pdn qdn, .bool sdd, .slice Xdd pdd qdd]) (ni) (di)) := qv_of IVnd.out IVdd.out
 have QVi : Hid (Qv W27 (.agg #[.bool sin, .slice Xin pin qin, .bool sid, .slice Xid pid qid]) (nd) (dd)) := qv_of IVni.out IVdi.out
 have QVj : Hid (Qv W27 (.agg #[.bool sjn, .slice Xjn pjn qjn, .bool sjd, .slice Xjd pjd qjd]) (nd) (dd)) := qv_of IVnj.out IVdj.out
 have QVk : Hid (Qv W27 (.agg #[.bool skn, .slice Xkn pkn qkn, .bool skd, .slice Xkd pkd qkd]) (nb) (db)) := qv_of IVnk.out IVdk.out
 have QVm : Hid (Qv W27 (.agg #[.bool smn, .slice Xmn pmn qmn, .bool smd, .slice Xmd pmd qmd]) (nb) (db)) := qv_of IVnm.out IVdm.out
 refine Rg.region_gg W27 [.is (.agg #[.bool scn, .slice Xcn pcn qcn, .bool scd, .slice Xcd pcd qcd]), .is (Value.int IntKind.i64 ci), .is (.agg #[.bool sdn, .slice Xdn pdn qdn, .bool sdd, .slice Xdd pdd qdd]), .is (Value.int IntKind.i64 ci), .is (Value.bool true), .is (Value.bool false), .is (Value.bool false), .is (.agg #[.bool sin, .slice Xin pin qin, .bool sid, .slice Xid pid qid]), .is (Value.int IntKind.i64 cd), .is (.agg #[.bool sjn, .slice Xjn pjn qjn, .bool sjd, .slice Xjd pjd qjd]), .is (Value.int IntKind.i64 cd), .is (Value.bool true), .is (Value.bool false), .is (Value.bool false), .is (Value.bool false), .is (.agg #[.bool skn, .slice Xkn pkn qkn, .bool skd, .slice Xkd pkd qkd]), .is (Value.int IntKind.i64 cb), .is (.agg #[.bool smn, .slice Xmn pmn qmn, .bool smd, .slice Xmd pmd qmd]), .is (Value.int IntKind.i64 cb), .is (Value.bool true), .is (Value.bool false), .is (Value.bool false), .is (Value.bool false), .is (.agg #[.bool sf, .slice Xf pf qf]), .is (.agg #[.bool san, .slice Xan pan qan, .bool sad, .slice Xad pad qad]), .sat (pIv (F)) (pIv_keep _), .is (Value.int IntKind.i64 0), .is (Value.bool false), .is (Value.bool false)] [] [some 110, some 111, some 112, some 113, some 114, some 115, some 116, some 117, some 118, some 119, some 120, some 121, some 122, some 123, some 124, some 125, some 126, some 127, some 128, some 129, some 130, some 131, some 132, some 133, some 134, some 135, some 136, some 137, some 138] (by kernel_rfl) (by kernel_rfl) (by kernel_rfl) (by kernel_rfl) (by kernel_rfl) (by simp [Rg.stos]) (by rfl) (by rfl) (by kernel_rfl) (by simp) ((Below.refl _ _).drew) (fun Q' => ?_) (fun K hK wn hs => ?_)
 ·refine ⟨?_, ?_, ?_, ?_, ?_, ?_, ?_, ?_, ?_, ?_, ?_, ?_, ?_, ?_, ?_, ?_, ?_, ?_, ?_, ?_, ?_, ?_, ?_, ?_, ?_, ?_, ?_, ?_, ?_, trivial⟩
  ·intro a' w' ha hs hw hold
   have eo8 : a'.tmps[8]? = some (ptr gc) := (ha.rest 8 (by kernel_rfl)).trans rfl
   exact ⟨rfl, .inl ⟨wanted_none rfl, wp_val (run_qload rfl (ev_tmp eo8) (QXc.out.bel hs (by simp))) ⟨rfl, Below.refl _ _⟩⟩⟩
  ·intro a' w' ha hs hw hold
   have eo9 : a'.tmps[9]? = some (Value.int IntKind.i64 ci) := (ha.rest 9 (by kernel_rfl)).trans rfl
   exact ⟨rfl, .inl ⟨wanted_none rfl, wp_val (run_move rfl (ev_tmp eo9)) ⟨rfl, Below.refl _ _⟩⟩⟩
  ·intro a' w' ha hs hw hold
   have eo10 : a'.tmps[10]? = some (ptr gd) := (ha.rest 10 (by kernel_rfl)).trans rfl
   exact ⟨rfl, .inl ⟨wanted_none rfl, wp_val (run_qload rfl (ev_tmp eo10) (QXd.out.bel hs (by simp))) ⟨rfl, Below.refl _ _⟩⟩⟩
  ·intro a' w' ha hs hw hold
   have eo11 : a'.tmps[11]? = some (Value.int IntKind.i64 ci) := (ha.rest 11 (by kernel_rfl)).trans rfl
   exact ⟨rfl, .inl ⟨wanted_none rfl, wp_val (run_move rfl (ev_tmp eo11)) ⟨rfl, Below.refl _ _⟩⟩⟩
  ·intro a' w' ha hs hw hold
   have e0 : a'.tmps[110]? = some (.agg #[.bool scn, .slice Xcn pcn qcn, .bool scd, .slice Xcd pcd qcd]) := Rg.slot_get rfl rfl (hw 0 (by kernel_rfl) _ rfl)
   have e1 : a'.tmps[111]? = some (Value.int IntKind.i64 ci) := Rg.slot_get rfl rfl (hw 1 (by kernel_rfl) _ rfl)
   have e2 : a'.tmps[112]? = some (.agg #[.bool sdn, .slice Xdn pdn qdn, .bool sdd, .slice Xdd pdd qdd]) := Rg.slot_get rfl rfl (hw 2 (by kernel_rfl) _ rfl)
   have e3 : a'.tmps[113]? = some (Value.int IntKind.i64 ci) := Rg.slot_get rfl rfl (hw 3 (by kernel_rfl) _ rfl)
   exact ⟨rfl, .inl ⟨wanted_none rfl, call_step rfl Tryz.func34 (by kernel_rfl) rfl (map_four (ev_tmp e0) (ev_tmp e1) (ev_tmp e2) (ev_tmp e3)) (alike_true _ _ ni di ci _ (QVc.out.kn hs.kn) (QVd.out.kn hs.kn) (SNi.out.mono (by decide)) (SDi.out.mono (by decide))) (fun e w2 he => by obtain ⟨rfl, hb⟩ := he; exact ⟨_, rfl, rfl, hb⟩)⟩⟩
  ·intro a' w' ha hs hw hold
   have e4 : a'.tmps[114]? = some (Value.bool true) := Rg.slot_get rfl rfl (hw 4 (by kernel_rfl) _ rfl)
   exact ⟨rfl, .inl ⟨wanted_none rfl, wp_val (run_not rfl (ev_tmp e4)) ⟨rfl, Below.refl _ _⟩⟩⟩
  ·intro a' w' ha hs hw hold
   have e5 : a'.tmps[115]? = some (Value.bool false) := Rg.slot_get rfl rfl (hw 5 (by kernel_rfl) _ rfl)
   exact ⟨rfl, .inl ⟨wanted_none rfl, wp_val (run_move rfl (ev_tmp e5)) ⟨rfl, Below.refl _ _⟩⟩⟩
  ·intro a' w' ha hs hw hold
   have e6 : a'.tmps[116]? = some (Value.bool false) := Rg.slot_get rfl rfl (hw 6 (by kernel_rfl) _ rfl)
   have eo12 : a'.tmps[12]? = some (ptr gi) := (ha.rest 12 (by kernel_rfl)).trans rfl
   exact ⟨rfl, .inl ⟨wanted_some rfl rfl rfl e6, wp_val (run_qload rfl (ev_tmp eo12) (QXi.out.bel hs (by simp))) ⟨rfl, Below.refl _ _⟩⟩⟩
  ·intro a' w' ha hs hw hold
   have e6 : a'.tmps[116]? = some (Value.bool false) := Rg.slot_get rfl rfl (hw 6 (by kernel_rfl) _ rfl)
   have eo13 : a'.tmps[13]? = some (Value.int IntKind.i64 cd) := (ha.rest 13 (by kernel_rfl)).trans rfl
   exact ⟨rfl, .inl ⟨wanted_some rfl rfl rfl e6, wp_val (run_move rfl (ev_tmp eo13)) ⟨rfl, Below.refl _ _⟩⟩⟩
  ·intro a' w' ha hs hw hold
   have e6 : a'.tmps[116]? = some (Value.bool false) := Rg.slot_get rfl rfl (hw 6 (by kernel_rfl) _ rfl)
   have eo14 : a'.tmps[14]? = some (ptr gj) := (ha.rest 14 (by kernel_rfl)).trans rfl
   exact ⟨rfl, .inl ⟨wanted_some rfl rfl rfl e6, wp_val (run_qload rfl (ev_tmp eo14) (QXj.out.bel hs (by simp))) ⟨rfl, Below.refl _ _⟩⟩⟩
  ·intro a' w' ha hs hw hold
   have e6 : a'.tmps[116]? = some (Value.bool false) := Rg.slot_get rfl rfl (hw 6 (by kernel_rfl) _ rfl)
   have eo15 : a'.tmps[15]? = some (Value.int IntKind.i64 cd) := (ha.rest 15 (by kernel_rfl)).trans rfl
   exact ⟨rfl, .inl ⟨wanted_some rfl rfl rfl e6, wp_val (run_move rfl (ev_tmp eo15)) ⟨rfl, Below.refl _ _⟩⟩⟩
  ·intro a' w' ha hs hw hold
   have e6 : a'.tmps[116]? = some (Value.bool false) := Rg.slot_get rfl rfl (hw 6 (by kernel_rfl) _ rfl)
   have e7 : a'.tmps[117]? = some (.agg #[.bool sin, .slice Xin pin qin, .bool sid, .slice Xid pid qid]) := Rg.slot_get rfl rfl (hw 7 (by kernel_rfl) _ rfl)
   have e8 : a'.tmps[118]? = some (Value.int IntKind.i64 cd) := Rg.slot_get rfl rfl (hw 8 (by kernel_rfl) _ rfl)
   have e9 : a'.tmps[119]? = some (.agg #[.bool sjn, .slice Xjn pjn qjn, .bool sjd, .slice Xjd pjd qjd]) := Rg.slot_get rfl rfl (hw 9 (by kernel_rfl) _ rfl)
   have e10 : a'.tmps[120]? = some (Value.int IntKind.i64 cd) := Rg.slot_get rfl rfl (hw 10 (by kernel_rfl) _ rfl)
   exact ⟨rfl, .inl ⟨wanted_some rfl rfl rfl e6, call_step rfl Tryz.func34 (by kernel_rfl) rfl (map_four (ev_tmp e7) (ev_tmp e8) (ev_tmp e9) (ev_tmp e10)) (alike_true _ _ nd dd cd _ (QVi.out.kn hs.kn) (QVj.out.kn hs.kn) (SNd.out.mono (by decide)) (SDd.out.mono (by decide))) (fun e w2 he => by obtain ⟨rfl, hb⟩ := he; exact ⟨_, rfl, rfl, hb⟩)⟩⟩
  ·intro a' w' ha hs hw hold
   have e6 : a'.tmps[116]? = some (Value.bool false) := Rg.slot_get rfl rfl (hw 6 (by kernel_rfl) _ rfl)
   have e11 : a'.tmps[121]? = some (Value.bool true) := Rg.slot_get rfl rfl (hw 11 (by kernel_rfl) _ rfl)
   exact ⟨rfl, .inl ⟨wanted_some rfl rfl rfl e6, wp_val (run_not rfl (ev_tmp e11)) ⟨rfl, Below.refl _ _⟩⟩⟩
  ·intro a' w' ha hs hw hold
   have e6 : a'.tmps[116]? = some (Value.bool false) := Rg.slot_get rfl rfl (hw 6 (by kernel_rfl) _ rfl)
   have e12 : a'.tmps[122]? = some (Value.bool false) := Rg.slot_get rfl rfl (hw 12 (by kernel_rfl) _ rfl)
   exact ⟨rfl, .inl ⟨wanted_none rfl, wp_val (run_pick (b := false) rfl (ev_tmp e6) (ev_tmp e12)) ⟨rfl, Below.refl _ _⟩⟩⟩
  ·intro a' w' ha hs hw hold
   have e13 : a'.tmps[123]? = some (Value.bool false) := Rg.slot_get rfl rfl (hw 13 (by kernel_rfl) _ rfl)
   exact ⟨rfl, .inl ⟨wanted_none rfl, wp_val (run_move rfl (ev_tmp e13)) ⟨rfl, Below.refl _ _⟩⟩⟩
  ·intro a' w' ha hs hw hold
   have e14 : a'.tmps[124]? = some (Value.bool false) := Rg.slot_get rfl rfl (hw 14 (by kernel_rfl) _ rfl)
   have eo16 : a'.tmps[16]? = some (ptr gk) := (ha.rest 16 (by kernel_rfl)).trans rfl
   exact ⟨rfl, .inl ⟨wanted_some rfl rfl rfl e14, wp_val (run_qload rfl (ev_tmp eo16) (QXk.out.bel hs (by simp))) ⟨rfl, Below.refl _ _⟩⟩⟩
  ·intro a' w' ha hs hw hold
   have e14 : a'.tmps[124]? = some (Value.bool false) := Rg.slot_get rfl rfl (hw 14 (by kernel_rfl) _ rfl)
   have eo17 : a'.tmps[17]? = some (Value.int IntKind.i64 cb) := (ha.rest 17 (by kernel_rfl)).trans rfl
   exact ⟨rfl, .inl ⟨wanted_some rfl rfl rfl e14, wp_val (run_move rfl (ev_tmp eo17)) ⟨rfl, Below.refl _ _⟩⟩⟩
  ·intro a' w' ha hs hw hold
   have e14 : a'.tmps[124]? = some (Value.bool false) := Rg.slot_get rfl rfl (hw 14 (by kernel_rfl) _ rfl)
   have eo18 : a'.tmps[18]? = some (ptr gm) := (ha.rest 18 (by kernel_rfl)).trans rfl
   exact ⟨rfl, .inl ⟨wanted_some rfl rfl rfl e14, wp_val (run_qload rfl (ev_tmp eo18) (QXm.out.bel hs (by simp))) ⟨rfl, Below.refl _ _⟩⟩⟩
  ·intro a' w' ha hs hw hold
   have e14 : a'.tmps[124]? = some (Value.bool false) := Rg.slot_get rfl rfl (hw 14 (by kernel_rfl) _ rfl)
   have eo19 : a'.tmps[19]? = some (Value.int IntKind.i64 cb) := (ha.rest 19 (by kernel_rfl)).trans rfl
   exact ⟨rfl, .inl ⟨wanted_some rfl rfl rfl e14, wp_val (run_move rfl (ev_tmp eo19)) ⟨rfl, Below.refl _ _⟩⟩⟩
  ·intro a' w' ha hs hw hold
   have e14 : a'.tmps[124]? = some (Value.bool false) := Rg.slot_get rfl rfl (hw 14 (by kernel_rfl) _ rfl)
   have e15 : a'.tmps[125]? = some (.agg #[.bool skn, .slice Xkn pkn qkn, .bool skd, .slice Xkd pkd qkd]) := Rg.slot_get rfl rfl (hw 15 (by kernel_rfl) _ rfl)
   have e16 : a'.tmps[126]? = some (Value.int IntKind.i64 cb) := Rg.slot_get rfl rfl (hw 16 (by kernel_rfl) _ rfl)
   have e17 : a'.tmps[127]? = some (.agg #[.bool smn, .slice Xmn pmn qmn, .bool smd, .slice Xmd pmd qmd]) := Rg.slot_get rfl rfl (hw 17 (by kernel_rfl) _ rfl)
   have e18 : a'.tmps[128]? = some (Value.int IntKind.i64 cb) := Rg.slot_get rfl rfl (hw 18 (by kernel_rfl) _ rfl)
   exact ⟨rfl, .inl ⟨wanted_some rfl rfl rfl e14, call_step rfl Tryz.func34 (by kernel_rfl) rfl (map_four (ev_tmp e15) (ev_tmp e16) (ev_tmp e17) (ev_tmp e18)) (alike_true _ _ nb db cb _ (QVk.out.kn hs.kn) (QVm.out.kn hs.kn) (SNb.out.mono (by decide)) (SDb.out.mono (by decide))) (fun e w2 he => by obtain ⟨rfl, hb⟩ := he; exact ⟨_, rfl, rfl, hb⟩)⟩⟩
  ·intro a' w' ha hs hw hold
   have e14 : a'.tmps[124]? = some (Value.bool false) := Rg.slot_get rfl rfl (hw 14 (by kernel_rfl) _ rfl)
   have e19 : a'.tmps[129]? = some (Value.bool true) := Rg.slot_get rfl rfl (hw 19 (by kernel_rfl) _ rfl)
   exact ⟨rfl, .inl ⟨wanted_some rfl rfl rfl e14, wp_val (run_not rfl (ev_tmp e19)) ⟨rfl, Below.refl _ _⟩⟩⟩
  ·intro a' w' ha hs hw hold
   have e14 : a'.tmps[124]? = some (Value.bool false) := Rg.slot_get rfl rfl (hw 14 (by kernel_rfl) _ rfl)
   have e20 : a'.tmps[130]? = some (Value.bool false) := Rg.slot_get rfl rfl (hw 20 (by kernel_rfl) _ rfl)
   exact ⟨rfl, .inl ⟨wanted_none rfl, wp_val (run_pick (b := false) rfl (ev_tmp e14) (ev_tmp e20)) ⟨rfl, Below.refl _ _⟩⟩⟩
  ·intro a' w' ha hs hw hold
   have e21 : a'.tmps[131]? = some (Value.bool false) := Rg.slot_get rfl rfl (hw 21 (by kernel_rfl) _ rfl)
   exact ⟨rfl, .inl ⟨wanted_none rfl, wp_val (run_move rfl (ev_tmp e21)) ⟨rfl, Below.refl _ _⟩⟩⟩
  ·intro a' w' ha hs hw hold
   have e22 : a'.tmps[132]? = some (Value.bool false) := Rg.slot_get rfl rfl (hw 22 (by kernel_rfl) _ rfl)
   have eo20 : a'.tmps[20]? = some (ptr gf) := (ha.rest 20 (by kernel_rfl)).trans rfl
   exact ⟨rfl, .inl ⟨wanted_some rfl rfl rfl e22, wp_val (run_pload rfl (ev_tmp eo20) (BXf.out.bel hs (by simp))) ⟨rfl, Below.refl _ _⟩⟩⟩
  ·intro a' w' ha hs hw hold
   have e22 : a'.tmps[132]? = some (Value.bool false) := Rg.slot_get rfl rfl (hw 22 (by kernel_rfl) _ rfl)
   have eo6 : a'.tmps[6]? = some (ptr ga) := (ha.rest 6 (by kernel_rfl)).trans rfl
   exact ⟨rfl, .inl ⟨wanted_some rfl rfl rfl e22, wp_val (run_qload rfl (ev_tmp eo6) (QXa.out.bel hs (by simp))) ⟨rfl, Below.refl _ _⟩⟩⟩
  ·intro a' w' ha hs hw hold
   have e22 : a'.tmps[132]? = some (Value.bool false) := Rg.slot_get rfl rfl (hw 22 (by kernel_rfl) _ rfl)
   have e24 : a'.tmps[134]? = some (.agg #[.bool san, .slice Xan pan qan, .bool sad, .slice Xad pad qad]) := Rg.slot_get rfl rfl (hw 24 (by kernel_rfl) _ rfl)
   exact ⟨rfl, wanted_some rfl rfl rfl e22, call_step rfl Tryz.func36 (by kernel_rfl) rfl (map_one (ev_tmp e24)) (rqfloorF _ a F _ (QVa.out.kn hs.kn) (SA.out.mono (show 7 ≤ 1000000 by decide)) hF.out) (fun e w2 he => by obtain ⟨v, rfl, hv, hb⟩ := he; exact ⟨v, rfl, v, rfl, hv, hb⟩)⟩
  ·intro a' w' ha hs hw hold
   have e22 : a'.tmps[132]? = some (Value.bool false) := Rg.slot_get rfl rfl (hw 22 (by kernel_rfl) _ rfl)
   have e23 : a'.tmps[133]? = some (.agg #[.bool sf, .slice Xf pf qf]) := Rg.slot_get rfl rfl (hw 23 (by kernel_rfl) _ rfl)
   obtain ⟨v25, e25, q25⟩ := hw 25 (by kernel_rfl) _ rfl
   replace e25 : a'.tmps[135]? = some v25 := Rg.slot_get rfl rfl e25
   exact ⟨rfl, .inl ⟨wanted_some rfl rfl rfl e22, call_step rfl Tryz.func35 (by kernel_rfl) rfl (map_two (ev_tmp e23) (ev_tmp e25)) (cmp_is _ _ F F 0 _ (IVf.out.kn hs.kn) q25 (SF.out.mono (by decide)) (SF.out.mono (by decide)) (cmpZ_eq rfl)) (fun e w2 he => by obtain ⟨rfl, hb⟩ := he; exact ⟨_, rfl, rfl, hb⟩)⟩⟩
  ·intro a' w' ha hs hw hold
   have e22 : a'.tmps[132]? = some (Value.bool false) := Rg.slot_get rfl rfl (hw 22 (by kernel_rfl) _ rfl)
   have e26 : a'.tmps[136]? = some (Value.int IntKind.i64 0) := Rg.slot_get rfl rfl (hw 26 (by kernel_rfl) _ rfl)
   exact ⟨rfl, .inl ⟨wanted_some rfl rfl rfl e22, wp_val (show _ = _ from (run_neq_int rfl (ev_tmp e26) rfl).trans (by rfl)) ⟨rfl, Below.refl _ _⟩⟩⟩
  ·intro a' w' ha hs hw hold
   have e22 : a'.tmps[132]? = some (Value.bool false) := Rg.slot_get rfl rfl (hw 22 (by kernel_rfl) _ rfl)
   have e27 : a'.tmps[137]? = some (Value.bool false) := Rg.slot_get rfl rfl (hw 27 (by kernel_rfl) _ rfl)
   exact ⟨rfl, .inl ⟨wanted_none rfl, wp_val (run_pick (b := false) rfl (ev_tmp e22) (ev_tmp e27)) ⟨rfl, Below.refl _ _⟩⟩⟩
 simp only [Rg.allG]
 intro r28x25 _
 simp only [setOpt, Rg.setOpt, List.set_cons_succ, List.set_cons_zero]
 refine hK _ _ ?_
 clear hK K
 replace hs := hs.below
 replace BXf := nxb BXf hs rfl; replace IVf := nxv IVf hs rfl
 replace QXa := nxq QXa hs rfl; replace IVna := nxv IVna hs rfl; replace IVda := nxv IVda hs rfl
 replace QXb := nxq QXb hs rfl; replace IVnb := nxv IVnb hs rfl; replace IVdb := nxv IVdb hs rfl
 replace QXc := nxq QXc hs rfl; replace IVnc := nxv IVnc hs rfl; replace IVdc := nxv IVdc hs rfl
 replace QXd := nxq QXd hs rfl; replace IVnd := nxv IVnd hs rfl; replace IVdd := nxv IVdd hs rfl
 replace QXi := nxq QXi hs rfl; replace IVni := nxv IVni hs rfl; replace IVdi := nxv IVdi hs rfl
 replace QXj := nxq QXj hs rfl; replace IVnj := nxv IVnj hs rfl; replace IVdj := nxv IVdj hs rfl
 replace QXk := nxq QXk hs rfl; replace IVnk := nxv IVnk hs rfl; replace IVdk := nxv IVdk hs rfl
 replace QXm := nxq QXm hs rfl; replace IVnm := nxv IVnm hs rfl; replace IVdm := nxv IVdm hs rfl
 replace DW := nxd DW hg hs rfl rfl rfl rfl
 clear hs
 go_upto_region 16 with fail
 have QVa : Hid (Qv wn (.agg #[.bool san, .slice Xan pan qan, .bool sad, .slice Xad pad qad]) (a.num) ((a.den : Int))) := qv_of IVna.out IVda.out
 have QVb : Hid (Qv wn (.agg #[.bool sbn, .slice Xbn pbn qbn, .bool sbd, .slice Xbd pbd qbd]) (b.num) ((b.den : Int))) := qv_of IVnb.out IVdb.out
 refine Rg.region_gg wn [.is (.agg #[.bool san, .slice Xan pan qan, .bool sad, .slice Xad pad qad]), .is (Value.int IntKind.i64 p), .is (.agg #[.bool san, .slice Xan pan qan, .bool sad, .slice Xad pad qad]), .is (Value.int IntKind.i64 p), .is (Value.bool true), .is (Value.bool true), .is (.agg #[.bool san, .slice Xan pan qan, .bool sad, .slice Xad pad qad]), .is (.agg #[.bool sbn, .slice Xbn pbn qbn, .bool sbd, .slice Xbd pbd qbd]), .is (Value.int IntKind.i64 o), .is (.agg #[.bool san, .slice Xan pan qan, .bool sad, .slice Xad pad qad]), .is (.agg #[.bool sbn, .slice Xbn pbn qbn, .bool sbd, .slice Xbd pbd qbd]), .is (Value.int IntKind.i64 o), .is (Value.bool true), .is (Value.bool true), .is (Value.bool true), .is (.agg #[.bool san, .slice Xan pan qan, .bool sad, .slice Xad pad qad]), .is (Value.int IntKind.i64 bt), .is (.agg #[.bool san, .slice Xan pan qan, .bool sad, .slice Xad pad qad]), .is (Value.int IntKind.i64 bt), .is (Value.bool true), .is (Value.bool true), .is (Value.bool true), .is (.agg #[.bool san, .slice Xan pan qan, .bool sad, .slice Xad pad qad]), .is (Value.string tx), .is (.agg #[.bool san, .slice Xan pan qan, .bool sad, .slice Xad pad qad]), .is (Value.string tx), .is (Value.bool true), .is (Value.bool true), .is (Value.bool true), .is (Value.bool true), .is (Value.bool true), .is (Value.bool true)] [] [some 139, some 140, some 141, some 142, some 143, some 144, some 145, some 146, some 147, some 148, some 149, some 150, some 151, some 152, some 153, some 154, some 155, some 156, some 157, some 158, some 159, some 160, some 161, some 162, some 163, some 164, some 165, some 166, some 167, some 168, some 169, some 4] (by kernel_rfl) (by kernel_rfl) (by kernel_rfl) (by kernel_rfl) (by kernel_rfl) (by simp [Rg.stos]) (by rfl) (by rfl) (by kernel_rfl) (by simp) ((Below.refl _ _).drew) (fun Q' => ?_) (fun K hK wn hs => ?_)
 ·refine ⟨?_, ?_, ?_, ?_, ?_, ?_, ?_, ?_, ?_, ?_, ?_, ?_, ?_, ?_, ?_, ?_, ?_, ?_, ?_, ?_, ?_, ?_, ?_, ?_, ?_, ?_, ?_, ?_, ?_, ?_, ?_, ?_, trivial⟩
  ·intro a' w' ha hs hw hold
   have eo6 : a'.tmps[6]? = some (ptr ga) := (ha.rest 6 (by kernel_rfl)).trans rfl
   exact ⟨rfl, .inl ⟨wanted_none rfl, wp_val (run_qload rfl (ev_tmp eo6) (QXa.out.bel hs (by simp))) ⟨rfl, Below.refl _ _⟩⟩⟩
  ·intro a' w' ha hs hw hold
   have e0 : a'.tmps[139]? = some (.agg #[.bool san, .slice Xan pan qan, .bool sad, .slice Xad pad qad]) := Rg.slot_get rfl rfl (hw 0 (by kernel_rfl) _ rfl)
   exact ⟨rfl, .inl ⟨wanted_none rfl, call_step rfl Tryz.func37 (by kernel_rfl) rfl (map_one (ev_tmp e0)) (qsign_is _ a p _ (QVa.out.kn hs.kn) (SA.out.mono (show 7 ≤ 1000000 by decide)) hp.out) (fun e w2 he => by obtain ⟨rfl, hb⟩ := he; exact ⟨_, rfl, rfl, hb⟩)⟩⟩
  ·intro a' w' ha hs hw hold
   have eo6 : a'.tmps[6]? = some (ptr ga) := (ha.rest 6 (by kernel_rfl)).trans rfl
   exact ⟨rfl, .inl ⟨wanted_none rfl, wp_val (run_qload rfl (ev_tmp eo6) (QXa.out.bel hs (by simp))) ⟨rfl, Below.refl _ _⟩⟩⟩
  ·intro a' w' ha hs hw hold
   have e2 : a'.tmps[141]? = some (.agg #[.bool san, .slice Xan pan qan, .bool sad, .slice Xad pad qad]) := Rg.slot_get rfl rfl (hw 2 (by kernel_rfl) _ rfl)
   exact ⟨rfl, .inl ⟨wanted_none rfl, call_step rfl Tryz.func38 (by kernel_rfl) rfl (map_one (ev_tmp e2)) (rqsign_is _ a p _ (QVa.out.kn hs.kn) (SA.out.mono (show 7 ≤ 1000000 by decide)) hp.out) (fun e w2 he => by obtain ⟨rfl, hb⟩ := he; exact ⟨_, rfl, rfl, hb⟩)⟩⟩
  ·intro a' w' ha hs hw hold
   have e1 : a'.tmps[140]? = some (Value.int IntKind.i64 p) := Rg.slot_get rfl rfl (hw 1 (by kernel_rfl) _ rfl)
   have e3 : a'.tmps[142]? = some (Value.int IntKind.i64 p) := Rg.slot_get rfl rfl (hw 3 (by kernel_rfl) _ rfl)
   exact ⟨rfl, .inl ⟨wanted_none rfl, wp_val (run_eqlI rfl (ev_tmp e1) (ev_tmp e3) (by simp)) ⟨rfl, Below.refl _ _⟩⟩⟩
  ·intro a' w' ha hs hw hold
   have e4 : a'.tmps[143]? = some (Value.bool true) := Rg.slot_get rfl rfl (hw 4 (by kernel_rfl) _ rfl)
   exact ⟨rfl, .inl ⟨wanted_none rfl, wp_val (run_move rfl (ev_tmp e4)) ⟨rfl, Below.refl _ _⟩⟩⟩
  ·intro a' w' ha hs hw hold
   have e5 : a'.tmps[144]? = some (Value.bool true) := Rg.slot_get rfl rfl (hw 5 (by kernel_rfl) _ rfl)
   have eo6 : a'.tmps[6]? = some (ptr ga) := (ha.rest 6 (by kernel_rfl)).trans rfl
   exact ⟨rfl, .inl ⟨wanted_some rfl rfl rfl e5, wp_val (run_qload rfl (ev_tmp eo6) (QXa.out.bel hs (by simp))) ⟨rfl, Below.refl _ _⟩⟩⟩
  ·intro a' w' ha hs hw hold
   have e5 : a'.tmps[144]? = some (Value.bool true) := Rg.slot_get rfl rfl (hw 5 (by kernel_rfl) _ rfl)
   have eo7 : a'.tmps[7]? = some (ptr gb) := (ha.rest 7 (by kernel_rfl)).trans rfl
   exact ⟨rfl, .inl ⟨wanted_some rfl rfl rfl e5, wp_val (run_qload rfl (ev_tmp eo7) (QXb.out.bel hs (by simp))) ⟨rfl, Below.refl _ _⟩⟩⟩
  ·intro a' w' ha hs hw hold
   have e5 : a'.tmps[144]? = some (Value.bool true) := Rg.slot_get rfl rfl (hw 5 (by kernel_rfl) _ rfl)
   have e6 : a'.tmps[145]? = some (.agg #[.bool san, .slice Xan pan qan, .bool sad, .slice Xad pad qad]) := Rg.slot_get rfl rfl (hw 6 (by kernel_rfl) _ rfl)
   have e7 : a'.tmps[146]? = some (.agg #[.bool sbn, .slice Xbn pbn qbn, .bool sbd, .slice Xbd pbd qbd]) := Rg.slot_get rfl rfl (hw 7 (by kernel_rfl) _ rfl)
   exact ⟨rfl, .inl ⟨wanted_some rfl rfl rfl e5, call_step rfl Tryz.func39 (by kernel_rfl) rfl (map_two (ev_tmp e6) (ev_tmp e7)) (qcmp_is _ _ a b o _ (QVa.out.kn hs.kn) (SA.out.mono (show 7 ≤ 100000 by decide)) (QVb.out.kn hs.kn) (SB.out.mono (show 7 ≤ 100000 by decide)) ho.out) (fun e w2 he => by obtain ⟨rfl, hb⟩ := he; exact ⟨_, rfl, rfl, hb⟩)⟩⟩
  ·intro a' w' ha hs hw hold
   have e5 : a'.tmps[144]? = some (Value.bool true) := Rg.slot_get rfl rfl (hw 5 (by kernel_rfl) _ rfl)
   have eo6 : a'.tmps[6]? = some (ptr ga) := (ha.rest 6 (by kernel_rfl)).trans rfl
   exact ⟨rfl, .inl ⟨wanted_some rfl rfl rfl e5, wp_val (run_qload rfl (ev_tmp eo6) (QXa.out.bel hs (by simp))) ⟨rfl, Below.refl _ _⟩⟩⟩
  ·intro a' w' ha hs hw hold
   have e5 : a'.tmps[144]? = some (Value.bool true) := Rg.slot_get rfl rfl (hw 5 (by kernel_rfl) _ rfl)
   have eo7 : a'.tmps[7]? = some (ptr gb) := (ha.rest 7 (by kernel_rfl)).trans rfl
   exact ⟨rfl, .inl ⟨wanted_some rfl rfl rfl e5, wp_val (run_qload rfl (ev_tmp eo7) (QXb.out.bel hs (by simp))) ⟨rfl, Below.refl _ _⟩⟩⟩
  ·intro a' w' ha hs hw hold
   have e5 : a'.tmps[144]? = some (Value.bool true) := Rg.slot_get rfl rfl (hw 5 (by kernel_rfl) _ rfl)
   have e9 : a'.tmps[148]? = some (.agg #[.bool san, .slice Xan pan qan, .bool sad, .slice Xad pad qad]) := Rg.slot_get rfl rfl (hw 9 (by kernel_rfl) _ rfl)
   have e10 : a'.tmps[149]? = some (.agg #[.bool sbn, .slice Xbn pbn qbn, .bool sbd, .slice Xbd pbd qbd]) := Rg.slot_get rfl rfl (hw 10 (by kernel_rfl) _ rfl)
   exact ⟨rfl, .inl ⟨wanted_some rfl rfl rfl e5, call_step rfl Tryz.func40 (by kernel_rfl) rfl (map_two (ev_tmp e9) (ev_tmp e10)) (rqcmp_is _ _ a b o _ (QVa.out.kn hs.kn) (SA.out.mono (show 7 ≤ 100000 by decide)) (QVb.out.kn hs.kn) (SB.out.mono (show 7 ≤ 100000 by decide)) ho.out) (fun e w2 he => by obtain ⟨rfl, hb⟩ := he; exact ⟨_, rfl, rfl, hb⟩)⟩⟩
  ·intro a' w' ha hs hw hold
   have e5 : a'.tmps[144]? = some (Value.bool true) := Rg.slot_get rfl rfl (hw 5 (by kernel_rfl) _ rfl)
   have e8 : a'.tmps[147]? = some (Value.int IntKind.i64 o) := Rg.slot_get rfl rfl (hw 8 (by kernel_rfl) _ rfl)
   have e11 : a'.tmps[150]? = some (Value.int IntKind.i64 o) := Rg.slot_get rfl rfl (hw 11 (by kernel_rfl) _ rfl)
   exact ⟨rfl, .inl ⟨wanted_some rfl rfl rfl e5, wp_val (run_eqlI rfl (ev_tmp e8) (ev_tmp e11) (by simp)) ⟨rfl, Below.refl _ _⟩⟩⟩
  ·intro a' w' ha hs hw hold
   have e5 : a'.tmps[144]? = some (Value.bool true) := Rg.slot_get rfl rfl (hw 5 (by kernel_rfl) _ rfl)
   have e12 : a'.tmps[151]? = some (Value.bool true) := Rg.slot_get rfl rfl (hw 12 (by kernel_rfl) _ rfl)
   exact ⟨rfl, .inl ⟨wanted_none rfl, wp_val (run_pick (b := true) rfl (ev_tmp e5) (ev_tmp e12)) ⟨rfl, Below.refl _ _⟩⟩⟩
  ·intro a' w' ha hs hw hold
   have e13 : a'.tmps[152]? = some (Value.bool true) := Rg.slot_get rfl rfl (hw 13 (by kernel_rfl) _ rfl)
   exact ⟨rfl, .inl ⟨wanted_none rfl, wp_val (run_move rfl (ev_tmp e13)) ⟨rfl, Below.refl _ _⟩⟩⟩
  ·intro a' w' ha hs hw hold
   have e14 : a'.tmps[153]? = some (Value.bool true) := Rg.slot_get rfl rfl (hw 14 (by kernel_rfl) _ rfl)
   have eo6 : a'.tmps[6]? = some (ptr ga) := (ha.rest 6 (by kernel_rfl)).trans rfl
   exact ⟨rfl, .inl ⟨wanted_some rfl rfl rfl e14, wp_val (run_qload rfl (ev_tmp eo6) (QXa.out.bel hs (by simp))) ⟨rfl, Below.refl _ _⟩⟩⟩
  ·intro a' w' ha hs hw hold
   have e14 : a'.tmps[153]? = some (Value.bool true) := Rg.slot_get rfl rfl (hw 14 (by kernel_rfl) _ rfl)
   have e15 : a'.tmps[154]? = some (.agg #[.bool san, .slice Xan pan qan, .bool sad, .slice Xad pad qad]) := Rg.slot_get rfl rfl (hw 15 (by kernel_rfl) _ rfl)
   exact ⟨rfl, .inl ⟨wanted_some rfl rfl rfl e14, call_step rfl Tryz.func41 (by kernel_rfl) rfl (map_one (ev_tmp e15)) (qbits_is _ a bt _ (QVa.out.kn hs.kn) (SA.out.mono (show 7 ≤ 200000 by decide)) hbt.out) (fun e w2 he => by obtain ⟨rfl, hb⟩ := he; exact ⟨_, rfl, rfl, hb⟩)⟩⟩
  ·intro a' w' ha hs hw hold
   have e14 : a'.tmps[153]? = some (Value.bool true) := Rg.slot_get rfl rfl (hw 14 (by kernel_rfl) _ rfl)
   have eo6 : a'.tmps[6]? = some (ptr ga) := (ha.rest 6 (by kernel_rfl)).trans rfl
   exact ⟨rfl, .inl ⟨wanted_some rfl rfl rfl e14, wp_val (run_qload rfl (ev_tmp eo6) (QXa.out.bel hs (by simp))) ⟨rfl, Below.refl _ _⟩⟩⟩
  ·intro a' w' ha hs hw hold
   have e14 : a'.tmps[153]? = some (Value.bool true) := Rg.slot_get rfl rfl (hw 14 (by kernel_rfl) _ rfl)
   have e17 : a'.tmps[156]? = some (.agg #[.bool san, .slice Xan pan qan, .bool sad, .slice Xad pad qad]) := Rg.slot_get rfl rfl (hw 17 (by kernel_rfl) _ rfl)
   exact ⟨rfl, .inl ⟨wanted_some rfl rfl rfl e14, call_step rfl Tryz.func42 (by kernel_rfl) rfl (map_one (ev_tmp e17)) (rqbits_is _ a bt _ (QVa.out.kn hs.kn) (SA.out.mono (show 7 ≤ 200000 by decide)) hbt.out) (fun e w2 he => by obtain ⟨rfl, hb⟩ := he; exact ⟨_, rfl, rfl, hb⟩)⟩⟩
  ·intro a' w' ha hs hw hold
   have e14 : a'.tmps[153]? = some (Value.bool true) := Rg.slot_get rfl rfl (hw 14 (by kernel_rfl) _ rfl)
   have e16 : a'.tmps[155]? = some (Value.int IntKind.i64 bt) := Rg.slot_get rfl rfl (hw 16 (by kernel_rfl) _ rfl)
   have e18 : a'.tmps[157]? = some (Value.int IntKind.i64 bt) := Rg.slot_get rfl rfl (hw 18 (by kernel_rfl) _ rfl)
   exact ⟨rfl, .inl ⟨wanted_some rfl rfl rfl e14, wp_val (run_eqlI rfl (ev_tmp e16) (ev_tmp e18) (by simp)) ⟨rfl, Below.refl _ _⟩⟩⟩
  ·intro a' w' ha hs hw hold
   have e14 : a'.tmps[153]? = some (Value.bool true) := Rg.slot_get rfl rfl (hw 14 (by kernel_rfl) _ rfl)
   have e19 : a'.tmps[158]? = some (Value.bool true) := Rg.slot_get rfl rfl (hw 19 (by kernel_rfl) _ rfl)
   exact ⟨rfl, .inl ⟨wanted_none rfl, wp_val (run_pick (b := true) rfl (ev_tmp e14) (ev_tmp e19)) ⟨rfl, Below.refl _ _⟩⟩⟩
  ·intro a' w' ha hs hw hold
   have e20 : a'.tmps[159]? = some (Value.bool true) := Rg.slot_get rfl rfl (hw 20 (by kernel_rfl) _ rfl)
   exact ⟨rfl, .inl ⟨wanted_none rfl, wp_val (run_move rfl (ev_tmp e20)) ⟨rfl, Below.refl _ _⟩⟩⟩
  ·intro a' w' ha hs hw hold
   have e21 : a'.tmps[160]? = some (Value.bool true) := Rg.slot_get rfl rfl (hw 21 (by kernel_rfl) _ rfl)
   have eo6 : a'.tmps[6]? = some (ptr ga) := (ha.rest 6 (by kernel_rfl)).trans rfl
   exact ⟨rfl, .inl ⟨wanted_some rfl rfl rfl e21, wp_val (run_qload rfl (ev_tmp eo6) (QXa.out.bel hs (by simp))) ⟨rfl, Below.refl _ _⟩⟩⟩
  ·intro a' w' ha hs hw hold
   have e21 : a'.tmps[160]? = some (Value.bool true) := Rg.slot_get rfl rfl (hw 21 (by kernel_rfl) _ rfl)
   have e22 : a'.tmps[161]? = some (.agg #[.bool san, .slice Xan pan qan, .bool sad, .slice Xad pad qad]) := Rg.slot_get rfl rfl (hw 22 (by kernel_rfl) _ rfl)
   exact ⟨rfl, .inl ⟨wanted_some rfl rfl rfl e21, call_step rfl Tryz.func43 (by kernel_rfl) rfl (map_one (ev_tmp e22)) (htx.out ▸ qtext_any _ a _ (QVa.out.kn hs.kn) (SA.out.mono (show 7 ≤ 200000 by decide))) (fun e w2 he => by obtain ⟨rfl, hb⟩ := he; exact ⟨_, rfl, rfl, hb⟩)⟩⟩
  ·intro a' w' ha hs hw hold
   have e21 : a'.tmps[160]? = some (Value.bool true) := Rg.slot_get rfl rfl (hw 21 (by kernel_rfl) _ rfl)
   have eo6 : a'.tmps[6]? = some (ptr ga) := (ha.rest 6 (by kernel_rfl)).trans rfl
   exact ⟨rfl, .inl ⟨wanted_some rfl rfl rfl e21, wp_val (run_qload rfl (ev_tmp eo6) (QXa.out.bel hs (by simp))) ⟨rfl, Below.refl _ _⟩⟩⟩
  ·intro a' w' ha hs hw hold
   have e21 : a'.tmps[160]? = some (Value.bool true) := Rg.slot_get rfl rfl (hw 21 (by kernel_rfl) _ rfl)
   have e24 : a'.tmps[163]? = some (.agg #[.bool san, .slice Xan pan qan, .bool sad, .slice Xad pad qad]) := Rg.slot_get rfl rfl (hw 24 (by kernel_rfl) _ rfl)
   exact ⟨rfl, .inl ⟨wanted_some rfl rfl rfl e21, call_step rfl Tryz.func44 (by kernel_rfl) rfl (map_one (ev_tmp e24)) (htx.out ▸ rqtext_any _ a _ (QVa.out.kn hs.kn) (SA.out.mono (show 7 ≤ 200000 by decide))) (fun e w2 he => by obtain ⟨rfl, hb⟩ := he; exact ⟨_, rfl, rfl, hb⟩)⟩⟩
  ·intro a' w' ha hs hw hold
   have e21 : a'.tmps[160]? = some (Value.bool true) := Rg.slot_get rfl rfl (hw 21 (by kernel_rfl) _ rfl)
   have e23 : a'.tmps[162]? = some (Value.string tx) := Rg.slot_get rfl rfl (hw 23 (by kernel_rfl) _ rfl)
   have e25 : a'.tmps[164]? = some (Value.string tx) := Rg.slot_get rfl rfl (hw 25 (by kernel_rfl) _ rfl)
   exact ⟨rfl, .inl ⟨wanted_some rfl rfl rfl e21, wp_val (run_eqlS rfl (ev_tmp e23) (ev_tmp e25) (by simp)) ⟨rfl, Below.refl _ _⟩⟩⟩
  ·intro a' w' ha hs hw hold
   have e21 : a'.tmps[160]? = some (Value.bool true) := Rg.slot_get rfl rfl (hw 21 (by kernel_rfl) _ rfl)
   have e26 : a'.tmps[165]? = some (Value.bool true) := Rg.slot_get rfl rfl (hw 26 (by kernel_rfl) _ rfl)
   exact ⟨rfl, .inl ⟨wanted_none rfl, wp_val (run_pick (b := true) rfl (ev_tmp e21) (ev_tmp e26)) ⟨rfl, Below.refl _ _⟩⟩⟩
  ·intro a' w' ha hs hw hold
   have e27 : a'.tmps[166]? = some (Value.bool true) := Rg.slot_get rfl rfl (hw 27 (by kernel_rfl) _ rfl)
   exact ⟨rfl, .inl ⟨wanted_none rfl, wp_val (run_move rfl (ev_tmp e27)) ⟨rfl, Below.refl _ _⟩⟩⟩
  ·intro a' w' ha hs hw hold
   have e28 : a'.tmps[167]? = some (Value.bool true) := Rg.slot_get rfl rfl (hw 28 (by kernel_rfl) _ rfl)
   have eo5 : a'.tmps[5]? = some (Value.bool true) := (ha.rest 5 (by kernel_rfl)).trans rfl
   exact ⟨rfl, .inl ⟨wanted_some rfl rfl rfl e28, wp_val (run_move rfl (ev_tmp eo5)) ⟨rfl, Below.refl _ _⟩⟩⟩
  ·intro a' w' ha hs hw hold
   have e28 : a'.tmps[167]? = some (Value.bool true) := Rg.slot_get rfl rfl (hw 28 (by kernel_rfl) _ rfl)
   have e29 : a'.tmps[168]? = some (Value.bool true) := Rg.slot_get rfl rfl (hw 29 (by kernel_rfl) _ rfl)
   exact ⟨rfl, .inl ⟨wanted_none rfl, wp_val (run_pick (b := true) rfl (ev_tmp e28) (ev_tmp e29)) ⟨rfl, Below.refl _ _⟩⟩⟩
  ·intro a' w' ha hs hw hold
   have e30 : a'.tmps[169]? = some (Value.bool true) := Rg.slot_get rfl rfl (hw 30 (by kernel_rfl) _ rfl)
   exact ⟨rfl, .inl ⟨wanted_none rfl, wp_val (run_assign rfl (ev_tmp e30)) ⟨rfl, Below.refl _ _⟩⟩⟩
 simp only [Rg.allG]
 simp only [setOpt, Rg.setOpt, List.set_cons_succ, List.set_cons_zero]
 refine hK _ _ ?_
 clear hK K
 replace hs := hs.below
 replace BXf := nxb BXf hs rfl; replace IVf := nxv IVf hs rfl
 replace QXa := nxq QXa hs rfl; replace IVna := nxv IVna hs rfl; replace IVda := nxv IVda hs rfl
 replace QXb := nxq QXb hs rfl; replace IVnb := nxv IVnb hs rfl; replace IVdb := nxv IVdb hs rfl
 replace QXc := nxq QXc hs rfl; replace IVnc := nxv IVnc hs rfl; replace IVdc := nxv IVdc hs rfl
 replace QXd := nxq QXd hs rfl; replace IVnd := nxv IVnd hs rfl; replace IVdd := nxv IVdd hs rfl
 replace QXi := nxq QXi hs rfl; replace IVni := nxv IVni hs rfl; replace IVdi := nxv IVdi hs rfl
 replace QXj := nxq QXj hs rfl; replace IVnj := nxv IVnj hs rfl; replace IVdj := nxv IVdj hs rfl
 replace QXk := nxq QXk hs rfl; replace IVnk := nxv IVnk hs rfl; replace IVdk := nxv IVdk hs rfl
 replace QXm := nxq QXm hs rfl; replace IVnm := nxv IVnm hs rfl; replace IVdm := nxv IVdm hs rfl
 replace DW := nxd DW hg hs rfl rfl rfl rfl
 clear hs
 go_wp2
 go_ret
 exact ⟨rfl, by rw [hg.out]; exact DW.out⟩
end Go.Proofs.YtfigimfdojbkeaaGreat
