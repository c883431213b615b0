/-
  RationalForms: both Valid on any words, both Parse, the law.
-/
import Derived.Test.YtfigimfdojbkeaaGreatRfC
import Derived.Test.YtfigimfdojbkeaaGreatRatN
import Derived.Deep.DeepCutAuto
import Derived.Handy
import Derived.Test.YtfigimfdojbkeaaGreatRegE
set_option linter.unusedSimpArgs false
set_option linter.unusedVariables false
namespace Go.Proofs.YtfigimfdojbkeaaGreat
open Go.RowKit
attribute [local go_sem ↓] Go.wp_at_zero Go.wp_at_succ

/-- Block g holds n bytes. -/
def BR (w : World) (g n : Nat) (f : Nat → Nat) : Prop := g < w.heap.size ∧ (∀ t, t < n → w.cell? ⟨g, t, none⟩ = some (.int .u8 (f t : Nat))) ∧ ∀ t, w.frozen? ⟨g, t, none⟩ = false
theorem BR.new (w : World) (n : Nat) : BR (w.alloc (.cells (madeCells #[Value.int .u8 0] n) 5)) w.heap.size n (fun _ => 0) := by
  have h := heap_alloc_new w (.cells (madeCells #[Value.int .u8 0] n) 5)
  have h0 : w.heap.size < (w.alloc (.cells (madeCells #[Value.int .u8 0] n) 5)).heap.size := by simp
  generalize w.alloc (.cells (madeCells #[Value.int .u8 0] n) 5) = W at *
  refine ⟨h0, fun t ht => ?_, fun t => ?_⟩
  · rw [cell_of_row _ _ _ _ _ _ h]
    simp [madeCells, ht, Nat.mod_one]
  · simp [World.frozen?, h]
theorem BR.set {w : World} {g n : Nat} {f : Nat → Nat} (h : BR w g n f) {i : Nat} (hi : i < n) (v : Nat) : BR (w.setCell ⟨g, i, none⟩ (.int .u8 (v : Nat))) g n (fun t => if t = i then v else f t) := by
  refine ⟨by simpa [World.setCell] using h.1, fun t ht => ?_, fun t => by simpa using h.2.2 t⟩
  show _ = some (Value.int .u8 ((if t = i then v else f t : Nat) : Int))
  by_cases e : t = i
  · subst e
    rw [World.cell?_setCell_same _ _ _ (h.2.1 t ht), if_pos rfl]
  · rw [World.cell?_setCell_other _ _ _ _ (fun e2 => by have h3 := congrArg Addr.off e2; change i = t at h3; omega), h.2.1 t ht, if_neg e]
def bytesOf (n : Nat) (f : Nat → Nat) : List UInt8 := (List.range n).map (fun t => UInt8.ofNat (f t))
theorem bytesOf_len (n : Nat) (f : Nat → Nat) : (bytesOf n f).length = n := by simp [bytesOf]
theorem BR.text {w : World} {g n : Nat} {f : Nat → Nat} (h : BR w g n f) (hf : ∀ t, f t < 256) (cap : Nat) : (convert 50 9 (.slice (some ⟨g, 0, none⟩) n cap)).run Tryz.prog w = .ok (.string ⟨(bytesOf n f).toArray⟩) w := by
  have k := run_convert_bytes_back (P := Tryz.prog) w 50 9 5 ⟨g, 0, none⟩ cap (bytesOf n f) Tryz.underlying50 (by kernel_rfl) (by kernel_rfl) (fun t ht => by
    have htn : t < n := by rwa [bytesOf_len] at ht
    have e : (Addr.add ⟨g, 0, none⟩ t) = ⟨g, 0 + t, none⟩ := by unfold Addr.add; split <;> simp_all
    rw [e, Nat.zero_add, h.2.1 t htn]
    have e2 : (bytesOf n f)[t] = UInt8.ofNat (f t) := by simp [bytesOf]
    rw [e2, u8_back (hf t)])
  rw [bytesOf_len] at k
  exact k
theorem BR.ext {w : World} {g n : Nat} {f f' : Nat → Nat} (h : BR w g n f) (e : ∀ t, t < n → f t = f' t) : BR w g n f' := ⟨h.1, fun t ht => by rw [h.2.1 t ht, e t ht], h.2.2⟩
theorem rem6 (m : Int) : -5 ≤ m.tmod 6 ∧ m.tmod 6 ≤ 5 := by
  have h1 := Int.tmod_lt_of_pos m (show (0 : Int) < 6 by omega)
  have h2 := Int.lt_tmod_of_pos m (show (0 : Int) < 6 by omega)
  omega

set_option maxHeartbeats 8000000 in
set_option maxRecDepth 100000 in
theorem lawForms_any (b0 : Bool) (A0 : Option Addr) (n0 c0 : Nat) (ws0 : List Nat) (b1 : Bool) (A1 : Option Addr) (n1 c1 : Nat) (ws1 : List Nat) (s : ByteArray) (m : Int) (w : World) (h0 : Wd w A0 n0 ws0) (m0 : n0 ≤ 9223372036854775807) (k0 : n0 ≤ c0) (l0 : c0 ≤ 9223372036854775807) (h1 : Wd w A1 n1 ws1) (m1 : n1 ≤ 9223372036854775807) (k1 : n1 ≤ c1) (l1 : c1 ≤ 9223372036854775807) (hs : s.size ≤ 9223372036854775807) (hm : -9223372036854775808 ≤ m ∧ m ≤ 9223372036854775807) : Calls Tryz.prog 4 #[.agg #[.bool b0, .slice A0 n0 c0, .bool b1, .slice A1 n1 c1], .string s, .int .i64 m] w (RetV (.bool true) w) := by
  have H0 := Lib.hid h0; have H1 := Lib.hid h1
  clear h0 h1
  have hk0 := Lib.hid k0; have hl0 := Lib.hid l0; have hk1 := Lib.hid k1; have hl1 := Lib.hid l1; have hs0 := Lib.hid hs; have hm0 := Lib.hid hm
  clear k0 l0 k1 l1 hm
  go_enter Tryz.func4, Tryz.ntmps4
  go_wp2_with fail
  obtain ⟨W, hW⟩ : ∃ W, W = w.alloc (Obj.cells #[Value.bool b0, Value.slice A0 n0 c0, Value.bool b1, Value.slice A1 n1 c1] 31) := ⟨_, rfl⟩
  rw [← hW]
  have QX : Hid (QBox W w.heap.size b0 (.slice A0 n0 c0) b1 (.slice A1 n1 c1)) := by rw [hW]; exact QBox.new w _ _ _ _
  have HW0 : Hid (Wd W A0 n0 ws0) := by rw [hW]; exact H0.out.alloc _
  have HW1 : Hid (Wd W A1 n1 ws1) := by rw [hW]; exact H1.out.alloc _
  have DW : Hid (Below w.heap.size w W) := by rw [hW]; exact (Below.refl _ _).alloc (Nat.le_refl _) _
  clear hW H0 H1
  generalize hg : w.heap.size = g at *
  replace hg := Lib.hid hg
  refine (examples_any _).mono ?_
  rintro e y0 ⟨rfl, hb⟩
  replace QX := Lib.hid (QX.out.next hb rfl)
  replace HW0 := Lib.hid (HW0.out.next hb rfl)
  replace HW1 := Lib.hid (HW1.out.next hb rfl)
  replace DW := nxd DW hg hb rfl rfl rfl rfl
  clear hb
  by_cases hA : 20 < n0
  · have d0 : decide ((20 : Int) < (n0 : Int)) = true := decide_eq_true (by omega)
    have u0 := QX.out.cell0; have u1 := QX.out.cell1; have u2 := QX.out.cell2; have u3 := QX.out.cell3
    skip
    go_wp2
    go_ret
    exact ⟨rfl, by rw [hg.out]; exact DW.out⟩
  have d0 : decide ((20 : Int) < (n0 : Int)) = false := decide_eq_false (by omega)
  by_cases hB : 20 < n1
  · have d1 : decide ((20 : Int) < (n1 : Int)) = true := decide_eq_true (by omega)
    have u0 := QX.out.cell0; have u1 := QX.out.cell1; have u2 := QX.out.cell2; have u3 := QX.out.cell3
    skip
    go_wp2
    go_ret
    exact ⟨rfl, by rw [hg.out]; exact DW.out⟩
  have d1 : decide ((20 : Int) < (n1 : Int)) = false := decide_eq_false (by omega)
  by_cases hC : 200 < s.size
  · have d2 : decide ((200 : Int) < (s.size : Int)) = true := decide_eq_true (by omega)
    have u0 := QX.out.cell0; have u1 := QX.out.cell1; have u2 := QX.out.cell2; have u3 := QX.out.cell3
    skip
    go_wp2
    go_ret
    exact ⟨rfl, by rw [hg.out]; exact DW.out⟩
  have d2 : decide ((200 : Int) < (s.size : Int)) = false := decide_eq_false (by omega)
  obtain ⟨r, PVq, PVs⟩ := pair_valid b0 A0 n0 c0 ws0 b1 A1 n1 c1 ws1 (by omega) (by omega) hk0.out hl0.out hk1.out hl1.out
  obtain ⟨zn, zd, zc, SZn, SZd, hzc, PPq, PPs⟩ := pair_parse s (by omega)
  replace hzc := Lib.hid hzc
  have HC : Hid (s.size ≤ 200) := by unfold Hid; omega
  have u0 := QX.out.cell0; have u1 := QX.out.cell1; have u2 := QX.out.cell2; have u3 := QX.out.cell3
  go_upto_region 6 with fail
  clear u0 u1 u2 u3 d0 d1 d2 hA hB hC m0 m1 hs hk0 hl0 hk1 hl1
  refine Rg.region_gg y0 [.is (.agg #[.bool b0, .slice A0 n0 c0, .bool b1, .slice A1 n1 c1]), .is (Value.bool r), .is (.agg #[.bool b0, .slice A0 n0 c0, .bool b1, .slice A1 n1 c1]), .is (Value.bool r), .is (Value.bool false)] [] [some 38, some 39, some 40, some 41, some 42] (by kernel_rfl) (by kernel_rfl) (by kernel_rfl) (by kernel_rfl) (by kernel_rfl) (by simp [Rg.stos]) (by rfl) (by rfl) (by kernel_rfl) (by simp) ((Below.refl _ _).drew) (fun Q' => ?_) (fun K hK wn hs => ?_)
  · refine ⟨?_, ?_, ?_, ?_, ?_, trivial⟩
    · intro a' w' ha hs hw hold
      have eo3 : a'.tmps[3]? = some (ptr g) := (ha.rest 3 (by kernel_rfl)).trans rfl
      exact ⟨rfl, .inl ⟨wanted_none rfl, wp_val (run_qload rfl (ev_tmp eo3) (QX.out.bel hs (by simp))) ⟨rfl, Below.refl _ _⟩⟩⟩
    · intro a' w' ha hs hw hold
      have e0 : a'.tmps[38]? = some (.agg #[.bool b0, .slice A0 n0 c0, .bool b1, .slice A1 n1 c1]) := Rg.slot_get rfl rfl (hw 0 (by kernel_rfl) _ rfl)
      exact ⟨rfl, .inl ⟨wanted_none rfl, call_step rfl Tryz.func45 (by kernel_rfl) rfl (map_one (ev_tmp e0)) (PVq.out _ (wd_kn HW0.out hs.kn) (wd_kn HW1.out hs.kn)) (fun e w2 he => by obtain ⟨rfl, hb⟩ := he; exact ⟨_, rfl, rfl, hb⟩)⟩⟩
    · intro a' w' ha hs hw hold
      have eo3 : a'.tmps[3]? = some (ptr g) := (ha.rest 3 (by kernel_rfl)).trans rfl
      exact ⟨rfl, .inl ⟨wanted_none rfl, wp_val (run_qload rfl (ev_tmp eo3) (QX.out.bel hs (by simp))) ⟨rfl, Below.refl _ _⟩⟩⟩
    · intro a' w' ha hs hw hold
      have e2 : a'.tmps[40]? = some (.agg #[.bool b0, .slice A0 n0 c0, .bool b1, .slice A1 n1 c1]) := Rg.slot_get rfl rfl (hw 2 (by kernel_rfl) _ rfl)
      exact ⟨rfl, .inl ⟨wanted_none rfl, call_step rfl Tryz.func46 (by kernel_rfl) rfl (map_one (ev_tmp e2)) (PVs.out _ (wd_kn HW0.out hs.kn) (wd_kn HW1.out hs.kn)) (fun e w2 he => by obtain ⟨rfl, hb⟩ := he; exact ⟨_, rfl, rfl, hb⟩)⟩⟩
    · intro a' w' ha hs hw hold
      have e1 : a'.tmps[39]? = some (Value.bool r) := Rg.slot_get rfl rfl (hw 1 (by kernel_rfl) _ rfl)
      have e3 : a'.tmps[41]? = some (Value.bool r) := Rg.slot_get rfl rfl (hw 3 (by kernel_rfl) _ rfl)
      exact ⟨rfl, .inl ⟨wanted_none rfl, wp_val (run_neqB rfl (ev_tmp e1) (ev_tmp e3)) ⟨rfl, Below.refl _ _⟩⟩⟩
  simp only [Rg.allG]
  simp only [setOpt, Rg.setOpt, List.set_cons_succ, List.set_cons_zero]
  refine hK _ _ ?_
  clear hK K
  replace hs := hs.below
  replace QX := Lib.hid (QX.out.next hs rfl)
  replace HW0 := Lib.hid (HW0.out.next hs rfl)
  replace HW1 := Lib.hid (HW1.out.next hs rfl)
  replace DW := nxd DW hg hs rfl rfl rfl rfl
  clear hs
  clear QX HW0 HW1 PVq PVs
  go_upto_region 8 with fail
  go_wp2_with fail
  refine (PPq.out _).mono ?_
  rintro e y2 ⟨_, rfl, hq, hb⟩
  obtain ⟨Xan, pan, qan, Xad, pad, qad, rfl, han, had⟩ := hq
  have Qan := Lib.hid han; have Qad := Lib.hid had; clear han had
  have B := Lib.hid hb; clear hb
  generalize hs : decide ((zn : Int) < 0) = san at *
  clear hs
  generalize hs : decide ((zd : Int) < 0) = sad at *
  clear hs
  go_upto_region 9 with fail
  obtain ⟨W3, hW⟩ : ∃ W3, W3 = y2.alloc (Obj.cells #[Value.bool san, Value.slice Xan pan qan, Value.bool sad, Value.slice Xad pad qad] 31) := ⟨_, rfl⟩
  rw [← hW]
  have QXa : Hid (QBox W3 y2.heap.size san (.slice Xan pan qan) sad (.slice Xad pad qad)) := by rw [hW]; exact QBox.new _ _ _ _ _
  have IVna : Hid (Iv W3 (.agg #[.bool san, .slice Xan pan qan]) (zn)) := by rw [hW]; exact Qan.out.alloc _
  have IVda : Hid (Iv W3 (.agg #[.bool sad, .slice Xad pad qad]) (zd)) := by rw [hW]; exact Qad.out.alloc _
  have hd : Below wn.heap.size wn W3 := by rw [hW]; exact B.out.alloc (by have := B.out.size; omega) _
  clear hW B Qan Qad
  generalize hgn3 : y2.heap.size = ga at *
  clear hgn3
  replace DW := nxd DW hg hd rfl rfl rfl rfl
  clear hd
  go_wp2_with fail
  refine (PPs.out _).mono ?_
  rintro e y4 ⟨_, rfl, hq, hb⟩
  obtain ⟨Xbn, pbn, qbn, Xbd, pbd, qbd, rfl, hbn, hbd⟩ := hq
  have Qbn := Lib.hid hbn; have Qbd := Lib.hid hbd; clear hbn hbd
  have B := Lib.hid hb; clear hb
  generalize hs : decide ((zn : Int) < 0) = sbn at *
  clear hs
  generalize hs : decide ((zd : Int) < 0) = sbd at *
  clear hs
  go_upto_region 10 with fail
  obtain ⟨W5, hW⟩ : ∃ W5, W5 = y4.alloc (Obj.cells #[Value.bool sbn, Value.slice Xbn pbn qbn, Value.bool sbd, Value.slice Xbd pbd qbd] 31) := ⟨_, rfl⟩
  rw [← hW]
  have QXb : Hid (QBox W5 y4.heap.size sbn (.slice Xbn pbn qbn) sbd (.slice Xbd pbd qbd)) := by rw [hW]; exact QBox.new _ _ _ _ _
  have IVnb : Hid (Iv W5 (.agg #[.bool sbn, .slice Xbn pbn qbn]) (zn)) := by rw [hW]; exact Qbn.out.alloc _
  have IVdb : Hid (Iv W5 (.agg #[.bool sbd, .slice Xbd pbd qbd]) (zd)) := by rw [hW]; exact Qbd.out.alloc _
  have hd : Below W3.heap.size W3 W5 := by rw [hW]; exact B.out.alloc (by have := B.out.size; omega) _
  clear hW B Qbn Qbd
  generalize hgn5 : y4.heap.size = gb at *
  clear hgn5
  replace QXa := nxq QXa hd rfl; replace IVna := nxv IVna hd rfl; replace IVda := nxv IVda hd rfl
  replace DW := nxd DW hg hd rfl rfl rfl rfl
  clear hd
  have r6 := rem6 m
  obtain ⟨L, hL⟩ : ∃ L : Nat, 3997 + m.tmod 6 % 6 = (L : Int) := ⟨(3997 + m.tmod 6 % 6).toNat, by omega⟩
  have hL1 : 3997 ≤ L ∧ L ≤ 4002 := by omega
  go_upto_region 11 with fail
  clear r6 hL
  have hL2 : L < 5000 := by omega
  have HL := Lib.hid hL1
  clear hL1
  have hmk := run_make_row' (P := Tryz.prog) 50 5 (.int .u8 0) 1 Tryz.underlying50 u8_info rfl .i64 .i64 L (by omega) (by omega)
  go_upto_region 12 with fail
  clear hmk
  obtain ⟨W9, hW⟩ : ∃ W9, W9 = W5.alloc (Obj.cells (madeCells #[Value.int IntKind.u8 0] L) 5) := ⟨_, rfl⟩
  rw [← hW]
  have HB : Hid (BR W9 W5.heap.size L (fun _ => 0)) := by rw [hW]; exact BR.new _ _
  have DB : Hid (Below W5.heap.size W5 W9) := by rw [hW]; exact (Below.refl _ _).alloc (Nat.le_refl _) _
  clear hW
  go_wp2_with fail
  go_loopw [14] (fun v wr => ∃ i : Nat, i ≤ L ∧ v = .int .i64 i ∧ Below W5.heap.size W5 wr ∧ BR wr W5.heap.size L (fun t => if t < i then 55 else 0)) (fun v _ => L - (intOf v).toNat)
  case atStart => exact ⟨0, by omega, rfl, DB.out, HB.out.ext (fun t _ => by simp)⟩
  case round =>
    clear HB DB
    obtain ⟨i, hi, rfl, hbl, hbr⟩ := hrel
    have HBR := Lib.hid hbr
    have BL := Lib.hid hbl
    clear hbl hbr
    by_cases hil : i < L
    · have c1 : wr.cell? ⟨W5.heap.size, i, none⟩ = some (.int .u8 ((0 : Nat) : Int)) := by
        have h := HBR.out.2.1 i hil
        simpa using h
      have f1 := HBR.out.2.2 i
      have e0 : (i : Int) < (L : Int) := by omega
      go_wp2
      go_roundw
      case rel =>
        refine ⟨i + 1, by omega, by go_num, BL.out.setCell (by simp) _, (BR.set HBR.out hil 55).ext (fun t _ => ?_)⟩
        by_cases h1 : t = i
        · rw [if_pos h1, if_pos (by omega)]
        · rw [if_neg h1]
          by_cases h2 : t < i
          · rw [if_pos h2, if_pos (by omega)]
          · rw [if_neg h2, if_neg (by omega)]
      case measure => simp [intOf]; omega
    · have hiL : i = L := by omega
      subst hiL
      have e0 : decide ((i : Int) < (i : Int)) = false := decide_eq_false (by omega)
      by_cases h4 : s.size < 4
      case' pos =>
        have e4 : decide ((s.size : Int) < 4) = true := decide_eq_true (by omega)
        have c1 : wr.cell? ⟨W5.heap.size, 1, none⟩ = some (.int .u8 ((55 : Nat) : Int)) := by
          have h := HBR.out.2.1 1 (by have := HL.out; omega)
          have h1 : 1 < i := by have := HL.out; omega
          simpa [h1] using h
        have f1 := HBR.out.2.2 1
        have e6 : (1 : Int) < (i : Int) := by have := HL.out; omega
        go_upto_region 18 with fail
        obtain ⟨W20, hW⟩ : ∃ W20, W20 = wr.setCell ⟨W5.heap.size, 1, none⟩ (.int .u8 47) := ⟨_, rfl⟩
        rw [← hW]
        have HB2 : Hid (∃ f : Nat → Nat, (∀ t, f t < 256) ∧ BR W20 W5.heap.size i f) := by
          rw [hW]
          refine ⟨_, fun t => ?_, BR.set HBR.out (by have := HL.out; omega) 47⟩
          show (if t = 1 then 47 else if t < i then 55 else 0) < 256
          split <;> (try split) <;> omega
        have BL2 : Below W5.heap.size W5 W20 := by rw [hW]; exact BL.out.setCell (by simp) _
        clear hW c1 f1 e6 e4 e0 HBR BL
      case' neg =>
        have e4 : decide ((s.size : Int) < 4) = false := decide_eq_false (by omega)
        go_upto_region 18 with fail
        generalize hwj : wr = W20 at *
        clear hwj
        have HB2 : Hid (∃ f : Nat → Nat, (∀ t, f t < 256) ∧ BR W20 W5.heap.size i f) := by
          refine ⟨_, fun t => ?_, HBR.out⟩
          show (if t < i then 55 else 0) < 256
          split <;> omega
        have BL2 := BL.out
        clear e4 e0 HBR BL
      all_goals
        replace QXa := nxq QXa BL2 rfl; replace IVna := nxv IVna BL2 rfl; replace IVda := nxv IVda BL2 rfl
        replace QXb := nxq QXb BL2 rfl; replace IVnb := nxv IVnb BL2 rfl; replace IVdb := nxv IVdb BL2 rfl
        replace DW := nxd DW hg BL2 rfl rfl rfl rfl
        clear BL2
        obtain ⟨f, hf, hB⟩ := HB2.out
        have hcv := BR.text hB hf i
        obtain ⟨T, eT⟩ : ∃ T : ByteArray, T = ⟨(bytesOf i f).toArray⟩ := ⟨_, rfl⟩
        have hsz : T.size = i := by rw [eT]; show (bytesOf i f).toArray.size = i; simp [bytesOf]
        rw [← eT] at hcv
        obtain ⟨ln, ld, lc, hlc, PL⟩ := parse_len T
        replace hlc := Lib.hid hlc; replace hsz := Lib.hid hsz
        clear eT hB hf HB2 h4
        go_wp2_with fail
        refine (PL.out _).mono ?_
        rintro e y6 ⟨_, rfl, hq, hb⟩
        clear hcv
        obtain ⟨Xcn, pcn, qcn, Xcd, pcd, qcd, rfl, hcn, hcd⟩ := hq
        have Qcn := Lib.hid hcn; have Qcd := Lib.hid hcd; clear hcn hcd
        have B := Lib.hid hb; clear hb
        generalize hs : decide ((ln : Int) < 0) = scn at *
        clear hs
        generalize hs : decide ((ld : Int) < 0) = scd at *
        clear hs
        go_upto_region 19 with fail
        obtain ⟨W7, hW⟩ : ∃ W7, W7 = y6.alloc (Obj.cells #[Value.bool scn, Value.slice Xcn pcn qcn, Value.bool scd, Value.slice Xcd pcd qcd] 31) := ⟨_, rfl⟩
        rw [← hW]
        have QXc : Hid (QBox W7 y6.heap.size scn (.slice Xcn pcn qcn) scd (.slice Xcd pcd qcd)) := by rw [hW]; exact QBox.new _ _ _ _ _
        have IVnc : Hid (Iv W7 (.agg #[.bool scn, .slice Xcn pcn qcn]) (ln)) := by rw [hW]; exact Qcn.out.alloc _
        have IVdc : Hid (Iv W7 (.agg #[.bool scd, .slice Xcd pcd qcd]) (ld)) := by rw [hW]; exact Qcd.out.alloc _
        have hd : Below W20.heap.size W20 W7 := by rw [hW]; exact B.out.alloc (by have := B.out.size; omega) _
        clear hW B Qcn Qcd
        generalize hgn7 : y6.heap.size = gc at *
        clear hgn7
        replace QXa := nxq QXa hd rfl; replace IVna := nxv IVna hd rfl; replace IVda := nxv IVda hd rfl
        replace QXb := nxq QXb hd rfl; replace IVnb := nxv IVnb hd rfl; replace IVdb := nxv IVdb hd rfl
        replace DW := nxd DW hg hd rfl rfl rfl rfl
        clear hd
        have u8a := QXa.out.cell0; have u8b := QXa.out.cell1; have u8c := QXa.out.cell2; have u8d := QXa.out.cell3
        have u9a := QXb.out.cell0; have u9b := QXb.out.cell1; have u9c := QXb.out.cell2; have u9d := QXb.out.cell3
        go_wp2_with fail
        clear u8a u8b u8c u8d u9a u9b u9c u9d
        refine (alike_true _ _ zn zd zc _ (qv_of IVna.out IVda.out) (qv_of IVnb.out IVdb.out) (SZn.out.mono (by omega)) (SZd.out.mono (by omega))).mono ?_
        rintro e y10 ⟨rfl, hb⟩
        replace QXa := nxq QXa hb rfl; replace IVna := nxv IVna hb rfl; replace IVda := nxv IVda hb rfl
        replace QXb := nxq QXb hb rfl; replace IVnb := nxv IVnb hb rfl; replace IVdb := nxv IVdb hb rfl
        replace QXc := nxq QXc hb rfl; replace IVnc := nxv IVnc hb rfl; replace IVdc := nxv IVdc hb rfl
        replace DW := nxd DW hg hb rfl rfl rfl rfl
        clear hb
        rcases hlc.out with ⟨k1, k2⟩ | ⟨k1, k2, k3, k4⟩ | ⟨k1, k2, k3, k4⟩
        · skip
          subst k1
          have e8 : decide ((4000 : Int) < (i : Int)) = false := by have := hsz.out; simp; omega
          go_wp2
          go_ret
          exact ⟨rfl, by rw [hg.out]; exact DW.out⟩
        · skip
          subst k1
          have e8 : decide ((4000 : Int) < (i : Int)) = false := by have := hsz.out; simp; omega
          replace k3 := Lib.hid k3; replace k4 := Lib.hid k4; clear k2
          have u11a := QXc.out.cell0; have u11b := QXc.out.cell1; have u11c := QXc.out.cell2; have u11d := QXc.out.cell3
          go_wp2_with fail
          clear u11a u11b u11c u11d
          refine (fails_zero _ 3 _ (qv00 k3.out k4.out (qv_of IVnc.out IVdc.out))).mono ?_
          rintro e y12 ⟨rfl, hb⟩
          replace QXa := nxq QXa hb rfl; replace IVna := nxv IVna hb rfl; replace IVda := nxv IVda hb rfl
          replace QXb := nxq QXb hb rfl; replace IVnb := nxv IVnb hb rfl; replace IVdb := nxv IVdb hb rfl
          replace QXc := nxq QXc hb rfl; replace IVnc := nxv IVnc hb rfl; replace IVdc := nxv IVdc hb rfl
          replace DW := nxd DW hg hb rfl rfl rfl rfl
          clear hb
          go_wp2
          go_ret
          exact ⟨rfl, by rw [hg.out]; exact DW.out⟩
        · skip
          subst k1
          have e8 : decide ((4000 : Int) < (i : Int)) = true := by have := hsz.out; simp; omega
          replace k3 := Lib.hid k3; replace k4 := Lib.hid k4; clear k2
          have u13a := QXc.out.cell0; have u13b := QXc.out.cell1; have u13c := QXc.out.cell2; have u13d := QXc.out.cell3
          go_wp2_with fail
          clear u13a u13b u13c u13d
          refine (fails_zero _ 2 _ (qv00 k3.out k4.out (qv_of IVnc.out IVdc.out))).mono ?_
          rintro e y14 ⟨rfl, hb⟩
          replace QXa := nxq QXa hb rfl; replace IVna := nxv IVna hb rfl; replace IVda := nxv IVda hb rfl
          replace QXb := nxq QXb hb rfl; replace IVnb := nxv IVnb hb rfl; replace IVdb := nxv IVdb hb rfl
          replace QXc := nxq QXc hb rfl; replace IVnc := nxv IVnc hb rfl; replace IVdc := nxv IVdc hb rfl
          replace DW := nxd DW hg hb rfl rfl rfl rfl
          clear hb
          go_wp2
          go_ret
          exact ⟨rfl, by rw [hg.out]; exact DW.out⟩
end Go.Proofs.YtfigimfdojbkeaaGreat
