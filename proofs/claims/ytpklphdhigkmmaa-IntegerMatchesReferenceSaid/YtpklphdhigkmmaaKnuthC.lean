/-
  Contract of divideStep.
-/
import Derived.Test.YtpklphdhigkmmaaKnuthA
import Derived.Test.YtpklphdhigkmmaaKnuthB
import Derived.Deep.RegionHeld3
import Derived.Deep.RegionWith
import Derived.Deep.DrawnRows
namespace Go.Proofs.Ytpklphdhigkmmaa
open Go.RowKit
attribute [local go_sem ↓] Go.wp_at_zero Go.wp_at_succ

def RetStep (g : Nat) (pre mid post vs : List Nat) (w : World) (e : Ending) (w' : World) : Prop :=
  ∃ mid' : List Nat, e = .returned (.int .u32 (val mid / val vs : Nat)) ∧ mid'.length = mid.length ∧ val mid' = val mid % val vs ∧
    Blk w' g (pre ++ mid' ++ post) ∧ Only g w w' ∧ w'.heap.size = w.heap.size

theorem only_undrewN {g n : Nat} {a w : World} (h : Only g (a.drewN n) w) : Only g a w := ⟨h.os, h.tape, h.output, h.size, h.block⟩
theorem Only.drew_of {g : Nat} {a w : World} (h : Only g a.drew w) : Only g a w := ⟨h.os, h.tape, h.output, h.size, h.block⟩
theorem top_cell {w : World} {g n x : Nat} {pre lo post : List Nat} (h : Blk w g (pre ++ lo ++ ([x] ++ post))) (hl : lo.length = n) : w.cell? ⟨g, pre.length + n, none⟩ = some (.int .u32 (x : Nat)) := by
  have hc := h.cell (i := pre.length + n) (by simp; omega)
  rw [← hl, gd_mid pre lo _ _ rfl, hl] at hc
  exact hc
theorem gd_at (pre mid post : List Nat) (k : Nat) (h : k < mid.length) : gd (pre ++ mid ++ post) (pre.length + k) = gd mid k := by
  rw [gd_eq, gd_eq, List.append_assoc, List.getElem?_append_right (by omega), Nat.add_sub_cancel_left, List.getElem?_append_left h]

set_option maxHeartbeats 2000000 in
set_option maxRecDepth 100000 in
theorem divideStep_any (g o : Nat) (pre mid post : List Nat) (A : Option Addr) (p c d : Nat) (vs : List Nat) (w : World) (hb : Blk w g (pre ++ mid ++ post)) (ho : pre.length = o) (hmid : mid.length = p + 3)
    (ha : Wd w A (p + 2) vs) (hne : ∀ ad, A = some ad → 0 < p + 2 → ad.block ≠ g) (hm : p ≤ 100000000) (hc : p + 3 ≤ c) (htop : 2147483648 ≤ gd vs (p + 1)) (hq : val mid < 4294967296 * val vs) :
    Calls Try.prog 133 #[.slice (some ⟨g, o, none⟩) (p + 3) c, .slice A (p + 2) d] w (RetStep g pre mid post vs w) := by
  subst ho
  have HA := Lib.hid ha
  have HB := Lib.hid hb
  have HM := Lib.hid hmid
  have HN := Lib.hid hne
  have HQ := Lib.hid hq
  have wv := ha.wds
  have wm : Wds mid := hb.2.left.right
  have hvl := ha.len
  obtain ⟨vb, vo, rfl, _, hca⟩ := ha.cells (by omega)
  have c1 := hca (p + 1) (by omega)
  have c0 := hca p (by omega)
  have d2 := hb.cell (i := pre.length + (p + 2)) (by simp; omega)
  have d1 := hb.cell (i := pre.length + (p + 1)) (by simp; omega)
  have d0 := hb.cell (i := pre.length + p) (by simp; omega)
  rw [gd_at _ _ _ _ (by omega)] at d2 d1 d0
  have b2 := wm.getD (p + 2)
  have b1 := wm.getD (p + 1)
  have b0 := wm.getD p
  have a1 := wv.getD (p + 1)
  have a0 := wv.getD p
  have hor1 := or_high _ _ b1 b2
  have hstart := Lib.hid (Guess.start HM.out hvl wm (by omega))
  have hu := Lib.hid (top_le HM.out hvl wv hq)
  clear hb ha hmid hne hq hca hvl
  generalize hu2 : gd mid (p + 2) = u2 at *
  generalize hu1 : gd mid (p + 1) = u1 at *
  generalize hu0 : gd mid p = u0 at *
  generalize hv1 : gd vs (p + 1) = v1 at *
  generalize hv0 : gd vs p = v0 at *
  have HU2 := Lib.hid hu2
  have HU1 := Lib.hid hu1
  have HU0 := Lib.hid hu0
  have HV1 := Lib.hid hv1
  have HV0 := Lib.hid hv0
  generalize htp : u1 + 4294967296 * u2 = tp at *
  have htb : tp < 18446744073709551616 := by omega
  have HTP := Lib.hid htp
  clear hu2 hu1 hu0 hv1 hv0 htp
  have n1 : ((v1 : Int) == 0) = false := by simp; omega
  have n2 : (1 : Int) ≤ (v1 : Int) := by omega
  have n3 : (v1 : Int) ≤ 4294967295 := by omega
  have n4 : (tp : Int) ≤ 18446744073709551615 := by omega
  have i0 : (0 : Int) ≤ (p : Int) + 1 := by omega
  have i1 : (p : Int) + 1 < (p : Int) + 2 := by omega
  have i2 : (p : Int) < (p : Int) + 2 := by omega
  have i3 : (p : Int) + 1 < (p : Int) + 3 := by omega
  have i4 : (p : Int) < (p : Int) + 3 := by omega
  have i5 : (p : Int) + 2 < (p : Int) + 3 := by omega
  have i6 : (0 : Int) ≤ (p : Int) + 2 := by omega
  have i7 : ((p : Int) + 1).toNat = p + 1 := by omega
  have i8 : ((p : Int) + 2).toNat = p + 2 := by omega
  have i9 : IntKind.i64.wrap ((p : Int) + 2 - 1) = (p : Int) + 1 := by rw [IntWalk.i64_in _ (by omega)]; omega
  have i10 : IntKind.i64.wrap ((p : Int) + 2 - 2) = (p : Int) := by rw [IntWalk.i64_in _ (by omega)]; omega
  go_enter Try.func133, Try.ntmps133
  go_wp2
  go_quiet (fail)
  go_wp2
  go_quiet (fail)
  go_wp2
  go_quiet (fail)
  go_wp2
  go_loop [9, 10] (fun a b => ∃ gs rs : Nat, rs ≤ 4294967295 ∧ gs ≤ 4294967297 ∧ a = .int .u64 gs ∧ b = .int .u64 rs ∧ Guess mid vs p gs rs) (fun a _ => (intOf a).toNat)
  case atStart =>
    have h1 := hstart.out
    have h2 := h1.le wm (by rw [HU2.out, HV1.out]; exact hu.out) (by rw [HV1.out]; exact htop)
    have h3 : tp % v1 < v1 := Nat.mod_lt _ (by omega)
    exact ⟨tp / v1, tp % v1, by omega, h2, by rw [IntWalk.u64_in _ ⟨Int.ediv_nonneg (by omega) (by omega), by rw [← Int.natCast_ediv]; omega⟩]; rfl, rfl, h1⟩
  case round =>
    obtain ⟨gs, rs, hrs, hgs, rfl, rfl, hG⟩ := hrel
    have HG := Lib.hid hG
    clear hG
    have hP : ∃ P : Nat, P ≤ 18446744073709551615 ∧ Hid (P = gs * v0) ∧ (gs : Int) * (v0 : Int) = (P : Int) := ⟨gs * v0, by
      have : gs * v0 ≤ 4294967297 * 4294967295 := Nat.mul_le_mul hgs (by omega)
      omega, rfl, by rw [Int.natCast_mul]⟩
    obtain ⟨P, hP1, HP, hP2⟩ := hP
    have hR : ∃ R : Nat, Hid (R = u0 + 4294967296 * rs) ∧ bits .or .u64 ((rs : Int) * 4294967296) (u0 : Int) = (R : Int) := ⟨_, rfl, or_high _ _ b0 (by omega)⟩
    obtain ⟨R, HR, hR2⟩ := hR
    by_cases hdec : 4294967295 < gs ∨ R < P
    · obtain ⟨g1, hg1⟩ : ∃ g1, gs = g1 + 1 := ⟨gs - 1, by
        rcases hdec with h | h
        · omega
        · rcases Nat.eq_zero_or_pos gs with e | e
          · rw [HP.out, e] at h; omega
          · omega⟩
      have hg1e : (gs : Int) - 1 = (g1 : Int) := by omega
      have hge : 1 ≤ gs := by omega
      have hG2 := Lib.hid ((show Guess mid vs p (g1 + 1) rs by rw [← hg1]; exact HG.out).less HM.out HA.out.len wm (by rw [HV1.out]; omega) HQ.out (by rw [HV0.out, HU0.out, ← hg1, ← HP.out, ← HR.out]; exact hdec))
      rw [HV1.out] at hG2
      have HG1 := Lib.hid hg1
      have hg1b : g1 ≤ 4294967296 := by omega
      clear hg1
      by_cases hbrk : 4294967295 < rs + v1
      · have hg1 := hG2.out.brk wm (by rw [HU2.out, HV1.out]; exact hu.out) hbrk
        have hout := hG2.out.out HM.out HA.out.len wv (by rw [HV1.out]; omega) hg1 (.inr hbrk)
        have hd : 4294967295 < gs ∨ gs ≤ 4294967295 ∧ R < P := by omega
        clear hdec
        rcases hd with hd | ⟨hle, hd⟩
        · go_wp2_with fail
          refine (subtractTimes_any g pre.length pre mid post _ (p + 2) (p + 3) c d g1 vs _ (HB.out.drewN _) rfl HM.out (HA.out.drewN _) HN.out (by omega) (by omega) (by omega)).mono ?_
          rintro e w2 ⟨mid', rfl, hml, hmv, hb2, hon, hs2⟩
          by_cases hneg : val mid < val vs * g1
          · rw [decide_eq_true hneg]
            have HNEG := Lib.hid hneg
            have HMV := Lib.hid hmv
            have HON := Lib.hid hon
            have HSZ := Lib.hid hs2
            obtain ⟨lo, x, hlo, hmx⟩ : ∃ lo x, lo.length = p + 2 ∧ mid' = lo ++ [x] := ⟨mid'.take (p + 2), gd mid' (p + 2), by rw [List.length_take, hml, HM.out]; omega, by rw [← take_snoc _ _ (by rw [hml, HM.out]; omega), List.take_of_length_le (by rw [hml, HM.out]; omega)]⟩
            subst hmx
            have hb3 : Blk w2 g (pre ++ lo ++ ([x] ++ post)) := by simpa using hb2
            have hx : x < 4294967296 := hb3.2 x (by simp)
            have hcx := hb3.cell (i := pre.length + (p + 2)) (by simp; omega)
            rw [← hlo, gd_mid pre lo _ _ rfl, hlo, show gd ([x] ++ post) 0 = x from rfl] at hcx
            have hfx := hb3.frozen (pre.length + (p + 2))
            have HB3 := Lib.hid hb3
            have HLO := Lib.hid hlo
            have HOUT := Lib.hid hout
            clear hneg hmv hon hs2 hml hb2 hb3 hlo hout
            have hcxs : (0 : Int) ≤ (p : Int) + 2 := by omega
            have hcxc : (p : Int) + 2 ≤ (c : Int) := by omega
            have HA2 := Lib.hid (HA.out.only (only_undrewN HON.out) HN.out)
            have hge1 : 1 ≤ g1 := by
              have := HNEG.out
              rcases Nat.eq_zero_or_pos g1 with e | e
              · rw [e] at this; omega
              · exact e
            go_wp2
            go_region_with ((go_at_call 124; refine (addTimes_any g pre.length pre lo ([x] ++ post) _ (p + 2) (p + 2) _ _ 1 vs _ (by exact HB3.out) rfl HLO.out (by exact HA2.out) HN.out (by omega) (by omega) (by omega) (by omega)).mono ?_; rintro e w3 ⟨cy, lo2, rfl, hcy, hl2, hw2, he2, hb4, hon2, hs3⟩; have hcx3 := top_cell hb4 (hl2.trans HLO.out); have hfx3 := hb4.frozen (pre.length + (p + 2)); have HHH := Lib.hid (And.intro hl2 (And.intro hw2 (And.intro he2 (And.intro hb4 (And.intro hon2 hs3))))); clear hl2 hw2 he2 hb4 hon2 hs3))
            all_goals
              go_wp2
              go_ret
              obtain ⟨hl2, hw2, he2, hb4, hon2, hs3⟩ := HHH.out
              have hmv2 := HMV.out
              rw [if_pos HNEG.out, val_snoc, HLO.out, HM.out, show pw (p + 3) = pw (p + 2 + 1) from rfl, pw_succ (p + 2)] at hmv2
              rw [HLO.out] at he2 hl2
              have hV1 := val_lt HA.out.wds
              have hV2 := val_lt hw2
              rw [HA.out.len] at hV1
              rw [hl2] at hV2
              have hso := step_over rfl HOUT.out.1 HOUT.out.2 (div_pos_of_top HA.out.len (by rw [HV1.out]; omega)) hV1 HNEG.out hmv2 he2 hV2 hx hcy
              refine ⟨lo2 ++ [(x + cy) % 4294967296], ret_int (by have := hso.1; generalize val mid / val vs = qq at *; omega), by rw [List.length_append, hl2, HM.out]; rfl, by rw [val_snoc, hl2]; exact hso.2, ?_, ((only_undrewN HON.out).trans (Only.drew_of hon2)).set_ _ _, ?_⟩
              · have hs := hb4.set_i (pre.length + (p + 2)) ((x + cy) % 4294967296) (j := ((x : Int) + (cy : Int)) % 4294967296) (by omega) (Nat.mod_lt _ (by omega))
                rw [show [x] ++ post = x :: post from rfl, set_mid pre lo2 post _ _ (p + 2) hl2] at hs
                exact hs
              · simp only [World.setCell]
                simp
                have e1 := HSZ.out
                have e2 := hs3
                simp at e1 e2
                omega
          · rw [decide_eq_false hneg]
            have hmv2 := hmv
            rw [if_neg hneg] at hmv2
            have hfin := Lib.hid (step_exact rfl hout.1 hout.2 (div_pos_of_top HA.out.len (by rw [HV1.out]; omega)) hneg (by omega))
            have HMM := Lib.hid hml
            have HB2 := Lib.hid hb2
            clear hmv hmv2 hneg hml hb2 hout
            go_wp2
            go_ret
            exact ⟨mid', ret_int (by rw [← hfin.out.1]), HMM.out, hfin.out.2, HB2.out, only_undrewN hon, hs2⟩
        · go_wp2_with fail
          refine (subtractTimes_any g pre.length pre mid post _ (p + 2) (p + 3) c d g1 vs _ (HB.out.drewN _) rfl HM.out (HA.out.drewN _) HN.out (by omega) (by omega) (by omega)).mono ?_
          rintro e w2 ⟨mid', rfl, hml, hmv, hb2, hon, hs2⟩
          by_cases hneg : val mid < val vs * g1
          · rw [decide_eq_true hneg]
            have HNEG := Lib.hid hneg
            have HMV := Lib.hid hmv
            have HON := Lib.hid hon
            have HSZ := Lib.hid hs2
            obtain ⟨lo, x, hlo, hmx⟩ : ∃ lo x, lo.length = p + 2 ∧ mid' = lo ++ [x] := ⟨mid'.take (p + 2), gd mid' (p + 2), by rw [List.length_take, hml, HM.out]; omega, by rw [← take_snoc _ _ (by rw [hml, HM.out]; omega), List.take_of_length_le (by rw [hml, HM.out]; omega)]⟩
            subst hmx
            have hb3 : Blk w2 g (pre ++ lo ++ ([x] ++ post)) := by simpa using hb2
            have hx : x < 4294967296 := hb3.2 x (by simp)
            have hcx := hb3.cell (i := pre.length + (p + 2)) (by simp; omega)
            rw [← hlo, gd_mid pre lo _ _ rfl, hlo, show gd ([x] ++ post) 0 = x from rfl] at hcx
            have hfx := hb3.frozen (pre.length + (p + 2))
            have HB3 := Lib.hid hb3
            have HLO := Lib.hid hlo
            have HOUT := Lib.hid hout
            clear hneg hmv hon hs2 hml hb2 hb3 hlo hout
            have hcxs : (0 : Int) ≤ (p : Int) + 2 := by omega
            have hcxc : (p : Int) + 2 ≤ (c : Int) := by omega
            have HA2 := Lib.hid (HA.out.only (only_undrewN HON.out) HN.out)
            have hge1 : 1 ≤ g1 := by
              have := HNEG.out
              rcases Nat.eq_zero_or_pos g1 with e | e
              · rw [e] at this; omega
              · exact e
            go_wp2
            go_region_with ((go_at_call 124; refine (addTimes_any g pre.length pre lo ([x] ++ post) _ (p + 2) (p + 2) _ _ 1 vs _ (by exact HB3.out) rfl HLO.out (by exact HA2.out) HN.out (by omega) (by omega) (by omega) (by omega)).mono ?_; rintro e w3 ⟨cy, lo2, rfl, hcy, hl2, hw2, he2, hb4, hon2, hs3⟩; have hcx3 := top_cell hb4 (hl2.trans HLO.out); have hfx3 := hb4.frozen (pre.length + (p + 2)); have HHH := Lib.hid (And.intro hl2 (And.intro hw2 (And.intro he2 (And.intro hb4 (And.intro hon2 hs3))))); clear hl2 hw2 he2 hb4 hon2 hs3))
            all_goals
              go_wp2
              go_ret
              obtain ⟨hl2, hw2, he2, hb4, hon2, hs3⟩ := HHH.out
              have hmv2 := HMV.out
              rw [if_pos HNEG.out, val_snoc, HLO.out, HM.out, show pw (p + 3) = pw (p + 2 + 1) from rfl, pw_succ (p + 2)] at hmv2
              rw [HLO.out] at he2 hl2
              have hV1 := val_lt HA.out.wds
              have hV2 := val_lt hw2
              rw [HA.out.len] at hV1
              rw [hl2] at hV2
              have hso := step_over rfl HOUT.out.1 HOUT.out.2 (div_pos_of_top HA.out.len (by rw [HV1.out]; omega)) hV1 HNEG.out hmv2 he2 hV2 hx hcy
              refine ⟨lo2 ++ [(x + cy) % 4294967296], ret_int (by have := hso.1; generalize val mid / val vs = qq at *; omega), by rw [List.length_append, hl2, HM.out]; rfl, by rw [val_snoc, hl2]; exact hso.2, ?_, ((only_undrewN HON.out).trans (Only.drew_of hon2)).set_ _ _, ?_⟩
              · have hs := hb4.set_i (pre.length + (p + 2)) ((x + cy) % 4294967296) (j := ((x : Int) + (cy : Int)) % 4294967296) (by omega) (Nat.mod_lt _ (by omega))
                rw [show [x] ++ post = x :: post from rfl, set_mid pre lo2 post _ _ (p + 2) hl2] at hs
                exact hs
              · simp only [World.setCell]
                simp
                have e1 := HSZ.out
                have e2 := hs3
                simp at e1 e2
                omega
          · rw [decide_eq_false hneg]
            have hmv2 := hmv
            rw [if_neg hneg] at hmv2
            have hfin := Lib.hid (step_exact rfl hout.1 hout.2 (div_pos_of_top HA.out.len (by rw [HV1.out]; omega)) hneg (by omega))
            have HMM := Lib.hid hml
            have HB2 := Lib.hid hb2
            clear hmv hmv2 hneg hml hb2 hout
            go_wp2
            go_ret
            exact ⟨mid', ret_int (by rw [← hfin.out.1]), HMM.out, hfin.out.2, HB2.out, only_undrewN hon, hs2⟩
      · have hle : gs ≤ 4294967295 ∨ 4294967295 < gs := by omega
        rcases hle with hle | hle
        · have hd : R < P := by omega
          clear hdec
          go_wp2
          go_round
          case rel => exact ⟨g1, rs + v1, by omega, by omega, rfl, by go_num, hG2.out⟩
          case measure => (have := HG1.out; simp [intOf]; omega)
        · clear hdec
          go_wp2
          go_round
          case rel => exact ⟨g1, rs + v1, by omega, by omega, rfl, by go_num, hG2.out⟩
          case measure => (have := HG1.out; simp [intOf]; omega)
    · have hle : gs ≤ 4294967295 := by omega
      have hle2 : P ≤ R := by omega
      have hout := HG.out.out HM.out HA.out.len wv (by rw [HV1.out]; omega) hle (.inl (by rw [HV0.out, HU0.out, ← HP.out, ← HR.out]; exact hle2))
      clear hdec
      go_wp2_with fail
      refine (subtractTimes_any g pre.length pre mid post _ (p + 2) (p + 3) c d gs vs _ (HB.out.drewN _) rfl HM.out (HA.out.drewN _) HN.out (by omega) (by omega) (by omega)).mono ?_
      rintro e w2 ⟨mid', rfl, hml, hmv, hb2, hon, hs2⟩
      by_cases hneg : val mid < val vs * gs
      · rw [decide_eq_true hneg]
        have HNEG := Lib.hid hneg
        have HMV := Lib.hid hmv
        have HON := Lib.hid hon
        have HSZ := Lib.hid hs2
        obtain ⟨lo, x, hlo, hmx⟩ : ∃ lo x, lo.length = p + 2 ∧ mid' = lo ++ [x] := ⟨mid'.take (p + 2), gd mid' (p + 2), by rw [List.length_take, hml, HM.out]; omega, by rw [← take_snoc _ _ (by rw [hml, HM.out]; omega), List.take_of_length_le (by rw [hml, HM.out]; omega)]⟩
        subst hmx
        have hb3 : Blk w2 g (pre ++ lo ++ ([x] ++ post)) := by simpa using hb2
        have hx : x < 4294967296 := hb3.2 x (by simp)
        have hcx := hb3.cell (i := pre.length + (p + 2)) (by simp; omega)
        rw [← hlo, gd_mid pre lo _ _ rfl, hlo, show gd ([x] ++ post) 0 = x from rfl] at hcx
        have hfx := hb3.frozen (pre.length + (p + 2))
        have HB3 := Lib.hid hb3
        have HLO := Lib.hid hlo
        have HOUT := Lib.hid hout
        clear hneg hmv hon hs2 hml hb2 hb3 hlo hout
        have hcxs : (0 : Int) ≤ (p : Int) + 2 := by omega
        have hcxc : (p : Int) + 2 ≤ (c : Int) := by omega
        have HA2 := Lib.hid (HA.out.only (only_undrewN HON.out) HN.out)
        have hge1 : 1 ≤ gs := by
          have := HNEG.out
          rcases Nat.eq_zero_or_pos gs with e | e
          · rw [e] at this; omega
          · exact e
        go_wp2
        go_region_with ((go_at_call 124; refine (addTimes_any g pre.length pre lo ([x] ++ post) _ (p + 2) (p + 2) _ _ 1 vs _ (by exact HB3.out) rfl HLO.out (by exact HA2.out) HN.out (by omega) (by omega) (by omega) (by omega)).mono ?_; rintro e w3 ⟨cy, lo2, rfl, hcy, hl2, hw2, he2, hb4, hon2, hs3⟩; have hcx3 := top_cell hb4 (hl2.trans HLO.out); have hfx3 := hb4.frozen (pre.length + (p + 2)); have HHH := Lib.hid (And.intro hl2 (And.intro hw2 (And.intro he2 (And.intro hb4 (And.intro hon2 hs3))))); clear hl2 hw2 he2 hb4 hon2 hs3))
        all_goals
          go_wp2
          go_ret
          obtain ⟨hl2, hw2, he2, hb4, hon2, hs3⟩ := HHH.out
          have hmv2 := HMV.out
          rw [if_pos HNEG.out, val_snoc, HLO.out, HM.out, show pw (p + 3) = pw (p + 2 + 1) from rfl, pw_succ (p + 2)] at hmv2
          rw [HLO.out] at he2 hl2
          have hV1 := val_lt HA.out.wds
          have hV2 := val_lt hw2
          rw [HA.out.len] at hV1
          rw [hl2] at hV2
          have hso := step_over rfl HOUT.out.1 HOUT.out.2 (div_pos_of_top HA.out.len (by rw [HV1.out]; omega)) hV1 HNEG.out hmv2 he2 hV2 hx hcy
          refine ⟨lo2 ++ [(x + cy) % 4294967296], ret_int (by have := hso.1; generalize val mid / val vs = qq at *; omega), by rw [List.length_append, hl2, HM.out]; rfl, by rw [val_snoc, hl2]; exact hso.2, ?_, ((only_undrewN HON.out).trans (Only.drew_of hon2)).set_ _ _, ?_⟩
          · have hs := hb4.set_i (pre.length + (p + 2)) ((x + cy) % 4294967296) (j := ((x : Int) + (cy : Int)) % 4294967296) (by omega) (Nat.mod_lt _ (by omega))
            rw [show [x] ++ post = x :: post from rfl, set_mid pre lo2 post _ _ (p + 2) hl2] at hs
            exact hs
          · simp only [World.setCell]
            simp
            have e1 := HSZ.out
            have e2 := hs3
            simp at e1 e2
            omega
      · rw [decide_eq_false hneg]
        have hmv2 := hmv
        rw [if_neg hneg] at hmv2
        have hfin := Lib.hid (step_exact rfl hout.1 hout.2 (div_pos_of_top HA.out.len (by rw [HV1.out]; omega)) hneg (by omega))
        have HMM := Lib.hid hml
        have HB2 := Lib.hid hb2
        clear hmv hmv2 hneg hml hb2 hout
        go_wp2
        go_ret
        exact ⟨mid', ret_int (by rw [← hfin.out.1]), HMM.out, hfin.out.2, HB2.out, only_undrewN hon, hs2⟩
end Go.Proofs.Ytpklphdhigkmmaa
