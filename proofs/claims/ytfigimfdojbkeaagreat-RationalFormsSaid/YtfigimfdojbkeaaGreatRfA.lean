/-
  RationalForms: both Valid on any words, both Parse, the law.
-/
import Derived.Test.YtfigimfdojbkeaaGreatRqF
import Derived.Test.YtfigimfdojbkeaaGreatRatS
import Derived.Deep.DeepCutAuto
import Derived.Handy
set_option linter.unusedSimpArgs false
set_option linter.unusedVariables false
namespace Go.Proofs.YtfigimfdojbkeaaGreat
open Go.RowKit
attribute [local go_sem ↓] Go.wp_at_zero Go.wp_at_succ

theorem fvalid_nil (A : Option Addr) (c : Nat) (w : World) : Calls Tryz.prog 114 #[.agg #[.bool true, .slice A 0 c]] w (RetV (.bool false) w) := by
  go_enter Tryz.func114, Tryz.ntmps114
  go_wp2
  go_ret
  exact ⟨by simp, (Below.refl _ _).alloc (Nat.le_refl _) _⟩
theorem fvalid_top (b : Bool) (A : Option Addr) (k c : Nat) (ws : List Nat) (w : World) (h : Wd w A (k + 1) ws) (ht : gd ws k = 0) (hk : k ≤ 1000) : Calls Tryz.prog 114 #[.agg #[.bool b, .slice A (k + 1) c]] w (RetV (.bool false) w) := by
  obtain ⟨bb, o, rfl, hlt, hcell⟩ := h.cells (by omega)
  have c0 := hcell k (by omega)
  rw [ht] at c0
  have c1 : (w.alloc (.cells #[.bool b, .slice (some ⟨bb, o, none⟩) (k + 1) c] 29)).cell? ⟨bb, o + k, none⟩ = some (.int .u32 (0 : Nat)) := by
    rw [World.cell?_alloc_past _ _ _ hlt]; exact c0
  have hne : ((k : Int) + 1 == 0) = false := by simp; omega
  clear h ht hcell c0
  go_enter Tryz.func114, Tryz.ntmps114
  go_wp2
  go_ret
  exact ⟨by simp, (Below.refl _ _).alloc (Nat.le_refl _) _⟩
theorem rfvalid_nil (A : Option Addr) (c : Nat) (w : World) : Calls Tryz.prog 115 #[.agg #[.bool true, .slice A 0 c]] w (RetV (.bool false) w) := by
  go_enter Tryz.func115, Tryz.ntmps115
  go_wp2
  go_ret
  exact ⟨by simp, (Below.refl _ _).alloc (Nat.le_refl _) _⟩
theorem rfvalid_top (b : Bool) (A : Option Addr) (k c : Nat) (ws : List Nat) (w : World) (h : Wd w A (k + 1) ws) (ht : gd ws k = 0) (hk : k ≤ 1000) : Calls Tryz.prog 115 #[.agg #[.bool b, .slice A (k + 1) c]] w (RetV (.bool false) w) := by
  obtain ⟨bb, o, rfl, hlt, hcell⟩ := h.cells (by omega)
  have c0 := hcell k (by omega)
  rw [ht] at c0
  have c1 : (w.alloc (.cells #[.bool b, .slice (some ⟨bb, o, none⟩) (k + 1) c] 29)).cell? ⟨bb, o + k, none⟩ = some (.int .u32 (0 : Nat)) := by
    rw [World.cell?_alloc_past _ _ _ hlt]; exact c0
  have hne : ((k : Int) + 1 == 0) = false := by simp; omega
  clear h ht hcell c0
  go_enter Tryz.func115, Tryz.ntmps115
  go_wp2
  go_ret
  exact ⟨by simp, (Below.refl _ _).alloc (Nat.le_refl _) _⟩
theorem fiv_raw {w : World} {b : Bool} {A : Option Addr} {n c : Nat} {ws : List Nat} (h : Wd w A n ws) (hc : n ≤ c) (hb : c ≤ 9223372036854775807) (ht : (n = 0 ∧ b = false) ∨ (0 < n ∧ gd ws (n - 1) ≠ 0)) : Iv w (.agg #[.bool b, .slice A n c]) (sgn b (val ws)) := by
  have hcan : Can ws := by
    refine ⟨h.wds, ?_⟩
    rcases ht with ⟨h0, _⟩ | ⟨h0, h1⟩
    · exact .inl (List.eq_nil_of_length_eq_zero (h.len.trans h0))
    · exact .inr (by rw [h.len]; exact h1)
  have hm : ws = mag (val ws) := (mag_val hcan).symm
  refine ⟨.slice A n c, ?_, A, n, c, rfl, hc, hb, ?_⟩
  · rw [sgn_neg]
    have hp : decide (0 < n) = decide (0 < val ws) := len_pos (by rw [← hm]; exact h)
    rcases ht with ⟨h0, rfl⟩ | ⟨h0, _⟩
    · simp
    · rw [← hp]; simp [h0]
  · rw [sgn_abs, ← hm]
    exact h
/-- Words that are no integer. -/
def Bad (b : Bool) (n : Nat) (ws : List Nat) : Prop := (n = 0 ∧ b = true) ∨ (0 < n ∧ gd ws (n - 1) = 0)
theorem Bad.good {b : Bool} {n : Nat} {ws : List Nat} (h : ¬ Bad b n ws) : (n = 0 ∧ b = false) ∨ (0 < n ∧ gd ws (n - 1) ≠ 0) := by
  rcases Nat.eq_zero_or_pos n with h0 | h0
  · left
    refine ⟨h0, ?_⟩
    cases b
    · rfl
    · exact absurd (.inl ⟨h0, rfl⟩) h
  · exact .inr ⟨h0, fun e => h (.inr ⟨h0, e⟩)⟩
theorem ivalid_bad (b : Bool) (A : Option Addr) (n c : Nat) (ws : List Nat) (w : World) (h : Wd w A n ws) (hn : n ≤ 20) (hb : Bad b n ws) : Calls Tryz.prog 114 #[.agg #[.bool b, .slice A n c]] w (RetV (.bool false) w) := by
  rcases hb with ⟨rfl, rfl⟩ | ⟨h0, h1⟩
  · exact fvalid_nil A c w
  · obtain ⟨k, rfl⟩ : ∃ k, n = k + 1 := ⟨n - 1, by omega⟩
    exact fvalid_top b A k c ws w h h1 (by omega)
theorem rvalid_bad (b : Bool) (A : Option Addr) (n c : Nat) (ws : List Nat) (w : World) (h : Wd w A n ws) (hn : n ≤ 20) (hb : Bad b n ws) : Calls Tryz.prog 115 #[.agg #[.bool b, .slice A n c]] w (RetV (.bool false) w) := by
  rcases hb with ⟨rfl, rfl⟩ | ⟨h0, h1⟩
  · exact rfvalid_nil A c w
  · obtain ⟨k, rfl⟩ : ∃ k, n = k + 1 := ⟨n - 1, by omega⟩
    exact rfvalid_top b A k c ws w h h1 (by omega)
theorem sgn_szw {b : Bool} {ws : List Nat} {n : Nat} (h : Wds ws) (hl : ws.length ≤ n) : Sz (sgn b (val ws)) n := ⟨by rw [sgn_abs]; exact Nat.lt_of_lt_of_le (val_lt h) (pw_le hl)⟩

set_option maxHeartbeats 8000000 in
set_option maxRecDepth 100000 in
theorem qvalid_bad0 (b0 : Bool) (A0 : Option Addr) (n0 c0 : Nat) (ws0 : List Nat) (b1 : Bool) (A1 : Option Addr) (n1 c1 : Nat) (ws1 : List Nat) (w : World) (h0 : Wd w A0 n0 ws0) (h1 : Wd w A1 n1 ws1) (hn0 : n0 ≤ 20) (hn1 : n1 ≤ 20) (k0 : n0 ≤ c0) (l0 : c0 ≤ 9223372036854775807) (hb : Bad b0 n0 ws0) : Calls Tryz.prog 45 #[.agg #[.bool b0, .slice A0 n0 c0, .bool b1, .slice A1 n1 c1]] w (RetV (.bool false) w) := by
  have H0 := Lib.hid h0; have H1 := Lib.hid h1
  replace hb := Lib.hid hb; replace hn0 := Lib.hid hn0; replace hn1 := Lib.hid hn1
  clear h0 h1 k0 l0
  go_enter Tryz.func45, Tryz.ntmps45
  go_wp2_with fail
  obtain ⟨W, hW⟩ : ∃ W, W = w.alloc (Obj.cells #[Value.bool b0, Value.slice A0 n0 c0, Value.bool b1, Value.slice A1 n1 c1] 31) := ⟨_, rfl⟩
  rw [← hW]
  have QX : Hid (QBox W w.heap.size b0 (.slice A0 n0 c0) b1 (.slice A1 n1 c1)) := by rw [hW]; exact QBox.new w _ _ _ _
  have HW0 : Hid (Wd W A0 n0 ws0) := by rw [hW]; exact H0.out.alloc _
  have HW1 : Hid (Wd W A1 n1 ws1) := by rw [hW]; exact H1.out.alloc _
  have DW : Hid (Below w.heap.size w W) := by rw [hW]; exact (Below.refl _ _).alloc (Nat.le_refl _) _
  clear hW H0 H1
  generalize hg : w.heap.size = g at *
  replace hg := Lib.hid hg
  go_upto_region 1 with fail
  have u0 := QX.out.cell0; have u1 := QX.out.cell1; have u2 := QX.out.cell2; have u3 := QX.out.cell3
  go_wp2_with fail
  clear u0 u1 u2 u3
  refine (ivalid_bad b0 A0 n0 c0 ws0 _ HW0.out hn0.out hb.out).mono ?_
  rintro e y1 ⟨rfl, hb1⟩
  replace DW := nxd DW hg hb1 rfl rfl rfl rfl
  go_wp2
  go_ret
  exact ⟨rfl, by rw [hg.out]; exact DW.out⟩

set_option maxHeartbeats 8000000 in
set_option maxRecDepth 100000 in
theorem qvalid_bad1 (b0 : Bool) (A0 : Option Addr) (n0 c0 : Nat) (ws0 : List Nat) (b1 : Bool) (A1 : Option Addr) (n1 c1 : Nat) (ws1 : List Nat) (w : World) (h0 : Wd w A0 n0 ws0) (h1 : Wd w A1 n1 ws1) (hn0 : n0 ≤ 20) (hn1 : n1 ≤ 20) (k0 : n0 ≤ c0) (l0 : c0 ≤ 9223372036854775807) (hg0 : ¬ Bad b0 n0 ws0) (hb : Bad b1 n1 ws1) : Calls Tryz.prog 45 #[.agg #[.bool b0, .slice A0 n0 c0, .bool b1, .slice A1 n1 c1]] w (RetV (.bool false) w) := by
  obtain ⟨z, ez⟩ : ∃ z, sgn b0 (val ws0) = z := ⟨_, rfl⟩
  have HI := Lib.hid (ez ▸ fiv_raw h0 k0 l0 (Bad.good hg0))
  have SZ : Hid (Sz z 20) := ez ▸ sgn_szw h0.wds (by rw [h0.len]; exact hn0)
  clear ez hg0
  have H0 := Lib.hid h0; have H1 := Lib.hid h1
  replace hb := Lib.hid hb; replace hn0 := Lib.hid hn0; replace hn1 := Lib.hid hn1
  clear h0 h1 k0 l0
  go_enter Tryz.func45, Tryz.ntmps45
  go_wp2_with fail
  obtain ⟨W, hW⟩ : ∃ W, W = w.alloc (Obj.cells #[Value.bool b0, Value.slice A0 n0 c0, Value.bool b1, Value.slice A1 n1 c1] 31) := ⟨_, rfl⟩
  rw [← hW]
  have QX : Hid (QBox W w.heap.size b0 (.slice A0 n0 c0) b1 (.slice A1 n1 c1)) := by rw [hW]; exact QBox.new w _ _ _ _
  have HW0 : Hid (Wd W A0 n0 ws0) := by rw [hW]; exact H0.out.alloc _
  have HW1 : Hid (Wd W A1 n1 ws1) := by rw [hW]; exact H1.out.alloc _
  have IV : Hid (Iv W (.agg #[.bool b0, .slice A0 n0 c0]) z) := by rw [hW]; exact HI.out.alloc _
  clear HI
  have DW : Hid (Below w.heap.size w W) := by rw [hW]; exact (Below.refl _ _).alloc (Nat.le_refl _) _
  clear hW H0 H1
  generalize hg : w.heap.size = g at *
  replace hg := Lib.hid hg
  go_upto_region 1 with fail
  have u0 := QX.out.cell0; have u1 := QX.out.cell1; have u2 := QX.out.cell2; have u3 := QX.out.cell3
  go_wp2_with fail
  clear u0 u1 u2 u3
  refine (valid_any _ z _ IV.out (SZ.out.mono (by omega))).mono ?_
  rintro e y1 ⟨rfl, hb1⟩
  replace QX := nxq QX hb1 rfl; replace DW := nxd DW hg hb1 rfl rfl rfl rfl; replace HW1 := Lib.hid (HW1.out.next hb1 rfl)
  clear hb1 IV HW0
  have u0 := QX.out.cell0; have u1 := QX.out.cell1; have u2 := QX.out.cell2; have u3 := QX.out.cell3
  go_wp2_with fail
  clear u0 u1 u2 u3
  refine (ivalid_bad b1 A1 n1 c1 ws1 _ HW1.out hn1.out hb.out).mono ?_
  rintro e y2 ⟨rfl, hb1⟩
  replace DW := nxd DW hg hb1 rfl rfl rfl rfl
  go_wp2
  go_ret
  exact ⟨rfl, by rw [hg.out]; exact DW.out⟩

set_option maxHeartbeats 8000000 in
set_option maxRecDepth 100000 in
theorem rqvalid_bad0 (b0 : Bool) (A0 : Option Addr) (n0 c0 : Nat) (ws0 : List Nat) (b1 : Bool) (A1 : Option Addr) (n1 c1 : Nat) (ws1 : List Nat) (w : World) (h0 : Wd w A0 n0 ws0) (h1 : Wd w A1 n1 ws1) (hn0 : n0 ≤ 20) (hn1 : n1 ≤ 20) (k0 : n0 ≤ c0) (l0 : c0 ≤ 9223372036854775807) (hb : Bad b0 n0 ws0) : Calls Tryz.prog 46 #[.agg #[.bool b0, .slice A0 n0 c0, .bool b1, .slice A1 n1 c1]] w (RetV (.bool false) w) := by
  have H0 := Lib.hid h0; have H1 := Lib.hid h1
  replace hb := Lib.hid hb; replace hn0 := Lib.hid hn0; replace hn1 := Lib.hid hn1
  clear h0 h1 k0 l0
  go_enter Tryz.func46, Tryz.ntmps46
  go_wp2_with fail
  obtain ⟨W, hW⟩ : ∃ W, W = w.alloc (Obj.cells #[Value.bool b0, Value.slice A0 n0 c0, Value.bool b1, Value.slice A1 n1 c1] 31) := ⟨_, rfl⟩
  rw [← hW]
  have QX : Hid (QBox W w.heap.size b0 (.slice A0 n0 c0) b1 (.slice A1 n1 c1)) := by rw [hW]; exact QBox.new w _ _ _ _
  have HW0 : Hid (Wd W A0 n0 ws0) := by rw [hW]; exact H0.out.alloc _
  have HW1 : Hid (Wd W A1 n1 ws1) := by rw [hW]; exact H1.out.alloc _
  have DW : Hid (Below w.heap.size w W) := by rw [hW]; exact (Below.refl _ _).alloc (Nat.le_refl _) _
  clear hW H0 H1
  generalize hg : w.heap.size = g at *
  replace hg := Lib.hid hg
  go_upto_region 1 with fail
  have u0 := QX.out.cell0; have u1 := QX.out.cell1; have u2 := QX.out.cell2; have u3 := QX.out.cell3
  go_wp2_with fail
  clear u0 u1 u2 u3
  refine (rvalid_bad b0 A0 n0 c0 ws0 _ HW0.out hn0.out hb.out).mono ?_
  rintro e y1 ⟨rfl, hb1⟩
  replace DW := nxd DW hg hb1 rfl rfl rfl rfl
  go_wp2
  go_ret
  exact ⟨rfl, by rw [hg.out]; exact DW.out⟩

set_option maxHeartbeats 8000000 in
set_option maxRecDepth 100000 in
theorem rqvalid_bad1 (b0 : Bool) (A0 : Option Addr) (n0 c0 : Nat) (ws0 : List Nat) (b1 : Bool) (A1 : Option Addr) (n1 c1 : Nat) (ws1 : List Nat) (w : World) (h0 : Wd w A0 n0 ws0) (h1 : Wd w A1 n1 ws1) (hn0 : n0 ≤ 20) (hn1 : n1 ≤ 20) (k0 : n0 ≤ c0) (l0 : c0 ≤ 9223372036854775807) (hg0 : ¬ Bad b0 n0 ws0) (hb : Bad b1 n1 ws1) : Calls Tryz.prog 46 #[.agg #[.bool b0, .slice A0 n0 c0, .bool b1, .slice A1 n1 c1]] w (RetV (.bool false) w) := by
  obtain ⟨z, ez⟩ : ∃ z, sgn b0 (val ws0) = z := ⟨_, rfl⟩
  have HI := Lib.hid (ez ▸ fiv_raw h0 k0 l0 (Bad.good hg0))
  have SZ : Hid (Sz z 20) := ez ▸ sgn_szw h0.wds (by rw [h0.len]; exact hn0)
  clear ez hg0
  have H0 := Lib.hid h0; have H1 := Lib.hid h1
  replace hb := Lib.hid hb; replace hn0 := Lib.hid hn0; replace hn1 := Lib.hid hn1
  clear h0 h1 k0 l0
  go_enter Tryz.func46, Tryz.ntmps46
  go_wp2_with fail
  obtain ⟨W, hW⟩ : ∃ W, W = w.alloc (Obj.cells #[Value.bool b0, Value.slice A0 n0 c0, Value.bool b1, Value.slice A1 n1 c1] 31) := ⟨_, rfl⟩
  rw [← hW]
  have QX : Hid (QBox W w.heap.size b0 (.slice A0 n0 c0) b1 (.slice A1 n1 c1)) := by rw [hW]; exact QBox.new w _ _ _ _
  have HW0 : Hid (Wd W A0 n0 ws0) := by rw [hW]; exact H0.out.alloc _
  have HW1 : Hid (Wd W A1 n1 ws1) := by rw [hW]; exact H1.out.alloc _
  have IV : Hid (Iv W (.agg #[.bool b0, .slice A0 n0 c0]) z) := by rw [hW]; exact HI.out.alloc _
  clear HI
  have DW : Hid (Below w.heap.size w W) := by rw [hW]; exact (Below.refl _ _).alloc (Nat.le_refl _) _
  clear hW H0 H1
  generalize hg : w.heap.size = g at *
  replace hg := Lib.hid hg
  go_upto_region 1 with fail
  have u0 := QX.out.cell0; have u1 := QX.out.cell1; have u2 := QX.out.cell2; have u3 := QX.out.cell3
  go_wp2_with fail
  clear u0 u1 u2 u3
  refine (rvalid_any _ z _ IV.out (SZ.out.mono (by omega))).mono ?_
  rintro e y1 ⟨rfl, hb1⟩
  replace QX := nxq QX hb1 rfl; replace DW := nxd DW hg hb1 rfl rfl rfl rfl; replace HW1 := Lib.hid (HW1.out.next hb1 rfl)
  clear hb1 IV HW0
  have u0 := QX.out.cell0; have u1 := QX.out.cell1; have u2 := QX.out.cell2; have u3 := QX.out.cell3
  go_wp2_with fail
  clear u0 u1 u2 u3
  refine (rvalid_bad b1 A1 n1 c1 ws1 _ HW1.out hn1.out hb.out).mono ?_
  rintro e y2 ⟨rfl, hb1⟩
  replace DW := nxd DW hg hb1 rfl rfl rfl rfl
  go_wp2
  go_ret
  exact ⟨rfl, by rw [hg.out]; exact DW.out⟩

set_option maxHeartbeats 8000000 in
set_option maxRecDepth 100000 in
theorem rqvalid_pos (va : Value) (zan zad : Int) (w : World) (ha : Qv w va zan zad) (san : Sz zan 1000000) (sad : Sz zad 1000000) (hp : 0 < zad) : Calls Tryz.prog 46 #[va] w (RetV (.bool (decide (((Nat.gcd zan.natAbs zad.natAbs : Nat) : Int) = 1))) w) := by
  obtain ⟨G, hG⟩ : ∃ G : Int, ((Nat.gcd zan.natAbs zad.natAbs : Nat) : Int) = G := ⟨_, rfl⟩
  have SG : Hid (Sz G 1000000) := by
    refine ⟨?_⟩
    rw [← hG, Int.natAbs_natCast]
    exact Nat.lt_of_le_of_lt (Nat.gcd_le_right _ (by omega)) sad.lt
  rw [hG]
  obtain ⟨r, hr⟩ : ∃ r, decide (G = 1) = r := ⟨_, rfl⟩
  rw [hr]
  have hC : Hid ((cmpZ G 1 == 0) = r) := by
    rw [← hr]
    unfold cmpZ
    rcases Int.lt_trichotomy G 1 with h | h | h
    · rw [if_pos h, decide_eq_false (by omega)]; rfl
    · rw [if_neg (by omega), if_neg (by omega), decide_eq_true h]; rfl
    · rw [if_neg (by omega), if_pos h, decide_eq_false (by omega)]; rfl
  obtain ⟨o, ho⟩ : ∃ o, cmpZ G 1 = o := ⟨_, rfl⟩
  rw [ho] at hC
  have hGg : Hid (Int.gcd zan zad = G) := hG
  replace ho := Lib.hid ho; clear hr hG
  obtain ⟨Xan, pan, qan, Xad, pad, qad, rfl, han, had⟩ := ha
  have Han := Lib.hid han
  have Had := Lib.hid had
  have SZan := Lib.hid san
  have SZad := Lib.hid sad
  clear han had san sad
  generalize hs : decide (zan < 0) = san at *
  clear hs
  generalize hs : decide (zad < 0) = sad at *
  clear hs
  obtain ⟨SB, hSB⟩ : ∃ x, sg zad = x := ⟨_, rfl⟩
  have hle : decide (SB < 1) = false := by
    rw [← hSB]
    rcases sg_cases zad with ⟨h1, e1⟩ | ⟨h1, e1⟩ | ⟨h1, e1⟩ <;> rw [e1] <;> first | rfl | omega
  replace hle := Lib.hid hle
  replace hSB := Lib.hid hSB
  clear hp
  go_enter Tryz.func46, Tryz.ntmps46
  go_wp2_with fail
  obtain ⟨W, hW⟩ : ∃ W, W = (w.alloc (Obj.cells #[Value.bool san, Value.slice Xan pan qan, Value.bool sad, Value.slice Xad pad qad] 31)) := ⟨_, rfl⟩
  rw [← hW]
  have QXa : Hid (QBox W (w.heap.size) san (.slice Xan pan qan) sad (.slice Xad pad qad)) := by rw [hW]; have := QBox.new w san (Value.slice Xan pan qan) sad (Value.slice Xad pad qad); simpa [Hid] using this
  have IVna : Hid (Iv W (.agg #[.bool san, .slice Xan pan qan]) (zan)) := by rw [hW]; exact (Han.out).alloc _
  have IVda : Hid (Iv W (.agg #[.bool sad, .slice Xad pad qad]) (zad)) := by rw [hW]; exact (Had.out).alloc _
  have DW : Hid (Below w.heap.size w W) := by rw [hW]; exact (Below.refl _ _).alloc (by simp <;> omega) _
  clear hW
  generalize hg : w.heap.size = g at *
  replace hg := Lib.hid hg
  go_upto_region 1 with fail
  have u1a := QXa.out.cell0; have u1b := QXa.out.cell1; have u1c := QXa.out.cell2; have u1d := QXa.out.cell3
  go_wp2_with fail
  clear u1a u1b u1c u1d
  refine (rvalid_any _ zan _ IVna.out SZan.out).mono ?_
  rintro e y2 ⟨rfl, hb⟩
  replace QXa := nxq QXa hb rfl; replace IVna := nxv IVna hb rfl; replace IVda := nxv IVda hb rfl
  replace DW := nxd DW hg hb rfl rfl rfl rfl
  clear hb
  have u3a := QXa.out.cell0; have u3b := QXa.out.cell1; have u3c := QXa.out.cell2; have u3d := QXa.out.cell3
  go_wp2_with fail
  clear u3a u3b u3c u3d
  refine (rvalid_any _ zad _ IVda.out SZad.out).mono ?_
  rintro e y4 ⟨rfl, hb⟩
  replace QXa := nxq QXa hb rfl; replace IVna := nxv IVna hb rfl; replace IVda := nxv IVda hb rfl
  replace DW := nxd DW hg hb rfl rfl rfl rfl
  clear hb
  have u5a := QXa.out.cell0; have u5b := QXa.out.cell1; have u5c := QXa.out.cell2; have u5d := QXa.out.cell3
  go_wp2_with fail
  clear u5a u5b u5c u5d
  refine (rsign_any _ zad _ IVda.out).mono ?_
  rintro e y6 ⟨rfl, hb⟩
  replace QXa := nxq QXa hb rfl; replace IVna := nxv IVna hb rfl; replace IVda := nxv IVda hb rfl
  replace DW := nxd DW hg hb rfl rfl rfl rfl
  clear hb
  rw [hSB.out]
  have hle2 := hle.out
  go_upto_region 3 with fail
  clear hle2
  have u7a := QXa.out.cell0; have u7b := QXa.out.cell1; have u7c := QXa.out.cell2; have u7d := QXa.out.cell3
  go_wp2_with fail
  clear u7a u7b u7c u7d
  refine (rgcd_any _ _ zan zad G _ IVna.out IVda.out SZan.out SZad.out hGg.out).mono ?_
  rintro e y8 ⟨_, rfl, hq, hb⟩
  replace hq := Lib.hid hq
  replace QXa := nxq QXa hb rfl; replace IVna := nxv IVna hb rfl; replace IVda := nxv IVda hb rfl
  replace DW := nxd DW hg hb rfl rfl rfl rfl
  clear hb
  go_wp2_with fail
  refine (rof_any 1 _ (by omega) (by omega)).mono ?_
  rintro e y98 ⟨_, rfl, hq1, hb⟩
  replace hq := Lib.hid (iv_next hq.out hb rfl); replace hq1 := Lib.hid hq1
  replace QXa := nxq QXa hb rfl; replace IVna := nxv IVna hb rfl; replace IVda := nxv IVda hb rfl
  replace DW := nxd DW hg hb rfl rfl rfl rfl
  clear hb
  go_wp2_with fail
  refine (ho.out ▸ rcmp_any _ _ G 1 _ hq.out hq1.out SG.out (szs (by omega) (by omega))).mono ?_
  rintro e y99 ⟨rfl, hb⟩
  clear hq hq1
  replace QXa := nxq QXa hb rfl; replace IVna := nxv IVna hb rfl; replace IVda := nxv IVda hb rfl
  replace DW := nxd DW hg hb rfl rfl rfl rfl
  clear hb
  have hC1 := hC.out
  go_wp2
  go_ret
  exact ⟨rfl, by rw [hg.out]; exact DW.out⟩

set_option maxHeartbeats 8000000 in
set_option maxRecDepth 100000 in
theorem rqvalid_neg (va : Value) (zan zad : Int) (w : World) (ha : Qv w va zan zad) (san : Sz zan 1000000) (sad : Sz zad 1000000) (hp : zad ≤ 0) : Calls Tryz.prog 46 #[va] w (RetV (.bool false) w) := by
  obtain ⟨Xan, pan, qan, Xad, pad, qad, rfl, han, had⟩ := ha
  have Han := Lib.hid han
  have Had := Lib.hid had
  have SZan := Lib.hid san
  have SZad := Lib.hid sad
  clear han had san sad
  generalize hs : decide (zan < 0) = san at *
  clear hs
  generalize hs : decide (zad < 0) = sad at *
  clear hs
  obtain ⟨SB, hSB⟩ : ∃ x, sg zad = x := ⟨_, rfl⟩
  have hle : decide (SB < 1) = true := by
    rw [← hSB]
    rcases sg_cases zad with ⟨h1, e1⟩ | ⟨h1, e1⟩ | ⟨h1, e1⟩ <;> rw [e1] <;> first | rfl | omega
  replace hle := Lib.hid hle
  replace hSB := Lib.hid hSB
  clear hp
  go_enter Tryz.func46, Tryz.ntmps46
  go_wp2_with fail
  obtain ⟨W, hW⟩ : ∃ W, W = (w.alloc (Obj.cells #[Value.bool san, Value.slice Xan pan qan, Value.bool sad, Value.slice Xad pad qad] 31)) := ⟨_, rfl⟩
  rw [← hW]
  have QXa : Hid (QBox W (w.heap.size) san (.slice Xan pan qan) sad (.slice Xad pad qad)) := by rw [hW]; have := QBox.new w san (Value.slice Xan pan qan) sad (Value.slice Xad pad qad); simpa [Hid] using this
  have IVna : Hid (Iv W (.agg #[.bool san, .slice Xan pan qan]) (zan)) := by rw [hW]; exact (Han.out).alloc _
  have IVda : Hid (Iv W (.agg #[.bool sad, .slice Xad pad qad]) (zad)) := by rw [hW]; exact (Had.out).alloc _
  have DW : Hid (Below w.heap.size w W) := by rw [hW]; exact (Below.refl _ _).alloc (by simp <;> omega) _
  clear hW
  generalize hg : w.heap.size = g at *
  replace hg := Lib.hid hg
  go_upto_region 1 with fail
  have u1a := QXa.out.cell0; have u1b := QXa.out.cell1; have u1c := QXa.out.cell2; have u1d := QXa.out.cell3
  go_wp2_with fail
  clear u1a u1b u1c u1d
  refine (rvalid_any _ zan _ IVna.out SZan.out).mono ?_
  rintro e y2 ⟨rfl, hb⟩
  replace QXa := nxq QXa hb rfl; replace IVna := nxv IVna hb rfl; replace IVda := nxv IVda hb rfl
  replace DW := nxd DW hg hb rfl rfl rfl rfl
  clear hb
  have u3a := QXa.out.cell0; have u3b := QXa.out.cell1; have u3c := QXa.out.cell2; have u3d := QXa.out.cell3
  go_wp2_with fail
  clear u3a u3b u3c u3d
  refine (rvalid_any _ zad _ IVda.out SZad.out).mono ?_
  rintro e y4 ⟨rfl, hb⟩
  replace QXa := nxq QXa hb rfl; replace IVna := nxv IVna hb rfl; replace IVda := nxv IVda hb rfl
  replace DW := nxd DW hg hb rfl rfl rfl rfl
  clear hb
  have u5a := QXa.out.cell0; have u5b := QXa.out.cell1; have u5c := QXa.out.cell2; have u5d := QXa.out.cell3
  go_wp2_with fail
  clear u5a u5b u5c u5d
  refine (rsign_any _ zad _ IVda.out).mono ?_
  rintro e y6 ⟨rfl, hb⟩
  replace QXa := nxq QXa hb rfl; replace IVna := nxv IVna hb rfl; replace IVda := nxv IVda hb rfl
  replace DW := nxd DW hg hb rfl rfl rfl rfl
  clear hb
  rw [hSB.out]
  have hle2 := hle.out
  go_wp2
  go_ret
  exact ⟨rfl, by rw [hg.out]; exact DW.out⟩

/-- Both Valid on any words answer the same. -/
theorem pair_valid (b0 : Bool) (A0 : Option Addr) (n0 c0 : Nat) (ws0 : List Nat) (b1 : Bool) (A1 : Option Addr) (n1 c1 : Nat) (ws1 : List Nat) (hn0 : n0 ≤ 20) (hn1 : n1 ≤ 20) (k0 : n0 ≤ c0) (l0 : c0 ≤ 9223372036854775807) (k1 : n1 ≤ c1) (l1 : c1 ≤ 9223372036854775807) : ∃ r : Bool,
    Hid (∀ w, Wd w A0 n0 ws0 → Wd w A1 n1 ws1 → Calls Tryz.prog 45 #[.agg #[.bool b0, .slice A0 n0 c0, .bool b1, .slice A1 n1 c1]] w (RetV (.bool r) w)) ∧
    Hid (∀ w, Wd w A0 n0 ws0 → Wd w A1 n1 ws1 → Calls Tryz.prog 46 #[.agg #[.bool b0, .slice A0 n0 c0, .bool b1, .slice A1 n1 c1]] w (RetV (.bool r) w)) := by
  by_cases h0 : Bad b0 n0 ws0
  · exact ⟨false, fun w u v => qvalid_bad0 b0 A0 n0 c0 ws0 b1 A1 n1 c1 ws1 w u v hn0 hn1 k0 l0 h0, fun w u v => rqvalid_bad0 b0 A0 n0 c0 ws0 b1 A1 n1 c1 ws1 w u v hn0 hn1 k0 l0 h0⟩
  · by_cases h1 : Bad b1 n1 ws1
    · exact ⟨false, fun w u v => qvalid_bad1 b0 A0 n0 c0 ws0 b1 A1 n1 c1 ws1 w u v hn0 hn1 k0 l0 h0 h1, fun w u v => rqvalid_bad1 b0 A0 n0 c0 ws0 b1 A1 n1 c1 ws1 w u v hn0 hn1 k0 l0 h0 h1⟩
    · have hq : ∀ w, Wd w A0 n0 ws0 → Wd w A1 n1 ws1 → Qv w (.agg #[.bool b0, .slice A0 n0 c0, .bool b1, .slice A1 n1 c1]) (sgn b0 (val ws0)) (sgn b1 (val ws1)) := by
        intro w u v
        have i0 := fiv_raw u k0 l0 (Bad.good h0)
        have i1 := fiv_raw v k1 l1 (Bad.good h1)
        have e0 := i0.signq
        have e1 := i1.signq
        refine ⟨A0, n0, c0, A1, n1, c1, ?_, ?_, ?_⟩
        · rw [← e0, ← e1]
        · rw [← e0]; exact i0
        · rw [← e1]; exact i1
      have hz : ∀ w, Wd w A0 n0 ws0 → Wd w A1 n1 ws1 → Sz (sgn b0 (val ws0)) 1000000 ∧ Sz (sgn b1 (val ws1)) 1000000 := fun w u v => ⟨sgn_szw u.wds (by rw [u.len]; omega), sgn_szw v.wds (by rw [v.len]; omega)⟩
      by_cases hp : 0 < sgn b1 (val ws1)
      · exact ⟨_, fun w u v => qvalid_pos _ _ _ w (hq w u v) (hz w u v).1 (hz w u v).2 hp, fun w u v => rqvalid_pos _ _ _ w (hq w u v) (hz w u v).1 (hz w u v).2 hp⟩
      · exact ⟨_, fun w u v => qvalid_neg _ _ _ w (hq w u v) (hz w u v).1 (hz w u v).2 (by omega), fun w u v => rqvalid_neg _ _ _ w (hq w u v) (hz w u v).1 (hz w u v).2 (by omega)⟩

end Go.Proofs.YtfigimfdojbkeaaGreat
