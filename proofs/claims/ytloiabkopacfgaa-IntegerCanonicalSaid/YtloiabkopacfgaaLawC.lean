/-
  The law IntegerCanonical: the walk.
-/
import Derived.Test.YtloiabkopacfgaaRegE
import Derived.Deep.DeepCutAuto
import Derived.Handy
namespace Go.Proofs.Ytloiabkopacfgaa
open Go.RowKit
attribute [local go_sem ↓] Go.wp_at_zero Go.wp_at_succ

theorem valid_nil (A : Option Addr) (c : Nat) (w : World) : Calls Try.prog 37 #[.agg #[.bool true, .slice A 0 c]] w (RetV (.bool false) w) := by
  go_enter Try.func37, Try.ntmps37
  go_wp2
  go_ret
  exact ⟨by simp, (Below.refl _ _).alloc (Nat.le_refl _) _⟩
theorem valid_top (b : Bool) (A : Option Addr) (k c : Nat) (ws : List Nat) (w : World) (h : Wd w A (k + 1) ws) (ht : gd ws k = 0) (hk : k ≤ 1000) : Calls Try.prog 37 #[.agg #[.bool b, .slice A (k + 1) c]] w (RetV (.bool false) w) := by
  obtain ⟨bb, o, rfl, hlt, hcell⟩ := h.cells (by omega)
  have c0 := hcell k (by omega)
  rw [ht] at c0
  have c1 : (w.alloc (.cells #[.bool b, .slice (some ⟨bb, o, none⟩) (k + 1) c] 27)).cell? ⟨bb, o + k, none⟩ = some (.int .u32 (0 : Nat)) := by
    rw [World.cell?_alloc_past _ _ _ hlt]; exact c0
  have hne : ((k : Int) + 1 == 0) = false := by simp; omega
  clear h ht hcell c0
  go_enter Try.func37, Try.ntmps37
  go_wp2
  go_ret
  exact ⟨by simp, (Below.refl _ _).alloc (Nat.le_refl _) _⟩
theorem iv_raw {w : World} {b : Bool} {A : Option Addr} {n c : Nat} {ws : List Nat} (h : Wd w A n ws) (hc : n ≤ c) (hb : c ≤ 9223372036854775807) (ht : (n = 0 ∧ b = false) ∨ (0 < n ∧ gd ws (n - 1) ≠ 0)) : Iv w (.agg #[.bool b, .slice A n c]) (sgn b (val ws)) ∧ ws = mag (val ws) := by
  have hcan : Can ws := by
    refine ⟨h.wds, ?_⟩
    rcases ht with ⟨h0, _⟩ | ⟨h0, h1⟩
    · exact .inl (List.eq_nil_of_length_eq_zero (h.len.trans h0))
    · exact .inr (by rw [h.len]; exact h1)
  have hm : ws = mag (val ws) := (mag_val hcan).symm
  refine ⟨⟨.slice A n c, ?_, A, n, c, rfl, hc, hb, ?_⟩, hm⟩
  · rw [sgn_neg]
    have hp : decide (0 < n) = decide (0 < val ws) := len_pos (by rw [← hm]; exact h)
    rcases ht with ⟨h0, rfl⟩ | ⟨h0, _⟩
    · simp
    · rw [← hp]; simp [h0]
  · rw [sgn_abs, ← hm]
    exact h

set_option maxHeartbeats 16000000 in
set_option maxRecDepth 100000 in
theorem canonLong (b0 : Bool) (A0 : Option Addr) (n0 c0 : Nat) (ws0 : List Nat) (b1 : Bool) (A1 : Option Addr) (n1 c1 : Nat) (ws1 : List Nat) (w : World) (h0 : Wd w A0 n0 ws0) (m0 : n0 ≤ 9223372036854775807) (k0 : n0 ≤ c0) (l0 : c0 ≤ 9223372036854775807) (h1 : Wd w A1 n1 ws1) (m1 : n1 ≤ 9223372036854775807) (hx : 40 < n0) :
    Calls Try.prog 4 #[.agg #[.bool b0, .slice A0 n0 c0], .agg #[.bool b1, .slice A1 n1 c1]] w fun e w' => e = .returned (.bool true) ∧ Below w.heap.size w w' := by
  obtain ⟨zb, hzb⟩ : ∃ z, z = sgn b1 (val (ws1.take 40)) := ⟨_, rfl⟩
  have SZb : Hid (Sz zb 40) := by rw [hzb]; exact sz_take _ _ _ h1.wds
  have HA := Lib.hid h0
  have HB := Lib.hid h1
  clear h0 h1
  go_enter Try.func4, Try.ntmps4
  go_wp2_with fail
  obtain ⟨W, hW⟩ : ∃ W, W = (w.alloc (Obj.cells #[Value.bool b0, Value.slice A0 n0 c0] 27)).alloc (Obj.cells #[Value.bool b1, Value.slice A1 n1 c1] 24) := ⟨_, rfl⟩
  rw [← hW]
  have BXr : Hid (Box W w.heap.size b0 (.slice A0 n0 c0)) := by rw [hW]; exact (Box.new w _ _).alloc _
  have RX1 : Hid (RBox W (w.heap.size + 1) b1 (.slice A1 n1 c1)) := by rw [hW]; have := RBox.new (w.alloc (Obj.cells #[Value.bool b0, Value.slice A0 n0 c0] 27)) b1 (.slice A1 n1 c1); simpa [Hid] using this
  have RWr : Hid (Wd W A0 n0 ws0) := by rw [hW]; exact (HA.out.alloc _).alloc _
  have RW1 : Hid (Wd W A1 n1 ws1) := by rw [hW]; exact (HB.out.alloc _).alloc _
  have DW : Hid (Below w.heap.size w W) := by rw [hW]; exact ((Below.refl _ _).alloc (Nat.le_refl _) _).alloc (by simp) _
  clear hW HA HB
  generalize hg : w.heap.size = g at *
  refine (sanity_any _).mono ?_
  rintro e w1 ⟨rfl, hb1⟩
  replace BXr := Lib.hid (BXr.out.next hb1 rfl)
  replace RWr := Lib.hid (RWr.out.next hb1 rfl)
  replace RX1 := Lib.hid (RX1.out.next hb1 rfl); replace RW1 := Lib.hid (RW1.out.next hb1 rfl)
  replace DW := Lib.hid (link_below DW.out hb1 (by have := DW.out.size; omega) rfl rfl rfl rfl)
  clear hb1
  have v0 := BXr.out.cell0; have v1 := BXr.out.cell1
  have hx2 : (40 : Int) < (n0 : Int) := by omega
  go_wp2
  go_ret
  exact ⟨by simp, by rw [hg]; exact DW.out⟩

set_option maxHeartbeats 16000000 in
set_option maxRecDepth 100000 in
theorem canonNil (b0 : Bool) (A0 : Option Addr) (n0 c0 : Nat) (ws0 : List Nat) (b1 : Bool) (A1 : Option Addr) (n1 c1 : Nat) (ws1 : List Nat) (w : World) (h0 : Wd w A0 n0 ws0) (m0 : n0 ≤ 9223372036854775807) (k0 : n0 ≤ c0) (l0 : c0 ≤ 9223372036854775807) (h1 : Wd w A1 n1 ws1) (m1 : n1 ≤ 9223372036854775807) (hx : n0 = 0) (hbt : b0 = true) :
    Calls Try.prog 4 #[.agg #[.bool b0, .slice A0 n0 c0], .agg #[.bool b1, .slice A1 n1 c1]] w fun e w' => e = .returned (.bool true) ∧ Below w.heap.size w w' := by
  subst hx hbt
  obtain ⟨zb, hzb⟩ : ∃ z, z = sgn b1 (val (ws1.take 40)) := ⟨_, rfl⟩
  have SZb : Hid (Sz zb 40) := by rw [hzb]; exact sz_take _ _ _ h1.wds
  have HA := Lib.hid h0
  have HB := Lib.hid h1
  clear h0 h1
  go_enter Try.func4, Try.ntmps4
  go_wp2_with fail
  obtain ⟨W, hW⟩ : ∃ W, W = (w.alloc (Obj.cells #[Value.bool true, Value.slice A0 0 c0] 27)).alloc (Obj.cells #[Value.bool b1, Value.slice A1 n1 c1] 24) := ⟨_, rfl⟩
  rw [← hW]
  have BXr : Hid (Box W w.heap.size true (.slice A0 0 c0)) := by rw [hW]; exact (Box.new w _ _).alloc _
  have RX1 : Hid (RBox W (w.heap.size + 1) b1 (.slice A1 n1 c1)) := by rw [hW]; have := RBox.new (w.alloc (Obj.cells #[Value.bool true, Value.slice A0 0 c0] 27)) b1 (.slice A1 n1 c1); simpa [Hid] using this
  have RWr : Hid (Wd W A0 0 ws0) := by rw [hW]; exact (HA.out.alloc _).alloc _
  have RW1 : Hid (Wd W A1 n1 ws1) := by rw [hW]; exact (HB.out.alloc _).alloc _
  have DW : Hid (Below w.heap.size w W) := by rw [hW]; exact ((Below.refl _ _).alloc (Nat.le_refl _) _).alloc (by simp) _
  clear hW HA HB
  generalize hg : w.heap.size = g at *
  refine (sanity_any _).mono ?_
  rintro e w1 ⟨rfl, hb1⟩
  replace BXr := Lib.hid (BXr.out.next hb1 rfl)
  replace RWr := Lib.hid (RWr.out.next hb1 rfl)
  replace RX1 := Lib.hid (RX1.out.next hb1 rfl); replace RW1 := Lib.hid (RW1.out.next hb1 rfl)
  replace DW := Lib.hid (link_below DW.out hb1 (by have := DW.out.size; omega) rfl rfl rfl rfl)
  clear hb1
  have v0 := BXr.out.cell0; have v1 := BXr.out.cell1
  go_upto_region 8 with fail
  clear v0 v1
  have u1 := RX1.out.cell0; have u2 := RX1.out.cell1
  go_wp2_with fail
  clear u1 u2
  refine (rmade_raw b1 A1 n1 c1 40 40 ws1 _ RW1.out rfl (by omega) m1).mono ?_
  rw [← hzb]
  rintro e y1 ⟨_, rfl, hq, hb⟩
  clear RX1 RW1
  obtain ⟨Xb, pb, qb, rfl, _, _, _⟩ := hq.form
  have Q := Lib.hid hq; have B := Lib.hid hb; clear hq hb
  generalize hs : decide ((zb : Int) < 0) = sb at *
  clear hs
  go_upto_region 9 with fail
  obtain ⟨W2, hW⟩ : ∃ W2, W2 = y1.alloc (Obj.cells #[Value.bool sb, Value.slice Xb pb qb] 27) := ⟨_, rfl⟩
  rw [← hW]
  have BXb : Hid (Box W2 y1.heap.size sb (.slice Xb pb qb)) := by rw [hW]; exact Box.new _ _ _
  have IVb : Hid (Iv W2 (.agg #[.bool sb, .slice Xb pb qb]) (zb)) := by rw [hW]; exact Q.out.alloc _
  have hd : Below w1.heap.size w1 W2 := by rw [hW]; exact B.out.alloc B.out.size _
  clear hW Q B
  generalize hgn : y1.heap.size = gb at *
  clear hgn
  replace BXr := Lib.hid (BXr.out.next hd rfl)
  replace RWr := Lib.hid (RWr.out.next hd rfl)
  replace DW := Lib.hid (link_below DW.out hd (by have := DW.out.size; omega) rfl rfl rfl rfl)
  clear hd
  have v0 := BXr.out.cell0; have v1 := BXr.out.cell1
  go_wp2_with fail
  clear v0 v1
  refine (valid_nil _ _ _).mono ?_
  rintro e ya ⟨rfl, hb⟩
  replace BXr := Lib.hid (BXr.out.next hb rfl)
  replace RWr := Lib.hid (RWr.out.next hb rfl)
  replace BXb := Lib.hid (BXb.out.next hb rfl); replace IVb := Lib.hid (iv_next IVb.out hb rfl)
  replace DW := Lib.hid (link_below DW.out hb (by have := DW.out.size; omega) rfl rfl rfl rfl)
  clear hb
  have u9a := BXb.out.cell0; have u9b := BXb.out.cell1
  go_wp2_with fail
  clear u9a u9b
  refine (valid_any _ zb _ IVb.out (SZb.out.mono (by omega))).mono ?_
  rintro e yb ⟨rfl, hb⟩
  replace BXr := Lib.hid (BXr.out.next hb rfl)
  replace RWr := Lib.hid (RWr.out.next hb rfl)
  replace BXb := Lib.hid (BXb.out.next hb rfl); replace IVb := Lib.hid (iv_next IVb.out hb rfl)
  replace DW := Lib.hid (link_below DW.out hb (by have := DW.out.size; omega) rfl rfl rfl rfl)
  clear hb
  go_wp2
  go_ret
  exact ⟨by simp, by rw [hg]; exact DW.out⟩

set_option maxHeartbeats 16000000 in
set_option maxRecDepth 100000 in
theorem canonTop (b0 : Bool) (A0 : Option Addr) (n0 c0 : Nat) (ws0 : List Nat) (b1 : Bool) (A1 : Option Addr) (n1 c1 : Nat) (ws1 : List Nat) (w : World) (h0 : Wd w A0 n0 ws0) (m0 : n0 ≤ 9223372036854775807) (k0 : n0 ≤ c0) (l0 : c0 ≤ 9223372036854775807) (h1 : Wd w A1 n1 ws1) (m1 : n1 ≤ 9223372036854775807) (k : Nat) (hx : n0 = k + 1) (hk : k < 40) (ht : gd ws0 k = 0) :
    Calls Try.prog 4 #[.agg #[.bool b0, .slice A0 n0 c0], .agg #[.bool b1, .slice A1 n1 c1]] w fun e w' => e = .returned (.bool true) ∧ Below w.heap.size w w' := by
  subst hx
  have HT := Lib.hid ht
  clear ht
  obtain ⟨zb, hzb⟩ : ∃ z, z = sgn b1 (val (ws1.take 40)) := ⟨_, rfl⟩
  have SZb : Hid (Sz zb 40) := by rw [hzb]; exact sz_take _ _ _ h1.wds
  have HA := Lib.hid h0
  have HB := Lib.hid h1
  clear h0 h1
  go_enter Try.func4, Try.ntmps4
  go_wp2_with fail
  obtain ⟨W, hW⟩ : ∃ W, W = (w.alloc (Obj.cells #[Value.bool b0, Value.slice A0 (k + 1) c0] 27)).alloc (Obj.cells #[Value.bool b1, Value.slice A1 n1 c1] 24) := ⟨_, rfl⟩
  rw [← hW]
  have BXr : Hid (Box W w.heap.size b0 (.slice A0 (k + 1) c0)) := by rw [hW]; exact (Box.new w _ _).alloc _
  have RX1 : Hid (RBox W (w.heap.size + 1) b1 (.slice A1 n1 c1)) := by rw [hW]; have := RBox.new (w.alloc (Obj.cells #[Value.bool b0, Value.slice A0 (k + 1) c0] 27)) b1 (.slice A1 n1 c1); simpa [Hid] using this
  have RWr : Hid (Wd W A0 (k + 1) ws0) := by rw [hW]; exact (HA.out.alloc _).alloc _
  have RW1 : Hid (Wd W A1 n1 ws1) := by rw [hW]; exact (HB.out.alloc _).alloc _
  have DW : Hid (Below w.heap.size w W) := by rw [hW]; exact ((Below.refl _ _).alloc (Nat.le_refl _) _).alloc (by simp) _
  clear hW HA HB
  generalize hg : w.heap.size = g at *
  refine (sanity_any _).mono ?_
  rintro e w1 ⟨rfl, hb1⟩
  replace BXr := Lib.hid (BXr.out.next hb1 rfl)
  replace RWr := Lib.hid (RWr.out.next hb1 rfl)
  replace RX1 := Lib.hid (RX1.out.next hb1 rfl); replace RW1 := Lib.hid (RW1.out.next hb1 rfl)
  replace DW := Lib.hid (link_below DW.out hb1 (by have := DW.out.size; omega) rfl rfl rfl rfl)
  clear hb1
  obtain ⟨bb, oo, rfl, hlt0, hcs⟩ := RWr.out.cells (show 0 < k + 1 by omega)
  have htop := hcs k (by omega)
  clear hcs
  have hne : ((k : Int) + 1 == 0) = false := by simp; omega
  have hle : decide ((40 : Int) < (k : Int) + 1) = false := by simp; omega
  have hpos : (0 : Int) < (k : Int) + 1 := by omega
  have hmax : max (k : Int) 0 = (k : Int) := by omega
  have hk0 : (0 : Int) ≤ (k : Int) := by omega
  rw [HT.out] at htop
  have v0 := BXr.out.cell0; have v1 := BXr.out.cell1
  go_upto_region 8 with fail
  clear v0 v1 htop
  have u1 := RX1.out.cell0; have u2 := RX1.out.cell1
  go_wp2_with fail
  clear u1 u2
  refine (rmade_raw b1 A1 n1 c1 40 40 ws1 _ RW1.out rfl (by omega) m1).mono ?_
  rw [← hzb]
  rintro e y1 ⟨_, rfl, hq, hb⟩
  clear RX1 RW1
  obtain ⟨Xb, pb, qb, rfl, _, _, _⟩ := hq.form
  have Q := Lib.hid hq; have B := Lib.hid hb; clear hq hb
  generalize hs : decide ((zb : Int) < 0) = sb at *
  clear hs
  go_upto_region 9 with fail
  obtain ⟨W2, hW⟩ : ∃ W2, W2 = y1.alloc (Obj.cells #[Value.bool sb, Value.slice Xb pb qb] 27) := ⟨_, rfl⟩
  rw [← hW]
  have BXb : Hid (Box W2 y1.heap.size sb (.slice Xb pb qb)) := by rw [hW]; exact Box.new _ _ _
  have IVb : Hid (Iv W2 (.agg #[.bool sb, .slice Xb pb qb]) (zb)) := by rw [hW]; exact Q.out.alloc _
  have hd : Below w1.heap.size w1 W2 := by rw [hW]; exact B.out.alloc B.out.size _
  clear hW Q B
  generalize hgn : y1.heap.size = gb at *
  clear hgn
  replace BXr := Lib.hid (BXr.out.next hd rfl)
  replace RWr := Lib.hid (RWr.out.next hd rfl)
  replace DW := Lib.hid (link_below DW.out hd (by have := DW.out.size; omega) rfl rfl rfl rfl)
  clear hd
  have v0 := BXr.out.cell0; have v1 := BXr.out.cell1
  go_wp2_with fail
  clear v0 v1
  refine (valid_top _ _ k _ ws0 _ RWr.out HT.out (by omega)).mono ?_
  rintro e ya ⟨rfl, hb⟩
  replace BXr := Lib.hid (BXr.out.next hb rfl)
  replace RWr := Lib.hid (RWr.out.next hb rfl)
  replace BXb := Lib.hid (BXb.out.next hb rfl); replace IVb := Lib.hid (iv_next IVb.out hb rfl)
  replace DW := Lib.hid (link_below DW.out hb (by have := DW.out.size; omega) rfl rfl rfl rfl)
  clear hb
  have u9a := BXb.out.cell0; have u9b := BXb.out.cell1
  go_wp2_with fail
  clear u9a u9b
  refine (valid_any _ zb _ IVb.out (SZb.out.mono (by omega))).mono ?_
  rintro e yb ⟨rfl, hb⟩
  replace BXr := Lib.hid (BXr.out.next hb rfl)
  replace RWr := Lib.hid (RWr.out.next hb rfl)
  replace BXb := Lib.hid (BXb.out.next hb rfl); replace IVb := Lib.hid (iv_next IVb.out hb rfl)
  replace DW := Lib.hid (link_below DW.out hb (by have := DW.out.size; omega) rfl rfl rfl rfl)
  clear hb
  go_wp2
  go_ret
  exact ⟨by simp, by rw [hg]; exact DW.out⟩

theorem Iv.wd {w : World} {b : Bool} {A : Option Addr} {n c : Nat} {z : Int} (h : Iv w (.agg #[.bool b, .slice A n c]) z) : Wd w A n (mag z.natAbs) := by
  obtain ⟨A', n', c', e, h1, h2, h3⟩ := h.form
  have e1 := congrArg (fun t : Value => match t with | .agg a => a[1]? | _ => none) e
  simp at e1
  obtain ⟨rfl, rfl, rfl⟩ := e1
  exact h3
theorem sz_raw {b : Bool} {ws : List Nat} {n : Nat} (h : Wds ws) (hl : ws.length ≤ n) : Sz (sgn b (val ws)) n := by
  have := sz_take b ws n h
  rwa [List.take_of_length_le hl] at this
theorem cmp_ne {a b : Int} (h : a ≠ b) : ∃ o, Hid (cmpZ a b = o) ∧ (o == 0) = false := by
  refine ⟨_, rfl, ?_⟩
  rcases Int.lt_trichotomy a b with h1 | h1 | h1
  · rw [cmpZ_lt h1]; rfl
  · exact absurd h1 h
  · rw [cmpZ_gt h1]; rfl
theorem abs_words {a b : Int} (h : mag a.natAbs = mag b.natAbs) : a.natAbs = b.natAbs := by
  have e1 := val_mag a.natAbs
  rw [h, val_mag] at e1
  exact e1.symm
theorem words_ext {x y : List Nat} {n : Nat} (hx : x.length = n) (hy : y.length = n) (h : ∀ j, j < n → gd x j = gd y j) : x = y := by
  refine List.ext_getElem? (fun j => ?_)
  rcases Nat.lt_or_ge j n with hj | hj
  · have := h j hj
    rw [gd_eq, gd_eq, List.getElem?_eq_getElem (by omega), List.getElem?_eq_getElem (by omega)] at this
    rw [List.getElem?_eq_getElem (by omega), List.getElem?_eq_getElem (by omega)]
    simpa using this
  · rw [List.getElem?_eq_none (by omega), List.getElem?_eq_none (by omega)]


set_option maxHeartbeats 16000000 in
set_option maxRecDepth 100000 in
theorem canonZeroEq (b0 : Bool) (A0 : Option Addr) (n0 c0 : Nat) (ws0 : List Nat) (b1 : Bool) (A1 : Option Addr) (n1 c1 : Nat) (ws1 : List Nat) (w : World) (h0 : Wd w A0 n0 ws0) (m0 : n0 ≤ 9223372036854775807) (k0 : n0 ≤ c0) (l0 : c0 ≤ 9223372036854775807) (h1 : Wd w A1 n1 ws1) (m1 : n1 ≤ 9223372036854775807) (hx : n0 = 0) (hbt : b0 = false) (hq : sgn b0 (val ws0) = sgn b1 (val (ws1.take 40))) :
    Calls Try.prog 4 #[.agg #[.bool b0, .slice A0 n0 c0], .agg #[.bool b1, .slice A1 n1 c1]] w fun e w' => e = .returned (.bool true) ∧ Below w.heap.size w w' := by
  subst hx hbt
  obtain ⟨za, hza⟩ : ∃ z, z = sgn false (val ws0) := ⟨_, rfl⟩
  have SZa : Hid (Sz za 40) := by rw [hza]; exact sz_raw h0.wds (by rw [h0.len]; omega)
  have HIV : Hid (Iv w (.agg #[.bool false, .slice A0 0 c0]) za) := by rw [hza]; exact (iv_raw h0 k0 l0 (.inl ⟨rfl, rfl⟩)).1
  rw [← hza] at hq
  have HQ := Lib.hid hq
  clear hq
  obtain ⟨zb, hzb⟩ : ∃ z, z = sgn b1 (val (ws1.take 40)) := ⟨_, rfl⟩
  have SZb : Hid (Sz zb 40) := by rw [hzb]; exact sz_take _ _ _ h1.wds
  have HA := Lib.hid h0
  have HB := Lib.hid h1
  clear h0 h1
  go_enter Try.func4, Try.ntmps4
  go_wp2_with fail
  obtain ⟨W, hW⟩ : ∃ W, W = (w.alloc (Obj.cells #[Value.bool false, Value.slice A0 0 c0] 27)).alloc (Obj.cells #[Value.bool b1, Value.slice A1 n1 c1] 24) := ⟨_, rfl⟩
  rw [← hW]
  have BXr : Hid (Box W w.heap.size false (.slice A0 0 c0)) := by rw [hW]; exact (Box.new w _ _).alloc _
  have RX1 : Hid (RBox W (w.heap.size + 1) b1 (.slice A1 n1 c1)) := by rw [hW]; have := RBox.new (w.alloc (Obj.cells #[Value.bool false, Value.slice A0 0 c0] 27)) b1 (.slice A1 n1 c1); simpa [Hid] using this
  have RWr : Hid (Wd W A0 0 ws0) := by rw [hW]; exact (HA.out.alloc _).alloc _
  have RW1 : Hid (Wd W A1 n1 ws1) := by rw [hW]; exact (HB.out.alloc _).alloc _
  have DW : Hid (Below w.heap.size w W) := by rw [hW]; exact ((Below.refl _ _).alloc (Nat.le_refl _) _).alloc (by simp) _
  clear hW HA HB
  generalize hg : w.heap.size = g at *
  refine (sanity_any _).mono ?_
  rintro e w1 ⟨rfl, hb1⟩
  replace BXr := Lib.hid (BXr.out.next hb1 rfl)
  replace RWr := Lib.hid (RWr.out.next hb1 rfl)
  replace RX1 := Lib.hid (RX1.out.next hb1 rfl); replace RW1 := Lib.hid (RW1.out.next hb1 rfl)
  replace DW := Lib.hid (link_below DW.out hb1 (by have := DW.out.size; omega) rfl rfl rfl rfl)
  clear hb1
  rw [← hzb] at HQ
  have IVr : Hid (Iv w1 (.agg #[.bool false, .slice A0 0 c0]) za) := by have hh := HIV.out; rw [← hg] at DW; exact Iv.below hh DW.out
  clear HIV
  have v0 := BXr.out.cell0; have v1 := BXr.out.cell1
  go_upto_region 8 with fail
  clear v0 v1
  have u1 := RX1.out.cell0; have u2 := RX1.out.cell1
  go_wp2_with fail
  clear u1 u2
  refine (rmade_raw b1 A1 n1 c1 40 40 ws1 _ RW1.out rfl (by omega) m1).mono ?_
  rw [← hzb]
  rintro e y1 ⟨_, rfl, hq, hb⟩
  clear RX1 RW1
  obtain ⟨Xb, pb, qb, rfl, _, _, _⟩ := hq.form
  have Q := Lib.hid hq; have B := Lib.hid hb; clear hq hb
  generalize hs : decide ((zb : Int) < 0) = sb at *
  clear hs
  go_upto_region 9 with fail
  obtain ⟨W2, hW⟩ : ∃ W2, W2 = y1.alloc (Obj.cells #[Value.bool sb, Value.slice Xb pb qb] 27) := ⟨_, rfl⟩
  rw [← hW]
  have BXb : Hid (Box W2 y1.heap.size sb (.slice Xb pb qb)) := by rw [hW]; exact Box.new _ _ _
  have IVb : Hid (Iv W2 (.agg #[.bool sb, .slice Xb pb qb]) (zb)) := by rw [hW]; exact Q.out.alloc _
  have hd : Below w1.heap.size w1 W2 := by rw [hW]; exact B.out.alloc B.out.size _
  clear hW Q B
  generalize hgn : y1.heap.size = gb at *
  clear hgn
  replace RWr := Lib.hid (RWr.out.next hd rfl)
  replace BXr := Lib.hid (BXr.out.next hd rfl); replace IVr := Lib.hid (iv_next IVr.out hd rfl)
  replace DW := Lib.hid (link_below DW.out hd (by have := DW.out.size; omega) rfl rfl rfl rfl)
  clear hd
  have v0 := BXr.out.cell0; have v1 := BXr.out.cell1
  go_wp2_with fail
  clear v0 v1
  refine (valid_any _ za _ IVr.out (SZa.out.mono (by omega))).mono ?_
  rintro e ya ⟨rfl, hb⟩
  replace RWr := Lib.hid (RWr.out.next hb rfl)
  replace BXr := Lib.hid (BXr.out.next hb rfl); replace IVr := Lib.hid (iv_next IVr.out hb rfl)
  replace BXb := Lib.hid (BXb.out.next hb rfl); replace IVb := Lib.hid (iv_next IVb.out hb rfl)
  replace DW := Lib.hid (link_below DW.out hb (by have := DW.out.size; omega) rfl rfl rfl rfl)
  clear hb
  have u9a := BXb.out.cell0; have u9b := BXb.out.cell1
  go_wp2_with fail
  clear u9a u9b
  refine (valid_any _ zb _ IVb.out (SZb.out.mono (by omega))).mono ?_
  rintro e yb ⟨rfl, hb⟩
  replace RWr := Lib.hid (RWr.out.next hb rfl)
  replace BXr := Lib.hid (BXr.out.next hb rfl); replace IVr := Lib.hid (iv_next IVr.out hb rfl)
  replace BXb := Lib.hid (BXb.out.next hb rfl); replace IVb := Lib.hid (iv_next IVb.out hb rfl)
  replace DW := Lib.hid (link_below DW.out hb (by have := DW.out.size; omega) rfl rfl rfl rfl)
  clear hb
  have SA := IVr.out.sign; have SB := IVb.out.sign; have WA := Lib.hid IVr.out.wd; have WB := Lib.hid IVb.out.wd
  have LA := WA.out.len; have LB := WB.out.len
  have hzz : zb = za := HQ.out.symm
  have e1 : sb = false := by rw [SB, hzz, ← SA]
  have e2 : pb = 0 := by rw [← LB, hzz]; exact LA
  subst e1 e2
  have HZ := Lib.hid hzz
  clear hzz SA SB LA LB
  have v0 := BXr.out.cell0; have v1 := BXr.out.cell1; have v2 := BXb.out.cell0; have v3 := BXb.out.cell1
  go_wp2_with fail
  clear v0 v1 v2 v3
  go_loopg [9, 10] (0) (fun kk v9 v10 wr => ∃ i : Nat, i + kk = 0 ∧ v9 = .bool true ∧ v10 = .int .i64 i ∧ Below yb.heap.size yb wr)
  case atStart => exact ⟨0, by omega, rfl, rfl, Below.refl _ _⟩
  case round =>
    obtain ⟨i, hik, rfl, rfl, hbw⟩ := hrel
    have HBW := Lib.hid hbw
    have CR := Lib.hid (BXr.out.next hbw rfl); have CB := Lib.hid (BXb.out.next hbw rfl)
    have v0 := CR.out.cell0; have v1 := CR.out.cell1; have v2 := CB.out.cell0; have v3 := CB.out.cell1
    clear hbw
    by_cases hgk : gk = 0
    · have hin2 : decide ((i : Int) < 0) = false := by simp
      go_wp2_with fail
      refine (cmp_is _ _ za zb 0 _ (iv_next IVr.out HBW.out rfl) (iv_next IVb.out HBW.out rfl) (SZa.out.mono (by omega)) (SZb.out.mono (by omega)) (cmpZ_eq HZ.out.symm)).mono ?_
      rintro e yc ⟨rfl, hbc0⟩
      have hbc := link_below HBW.out hbc0 HBW.out.size rfl rfl rfl rfl
      have w0 := (BXr.out.next hbc rfl).cell0; have w1' := (BXr.out.next hbc rfl).cell1
      go_wp2_with fail
      refine (cmp_is _ _ za za 0 _ (iv_next IVr.out hbc rfl) (iv_next IVr.out hbc rfl) (SZa.out.mono (by omega)) (SZa.out.mono (by omega)) (cmpZ_eq rfl)).mono ?_
      rintro e yd ⟨rfl, hbd⟩
      go_wp2
      go_ret
      refine ⟨by simp, ?_⟩
      rw [hg]
      have d1 := link_below DW.out hbc (by have := DW.out.size; omega) rfl rfl rfl rfl
      exact link_below d1 hbd (by have := d1.size; omega) rfl rfl rfl rfl
    · omega


set_option maxHeartbeats 16000000 in
set_option maxRecDepth 100000 in
theorem canonPosEq (b0 : Bool) (A0 : Option Addr) (n0 c0 : Nat) (ws0 : List Nat) (b1 : Bool) (A1 : Option Addr) (n1 c1 : Nat) (ws1 : List Nat) (w : World) (h0 : Wd w A0 n0 ws0) (m0 : n0 ≤ 9223372036854775807) (k0 : n0 ≤ c0) (l0 : c0 ≤ 9223372036854775807) (h1 : Wd w A1 n1 ws1) (m1 : n1 ≤ 9223372036854775807) (k : Nat) (hx : n0 = k + 1) (hk : k < 40) (ht : gd ws0 k ≠ 0) (hq : sgn b0 (val ws0) = sgn b1 (val (ws1.take 40))) :
    Calls Try.prog 4 #[.agg #[.bool b0, .slice A0 n0 c0], .agg #[.bool b1, .slice A1 n1 c1]] w fun e w' => e = .returned (.bool true) ∧ Below w.heap.size w w' := by
  subst hx
  obtain ⟨za, hza⟩ : ∃ z, z = sgn b0 (val ws0) := ⟨_, rfl⟩
  have SZa : Hid (Sz za 40) := by rw [hza]; exact sz_raw h0.wds (by rw [h0.len]; omega)
  have HIV : Hid (Iv w (.agg #[.bool b0, .slice A0 (k + 1) c0]) za) := by rw [hza]; exact (iv_raw h0 k0 l0 (.inr ⟨by omega, by simpa using ht⟩)).1
  rw [← hza] at hq
  have HQ := Lib.hid hq
  clear hq
  have HT := Lib.hid ht
  clear ht
  obtain ⟨zb, hzb⟩ : ∃ z, z = sgn b1 (val (ws1.take 40)) := ⟨_, rfl⟩
  have SZb : Hid (Sz zb 40) := by rw [hzb]; exact sz_take _ _ _ h1.wds
  have HA := Lib.hid h0
  have HB := Lib.hid h1
  clear h0 h1
  go_enter Try.func4, Try.ntmps4
  go_wp2_with fail
  obtain ⟨W, hW⟩ : ∃ W, W = (w.alloc (Obj.cells #[Value.bool b0, Value.slice A0 (k + 1) c0] 27)).alloc (Obj.cells #[Value.bool b1, Value.slice A1 n1 c1] 24) := ⟨_, rfl⟩
  rw [← hW]
  have BXr : Hid (Box W w.heap.size b0 (.slice A0 (k + 1) c0)) := by rw [hW]; exact (Box.new w _ _).alloc _
  have RX1 : Hid (RBox W (w.heap.size + 1) b1 (.slice A1 n1 c1)) := by rw [hW]; have := RBox.new (w.alloc (Obj.cells #[Value.bool b0, Value.slice A0 (k + 1) c0] 27)) b1 (.slice A1 n1 c1); simpa [Hid] using this
  have RWr : Hid (Wd W A0 (k + 1) ws0) := by rw [hW]; exact (HA.out.alloc _).alloc _
  have RW1 : Hid (Wd W A1 n1 ws1) := by rw [hW]; exact (HB.out.alloc _).alloc _
  have DW : Hid (Below w.heap.size w W) := by rw [hW]; exact ((Below.refl _ _).alloc (Nat.le_refl _) _).alloc (by simp) _
  clear hW HA HB
  generalize hg : w.heap.size = g at *
  refine (sanity_any _).mono ?_
  rintro e w1 ⟨rfl, hb1⟩
  replace BXr := Lib.hid (BXr.out.next hb1 rfl)
  replace RWr := Lib.hid (RWr.out.next hb1 rfl)
  replace RX1 := Lib.hid (RX1.out.next hb1 rfl); replace RW1 := Lib.hid (RW1.out.next hb1 rfl)
  replace DW := Lib.hid (link_below DW.out hb1 (by have := DW.out.size; omega) rfl rfl rfl rfl)
  clear hb1
  rw [← hzb] at HQ
  have IVr : Hid (Iv w1 (.agg #[.bool b0, .slice A0 (k + 1) c0]) za) := by have hh := HIV.out; rw [← hg] at DW; exact Iv.below hh DW.out
  clear HIV
  obtain ⟨bb, oo, rfl, hlt0, hcs⟩ := RWr.out.cells (show 0 < k + 1 by omega)
  have htop := hcs k (by omega)
  clear hcs
  have hne : ((k : Int) + 1 == 0) = false := by simp; omega
  have hle : decide ((40 : Int) < (k : Int) + 1) = false := by simp; omega
  have hpos : (0 : Int) < (k : Int) + 1 := by omega
  have hmax : max (k : Int) 0 = (k : Int) := by omega
  have hk0 : (0 : Int) ≤ (k : Int) := by omega
  have hnz : (((gd ws0 k : Nat) : Int) != 0) = true := by have := HT.out; simp; exact this
  generalize gd ws0 k = top at *
  have v0 := BXr.out.cell0; have v1 := BXr.out.cell1
  go_upto_region 8 with fail
  clear v0 v1 htop hnz
  have u1 := RX1.out.cell0; have u2 := RX1.out.cell1
  go_wp2_with fail
  clear u1 u2
  refine (rmade_raw b1 A1 n1 c1 40 40 ws1 _ RW1.out rfl (by omega) m1).mono ?_
  rw [← hzb]
  rintro e y1 ⟨_, rfl, hq, hb⟩
  clear RX1 RW1
  obtain ⟨Xb, pb, qb, rfl, _, _, _⟩ := hq.form
  have Q := Lib.hid hq; have B := Lib.hid hb; clear hq hb
  generalize hs : decide ((zb : Int) < 0) = sb at *
  clear hs
  go_upto_region 9 with fail
  obtain ⟨W2, hW⟩ : ∃ W2, W2 = y1.alloc (Obj.cells #[Value.bool sb, Value.slice Xb pb qb] 27) := ⟨_, rfl⟩
  rw [← hW]
  have BXb : Hid (Box W2 y1.heap.size sb (.slice Xb pb qb)) := by rw [hW]; exact Box.new _ _ _
  have IVb : Hid (Iv W2 (.agg #[.bool sb, .slice Xb pb qb]) (zb)) := by rw [hW]; exact Q.out.alloc _
  have hd : Below w1.heap.size w1 W2 := by rw [hW]; exact B.out.alloc B.out.size _
  clear hW Q B
  generalize hgn : y1.heap.size = gb at *
  clear hgn
  replace RWr := Lib.hid (RWr.out.next hd rfl)
  replace BXr := Lib.hid (BXr.out.next hd rfl); replace IVr := Lib.hid (iv_next IVr.out hd rfl)
  replace DW := Lib.hid (link_below DW.out hd (by have := DW.out.size; omega) rfl rfl rfl rfl)
  clear hd
  have v0 := BXr.out.cell0; have v1 := BXr.out.cell1
  go_wp2_with fail
  clear v0 v1
  refine (valid_any _ za _ IVr.out (SZa.out.mono (by omega))).mono ?_
  rintro e ya ⟨rfl, hb⟩
  replace RWr := Lib.hid (RWr.out.next hb rfl)
  replace BXr := Lib.hid (BXr.out.next hb rfl); replace IVr := Lib.hid (iv_next IVr.out hb rfl)
  replace BXb := Lib.hid (BXb.out.next hb rfl); replace IVb := Lib.hid (iv_next IVb.out hb rfl)
  replace DW := Lib.hid (link_below DW.out hb (by have := DW.out.size; omega) rfl rfl rfl rfl)
  clear hb
  have u9a := BXb.out.cell0; have u9b := BXb.out.cell1
  go_wp2_with fail
  clear u9a u9b
  refine (valid_any _ zb _ IVb.out (SZb.out.mono (by omega))).mono ?_
  rintro e yb ⟨rfl, hb⟩
  replace RWr := Lib.hid (RWr.out.next hb rfl)
  replace BXr := Lib.hid (BXr.out.next hb rfl); replace IVr := Lib.hid (iv_next IVr.out hb rfl)
  replace BXb := Lib.hid (BXb.out.next hb rfl); replace IVb := Lib.hid (iv_next IVb.out hb rfl)
  replace DW := Lib.hid (link_below DW.out hb (by have := DW.out.size; omega) rfl rfl rfl rfl)
  clear hb
  have SA := IVr.out.sign; have SB := IVb.out.sign; have WA := Lib.hid IVr.out.wd; have WB := Lib.hid IVb.out.wd
  have LA := WA.out.len; have LB := WB.out.len
  have hzz : zb = za := HQ.out.symm
  have e1 : sb = b0 := by rw [SB, hzz, ← SA]
  have e2 : pb = (k + 1) := by rw [← LB, hzz]; exact LA
  subst e1 e2
  have HZ := Lib.hid hzz
  clear hzz SA SB LA LB
  have v0 := BXr.out.cell0; have v1 := BXr.out.cell1; have v2 := BXb.out.cell0; have v3 := BXb.out.cell1
  go_wp2_with fail
  clear v0 v1 v2 v3
  go_loopg [9, 10] ((k + 1)) (fun kk v9 v10 wr => ∃ i : Nat, i + kk = (k + 1) ∧ v9 = .bool true ∧ v10 = .int .i64 i ∧ Below yb.heap.size yb wr)
  case atStart => exact ⟨0, by omega, rfl, rfl, Below.refl _ _⟩
  case round =>
    obtain ⟨i, hik, rfl, rfl, hbw⟩ := hrel
    have HBW := Lib.hid hbw
    have CR := Lib.hid (BXr.out.next hbw rfl); have CB := Lib.hid (BXb.out.next hbw rfl)
    have v0 := CR.out.cell0; have v1 := CR.out.cell1; have v2 := CB.out.cell0; have v3 := CB.out.cell1
    clear hbw
    by_cases hgk : gk = 0
    · have hin2 : decide ((i : Int) < (k : Int) + 1) = false := by simp; omega
      go_wp2_with fail
      refine (cmp_is _ _ za zb 0 _ (iv_next IVr.out HBW.out rfl) (iv_next IVb.out HBW.out rfl) (SZa.out.mono (by omega)) (SZb.out.mono (by omega)) (cmpZ_eq HZ.out.symm)).mono ?_
      rintro e yc ⟨rfl, hbc0⟩
      have hbc := link_below HBW.out hbc0 HBW.out.size rfl rfl rfl rfl
      have w0 := (BXr.out.next hbc rfl).cell0; have w1' := (BXr.out.next hbc rfl).cell1
      go_wp2_with fail
      refine (cmp_is _ _ za za 0 _ (iv_next IVr.out hbc rfl) (iv_next IVr.out hbc rfl) (SZa.out.mono (by omega)) (SZa.out.mono (by omega)) (cmpZ_eq rfl)).mono ?_
      rintro e yd ⟨rfl, hbd⟩
      go_wp2
      go_ret
      refine ⟨by simp, ?_⟩
      rw [hg]
      have d1 := link_below DW.out hbc (by have := DW.out.size; omega) rfl rfl rfl rfl
      exact link_below d1 hbd (by have := d1.size; omega) rfl rfl rfl rfl
    · obtain ⟨ab, ao, ea, ha1, ha2⟩ := (WA.out.next HBW.out rfl).cells (show 0 < k + 1 by omega)
      obtain ⟨rb, ro, rfl, hb1, hb2⟩ := (WB.out.next HBW.out rfl).cells (show 0 < k + 1 by omega)
      simp only [Option.some.injEq, Addr.mk.injEq, true_and, and_true] at ea
      obtain ⟨rfl, rfl⟩ := ea
      have c1 := ha2 i (by omega)
      have c2 := hb2 i (by omega)
      rw [HZ.out] at c2
      clear ha2 hb2
      have hin2 : (i : Int) < (k : Int) + 1 := by omega
      go_wp2_with fail
      go_region
      go_wp2
      go_roundg (gk - 1)
      case measure => omega
      case rel => exact ⟨i + 1, by omega, by simp, by simp, HBW.out.drew⟩


set_option maxHeartbeats 16000000 in
set_option maxRecDepth 100000 in
theorem canonZeroNe (b0 : Bool) (A0 : Option Addr) (n0 c0 : Nat) (ws0 : List Nat) (b1 : Bool) (A1 : Option Addr) (n1 c1 : Nat) (ws1 : List Nat) (w : World) (h0 : Wd w A0 n0 ws0) (m0 : n0 ≤ 9223372036854775807) (k0 : n0 ≤ c0) (l0 : c0 ≤ 9223372036854775807) (h1 : Wd w A1 n1 ws1) (m1 : n1 ≤ 9223372036854775807) (hx : n0 = 0) (hbt : b0 = false) (hq : sgn b0 (val ws0) ≠ sgn b1 (val (ws1.take 40))) :
    Calls Try.prog 4 #[.agg #[.bool b0, .slice A0 n0 c0], .agg #[.bool b1, .slice A1 n1 c1]] w fun e w' => e = .returned (.bool true) ∧ Below w.heap.size w w' := by
  subst hx hbt
  obtain ⟨za, hza⟩ : ∃ z, z = sgn false (val ws0) := ⟨_, rfl⟩
  have SZa : Hid (Sz za 40) := by rw [hza]; exact sz_raw h0.wds (by rw [h0.len]; omega)
  have HIV : Hid (Iv w (.agg #[.bool false, .slice A0 0 c0]) za) := by rw [hza]; exact (iv_raw h0 k0 l0 (.inl ⟨rfl, rfl⟩)).1
  rw [← hza] at hq
  have HQ := Lib.hid hq
  clear hq
  obtain ⟨zb, hzb⟩ : ∃ z, z = sgn b1 (val (ws1.take 40)) := ⟨_, rfl⟩
  have SZb : Hid (Sz zb 40) := by rw [hzb]; exact sz_take _ _ _ h1.wds
  have HA := Lib.hid h0
  have HB := Lib.hid h1
  clear h0 h1
  go_enter Try.func4, Try.ntmps4
  go_wp2_with fail
  obtain ⟨W, hW⟩ : ∃ W, W = (w.alloc (Obj.cells #[Value.bool false, Value.slice A0 0 c0] 27)).alloc (Obj.cells #[Value.bool b1, Value.slice A1 n1 c1] 24) := ⟨_, rfl⟩
  rw [← hW]
  have BXr : Hid (Box W w.heap.size false (.slice A0 0 c0)) := by rw [hW]; exact (Box.new w _ _).alloc _
  have RX1 : Hid (RBox W (w.heap.size + 1) b1 (.slice A1 n1 c1)) := by rw [hW]; have := RBox.new (w.alloc (Obj.cells #[Value.bool false, Value.slice A0 0 c0] 27)) b1 (.slice A1 n1 c1); simpa [Hid] using this
  have RWr : Hid (Wd W A0 0 ws0) := by rw [hW]; exact (HA.out.alloc _).alloc _
  have RW1 : Hid (Wd W A1 n1 ws1) := by rw [hW]; exact (HB.out.alloc _).alloc _
  have DW : Hid (Below w.heap.size w W) := by rw [hW]; exact ((Below.refl _ _).alloc (Nat.le_refl _) _).alloc (by simp) _
  clear hW HA HB
  generalize hg : w.heap.size = g at *
  refine (sanity_any _).mono ?_
  rintro e w1 ⟨rfl, hb1⟩
  replace BXr := Lib.hid (BXr.out.next hb1 rfl)
  replace RWr := Lib.hid (RWr.out.next hb1 rfl)
  replace RX1 := Lib.hid (RX1.out.next hb1 rfl); replace RW1 := Lib.hid (RW1.out.next hb1 rfl)
  replace DW := Lib.hid (link_below DW.out hb1 (by have := DW.out.size; omega) rfl rfl rfl rfl)
  clear hb1
  rw [← hzb] at HQ
  have IVr : Hid (Iv w1 (.agg #[.bool false, .slice A0 0 c0]) za) := by have hh := HIV.out; rw [← hg] at DW; exact Iv.below hh DW.out
  clear HIV
  have v0 := BXr.out.cell0; have v1 := BXr.out.cell1
  go_upto_region 8 with fail
  clear v0 v1
  have u1 := RX1.out.cell0; have u2 := RX1.out.cell1
  go_wp2_with fail
  clear u1 u2
  refine (rmade_raw b1 A1 n1 c1 40 40 ws1 _ RW1.out rfl (by omega) m1).mono ?_
  rw [← hzb]
  rintro e y1 ⟨_, rfl, hq, hb⟩
  clear RX1 RW1
  obtain ⟨Xb, pb, qb, rfl, _, _, _⟩ := hq.form
  have Q := Lib.hid hq; have B := Lib.hid hb; clear hq hb
  generalize hs : decide ((zb : Int) < 0) = sb at *
  clear hs
  go_upto_region 9 with fail
  obtain ⟨W2, hW⟩ : ∃ W2, W2 = y1.alloc (Obj.cells #[Value.bool sb, Value.slice Xb pb qb] 27) := ⟨_, rfl⟩
  rw [← hW]
  have BXb : Hid (Box W2 y1.heap.size sb (.slice Xb pb qb)) := by rw [hW]; exact Box.new _ _ _
  have IVb : Hid (Iv W2 (.agg #[.bool sb, .slice Xb pb qb]) (zb)) := by rw [hW]; exact Q.out.alloc _
  have hd : Below w1.heap.size w1 W2 := by rw [hW]; exact B.out.alloc B.out.size _
  clear hW Q B
  generalize hgn : y1.heap.size = gb at *
  clear hgn
  replace RWr := Lib.hid (RWr.out.next hd rfl)
  replace BXr := Lib.hid (BXr.out.next hd rfl); replace IVr := Lib.hid (iv_next IVr.out hd rfl)
  replace DW := Lib.hid (link_below DW.out hd (by have := DW.out.size; omega) rfl rfl rfl rfl)
  clear hd
  have v0 := BXr.out.cell0; have v1 := BXr.out.cell1
  go_wp2_with fail
  clear v0 v1
  refine (valid_any _ za _ IVr.out (SZa.out.mono (by omega))).mono ?_
  rintro e ya ⟨rfl, hb⟩
  replace RWr := Lib.hid (RWr.out.next hb rfl)
  replace BXr := Lib.hid (BXr.out.next hb rfl); replace IVr := Lib.hid (iv_next IVr.out hb rfl)
  replace BXb := Lib.hid (BXb.out.next hb rfl); replace IVb := Lib.hid (iv_next IVb.out hb rfl)
  replace DW := Lib.hid (link_below DW.out hb (by have := DW.out.size; omega) rfl rfl rfl rfl)
  clear hb
  have u9a := BXb.out.cell0; have u9b := BXb.out.cell1
  go_wp2_with fail
  clear u9a u9b
  refine (valid_any _ zb _ IVb.out (SZb.out.mono (by omega))).mono ?_
  rintro e yb ⟨rfl, hb⟩
  replace RWr := Lib.hid (RWr.out.next hb rfl)
  replace BXr := Lib.hid (BXr.out.next hb rfl); replace IVr := Lib.hid (iv_next IVr.out hb rfl)
  replace BXb := Lib.hid (BXb.out.next hb rfl); replace IVb := Lib.hid (iv_next IVb.out hb rfl)
  replace DW := Lib.hid (link_below DW.out hb (by have := DW.out.size; omega) rfl rfl rfl rfl)
  clear hb
  have SA := IVr.out.sign; have SB := IVb.out.sign; have WA := Lib.hid IVr.out.wd; have WB := Lib.hid IVb.out.wd
  have LA := WA.out.len; have LB := WB.out.len
  obtain ⟨o, ho, hoe⟩ := cmp_ne HQ.out
  by_cases hsb : false = sb
  · by_cases hpn : 0 = pb
    · subst hsb hpn
      have hbe : (false == false) = true := by simp
      have hS : Hid (false = decide (za < 0) ∧ false = decide (zb < 0)) := ⟨SA, SB⟩
      clear SA SB LA LB
      have v0 := BXr.out.cell0; have v1 := BXr.out.cell1; have v2 := BXb.out.cell0; have v3 := BXb.out.cell1
      go_wp2_with fail
      clear v0 v1 v2 v3
      go_loopg [9, 10] (0) (fun kk v9 v10 wr => ∃ (i : Nat) (q : Bool), i + kk = 0 ∧ v9 = .bool q ∧ v10 = .int .i64 i ∧ Below yb.heap.size yb wr ∧ (q = true → ∀ j, j < i → gd (mag za.natAbs) j = gd (mag zb.natAbs) j))
      case atStart => exact ⟨0, true, by omega, rfl, rfl, Below.refl _ _, fun _ j hj => by omega⟩
      case round =>
        obtain ⟨i, q, hik, rfl, rfl, hbw, hqq⟩ := hrel
        have HBW := Lib.hid hbw
        have HQQ := Lib.hid hqq
        have CR := Lib.hid (BXr.out.next hbw rfl); have CB := Lib.hid (BXb.out.next hbw rfl)
        have v0 := CR.out.cell0; have v1 := CR.out.cell1; have v2 := CB.out.cell0; have v3 := CB.out.cell1
        clear hbw hqq
        by_cases hgk : gk = 0
        · cases q
          · have hin2 : decide ((i : Int) < 0) = false := by simp
            go_wp2_with fail
            refine (cmp_is _ _ za zb o _ (iv_next IVr.out HBW.out rfl) (iv_next IVb.out HBW.out rfl) (SZa.out.mono (by omega)) (SZb.out.mono (by omega)) ho.out).mono ?_
            rintro e yc ⟨rfl, hbc0⟩
            have hbc := link_below HBW.out hbc0 HBW.out.size rfl rfl rfl rfl
            have w0 := (BXr.out.next hbc rfl).cell0; have w1' := (BXr.out.next hbc rfl).cell1
            go_wp2_with fail
            refine (cmp_is _ _ za za 0 _ (iv_next IVr.out hbc rfl) (iv_next IVr.out hbc rfl) (SZa.out.mono (by omega)) (SZa.out.mono (by omega)) (cmpZ_eq rfl)).mono ?_
            rintro e yd ⟨rfl, hbd⟩
            go_wp2
            go_ret
            refine ⟨by simp, ?_⟩
            rw [hg]
            have d1 := link_below DW.out hbc (by have := DW.out.size; omega) rfl rfl rfl rfl
            exact link_below d1 hbd (by have := d1.size; omega) rfl rfl rfl rfl
          · exfalso
            have hw := words_ext WA.out.len WB.out.len (fun j hj => HQQ.out rfl j (by omega))
            have hab := abs_words hw
            have h1 := hS.out.1
            have h2 := hS.out.2
            rw [h1] at h2
            have h3 : (za < 0) ↔ (zb < 0) := by simpa using h2
            exact HQ.out (by omega)
        · omega
    · have hbe : (false == sb) = true := by simp [← hsb]
      have hne : ((0 : Int) == (pb : Int)) = false := by simp; omega
      clear hsb hpn SA SB LA LB
      have v0 := BXr.out.cell0; have v1 := BXr.out.cell1; have v2 := BXb.out.cell0; have v3 := BXb.out.cell1
      go_wp2_with fail
      clear v0 v1 v2 v3
      go_loopg [9, 10] 0 (fun kk v9 v10 wr => v9 = .bool false ∧ v10 = .int .i64 0 ∧ wr = yb)
      case atStart => exact ⟨rfl, rfl, rfl⟩
      case round =>
        obtain ⟨rfl, rfl, rfl⟩ := hrel
        have HBW := Lib.hid (Below.refl wr.heap.size wr)
        have v0 := BXr.out.cell0; have v1 := BXr.out.cell1; have v2 := BXb.out.cell0; have v3 := BXb.out.cell1
        skip
        go_wp2_with fail
        refine (cmp_is _ _ za zb o _ (iv_next IVr.out HBW.out rfl) (iv_next IVb.out HBW.out rfl) (SZa.out.mono (by omega)) (SZb.out.mono (by omega)) ho.out).mono ?_
        rintro e yc ⟨rfl, hbc0⟩
        have hbc := link_below HBW.out hbc0 HBW.out.size rfl rfl rfl rfl
        have w0 := (BXr.out.next hbc rfl).cell0; have w1' := (BXr.out.next hbc rfl).cell1
        go_wp2_with fail
        refine (cmp_is _ _ za za 0 _ (iv_next IVr.out hbc rfl) (iv_next IVr.out hbc rfl) (SZa.out.mono (by omega)) (SZa.out.mono (by omega)) (cmpZ_eq rfl)).mono ?_
        rintro e yd ⟨rfl, hbd⟩
        go_wp2
        go_ret
        refine ⟨by simp, ?_⟩
        rw [hg]
        have d1 := link_below DW.out hbc (by have := DW.out.size; omega) rfl rfl rfl rfl
        exact link_below d1 hbd (by have := d1.size; omega) rfl rfl rfl rfl
  · have hbe : (false == sb) = false := by
      cases hc : (false == sb) with
      | false => rfl
      | true => exact absurd (by simpa using hc) hsb
    clear hsb SA SB LA LB
    have v0 := BXr.out.cell0; have v1 := BXr.out.cell1; have v2 := BXb.out.cell0; have v3 := BXb.out.cell1
    go_wp2_with fail
    clear v0 v1 v2 v3
    go_loopg [9, 10] 0 (fun kk v9 v10 wr => v9 = .bool false ∧ v10 = .int .i64 0 ∧ wr = yb)
    case atStart => exact ⟨rfl, rfl, rfl⟩
    case round =>
      obtain ⟨rfl, rfl, rfl⟩ := hrel
      have HBW := Lib.hid (Below.refl wr.heap.size wr)
      have v0 := BXr.out.cell0; have v1 := BXr.out.cell1; have v2 := BXb.out.cell0; have v3 := BXb.out.cell1
      skip
      go_wp2_with fail
      refine (cmp_is _ _ za zb o _ (iv_next IVr.out HBW.out rfl) (iv_next IVb.out HBW.out rfl) (SZa.out.mono (by omega)) (SZb.out.mono (by omega)) ho.out).mono ?_
      rintro e yc ⟨rfl, hbc0⟩
      have hbc := link_below HBW.out hbc0 HBW.out.size rfl rfl rfl rfl
      have w0 := (BXr.out.next hbc rfl).cell0; have w1' := (BXr.out.next hbc rfl).cell1
      go_wp2_with fail
      refine (cmp_is _ _ za za 0 _ (iv_next IVr.out hbc rfl) (iv_next IVr.out hbc rfl) (SZa.out.mono (by omega)) (SZa.out.mono (by omega)) (cmpZ_eq rfl)).mono ?_
      rintro e yd ⟨rfl, hbd⟩
      go_wp2
      go_ret
      refine ⟨by simp, ?_⟩
      rw [hg]
      have d1 := link_below DW.out hbc (by have := DW.out.size; omega) rfl rfl rfl rfl
      exact link_below d1 hbd (by have := d1.size; omega) rfl rfl rfl rfl


set_option maxHeartbeats 16000000 in
set_option maxRecDepth 100000 in
theorem canonPosNe (b0 : Bool) (A0 : Option Addr) (n0 c0 : Nat) (ws0 : List Nat) (b1 : Bool) (A1 : Option Addr) (n1 c1 : Nat) (ws1 : List Nat) (w : World) (h0 : Wd w A0 n0 ws0) (m0 : n0 ≤ 9223372036854775807) (k0 : n0 ≤ c0) (l0 : c0 ≤ 9223372036854775807) (h1 : Wd w A1 n1 ws1) (m1 : n1 ≤ 9223372036854775807) (k : Nat) (hx : n0 = k + 1) (hk : k < 40) (ht : gd ws0 k ≠ 0) (hq : sgn b0 (val ws0) ≠ sgn b1 (val (ws1.take 40))) :
    Calls Try.prog 4 #[.agg #[.bool b0, .slice A0 n0 c0], .agg #[.bool b1, .slice A1 n1 c1]] w fun e w' => e = .returned (.bool true) ∧ Below w.heap.size w w' := by
  subst hx
  obtain ⟨za, hza⟩ : ∃ z, z = sgn b0 (val ws0) := ⟨_, rfl⟩
  have SZa : Hid (Sz za 40) := by rw [hza]; exact sz_raw h0.wds (by rw [h0.len]; omega)
  have HIV : Hid (Iv w (.agg #[.bool b0, .slice A0 (k + 1) c0]) za) := by rw [hza]; exact (iv_raw h0 k0 l0 (.inr ⟨by omega, by simpa using ht⟩)).1
  rw [← hza] at hq
  have HQ := Lib.hid hq
  clear hq
  have HT := Lib.hid ht
  clear ht
  obtain ⟨zb, hzb⟩ : ∃ z, z = sgn b1 (val (ws1.take 40)) := ⟨_, rfl⟩
  have SZb : Hid (Sz zb 40) := by rw [hzb]; exact sz_take _ _ _ h1.wds
  have HA := Lib.hid h0
  have HB := Lib.hid h1
  clear h0 h1
  go_enter Try.func4, Try.ntmps4
  go_wp2_with fail
  obtain ⟨W, hW⟩ : ∃ W, W = (w.alloc (Obj.cells #[Value.bool b0, Value.slice A0 (k + 1) c0] 27)).alloc (Obj.cells #[Value.bool b1, Value.slice A1 n1 c1] 24) := ⟨_, rfl⟩
  rw [← hW]
  have BXr : Hid (Box W w.heap.size b0 (.slice A0 (k + 1) c0)) := by rw [hW]; exact (Box.new w _ _).alloc _
  have RX1 : Hid (RBox W (w.heap.size + 1) b1 (.slice A1 n1 c1)) := by rw [hW]; have := RBox.new (w.alloc (Obj.cells #[Value.bool b0, Value.slice A0 (k + 1) c0] 27)) b1 (.slice A1 n1 c1); simpa [Hid] using this
  have RWr : Hid (Wd W A0 (k + 1) ws0) := by rw [hW]; exact (HA.out.alloc _).alloc _
  have RW1 : Hid (Wd W A1 n1 ws1) := by rw [hW]; exact (HB.out.alloc _).alloc _
  have DW : Hid (Below w.heap.size w W) := by rw [hW]; exact ((Below.refl _ _).alloc (Nat.le_refl _) _).alloc (by simp) _
  clear hW HA HB
  generalize hg : w.heap.size = g at *
  refine (sanity_any _).mono ?_
  rintro e w1 ⟨rfl, hb1⟩
  replace BXr := Lib.hid (BXr.out.next hb1 rfl)
  replace RWr := Lib.hid (RWr.out.next hb1 rfl)
  replace RX1 := Lib.hid (RX1.out.next hb1 rfl); replace RW1 := Lib.hid (RW1.out.next hb1 rfl)
  replace DW := Lib.hid (link_below DW.out hb1 (by have := DW.out.size; omega) rfl rfl rfl rfl)
  clear hb1
  rw [← hzb] at HQ
  have IVr : Hid (Iv w1 (.agg #[.bool b0, .slice A0 (k + 1) c0]) za) := by have hh := HIV.out; rw [← hg] at DW; exact Iv.below hh DW.out
  clear HIV
  obtain ⟨bb, oo, rfl, hlt0, hcs⟩ := RWr.out.cells (show 0 < k + 1 by omega)
  have htop := hcs k (by omega)
  clear hcs
  have hne : ((k : Int) + 1 == 0) = false := by simp; omega
  have hle : decide ((40 : Int) < (k : Int) + 1) = false := by simp; omega
  have hpos : (0 : Int) < (k : Int) + 1 := by omega
  have hmax : max (k : Int) 0 = (k : Int) := by omega
  have hk0 : (0 : Int) ≤ (k : Int) := by omega
  have hnz : (((gd ws0 k : Nat) : Int) != 0) = true := by have := HT.out; simp; exact this
  generalize gd ws0 k = top at *
  have v0 := BXr.out.cell0; have v1 := BXr.out.cell1
  go_upto_region 8 with fail
  clear v0 v1 htop hnz
  have u1 := RX1.out.cell0; have u2 := RX1.out.cell1
  go_wp2_with fail
  clear u1 u2
  refine (rmade_raw b1 A1 n1 c1 40 40 ws1 _ RW1.out rfl (by omega) m1).mono ?_
  rw [← hzb]
  rintro e y1 ⟨_, rfl, hq, hb⟩
  clear RX1 RW1
  obtain ⟨Xb, pb, qb, rfl, _, _, _⟩ := hq.form
  have Q := Lib.hid hq; have B := Lib.hid hb; clear hq hb
  generalize hs : decide ((zb : Int) < 0) = sb at *
  clear hs
  go_upto_region 9 with fail
  obtain ⟨W2, hW⟩ : ∃ W2, W2 = y1.alloc (Obj.cells #[Value.bool sb, Value.slice Xb pb qb] 27) := ⟨_, rfl⟩
  rw [← hW]
  have BXb : Hid (Box W2 y1.heap.size sb (.slice Xb pb qb)) := by rw [hW]; exact Box.new _ _ _
  have IVb : Hid (Iv W2 (.agg #[.bool sb, .slice Xb pb qb]) (zb)) := by rw [hW]; exact Q.out.alloc _
  have hd : Below w1.heap.size w1 W2 := by rw [hW]; exact B.out.alloc B.out.size _
  clear hW Q B
  generalize hgn : y1.heap.size = gb at *
  clear hgn
  replace RWr := Lib.hid (RWr.out.next hd rfl)
  replace BXr := Lib.hid (BXr.out.next hd rfl); replace IVr := Lib.hid (iv_next IVr.out hd rfl)
  replace DW := Lib.hid (link_below DW.out hd (by have := DW.out.size; omega) rfl rfl rfl rfl)
  clear hd
  have v0 := BXr.out.cell0; have v1 := BXr.out.cell1
  go_wp2_with fail
  clear v0 v1
  refine (valid_any _ za _ IVr.out (SZa.out.mono (by omega))).mono ?_
  rintro e ya ⟨rfl, hb⟩
  replace RWr := Lib.hid (RWr.out.next hb rfl)
  replace BXr := Lib.hid (BXr.out.next hb rfl); replace IVr := Lib.hid (iv_next IVr.out hb rfl)
  replace BXb := Lib.hid (BXb.out.next hb rfl); replace IVb := Lib.hid (iv_next IVb.out hb rfl)
  replace DW := Lib.hid (link_below DW.out hb (by have := DW.out.size; omega) rfl rfl rfl rfl)
  clear hb
  have u9a := BXb.out.cell0; have u9b := BXb.out.cell1
  go_wp2_with fail
  clear u9a u9b
  refine (valid_any _ zb _ IVb.out (SZb.out.mono (by omega))).mono ?_
  rintro e yb ⟨rfl, hb⟩
  replace RWr := Lib.hid (RWr.out.next hb rfl)
  replace BXr := Lib.hid (BXr.out.next hb rfl); replace IVr := Lib.hid (iv_next IVr.out hb rfl)
  replace BXb := Lib.hid (BXb.out.next hb rfl); replace IVb := Lib.hid (iv_next IVb.out hb rfl)
  replace DW := Lib.hid (link_below DW.out hb (by have := DW.out.size; omega) rfl rfl rfl rfl)
  clear hb
  have SA := IVr.out.sign; have SB := IVb.out.sign; have WA := Lib.hid IVr.out.wd; have WB := Lib.hid IVb.out.wd
  have LA := WA.out.len; have LB := WB.out.len
  obtain ⟨o, ho, hoe⟩ := cmp_ne HQ.out
  by_cases hsb : b0 = sb
  · by_cases hpn : (k + 1) = pb
    · subst hsb hpn
      have hbe : (b0 == b0) = true := by simp
      have hS : Hid (b0 = decide (za < 0) ∧ b0 = decide (zb < 0)) := ⟨SA, SB⟩
      clear SA SB LA LB
      have v0 := BXr.out.cell0; have v1 := BXr.out.cell1; have v2 := BXb.out.cell0; have v3 := BXb.out.cell1
      go_wp2_with fail
      clear v0 v1 v2 v3
      go_loopg [9, 10] ((k + 1)) (fun kk v9 v10 wr => ∃ (i : Nat) (q : Bool), i + kk = (k + 1) ∧ v9 = .bool q ∧ v10 = .int .i64 i ∧ Below yb.heap.size yb wr ∧ (q = true → ∀ j, j < i → gd (mag za.natAbs) j = gd (mag zb.natAbs) j))
      case atStart => exact ⟨0, true, by omega, rfl, rfl, Below.refl _ _, fun _ j hj => by omega⟩
      case round =>
        obtain ⟨i, q, hik, rfl, rfl, hbw, hqq⟩ := hrel
        have HBW := Lib.hid hbw
        have HQQ := Lib.hid hqq
        have CR := Lib.hid (BXr.out.next hbw rfl); have CB := Lib.hid (BXb.out.next hbw rfl)
        have v0 := CR.out.cell0; have v1 := CR.out.cell1; have v2 := CB.out.cell0; have v3 := CB.out.cell1
        clear hbw hqq
        by_cases hgk : gk = 0
        · cases q
          · have hin2 : decide ((i : Int) < (k : Int) + 1) = false := by simp; omega
            go_wp2_with fail
            refine (cmp_is _ _ za zb o _ (iv_next IVr.out HBW.out rfl) (iv_next IVb.out HBW.out rfl) (SZa.out.mono (by omega)) (SZb.out.mono (by omega)) ho.out).mono ?_
            rintro e yc ⟨rfl, hbc0⟩
            have hbc := link_below HBW.out hbc0 HBW.out.size rfl rfl rfl rfl
            have w0 := (BXr.out.next hbc rfl).cell0; have w1' := (BXr.out.next hbc rfl).cell1
            go_wp2_with fail
            refine (cmp_is _ _ za za 0 _ (iv_next IVr.out hbc rfl) (iv_next IVr.out hbc rfl) (SZa.out.mono (by omega)) (SZa.out.mono (by omega)) (cmpZ_eq rfl)).mono ?_
            rintro e yd ⟨rfl, hbd⟩
            go_wp2
            go_ret
            refine ⟨by simp, ?_⟩
            rw [hg]
            have d1 := link_below DW.out hbc (by have := DW.out.size; omega) rfl rfl rfl rfl
            exact link_below d1 hbd (by have := d1.size; omega) rfl rfl rfl rfl
          · exfalso
            have hw := words_ext WA.out.len WB.out.len (fun j hj => HQQ.out rfl j (by omega))
            have hab := abs_words hw
            have h1 := hS.out.1
            have h2 := hS.out.2
            rw [h1] at h2
            have h3 : (za < 0) ↔ (zb < 0) := by simpa using h2
            exact HQ.out (by omega)
        · have hin2 : (i : Int) < (k : Int) + 1 := by omega
          cases q
          · go_wp2_with fail
            refine (cmp_is _ _ za zb o _ (iv_next IVr.out HBW.out rfl) (iv_next IVb.out HBW.out rfl) (SZa.out.mono (by omega)) (SZb.out.mono (by omega)) ho.out).mono ?_
            rintro e yc ⟨rfl, hbc0⟩
            have hbc := link_below HBW.out hbc0 HBW.out.size rfl rfl rfl rfl
            have w0 := (BXr.out.next hbc rfl).cell0; have w1' := (BXr.out.next hbc rfl).cell1
            go_wp2_with fail
            refine (cmp_is _ _ za za 0 _ (iv_next IVr.out hbc rfl) (iv_next IVr.out hbc rfl) (SZa.out.mono (by omega)) (SZa.out.mono (by omega)) (cmpZ_eq rfl)).mono ?_
            rintro e yd ⟨rfl, hbd⟩
            go_wp2
            go_ret
            refine ⟨by simp, ?_⟩
            rw [hg]
            have d1 := link_below DW.out hbc (by have := DW.out.size; omega) rfl rfl rfl rfl
            exact link_below d1 hbd (by have := d1.size; omega) rfl rfl rfl rfl
          · obtain ⟨ab, ao, ea, ha1, ha2⟩ := (WA.out.next HBW.out rfl).cells (show 0 < k + 1 by omega)
            obtain ⟨rb, ro, rfl, hb1, hb2⟩ := (WB.out.next HBW.out rfl).cells (show 0 < k + 1 by omega)
            simp only [Option.some.injEq, Addr.mk.injEq, true_and, and_true] at ea
            obtain ⟨rfl, rfl⟩ := ea
            have c1 := ha2 i (by omega)
            have c2 := hb2 i (by omega)
            clear ha2 hb2
            have hnew : Hid ((((gd (mag za.natAbs) i : Nat) : Int) == ((gd (mag zb.natAbs) i : Nat) : Int)) = true → gd (mag za.natAbs) i = gd (mag zb.natAbs) i) := fun h => by have := eq_of_beq h; omega
            generalize hxa : gd (mag za.natAbs) i = xa at *
            generalize hxb : gd (mag zb.natAbs) i = xb at *
            have HXA := Lib.hid hxa; have HXB := Lib.hid hxb; clear hxa hxb
            go_wp2_with fail
            go_region
            go_wp2
            go_roundg (gk - 1)
            case measure => omega
            case rel =>
              refine ⟨i + 1, _, by omega, rfl, by simp, HBW.out.drew, fun h j hj => ?_⟩
              rcases Nat.lt_or_ge j i with hji | hji
              · exact HQQ.out (by trivial) j hji
              · obtain rfl : j = i := by omega
                rw [HXA.out, HXB.out]
                exact hnew.out h
    · have hbe : (b0 == sb) = true := by simp [← hsb]
      have hne : (((k : Int) + 1) == (pb : Int)) = false := by simp; omega
      clear hsb hpn SA SB LA LB
      have v0 := BXr.out.cell0; have v1 := BXr.out.cell1; have v2 := BXb.out.cell0; have v3 := BXb.out.cell1
      go_wp2_with fail
      clear v0 v1 v2 v3
      go_loopg [9, 10] 0 (fun kk v9 v10 wr => v9 = .bool false ∧ v10 = .int .i64 0 ∧ wr = yb)
      case atStart => exact ⟨rfl, rfl, rfl⟩
      case round =>
        obtain ⟨rfl, rfl, rfl⟩ := hrel
        have HBW := Lib.hid (Below.refl wr.heap.size wr)
        have v0 := BXr.out.cell0; have v1 := BXr.out.cell1; have v2 := BXb.out.cell0; have v3 := BXb.out.cell1
        have hk00 : (0 : Int) < (k : Int) + 1 := by omega
        go_wp2_with fail
        refine (cmp_is _ _ za zb o _ (iv_next IVr.out HBW.out rfl) (iv_next IVb.out HBW.out rfl) (SZa.out.mono (by omega)) (SZb.out.mono (by omega)) ho.out).mono ?_
        rintro e yc ⟨rfl, hbc0⟩
        have hbc := link_below HBW.out hbc0 HBW.out.size rfl rfl rfl rfl
        have w0 := (BXr.out.next hbc rfl).cell0; have w1' := (BXr.out.next hbc rfl).cell1
        go_wp2_with fail
        refine (cmp_is _ _ za za 0 _ (iv_next IVr.out hbc rfl) (iv_next IVr.out hbc rfl) (SZa.out.mono (by omega)) (SZa.out.mono (by omega)) (cmpZ_eq rfl)).mono ?_
        rintro e yd ⟨rfl, hbd⟩
        go_wp2
        go_ret
        refine ⟨by simp, ?_⟩
        rw [hg]
        have d1 := link_below DW.out hbc (by have := DW.out.size; omega) rfl rfl rfl rfl
        exact link_below d1 hbd (by have := d1.size; omega) rfl rfl rfl rfl
  · have hbe : (b0 == sb) = false := by
      cases hc : (b0 == sb) with
      | false => rfl
      | true => exact absurd (by simpa using hc) hsb
    clear hsb SA SB LA LB
    have v0 := BXr.out.cell0; have v1 := BXr.out.cell1; have v2 := BXb.out.cell0; have v3 := BXb.out.cell1
    go_wp2_with fail
    clear v0 v1 v2 v3
    go_loopg [9, 10] 0 (fun kk v9 v10 wr => v9 = .bool false ∧ v10 = .int .i64 0 ∧ wr = yb)
    case atStart => exact ⟨rfl, rfl, rfl⟩
    case round =>
      obtain ⟨rfl, rfl, rfl⟩ := hrel
      have HBW := Lib.hid (Below.refl wr.heap.size wr)
      have v0 := BXr.out.cell0; have v1 := BXr.out.cell1; have v2 := BXb.out.cell0; have v3 := BXb.out.cell1
      have hk00 : (0 : Int) < (k : Int) + 1 := by omega
      go_wp2_with fail
      refine (cmp_is _ _ za zb o _ (iv_next IVr.out HBW.out rfl) (iv_next IVb.out HBW.out rfl) (SZa.out.mono (by omega)) (SZb.out.mono (by omega)) ho.out).mono ?_
      rintro e yc ⟨rfl, hbc0⟩
      have hbc := link_below HBW.out hbc0 HBW.out.size rfl rfl rfl rfl
      have w0 := (BXr.out.next hbc rfl).cell0; have w1' := (BXr.out.next hbc rfl).cell1
      go_wp2_with fail
      refine (cmp_is _ _ za za 0 _ (iv_next IVr.out hbc rfl) (iv_next IVr.out hbc rfl) (SZa.out.mono (by omega)) (SZa.out.mono (by omega)) (cmpZ_eq rfl)).mono ?_
      rintro e yd ⟨rfl, hbd⟩
      go_wp2
      go_ret
      refine ⟨by simp, ?_⟩
      rw [hg]
      have d1 := link_below DW.out hbc (by have := DW.out.size; omega) rfl rfl rfl rfl
      exact link_below d1 hbd (by have := d1.size; omega) rfl rfl rfl rfl

theorem lawCanon_any (b0 : Bool) (A0 : Option Addr) (n0 c0 : Nat) (ws0 : List Nat) (b1 : Bool) (A1 : Option Addr) (n1 c1 : Nat) (ws1 : List Nat) (w : World) (h0 : Wd w A0 n0 ws0) (m0 : n0 ≤ 9223372036854775807) (k0 : n0 ≤ c0) (l0 : c0 ≤ 9223372036854775807) (h1 : Wd w A1 n1 ws1) (m1 : n1 ≤ 9223372036854775807) :
    Calls Try.prog 4 #[.agg #[.bool b0, .slice A0 n0 c0], .agg #[.bool b1, .slice A1 n1 c1]] w fun e w' => e = .returned (.bool true) ∧ Below w.heap.size w w' := by
  by_cases hx : 40 < n0
  · exact canonLong b0 A0 n0 c0 ws0 b1 A1 n1 c1 ws1 w h0 m0 k0 l0 h1 m1 hx
  · rcases Nat.eq_zero_or_pos n0 with h | h
    · rcases Bool.eq_false_or_eq_true b0 with hb | hb
      · exact canonNil b0 A0 n0 c0 ws0 b1 A1 n1 c1 ws1 w h0 m0 k0 l0 h1 m1 h hb
      · by_cases hq : sgn b0 (val ws0) = sgn b1 (val (ws1.take 40))
        · exact canonZeroEq b0 A0 n0 c0 ws0 b1 A1 n1 c1 ws1 w h0 m0 k0 l0 h1 m1 h hb hq
        · exact canonZeroNe b0 A0 n0 c0 ws0 b1 A1 n1 c1 ws1 w h0 m0 k0 l0 h1 m1 h hb hq
    · obtain ⟨k, hk⟩ : ∃ k, n0 = k + 1 := ⟨n0 - 1, by omega⟩
      by_cases ht : gd ws0 k = 0
      · exact canonTop b0 A0 n0 c0 ws0 b1 A1 n1 c1 ws1 w h0 m0 k0 l0 h1 m1 k hk (by omega) ht
      · by_cases hq : sgn b0 (val ws0) = sgn b1 (val (ws1.take 40))
        · exact canonPosEq b0 A0 n0 c0 ws0 b1 A1 n1 c1 ws1 w h0 m0 k0 l0 h1 m1 k hk (by omega) ht hq
        · exact canonPosNe b0 A0 n0 c0 ws0 b1 A1 n1 c1 ws1 w h0 m0 k0 l0 h1 m1 k hk (by omega) ht hq
end Go.Proofs.Ytloiabkopacfgaa
