/-
  The law's fixed examples.
-/
import Derived.Test.YtpklphdhigkmmaaSanM
import Derived.Deep.DeepCutAuto
import Derived.Handy
namespace Go.Proofs.Ytpklphdhigkmmaa
open Go.RowKit
attribute [local go_sem ↓] Go.wp_at_zero Go.wp_at_succ

set_option maxHeartbeats 16000000 in
set_option maxRecDepth 100000 in
theorem sanity_any (w : World) : Calls Try.prog 13 #[] w (RetV (.bool true) w) := by
  go_enter Try.func13, Try.ntmps13
  go_wp2_with fail
  refine (lof_any (-7) _ (by omega) (by omega)).mono ?_
  rintro e w1a ⟨v1a, rfl, hv1a, hb1a⟩
  have V1a := Lib.hid hv1a; have B1a := Lib.hid hb1a; clear hv1a hb1a
  go_wp2_with fail
  refine (lof_any (2) _ (by omega) (by omega)).mono ?_
  rintro e w1b ⟨v1b, rfl, hv1b, hb1b⟩
  have V1b := Lib.hid hv1b; have B1b := Lib.hid hb1b; clear hv1b hb1b
  go_wp2_with fail
  refine (divMod_any _ _ (-7) (2) _ (iv_next V1a.out B1b.out rfl) V1b.out (Sz.mono (I64.sz ⟨by omega, by omega⟩) (by omega)) (Sz.mono (I64.sz ⟨by omega, by omega⟩) (by omega)) (by omega)).mono ?_
  rw [show ((-7) : Int) / (2) = -4 by decide, show ((-7) : Int) % (2) = 1 by decide]
  rintro e w1z ⟨_, _, rfl, hq10, hq11, hb1z⟩
  have B1z := Lib.hid hb1z; clear hb1z
  obtain ⟨A10, n10, c10, rfl, _, _, _⟩ := hq10.form
  have Q10 := Lib.hid hq10
  obtain ⟨A11, n11, c11, rfl, _, _, _⟩ := hq11.form
  have Q11 := Lib.hid hq11
  clear hq10 hq11
  generalize hs10 : decide ((-4 : Int) < 0) = s10 at *
  generalize hs11 : decide ((1 : Int) < 0) = s11 at *
  clear hs10 hs11
  go_wp2_with fail
  obtain ⟨W1, hW1⟩ : ∃ W1, W1 = ((w1z.alloc (Obj.cells #[Value.bool s10, Value.slice A10 n10 c10] 27)).alloc (Obj.cells #[Value.bool s11, Value.slice A11 n11 c11] 27)) := ⟨_, rfl⟩
  rw [← hW1]
  obtain ⟨i10, i11, hh1⟩ := two_box Q10.out Q11.out hW1
  have I10 := Lib.hid i10
  have I11 := Lib.hid i11
  have hl1 : Hid (Below w.heap.size w W1) := by
    have y0 := Below.refl w.heap.size w
    have y1 := link_below y0 B1a.out y0.size rfl rfl rfl rfl
    have y2 := link_below y1 B1b.out y1.size rfl rfl rfl rfl
    have y3 := link_below y2 B1z.out y2.size rfl rfl rfl rfl
    exact link_below y3 hh1 y3.size rfl rfl rfl rfl
  clear hW1 hh1 i10 i11
  generalize hg1 : w1z.heap.size = g1 at *
  clear hg1
  refine (lof_any (7) _ (by omega) (by omega)).mono ?_
  rintro e w2a ⟨v2a, rfl, hv2a, hb2a⟩
  have V2a := Lib.hid hv2a; have B2a := Lib.hid hb2a; clear hv2a hb2a
  go_wp2_with fail
  refine (lof_any (-2) _ (by omega) (by omega)).mono ?_
  rintro e w2b ⟨v2b, rfl, hv2b, hb2b⟩
  have V2b := Lib.hid hv2b; have B2b := Lib.hid hb2b; clear hv2b hb2b
  go_wp2_with fail
  refine (divMod_any _ _ (7) (-2) _ (iv_next V2a.out B2b.out rfl) V2b.out (Sz.mono (I64.sz ⟨by omega, by omega⟩) (by omega)) (Sz.mono (I64.sz ⟨by omega, by omega⟩) (by omega)) (by omega)).mono ?_
  rw [show ((7) : Int) / (-2) = -3 by decide, show ((7) : Int) % (-2) = 1 by decide]
  rintro e w2z ⟨_, _, rfl, hq20, hq21, hb2z⟩
  have B2z := Lib.hid hb2z; clear hb2z
  obtain ⟨A20, n20, c20, rfl, _, _, _⟩ := hq20.form
  have Q20 := Lib.hid hq20
  obtain ⟨A21, n21, c21, rfl, _, _, _⟩ := hq21.form
  have Q21 := Lib.hid hq21
  clear hq20 hq21
  generalize hs20 : decide ((-3 : Int) < 0) = s20 at *
  generalize hs21 : decide ((1 : Int) < 0) = s21 at *
  clear hs20 hs21
  go_wp2_with fail
  obtain ⟨W2, hW2⟩ : ∃ W2, W2 = ((w2z.alloc (Obj.cells #[Value.bool s20, Value.slice A20 n20 c20] 27)).alloc (Obj.cells #[Value.bool s21, Value.slice A21 n21 c21] 27)) := ⟨_, rfl⟩
  rw [← hW2]
  obtain ⟨i20, i21, hh2⟩ := two_box Q20.out Q21.out hW2
  have I20 := Lib.hid i20
  have I21 := Lib.hid i21
  have hl2 : Hid (Below W1.heap.size W1 W2) := by
    have y0 := Below.refl W1.heap.size W1
    have y1 := link_below y0 B2a.out y0.size rfl rfl rfl rfl
    have y2 := link_below y1 B2b.out y1.size rfl rfl rfl rfl
    have y3 := link_below y2 B2z.out y2.size rfl rfl rfl rfl
    exact link_below y3 hh2 y3.size rfl rfl rfl rfl
  clear hW2 hh2 i20 i21
  generalize hg2 : w2z.heap.size = g2 at *
  clear hg2
  refine (lof_any (7) _ (by omega) (by omega)).mono ?_
  rintro e w3a ⟨v3a, rfl, hv3a, hb3a⟩
  have V3a := Lib.hid hv3a; have B3a := Lib.hid hb3a; clear hv3a hb3a
  go_wp2_with fail
  refine (lof_any (0) _ (by omega) (by omega)).mono ?_
  rintro e w3b ⟨v3b, rfl, hv3b, hb3b⟩
  have V3b := Lib.hid hv3b; have B3b := Lib.hid hb3b; clear hv3b hb3b
  go_wp2_with fail
  refine (divMod_zero _ _ (7) _ (iv_next V3a.out B3b.out rfl) V3b.out (Sz.mono (I64.sz ⟨by omega, by omega⟩) (by omega))).mono ?_
  unfold zeroI
  rintro e w3z ⟨rfl, hb3z⟩
  have B3z := Lib.hid hb3z; clear hb3z
  go_wp2_with fail
  obtain ⟨W3, hW3⟩ : ∃ W3, W3 = ((w3z.alloc (Obj.cells #[Value.bool false, Value.slice none 0 0] 27)).alloc (Obj.cells #[Value.bool false, Value.slice none 0 0] 27)) := ⟨_, rfl⟩
  rw [← hW3]
  have hh3 : Below w3z.heap.size w3z W3 := by rw [hW3]; exact ((Below.refl _ _).alloc (by simp) _).alloc (by simp) _
  have hl3 : Hid (Below W2.heap.size W2 W3) := by
    have y0 := Below.refl W2.heap.size W2
    have y1 := link_below y0 B3a.out y0.size rfl rfl rfl rfl
    have y2 := link_below y1 B3b.out y1.size rfl rfl rfl rfl
    have y3 := link_below y2 B3z.out y2.size rfl rfl rfl rfl
    exact link_below y3 hh3 y3.size rfl rfl rfl rfl
  clear hW3 hh3 
  generalize hg3 : w3z.heap.size = g3 at *
  clear hg3
  refine (lof_any (6) _ (by omega) (by omega)).mono ?_
  rintro e w4a ⟨v4a, rfl, hv4a, hb4a⟩
  have V4a := Lib.hid hv4a; have B4a := Lib.hid hb4a; clear hv4a hb4a
  go_wp2_with fail
  refine (lof_any (4) _ (by omega) (by omega)).mono ?_
  rintro e w4b ⟨v4b, rfl, hv4b, hb4b⟩
  have V4b := Lib.hid hv4b; have B4b := Lib.hid hb4b; clear hv4b hb4b
  go_wp2_with fail
  refine (bezout_any _ _ (6) (4) _ (iv_next V4a.out B4b.out rfl) V4b.out (Sz.mono (I64.sz ⟨by omega, by omega⟩) (by omega)) (Sz.mono (I64.sz ⟨by omega, by omega⟩) (by omega)) (by omega)).mono ?_
  rintro e w4z ⟨u4, x4, hd4, hr4⟩
  obtain ⟨rfl, rfl⟩ := bez_64 hd4
  rw [show ((Int.gcd (6) (4) : Nat) : Int) = 2 by decide] at hr4
  obtain ⟨_, _, _, rfl, hq40, hq41, hq42, hb4z⟩ := hr4
  clear hd4
  have B4z := Lib.hid hb4z; clear hb4z
  obtain ⟨A40, n40, c40, rfl, _, _, _⟩ := hq40.form
  have Q40 := Lib.hid hq40
  obtain ⟨A41, n41, c41, rfl, _, _, _⟩ := hq41.form
  have Q41 := Lib.hid hq41
  obtain ⟨A42, n42, c42, rfl, _, _, _⟩ := hq42.form
  have Q42 := Lib.hid hq42
  clear hq40 hq41 hq42
  generalize hs40 : decide ((2 : Int) < 0) = s40 at *
  generalize hs41 : decide ((1 : Int) < 0) = s41 at *
  generalize hs42 : decide ((-1 : Int) < 0) = s42 at *
  clear hs40 hs41 hs42
  go_wp2_with fail
  obtain ⟨W4, hW4⟩ : ∃ W4, W4 = (((w4z.alloc (Obj.cells #[Value.bool s40, Value.slice A40 n40 c40] 27)).alloc (Obj.cells #[Value.bool s41, Value.slice A41 n41 c41] 27)).alloc (Obj.cells #[Value.bool s42, Value.slice A42 n42 c42] 27)) := ⟨_, rfl⟩
  rw [← hW4]
  obtain ⟨i40, i41, i42, hh4⟩ := three_box Q40.out Q41.out Q42.out hW4
  have I40 := Lib.hid i40
  have I41 := Lib.hid i41
  have I42 := Lib.hid i42
  have hl4 : Hid (Below W3.heap.size W3 W4) := by
    have y0 := Below.refl W3.heap.size W3
    have y1 := link_below y0 B4a.out y0.size rfl rfl rfl rfl
    have y2 := link_below y1 B4b.out y1.size rfl rfl rfl rfl
    have y3 := link_below y2 B4z.out y2.size rfl rfl rfl rfl
    exact link_below y3 hh4 y3.size rfl rfl rfl rfl
  clear hW4 hh4 i40 i41 i42
  generalize hg4 : w4z.heap.size = g4 at *
  clear hg4
  refine (lof_any (-5) _ (by omega) (by omega)).mono ?_
  rintro e w5a ⟨v5a, rfl, hv5a, hb5a⟩
  have V5a := Lib.hid hv5a; have B5a := Lib.hid hb5a; clear hv5a hb5a
  go_wp2_with fail
  refine (lof_any (0) _ (by omega) (by omega)).mono ?_
  rintro e w5b ⟨v5b, rfl, hv5b, hb5b⟩
  have V5b := Lib.hid hv5b; have B5b := Lib.hid hb5b; clear hv5b hb5b
  go_wp2_with fail
  refine (bezout_zero _ _ (-5) _ (iv_next V5a.out B5b.out rfl) V5b.out (Sz.mono (I64.sz ⟨by omega, by omega⟩) (by omega))).mono ?_
  rw [show ((Int.natAbs (-5) : Nat) : Int) = 5 by decide, show sg (-5) = -1 by decide]
  rintro e w5z ⟨_, _, _, rfl, hq50, hq51, hq52, hb5z⟩
  have B5z := Lib.hid hb5z; clear hb5z
  obtain ⟨A50, n50, c50, rfl, _, _, _⟩ := hq50.form
  have Q50 := Lib.hid hq50
  obtain ⟨A51, n51, c51, rfl, _, _, _⟩ := hq51.form
  have Q51 := Lib.hid hq51
  obtain ⟨A52, n52, c52, rfl, _, _, _⟩ := hq52.form
  have Q52 := Lib.hid hq52
  clear hq50 hq51 hq52
  generalize hs50 : decide ((5 : Int) < 0) = s50 at *
  generalize hs51 : decide ((-1 : Int) < 0) = s51 at *
  generalize hs52 : decide ((0 : Int) < 0) = s52 at *
  clear hs50 hs51 hs52
  go_wp2_with fail
  obtain ⟨W5, hW5⟩ : ∃ W5, W5 = (((w5z.alloc (Obj.cells #[Value.bool s50, Value.slice A50 n50 c50] 27)).alloc (Obj.cells #[Value.bool s51, Value.slice A51 n51 c51] 27)).alloc (Obj.cells #[Value.bool s52, Value.slice A52 n52 c52] 27)) := ⟨_, rfl⟩
  rw [← hW5]
  obtain ⟨i50, i51, i52, hh5⟩ := three_box Q50.out Q51.out Q52.out hW5
  have I50 := Lib.hid i50
  have I51 := Lib.hid i51
  have I52 := Lib.hid i52
  have hl5 : Hid (Below W4.heap.size W4 W5) := by
    have y0 := Below.refl W4.heap.size W4
    have y1 := link_below y0 B5a.out y0.size rfl rfl rfl rfl
    have y2 := link_below y1 B5b.out y1.size rfl rfl rfl rfl
    have y3 := link_below y2 B5z.out y2.size rfl rfl rfl rfl
    exact link_below y3 hh5 y3.size rfl rfl rfl rfl
  clear hW5 hh5 i50 i51 i52
  generalize hg5 : w5z.heap.size = g5 at *
  clear hg5
  refine (lof_any (0) _ (by omega) (by omega)).mono ?_
  rintro e w6a ⟨v6a, rfl, hv6a, hb6a⟩
  have V6a := Lib.hid hv6a; have B6a := Lib.hid hb6a; clear hv6a hb6a
  go_wp2_with fail
  refine (lof_any (-3) _ (by omega) (by omega)).mono ?_
  rintro e w6b ⟨v6b, rfl, hv6b, hb6b⟩
  have V6b := Lib.hid hv6b; have B6b := Lib.hid hb6b; clear hv6b hb6b
  go_wp2_with fail
  refine (bezout_any _ _ (0) (-3) _ (iv_next V6a.out B6b.out rfl) V6b.out (Sz.mono (I64.sz ⟨by omega, by omega⟩) (by omega)) (Sz.mono (I64.sz ⟨by omega, by omega⟩) (by omega)) (by omega)).mono ?_
  rintro e w6z ⟨u6, x6, hd6, hr6⟩
  obtain ⟨rfl, rfl⟩ := bez_03 hd6
  rw [show ((Int.gcd (0) (-3) : Nat) : Int) = 3 by decide] at hr6
  obtain ⟨_, _, _, rfl, hq60, hq61, hq62, hb6z⟩ := hr6
  clear hd6
  have B6z := Lib.hid hb6z; clear hb6z
  obtain ⟨A60, n60, c60, rfl, _, _, _⟩ := hq60.form
  have Q60 := Lib.hid hq60
  obtain ⟨A61, n61, c61, rfl, _, _, _⟩ := hq61.form
  have Q61 := Lib.hid hq61
  obtain ⟨A62, n62, c62, rfl, _, _, _⟩ := hq62.form
  have Q62 := Lib.hid hq62
  clear hq60 hq61 hq62
  generalize hs60 : decide ((3 : Int) < 0) = s60 at *
  generalize hs61 : decide ((0 : Int) < 0) = s61 at *
  generalize hs62 : decide ((-1 : Int) < 0) = s62 at *
  clear hs60 hs61 hs62
  go_wp2_with fail
  obtain ⟨W6, hW6⟩ : ∃ W6, W6 = (((w6z.alloc (Obj.cells #[Value.bool s60, Value.slice A60 n60 c60] 27)).alloc (Obj.cells #[Value.bool s61, Value.slice A61 n61 c61] 27)).alloc (Obj.cells #[Value.bool s62, Value.slice A62 n62 c62] 27)) := ⟨_, rfl⟩
  rw [← hW6]
  obtain ⟨i60, i61, i62, hh6⟩ := three_box Q60.out Q61.out Q62.out hW6
  have I60 := Lib.hid i60
  have I61 := Lib.hid i61
  have I62 := Lib.hid i62
  have hl6 : Hid (Below W5.heap.size W5 W6) := by
    have y0 := Below.refl W5.heap.size W5
    have y1 := link_below y0 B6a.out y0.size rfl rfl rfl rfl
    have y2 := link_below y1 B6b.out y1.size rfl rfl rfl rfl
    have y3 := link_below y2 B6z.out y2.size rfl rfl rfl rfl
    exact link_below y3 hh6 y3.size rfl rfl rfl rfl
  clear hW6 hh6 i60 i61 i62
  generalize hg6 : w6z.heap.size = g6 at *
  clear hg6
  refine (lof_any (-2) _ (by omega) (by omega)).mono ?_
  rintro e w7a ⟨v7a, rfl, hv7a, hb7a⟩
  have V7a := Lib.hid hv7a; have B7a := Lib.hid hb7a; clear hv7a hb7a
  go_wp2_with fail
  refine (pow_any _ (-2) 33 33 _ V7a.out (Sz.mono (I64.sz ⟨by omega, by omega⟩) (by omega)) rfl (by omega)).mono ?_
  rw [show ((-2 : Int)) ^ 33 = -8589934592 by decide]
  rintro e w7z ⟨_, rfl, hq70, hb7z⟩
  have B7z := Lib.hid hb7z; clear hb7z
  obtain ⟨A70, n70, c70, rfl, _, _, _⟩ := hq70.form
  have Q70 := Lib.hid hq70
  clear hq70
  generalize hs70 : decide ((-8589934592 : Int) < 0) = s70 at *
  clear hs70
  go_wp2_with fail
  obtain ⟨W7, hW7⟩ : ∃ W7, W7 = (w7z.alloc (Obj.cells #[Value.bool s70, Value.slice A70 n70 c70] 27)) := ⟨_, rfl⟩
  rw [← hW7]
  obtain ⟨i70, hh7⟩ := one_box Q70.out hW7
  have I70 := Lib.hid i70
  have hl7 : Hid (Below W6.heap.size W6 W7) := by
    have y0 := Below.refl W6.heap.size W6
    have y1 := link_below y0 B7a.out y0.size rfl rfl rfl rfl
    have y2 := link_below y1 B7z.out y1.size rfl rfl rfl rfl
    exact link_below y2 hh7 y2.size rfl rfl rfl rfl
  clear hW7 hh7 i70
  generalize hg7 : w7z.heap.size = g7 at *
  clear hg7
  refine (lof_any (99) _ (by omega) (by omega)).mono ?_
  rintro e w8a ⟨v8a, rfl, hv8a, hb8a⟩
  have V8a := Lib.hid hv8a; have B8a := Lib.hid hb8a; clear hv8a hb8a
  go_wp2_with fail
  refine (root_int _ 99 2 9 2 _ V8a.out (Sz.mono (I64.sz ⟨by omega, by omega⟩) (by omega)) rfl (by omega) (by omega) (by decide) (by decide)).mono ?_
  rw [show ((9 : Nat) : Int) = 9 by decide]
  rintro e w8z ⟨_, rfl, hq80, hb8z⟩
  have B8z := Lib.hid hb8z; clear hb8z
  obtain ⟨A80, n80, c80, rfl, _, _, _⟩ := hq80.form
  have Q80 := Lib.hid hq80
  clear hq80
  generalize hs80 : decide ((9 : Int) < 0) = s80 at *
  clear hs80
  go_wp2_with fail
  obtain ⟨W8, hW8⟩ : ∃ W8, W8 = (w8z.alloc (Obj.cells #[Value.bool s80, Value.slice A80 n80 c80] 27)) := ⟨_, rfl⟩
  rw [← hW8]
  obtain ⟨i80, hh8⟩ := one_box Q80.out hW8
  have I80 := Lib.hid i80
  have hl8 : Hid (Below W7.heap.size W7 W8) := by
    have y0 := Below.refl W7.heap.size W7
    have y1 := link_below y0 B8a.out y0.size rfl rfl rfl rfl
    have y2 := link_below y1 B8z.out y1.size rfl rfl rfl rfl
    exact link_below y2 hh8 y2.size rfl rfl rfl rfl
  clear hW8 hh8 i80
  generalize hg8 : w8z.heap.size = g8 at *
  clear hg8
  refine (lof_any (2) _ (by omega) (by omega)).mono ?_
  rintro e w9a ⟨v9a, rfl, hv9a, hb9a⟩
  have V9a := Lib.hid hv9a; have B9a := Lib.hid hb9a; clear hv9a hb9a
  go_wp2_with fail
  refine (pow_bad _ 2 (-1) _ V9a.out (by omega) (by omega) (by omega)).mono ?_
  unfold zeroI
  rintro e w9z ⟨rfl, hb9z⟩
  have B9z := Lib.hid hb9z; clear hb9z
  go_wp2_with fail
  obtain ⟨W9, hW9⟩ : ∃ W9, W9 = (w9z.alloc (Obj.cells #[Value.bool false, Value.slice none 0 0] 27)) := ⟨_, rfl⟩
  rw [← hW9]
  have hh9 : Below w9z.heap.size w9z W9 := by rw [hW9]; exact (Below.refl _ _).alloc (by simp) _
  have hl9 : Hid (Below W8.heap.size W8 W9) := by
    have y0 := Below.refl W8.heap.size W8
    have y1 := link_below y0 B9a.out y0.size rfl rfl rfl rfl
    have y2 := link_below y1 B9z.out y1.size rfl rfl rfl rfl
    exact link_below y2 hh9 y2.size rfl rfl rfl rfl
  clear hW9 hh9 
  generalize hg9 : w9z.heap.size = g9 at *
  clear hg9
  refine (lof_any (-1) _ (by omega) (by omega)).mono ?_
  rintro e w10a ⟨v10a, rfl, hv10a, hb10a⟩
  have V10a := Lib.hid hv10a; have B10a := Lib.hid hb10a; clear hv10a hb10a
  go_wp2_with fail
  refine (root_bad _ (-1) 3 _ V10a.out (Sz.mono (I64.sz ⟨by omega, by omega⟩) (by omega)) (by omega)).mono ?_
  unfold zeroI
  rintro e w10z ⟨rfl, hb10z⟩
  have B10z := Lib.hid hb10z; clear hb10z
  go_wp2_with fail
  obtain ⟨W10, hW10⟩ : ∃ W10, W10 = (w10z.alloc (Obj.cells #[Value.bool false, Value.slice none 0 0] 27)) := ⟨_, rfl⟩
  rw [← hW10]
  have hh10 : Below w10z.heap.size w10z W10 := by rw [hW10]; exact (Below.refl _ _).alloc (by simp) _
  have hl10 : Hid (Below W9.heap.size W9 W10) := by
    have y0 := Below.refl W9.heap.size W9
    have y1 := link_below y0 B10a.out y0.size rfl rfl rfl rfl
    have y2 := link_below y1 B10z.out y1.size rfl rfl rfl rfl
    exact link_below y2 hh10 y2.size rfl rfl rfl rfl
  clear hW10 hh10 
  generalize hg10 : w10z.heap.size = g10 at *
  clear hg10
  refine (parse_mz _).mono ?_
  rintro e w11z ⟨rfl, hb11z⟩
  have B11z := Lib.hid hb11z; clear hb11z
  go_wp2_with fail
  obtain ⟨W11, hW11⟩ : ∃ W11, W11 = (w11z.alloc (Obj.cells #[Value.bool false, Value.slice none 0 0] 27)) := ⟨_, rfl⟩
  rw [← hW11]
  have hh11 : Below w11z.heap.size w11z W11 := by rw [hW11]; exact (Below.refl _ _).alloc (by simp) _
  have hl11 : Hid (Below W10.heap.size W10 W11) := by
    have y0 := Below.refl W10.heap.size W10
    have y1 := link_below y0 B11z.out y0.size rfl rfl rfl rfl
    exact link_below y1 hh11 y1.size rfl rfl rfl rfl
  clear hW11 hh11 
  generalize hg11 : w11z.heap.size = g11 at *
  clear hg11
  refine (lof_any (-9) _ (by omega) (by omega)).mono ?_
  rintro e w12a ⟨v12a, rfl, hv12a, hb12a⟩
  have V12a := Lib.hid hv12a; have B12a := Lib.hid hb12a; clear hv12a hb12a
  go_wp2_with fail
  refine (small_any _ (-9) _ V12a.out (Sz.mono (I64.sz ⟨by omega, by omega⟩) (by omega))).mono ?_
  unfold smallV
  rw [if_pos (by omega)]
  rintro e V ⟨rfl, hb12z⟩
  have B12z := Lib.hid hb12z; clear hb12z
  have hl12 : Hid (Below W11.heap.size W11 V) := by
    have y0 := Below.refl W11.heap.size W11
    have y1 := link_below y0 B12a.out y0.size rfl rfl rfl rfl
    have y2 := link_below y1 B12z.out y1.size rfl rfl rfl rfl
    exact y2
  have D11 := Lib.hid hl12.out
  have D10 := Lib.hid (hl11.out.trans (D11.out.mono hl11.out.size))
  have D9 := Lib.hid (hl10.out.trans (D10.out.mono hl10.out.size))
  have D8 := Lib.hid (hl9.out.trans (D9.out.mono hl9.out.size))
  have D7 := Lib.hid (hl8.out.trans (D8.out.mono hl8.out.size))
  have D6 := Lib.hid (hl7.out.trans (D7.out.mono hl7.out.size))
  have D5 := Lib.hid (hl6.out.trans (D6.out.mono hl6.out.size))
  have D4 := Lib.hid (hl5.out.trans (D5.out.mono hl5.out.size))
  have D3 := Lib.hid (hl4.out.trans (D4.out.mono hl4.out.size))
  have D2 := Lib.hid (hl3.out.trans (D3.out.mono hl3.out.size))
  have D1 := Lib.hid (hl2.out.trans (D2.out.mono hl2.out.size))
  have D0 : Hid (Below w.heap.size w V) := hl1.out.trans (D1.out.mono hl1.out.size)
  obtain ⟨X10, p10, q10, bx10, iv10⟩ := (I10.out.next D1.out rfl).iv
  have BX10 := Lib.hid bx10; have IV10 := Lib.hid iv10; clear bx10 iv10 I10
  obtain ⟨X11, p11, q11, bx11, iv11⟩ := (I11.out.next D1.out rfl).iv
  have BX11 := Lib.hid bx11; have IV11 := Lib.hid iv11; clear bx11 iv11 I11
  obtain ⟨X20, p20, q20, bx20, iv20⟩ := (I20.out.next D2.out rfl).iv
  have BX20 := Lib.hid bx20; have IV20 := Lib.hid iv20; clear bx20 iv20 I20
  obtain ⟨X21, p21, q21, bx21, iv21⟩ := (I21.out.next D2.out rfl).iv
  have BX21 := Lib.hid bx21; have IV21 := Lib.hid iv21; clear bx21 iv21 I21
  obtain ⟨X40, p40, q40, bx40, iv40⟩ := (I40.out.next D4.out rfl).iv
  have BX40 := Lib.hid bx40; have IV40 := Lib.hid iv40; clear bx40 iv40 I40
  obtain ⟨X41, p41, q41, bx41, iv41⟩ := (I41.out.next D4.out rfl).iv
  have BX41 := Lib.hid bx41; have IV41 := Lib.hid iv41; clear bx41 iv41 I41
  obtain ⟨X42, p42, q42, bx42, iv42⟩ := (I42.out.next D4.out rfl).iv
  have BX42 := Lib.hid bx42; have IV42 := Lib.hid iv42; clear bx42 iv42 I42
  obtain ⟨X50, p50, q50, bx50, iv50⟩ := (I50.out.next D5.out rfl).iv
  have BX50 := Lib.hid bx50; have IV50 := Lib.hid iv50; clear bx50 iv50 I50
  obtain ⟨X51, p51, q51, bx51, iv51⟩ := (I51.out.next D5.out rfl).iv
  have BX51 := Lib.hid bx51; have IV51 := Lib.hid iv51; clear bx51 iv51 I51
  obtain ⟨X52, p52, q52, bx52, iv52⟩ := (I52.out.next D5.out rfl).iv
  have BX52 := Lib.hid bx52; have IV52 := Lib.hid iv52; clear bx52 iv52 I52
  obtain ⟨X60, p60, q60, bx60, iv60⟩ := (I60.out.next D6.out rfl).iv
  have BX60 := Lib.hid bx60; have IV60 := Lib.hid iv60; clear bx60 iv60 I60
  obtain ⟨X61, p61, q61, bx61, iv61⟩ := (I61.out.next D6.out rfl).iv
  have BX61 := Lib.hid bx61; have IV61 := Lib.hid iv61; clear bx61 iv61 I61
  obtain ⟨X62, p62, q62, bx62, iv62⟩ := (I62.out.next D6.out rfl).iv
  have BX62 := Lib.hid bx62; have IV62 := Lib.hid iv62; clear bx62 iv62 I62
  obtain ⟨X70, p70, q70, bx70, iv70⟩ := (I70.out.next D7.out rfl).iv
  have BX70 := Lib.hid bx70; have IV70 := Lib.hid iv70; clear bx70 iv70 I70
  obtain ⟨X80, p80, q80, bx80, iv80⟩ := (I80.out.next D8.out rfl).iv
  have BX80 := Lib.hid bx80; have IV80 := Lib.hid iv80; clear bx80 iv80 I80
  generalize ht10 : decide ((-4 : Int) < 0) = t10 at *
  clear ht10
  generalize ht11 : decide ((1 : Int) < 0) = t11 at *
  clear ht11
  generalize ht20 : decide ((-3 : Int) < 0) = t20 at *
  clear ht20
  generalize ht40 : decide ((2 : Int) < 0) = t40 at *
  clear ht40
  generalize ht42 : decide ((-1 : Int) < 0) = t42 at *
  clear ht42
  generalize ht50 : decide ((5 : Int) < 0) = t50 at *
  clear ht50
  generalize ht52 : decide ((0 : Int) < 0) = t52 at *
  clear ht52
  generalize ht60 : decide ((3 : Int) < 0) = t60 at *
  clear ht60
  generalize ht70 : decide ((-8589934592 : Int) < 0) = t70 at *
  clear ht70
  generalize ht80 : decide ((9 : Int) < 0) = t80 at *
  clear ht80
  clear hl1 hl2 hl3 hl4 hl5 hl6 hl7 hl8 hl9 hl10 hl11 hl12 D1 D2 D3 D4 D5 D6 D7 D8 D9 D10 D11
  clear B1a B1b B1z B2a B2b B2z B3a B3b B3z B4a B4b B4z B5a B5b B5z B6a B6b B6z B7a B7z B8a B8z B9a B9z B10a B10z B11z B12a B12z
  clear V1a V1b V2a V2b V3a V3b V4a V4b V5a V5b V6a V6b V7a V8a V9a V10a V12a
  clear Q10 Q11 Q20 Q21 Q40 Q41 Q42 Q50 Q51 Q52 Q60 Q61 Q62 Q70 Q80
  go_wp2_with fail
  have hV0 := Below.refl V.heap.size V
  have u1310a := (BX10.out.next hV0 rfl).cell0; have u1310b := (BX10.out.next hV0 rfl).cell1
  have u1311a := (BX11.out.next hV0 rfl).cell0; have u1311b := (BX11.out.next hV0 rfl).cell1
  have u1320a := (BX20.out.next hV0 rfl).cell0; have u1320b := (BX20.out.next hV0 rfl).cell1
  have u1321a := (BX21.out.next hV0 rfl).cell0; have u1321b := (BX21.out.next hV0 rfl).cell1
  have u1340a := (BX40.out.next hV0 rfl).cell0; have u1340b := (BX40.out.next hV0 rfl).cell1
  have u1341a := (BX41.out.next hV0 rfl).cell0; have u1341b := (BX41.out.next hV0 rfl).cell1
  have u1342a := (BX42.out.next hV0 rfl).cell0; have u1342b := (BX42.out.next hV0 rfl).cell1
  have u1350a := (BX50.out.next hV0 rfl).cell0; have u1350b := (BX50.out.next hV0 rfl).cell1
  have u1351a := (BX51.out.next hV0 rfl).cell0; have u1351b := (BX51.out.next hV0 rfl).cell1
  have u1352a := (BX52.out.next hV0 rfl).cell0; have u1352b := (BX52.out.next hV0 rfl).cell1
  have u1360a := (BX60.out.next hV0 rfl).cell0; have u1360b := (BX60.out.next hV0 rfl).cell1
  have u1361a := (BX61.out.next hV0 rfl).cell0; have u1361b := (BX61.out.next hV0 rfl).cell1
  have u1362a := (BX62.out.next hV0 rfl).cell0; have u1362b := (BX62.out.next hV0 rfl).cell1
  go_region_held3 (fun w' => Below V.heap.size V w' ∧ w'.cell? ⟨g1, 0, none⟩ = some (.bool t10) ∧ w'.cell? ⟨g1, 1, none⟩ = some (.slice X10 p10 q10) ∧ w'.cell? ⟨g1 + 1, 0, none⟩ = some (.bool t11) ∧ w'.cell? ⟨g1 + 1, 1, none⟩ = some (.slice X11 p11 q11) ∧ w'.cell? ⟨g2, 0, none⟩ = some (.bool t20) ∧ w'.cell? ⟨g2, 1, none⟩ = some (.slice X20 p20 q20) ∧ w'.cell? ⟨g2 + 1, 0, none⟩ = some (.bool t11) ∧ w'.cell? ⟨g2 + 1, 1, none⟩ = some (.slice X21 p21 q21) ∧ w'.cell? ⟨g4, 0, none⟩ = some (.bool t40) ∧ w'.cell? ⟨g4, 1, none⟩ = some (.slice X40 p40 q40) ∧ w'.cell? ⟨g4 + 1, 0, none⟩ = some (.bool t11) ∧ w'.cell? ⟨g4 + 1, 1, none⟩ = some (.slice X41 p41 q41) ∧ w'.cell? ⟨g4 + 1 + 1, 0, none⟩ = some (.bool t42) ∧ w'.cell? ⟨g4 + 1 + 1, 1, none⟩ = some (.slice X42 p42 q42) ∧ w'.cell? ⟨g5, 0, none⟩ = some (.bool t50) ∧ w'.cell? ⟨g5, 1, none⟩ = some (.slice X50 p50 q50) ∧ w'.cell? ⟨g5 + 1, 0, none⟩ = some (.bool t42) ∧ w'.cell? ⟨g5 + 1, 1, none⟩ = some (.slice X51 p51 q51) ∧ w'.cell? ⟨g5 + 1 + 1, 0, none⟩ = some (.bool t52) ∧ w'.cell? ⟨g5 + 1 + 1, 1, none⟩ = some (.slice X52 p52 q52) ∧ w'.cell? ⟨g6, 0, none⟩ = some (.bool t60) ∧ w'.cell? ⟨g6, 1, none⟩ = some (.slice X60 p60 q60) ∧ w'.cell? ⟨g6 + 1, 0, none⟩ = some (.bool t52) ∧ w'.cell? ⟨g6 + 1, 1, none⟩ = some (.slice X61 p61 q61) ∧ w'.cell? ⟨g6 + 1 + 1, 0, none⟩ = some (.bool t42) ∧ w'.cell? ⟨g6 + 1 + 1, 1, none⟩ = some (.slice X62 p62 q62))
    ((refine (fun hb => ⟨hb, (BX10.out.next hb rfl).cell0, (BX10.out.next hb rfl).cell1, (BX11.out.next hb rfl).cell0, (BX11.out.next hb rfl).cell1, (BX20.out.next hb rfl).cell0, (BX20.out.next hb rfl).cell1, (BX21.out.next hb rfl).cell0, (BX21.out.next hb rfl).cell1, (BX40.out.next hb rfl).cell0, (BX40.out.next hb rfl).cell1, (BX41.out.next hb rfl).cell0, (BX41.out.next hb rfl).cell1, (BX42.out.next hb rfl).cell0, (BX42.out.next hb rfl).cell1, (BX50.out.next hb rfl).cell0, (BX50.out.next hb rfl).cell1, (BX51.out.next hb rfl).cell0, (BX51.out.next hb rfl).cell1, (BX52.out.next hb rfl).cell0, (BX52.out.next hb rfl).cell1, (BX60.out.next hb rfl).cell0, (BX60.out.next hb rfl).cell1, (BX61.out.next hb rfl).cell0, (BX61.out.next hb rfl).cell1, (BX62.out.next hb rfl).cell0, (BX62.out.next hb rfl).cell1⟩) ?_; go_grown))
    (first
      | (go_at_call 19; have hck := hY135; clear hck; refine (same_any _ _ (-1) (-1) _ (by exact iv_next IV62.out hY135 rfl) (by exact HV135.out) (Sz.mono (I64.sz ⟨by omega, by omega⟩) (by omega)) (Sz.mono (I64.sz ⟨by omega, by omega⟩) (by omega))).mono ?_; rintro e y136 ⟨rfl, hbl136⟩
         have hY136 : Below V.heap.size V y136 := by refine Below.trans ?_ (hbl136.mono ?_) <;> go_grown
         have hYs136 := hY136.size)
      | (go_at_call 40; have hck := hY134; clear hck; refine (lof_any (-1) _ (by omega) (by omega)).mono ?_; rintro e y135 ⟨v135, rfl, hv135, hbl135⟩
         have hY135 : Below V.heap.size V y135 := by refine Below.trans ?_ (hbl135.mono ?_) <;> go_grown
         have hYs135 := hY135.size
         have HV135 := Lib.hid hv135; clear hv135)
      | (go_at_call 69; have hck := hY133; clear hck; refine (three_true _ _ _ (0) (3) (0) _ (by first | exact iv_next IV52.out hY133 rfl | exact (iv_next IV52.out hY133 rfl).drew) (by first | exact iv_next IV60.out hY133 rfl | exact (iv_next IV60.out hY133 rfl).drew) (by first | exact iv_next IV61.out hY133 rfl | exact (iv_next IV61.out hY133 rfl).drew) ⟨by omega, by omega⟩ ⟨by omega, by omega⟩ ⟨by omega, by omega⟩).mono ?_; rintro e y134 ⟨rfl, hbl134⟩
         have hY134 : Below V.heap.size V y134 := by refine Below.trans ?_ (hbl134.mono ?_) <;> go_grown
         have hYs134 := hY134.size)
      | (go_at_call 69; have hck := hY132; clear hck; refine (three_true _ _ _ (-1) (5) (-1) _ (by first | exact iv_next IV42.out hY132 rfl | exact (iv_next IV42.out hY132 rfl).drew) (by first | exact iv_next IV50.out hY132 rfl | exact (iv_next IV50.out hY132 rfl).drew) (by first | exact iv_next IV51.out hY132 rfl | exact (iv_next IV51.out hY132 rfl).drew) ⟨by omega, by omega⟩ ⟨by omega, by omega⟩ ⟨by omega, by omega⟩).mono ?_; rintro e y133 ⟨rfl, hbl133⟩
         have hY133 : Below V.heap.size V y133 := by refine Below.trans ?_ (hbl133.mono ?_) <;> go_grown
         have hYs133 := hY133.size)
      | (go_at_call 69; have hck := hY131; clear hck; refine (three_true _ _ _ (1) (2) (1) _ (by first | exact iv_next IV21.out hY131 rfl | exact (iv_next IV21.out hY131 rfl).drew) (by first | exact iv_next IV40.out hY131 rfl | exact (iv_next IV40.out hY131 rfl).drew) (by first | exact iv_next IV41.out hY131 rfl | exact (iv_next IV41.out hY131 rfl).drew) ⟨by omega, by omega⟩ ⟨by omega, by omega⟩ ⟨by omega, by omega⟩).mono ?_; rintro e y132 ⟨rfl, hbl132⟩
         have hY132 : Below V.heap.size V y132 := by refine Below.trans ?_ (hbl132.mono ?_) <;> go_grown
         have hYs132 := hY132.size)
      | (go_at_call 69; have hck := hV0; clear hck; refine (three_true _ _ _ (-4) (1) (-3) _ (by first | exact iv_next IV10.out hV0 rfl | exact (iv_next IV10.out hV0 rfl).drew) (by first | exact iv_next IV11.out hV0 rfl | exact (iv_next IV11.out hV0 rfl).drew) (by first | exact iv_next IV20.out hV0 rfl | exact (iv_next IV20.out hV0 rfl).drew) ⟨by omega, by omega⟩ ⟨by omega, by omega⟩ ⟨by omega, by omega⟩).mono ?_; rintro e y131 ⟨rfl, hbl131⟩
         have hY131 : Below V.heap.size V y131 := by refine Below.trans ?_ (hbl131.mono ?_) <;> go_grown
         have hYs131 := hY131.size))
  clear u1310a u1310b
  clear u1311a u1311b
  clear u1320a u1320b
  clear u1321a u1321b
  clear u1340a u1340b
  clear u1341a u1341b
  clear u1342a u1342b
  clear u1350a u1350b
  clear u1351a u1351b
  clear u1352a u1352b
  clear u1360a u1360b
  clear u1361a u1361b
  clear u1362a u1362b
  go_wp2_with fail
  have u1470a := (BX70.out.next hY136 rfl).cell0; have u1470b := (BX70.out.next hY136 rfl).cell1
  have u1480a := (BX80.out.next hY136 rfl).cell0; have u1480b := (BX80.out.next hY136 rfl).cell1
  go_region_held3 (fun w' => Below V.heap.size V w' ∧ w'.cell? ⟨g7, 0, none⟩ = some (.bool t70) ∧ w'.cell? ⟨g7, 1, none⟩ = some (.slice X70 p70 q70) ∧ w'.cell? ⟨g8, 0, none⟩ = some (.bool t80) ∧ w'.cell? ⟨g8, 1, none⟩ = some (.slice X80 p80 q80))
    ((refine (fun hb => ⟨hb, (BX70.out.next hb rfl).cell0, (BX70.out.next hb rfl).cell1, (BX80.out.next hb rfl).cell0, (BX80.out.next hb rfl).cell1⟩) ?_; go_grown))
    (first
      | (go_at_call 19; have hck := hY143; clear hck; refine (same_any _ _ (9) (9) _ (by exact iv_next IV80.out hY143 rfl) (by exact HV143.out) (Sz.mono (I64.sz ⟨by omega, by omega⟩) (by omega)) (Sz.mono (I64.sz ⟨by omega, by omega⟩) (by omega))).mono ?_; rintro e y144 ⟨rfl, hbl144⟩
         have hY144 : Below V.heap.size V y144 := by refine Below.trans ?_ (hbl144.mono ?_) <;> go_grown
         have hYs144 := hY144.size)
      | (go_at_call 40; have hck := hY142; clear hck; refine (lof_any (9) _ (by omega) (by omega)).mono ?_; rintro e y143 ⟨v143, rfl, hv143, hbl143⟩
         have hY143 : Below V.heap.size V y143 := by refine Below.trans ?_ (hbl143.mono ?_) <;> go_grown
         have hYs143 := hY143.size
         have HV143 := Lib.hid hv143; clear hv143)
      | (go_at_call 19; have hck := hY141; clear hck; refine (same_any _ _ (-8589934592) (-8589934592) _ (by exact iv_next IV70.out hY141 rfl) (by exact HV141.out) (Sz.mono (I64.sz ⟨by omega, by omega⟩) (by omega)) (Sz.mono (I64.sz ⟨by omega, by omega⟩) (by omega))).mono ?_; rintro e y142 ⟨rfl, hbl142⟩
         have hY142 : Below V.heap.size V y142 := by refine Below.trans ?_ (hbl142.mono ?_) <;> go_grown
         have hYs142 := hY142.size)
      | (go_at_call 40; have hck := hY136; clear hck; refine (lof_any (-8589934592) _ (by omega) (by omega)).mono ?_; rintro e y141 ⟨v141, rfl, hv141, hbl141⟩
         have hY141 : Below V.heap.size V y141 := by refine Below.trans ?_ (hbl141.mono ?_) <;> go_grown
         have hYs141 := hY141.size
         have HV141 := Lib.hid hv141; clear hv141))
  clear u1470a u1470b
  clear u1480a u1480b
  go_wp2_with fail
  refine (lof_any (-120) _ (by omega) (by omega)).mono ?_
  rintro e z1 ⟨x1, rfl, hx1, hb1⟩
  go_wp2_with fail
  refine (text_any _ (-120) _ hx1 (Sz.mono (I64.sz ⟨by omega, by omega⟩) (by omega))).mono ?_
  rintro e z2 ⟨rfl, hb2⟩
  rw [txb_120]
  go_wp2_with fail
  refine (lof_any (-8) _ (by omega) (by omega)).mono ?_
  rintro e z3 ⟨x3, rfl, hx3, hb3⟩
  go_wp2_with fail
  refine (bits_int _ (-8) _ hx3 (Sz.mono (I64.sz ⟨by omega, by omega⟩) (by omega))).mono ?_
  rw [bl_8]
  rintro e z4 ⟨rfl, hb4⟩
  go_wp2_with fail
  refine (lof_any (-1) _ (by omega) (by omega)).mono ?_
  rintro e z5 ⟨x5, rfl, hx5, hb5⟩
  go_wp2_with fail
  refine (valid_any _ (-1) _ hx5 (Sz.mono (I64.sz ⟨by omega, by omega⟩) (by omega))).mono ?_
  rintro e z6 ⟨rfl, hb6⟩
  go_wp2_with fail
  refine (valid_bad _).mono ?_
  rintro e z7 ⟨rfl, hb7⟩
  go_wp2_with fail
  refine (lof_any (-4) _ (by omega) (by omega)).mono ?_
  rintro e z8 ⟨x8, rfl, hx8, hb8⟩
  go_wp2_with fail
  refine (sign_any _ (-4) _ hx8 (Sz.mono (I64.sz ⟨by omega, by omega⟩) (by omega))).mono ?_
  rw [show sg (-4) = -1 by decide]
  rintro e z9 ⟨rfl, hb9⟩
  go_wp2_with fail
  refine (lof_any (-4) _ (by omega) (by omega)).mono ?_
  rintro e z10 ⟨x10, rfl, hx10, hb10⟩
  go_wp2_with fail
  refine (lof_any (3) _ (by omega) (by omega)).mono ?_
  rintro e z11 ⟨x11, rfl, hx11, hb11⟩
  go_wp2_with fail
  refine (cmp_any _ _ (-4) 3 _ (iv_next hx10 hb11 rfl) hx11 (Sz.mono (I64.sz ⟨by omega, by omega⟩) (by omega)) (Sz.mono (I64.sz ⟨by omega, by omega⟩) (by omega))).mono ?_
  rw [show cmpZ (-4) 3 = -1 by decide]
  rintro e z12 ⟨rfl, hb12⟩
  go_wp2_with fail
  refine (lof_any (3) _ (by omega) (by omega)).mono ?_
  rintro e z13 ⟨x13, rfl, hx13, hb13⟩
  go_wp2_with fail
  refine (lof_any (5) _ (by omega) (by omega)).mono ?_
  rintro e z14 ⟨x14, rfl, hx14, hb14⟩
  go_wp2_with fail
  refine (sub_any _ _ 3 5 _ (iv_next hx13 hb14 rfl) hx14 (Sz.mono (I64.sz ⟨by omega, by omega⟩) (by omega)) (Sz.mono (I64.sz ⟨by omega, by omega⟩) (by omega))).mono ?_
  rw [show (3 : Int) - 5 = -2 by decide]
  rintro e z15 ⟨x15, rfl, hx15, hb15⟩
  go_wp2_with fail
  refine (lof_any (2) _ (by omega) (by omega)).mono ?_
  rintro e z16 ⟨x16, rfl, hx16, hb16⟩
  go_wp2_with fail
  refine (neg_any _ 2 _ hx16 (Sz.mono (I64.sz ⟨by omega, by omega⟩) (by omega))).mono ?_
  rintro e z17 ⟨x17, rfl, hx17, hb17⟩
  go_wp2_with fail
  refine (same_any _ _ (-2) (-2) _ (iv_next (iv_next hx15 hb16 rfl) hb17 rfl) hx17 (Sz.mono (I64.sz ⟨by omega, by omega⟩) (by omega)) (Sz.mono (I64.sz ⟨by omega, by omega⟩) (by omega))).mono ?_
  rintro e z18 ⟨rfl, hb18⟩
  go_wp2
  go_ret
  refine ⟨by simp, ?_⟩
  have E1 := link_below hY144 hb1 hY144.size rfl rfl rfl rfl
  have E2 := link_below E1 hb2 E1.size rfl rfl rfl rfl
  have E3 := link_below E2 hb3 E2.size rfl rfl rfl rfl
  have E4 := link_below E3 hb4 E3.size rfl rfl rfl rfl
  have E5 := link_below E4 hb5 E4.size rfl rfl rfl rfl
  have E6 := link_below E5 hb6 E5.size rfl rfl rfl rfl
  have E7 := link_below E6 hb7 E6.size rfl rfl rfl rfl
  have E8 := link_below E7 hb8 E7.size rfl rfl rfl rfl
  have E9 := link_below E8 hb9 E8.size rfl rfl rfl rfl
  have E10 := link_below E9 hb10 E9.size rfl rfl rfl rfl
  have E11 := link_below E10 hb11 E10.size rfl rfl rfl rfl
  have E12 := link_below E11 hb12 E11.size rfl rfl rfl rfl
  have E13 := link_below E12 hb13 E12.size rfl rfl rfl rfl
  have E14 := link_below E13 hb14 E13.size rfl rfl rfl rfl
  have E15 := link_below E14 hb15 E14.size rfl rfl rfl rfl
  have E16 := link_below E15 hb16 E15.size rfl rfl rfl rfl
  have E17 := link_below E16 hb17 E16.size rfl rfl rfl rfl
  have E18 := link_below E17 hb18 E17.size rfl rfl rfl rfl
  exact D0.out.trans (E18.mono D0.out.size)
end Go.Proofs.Ytpklphdhigkmmaa
