/-
  The law MonomialLattice.
-/
import Derived.Test.YtchkaaeipafdnaaMonU
namespace Go.Proofs.Ytchkaaeipafdnaa
open Go.RowKit
attribute [local go_sem ↓] Go.wp_at_zero Go.wp_at_succ
theorem lat1 {x y z : Mn} (h : dv x z) : (decide (dv y z) != decide (dv (lcmF x y) z)) = false := by
  have : dv (lcmF x y) z ↔ dv y z := (lcm_le x y z).trans ⟨fun k => k.2, fun k => ⟨h, k⟩⟩
  simp [this]
theorem lat2 {x y z : Mn} (h : ¬ dv x z) : (false != decide (dv (lcmF x y) z)) = false := by
  have : ¬ dv (lcmF x y) z := fun k => h ((lcm_le x y z).1 k).1
  simp [this]
theorem lat3 {x y z : Mn} (h : dv z x) : (decide (dv z y) != decide (dv z (gcdF x y))) = false := by
  have : dv z (gcdF x y) ↔ dv z y := (le_gcd x y z).trans ⟨fun k => k.2, fun k => ⟨h, k⟩⟩
  simp [this]
theorem lat4 {x y z : Mn} (h : ¬ dv z x) : (false != decide (dv z (gcdF x y))) = false := by
  have : ¬ dv z (gcdF x y) := fun k => h ((le_gcd x y z).1 k).1
  simp [this]
theorem sum_lat (x y : Mn) : sumF (lcmF x y) (gcdF x y) = sumF x y := by funext k; unfold sumF lcmF gcdF; split <;> split <;> omega
theorem pr_lat (x y : Mn) : eqa (prF x y) (prF (lcmF x y) (gcdF x y)) = true := by unfold prF; rw [sum_lat]; exact eqa_true.2 fun _ _ => rfl
theorem prE_lat (x y : Mn) : (prE x y == prE (lcmF x y) (gcdF x y)) = true := by unfold prE; rw [sum_lat]; simp
theorem lcm_lat (x y : Mn) : eqa (lcmF (lcmF x y) (gcdF x y)) (lcmF x y) = true := eqa_true.2 fun k _ => by simp only [lcmF, gcdF]; (repeat' split) <;> omega
theorem gcd_lat (x y : Mn) : eqa (gcdF (lcmF x y) (gcdF x y)) (gcdF x y) = true := eqa_true.2 fun k _ => by simp only [lcmF, gcdF]; (repeat' split) <;> omega
theorem va_lcm {x y : Mn} (h : Va x) (k : Va y) : Va (lcmF x y) := fun j hj => by have := h j hj; have := k j hj; unfold lcmF; split <;> omega
theorem va_gcd {x y : Mn} (h : Va x) (k : Va y) : Va (gcdF x y) := fun j hj => by have := h j hj; have := k j hj; unfold gcdF; split <;> omega
set_option maxHeartbeats 4000000 in
set_option maxRecDepth 100000 in
theorem lawLattice_any (x y z : Mn) (w : World) (hx : Va x) (hy : Va y) (hz : Va z) : Calls Try.prog 7 #[.agg #[Value.int IntKind.u16 (x 0), Value.int IntKind.u16 (x 1), Value.int IntKind.u16 (x 2), Value.int IntKind.u16 (x 3), Value.int IntKind.u16 (x 4), Value.int IntKind.u16 (x 5), Value.int IntKind.u16 (x 6), Value.int IntKind.u16 (x 7)], .agg #[Value.int IntKind.u16 (y 0), Value.int IntKind.u16 (y 1), Value.int IntKind.u16 (y 2), Value.int IntKind.u16 (y 3), Value.int IntKind.u16 (y 4), Value.int IntKind.u16 (y 5), Value.int IntKind.u16 (y 6), Value.int IntKind.u16 (y 7)], .agg #[Value.int IntKind.u16 (z 0), Value.int IntKind.u16 (z 1), Value.int IntKind.u16 (z 2), Value.int IntKind.u16 (z 3), Value.int IntKind.u16 (z 4), Value.int IntKind.u16 (z 5), Value.int IntKind.u16 (z 6), Value.int IntKind.u16 (z 7)]] w fun e w' => e = .returned (.bool true) ∧ Below w.heap.size w w' := by
  have V0 := Lib.hid hx; have V1 := Lib.hid hy; have V2 := Lib.hid hz
  clear hx hy hz
  go_enter Try.func7, Try.ntmps7
  go_wp2_with fail
  obtain ⟨W, hW⟩ : ∃ W, W = (((w.alloc (Obj.cells #[Value.int IntKind.u16 (x 0), Value.int IntKind.u16 (x 1), Value.int IntKind.u16 (x 2), Value.int IntKind.u16 (x 3), Value.int IntKind.u16 (x 4), Value.int IntKind.u16 (x 5), Value.int IntKind.u16 (x 6), Value.int IntKind.u16 (x 7)] 24)).alloc (Obj.cells #[Value.int IntKind.u16 (y 0), Value.int IntKind.u16 (y 1), Value.int IntKind.u16 (y 2), Value.int IntKind.u16 (y 3), Value.int IntKind.u16 (y 4), Value.int IntKind.u16 (y 5), Value.int IntKind.u16 (y 6), Value.int IntKind.u16 (y 7)] 24)).alloc (Obj.cells #[Value.int IntKind.u16 (z 0), Value.int IntKind.u16 (z 1), Value.int IntKind.u16 (z 2), Value.int IntKind.u16 (z 3), Value.int IntKind.u16 (z 4), Value.int IntKind.u16 (z 5), Value.int IntKind.u16 (z 6), Value.int IntKind.u16 (z 7)] 24)) := ⟨_, rfl⟩
  rw [← hW]
  have U0 : Hid (RowU W (w.heap.size) x) := by (rw [hW]; have h1 := RowU.new w x; (try simp only [World.size_alloc] at h1); exact ((h1).alloc _).alloc _)
  have U1 : Hid (RowU W (w.heap.size + 1) y) := by (rw [hW]; have h1 := RowU.new (w.alloc (Obj.cells #[Value.int IntKind.u16 (x 0), Value.int IntKind.u16 (x 1), Value.int IntKind.u16 (x 2), Value.int IntKind.u16 (x 3), Value.int IntKind.u16 (x 4), Value.int IntKind.u16 (x 5), Value.int IntKind.u16 (x 6), Value.int IntKind.u16 (x 7)] 24)) y; (try simp only [World.size_alloc] at h1); exact (h1).alloc _)
  have U2 : Hid (RowU W (w.heap.size + 1 + 1) z) := by (rw [hW]; have h1 := RowU.new ((w.alloc (Obj.cells #[Value.int IntKind.u16 (x 0), Value.int IntKind.u16 (x 1), Value.int IntKind.u16 (x 2), Value.int IntKind.u16 (x 3), Value.int IntKind.u16 (x 4), Value.int IntKind.u16 (x 5), Value.int IntKind.u16 (x 6), Value.int IntKind.u16 (x 7)] 24)).alloc (Obj.cells #[Value.int IntKind.u16 (y 0), Value.int IntKind.u16 (y 1), Value.int IntKind.u16 (y 2), Value.int IntKind.u16 (y 3), Value.int IntKind.u16 (y 4), Value.int IntKind.u16 (y 5), Value.int IntKind.u16 (y 6), Value.int IntKind.u16 (y 7)] 24)) z; (try simp only [World.size_alloc] at h1); exact h1)
  have DW : Hid (Below w.heap.size w W) := by rw [hW]; exact (((Below.refl _ _).alloc (by simp <;> omega) _).alloc (by simp <;> omega) _).alloc (by simp <;> omega) _
  clear hW
  refine (sanity_any _).mono ?_
  rintro e y1 ⟨rfl, hb⟩
  replace U0 := Lib.hid (U0.out.below hb U0.out.lt)
  replace U1 := Lib.hid (U1.out.below hb U1.out.lt)
  replace U2 := Lib.hid (U2.out.below hb U2.out.lt)
  replace DW := Lib.hid (below_link DW.out hb DW.out.size)
  clear hb
  go_wp2_with (first | (refine ldr _ _ U0.out rfl rfl rfl ?_) | fail)
  refine (made_any x _ V0.out).mono ?_
  rintro e y2 ⟨rfl, hb⟩
  replace U0 := Lib.hid (U0.out.below hb U0.out.lt)
  replace U1 := Lib.hid (U1.out.below hb U1.out.lt)
  replace U2 := Lib.hid (U2.out.below hb U2.out.lt)
  replace DW := Lib.hid (below_link DW.out hb DW.out.size)
  clear hb
  clear U0
  go_upto_region 5 with fail
  obtain ⟨w3, hW⟩ : ∃ w3, w3 = y2.alloc (Obj.cells #[Value.int IntKind.i64 ((x) 0), Value.int IntKind.i64 ((x) 1), Value.int IntKind.i64 ((x) 2), Value.int IntKind.i64 ((x) 3), Value.int IntKind.i64 ((x) 4), Value.int IntKind.i64 ((x) 5), Value.int IntKind.i64 ((x) 6), Value.int IntKind.i64 ((x) 7)] 27) := ⟨_, rfl⟩
  rw [← hW]
  have A : Hid (Row w3 y2.heap.size (x)) := by rw [hW]; exact Row.new y2 (x)
  have hb : Below y2.heap.size y2 w3 := by rw [hW]; exact (Below.refl _ _).alloc (Nat.le_refl _) _
  replace U1 := Lib.hid (U1.out.below hb U1.out.lt)
  replace U2 := Lib.hid (U2.out.below hb U2.out.lt)
  replace DW := Lib.hid (below_link DW.out hb DW.out.size)
  clear hW hb
  go_wp2_with (first | (refine ldr _ _ U1.out rfl rfl rfl ?_) | fail)
  refine (made_any y _ V1.out).mono ?_
  rintro e y4 ⟨rfl, hb⟩
  replace U1 := Lib.hid (U1.out.below hb U1.out.lt)
  replace U2 := Lib.hid (U2.out.below hb U2.out.lt)
  replace A := Lib.hid (A.out.below hb A.out.lt)
  replace DW := Lib.hid (below_link DW.out hb DW.out.size)
  clear hb
  clear U1
  go_upto_region 6 with fail
  obtain ⟨w5, hW⟩ : ∃ w5, w5 = y4.alloc (Obj.cells #[Value.int IntKind.i64 ((y) 0), Value.int IntKind.i64 ((y) 1), Value.int IntKind.i64 ((y) 2), Value.int IntKind.i64 ((y) 3), Value.int IntKind.i64 ((y) 4), Value.int IntKind.i64 ((y) 5), Value.int IntKind.i64 ((y) 6), Value.int IntKind.i64 ((y) 7)] 27) := ⟨_, rfl⟩
  rw [← hW]
  have B : Hid (Row w5 y4.heap.size (y)) := by rw [hW]; exact Row.new y4 (y)
  have hb : Below y4.heap.size y4 w5 := by rw [hW]; exact (Below.refl _ _).alloc (Nat.le_refl _) _
  replace U2 := Lib.hid (U2.out.below hb U2.out.lt)
  replace A := Lib.hid (A.out.below hb A.out.lt)
  replace DW := Lib.hid (below_link DW.out hb DW.out.size)
  clear hW hb
  go_wp2_with (first | (refine ldr _ _ U2.out rfl rfl rfl ?_) | fail)
  refine (made_any z _ V2.out).mono ?_
  rintro e y6 ⟨rfl, hb⟩
  replace U2 := Lib.hid (U2.out.below hb U2.out.lt)
  replace A := Lib.hid (A.out.below hb A.out.lt)
  replace B := Lib.hid (B.out.below hb B.out.lt)
  replace DW := Lib.hid (below_link DW.out hb DW.out.size)
  clear hb
  clear U2
  go_upto_region 7 with fail
  obtain ⟨w7, hW⟩ : ∃ w7, w7 = y6.alloc (Obj.cells #[Value.int IntKind.i64 ((z) 0), Value.int IntKind.i64 ((z) 1), Value.int IntKind.i64 ((z) 2), Value.int IntKind.i64 ((z) 3), Value.int IntKind.i64 ((z) 4), Value.int IntKind.i64 ((z) 5), Value.int IntKind.i64 ((z) 6), Value.int IntKind.i64 ((z) 7)] 27) := ⟨_, rfl⟩
  rw [← hW]
  have C : Hid (Row w7 y6.heap.size (z)) := by rw [hW]; exact Row.new y6 (z)
  have hb : Below y6.heap.size y6 w7 := by rw [hW]; exact (Below.refl _ _).alloc (Nat.le_refl _) _
  replace A := Lib.hid (A.out.below hb A.out.lt)
  replace B := Lib.hid (B.out.below hb B.out.lt)
  replace DW := Lib.hid (below_link DW.out hb DW.out.size)
  clear hW hb
  go_wp2_with (first | (refine ld _ _ A.out rfl rfl rfl ?_) | (refine ld _ _ B.out rfl rfl rfl ?_) | fail)
  refine (lcm_any x y _).mono ?_
  rintro e y8 ⟨rfl, hb⟩
  replace A := Lib.hid (A.out.below hb A.out.lt)
  replace B := Lib.hid (B.out.below hb B.out.lt)
  replace C := Lib.hid (C.out.below hb C.out.lt)
  replace DW := Lib.hid (below_link DW.out hb DW.out.size)
  clear hb
  go_upto_region 8 with fail
  obtain ⟨w9, hW⟩ : ∃ w9, w9 = y8.alloc (Obj.cells #[Value.int IntKind.i64 ((lcmF x y) 0), Value.int IntKind.i64 ((lcmF x y) 1), Value.int IntKind.i64 ((lcmF x y) 2), Value.int IntKind.i64 ((lcmF x y) 3), Value.int IntKind.i64 ((lcmF x y) 4), Value.int IntKind.i64 ((lcmF x y) 5), Value.int IntKind.i64 ((lcmF x y) 6), Value.int IntKind.i64 ((lcmF x y) 7)] 27) := ⟨_, rfl⟩
  rw [← hW]
  have L : Hid (Row w9 y8.heap.size (lcmF x y)) := by rw [hW]; exact Row.new y8 (lcmF x y)
  have hb : Below y8.heap.size y8 w9 := by rw [hW]; exact (Below.refl _ _).alloc (Nat.le_refl _) _
  replace A := Lib.hid (A.out.below hb A.out.lt)
  replace B := Lib.hid (B.out.below hb B.out.lt)
  replace C := Lib.hid (C.out.below hb C.out.lt)
  replace DW := Lib.hid (below_link DW.out hb DW.out.size)
  clear hW hb
  go_wp2_with (first | (refine ld _ _ A.out rfl rfl rfl ?_) | (refine ld _ _ B.out rfl rfl rfl ?_) | fail)
  refine (gcd_any x y _).mono ?_
  rintro e y10 ⟨rfl, hb⟩
  replace A := Lib.hid (A.out.below hb A.out.lt)
  replace B := Lib.hid (B.out.below hb B.out.lt)
  replace C := Lib.hid (C.out.below hb C.out.lt)
  replace L := Lib.hid (L.out.below hb L.out.lt)
  replace DW := Lib.hid (below_link DW.out hb DW.out.size)
  clear hb
  go_upto_region 9 with fail
  obtain ⟨w11, hW⟩ : ∃ w11, w11 = y10.alloc (Obj.cells #[Value.int IntKind.i64 ((gcdF x y) 0), Value.int IntKind.i64 ((gcdF x y) 1), Value.int IntKind.i64 ((gcdF x y) 2), Value.int IntKind.i64 ((gcdF x y) 3), Value.int IntKind.i64 ((gcdF x y) 4), Value.int IntKind.i64 ((gcdF x y) 5), Value.int IntKind.i64 ((gcdF x y) 6), Value.int IntKind.i64 ((gcdF x y) 7)] 27) := ⟨_, rfl⟩
  rw [← hW]
  have G : Hid (Row w11 y10.heap.size (gcdF x y)) := by rw [hW]; exact Row.new y10 (gcdF x y)
  have hb : Below y10.heap.size y10 w11 := by rw [hW]; exact (Below.refl _ _).alloc (Nat.le_refl _) _
  replace A := Lib.hid (A.out.below hb A.out.lt)
  replace B := Lib.hid (B.out.below hb B.out.lt)
  replace C := Lib.hid (C.out.below hb C.out.lt)
  replace L := Lib.hid (L.out.below hb L.out.lt)
  replace DW := Lib.hid (below_link DW.out hb DW.out.size)
  clear hW hb
  have E1 := Lib.hid (neq_of (lcm_comm x y)); have E2 := Lib.hid (neq_of (gcd_comm x y)); have E3 := Lib.hid (dvt (dv_lcm x y).1); have E4 := Lib.hid (dvt (dv_lcm x y).2); have E5 := Lib.hid (dvt (gcd_dv x y).1); have E6 := Lib.hid (dvt (gcd_dv x y).2)
  refine region_run (fun w' => Below w11.heap.size w11 w') [.is (.agg (cls (lcmF x y))), .is (.agg (cls y)), .is (.agg (cls x)), .is (.agg (cls (lcmF (y) (x)))), .is (Value.bool false), .is (Value.bool false), .is (.agg (cls (gcdF x y))), .is (.agg (cls y)), .is (.agg (cls x)), .is (.agg (cls (gcdF (y) (x)))), .is (Value.bool false), .is (Value.bool false), .is (Value.bool false), .is (.agg (cls x)), .is (.agg (cls (lcmF x y))), .is (Value.bool true), .is (Value.bool false), .is (Value.bool false), .is (Value.bool false), .is (.agg (cls y)), .is (.agg (cls (lcmF x y))), .is (Value.bool true), .is (Value.bool false), .is (Value.bool false), .is (Value.bool false), .is (.agg (cls (gcdF x y))), .is (.agg (cls x)), .is (Value.bool true), .is (Value.bool false), .is (Value.bool false), .is (Value.bool false), .is (.agg (cls (gcdF x y))), .is (.agg (cls y)), .is (Value.bool true), .is (Value.bool false), .is (Value.bool false)] [32, 33, 34, 35, 36, 37, 38, 39, 40, 41, 42, 43, 44, 45, 46, 47, 48, 49, 50, 51, 52, 53, 54, 55, 56, 57, 58, 59, 60, 61, 62, 63, 64, 65, 66, 67] (by kernel_rfl) (by kernel_rfl) (by kernel_rfl) (by rfl) (by kernel_rfl) ((Below.refl _ _).drew) (fun Q' => ?_) (fun K hK wn hs => ?_)
  · refine ⟨?_, ?_, ?_, ?_, ?_, ?_, ?_, ?_, ?_, ?_, ?_, ?_, ?_, ?_, ?_, ?_, ?_, ?_, ?_, ?_, ?_, ?_, ?_, ?_, ?_, ?_, ?_, ?_, ?_, ?_, ?_, ?_, ?_, ?_, ?_, ?_, trivial⟩
    · intro a' w' ha hs hw
      have eo11 : a'.tmps[11]? = some (.pointer (some ⟨y8.heap.size, 0, none⟩)) := (ha.rest 11 (by kernel_rfl)).trans rfl
      exact .inl ⟨wanted_none rfl, wp_val (run_load rfl (ev_tmp eo11) (L.out.below hs L.out.lt)) ⟨_, rfl, rfl, Below.refl _ _, hs⟩⟩
    · intro a' w' ha hs hw
      have eo9 : a'.tmps[9]? = some (.pointer (some ⟨y4.heap.size, 0, none⟩)) := (ha.rest 9 (by kernel_rfl)).trans rfl
      exact .inl ⟨wanted_none rfl, wp_val (run_load rfl (ev_tmp eo9) (B.out.below hs B.out.lt)) ⟨_, rfl, rfl, Below.refl _ _, hs⟩⟩
    · intro a' w' ha hs hw
      have eo8 : a'.tmps[8]? = some (.pointer (some ⟨y2.heap.size, 0, none⟩)) := (ha.rest 8 (by kernel_rfl)).trans rfl
      exact .inl ⟨wanted_none rfl, wp_val (run_load rfl (ev_tmp eo8) (A.out.below hs A.out.lt)) ⟨_, rfl, rfl, Below.refl _ _, hs⟩⟩
    · intro a' w' ha hs hw
      obtain ⟨v1, e1, q1⟩ := hw 1 (by kernel_rfl) _ _ _ rfl rfl rfl
      obtain rfl : v1 = .agg (cls y) := q1
      obtain ⟨v2, e2, q2⟩ := hw 2 (by kernel_rfl) _ _ _ rfl rfl rfl
      obtain rfl : v2 = .agg (cls x) := q2
      exact .inl ⟨wanted_none rfl, call_step rfl Try.func21 (by kernel_rfl) rfl (map_two (ev_tmp e1) (ev_tmp e2)) (lcm_any (y) (x) _) (fun e w2 he => by obtain ⟨rfl, hb⟩ := he; exact ⟨_, rfl, _, rfl, rfl, hb, hs.trans (hb.mono hs.size)⟩)⟩
    · intro a' w' ha hs hw
      obtain ⟨v0, e0, q0⟩ := hw 0 (by kernel_rfl) _ _ _ rfl rfl rfl
      obtain rfl : v0 = .agg (cls (lcmF x y)) := q0
      obtain ⟨v3, e3, q3⟩ := hw 3 (by kernel_rfl) _ _ _ rfl rfl rfl
      obtain rfl : v3 = .agg (cls (lcmF (y) (x))) := q3
      exact .inl ⟨wanted_none rfl, wp_val (run_neq_arr rfl (ev_tmp e0) (ev_tmp e3)) ⟨_, rfl, congrArg Value.bool (E1.out), Below.refl _ _, hs⟩⟩
    · intro a' w' ha hs hw
      obtain ⟨v4, e4, q4⟩ := hw 4 (by kernel_rfl) _ _ _ rfl rfl rfl
      obtain rfl : v4 = Value.bool false := q4
      exact .inl ⟨wanted_none rfl, wp_val (run_move rfl (ev_tmp e4)) ⟨_, rfl, rfl, Below.refl _ _, hs⟩⟩
    · intro a' w' ha hs hw
      obtain ⟨v5, e5, q5⟩ := hw 5 (by kernel_rfl) _ _ _ rfl rfl rfl
      obtain rfl : v5 = Value.bool false := q5
      have eo12 : a'.tmps[12]? = some (.pointer (some ⟨y10.heap.size, 0, none⟩)) := (ha.rest 12 (by kernel_rfl)).trans rfl
      exact .inl ⟨wanted_some rfl rfl rfl e5, wp_val (run_load rfl (ev_tmp eo12) (G.out.below hs G.out.lt)) ⟨_, rfl, rfl, Below.refl _ _, hs⟩⟩
    · intro a' w' ha hs hw
      obtain ⟨v5, e5, q5⟩ := hw 5 (by kernel_rfl) _ _ _ rfl rfl rfl
      obtain rfl : v5 = Value.bool false := q5
      have eo9 : a'.tmps[9]? = some (.pointer (some ⟨y4.heap.size, 0, none⟩)) := (ha.rest 9 (by kernel_rfl)).trans rfl
      exact .inl ⟨wanted_some rfl rfl rfl e5, wp_val (run_load rfl (ev_tmp eo9) (B.out.below hs B.out.lt)) ⟨_, rfl, rfl, Below.refl _ _, hs⟩⟩
    · intro a' w' ha hs hw
      obtain ⟨v5, e5, q5⟩ := hw 5 (by kernel_rfl) _ _ _ rfl rfl rfl
      obtain rfl : v5 = Value.bool false := q5
      have eo8 : a'.tmps[8]? = some (.pointer (some ⟨y2.heap.size, 0, none⟩)) := (ha.rest 8 (by kernel_rfl)).trans rfl
      exact .inl ⟨wanted_some rfl rfl rfl e5, wp_val (run_load rfl (ev_tmp eo8) (A.out.below hs A.out.lt)) ⟨_, rfl, rfl, Below.refl _ _, hs⟩⟩
    · intro a' w' ha hs hw
      obtain ⟨v5, e5, q5⟩ := hw 5 (by kernel_rfl) _ _ _ rfl rfl rfl
      obtain rfl : v5 = Value.bool false := q5
      obtain ⟨v7, e7, q7⟩ := hw 7 (by kernel_rfl) _ _ _ rfl rfl rfl
      obtain rfl : v7 = .agg (cls y) := q7
      obtain ⟨v8, e8, q8⟩ := hw 8 (by kernel_rfl) _ _ _ rfl rfl rfl
      obtain rfl : v8 = .agg (cls x) := q8
      exact .inl ⟨wanted_some rfl rfl rfl e5, call_step rfl Try.func23 (by kernel_rfl) rfl (map_two (ev_tmp e7) (ev_tmp e8)) (gcd_any (y) (x) _) (fun e w2 he => by obtain ⟨rfl, hb⟩ := he; exact ⟨_, rfl, _, rfl, rfl, hb, hs.trans (hb.mono hs.size)⟩)⟩
    · intro a' w' ha hs hw
      obtain ⟨v5, e5, q5⟩ := hw 5 (by kernel_rfl) _ _ _ rfl rfl rfl
      obtain rfl : v5 = Value.bool false := q5
      obtain ⟨v6, e6, q6⟩ := hw 6 (by kernel_rfl) _ _ _ rfl rfl rfl
      obtain rfl : v6 = .agg (cls (gcdF x y)) := q6
      obtain ⟨v9, e9, q9⟩ := hw 9 (by kernel_rfl) _ _ _ rfl rfl rfl
      obtain rfl : v9 = .agg (cls (gcdF (y) (x))) := q9
      exact .inl ⟨wanted_some rfl rfl rfl e5, wp_val (run_neq_arr rfl (ev_tmp e6) (ev_tmp e9)) ⟨_, rfl, congrArg Value.bool (E2.out), Below.refl _ _, hs⟩⟩
    · intro a' w' ha hs hw
      obtain ⟨v5, e5, q5⟩ := hw 5 (by kernel_rfl) _ _ _ rfl rfl rfl
      obtain rfl : v5 = Value.bool false := q5
      obtain ⟨v10, e10, q10⟩ := hw 10 (by kernel_rfl) _ _ _ rfl rfl rfl
      obtain rfl : v10 = Value.bool false := q10
      exact .inl ⟨wanted_none rfl, wp_val (run_pick (b := false) rfl (ev_tmp e5) (ev_tmp e10)) ⟨_, rfl, rfl, Below.refl _ _, hs⟩⟩
    · intro a' w' ha hs hw
      obtain ⟨v11, e11, q11⟩ := hw 11 (by kernel_rfl) _ _ _ rfl rfl rfl
      obtain rfl : v11 = Value.bool false := q11
      exact .inl ⟨wanted_none rfl, wp_val (run_move rfl (ev_tmp e11)) ⟨_, rfl, rfl, Below.refl _ _, hs⟩⟩
    · intro a' w' ha hs hw
      obtain ⟨v12, e12, q12⟩ := hw 12 (by kernel_rfl) _ _ _ rfl rfl rfl
      obtain rfl : v12 = Value.bool false := q12
      have eo8 : a'.tmps[8]? = some (.pointer (some ⟨y2.heap.size, 0, none⟩)) := (ha.rest 8 (by kernel_rfl)).trans rfl
      exact .inl ⟨wanted_some rfl rfl rfl e12, wp_val (run_load rfl (ev_tmp eo8) (A.out.below hs A.out.lt)) ⟨_, rfl, rfl, Below.refl _ _, hs⟩⟩
    · intro a' w' ha hs hw
      obtain ⟨v12, e12, q12⟩ := hw 12 (by kernel_rfl) _ _ _ rfl rfl rfl
      obtain rfl : v12 = Value.bool false := q12
      have eo11 : a'.tmps[11]? = some (.pointer (some ⟨y8.heap.size, 0, none⟩)) := (ha.rest 11 (by kernel_rfl)).trans rfl
      exact .inl ⟨wanted_some rfl rfl rfl e12, wp_val (run_load rfl (ev_tmp eo11) (L.out.below hs L.out.lt)) ⟨_, rfl, rfl, Below.refl _ _, hs⟩⟩
    · intro a' w' ha hs hw
      obtain ⟨v12, e12, q12⟩ := hw 12 (by kernel_rfl) _ _ _ rfl rfl rfl
      obtain rfl : v12 = Value.bool false := q12
      obtain ⟨v13, e13, q13⟩ := hw 13 (by kernel_rfl) _ _ _ rfl rfl rfl
      obtain rfl : v13 = .agg (cls x) := q13
      obtain ⟨v14, e14, q14⟩ := hw 14 (by kernel_rfl) _ _ _ rfl rfl rfl
      obtain rfl : v14 = .agg (cls (lcmF x y)) := q14
      exact .inl ⟨wanted_some rfl rfl rfl e12, call_step rfl Try.func17 (by kernel_rfl) rfl (map_two (ev_tmp e13) (ev_tmp e14)) (divides_is (x) (lcmF x y) (true) _ (E3.out)) (fun e w2 he => by obtain ⟨rfl, hb⟩ := he; exact ⟨_, rfl, _, rfl, rfl, hb, hs.trans (hb.mono hs.size)⟩)⟩
    · intro a' w' ha hs hw
      obtain ⟨v12, e12, q12⟩ := hw 12 (by kernel_rfl) _ _ _ rfl rfl rfl
      obtain rfl : v12 = Value.bool false := q12
      obtain ⟨v15, e15, q15⟩ := hw 15 (by kernel_rfl) _ _ _ rfl rfl rfl
      obtain rfl : v15 = Value.bool true := q15
      exact .inl ⟨wanted_some rfl rfl rfl e12, wp_val (run_not rfl (ev_tmp e15)) ⟨_, rfl, rfl, Below.refl _ _, hs⟩⟩
    · intro a' w' ha hs hw
      obtain ⟨v12, e12, q12⟩ := hw 12 (by kernel_rfl) _ _ _ rfl rfl rfl
      obtain rfl : v12 = Value.bool false := q12
      obtain ⟨v16, e16, q16⟩ := hw 16 (by kernel_rfl) _ _ _ rfl rfl rfl
      obtain rfl : v16 = Value.bool false := q16
      exact .inl ⟨wanted_none rfl, wp_val (run_pick (b := false) rfl (ev_tmp e12) (ev_tmp e16)) ⟨_, rfl, rfl, Below.refl _ _, hs⟩⟩
    · intro a' w' ha hs hw
      obtain ⟨v17, e17, q17⟩ := hw 17 (by kernel_rfl) _ _ _ rfl rfl rfl
      obtain rfl : v17 = Value.bool false := q17
      exact .inl ⟨wanted_none rfl, wp_val (run_move rfl (ev_tmp e17)) ⟨_, rfl, rfl, Below.refl _ _, hs⟩⟩
    · intro a' w' ha hs hw
      obtain ⟨v18, e18, q18⟩ := hw 18 (by kernel_rfl) _ _ _ rfl rfl rfl
      obtain rfl : v18 = Value.bool false := q18
      have eo9 : a'.tmps[9]? = some (.pointer (some ⟨y4.heap.size, 0, none⟩)) := (ha.rest 9 (by kernel_rfl)).trans rfl
      exact .inl ⟨wanted_some rfl rfl rfl e18, wp_val (run_load rfl (ev_tmp eo9) (B.out.below hs B.out.lt)) ⟨_, rfl, rfl, Below.refl _ _, hs⟩⟩
    · intro a' w' ha hs hw
      obtain ⟨v18, e18, q18⟩ := hw 18 (by kernel_rfl) _ _ _ rfl rfl rfl
      obtain rfl : v18 = Value.bool false := q18
      have eo11 : a'.tmps[11]? = some (.pointer (some ⟨y8.heap.size, 0, none⟩)) := (ha.rest 11 (by kernel_rfl)).trans rfl
      exact .inl ⟨wanted_some rfl rfl rfl e18, wp_val (run_load rfl (ev_tmp eo11) (L.out.below hs L.out.lt)) ⟨_, rfl, rfl, Below.refl _ _, hs⟩⟩
    · intro a' w' ha hs hw
      obtain ⟨v18, e18, q18⟩ := hw 18 (by kernel_rfl) _ _ _ rfl rfl rfl
      obtain rfl : v18 = Value.bool false := q18
      obtain ⟨v19, e19, q19⟩ := hw 19 (by kernel_rfl) _ _ _ rfl rfl rfl
      obtain rfl : v19 = .agg (cls y) := q19
      obtain ⟨v20, e20, q20⟩ := hw 20 (by kernel_rfl) _ _ _ rfl rfl rfl
      obtain rfl : v20 = .agg (cls (lcmF x y)) := q20
      exact .inl ⟨wanted_some rfl rfl rfl e18, call_step rfl Try.func17 (by kernel_rfl) rfl (map_two (ev_tmp e19) (ev_tmp e20)) (divides_is (y) (lcmF x y) (true) _ (E4.out)) (fun e w2 he => by obtain ⟨rfl, hb⟩ := he; exact ⟨_, rfl, _, rfl, rfl, hb, hs.trans (hb.mono hs.size)⟩)⟩
    · intro a' w' ha hs hw
      obtain ⟨v18, e18, q18⟩ := hw 18 (by kernel_rfl) _ _ _ rfl rfl rfl
      obtain rfl : v18 = Value.bool false := q18
      obtain ⟨v21, e21, q21⟩ := hw 21 (by kernel_rfl) _ _ _ rfl rfl rfl
      obtain rfl : v21 = Value.bool true := q21
      exact .inl ⟨wanted_some rfl rfl rfl e18, wp_val (run_not rfl (ev_tmp e21)) ⟨_, rfl, rfl, Below.refl _ _, hs⟩⟩
    · intro a' w' ha hs hw
      obtain ⟨v18, e18, q18⟩ := hw 18 (by kernel_rfl) _ _ _ rfl rfl rfl
      obtain rfl : v18 = Value.bool false := q18
      obtain ⟨v22, e22, q22⟩ := hw 22 (by kernel_rfl) _ _ _ rfl rfl rfl
      obtain rfl : v22 = Value.bool false := q22
      exact .inl ⟨wanted_none rfl, wp_val (run_pick (b := false) rfl (ev_tmp e18) (ev_tmp e22)) ⟨_, rfl, rfl, Below.refl _ _, hs⟩⟩
    · intro a' w' ha hs hw
      obtain ⟨v23, e23, q23⟩ := hw 23 (by kernel_rfl) _ _ _ rfl rfl rfl
      obtain rfl : v23 = Value.bool false := q23
      exact .inl ⟨wanted_none rfl, wp_val (run_move rfl (ev_tmp e23)) ⟨_, rfl, rfl, Below.refl _ _, hs⟩⟩
    · intro a' w' ha hs hw
      obtain ⟨v24, e24, q24⟩ := hw 24 (by kernel_rfl) _ _ _ rfl rfl rfl
      obtain rfl : v24 = Value.bool false := q24
      have eo12 : a'.tmps[12]? = some (.pointer (some ⟨y10.heap.size, 0, none⟩)) := (ha.rest 12 (by kernel_rfl)).trans rfl
      exact .inl ⟨wanted_some rfl rfl rfl e24, wp_val (run_load rfl (ev_tmp eo12) (G.out.below hs G.out.lt)) ⟨_, rfl, rfl, Below.refl _ _, hs⟩⟩
    · intro a' w' ha hs hw
      obtain ⟨v24, e24, q24⟩ := hw 24 (by kernel_rfl) _ _ _ rfl rfl rfl
      obtain rfl : v24 = Value.bool false := q24
      have eo8 : a'.tmps[8]? = some (.pointer (some ⟨y2.heap.size, 0, none⟩)) := (ha.rest 8 (by kernel_rfl)).trans rfl
      exact .inl ⟨wanted_some rfl rfl rfl e24, wp_val (run_load rfl (ev_tmp eo8) (A.out.below hs A.out.lt)) ⟨_, rfl, rfl, Below.refl _ _, hs⟩⟩
    · intro a' w' ha hs hw
      obtain ⟨v24, e24, q24⟩ := hw 24 (by kernel_rfl) _ _ _ rfl rfl rfl
      obtain rfl : v24 = Value.bool false := q24
      obtain ⟨v25, e25, q25⟩ := hw 25 (by kernel_rfl) _ _ _ rfl rfl rfl
      obtain rfl : v25 = .agg (cls (gcdF x y)) := q25
      obtain ⟨v26, e26, q26⟩ := hw 26 (by kernel_rfl) _ _ _ rfl rfl rfl
      obtain rfl : v26 = .agg (cls x) := q26
      exact .inl ⟨wanted_some rfl rfl rfl e24, call_step rfl Try.func17 (by kernel_rfl) rfl (map_two (ev_tmp e25) (ev_tmp e26)) (divides_is (gcdF x y) (x) (true) _ (E5.out)) (fun e w2 he => by obtain ⟨rfl, hb⟩ := he; exact ⟨_, rfl, _, rfl, rfl, hb, hs.trans (hb.mono hs.size)⟩)⟩
    · intro a' w' ha hs hw
      obtain ⟨v24, e24, q24⟩ := hw 24 (by kernel_rfl) _ _ _ rfl rfl rfl
      obtain rfl : v24 = Value.bool false := q24
      obtain ⟨v27, e27, q27⟩ := hw 27 (by kernel_rfl) _ _ _ rfl rfl rfl
      obtain rfl : v27 = Value.bool true := q27
      exact .inl ⟨wanted_some rfl rfl rfl e24, wp_val (run_not rfl (ev_tmp e27)) ⟨_, rfl, rfl, Below.refl _ _, hs⟩⟩
    · intro a' w' ha hs hw
      obtain ⟨v24, e24, q24⟩ := hw 24 (by kernel_rfl) _ _ _ rfl rfl rfl
      obtain rfl : v24 = Value.bool false := q24
      obtain ⟨v28, e28, q28⟩ := hw 28 (by kernel_rfl) _ _ _ rfl rfl rfl
      obtain rfl : v28 = Value.bool false := q28
      exact .inl ⟨wanted_none rfl, wp_val (run_pick (b := false) rfl (ev_tmp e24) (ev_tmp e28)) ⟨_, rfl, rfl, Below.refl _ _, hs⟩⟩
    · intro a' w' ha hs hw
      obtain ⟨v29, e29, q29⟩ := hw 29 (by kernel_rfl) _ _ _ rfl rfl rfl
      obtain rfl : v29 = Value.bool false := q29
      exact .inl ⟨wanted_none rfl, wp_val (run_move rfl (ev_tmp e29)) ⟨_, rfl, rfl, Below.refl _ _, hs⟩⟩
    · intro a' w' ha hs hw
      obtain ⟨v30, e30, q30⟩ := hw 30 (by kernel_rfl) _ _ _ rfl rfl rfl
      obtain rfl : v30 = Value.bool false := q30
      have eo12 : a'.tmps[12]? = some (.pointer (some ⟨y10.heap.size, 0, none⟩)) := (ha.rest 12 (by kernel_rfl)).trans rfl
      exact .inl ⟨wanted_some rfl rfl rfl e30, wp_val (run_load rfl (ev_tmp eo12) (G.out.below hs G.out.lt)) ⟨_, rfl, rfl, Below.refl _ _, hs⟩⟩
    · intro a' w' ha hs hw
      obtain ⟨v30, e30, q30⟩ := hw 30 (by kernel_rfl) _ _ _ rfl rfl rfl
      obtain rfl : v30 = Value.bool false := q30
      have eo9 : a'.tmps[9]? = some (.pointer (some ⟨y4.heap.size, 0, none⟩)) := (ha.rest 9 (by kernel_rfl)).trans rfl
      exact .inl ⟨wanted_some rfl rfl rfl e30, wp_val (run_load rfl (ev_tmp eo9) (B.out.below hs B.out.lt)) ⟨_, rfl, rfl, Below.refl _ _, hs⟩⟩
    · intro a' w' ha hs hw
      obtain ⟨v30, e30, q30⟩ := hw 30 (by kernel_rfl) _ _ _ rfl rfl rfl
      obtain rfl : v30 = Value.bool false := q30
      obtain ⟨v31, e31, q31⟩ := hw 31 (by kernel_rfl) _ _ _ rfl rfl rfl
      obtain rfl : v31 = .agg (cls (gcdF x y)) := q31
      obtain ⟨v32, e32, q32⟩ := hw 32 (by kernel_rfl) _ _ _ rfl rfl rfl
      obtain rfl : v32 = .agg (cls y) := q32
      exact .inl ⟨wanted_some rfl rfl rfl e30, call_step rfl Try.func17 (by kernel_rfl) rfl (map_two (ev_tmp e31) (ev_tmp e32)) (divides_is (gcdF x y) (y) (true) _ (E6.out)) (fun e w2 he => by obtain ⟨rfl, hb⟩ := he; exact ⟨_, rfl, _, rfl, rfl, hb, hs.trans (hb.mono hs.size)⟩)⟩
    · intro a' w' ha hs hw
      obtain ⟨v30, e30, q30⟩ := hw 30 (by kernel_rfl) _ _ _ rfl rfl rfl
      obtain rfl : v30 = Value.bool false := q30
      obtain ⟨v33, e33, q33⟩ := hw 33 (by kernel_rfl) _ _ _ rfl rfl rfl
      obtain rfl : v33 = Value.bool true := q33
      exact .inl ⟨wanted_some rfl rfl rfl e30, wp_val (run_not rfl (ev_tmp e33)) ⟨_, rfl, rfl, Below.refl _ _, hs⟩⟩
    · intro a' w' ha hs hw
      obtain ⟨v30, e30, q30⟩ := hw 30 (by kernel_rfl) _ _ _ rfl rfl rfl
      obtain rfl : v30 = Value.bool false := q30
      obtain ⟨v34, e34, q34⟩ := hw 34 (by kernel_rfl) _ _ _ rfl rfl rfl
      obtain rfl : v34 = Value.bool false := q34
      exact .inl ⟨wanted_none rfl, wp_val (run_pick (b := false) rfl (ev_tmp e30) (ev_tmp e34)) ⟨_, rfl, rfl, Below.refl _ _, hs⟩⟩
  simp only [allK]
  simp only [setAll, List.set_cons_succ, List.set_cons_zero]
  refine hK _ _ ?_
  clear hK K
  replace A := Lib.hid (A.out.below hs A.out.lt)
  replace B := Lib.hid (B.out.below hs B.out.lt)
  replace C := Lib.hid (C.out.below hs C.out.lt)
  replace L := Lib.hid (L.out.below hs L.out.lt)
  replace G := Lib.hid (G.out.below hs G.out.lt)
  replace DW := Lib.hid (below_link DW.out hs DW.out.size)
  clear hs
  generalize wn = z12 at *
  clear E1 E2 E3 E4 E5 E6
  by_cases h1 : dv x z
  · have H1 := Lib.hid (decide_eq_true h1)
    have N1 := Lib.hid (show (decide (dv y z) != decide (dv (lcmF x y) z)) = false from lat1 h1)
    clear h1
    by_cases h3 : dv z x
    · have H3 := Lib.hid (decide_eq_true h3)
      have N2 := Lib.hid (show (decide (dv z y) != decide (dv z (gcdF x y))) = false from lat3 h3)
      clear h3
      go_wp2_with fail
      refine region_run (fun w' => Below z12.heap.size z12 w') [.is (.agg (cls x)), .is (.agg (cls z)), .is (Value.bool true), .is (Value.bool true), .is (.agg (cls y)), .is (.agg (cls z)), .is (Value.bool (decide (dv y z))), .is (Value.bool (decide (dv y z))), .is (.agg (cls (lcmF x y))), .is (.agg (cls z)), .is (Value.bool (decide (dv (lcmF x y) z))), .is (Value.bool false), .is (Value.bool false), .is (.agg (cls z)), .is (.agg (cls x)), .is (Value.bool true), .is (Value.bool true), .is (.agg (cls z)), .is (.agg (cls y)), .is (Value.bool (decide (dv z y))), .is (Value.bool (decide (dv z y))), .is (.agg (cls z)), .is (.agg (cls (gcdF x y))), .is (Value.bool (decide (dv z (gcdF x y)))), .is (Value.bool false), .is (Value.bool false)] [68, 69, 70, 71, 72, 73, 74, 75, 76, 77, 78, 79, 80, 81, 82, 83, 84, 85, 86, 87, 88, 89, 90, 91, 92, 93] (by kernel_rfl) (by kernel_rfl) (by kernel_rfl) (by rfl) (by kernel_rfl) ((Below.refl _ _).drew) (fun Q' => ?_) (fun K hK wn hs => ?_)
      · refine ⟨?_, ?_, ?_, ?_, ?_, ?_, ?_, ?_, ?_, ?_, ?_, ?_, ?_, ?_, ?_, ?_, ?_, ?_, ?_, ?_, ?_, ?_, ?_, ?_, ?_, ?_, trivial⟩
        · intro a' w' ha hs hw
          have eo8 : a'.tmps[8]? = some (.pointer (some ⟨y2.heap.size, 0, none⟩)) := (ha.rest 8 (by kernel_rfl)).trans rfl
          exact .inl ⟨wanted_none rfl, wp_val (run_load rfl (ev_tmp eo8) (A.out.below hs A.out.lt)) ⟨_, rfl, rfl, Below.refl _ _, hs⟩⟩
        · intro a' w' ha hs hw
          have eo10 : a'.tmps[10]? = some (.pointer (some ⟨y6.heap.size, 0, none⟩)) := (ha.rest 10 (by kernel_rfl)).trans rfl
          exact .inl ⟨wanted_none rfl, wp_val (run_load rfl (ev_tmp eo10) (C.out.below hs C.out.lt)) ⟨_, rfl, rfl, Below.refl _ _, hs⟩⟩
        · intro a' w' ha hs hw
          obtain ⟨v0, e0, q0⟩ := hw 0 (by kernel_rfl) _ _ _ rfl rfl rfl
          obtain rfl : v0 = .agg (cls x) := q0
          obtain ⟨v1, e1, q1⟩ := hw 1 (by kernel_rfl) _ _ _ rfl rfl rfl
          obtain rfl : v1 = .agg (cls z) := q1
          exact .inl ⟨wanted_none rfl, call_step rfl Try.func17 (by kernel_rfl) rfl (map_two (ev_tmp e0) (ev_tmp e1)) (divides_is (x) (z) (true) _ (H1.out)) (fun e w2 he => by obtain ⟨rfl, hb⟩ := he; exact ⟨_, rfl, _, rfl, rfl, hb, hs.trans (hb.mono hs.size)⟩)⟩
        · intro a' w' ha hs hw
          obtain ⟨v2, e2, q2⟩ := hw 2 (by kernel_rfl) _ _ _ rfl rfl rfl
          obtain rfl : v2 = Value.bool true := q2
          exact .inl ⟨wanted_none rfl, wp_val (run_move rfl (ev_tmp e2)) ⟨_, rfl, rfl, Below.refl _ _, hs⟩⟩
        · intro a' w' ha hs hw
          obtain ⟨v3, e3, q3⟩ := hw 3 (by kernel_rfl) _ _ _ rfl rfl rfl
          obtain rfl : v3 = Value.bool true := q3
          have eo9 : a'.tmps[9]? = some (.pointer (some ⟨y4.heap.size, 0, none⟩)) := (ha.rest 9 (by kernel_rfl)).trans rfl
          exact .inl ⟨wanted_some rfl rfl rfl e3, wp_val (run_load rfl (ev_tmp eo9) (B.out.below hs B.out.lt)) ⟨_, rfl, rfl, Below.refl _ _, hs⟩⟩
        · intro a' w' ha hs hw
          obtain ⟨v3, e3, q3⟩ := hw 3 (by kernel_rfl) _ _ _ rfl rfl rfl
          obtain rfl : v3 = Value.bool true := q3
          have eo10 : a'.tmps[10]? = some (.pointer (some ⟨y6.heap.size, 0, none⟩)) := (ha.rest 10 (by kernel_rfl)).trans rfl
          exact .inl ⟨wanted_some rfl rfl rfl e3, wp_val (run_load rfl (ev_tmp eo10) (C.out.below hs C.out.lt)) ⟨_, rfl, rfl, Below.refl _ _, hs⟩⟩
        · intro a' w' ha hs hw
          obtain ⟨v3, e3, q3⟩ := hw 3 (by kernel_rfl) _ _ _ rfl rfl rfl
          obtain rfl : v3 = Value.bool true := q3
          obtain ⟨v4, e4, q4⟩ := hw 4 (by kernel_rfl) _ _ _ rfl rfl rfl
          obtain rfl : v4 = .agg (cls y) := q4
          obtain ⟨v5, e5, q5⟩ := hw 5 (by kernel_rfl) _ _ _ rfl rfl rfl
          obtain rfl : v5 = .agg (cls z) := q5
          exact .inl ⟨wanted_some rfl rfl rfl e3, call_step rfl Try.func17 (by kernel_rfl) rfl (map_two (ev_tmp e4) (ev_tmp e5)) (divides_is (y) (z) (decide (dv y z)) _ (rfl)) (fun e w2 he => by obtain ⟨rfl, hb⟩ := he; exact ⟨_, rfl, _, rfl, rfl, hb, hs.trans (hb.mono hs.size)⟩)⟩
        · intro a' w' ha hs hw
          obtain ⟨v3, e3, q3⟩ := hw 3 (by kernel_rfl) _ _ _ rfl rfl rfl
          obtain rfl : v3 = Value.bool true := q3
          obtain ⟨v6, e6, q6⟩ := hw 6 (by kernel_rfl) _ _ _ rfl rfl rfl
          obtain rfl : v6 = Value.bool (decide (dv y z)) := q6
          exact .inl ⟨wanted_none rfl, wp_val (run_pick (b := true) rfl (ev_tmp e3) (ev_tmp e6)) ⟨_, rfl, rfl, Below.refl _ _, hs⟩⟩
        · intro a' w' ha hs hw
          have eo11 : a'.tmps[11]? = some (.pointer (some ⟨y8.heap.size, 0, none⟩)) := (ha.rest 11 (by kernel_rfl)).trans rfl
          exact .inl ⟨wanted_none rfl, wp_val (run_load rfl (ev_tmp eo11) (L.out.below hs L.out.lt)) ⟨_, rfl, rfl, Below.refl _ _, hs⟩⟩
        · intro a' w' ha hs hw
          have eo10 : a'.tmps[10]? = some (.pointer (some ⟨y6.heap.size, 0, none⟩)) := (ha.rest 10 (by kernel_rfl)).trans rfl
          exact .inl ⟨wanted_none rfl, wp_val (run_load rfl (ev_tmp eo10) (C.out.below hs C.out.lt)) ⟨_, rfl, rfl, Below.refl _ _, hs⟩⟩
        · intro a' w' ha hs hw
          obtain ⟨v8, e8, q8⟩ := hw 8 (by kernel_rfl) _ _ _ rfl rfl rfl
          obtain rfl : v8 = .agg (cls (lcmF x y)) := q8
          obtain ⟨v9, e9, q9⟩ := hw 9 (by kernel_rfl) _ _ _ rfl rfl rfl
          obtain rfl : v9 = .agg (cls z) := q9
          exact .inl ⟨wanted_none rfl, call_step rfl Try.func17 (by kernel_rfl) rfl (map_two (ev_tmp e8) (ev_tmp e9)) (divides_is (lcmF x y) (z) (decide (dv (lcmF x y) z)) _ (rfl)) (fun e w2 he => by obtain ⟨rfl, hb⟩ := he; exact ⟨_, rfl, _, rfl, rfl, hb, hs.trans (hb.mono hs.size)⟩)⟩
        · intro a' w' ha hs hw
          obtain ⟨v7, e7, q7⟩ := hw 7 (by kernel_rfl) _ _ _ rfl rfl rfl
          obtain rfl : v7 = Value.bool (decide (dv y z)) := q7
          obtain ⟨v10, e10, q10⟩ := hw 10 (by kernel_rfl) _ _ _ rfl rfl rfl
          obtain rfl : v10 = Value.bool (decide (dv (lcmF x y) z)) := q10
          exact .inl ⟨wanted_none rfl, wp_val (run_neq_bool rfl (ev_tmp e7) (ev_tmp e10)) ⟨_, rfl, congrArg Value.bool (N1.out), Below.refl _ _, hs⟩⟩
        · intro a' w' ha hs hw
          obtain ⟨v11, e11, q11⟩ := hw 11 (by kernel_rfl) _ _ _ rfl rfl rfl
          obtain rfl : v11 = Value.bool false := q11
          exact .inl ⟨wanted_none rfl, wp_val (run_move rfl (ev_tmp e11)) ⟨_, rfl, rfl, Below.refl _ _, hs⟩⟩
        · intro a' w' ha hs hw
          obtain ⟨v12, e12, q12⟩ := hw 12 (by kernel_rfl) _ _ _ rfl rfl rfl
          obtain rfl : v12 = Value.bool false := q12
          have eo10 : a'.tmps[10]? = some (.pointer (some ⟨y6.heap.size, 0, none⟩)) := (ha.rest 10 (by kernel_rfl)).trans rfl
          exact .inl ⟨wanted_some rfl rfl rfl e12, wp_val (run_load rfl (ev_tmp eo10) (C.out.below hs C.out.lt)) ⟨_, rfl, rfl, Below.refl _ _, hs⟩⟩
        · intro a' w' ha hs hw
          obtain ⟨v12, e12, q12⟩ := hw 12 (by kernel_rfl) _ _ _ rfl rfl rfl
          obtain rfl : v12 = Value.bool false := q12
          have eo8 : a'.tmps[8]? = some (.pointer (some ⟨y2.heap.size, 0, none⟩)) := (ha.rest 8 (by kernel_rfl)).trans rfl
          exact .inl ⟨wanted_some rfl rfl rfl e12, wp_val (run_load rfl (ev_tmp eo8) (A.out.below hs A.out.lt)) ⟨_, rfl, rfl, Below.refl _ _, hs⟩⟩
        · intro a' w' ha hs hw
          obtain ⟨v12, e12, q12⟩ := hw 12 (by kernel_rfl) _ _ _ rfl rfl rfl
          obtain rfl : v12 = Value.bool false := q12
          obtain ⟨v13, e13, q13⟩ := hw 13 (by kernel_rfl) _ _ _ rfl rfl rfl
          obtain rfl : v13 = .agg (cls z) := q13
          obtain ⟨v14, e14, q14⟩ := hw 14 (by kernel_rfl) _ _ _ rfl rfl rfl
          obtain rfl : v14 = .agg (cls x) := q14
          exact .inl ⟨wanted_some rfl rfl rfl e12, call_step rfl Try.func17 (by kernel_rfl) rfl (map_two (ev_tmp e13) (ev_tmp e14)) (divides_is (z) (x) (true) _ (H3.out)) (fun e w2 he => by obtain ⟨rfl, hb⟩ := he; exact ⟨_, rfl, _, rfl, rfl, hb, hs.trans (hb.mono hs.size)⟩)⟩
        · intro a' w' ha hs hw
          obtain ⟨v12, e12, q12⟩ := hw 12 (by kernel_rfl) _ _ _ rfl rfl rfl
          obtain rfl : v12 = Value.bool false := q12
          obtain ⟨v15, e15, q15⟩ := hw 15 (by kernel_rfl) _ _ _ rfl rfl rfl
          obtain rfl : v15 = Value.bool true := q15
          exact .inl ⟨wanted_some rfl rfl rfl e12, wp_val (run_move rfl (ev_tmp e15)) ⟨_, rfl, rfl, Below.refl _ _, hs⟩⟩
        · intro a' w' ha hs hw
          obtain ⟨v16, e16, q16⟩ := hw 16 (by kernel_rfl) _ _ _ rfl rfl rfl
          obtain rfl : v16 = Value.bool true := q16
          have eo10 : a'.tmps[10]? = some (.pointer (some ⟨y6.heap.size, 0, none⟩)) := (ha.rest 10 (by kernel_rfl)).trans rfl
          exact .inl ⟨wanted_some rfl rfl rfl e16, wp_val (run_load rfl (ev_tmp eo10) (C.out.below hs C.out.lt)) ⟨_, rfl, rfl, Below.refl _ _, hs⟩⟩
        · intro a' w' ha hs hw
          obtain ⟨v16, e16, q16⟩ := hw 16 (by kernel_rfl) _ _ _ rfl rfl rfl
          obtain rfl : v16 = Value.bool true := q16
          have eo9 : a'.tmps[9]? = some (.pointer (some ⟨y4.heap.size, 0, none⟩)) := (ha.rest 9 (by kernel_rfl)).trans rfl
          exact .inl ⟨wanted_some rfl rfl rfl e16, wp_val (run_load rfl (ev_tmp eo9) (B.out.below hs B.out.lt)) ⟨_, rfl, rfl, Below.refl _ _, hs⟩⟩
        · intro a' w' ha hs hw
          obtain ⟨v16, e16, q16⟩ := hw 16 (by kernel_rfl) _ _ _ rfl rfl rfl
          obtain rfl : v16 = Value.bool true := q16
          obtain ⟨v17, e17, q17⟩ := hw 17 (by kernel_rfl) _ _ _ rfl rfl rfl
          obtain rfl : v17 = .agg (cls z) := q17
          obtain ⟨v18, e18, q18⟩ := hw 18 (by kernel_rfl) _ _ _ rfl rfl rfl
          obtain rfl : v18 = .agg (cls y) := q18
          exact .inl ⟨wanted_some rfl rfl rfl e16, call_step rfl Try.func17 (by kernel_rfl) rfl (map_two (ev_tmp e17) (ev_tmp e18)) (divides_is (z) (y) (decide (dv z y)) _ (rfl)) (fun e w2 he => by obtain ⟨rfl, hb⟩ := he; exact ⟨_, rfl, _, rfl, rfl, hb, hs.trans (hb.mono hs.size)⟩)⟩
        · intro a' w' ha hs hw
          obtain ⟨v12, e12, q12⟩ := hw 12 (by kernel_rfl) _ _ _ rfl rfl rfl
          obtain rfl : v12 = Value.bool false := q12
          obtain ⟨v16, e16, q16⟩ := hw 16 (by kernel_rfl) _ _ _ rfl rfl rfl
          obtain rfl : v16 = Value.bool true := q16
          obtain ⟨v19, e19, q19⟩ := hw 19 (by kernel_rfl) _ _ _ rfl rfl rfl
          obtain rfl : v19 = Value.bool (decide (dv z y)) := q19
          exact .inl ⟨wanted_some rfl rfl rfl e12, wp_val (run_pick (b := true) rfl (ev_tmp e16) (ev_tmp e19)) ⟨_, rfl, rfl, Below.refl _ _, hs⟩⟩
        · intro a' w' ha hs hw
          obtain ⟨v12, e12, q12⟩ := hw 12 (by kernel_rfl) _ _ _ rfl rfl rfl
          obtain rfl : v12 = Value.bool false := q12
          have eo10 : a'.tmps[10]? = some (.pointer (some ⟨y6.heap.size, 0, none⟩)) := (ha.rest 10 (by kernel_rfl)).trans rfl
          exact .inl ⟨wanted_some rfl rfl rfl e12, wp_val (run_load rfl (ev_tmp eo10) (C.out.below hs C.out.lt)) ⟨_, rfl, rfl, Below.refl _ _, hs⟩⟩
        · intro a' w' ha hs hw
          obtain ⟨v12, e12, q12⟩ := hw 12 (by kernel_rfl) _ _ _ rfl rfl rfl
          obtain rfl : v12 = Value.bool false := q12
          have eo12 : a'.tmps[12]? = some (.pointer (some ⟨y10.heap.size, 0, none⟩)) := (ha.rest 12 (by kernel_rfl)).trans rfl
          exact .inl ⟨wanted_some rfl rfl rfl e12, wp_val (run_load rfl (ev_tmp eo12) (G.out.below hs G.out.lt)) ⟨_, rfl, rfl, Below.refl _ _, hs⟩⟩
        · intro a' w' ha hs hw
          obtain ⟨v12, e12, q12⟩ := hw 12 (by kernel_rfl) _ _ _ rfl rfl rfl
          obtain rfl : v12 = Value.bool false := q12
          obtain ⟨v21, e21, q21⟩ := hw 21 (by kernel_rfl) _ _ _ rfl rfl rfl
          obtain rfl : v21 = .agg (cls z) := q21
          obtain ⟨v22, e22, q22⟩ := hw 22 (by kernel_rfl) _ _ _ rfl rfl rfl
          obtain rfl : v22 = .agg (cls (gcdF x y)) := q22
          exact .inl ⟨wanted_some rfl rfl rfl e12, call_step rfl Try.func17 (by kernel_rfl) rfl (map_two (ev_tmp e21) (ev_tmp e22)) (divides_is (z) (gcdF x y) (decide (dv z (gcdF x y))) _ (rfl)) (fun e w2 he => by obtain ⟨rfl, hb⟩ := he; exact ⟨_, rfl, _, rfl, rfl, hb, hs.trans (hb.mono hs.size)⟩)⟩
        · intro a' w' ha hs hw
          obtain ⟨v12, e12, q12⟩ := hw 12 (by kernel_rfl) _ _ _ rfl rfl rfl
          obtain rfl : v12 = Value.bool false := q12
          obtain ⟨v20, e20, q20⟩ := hw 20 (by kernel_rfl) _ _ _ rfl rfl rfl
          obtain rfl : v20 = Value.bool (decide (dv z y)) := q20
          obtain ⟨v23, e23, q23⟩ := hw 23 (by kernel_rfl) _ _ _ rfl rfl rfl
          obtain rfl : v23 = Value.bool (decide (dv z (gcdF x y))) := q23
          exact .inl ⟨wanted_some rfl rfl rfl e12, wp_val (run_neq_bool rfl (ev_tmp e20) (ev_tmp e23)) ⟨_, rfl, congrArg Value.bool (N2.out), Below.refl _ _, hs⟩⟩
        · intro a' w' ha hs hw
          obtain ⟨v12, e12, q12⟩ := hw 12 (by kernel_rfl) _ _ _ rfl rfl rfl
          obtain rfl : v12 = Value.bool false := q12
          obtain ⟨v24, e24, q24⟩ := hw 24 (by kernel_rfl) _ _ _ rfl rfl rfl
          obtain rfl : v24 = Value.bool false := q24
          exact .inl ⟨wanted_none rfl, wp_val (run_pick (b := false) rfl (ev_tmp e12) (ev_tmp e24)) ⟨_, rfl, rfl, Below.refl _ _, hs⟩⟩
      simp only [allK]
      simp only [setAll, List.set_cons_succ, List.set_cons_zero]
      refine hK _ _ ?_
      clear hK K
      replace A := Lib.hid (A.out.below hs A.out.lt)
      replace B := Lib.hid (B.out.below hs B.out.lt)
      replace C := Lib.hid (C.out.below hs C.out.lt)
      replace L := Lib.hid (L.out.below hs L.out.lt)
      replace G := Lib.hid (G.out.below hs G.out.lt)
      replace DW := Lib.hid (below_link DW.out hs DW.out.size)
      clear hs
      generalize wn = z13 at *
      go_wp2_with (first | (refine ld _ _ A.out rfl rfl rfl ?_) | (refine ld _ _ B.out rfl rfl rfl ?_) | fail)
      refine (mul_is x y _ V0.out V1.out).mono ?_
      rintro e y14 ⟨rfl, hb⟩
      replace A := Lib.hid (A.out.below hb A.out.lt)
      replace B := Lib.hid (B.out.below hb B.out.lt)
      replace C := Lib.hid (C.out.below hb C.out.lt)
      replace L := Lib.hid (L.out.below hb L.out.lt)
      replace G := Lib.hid (G.out.below hb G.out.lt)
      replace DW := Lib.hid (below_link DW.out hb DW.out.size)
      clear hb
      go_upto_region 14 with fail
      obtain ⟨w15, hW⟩ : ∃ w15, w15 = y14.alloc (Obj.cells #[Value.int IntKind.i64 ((prF x y) 0), Value.int IntKind.i64 ((prF x y) 1), Value.int IntKind.i64 ((prF x y) 2), Value.int IntKind.i64 ((prF x y) 3), Value.int IntKind.i64 ((prF x y) 4), Value.int IntKind.i64 ((prF x y) 5), Value.int IntKind.i64 ((prF x y) 6), Value.int IntKind.i64 ((prF x y) 7)] 27) := ⟨_, rfl⟩
      rw [← hW]
      have P : Hid (Row w15 y14.heap.size (prF x y)) := by rw [hW]; exact Row.new y14 (prF x y)
      have hb : Below y14.heap.size y14 w15 := by rw [hW]; exact (Below.refl _ _).alloc (Nat.le_refl _) _
      replace A := Lib.hid (A.out.below hb A.out.lt)
      replace B := Lib.hid (B.out.below hb B.out.lt)
      replace C := Lib.hid (C.out.below hb C.out.lt)
      replace L := Lib.hid (L.out.below hb L.out.lt)
      replace G := Lib.hid (G.out.below hb G.out.lt)
      replace DW := Lib.hid (below_link DW.out hb DW.out.size)
      clear hW hb
      go_wp2_with (first | (refine ld _ _ L.out rfl rfl rfl ?_) | (refine ld _ _ G.out rfl rfl rfl ?_) | fail)
      refine (mul_is (lcmF x y) (gcdF x y) _ (va_lcm V0.out V1.out) (va_gcd V0.out V1.out)).mono ?_
      rintro e y16 ⟨rfl, hb⟩
      replace A := Lib.hid (A.out.below hb A.out.lt)
      replace B := Lib.hid (B.out.below hb B.out.lt)
      replace C := Lib.hid (C.out.below hb C.out.lt)
      replace L := Lib.hid (L.out.below hb L.out.lt)
      replace G := Lib.hid (G.out.below hb G.out.lt)
      replace P := Lib.hid (P.out.below hb P.out.lt)
      replace DW := Lib.hid (below_link DW.out hb DW.out.size)
      clear hb
      go_upto_region 15 with fail
      obtain ⟨w17, hW⟩ : ∃ w17, w17 = y16.alloc (Obj.cells #[Value.int IntKind.i64 ((prF (lcmF x y) (gcdF x y)) 0), Value.int IntKind.i64 ((prF (lcmF x y) (gcdF x y)) 1), Value.int IntKind.i64 ((prF (lcmF x y) (gcdF x y)) 2), Value.int IntKind.i64 ((prF (lcmF x y) (gcdF x y)) 3), Value.int IntKind.i64 ((prF (lcmF x y) (gcdF x y)) 4), Value.int IntKind.i64 ((prF (lcmF x y) (gcdF x y)) 5), Value.int IntKind.i64 ((prF (lcmF x y) (gcdF x y)) 6), Value.int IntKind.i64 ((prF (lcmF x y) (gcdF x y)) 7)] 27) := ⟨_, rfl⟩
      rw [← hW]
      have Q : Hid (Row w17 y16.heap.size (prF (lcmF x y) (gcdF x y))) := by rw [hW]; exact Row.new y16 (prF (lcmF x y) (gcdF x y))
      have hb : Below y16.heap.size y16 w17 := by rw [hW]; exact (Below.refl _ _).alloc (Nat.le_refl _) _
      replace A := Lib.hid (A.out.below hb A.out.lt)
      replace B := Lib.hid (B.out.below hb B.out.lt)
      replace C := Lib.hid (C.out.below hb C.out.lt)
      replace L := Lib.hid (L.out.below hb L.out.lt)
      replace G := Lib.hid (G.out.below hb G.out.lt)
      replace P := Lib.hid (P.out.below hb P.out.lt)
      replace DW := Lib.hid (below_link DW.out hb DW.out.size)
      clear hW hb
      have E1 := Lib.hid (pr_lat x y); have E2 := Lib.hid (prE_lat x y); have E3 := Lib.hid (lcm_lat x y); have E4 := Lib.hid (gcd_lat x y)
      refine region_run (fun w' => Below w17.heap.size w17 w') [.is (Value.bool true), .is (Value.bool true), .is (.agg (cls (prF x y))), .is (.agg (cls (prF (lcmF x y) (gcdF x y)))), .is (Value.bool true), .is (Value.bool true), .is (Value.bool true), .is (Value.int IntKind.i64 (prE x y)), .is (Value.int IntKind.i64 (prE (lcmF x y) (gcdF x y))), .is (Value.bool true), .is (Value.bool true), .is (Value.bool true), .is (.agg (cls (lcmF x y))), .is (.agg (cls (gcdF x y))), .is (.agg (cls (lcmF (lcmF x y) (gcdF x y)))), .is (.agg (cls (lcmF x y))), .is (Value.bool true), .is (Value.bool true), .is (Value.bool true), .is (.agg (cls (lcmF x y))), .is (.agg (cls (gcdF x y))), .is (.agg (cls (gcdF (lcmF x y) (gcdF x y)))), .is (.agg (cls (gcdF x y))), .is (Value.bool true), .is (Value.bool true), .is (Value.bool true)] [106, 107, 108, 109, 110, 111, 112, 113, 114, 115, 116, 117, 118, 119, 120, 121, 122, 123, 124, 125, 126, 127, 128, 129, 130, 6] (by kernel_rfl) (by kernel_rfl) (by kernel_rfl) (by rfl) (by kernel_rfl) ((Below.refl _ _).drew) (fun Q' => ?_) (fun K hK wn hs => ?_)
      · refine ⟨?_, ?_, ?_, ?_, ?_, ?_, ?_, ?_, ?_, ?_, ?_, ?_, ?_, ?_, ?_, ?_, ?_, ?_, ?_, ?_, ?_, ?_, ?_, ?_, ?_, ?_, trivial⟩
        · intro a' w' ha hs hw
          have eo7 : a'.tmps[7]? = some (Value.bool true) := (ha.rest 7 (by kernel_rfl)).trans rfl
          exact .inl ⟨wanted_none rfl, wp_val (run_move rfl (ev_tmp eo7)) ⟨_, rfl, rfl, Below.refl _ _, hs⟩⟩
        · intro a' w' ha hs hw
          obtain ⟨v0, e0, q0⟩ := hw 0 (by kernel_rfl) _ _ _ rfl rfl rfl
          obtain rfl : v0 = Value.bool true := q0
          exact .inl ⟨wanted_none rfl, wp_val (run_move rfl (ev_tmp e0)) ⟨_, rfl, rfl, Below.refl _ _, hs⟩⟩
        · intro a' w' ha hs hw
          obtain ⟨v1, e1, q1⟩ := hw 1 (by kernel_rfl) _ _ _ rfl rfl rfl
          obtain rfl : v1 = Value.bool true := q1
          have eo13 : a'.tmps[13]? = some (.pointer (some ⟨y14.heap.size, 0, none⟩)) := (ha.rest 13 (by kernel_rfl)).trans rfl
          exact .inl ⟨wanted_some rfl rfl rfl e1, wp_val (run_load rfl (ev_tmp eo13) (P.out.below hs P.out.lt)) ⟨_, rfl, rfl, Below.refl _ _, hs⟩⟩
        · intro a' w' ha hs hw
          obtain ⟨v1, e1, q1⟩ := hw 1 (by kernel_rfl) _ _ _ rfl rfl rfl
          obtain rfl : v1 = Value.bool true := q1
          have eo15 : a'.tmps[15]? = some (.pointer (some ⟨y16.heap.size, 0, none⟩)) := (ha.rest 15 (by kernel_rfl)).trans rfl
          exact .inl ⟨wanted_some rfl rfl rfl e1, wp_val (run_load rfl (ev_tmp eo15) (Q.out.below hs Q.out.lt)) ⟨_, rfl, rfl, Below.refl _ _, hs⟩⟩
        · intro a' w' ha hs hw
          obtain ⟨v1, e1, q1⟩ := hw 1 (by kernel_rfl) _ _ _ rfl rfl rfl
          obtain rfl : v1 = Value.bool true := q1
          obtain ⟨v2, e2, q2⟩ := hw 2 (by kernel_rfl) _ _ _ rfl rfl rfl
          obtain rfl : v2 = .agg (cls (prF x y)) := q2
          obtain ⟨v3, e3, q3⟩ := hw 3 (by kernel_rfl) _ _ _ rfl rfl rfl
          obtain rfl : v3 = .agg (cls (prF (lcmF x y) (gcdF x y))) := q3
          exact .inl ⟨wanted_some rfl rfl rfl e1, wp_val (run_eql_arr rfl (ev_tmp e2) (ev_tmp e3)) ⟨_, rfl, congrArg Value.bool (E1.out), Below.refl _ _, hs⟩⟩
        · intro a' w' ha hs hw
          obtain ⟨v1, e1, q1⟩ := hw 1 (by kernel_rfl) _ _ _ rfl rfl rfl
          obtain rfl : v1 = Value.bool true := q1
          obtain ⟨v4, e4, q4⟩ := hw 4 (by kernel_rfl) _ _ _ rfl rfl rfl
          obtain rfl : v4 = Value.bool true := q4
          exact .inl ⟨wanted_none rfl, wp_val (run_pick (b := true) rfl (ev_tmp e1) (ev_tmp e4)) ⟨_, rfl, rfl, Below.refl _ _, hs⟩⟩
        · intro a' w' ha hs hw
          obtain ⟨v5, e5, q5⟩ := hw 5 (by kernel_rfl) _ _ _ rfl rfl rfl
          obtain rfl : v5 = Value.bool true := q5
          exact .inl ⟨wanted_none rfl, wp_val (run_move rfl (ev_tmp e5)) ⟨_, rfl, rfl, Below.refl _ _, hs⟩⟩
        · intro a' w' ha hs hw
          obtain ⟨v6, e6, q6⟩ := hw 6 (by kernel_rfl) _ _ _ rfl rfl rfl
          obtain rfl : v6 = Value.bool true := q6
          have eo14 : a'.tmps[14]? = some (Value.int IntKind.i64 (prE x y)) := (ha.rest 14 (by kernel_rfl)).trans rfl
          exact .inl ⟨wanted_some rfl rfl rfl e6, wp_val (run_move rfl (ev_tmp eo14)) ⟨_, rfl, rfl, Below.refl _ _, hs⟩⟩
        · intro a' w' ha hs hw
          obtain ⟨v6, e6, q6⟩ := hw 6 (by kernel_rfl) _ _ _ rfl rfl rfl
          obtain rfl : v6 = Value.bool true := q6
          have eo16 : a'.tmps[16]? = some (Value.int IntKind.i64 (prE (lcmF x y) (gcdF x y))) := (ha.rest 16 (by kernel_rfl)).trans rfl
          exact .inl ⟨wanted_some rfl rfl rfl e6, wp_val (run_move rfl (ev_tmp eo16)) ⟨_, rfl, rfl, Below.refl _ _, hs⟩⟩
        · intro a' w' ha hs hw
          obtain ⟨v6, e6, q6⟩ := hw 6 (by kernel_rfl) _ _ _ rfl rfl rfl
          obtain rfl : v6 = Value.bool true := q6
          obtain ⟨v7, e7, q7⟩ := hw 7 (by kernel_rfl) _ _ _ rfl rfl rfl
          obtain rfl : v7 = Value.int IntKind.i64 (prE x y) := q7
          obtain ⟨v8, e8, q8⟩ := hw 8 (by kernel_rfl) _ _ _ rfl rfl rfl
          obtain rfl : v8 = Value.int IntKind.i64 (prE (lcmF x y) (gcdF x y)) := q8
          exact .inl ⟨wanted_some rfl rfl rfl e6, wp_val (run_eql_int rfl (ev_tmp e7) (ev_tmp e8)) ⟨_, rfl, congrArg Value.bool (E2.out), Below.refl _ _, hs⟩⟩
        · intro a' w' ha hs hw
          obtain ⟨v6, e6, q6⟩ := hw 6 (by kernel_rfl) _ _ _ rfl rfl rfl
          obtain rfl : v6 = Value.bool true := q6
          obtain ⟨v9, e9, q9⟩ := hw 9 (by kernel_rfl) _ _ _ rfl rfl rfl
          obtain rfl : v9 = Value.bool true := q9
          exact .inl ⟨wanted_none rfl, wp_val (run_pick (b := true) rfl (ev_tmp e6) (ev_tmp e9)) ⟨_, rfl, rfl, Below.refl _ _, hs⟩⟩
        · intro a' w' ha hs hw
          obtain ⟨v10, e10, q10⟩ := hw 10 (by kernel_rfl) _ _ _ rfl rfl rfl
          obtain rfl : v10 = Value.bool true := q10
          exact .inl ⟨wanted_none rfl, wp_val (run_move rfl (ev_tmp e10)) ⟨_, rfl, rfl, Below.refl _ _, hs⟩⟩
        · intro a' w' ha hs hw
          obtain ⟨v11, e11, q11⟩ := hw 11 (by kernel_rfl) _ _ _ rfl rfl rfl
          obtain rfl : v11 = Value.bool true := q11
          have eo11 : a'.tmps[11]? = some (.pointer (some ⟨y8.heap.size, 0, none⟩)) := (ha.rest 11 (by kernel_rfl)).trans rfl
          exact .inl ⟨wanted_some rfl rfl rfl e11, wp_val (run_load rfl (ev_tmp eo11) (L.out.below hs L.out.lt)) ⟨_, rfl, rfl, Below.refl _ _, hs⟩⟩
        · intro a' w' ha hs hw
          obtain ⟨v11, e11, q11⟩ := hw 11 (by kernel_rfl) _ _ _ rfl rfl rfl
          obtain rfl : v11 = Value.bool true := q11
          have eo12 : a'.tmps[12]? = some (.pointer (some ⟨y10.heap.size, 0, none⟩)) := (ha.rest 12 (by kernel_rfl)).trans rfl
          exact .inl ⟨wanted_some rfl rfl rfl e11, wp_val (run_load rfl (ev_tmp eo12) (G.out.below hs G.out.lt)) ⟨_, rfl, rfl, Below.refl _ _, hs⟩⟩
        · intro a' w' ha hs hw
          obtain ⟨v11, e11, q11⟩ := hw 11 (by kernel_rfl) _ _ _ rfl rfl rfl
          obtain rfl : v11 = Value.bool true := q11
          obtain ⟨v12, e12, q12⟩ := hw 12 (by kernel_rfl) _ _ _ rfl rfl rfl
          obtain rfl : v12 = .agg (cls (lcmF x y)) := q12
          obtain ⟨v13, e13, q13⟩ := hw 13 (by kernel_rfl) _ _ _ rfl rfl rfl
          obtain rfl : v13 = .agg (cls (gcdF x y)) := q13
          exact .inl ⟨wanted_some rfl rfl rfl e11, call_step rfl Try.func21 (by kernel_rfl) rfl (map_two (ev_tmp e12) (ev_tmp e13)) (lcm_any (lcmF x y) (gcdF x y) _) (fun e w2 he => by obtain ⟨rfl, hb⟩ := he; exact ⟨_, rfl, _, rfl, rfl, hb, hs.trans (hb.mono hs.size)⟩)⟩
        · intro a' w' ha hs hw
          obtain ⟨v11, e11, q11⟩ := hw 11 (by kernel_rfl) _ _ _ rfl rfl rfl
          obtain rfl : v11 = Value.bool true := q11
          have eo11 : a'.tmps[11]? = some (.pointer (some ⟨y8.heap.size, 0, none⟩)) := (ha.rest 11 (by kernel_rfl)).trans rfl
          exact .inl ⟨wanted_some rfl rfl rfl e11, wp_val (run_load rfl (ev_tmp eo11) (L.out.below hs L.out.lt)) ⟨_, rfl, rfl, Below.refl _ _, hs⟩⟩
        · intro a' w' ha hs hw
          obtain ⟨v11, e11, q11⟩ := hw 11 (by kernel_rfl) _ _ _ rfl rfl rfl
          obtain rfl : v11 = Value.bool true := q11
          obtain ⟨v14, e14, q14⟩ := hw 14 (by kernel_rfl) _ _ _ rfl rfl rfl
          obtain rfl : v14 = .agg (cls (lcmF (lcmF x y) (gcdF x y))) := q14
          obtain ⟨v15, e15, q15⟩ := hw 15 (by kernel_rfl) _ _ _ rfl rfl rfl
          obtain rfl : v15 = .agg (cls (lcmF x y)) := q15
          exact .inl ⟨wanted_some rfl rfl rfl e11, wp_val (run_eql_arr rfl (ev_tmp e14) (ev_tmp e15)) ⟨_, rfl, congrArg Value.bool (E3.out), Below.refl _ _, hs⟩⟩
        · intro a' w' ha hs hw
          obtain ⟨v11, e11, q11⟩ := hw 11 (by kernel_rfl) _ _ _ rfl rfl rfl
          obtain rfl : v11 = Value.bool true := q11
          obtain ⟨v16, e16, q16⟩ := hw 16 (by kernel_rfl) _ _ _ rfl rfl rfl
          obtain rfl : v16 = Value.bool true := q16
          exact .inl ⟨wanted_none rfl, wp_val (run_pick (b := true) rfl (ev_tmp e11) (ev_tmp e16)) ⟨_, rfl, rfl, Below.refl _ _, hs⟩⟩
        · intro a' w' ha hs hw
          obtain ⟨v17, e17, q17⟩ := hw 17 (by kernel_rfl) _ _ _ rfl rfl rfl
          obtain rfl : v17 = Value.bool true := q17
          exact .inl ⟨wanted_none rfl, wp_val (run_move rfl (ev_tmp e17)) ⟨_, rfl, rfl, Below.refl _ _, hs⟩⟩
        · intro a' w' ha hs hw
          obtain ⟨v18, e18, q18⟩ := hw 18 (by kernel_rfl) _ _ _ rfl rfl rfl
          obtain rfl : v18 = Value.bool true := q18
          have eo11 : a'.tmps[11]? = some (.pointer (some ⟨y8.heap.size, 0, none⟩)) := (ha.rest 11 (by kernel_rfl)).trans rfl
          exact .inl ⟨wanted_some rfl rfl rfl e18, wp_val (run_load rfl (ev_tmp eo11) (L.out.below hs L.out.lt)) ⟨_, rfl, rfl, Below.refl _ _, hs⟩⟩
        · intro a' w' ha hs hw
          obtain ⟨v18, e18, q18⟩ := hw 18 (by kernel_rfl) _ _ _ rfl rfl rfl
          obtain rfl : v18 = Value.bool true := q18
          have eo12 : a'.tmps[12]? = some (.pointer (some ⟨y10.heap.size, 0, none⟩)) := (ha.rest 12 (by kernel_rfl)).trans rfl
          exact .inl ⟨wanted_some rfl rfl rfl e18, wp_val (run_load rfl (ev_tmp eo12) (G.out.below hs G.out.lt)) ⟨_, rfl, rfl, Below.refl _ _, hs⟩⟩
        · intro a' w' ha hs hw
          obtain ⟨v18, e18, q18⟩ := hw 18 (by kernel_rfl) _ _ _ rfl rfl rfl
          obtain rfl : v18 = Value.bool true := q18
          obtain ⟨v19, e19, q19⟩ := hw 19 (by kernel_rfl) _ _ _ rfl rfl rfl
          obtain rfl : v19 = .agg (cls (lcmF x y)) := q19
          obtain ⟨v20, e20, q20⟩ := hw 20 (by kernel_rfl) _ _ _ rfl rfl rfl
          obtain rfl : v20 = .agg (cls (gcdF x y)) := q20
          exact .inl ⟨wanted_some rfl rfl rfl e18, call_step rfl Try.func23 (by kernel_rfl) rfl (map_two (ev_tmp e19) (ev_tmp e20)) (gcd_any (lcmF x y) (gcdF x y) _) (fun e w2 he => by obtain ⟨rfl, hb⟩ := he; exact ⟨_, rfl, _, rfl, rfl, hb, hs.trans (hb.mono hs.size)⟩)⟩
        · intro a' w' ha hs hw
          obtain ⟨v18, e18, q18⟩ := hw 18 (by kernel_rfl) _ _ _ rfl rfl rfl
          obtain rfl : v18 = Value.bool true := q18
          have eo12 : a'.tmps[12]? = some (.pointer (some ⟨y10.heap.size, 0, none⟩)) := (ha.rest 12 (by kernel_rfl)).trans rfl
          exact .inl ⟨wanted_some rfl rfl rfl e18, wp_val (run_load rfl (ev_tmp eo12) (G.out.below hs G.out.lt)) ⟨_, rfl, rfl, Below.refl _ _, hs⟩⟩
        · intro a' w' ha hs hw
          obtain ⟨v18, e18, q18⟩ := hw 18 (by kernel_rfl) _ _ _ rfl rfl rfl
          obtain rfl : v18 = Value.bool true := q18
          obtain ⟨v21, e21, q21⟩ := hw 21 (by kernel_rfl) _ _ _ rfl rfl rfl
          obtain rfl : v21 = .agg (cls (gcdF (lcmF x y) (gcdF x y))) := q21
          obtain ⟨v22, e22, q22⟩ := hw 22 (by kernel_rfl) _ _ _ rfl rfl rfl
          obtain rfl : v22 = .agg (cls (gcdF x y)) := q22
          exact .inl ⟨wanted_some rfl rfl rfl e18, wp_val (run_eql_arr rfl (ev_tmp e21) (ev_tmp e22)) ⟨_, rfl, congrArg Value.bool (E4.out), Below.refl _ _, hs⟩⟩
        · intro a' w' ha hs hw
          obtain ⟨v18, e18, q18⟩ := hw 18 (by kernel_rfl) _ _ _ rfl rfl rfl
          obtain rfl : v18 = Value.bool true := q18
          obtain ⟨v23, e23, q23⟩ := hw 23 (by kernel_rfl) _ _ _ rfl rfl rfl
          obtain rfl : v23 = Value.bool true := q23
          exact .inl ⟨wanted_none rfl, wp_val (run_pick (b := true) rfl (ev_tmp e18) (ev_tmp e23)) ⟨_, rfl, rfl, Below.refl _ _, hs⟩⟩
        · intro a' w' ha hs hw
          obtain ⟨v24, e24, q24⟩ := hw 24 (by kernel_rfl) _ _ _ rfl rfl rfl
          obtain rfl : v24 = Value.bool true := q24
          exact .inl ⟨wanted_none rfl, wp_val (run_assign rfl (ev_tmp e24)) ⟨_, rfl, rfl, Below.refl _ _, hs⟩⟩
      simp only [allK]
      simp only [setAll, List.set_cons_succ, List.set_cons_zero]
      refine hK _ _ ?_
      clear hK K
      replace A := Lib.hid (A.out.below hs A.out.lt)
      replace B := Lib.hid (B.out.below hs B.out.lt)
      replace C := Lib.hid (C.out.below hs C.out.lt)
      replace L := Lib.hid (L.out.below hs L.out.lt)
      replace G := Lib.hid (G.out.below hs G.out.lt)
      replace P := Lib.hid (P.out.below hs P.out.lt)
      replace Q := Lib.hid (Q.out.below hs Q.out.lt)
      replace DW := Lib.hid (below_link DW.out hs DW.out.size)
      clear hs
      generalize wn = z18 at *
      go_wp2_with fail
      go_ret
      exact ⟨rfl, DW.out⟩
    · have H3 := Lib.hid (decide_eq_false h3)
      have N2 := Lib.hid (show (false != decide (dv z (gcdF x y))) = false from lat4 h3)
      clear h3
      go_wp2_with fail
      refine region_run (fun w' => Below z12.heap.size z12 w') [.is (.agg (cls x)), .is (.agg (cls z)), .is (Value.bool true), .is (Value.bool true), .is (.agg (cls y)), .is (.agg (cls z)), .is (Value.bool (decide (dv y z))), .is (Value.bool (decide (dv y z))), .is (.agg (cls (lcmF x y))), .is (.agg (cls z)), .is (Value.bool (decide (dv (lcmF x y) z))), .is (Value.bool false), .is (Value.bool false), .is (.agg (cls z)), .is (.agg (cls x)), .is (Value.bool false), .is (Value.bool false), .is undef, .is undef, .is undef, .is (Value.bool false), .is (.agg (cls z)), .is (.agg (cls (gcdF x y))), .is (Value.bool (decide (dv z (gcdF x y)))), .is (Value.bool false), .is (Value.bool false)] [68, 69, 70, 71, 72, 73, 74, 75, 76, 77, 78, 79, 80, 81, 82, 83, 84, 85, 86, 87, 88, 89, 90, 91, 92, 93] (by kernel_rfl) (by kernel_rfl) (by kernel_rfl) (by rfl) (by kernel_rfl) ((Below.refl _ _).drew) (fun Q' => ?_) (fun K hK wn hs => ?_)
      · refine ⟨?_, ?_, ?_, ?_, ?_, ?_, ?_, ?_, ?_, ?_, ?_, ?_, ?_, ?_, ?_, ?_, ?_, ?_, ?_, ?_, ?_, ?_, ?_, ?_, ?_, ?_, trivial⟩
        · intro a' w' ha hs hw
          have eo8 : a'.tmps[8]? = some (.pointer (some ⟨y2.heap.size, 0, none⟩)) := (ha.rest 8 (by kernel_rfl)).trans rfl
          exact .inl ⟨wanted_none rfl, wp_val (run_load rfl (ev_tmp eo8) (A.out.below hs A.out.lt)) ⟨_, rfl, rfl, Below.refl _ _, hs⟩⟩
        · intro a' w' ha hs hw
          have eo10 : a'.tmps[10]? = some (.pointer (some ⟨y6.heap.size, 0, none⟩)) := (ha.rest 10 (by kernel_rfl)).trans rfl
          exact .inl ⟨wanted_none rfl, wp_val (run_load rfl (ev_tmp eo10) (C.out.below hs C.out.lt)) ⟨_, rfl, rfl, Below.refl _ _, hs⟩⟩
        · intro a' w' ha hs hw
          obtain ⟨v0, e0, q0⟩ := hw 0 (by kernel_rfl) _ _ _ rfl rfl rfl
          obtain rfl : v0 = .agg (cls x) := q0
          obtain ⟨v1, e1, q1⟩ := hw 1 (by kernel_rfl) _ _ _ rfl rfl rfl
          obtain rfl : v1 = .agg (cls z) := q1
          exact .inl ⟨wanted_none rfl, call_step rfl Try.func17 (by kernel_rfl) rfl (map_two (ev_tmp e0) (ev_tmp e1)) (divides_is (x) (z) (true) _ (H1.out)) (fun e w2 he => by obtain ⟨rfl, hb⟩ := he; exact ⟨_, rfl, _, rfl, rfl, hb, hs.trans (hb.mono hs.size)⟩)⟩
        · intro a' w' ha hs hw
          obtain ⟨v2, e2, q2⟩ := hw 2 (by kernel_rfl) _ _ _ rfl rfl rfl
          obtain rfl : v2 = Value.bool true := q2
          exact .inl ⟨wanted_none rfl, wp_val (run_move rfl (ev_tmp e2)) ⟨_, rfl, rfl, Below.refl _ _, hs⟩⟩
        · intro a' w' ha hs hw
          obtain ⟨v3, e3, q3⟩ := hw 3 (by kernel_rfl) _ _ _ rfl rfl rfl
          obtain rfl : v3 = Value.bool true := q3
          have eo9 : a'.tmps[9]? = some (.pointer (some ⟨y4.heap.size, 0, none⟩)) := (ha.rest 9 (by kernel_rfl)).trans rfl
          exact .inl ⟨wanted_some rfl rfl rfl e3, wp_val (run_load rfl (ev_tmp eo9) (B.out.below hs B.out.lt)) ⟨_, rfl, rfl, Below.refl _ _, hs⟩⟩
        · intro a' w' ha hs hw
          obtain ⟨v3, e3, q3⟩ := hw 3 (by kernel_rfl) _ _ _ rfl rfl rfl
          obtain rfl : v3 = Value.bool true := q3
          have eo10 : a'.tmps[10]? = some (.pointer (some ⟨y6.heap.size, 0, none⟩)) := (ha.rest 10 (by kernel_rfl)).trans rfl
          exact .inl ⟨wanted_some rfl rfl rfl e3, wp_val (run_load rfl (ev_tmp eo10) (C.out.below hs C.out.lt)) ⟨_, rfl, rfl, Below.refl _ _, hs⟩⟩
        · intro a' w' ha hs hw
          obtain ⟨v3, e3, q3⟩ := hw 3 (by kernel_rfl) _ _ _ rfl rfl rfl
          obtain rfl : v3 = Value.bool true := q3
          obtain ⟨v4, e4, q4⟩ := hw 4 (by kernel_rfl) _ _ _ rfl rfl rfl
          obtain rfl : v4 = .agg (cls y) := q4
          obtain ⟨v5, e5, q5⟩ := hw 5 (by kernel_rfl) _ _ _ rfl rfl rfl
          obtain rfl : v5 = .agg (cls z) := q5
          exact .inl ⟨wanted_some rfl rfl rfl e3, call_step rfl Try.func17 (by kernel_rfl) rfl (map_two (ev_tmp e4) (ev_tmp e5)) (divides_is (y) (z) (decide (dv y z)) _ (rfl)) (fun e w2 he => by obtain ⟨rfl, hb⟩ := he; exact ⟨_, rfl, _, rfl, rfl, hb, hs.trans (hb.mono hs.size)⟩)⟩
        · intro a' w' ha hs hw
          obtain ⟨v3, e3, q3⟩ := hw 3 (by kernel_rfl) _ _ _ rfl rfl rfl
          obtain rfl : v3 = Value.bool true := q3
          obtain ⟨v6, e6, q6⟩ := hw 6 (by kernel_rfl) _ _ _ rfl rfl rfl
          obtain rfl : v6 = Value.bool (decide (dv y z)) := q6
          exact .inl ⟨wanted_none rfl, wp_val (run_pick (b := true) rfl (ev_tmp e3) (ev_tmp e6)) ⟨_, rfl, rfl, Below.refl _ _, hs⟩⟩
        · intro a' w' ha hs hw
          have eo11 : a'.tmps[11]? = some (.pointer (some ⟨y8.heap.size, 0, none⟩)) := (ha.rest 11 (by kernel_rfl)).trans rfl
          exact .inl ⟨wanted_none rfl, wp_val (run_load rfl (ev_tmp eo11) (L.out.below hs L.out.lt)) ⟨_, rfl, rfl, Below.refl _ _, hs⟩⟩
        · intro a' w' ha hs hw
          have eo10 : a'.tmps[10]? = some (.pointer (some ⟨y6.heap.size, 0, none⟩)) := (ha.rest 10 (by kernel_rfl)).trans rfl
          exact .inl ⟨wanted_none rfl, wp_val (run_load rfl (ev_tmp eo10) (C.out.below hs C.out.lt)) ⟨_, rfl, rfl, Below.refl _ _, hs⟩⟩
        · intro a' w' ha hs hw
          obtain ⟨v8, e8, q8⟩ := hw 8 (by kernel_rfl) _ _ _ rfl rfl rfl
          obtain rfl : v8 = .agg (cls (lcmF x y)) := q8
          obtain ⟨v9, e9, q9⟩ := hw 9 (by kernel_rfl) _ _ _ rfl rfl rfl
          obtain rfl : v9 = .agg (cls z) := q9
          exact .inl ⟨wanted_none rfl, call_step rfl Try.func17 (by kernel_rfl) rfl (map_two (ev_tmp e8) (ev_tmp e9)) (divides_is (lcmF x y) (z) (decide (dv (lcmF x y) z)) _ (rfl)) (fun e w2 he => by obtain ⟨rfl, hb⟩ := he; exact ⟨_, rfl, _, rfl, rfl, hb, hs.trans (hb.mono hs.size)⟩)⟩
        · intro a' w' ha hs hw
          obtain ⟨v7, e7, q7⟩ := hw 7 (by kernel_rfl) _ _ _ rfl rfl rfl
          obtain rfl : v7 = Value.bool (decide (dv y z)) := q7
          obtain ⟨v10, e10, q10⟩ := hw 10 (by kernel_rfl) _ _ _ rfl rfl rfl
          obtain rfl : v10 = Value.bool (decide (dv (lcmF x y) z)) := q10
          exact .inl ⟨wanted_none rfl, wp_val (run_neq_bool rfl (ev_tmp e7) (ev_tmp e10)) ⟨_, rfl, congrArg Value.bool (N1.out), Below.refl _ _, hs⟩⟩
        · intro a' w' ha hs hw
          obtain ⟨v11, e11, q11⟩ := hw 11 (by kernel_rfl) _ _ _ rfl rfl rfl
          obtain rfl : v11 = Value.bool false := q11
          exact .inl ⟨wanted_none rfl, wp_val (run_move rfl (ev_tmp e11)) ⟨_, rfl, rfl, Below.refl _ _, hs⟩⟩
        · intro a' w' ha hs hw
          obtain ⟨v12, e12, q12⟩ := hw 12 (by kernel_rfl) _ _ _ rfl rfl rfl
          obtain rfl : v12 = Value.bool false := q12
          have eo10 : a'.tmps[10]? = some (.pointer (some ⟨y6.heap.size, 0, none⟩)) := (ha.rest 10 (by kernel_rfl)).trans rfl
          exact .inl ⟨wanted_some rfl rfl rfl e12, wp_val (run_load rfl (ev_tmp eo10) (C.out.below hs C.out.lt)) ⟨_, rfl, rfl, Below.refl _ _, hs⟩⟩
        · intro a' w' ha hs hw
          obtain ⟨v12, e12, q12⟩ := hw 12 (by kernel_rfl) _ _ _ rfl rfl rfl
          obtain rfl : v12 = Value.bool false := q12
          have eo8 : a'.tmps[8]? = some (.pointer (some ⟨y2.heap.size, 0, none⟩)) := (ha.rest 8 (by kernel_rfl)).trans rfl
          exact .inl ⟨wanted_some rfl rfl rfl e12, wp_val (run_load rfl (ev_tmp eo8) (A.out.below hs A.out.lt)) ⟨_, rfl, rfl, Below.refl _ _, hs⟩⟩
        · intro a' w' ha hs hw
          obtain ⟨v12, e12, q12⟩ := hw 12 (by kernel_rfl) _ _ _ rfl rfl rfl
          obtain rfl : v12 = Value.bool false := q12
          obtain ⟨v13, e13, q13⟩ := hw 13 (by kernel_rfl) _ _ _ rfl rfl rfl
          obtain rfl : v13 = .agg (cls z) := q13
          obtain ⟨v14, e14, q14⟩ := hw 14 (by kernel_rfl) _ _ _ rfl rfl rfl
          obtain rfl : v14 = .agg (cls x) := q14
          exact .inl ⟨wanted_some rfl rfl rfl e12, call_step rfl Try.func17 (by kernel_rfl) rfl (map_two (ev_tmp e13) (ev_tmp e14)) (divides_is (z) (x) (false) _ (H3.out)) (fun e w2 he => by obtain ⟨rfl, hb⟩ := he; exact ⟨_, rfl, _, rfl, rfl, hb, hs.trans (hb.mono hs.size)⟩)⟩
        · intro a' w' ha hs hw
          obtain ⟨v12, e12, q12⟩ := hw 12 (by kernel_rfl) _ _ _ rfl rfl rfl
          obtain rfl : v12 = Value.bool false := q12
          obtain ⟨v15, e15, q15⟩ := hw 15 (by kernel_rfl) _ _ _ rfl rfl rfl
          obtain rfl : v15 = Value.bool false := q15
          exact .inl ⟨wanted_some rfl rfl rfl e12, wp_val (run_move rfl (ev_tmp e15)) ⟨_, rfl, rfl, Below.refl _ _, hs⟩⟩
        · intro a' w' ha hs hw
          obtain ⟨v16, e16, q16⟩ := hw 16 (by kernel_rfl) _ _ _ rfl rfl rfl
          obtain rfl : v16 = Value.bool false := q16
          exact .inr ⟨wanted_off rfl rfl rfl e16 (by decide), rfl⟩
        · intro a' w' ha hs hw
          obtain ⟨v16, e16, q16⟩ := hw 16 (by kernel_rfl) _ _ _ rfl rfl rfl
          obtain rfl : v16 = Value.bool false := q16
          exact .inr ⟨wanted_off rfl rfl rfl e16 (by decide), rfl⟩
        · intro a' w' ha hs hw
          obtain ⟨v16, e16, q16⟩ := hw 16 (by kernel_rfl) _ _ _ rfl rfl rfl
          obtain rfl : v16 = Value.bool false := q16
          exact .inr ⟨wanted_off rfl rfl rfl e16 (by decide), rfl⟩
        · intro a' w' ha hs hw
          obtain ⟨v12, e12, q12⟩ := hw 12 (by kernel_rfl) _ _ _ rfl rfl rfl
          obtain rfl : v12 = Value.bool false := q12
          obtain ⟨v16, e16, q16⟩ := hw 16 (by kernel_rfl) _ _ _ rfl rfl rfl
          obtain rfl : v16 = Value.bool false := q16
          exact .inl ⟨wanted_some rfl rfl rfl e12, wp_val (run_pick (b := false) rfl (ev_tmp e16) rfl) ⟨_, rfl, rfl, Below.refl _ _, hs⟩⟩
        · intro a' w' ha hs hw
          obtain ⟨v12, e12, q12⟩ := hw 12 (by kernel_rfl) _ _ _ rfl rfl rfl
          obtain rfl : v12 = Value.bool false := q12
          have eo10 : a'.tmps[10]? = some (.pointer (some ⟨y6.heap.size, 0, none⟩)) := (ha.rest 10 (by kernel_rfl)).trans rfl
          exact .inl ⟨wanted_some rfl rfl rfl e12, wp_val (run_load rfl (ev_tmp eo10) (C.out.below hs C.out.lt)) ⟨_, rfl, rfl, Below.refl _ _, hs⟩⟩
        · intro a' w' ha hs hw
          obtain ⟨v12, e12, q12⟩ := hw 12 (by kernel_rfl) _ _ _ rfl rfl rfl
          obtain rfl : v12 = Value.bool false := q12
          have eo12 : a'.tmps[12]? = some (.pointer (some ⟨y10.heap.size, 0, none⟩)) := (ha.rest 12 (by kernel_rfl)).trans rfl
          exact .inl ⟨wanted_some rfl rfl rfl e12, wp_val (run_load rfl (ev_tmp eo12) (G.out.below hs G.out.lt)) ⟨_, rfl, rfl, Below.refl _ _, hs⟩⟩
        · intro a' w' ha hs hw
          obtain ⟨v12, e12, q12⟩ := hw 12 (by kernel_rfl) _ _ _ rfl rfl rfl
          obtain rfl : v12 = Value.bool false := q12
          obtain ⟨v21, e21, q21⟩ := hw 21 (by kernel_rfl) _ _ _ rfl rfl rfl
          obtain rfl : v21 = .agg (cls z) := q21
          obtain ⟨v22, e22, q22⟩ := hw 22 (by kernel_rfl) _ _ _ rfl rfl rfl
          obtain rfl : v22 = .agg (cls (gcdF x y)) := q22
          exact .inl ⟨wanted_some rfl rfl rfl e12, call_step rfl Try.func17 (by kernel_rfl) rfl (map_two (ev_tmp e21) (ev_tmp e22)) (divides_is (z) (gcdF x y) (decide (dv z (gcdF x y))) _ (rfl)) (fun e w2 he => by obtain ⟨rfl, hb⟩ := he; exact ⟨_, rfl, _, rfl, rfl, hb, hs.trans (hb.mono hs.size)⟩)⟩
        · intro a' w' ha hs hw
          obtain ⟨v12, e12, q12⟩ := hw 12 (by kernel_rfl) _ _ _ rfl rfl rfl
          obtain rfl : v12 = Value.bool false := q12
          obtain ⟨v20, e20, q20⟩ := hw 20 (by kernel_rfl) _ _ _ rfl rfl rfl
          obtain rfl : v20 = Value.bool false := q20
          obtain ⟨v23, e23, q23⟩ := hw 23 (by kernel_rfl) _ _ _ rfl rfl rfl
          obtain rfl : v23 = Value.bool (decide (dv z (gcdF x y))) := q23
          exact .inl ⟨wanted_some rfl rfl rfl e12, wp_val (run_neq_bool rfl (ev_tmp e20) (ev_tmp e23)) ⟨_, rfl, congrArg Value.bool (N2.out), Below.refl _ _, hs⟩⟩
        · intro a' w' ha hs hw
          obtain ⟨v12, e12, q12⟩ := hw 12 (by kernel_rfl) _ _ _ rfl rfl rfl
          obtain rfl : v12 = Value.bool false := q12
          obtain ⟨v24, e24, q24⟩ := hw 24 (by kernel_rfl) _ _ _ rfl rfl rfl
          obtain rfl : v24 = Value.bool false := q24
          exact .inl ⟨wanted_none rfl, wp_val (run_pick (b := false) rfl (ev_tmp e12) (ev_tmp e24)) ⟨_, rfl, rfl, Below.refl _ _, hs⟩⟩
      simp only [allK]
      simp only [setAll, List.set_cons_succ, List.set_cons_zero]
      refine hK _ _ ?_
      clear hK K
      replace A := Lib.hid (A.out.below hs A.out.lt)
      replace B := Lib.hid (B.out.below hs B.out.lt)
      replace C := Lib.hid (C.out.below hs C.out.lt)
      replace L := Lib.hid (L.out.below hs L.out.lt)
      replace G := Lib.hid (G.out.below hs G.out.lt)
      replace DW := Lib.hid (below_link DW.out hs DW.out.size)
      clear hs
      generalize wn = z13 at *
      go_wp2_with (first | (refine ld _ _ A.out rfl rfl rfl ?_) | (refine ld _ _ B.out rfl rfl rfl ?_) | fail)
      refine (mul_is x y _ V0.out V1.out).mono ?_
      rintro e y14 ⟨rfl, hb⟩
      replace A := Lib.hid (A.out.below hb A.out.lt)
      replace B := Lib.hid (B.out.below hb B.out.lt)
      replace C := Lib.hid (C.out.below hb C.out.lt)
      replace L := Lib.hid (L.out.below hb L.out.lt)
      replace G := Lib.hid (G.out.below hb G.out.lt)
      replace DW := Lib.hid (below_link DW.out hb DW.out.size)
      clear hb
      go_upto_region 14 with fail
      obtain ⟨w15, hW⟩ : ∃ w15, w15 = y14.alloc (Obj.cells #[Value.int IntKind.i64 ((prF x y) 0), Value.int IntKind.i64 ((prF x y) 1), Value.int IntKind.i64 ((prF x y) 2), Value.int IntKind.i64 ((prF x y) 3), Value.int IntKind.i64 ((prF x y) 4), Value.int IntKind.i64 ((prF x y) 5), Value.int IntKind.i64 ((prF x y) 6), Value.int IntKind.i64 ((prF x y) 7)] 27) := ⟨_, rfl⟩
      rw [← hW]
      have P : Hid (Row w15 y14.heap.size (prF x y)) := by rw [hW]; exact Row.new y14 (prF x y)
      have hb : Below y14.heap.size y14 w15 := by rw [hW]; exact (Below.refl _ _).alloc (Nat.le_refl _) _
      replace A := Lib.hid (A.out.below hb A.out.lt)
      replace B := Lib.hid (B.out.below hb B.out.lt)
      replace C := Lib.hid (C.out.below hb C.out.lt)
      replace L := Lib.hid (L.out.below hb L.out.lt)
      replace G := Lib.hid (G.out.below hb G.out.lt)
      replace DW := Lib.hid (below_link DW.out hb DW.out.size)
      clear hW hb
      go_wp2_with (first | (refine ld _ _ L.out rfl rfl rfl ?_) | (refine ld _ _ G.out rfl rfl rfl ?_) | fail)
      refine (mul_is (lcmF x y) (gcdF x y) _ (va_lcm V0.out V1.out) (va_gcd V0.out V1.out)).mono ?_
      rintro e y16 ⟨rfl, hb⟩
      replace A := Lib.hid (A.out.below hb A.out.lt)
      replace B := Lib.hid (B.out.below hb B.out.lt)
      replace C := Lib.hid (C.out.below hb C.out.lt)
      replace L := Lib.hid (L.out.below hb L.out.lt)
      replace G := Lib.hid (G.out.below hb G.out.lt)
      replace P := Lib.hid (P.out.below hb P.out.lt)
      replace DW := Lib.hid (below_link DW.out hb DW.out.size)
      clear hb
      go_upto_region 15 with fail
      obtain ⟨w17, hW⟩ : ∃ w17, w17 = y16.alloc (Obj.cells #[Value.int IntKind.i64 ((prF (lcmF x y) (gcdF x y)) 0), Value.int IntKind.i64 ((prF (lcmF x y) (gcdF x y)) 1), Value.int IntKind.i64 ((prF (lcmF x y) (gcdF x y)) 2), Value.int IntKind.i64 ((prF (lcmF x y) (gcdF x y)) 3), Value.int IntKind.i64 ((prF (lcmF x y) (gcdF x y)) 4), Value.int IntKind.i64 ((prF (lcmF x y) (gcdF x y)) 5), Value.int IntKind.i64 ((prF (lcmF x y) (gcdF x y)) 6), Value.int IntKind.i64 ((prF (lcmF x y) (gcdF x y)) 7)] 27) := ⟨_, rfl⟩
      rw [← hW]
      have Q : Hid (Row w17 y16.heap.size (prF (lcmF x y) (gcdF x y))) := by rw [hW]; exact Row.new y16 (prF (lcmF x y) (gcdF x y))
      have hb : Below y16.heap.size y16 w17 := by rw [hW]; exact (Below.refl _ _).alloc (Nat.le_refl _) _
      replace A := Lib.hid (A.out.below hb A.out.lt)
      replace B := Lib.hid (B.out.below hb B.out.lt)
      replace C := Lib.hid (C.out.below hb C.out.lt)
      replace L := Lib.hid (L.out.below hb L.out.lt)
      replace G := Lib.hid (G.out.below hb G.out.lt)
      replace P := Lib.hid (P.out.below hb P.out.lt)
      replace DW := Lib.hid (below_link DW.out hb DW.out.size)
      clear hW hb
      have E1 := Lib.hid (pr_lat x y); have E2 := Lib.hid (prE_lat x y); have E3 := Lib.hid (lcm_lat x y); have E4 := Lib.hid (gcd_lat x y)
      refine region_run (fun w' => Below w17.heap.size w17 w') [.is (Value.bool true), .is (Value.bool true), .is (.agg (cls (prF x y))), .is (.agg (cls (prF (lcmF x y) (gcdF x y)))), .is (Value.bool true), .is (Value.bool true), .is (Value.bool true), .is (Value.int IntKind.i64 (prE x y)), .is (Value.int IntKind.i64 (prE (lcmF x y) (gcdF x y))), .is (Value.bool true), .is (Value.bool true), .is (Value.bool true), .is (.agg (cls (lcmF x y))), .is (.agg (cls (gcdF x y))), .is (.agg (cls (lcmF (lcmF x y) (gcdF x y)))), .is (.agg (cls (lcmF x y))), .is (Value.bool true), .is (Value.bool true), .is (Value.bool true), .is (.agg (cls (lcmF x y))), .is (.agg (cls (gcdF x y))), .is (.agg (cls (gcdF (lcmF x y) (gcdF x y)))), .is (.agg (cls (gcdF x y))), .is (Value.bool true), .is (Value.bool true), .is (Value.bool true)] [106, 107, 108, 109, 110, 111, 112, 113, 114, 115, 116, 117, 118, 119, 120, 121, 122, 123, 124, 125, 126, 127, 128, 129, 130, 6] (by kernel_rfl) (by kernel_rfl) (by kernel_rfl) (by rfl) (by kernel_rfl) ((Below.refl _ _).drew) (fun Q' => ?_) (fun K hK wn hs => ?_)
      · refine ⟨?_, ?_, ?_, ?_, ?_, ?_, ?_, ?_, ?_, ?_, ?_, ?_, ?_, ?_, ?_, ?_, ?_, ?_, ?_, ?_, ?_, ?_, ?_, ?_, ?_, ?_, trivial⟩
        · intro a' w' ha hs hw
          have eo7 : a'.tmps[7]? = some (Value.bool true) := (ha.rest 7 (by kernel_rfl)).trans rfl
          exact .inl ⟨wanted_none rfl, wp_val (run_move rfl (ev_tmp eo7)) ⟨_, rfl, rfl, Below.refl _ _, hs⟩⟩
        · intro a' w' ha hs hw
          obtain ⟨v0, e0, q0⟩ := hw 0 (by kernel_rfl) _ _ _ rfl rfl rfl
          obtain rfl : v0 = Value.bool true := q0
          exact .inl ⟨wanted_none rfl, wp_val (run_move rfl (ev_tmp e0)) ⟨_, rfl, rfl, Below.refl _ _, hs⟩⟩
        · intro a' w' ha hs hw
          obtain ⟨v1, e1, q1⟩ := hw 1 (by kernel_rfl) _ _ _ rfl rfl rfl
          obtain rfl : v1 = Value.bool true := q1
          have eo13 : a'.tmps[13]? = some (.pointer (some ⟨y14.heap.size, 0, none⟩)) := (ha.rest 13 (by kernel_rfl)).trans rfl
          exact .inl ⟨wanted_some rfl rfl rfl e1, wp_val (run_load rfl (ev_tmp eo13) (P.out.below hs P.out.lt)) ⟨_, rfl, rfl, Below.refl _ _, hs⟩⟩
        · intro a' w' ha hs hw
          obtain ⟨v1, e1, q1⟩ := hw 1 (by kernel_rfl) _ _ _ rfl rfl rfl
          obtain rfl : v1 = Value.bool true := q1
          have eo15 : a'.tmps[15]? = some (.pointer (some ⟨y16.heap.size, 0, none⟩)) := (ha.rest 15 (by kernel_rfl)).trans rfl
          exact .inl ⟨wanted_some rfl rfl rfl e1, wp_val (run_load rfl (ev_tmp eo15) (Q.out.below hs Q.out.lt)) ⟨_, rfl, rfl, Below.refl _ _, hs⟩⟩
        · intro a' w' ha hs hw
          obtain ⟨v1, e1, q1⟩ := hw 1 (by kernel_rfl) _ _ _ rfl rfl rfl
          obtain rfl : v1 = Value.bool true := q1
          obtain ⟨v2, e2, q2⟩ := hw 2 (by kernel_rfl) _ _ _ rfl rfl rfl
          obtain rfl : v2 = .agg (cls (prF x y)) := q2
          obtain ⟨v3, e3, q3⟩ := hw 3 (by kernel_rfl) _ _ _ rfl rfl rfl
          obtain rfl : v3 = .agg (cls (prF (lcmF x y) (gcdF x y))) := q3
          exact .inl ⟨wanted_some rfl rfl rfl e1, wp_val (run_eql_arr rfl (ev_tmp e2) (ev_tmp e3)) ⟨_, rfl, congrArg Value.bool (E1.out), Below.refl _ _, hs⟩⟩
        · intro a' w' ha hs hw
          obtain ⟨v1, e1, q1⟩ := hw 1 (by kernel_rfl) _ _ _ rfl rfl rfl
          obtain rfl : v1 = Value.bool true := q1
          obtain ⟨v4, e4, q4⟩ := hw 4 (by kernel_rfl) _ _ _ rfl rfl rfl
          obtain rfl : v4 = Value.bool true := q4
          exact .inl ⟨wanted_none rfl, wp_val (run_pick (b := true) rfl (ev_tmp e1) (ev_tmp e4)) ⟨_, rfl, rfl, Below.refl _ _, hs⟩⟩
        · intro a' w' ha hs hw
          obtain ⟨v5, e5, q5⟩ := hw 5 (by kernel_rfl) _ _ _ rfl rfl rfl
          obtain rfl : v5 = Value.bool true := q5
          exact .inl ⟨wanted_none rfl, wp_val (run_move rfl (ev_tmp e5)) ⟨_, rfl, rfl, Below.refl _ _, hs⟩⟩
        · intro a' w' ha hs hw
          obtain ⟨v6, e6, q6⟩ := hw 6 (by kernel_rfl) _ _ _ rfl rfl rfl
          obtain rfl : v6 = Value.bool true := q6
          have eo14 : a'.tmps[14]? = some (Value.int IntKind.i64 (prE x y)) := (ha.rest 14 (by kernel_rfl)).trans rfl
          exact .inl ⟨wanted_some rfl rfl rfl e6, wp_val (run_move rfl (ev_tmp eo14)) ⟨_, rfl, rfl, Below.refl _ _, hs⟩⟩
        · intro a' w' ha hs hw
          obtain ⟨v6, e6, q6⟩ := hw 6 (by kernel_rfl) _ _ _ rfl rfl rfl
          obtain rfl : v6 = Value.bool true := q6
          have eo16 : a'.tmps[16]? = some (Value.int IntKind.i64 (prE (lcmF x y) (gcdF x y))) := (ha.rest 16 (by kernel_rfl)).trans rfl
          exact .inl ⟨wanted_some rfl rfl rfl e6, wp_val (run_move rfl (ev_tmp eo16)) ⟨_, rfl, rfl, Below.refl _ _, hs⟩⟩
        · intro a' w' ha hs hw
          obtain ⟨v6, e6, q6⟩ := hw 6 (by kernel_rfl) _ _ _ rfl rfl rfl
          obtain rfl : v6 = Value.bool true := q6
          obtain ⟨v7, e7, q7⟩ := hw 7 (by kernel_rfl) _ _ _ rfl rfl rfl
          obtain rfl : v7 = Value.int IntKind.i64 (prE x y) := q7
          obtain ⟨v8, e8, q8⟩ := hw 8 (by kernel_rfl) _ _ _ rfl rfl rfl
          obtain rfl : v8 = Value.int IntKind.i64 (prE (lcmF x y) (gcdF x y)) := q8
          exact .inl ⟨wanted_some rfl rfl rfl e6, wp_val (run_eql_int rfl (ev_tmp e7) (ev_tmp e8)) ⟨_, rfl, congrArg Value.bool (E2.out), Below.refl _ _, hs⟩⟩
        · intro a' w' ha hs hw
          obtain ⟨v6, e6, q6⟩ := hw 6 (by kernel_rfl) _ _ _ rfl rfl rfl
          obtain rfl : v6 = Value.bool true := q6
          obtain ⟨v9, e9, q9⟩ := hw 9 (by kernel_rfl) _ _ _ rfl rfl rfl
          obtain rfl : v9 = Value.bool true := q9
          exact .inl ⟨wanted_none rfl, wp_val (run_pick (b := true) rfl (ev_tmp e6) (ev_tmp e9)) ⟨_, rfl, rfl, Below.refl _ _, hs⟩⟩
        · intro a' w' ha hs hw
          obtain ⟨v10, e10, q10⟩ := hw 10 (by kernel_rfl) _ _ _ rfl rfl rfl
          obtain rfl : v10 = Value.bool true := q10
          exact .inl ⟨wanted_none rfl, wp_val (run_move rfl (ev_tmp e10)) ⟨_, rfl, rfl, Below.refl _ _, hs⟩⟩
        · intro a' w' ha hs hw
          obtain ⟨v11, e11, q11⟩ := hw 11 (by kernel_rfl) _ _ _ rfl rfl rfl
          obtain rfl : v11 = Value.bool true := q11
          have eo11 : a'.tmps[11]? = some (.pointer (some ⟨y8.heap.size, 0, none⟩)) := (ha.rest 11 (by kernel_rfl)).trans rfl
          exact .inl ⟨wanted_some rfl rfl rfl e11, wp_val (run_load rfl (ev_tmp eo11) (L.out.below hs L.out.lt)) ⟨_, rfl, rfl, Below.refl _ _, hs⟩⟩
        · intro a' w' ha hs hw
          obtain ⟨v11, e11, q11⟩ := hw 11 (by kernel_rfl) _ _ _ rfl rfl rfl
          obtain rfl : v11 = Value.bool true := q11
          have eo12 : a'.tmps[12]? = some (.pointer (some ⟨y10.heap.size, 0, none⟩)) := (ha.rest 12 (by kernel_rfl)).trans rfl
          exact .inl ⟨wanted_some rfl rfl rfl e11, wp_val (run_load rfl (ev_tmp eo12) (G.out.below hs G.out.lt)) ⟨_, rfl, rfl, Below.refl _ _, hs⟩⟩
        · intro a' w' ha hs hw
          obtain ⟨v11, e11, q11⟩ := hw 11 (by kernel_rfl) _ _ _ rfl rfl rfl
          obtain rfl : v11 = Value.bool true := q11
          obtain ⟨v12, e12, q12⟩ := hw 12 (by kernel_rfl) _ _ _ rfl rfl rfl
          obtain rfl : v12 = .agg (cls (lcmF x y)) := q12
          obtain ⟨v13, e13, q13⟩ := hw 13 (by kernel_rfl) _ _ _ rfl rfl rfl
          obtain rfl : v13 = .agg (cls (gcdF x y)) := q13
          exact .inl ⟨wanted_some rfl rfl rfl e11, call_step rfl Try.func21 (by kernel_rfl) rfl (map_two (ev_tmp e12) (ev_tmp e13)) (lcm_any (lcmF x y) (gcdF x y) _) (fun e w2 he => by obtain ⟨rfl, hb⟩ := he; exact ⟨_, rfl, _, rfl, rfl, hb, hs.trans (hb.mono hs.size)⟩)⟩
        · intro a' w' ha hs hw
          obtain ⟨v11, e11, q11⟩ := hw 11 (by kernel_rfl) _ _ _ rfl rfl rfl
          obtain rfl : v11 = Value.bool true := q11
          have eo11 : a'.tmps[11]? = some (.pointer (some ⟨y8.heap.size, 0, none⟩)) := (ha.rest 11 (by kernel_rfl)).trans rfl
          exact .inl ⟨wanted_some rfl rfl rfl e11, wp_val (run_load rfl (ev_tmp eo11) (L.out.below hs L.out.lt)) ⟨_, rfl, rfl, Below.refl _ _, hs⟩⟩
        · intro a' w' ha hs hw
          obtain ⟨v11, e11, q11⟩ := hw 11 (by kernel_rfl) _ _ _ rfl rfl rfl
          obtain rfl : v11 = Value.bool true := q11
          obtain ⟨v14, e14, q14⟩ := hw 14 (by kernel_rfl) _ _ _ rfl rfl rfl
          obtain rfl : v14 = .agg (cls (lcmF (lcmF x y) (gcdF x y))) := q14
          obtain ⟨v15, e15, q15⟩ := hw 15 (by kernel_rfl) _ _ _ rfl rfl rfl
          obtain rfl : v15 = .agg (cls (lcmF x y)) := q15
          exact .inl ⟨wanted_some rfl rfl rfl e11, wp_val (run_eql_arr rfl (ev_tmp e14) (ev_tmp e15)) ⟨_, rfl, congrArg Value.bool (E3.out), Below.refl _ _, hs⟩⟩
        · intro a' w' ha hs hw
          obtain ⟨v11, e11, q11⟩ := hw 11 (by kernel_rfl) _ _ _ rfl rfl rfl
          obtain rfl : v11 = Value.bool true := q11
          obtain ⟨v16, e16, q16⟩ := hw 16 (by kernel_rfl) _ _ _ rfl rfl rfl
          obtain rfl : v16 = Value.bool true := q16
          exact .inl ⟨wanted_none rfl, wp_val (run_pick (b := true) rfl (ev_tmp e11) (ev_tmp e16)) ⟨_, rfl, rfl, Below.refl _ _, hs⟩⟩
        · intro a' w' ha hs hw
          obtain ⟨v17, e17, q17⟩ := hw 17 (by kernel_rfl) _ _ _ rfl rfl rfl
          obtain rfl : v17 = Value.bool true := q17
          exact .inl ⟨wanted_none rfl, wp_val (run_move rfl (ev_tmp e17)) ⟨_, rfl, rfl, Below.refl _ _, hs⟩⟩
        · intro a' w' ha hs hw
          obtain ⟨v18, e18, q18⟩ := hw 18 (by kernel_rfl) _ _ _ rfl rfl rfl
          obtain rfl : v18 = Value.bool true := q18
          have eo11 : a'.tmps[11]? = some (.pointer (some ⟨y8.heap.size, 0, none⟩)) := (ha.rest 11 (by kernel_rfl)).trans rfl
          exact .inl ⟨wanted_some rfl rfl rfl e18, wp_val (run_load rfl (ev_tmp eo11) (L.out.below hs L.out.lt)) ⟨_, rfl, rfl, Below.refl _ _, hs⟩⟩
        · intro a' w' ha hs hw
          obtain ⟨v18, e18, q18⟩ := hw 18 (by kernel_rfl) _ _ _ rfl rfl rfl
          obtain rfl : v18 = Value.bool true := q18
          have eo12 : a'.tmps[12]? = some (.pointer (some ⟨y10.heap.size, 0, none⟩)) := (ha.rest 12 (by kernel_rfl)).trans rfl
          exact .inl ⟨wanted_some rfl rfl rfl e18, wp_val (run_load rfl (ev_tmp eo12) (G.out.below hs G.out.lt)) ⟨_, rfl, rfl, Below.refl _ _, hs⟩⟩
        · intro a' w' ha hs hw
          obtain ⟨v18, e18, q18⟩ := hw 18 (by kernel_rfl) _ _ _ rfl rfl rfl
          obtain rfl : v18 = Value.bool true := q18
          obtain ⟨v19, e19, q19⟩ := hw 19 (by kernel_rfl) _ _ _ rfl rfl rfl
          obtain rfl : v19 = .agg (cls (lcmF x y)) := q19
          obtain ⟨v20, e20, q20⟩ := hw 20 (by kernel_rfl) _ _ _ rfl rfl rfl
          obtain rfl : v20 = .agg (cls (gcdF x y)) := q20
          exact .inl ⟨wanted_some rfl rfl rfl e18, call_step rfl Try.func23 (by kernel_rfl) rfl (map_two (ev_tmp e19) (ev_tmp e20)) (gcd_any (lcmF x y) (gcdF x y) _) (fun e w2 he => by obtain ⟨rfl, hb⟩ := he; exact ⟨_, rfl, _, rfl, rfl, hb, hs.trans (hb.mono hs.size)⟩)⟩
        · intro a' w' ha hs hw
          obtain ⟨v18, e18, q18⟩ := hw 18 (by kernel_rfl) _ _ _ rfl rfl rfl
          obtain rfl : v18 = Value.bool true := q18
          have eo12 : a'.tmps[12]? = some (.pointer (some ⟨y10.heap.size, 0, none⟩)) := (ha.rest 12 (by kernel_rfl)).trans rfl
          exact .inl ⟨wanted_some rfl rfl rfl e18, wp_val (run_load rfl (ev_tmp eo12) (G.out.below hs G.out.lt)) ⟨_, rfl, rfl, Below.refl _ _, hs⟩⟩
        · intro a' w' ha hs hw
          obtain ⟨v18, e18, q18⟩ := hw 18 (by kernel_rfl) _ _ _ rfl rfl rfl
          obtain rfl : v18 = Value.bool true := q18
          obtain ⟨v21, e21, q21⟩ := hw 21 (by kernel_rfl) _ _ _ rfl rfl rfl
          obtain rfl : v21 = .agg (cls (gcdF (lcmF x y) (gcdF x y))) := q21
          obtain ⟨v22, e22, q22⟩ := hw 22 (by kernel_rfl) _ _ _ rfl rfl rfl
          obtain rfl : v22 = .agg (cls (gcdF x y)) := q22
          exact .inl ⟨wanted_some rfl rfl rfl e18, wp_val (run_eql_arr rfl (ev_tmp e21) (ev_tmp e22)) ⟨_, rfl, congrArg Value.bool (E4.out), Below.refl _ _, hs⟩⟩
        · intro a' w' ha hs hw
          obtain ⟨v18, e18, q18⟩ := hw 18 (by kernel_rfl) _ _ _ rfl rfl rfl
          obtain rfl : v18 = Value.bool true := q18
          obtain ⟨v23, e23, q23⟩ := hw 23 (by kernel_rfl) _ _ _ rfl rfl rfl
          obtain rfl : v23 = Value.bool true := q23
          exact .inl ⟨wanted_none rfl, wp_val (run_pick (b := true) rfl (ev_tmp e18) (ev_tmp e23)) ⟨_, rfl, rfl, Below.refl _ _, hs⟩⟩
        · intro a' w' ha hs hw
          obtain ⟨v24, e24, q24⟩ := hw 24 (by kernel_rfl) _ _ _ rfl rfl rfl
          obtain rfl : v24 = Value.bool true := q24
          exact .inl ⟨wanted_none rfl, wp_val (run_assign rfl (ev_tmp e24)) ⟨_, rfl, rfl, Below.refl _ _, hs⟩⟩
      simp only [allK]
      simp only [setAll, List.set_cons_succ, List.set_cons_zero]
      refine hK _ _ ?_
      clear hK K
      replace A := Lib.hid (A.out.below hs A.out.lt)
      replace B := Lib.hid (B.out.below hs B.out.lt)
      replace C := Lib.hid (C.out.below hs C.out.lt)
      replace L := Lib.hid (L.out.below hs L.out.lt)
      replace G := Lib.hid (G.out.below hs G.out.lt)
      replace P := Lib.hid (P.out.below hs P.out.lt)
      replace Q := Lib.hid (Q.out.below hs Q.out.lt)
      replace DW := Lib.hid (below_link DW.out hs DW.out.size)
      clear hs
      generalize wn = z18 at *
      go_wp2_with fail
      go_ret
      exact ⟨rfl, DW.out⟩
  · have H1 := Lib.hid (decide_eq_false h1)
    have N1 := Lib.hid (show (false != decide (dv (lcmF x y) z)) = false from lat2 h1)
    clear h1
    by_cases h3 : dv z x
    · have H3 := Lib.hid (decide_eq_true h3)
      have N2 := Lib.hid (show (decide (dv z y) != decide (dv z (gcdF x y))) = false from lat3 h3)
      clear h3
      go_wp2_with fail
      refine region_run (fun w' => Below z12.heap.size z12 w') [.is (.agg (cls x)), .is (.agg (cls z)), .is (Value.bool false), .is (Value.bool false), .is undef, .is undef, .is undef, .is (Value.bool false), .is (.agg (cls (lcmF x y))), .is (.agg (cls z)), .is (Value.bool (decide (dv (lcmF x y) z))), .is (Value.bool false), .is (Value.bool false), .is (.agg (cls z)), .is (.agg (cls x)), .is (Value.bool true), .is (Value.bool true), .is (.agg (cls z)), .is (.agg (cls y)), .is (Value.bool (decide (dv z y))), .is (Value.bool (decide (dv z y))), .is (.agg (cls z)), .is (.agg (cls (gcdF x y))), .is (Value.bool (decide (dv z (gcdF x y)))), .is (Value.bool false), .is (Value.bool false)] [68, 69, 70, 71, 72, 73, 74, 75, 76, 77, 78, 79, 80, 81, 82, 83, 84, 85, 86, 87, 88, 89, 90, 91, 92, 93] (by kernel_rfl) (by kernel_rfl) (by kernel_rfl) (by rfl) (by kernel_rfl) ((Below.refl _ _).drew) (fun Q' => ?_) (fun K hK wn hs => ?_)
      · refine ⟨?_, ?_, ?_, ?_, ?_, ?_, ?_, ?_, ?_, ?_, ?_, ?_, ?_, ?_, ?_, ?_, ?_, ?_, ?_, ?_, ?_, ?_, ?_, ?_, ?_, ?_, trivial⟩
        · intro a' w' ha hs hw
          have eo8 : a'.tmps[8]? = some (.pointer (some ⟨y2.heap.size, 0, none⟩)) := (ha.rest 8 (by kernel_rfl)).trans rfl
          exact .inl ⟨wanted_none rfl, wp_val (run_load rfl (ev_tmp eo8) (A.out.below hs A.out.lt)) ⟨_, rfl, rfl, Below.refl _ _, hs⟩⟩
        · intro a' w' ha hs hw
          have eo10 : a'.tmps[10]? = some (.pointer (some ⟨y6.heap.size, 0, none⟩)) := (ha.rest 10 (by kernel_rfl)).trans rfl
          exact .inl ⟨wanted_none rfl, wp_val (run_load rfl (ev_tmp eo10) (C.out.below hs C.out.lt)) ⟨_, rfl, rfl, Below.refl _ _, hs⟩⟩
        · intro a' w' ha hs hw
          obtain ⟨v0, e0, q0⟩ := hw 0 (by kernel_rfl) _ _ _ rfl rfl rfl
          obtain rfl : v0 = .agg (cls x) := q0
          obtain ⟨v1, e1, q1⟩ := hw 1 (by kernel_rfl) _ _ _ rfl rfl rfl
          obtain rfl : v1 = .agg (cls z) := q1
          exact .inl ⟨wanted_none rfl, call_step rfl Try.func17 (by kernel_rfl) rfl (map_two (ev_tmp e0) (ev_tmp e1)) (divides_is (x) (z) (false) _ (H1.out)) (fun e w2 he => by obtain ⟨rfl, hb⟩ := he; exact ⟨_, rfl, _, rfl, rfl, hb, hs.trans (hb.mono hs.size)⟩)⟩
        · intro a' w' ha hs hw
          obtain ⟨v2, e2, q2⟩ := hw 2 (by kernel_rfl) _ _ _ rfl rfl rfl
          obtain rfl : v2 = Value.bool false := q2
          exact .inl ⟨wanted_none rfl, wp_val (run_move rfl (ev_tmp e2)) ⟨_, rfl, rfl, Below.refl _ _, hs⟩⟩
        · intro a' w' ha hs hw
          obtain ⟨v3, e3, q3⟩ := hw 3 (by kernel_rfl) _ _ _ rfl rfl rfl
          obtain rfl : v3 = Value.bool false := q3
          exact .inr ⟨wanted_off rfl rfl rfl e3 (by decide), rfl⟩
        · intro a' w' ha hs hw
          obtain ⟨v3, e3, q3⟩ := hw 3 (by kernel_rfl) _ _ _ rfl rfl rfl
          obtain rfl : v3 = Value.bool false := q3
          exact .inr ⟨wanted_off rfl rfl rfl e3 (by decide), rfl⟩
        · intro a' w' ha hs hw
          obtain ⟨v3, e3, q3⟩ := hw 3 (by kernel_rfl) _ _ _ rfl rfl rfl
          obtain rfl : v3 = Value.bool false := q3
          exact .inr ⟨wanted_off rfl rfl rfl e3 (by decide), rfl⟩
        · intro a' w' ha hs hw
          obtain ⟨v3, e3, q3⟩ := hw 3 (by kernel_rfl) _ _ _ rfl rfl rfl
          obtain rfl : v3 = Value.bool false := q3
          exact .inl ⟨wanted_none rfl, wp_val (run_pick (b := false) rfl (ev_tmp e3) rfl) ⟨_, rfl, rfl, Below.refl _ _, hs⟩⟩
        · intro a' w' ha hs hw
          have eo11 : a'.tmps[11]? = some (.pointer (some ⟨y8.heap.size, 0, none⟩)) := (ha.rest 11 (by kernel_rfl)).trans rfl
          exact .inl ⟨wanted_none rfl, wp_val (run_load rfl (ev_tmp eo11) (L.out.below hs L.out.lt)) ⟨_, rfl, rfl, Below.refl _ _, hs⟩⟩
        · intro a' w' ha hs hw
          have eo10 : a'.tmps[10]? = some (.pointer (some ⟨y6.heap.size, 0, none⟩)) := (ha.rest 10 (by kernel_rfl)).trans rfl
          exact .inl ⟨wanted_none rfl, wp_val (run_load rfl (ev_tmp eo10) (C.out.below hs C.out.lt)) ⟨_, rfl, rfl, Below.refl _ _, hs⟩⟩
        · intro a' w' ha hs hw
          obtain ⟨v8, e8, q8⟩ := hw 8 (by kernel_rfl) _ _ _ rfl rfl rfl
          obtain rfl : v8 = .agg (cls (lcmF x y)) := q8
          obtain ⟨v9, e9, q9⟩ := hw 9 (by kernel_rfl) _ _ _ rfl rfl rfl
          obtain rfl : v9 = .agg (cls z) := q9
          exact .inl ⟨wanted_none rfl, call_step rfl Try.func17 (by kernel_rfl) rfl (map_two (ev_tmp e8) (ev_tmp e9)) (divides_is (lcmF x y) (z) (decide (dv (lcmF x y) z)) _ (rfl)) (fun e w2 he => by obtain ⟨rfl, hb⟩ := he; exact ⟨_, rfl, _, rfl, rfl, hb, hs.trans (hb.mono hs.size)⟩)⟩
        · intro a' w' ha hs hw
          obtain ⟨v7, e7, q7⟩ := hw 7 (by kernel_rfl) _ _ _ rfl rfl rfl
          obtain rfl : v7 = Value.bool false := q7
          obtain ⟨v10, e10, q10⟩ := hw 10 (by kernel_rfl) _ _ _ rfl rfl rfl
          obtain rfl : v10 = Value.bool (decide (dv (lcmF x y) z)) := q10
          exact .inl ⟨wanted_none rfl, wp_val (run_neq_bool rfl (ev_tmp e7) (ev_tmp e10)) ⟨_, rfl, congrArg Value.bool (N1.out), Below.refl _ _, hs⟩⟩
        · intro a' w' ha hs hw
          obtain ⟨v11, e11, q11⟩ := hw 11 (by kernel_rfl) _ _ _ rfl rfl rfl
          obtain rfl : v11 = Value.bool false := q11
          exact .inl ⟨wanted_none rfl, wp_val (run_move rfl (ev_tmp e11)) ⟨_, rfl, rfl, Below.refl _ _, hs⟩⟩
        · intro a' w' ha hs hw
          obtain ⟨v12, e12, q12⟩ := hw 12 (by kernel_rfl) _ _ _ rfl rfl rfl
          obtain rfl : v12 = Value.bool false := q12
          have eo10 : a'.tmps[10]? = some (.pointer (some ⟨y6.heap.size, 0, none⟩)) := (ha.rest 10 (by kernel_rfl)).trans rfl
          exact .inl ⟨wanted_some rfl rfl rfl e12, wp_val (run_load rfl (ev_tmp eo10) (C.out.below hs C.out.lt)) ⟨_, rfl, rfl, Below.refl _ _, hs⟩⟩
        · intro a' w' ha hs hw
          obtain ⟨v12, e12, q12⟩ := hw 12 (by kernel_rfl) _ _ _ rfl rfl rfl
          obtain rfl : v12 = Value.bool false := q12
          have eo8 : a'.tmps[8]? = some (.pointer (some ⟨y2.heap.size, 0, none⟩)) := (ha.rest 8 (by kernel_rfl)).trans rfl
          exact .inl ⟨wanted_some rfl rfl rfl e12, wp_val (run_load rfl (ev_tmp eo8) (A.out.below hs A.out.lt)) ⟨_, rfl, rfl, Below.refl _ _, hs⟩⟩
        · intro a' w' ha hs hw
          obtain ⟨v12, e12, q12⟩ := hw 12 (by kernel_rfl) _ _ _ rfl rfl rfl
          obtain rfl : v12 = Value.bool false := q12
          obtain ⟨v13, e13, q13⟩ := hw 13 (by kernel_rfl) _ _ _ rfl rfl rfl
          obtain rfl : v13 = .agg (cls z) := q13
          obtain ⟨v14, e14, q14⟩ := hw 14 (by kernel_rfl) _ _ _ rfl rfl rfl
          obtain rfl : v14 = .agg (cls x) := q14
          exact .inl ⟨wanted_some rfl rfl rfl e12, call_step rfl Try.func17 (by kernel_rfl) rfl (map_two (ev_tmp e13) (ev_tmp e14)) (divides_is (z) (x) (true) _ (H3.out)) (fun e w2 he => by obtain ⟨rfl, hb⟩ := he; exact ⟨_, rfl, _, rfl, rfl, hb, hs.trans (hb.mono hs.size)⟩)⟩
        · intro a' w' ha hs hw
          obtain ⟨v12, e12, q12⟩ := hw 12 (by kernel_rfl) _ _ _ rfl rfl rfl
          obtain rfl : v12 = Value.bool false := q12
          obtain ⟨v15, e15, q15⟩ := hw 15 (by kernel_rfl) _ _ _ rfl rfl rfl
          obtain rfl : v15 = Value.bool true := q15
          exact .inl ⟨wanted_some rfl rfl rfl e12, wp_val (run_move rfl (ev_tmp e15)) ⟨_, rfl, rfl, Below.refl _ _, hs⟩⟩
        · intro a' w' ha hs hw
          obtain ⟨v16, e16, q16⟩ := hw 16 (by kernel_rfl) _ _ _ rfl rfl rfl
          obtain rfl : v16 = Value.bool true := q16
          have eo10 : a'.tmps[10]? = some (.pointer (some ⟨y6.heap.size, 0, none⟩)) := (ha.rest 10 (by kernel_rfl)).trans rfl
          exact .inl ⟨wanted_some rfl rfl rfl e16, wp_val (run_load rfl (ev_tmp eo10) (C.out.below hs C.out.lt)) ⟨_, rfl, rfl, Below.refl _ _, hs⟩⟩
        · intro a' w' ha hs hw
          obtain ⟨v16, e16, q16⟩ := hw 16 (by kernel_rfl) _ _ _ rfl rfl rfl
          obtain rfl : v16 = Value.bool true := q16
          have eo9 : a'.tmps[9]? = some (.pointer (some ⟨y4.heap.size, 0, none⟩)) := (ha.rest 9 (by kernel_rfl)).trans rfl
          exact .inl ⟨wanted_some rfl rfl rfl e16, wp_val (run_load rfl (ev_tmp eo9) (B.out.below hs B.out.lt)) ⟨_, rfl, rfl, Below.refl _ _, hs⟩⟩
        · intro a' w' ha hs hw
          obtain ⟨v16, e16, q16⟩ := hw 16 (by kernel_rfl) _ _ _ rfl rfl rfl
          obtain rfl : v16 = Value.bool true := q16
          obtain ⟨v17, e17, q17⟩ := hw 17 (by kernel_rfl) _ _ _ rfl rfl rfl
          obtain rfl : v17 = .agg (cls z) := q17
          obtain ⟨v18, e18, q18⟩ := hw 18 (by kernel_rfl) _ _ _ rfl rfl rfl
          obtain rfl : v18 = .agg (cls y) := q18
          exact .inl ⟨wanted_some rfl rfl rfl e16, call_step rfl Try.func17 (by kernel_rfl) rfl (map_two (ev_tmp e17) (ev_tmp e18)) (divides_is (z) (y) (decide (dv z y)) _ (rfl)) (fun e w2 he => by obtain ⟨rfl, hb⟩ := he; exact ⟨_, rfl, _, rfl, rfl, hb, hs.trans (hb.mono hs.size)⟩)⟩
        · intro a' w' ha hs hw
          obtain ⟨v12, e12, q12⟩ := hw 12 (by kernel_rfl) _ _ _ rfl rfl rfl
          obtain rfl : v12 = Value.bool false := q12
          obtain ⟨v16, e16, q16⟩ := hw 16 (by kernel_rfl) _ _ _ rfl rfl rfl
          obtain rfl : v16 = Value.bool true := q16
          obtain ⟨v19, e19, q19⟩ := hw 19 (by kernel_rfl) _ _ _ rfl rfl rfl
          obtain rfl : v19 = Value.bool (decide (dv z y)) := q19
          exact .inl ⟨wanted_some rfl rfl rfl e12, wp_val (run_pick (b := true) rfl (ev_tmp e16) (ev_tmp e19)) ⟨_, rfl, rfl, Below.refl _ _, hs⟩⟩
        · intro a' w' ha hs hw
          obtain ⟨v12, e12, q12⟩ := hw 12 (by kernel_rfl) _ _ _ rfl rfl rfl
          obtain rfl : v12 = Value.bool false := q12
          have eo10 : a'.tmps[10]? = some (.pointer (some ⟨y6.heap.size, 0, none⟩)) := (ha.rest 10 (by kernel_rfl)).trans rfl
          exact .inl ⟨wanted_some rfl rfl rfl e12, wp_val (run_load rfl (ev_tmp eo10) (C.out.below hs C.out.lt)) ⟨_, rfl, rfl, Below.refl _ _, hs⟩⟩
        · intro a' w' ha hs hw
          obtain ⟨v12, e12, q12⟩ := hw 12 (by kernel_rfl) _ _ _ rfl rfl rfl
          obtain rfl : v12 = Value.bool false := q12
          have eo12 : a'.tmps[12]? = some (.pointer (some ⟨y10.heap.size, 0, none⟩)) := (ha.rest 12 (by kernel_rfl)).trans rfl
          exact .inl ⟨wanted_some rfl rfl rfl e12, wp_val (run_load rfl (ev_tmp eo12) (G.out.below hs G.out.lt)) ⟨_, rfl, rfl, Below.refl _ _, hs⟩⟩
        · intro a' w' ha hs hw
          obtain ⟨v12, e12, q12⟩ := hw 12 (by kernel_rfl) _ _ _ rfl rfl rfl
          obtain rfl : v12 = Value.bool false := q12
          obtain ⟨v21, e21, q21⟩ := hw 21 (by kernel_rfl) _ _ _ rfl rfl rfl
          obtain rfl : v21 = .agg (cls z) := q21
          obtain ⟨v22, e22, q22⟩ := hw 22 (by kernel_rfl) _ _ _ rfl rfl rfl
          obtain rfl : v22 = .agg (cls (gcdF x y)) := q22
          exact .inl ⟨wanted_some rfl rfl rfl e12, call_step rfl Try.func17 (by kernel_rfl) rfl (map_two (ev_tmp e21) (ev_tmp e22)) (divides_is (z) (gcdF x y) (decide (dv z (gcdF x y))) _ (rfl)) (fun e w2 he => by obtain ⟨rfl, hb⟩ := he; exact ⟨_, rfl, _, rfl, rfl, hb, hs.trans (hb.mono hs.size)⟩)⟩
        · intro a' w' ha hs hw
          obtain ⟨v12, e12, q12⟩ := hw 12 (by kernel_rfl) _ _ _ rfl rfl rfl
          obtain rfl : v12 = Value.bool false := q12
          obtain ⟨v20, e20, q20⟩ := hw 20 (by kernel_rfl) _ _ _ rfl rfl rfl
          obtain rfl : v20 = Value.bool (decide (dv z y)) := q20
          obtain ⟨v23, e23, q23⟩ := hw 23 (by kernel_rfl) _ _ _ rfl rfl rfl
          obtain rfl : v23 = Value.bool (decide (dv z (gcdF x y))) := q23
          exact .inl ⟨wanted_some rfl rfl rfl e12, wp_val (run_neq_bool rfl (ev_tmp e20) (ev_tmp e23)) ⟨_, rfl, congrArg Value.bool (N2.out), Below.refl _ _, hs⟩⟩
        · intro a' w' ha hs hw
          obtain ⟨v12, e12, q12⟩ := hw 12 (by kernel_rfl) _ _ _ rfl rfl rfl
          obtain rfl : v12 = Value.bool false := q12
          obtain ⟨v24, e24, q24⟩ := hw 24 (by kernel_rfl) _ _ _ rfl rfl rfl
          obtain rfl : v24 = Value.bool false := q24
          exact .inl ⟨wanted_none rfl, wp_val (run_pick (b := false) rfl (ev_tmp e12) (ev_tmp e24)) ⟨_, rfl, rfl, Below.refl _ _, hs⟩⟩
      simp only [allK]
      simp only [setAll, List.set_cons_succ, List.set_cons_zero]
      refine hK _ _ ?_
      clear hK K
      replace A := Lib.hid (A.out.below hs A.out.lt)
      replace B := Lib.hid (B.out.below hs B.out.lt)
      replace C := Lib.hid (C.out.below hs C.out.lt)
      replace L := Lib.hid (L.out.below hs L.out.lt)
      replace G := Lib.hid (G.out.below hs G.out.lt)
      replace DW := Lib.hid (below_link DW.out hs DW.out.size)
      clear hs
      generalize wn = z13 at *
      go_wp2_with (first | (refine ld _ _ A.out rfl rfl rfl ?_) | (refine ld _ _ B.out rfl rfl rfl ?_) | fail)
      refine (mul_is x y _ V0.out V1.out).mono ?_
      rintro e y14 ⟨rfl, hb⟩
      replace A := Lib.hid (A.out.below hb A.out.lt)
      replace B := Lib.hid (B.out.below hb B.out.lt)
      replace C := Lib.hid (C.out.below hb C.out.lt)
      replace L := Lib.hid (L.out.below hb L.out.lt)
      replace G := Lib.hid (G.out.below hb G.out.lt)
      replace DW := Lib.hid (below_link DW.out hb DW.out.size)
      clear hb
      go_upto_region 14 with fail
      obtain ⟨w15, hW⟩ : ∃ w15, w15 = y14.alloc (Obj.cells #[Value.int IntKind.i64 ((prF x y) 0), Value.int IntKind.i64 ((prF x y) 1), Value.int IntKind.i64 ((prF x y) 2), Value.int IntKind.i64 ((prF x y) 3), Value.int IntKind.i64 ((prF x y) 4), Value.int IntKind.i64 ((prF x y) 5), Value.int IntKind.i64 ((prF x y) 6), Value.int IntKind.i64 ((prF x y) 7)] 27) := ⟨_, rfl⟩
      rw [← hW]
      have P : Hid (Row w15 y14.heap.size (prF x y)) := by rw [hW]; exact Row.new y14 (prF x y)
      have hb : Below y14.heap.size y14 w15 := by rw [hW]; exact (Below.refl _ _).alloc (Nat.le_refl _) _
      replace A := Lib.hid (A.out.below hb A.out.lt)
      replace B := Lib.hid (B.out.below hb B.out.lt)
      replace C := Lib.hid (C.out.below hb C.out.lt)
      replace L := Lib.hid (L.out.below hb L.out.lt)
      replace G := Lib.hid (G.out.below hb G.out.lt)
      replace DW := Lib.hid (below_link DW.out hb DW.out.size)
      clear hW hb
      go_wp2_with (first | (refine ld _ _ L.out rfl rfl rfl ?_) | (refine ld _ _ G.out rfl rfl rfl ?_) | fail)
      refine (mul_is (lcmF x y) (gcdF x y) _ (va_lcm V0.out V1.out) (va_gcd V0.out V1.out)).mono ?_
      rintro e y16 ⟨rfl, hb⟩
      replace A := Lib.hid (A.out.below hb A.out.lt)
      replace B := Lib.hid (B.out.below hb B.out.lt)
      replace C := Lib.hid (C.out.below hb C.out.lt)
      replace L := Lib.hid (L.out.below hb L.out.lt)
      replace G := Lib.hid (G.out.below hb G.out.lt)
      replace P := Lib.hid (P.out.below hb P.out.lt)
      replace DW := Lib.hid (below_link DW.out hb DW.out.size)
      clear hb
      go_upto_region 15 with fail
      obtain ⟨w17, hW⟩ : ∃ w17, w17 = y16.alloc (Obj.cells #[Value.int IntKind.i64 ((prF (lcmF x y) (gcdF x y)) 0), Value.int IntKind.i64 ((prF (lcmF x y) (gcdF x y)) 1), Value.int IntKind.i64 ((prF (lcmF x y) (gcdF x y)) 2), Value.int IntKind.i64 ((prF (lcmF x y) (gcdF x y)) 3), Value.int IntKind.i64 ((prF (lcmF x y) (gcdF x y)) 4), Value.int IntKind.i64 ((prF (lcmF x y) (gcdF x y)) 5), Value.int IntKind.i64 ((prF (lcmF x y) (gcdF x y)) 6), Value.int IntKind.i64 ((prF (lcmF x y) (gcdF x y)) 7)] 27) := ⟨_, rfl⟩
      rw [← hW]
      have Q : Hid (Row w17 y16.heap.size (prF (lcmF x y) (gcdF x y))) := by rw [hW]; exact Row.new y16 (prF (lcmF x y) (gcdF x y))
      have hb : Below y16.heap.size y16 w17 := by rw [hW]; exact (Below.refl _ _).alloc (Nat.le_refl _) _
      replace A := Lib.hid (A.out.below hb A.out.lt)
      replace B := Lib.hid (B.out.below hb B.out.lt)
      replace C := Lib.hid (C.out.below hb C.out.lt)
      replace L := Lib.hid (L.out.below hb L.out.lt)
      replace G := Lib.hid (G.out.below hb G.out.lt)
      replace P := Lib.hid (P.out.below hb P.out.lt)
      replace DW := Lib.hid (below_link DW.out hb DW.out.size)
      clear hW hb
      have E1 := Lib.hid (pr_lat x y); have E2 := Lib.hid (prE_lat x y); have E3 := Lib.hid (lcm_lat x y); have E4 := Lib.hid (gcd_lat x y)
      refine region_run (fun w' => Below w17.heap.size w17 w') [.is (Value.bool true), .is (Value.bool true), .is (.agg (cls (prF x y))), .is (.agg (cls (prF (lcmF x y) (gcdF x y)))), .is (Value.bool true), .is (Value.bool true), .is (Value.bool true), .is (Value.int IntKind.i64 (prE x y)), .is (Value.int IntKind.i64 (prE (lcmF x y) (gcdF x y))), .is (Value.bool true), .is (Value.bool true), .is (Value.bool true), .is (.agg (cls (lcmF x y))), .is (.agg (cls (gcdF x y))), .is (.agg (cls (lcmF (lcmF x y) (gcdF x y)))), .is (.agg (cls (lcmF x y))), .is (Value.bool true), .is (Value.bool true), .is (Value.bool true), .is (.agg (cls (lcmF x y))), .is (.agg (cls (gcdF x y))), .is (.agg (cls (gcdF (lcmF x y) (gcdF x y)))), .is (.agg (cls (gcdF x y))), .is (Value.bool true), .is (Value.bool true), .is (Value.bool true)] [106, 107, 108, 109, 110, 111, 112, 113, 114, 115, 116, 117, 118, 119, 120, 121, 122, 123, 124, 125, 126, 127, 128, 129, 130, 6] (by kernel_rfl) (by kernel_rfl) (by kernel_rfl) (by rfl) (by kernel_rfl) ((Below.refl _ _).drew) (fun Q' => ?_) (fun K hK wn hs => ?_)
      · refine ⟨?_, ?_, ?_, ?_, ?_, ?_, ?_, ?_, ?_, ?_, ?_, ?_, ?_, ?_, ?_, ?_, ?_, ?_, ?_, ?_, ?_, ?_, ?_, ?_, ?_, ?_, trivial⟩
        · intro a' w' ha hs hw
          have eo7 : a'.tmps[7]? = some (Value.bool true) := (ha.rest 7 (by kernel_rfl)).trans rfl
          exact .inl ⟨wanted_none rfl, wp_val (run_move rfl (ev_tmp eo7)) ⟨_, rfl, rfl, Below.refl _ _, hs⟩⟩
        · intro a' w' ha hs hw
          obtain ⟨v0, e0, q0⟩ := hw 0 (by kernel_rfl) _ _ _ rfl rfl rfl
          obtain rfl : v0 = Value.bool true := q0
          exact .inl ⟨wanted_none rfl, wp_val (run_move rfl (ev_tmp e0)) ⟨_, rfl, rfl, Below.refl _ _, hs⟩⟩
        · intro a' w' ha hs hw
          obtain ⟨v1, e1, q1⟩ := hw 1 (by kernel_rfl) _ _ _ rfl rfl rfl
          obtain rfl : v1 = Value.bool true := q1
          have eo13 : a'.tmps[13]? = some (.pointer (some ⟨y14.heap.size, 0, none⟩)) := (ha.rest 13 (by kernel_rfl)).trans rfl
          exact .inl ⟨wanted_some rfl rfl rfl e1, wp_val (run_load rfl (ev_tmp eo13) (P.out.below hs P.out.lt)) ⟨_, rfl, rfl, Below.refl _ _, hs⟩⟩
        · intro a' w' ha hs hw
          obtain ⟨v1, e1, q1⟩ := hw 1 (by kernel_rfl) _ _ _ rfl rfl rfl
          obtain rfl : v1 = Value.bool true := q1
          have eo15 : a'.tmps[15]? = some (.pointer (some ⟨y16.heap.size, 0, none⟩)) := (ha.rest 15 (by kernel_rfl)).trans rfl
          exact .inl ⟨wanted_some rfl rfl rfl e1, wp_val (run_load rfl (ev_tmp eo15) (Q.out.below hs Q.out.lt)) ⟨_, rfl, rfl, Below.refl _ _, hs⟩⟩
        · intro a' w' ha hs hw
          obtain ⟨v1, e1, q1⟩ := hw 1 (by kernel_rfl) _ _ _ rfl rfl rfl
          obtain rfl : v1 = Value.bool true := q1
          obtain ⟨v2, e2, q2⟩ := hw 2 (by kernel_rfl) _ _ _ rfl rfl rfl
          obtain rfl : v2 = .agg (cls (prF x y)) := q2
          obtain ⟨v3, e3, q3⟩ := hw 3 (by kernel_rfl) _ _ _ rfl rfl rfl
          obtain rfl : v3 = .agg (cls (prF (lcmF x y) (gcdF x y))) := q3
          exact .inl ⟨wanted_some rfl rfl rfl e1, wp_val (run_eql_arr rfl (ev_tmp e2) (ev_tmp e3)) ⟨_, rfl, congrArg Value.bool (E1.out), Below.refl _ _, hs⟩⟩
        · intro a' w' ha hs hw
          obtain ⟨v1, e1, q1⟩ := hw 1 (by kernel_rfl) _ _ _ rfl rfl rfl
          obtain rfl : v1 = Value.bool true := q1
          obtain ⟨v4, e4, q4⟩ := hw 4 (by kernel_rfl) _ _ _ rfl rfl rfl
          obtain rfl : v4 = Value.bool true := q4
          exact .inl ⟨wanted_none rfl, wp_val (run_pick (b := true) rfl (ev_tmp e1) (ev_tmp e4)) ⟨_, rfl, rfl, Below.refl _ _, hs⟩⟩
        · intro a' w' ha hs hw
          obtain ⟨v5, e5, q5⟩ := hw 5 (by kernel_rfl) _ _ _ rfl rfl rfl
          obtain rfl : v5 = Value.bool true := q5
          exact .inl ⟨wanted_none rfl, wp_val (run_move rfl (ev_tmp e5)) ⟨_, rfl, rfl, Below.refl _ _, hs⟩⟩
        · intro a' w' ha hs hw
          obtain ⟨v6, e6, q6⟩ := hw 6 (by kernel_rfl) _ _ _ rfl rfl rfl
          obtain rfl : v6 = Value.bool true := q6
          have eo14 : a'.tmps[14]? = some (Value.int IntKind.i64 (prE x y)) := (ha.rest 14 (by kernel_rfl)).trans rfl
          exact .inl ⟨wanted_some rfl rfl rfl e6, wp_val (run_move rfl (ev_tmp eo14)) ⟨_, rfl, rfl, Below.refl _ _, hs⟩⟩
        · intro a' w' ha hs hw
          obtain ⟨v6, e6, q6⟩ := hw 6 (by kernel_rfl) _ _ _ rfl rfl rfl
          obtain rfl : v6 = Value.bool true := q6
          have eo16 : a'.tmps[16]? = some (Value.int IntKind.i64 (prE (lcmF x y) (gcdF x y))) := (ha.rest 16 (by kernel_rfl)).trans rfl
          exact .inl ⟨wanted_some rfl rfl rfl e6, wp_val (run_move rfl (ev_tmp eo16)) ⟨_, rfl, rfl, Below.refl _ _, hs⟩⟩
        · intro a' w' ha hs hw
          obtain ⟨v6, e6, q6⟩ := hw 6 (by kernel_rfl) _ _ _ rfl rfl rfl
          obtain rfl : v6 = Value.bool true := q6
          obtain ⟨v7, e7, q7⟩ := hw 7 (by kernel_rfl) _ _ _ rfl rfl rfl
          obtain rfl : v7 = Value.int IntKind.i64 (prE x y) := q7
          obtain ⟨v8, e8, q8⟩ := hw 8 (by kernel_rfl) _ _ _ rfl rfl rfl
          obtain rfl : v8 = Value.int IntKind.i64 (prE (lcmF x y) (gcdF x y)) := q8
          exact .inl ⟨wanted_some rfl rfl rfl e6, wp_val (run_eql_int rfl (ev_tmp e7) (ev_tmp e8)) ⟨_, rfl, congrArg Value.bool (E2.out), Below.refl _ _, hs⟩⟩
        · intro a' w' ha hs hw
          obtain ⟨v6, e6, q6⟩ := hw 6 (by kernel_rfl) _ _ _ rfl rfl rfl
          obtain rfl : v6 = Value.bool true := q6
          obtain ⟨v9, e9, q9⟩ := hw 9 (by kernel_rfl) _ _ _ rfl rfl rfl
          obtain rfl : v9 = Value.bool true := q9
          exact .inl ⟨wanted_none rfl, wp_val (run_pick (b := true) rfl (ev_tmp e6) (ev_tmp e9)) ⟨_, rfl, rfl, Below.refl _ _, hs⟩⟩
        · intro a' w' ha hs hw
          obtain ⟨v10, e10, q10⟩ := hw 10 (by kernel_rfl) _ _ _ rfl rfl rfl
          obtain rfl : v10 = Value.bool true := q10
          exact .inl ⟨wanted_none rfl, wp_val (run_move rfl (ev_tmp e10)) ⟨_, rfl, rfl, Below.refl _ _, hs⟩⟩
        · intro a' w' ha hs hw
          obtain ⟨v11, e11, q11⟩ := hw 11 (by kernel_rfl) _ _ _ rfl rfl rfl
          obtain rfl : v11 = Value.bool true := q11
          have eo11 : a'.tmps[11]? = some (.pointer (some ⟨y8.heap.size, 0, none⟩)) := (ha.rest 11 (by kernel_rfl)).trans rfl
          exact .inl ⟨wanted_some rfl rfl rfl e11, wp_val (run_load rfl (ev_tmp eo11) (L.out.below hs L.out.lt)) ⟨_, rfl, rfl, Below.refl _ _, hs⟩⟩
        · intro a' w' ha hs hw
          obtain ⟨v11, e11, q11⟩ := hw 11 (by kernel_rfl) _ _ _ rfl rfl rfl
          obtain rfl : v11 = Value.bool true := q11
          have eo12 : a'.tmps[12]? = some (.pointer (some ⟨y10.heap.size, 0, none⟩)) := (ha.rest 12 (by kernel_rfl)).trans rfl
          exact .inl ⟨wanted_some rfl rfl rfl e11, wp_val (run_load rfl (ev_tmp eo12) (G.out.below hs G.out.lt)) ⟨_, rfl, rfl, Below.refl _ _, hs⟩⟩
        · intro a' w' ha hs hw
          obtain ⟨v11, e11, q11⟩ := hw 11 (by kernel_rfl) _ _ _ rfl rfl rfl
          obtain rfl : v11 = Value.bool true := q11
          obtain ⟨v12, e12, q12⟩ := hw 12 (by kernel_rfl) _ _ _ rfl rfl rfl
          obtain rfl : v12 = .agg (cls (lcmF x y)) := q12
          obtain ⟨v13, e13, q13⟩ := hw 13 (by kernel_rfl) _ _ _ rfl rfl rfl
          obtain rfl : v13 = .agg (cls (gcdF x y)) := q13
          exact .inl ⟨wanted_some rfl rfl rfl e11, call_step rfl Try.func21 (by kernel_rfl) rfl (map_two (ev_tmp e12) (ev_tmp e13)) (lcm_any (lcmF x y) (gcdF x y) _) (fun e w2 he => by obtain ⟨rfl, hb⟩ := he; exact ⟨_, rfl, _, rfl, rfl, hb, hs.trans (hb.mono hs.size)⟩)⟩
        · intro a' w' ha hs hw
          obtain ⟨v11, e11, q11⟩ := hw 11 (by kernel_rfl) _ _ _ rfl rfl rfl
          obtain rfl : v11 = Value.bool true := q11
          have eo11 : a'.tmps[11]? = some (.pointer (some ⟨y8.heap.size, 0, none⟩)) := (ha.rest 11 (by kernel_rfl)).trans rfl
          exact .inl ⟨wanted_some rfl rfl rfl e11, wp_val (run_load rfl (ev_tmp eo11) (L.out.below hs L.out.lt)) ⟨_, rfl, rfl, Below.refl _ _, hs⟩⟩
        · intro a' w' ha hs hw
          obtain ⟨v11, e11, q11⟩ := hw 11 (by kernel_rfl) _ _ _ rfl rfl rfl
          obtain rfl : v11 = Value.bool true := q11
          obtain ⟨v14, e14, q14⟩ := hw 14 (by kernel_rfl) _ _ _ rfl rfl rfl
          obtain rfl : v14 = .agg (cls (lcmF (lcmF x y) (gcdF x y))) := q14
          obtain ⟨v15, e15, q15⟩ := hw 15 (by kernel_rfl) _ _ _ rfl rfl rfl
          obtain rfl : v15 = .agg (cls (lcmF x y)) := q15
          exact .inl ⟨wanted_some rfl rfl rfl e11, wp_val (run_eql_arr rfl (ev_tmp e14) (ev_tmp e15)) ⟨_, rfl, congrArg Value.bool (E3.out), Below.refl _ _, hs⟩⟩
        · intro a' w' ha hs hw
          obtain ⟨v11, e11, q11⟩ := hw 11 (by kernel_rfl) _ _ _ rfl rfl rfl
          obtain rfl : v11 = Value.bool true := q11
          obtain ⟨v16, e16, q16⟩ := hw 16 (by kernel_rfl) _ _ _ rfl rfl rfl
          obtain rfl : v16 = Value.bool true := q16
          exact .inl ⟨wanted_none rfl, wp_val (run_pick (b := true) rfl (ev_tmp e11) (ev_tmp e16)) ⟨_, rfl, rfl, Below.refl _ _, hs⟩⟩
        · intro a' w' ha hs hw
          obtain ⟨v17, e17, q17⟩ := hw 17 (by kernel_rfl) _ _ _ rfl rfl rfl
          obtain rfl : v17 = Value.bool true := q17
          exact .inl ⟨wanted_none rfl, wp_val (run_move rfl (ev_tmp e17)) ⟨_, rfl, rfl, Below.refl _ _, hs⟩⟩
        · intro a' w' ha hs hw
          obtain ⟨v18, e18, q18⟩ := hw 18 (by kernel_rfl) _ _ _ rfl rfl rfl
          obtain rfl : v18 = Value.bool true := q18
          have eo11 : a'.tmps[11]? = some (.pointer (some ⟨y8.heap.size, 0, none⟩)) := (ha.rest 11 (by kernel_rfl)).trans rfl
          exact .inl ⟨wanted_some rfl rfl rfl e18, wp_val (run_load rfl (ev_tmp eo11) (L.out.below hs L.out.lt)) ⟨_, rfl, rfl, Below.refl _ _, hs⟩⟩
        · intro a' w' ha hs hw
          obtain ⟨v18, e18, q18⟩ := hw 18 (by kernel_rfl) _ _ _ rfl rfl rfl
          obtain rfl : v18 = Value.bool true := q18
          have eo12 : a'.tmps[12]? = some (.pointer (some ⟨y10.heap.size, 0, none⟩)) := (ha.rest 12 (by kernel_rfl)).trans rfl
          exact .inl ⟨wanted_some rfl rfl rfl e18, wp_val (run_load rfl (ev_tmp eo12) (G.out.below hs G.out.lt)) ⟨_, rfl, rfl, Below.refl _ _, hs⟩⟩
        · intro a' w' ha hs hw
          obtain ⟨v18, e18, q18⟩ := hw 18 (by kernel_rfl) _ _ _ rfl rfl rfl
          obtain rfl : v18 = Value.bool true := q18
          obtain ⟨v19, e19, q19⟩ := hw 19 (by kernel_rfl) _ _ _ rfl rfl rfl
          obtain rfl : v19 = .agg (cls (lcmF x y)) := q19
          obtain ⟨v20, e20, q20⟩ := hw 20 (by kernel_rfl) _ _ _ rfl rfl rfl
          obtain rfl : v20 = .agg (cls (gcdF x y)) := q20
          exact .inl ⟨wanted_some rfl rfl rfl e18, call_step rfl Try.func23 (by kernel_rfl) rfl (map_two (ev_tmp e19) (ev_tmp e20)) (gcd_any (lcmF x y) (gcdF x y) _) (fun e w2 he => by obtain ⟨rfl, hb⟩ := he; exact ⟨_, rfl, _, rfl, rfl, hb, hs.trans (hb.mono hs.size)⟩)⟩
        · intro a' w' ha hs hw
          obtain ⟨v18, e18, q18⟩ := hw 18 (by kernel_rfl) _ _ _ rfl rfl rfl
          obtain rfl : v18 = Value.bool true := q18
          have eo12 : a'.tmps[12]? = some (.pointer (some ⟨y10.heap.size, 0, none⟩)) := (ha.rest 12 (by kernel_rfl)).trans rfl
          exact .inl ⟨wanted_some rfl rfl rfl e18, wp_val (run_load rfl (ev_tmp eo12) (G.out.below hs G.out.lt)) ⟨_, rfl, rfl, Below.refl _ _, hs⟩⟩
        · intro a' w' ha hs hw
          obtain ⟨v18, e18, q18⟩ := hw 18 (by kernel_rfl) _ _ _ rfl rfl rfl
          obtain rfl : v18 = Value.bool true := q18
          obtain ⟨v21, e21, q21⟩ := hw 21 (by kernel_rfl) _ _ _ rfl rfl rfl
          obtain rfl : v21 = .agg (cls (gcdF (lcmF x y) (gcdF x y))) := q21
          obtain ⟨v22, e22, q22⟩ := hw 22 (by kernel_rfl) _ _ _ rfl rfl rfl
          obtain rfl : v22 = .agg (cls (gcdF x y)) := q22
          exact .inl ⟨wanted_some rfl rfl rfl e18, wp_val (run_eql_arr rfl (ev_tmp e21) (ev_tmp e22)) ⟨_, rfl, congrArg Value.bool (E4.out), Below.refl _ _, hs⟩⟩
        · intro a' w' ha hs hw
          obtain ⟨v18, e18, q18⟩ := hw 18 (by kernel_rfl) _ _ _ rfl rfl rfl
          obtain rfl : v18 = Value.bool true := q18
          obtain ⟨v23, e23, q23⟩ := hw 23 (by kernel_rfl) _ _ _ rfl rfl rfl
          obtain rfl : v23 = Value.bool true := q23
          exact .inl ⟨wanted_none rfl, wp_val (run_pick (b := true) rfl (ev_tmp e18) (ev_tmp e23)) ⟨_, rfl, rfl, Below.refl _ _, hs⟩⟩
        · intro a' w' ha hs hw
          obtain ⟨v24, e24, q24⟩ := hw 24 (by kernel_rfl) _ _ _ rfl rfl rfl
          obtain rfl : v24 = Value.bool true := q24
          exact .inl ⟨wanted_none rfl, wp_val (run_assign rfl (ev_tmp e24)) ⟨_, rfl, rfl, Below.refl _ _, hs⟩⟩
      simp only [allK]
      simp only [setAll, List.set_cons_succ, List.set_cons_zero]
      refine hK _ _ ?_
      clear hK K
      replace A := Lib.hid (A.out.below hs A.out.lt)
      replace B := Lib.hid (B.out.below hs B.out.lt)
      replace C := Lib.hid (C.out.below hs C.out.lt)
      replace L := Lib.hid (L.out.below hs L.out.lt)
      replace G := Lib.hid (G.out.below hs G.out.lt)
      replace P := Lib.hid (P.out.below hs P.out.lt)
      replace Q := Lib.hid (Q.out.below hs Q.out.lt)
      replace DW := Lib.hid (below_link DW.out hs DW.out.size)
      clear hs
      generalize wn = z18 at *
      go_wp2_with fail
      go_ret
      exact ⟨rfl, DW.out⟩
    · have H3 := Lib.hid (decide_eq_false h3)
      have N2 := Lib.hid (show (false != decide (dv z (gcdF x y))) = false from lat4 h3)
      clear h3
      go_wp2_with fail
      refine region_run (fun w' => Below z12.heap.size z12 w') [.is (.agg (cls x)), .is (.agg (cls z)), .is (Value.bool false), .is (Value.bool false), .is undef, .is undef, .is undef, .is (Value.bool false), .is (.agg (cls (lcmF x y))), .is (.agg (cls z)), .is (Value.bool (decide (dv (lcmF x y) z))), .is (Value.bool false), .is (Value.bool false), .is (.agg (cls z)), .is (.agg (cls x)), .is (Value.bool false), .is (Value.bool false), .is undef, .is undef, .is undef, .is (Value.bool false), .is (.agg (cls z)), .is (.agg (cls (gcdF x y))), .is (Value.bool (decide (dv z (gcdF x y)))), .is (Value.bool false), .is (Value.bool false)] [68, 69, 70, 71, 72, 73, 74, 75, 76, 77, 78, 79, 80, 81, 82, 83, 84, 85, 86, 87, 88, 89, 90, 91, 92, 93] (by kernel_rfl) (by kernel_rfl) (by kernel_rfl) (by rfl) (by kernel_rfl) ((Below.refl _ _).drew) (fun Q' => ?_) (fun K hK wn hs => ?_)
      · refine ⟨?_, ?_, ?_, ?_, ?_, ?_, ?_, ?_, ?_, ?_, ?_, ?_, ?_, ?_, ?_, ?_, ?_, ?_, ?_, ?_, ?_, ?_, ?_, ?_, ?_, ?_, trivial⟩
        · intro a' w' ha hs hw
          have eo8 : a'.tmps[8]? = some (.pointer (some ⟨y2.heap.size, 0, none⟩)) := (ha.rest 8 (by kernel_rfl)).trans rfl
          exact .inl ⟨wanted_none rfl, wp_val (run_load rfl (ev_tmp eo8) (A.out.below hs A.out.lt)) ⟨_, rfl, rfl, Below.refl _ _, hs⟩⟩
        · intro a' w' ha hs hw
          have eo10 : a'.tmps[10]? = some (.pointer (some ⟨y6.heap.size, 0, none⟩)) := (ha.rest 10 (by kernel_rfl)).trans rfl
          exact .inl ⟨wanted_none rfl, wp_val (run_load rfl (ev_tmp eo10) (C.out.below hs C.out.lt)) ⟨_, rfl, rfl, Below.refl _ _, hs⟩⟩
        · intro a' w' ha hs hw
          obtain ⟨v0, e0, q0⟩ := hw 0 (by kernel_rfl) _ _ _ rfl rfl rfl
          obtain rfl : v0 = .agg (cls x) := q0
          obtain ⟨v1, e1, q1⟩ := hw 1 (by kernel_rfl) _ _ _ rfl rfl rfl
          obtain rfl : v1 = .agg (cls z) := q1
          exact .inl ⟨wanted_none rfl, call_step rfl Try.func17 (by kernel_rfl) rfl (map_two (ev_tmp e0) (ev_tmp e1)) (divides_is (x) (z) (false) _ (H1.out)) (fun e w2 he => by obtain ⟨rfl, hb⟩ := he; exact ⟨_, rfl, _, rfl, rfl, hb, hs.trans (hb.mono hs.size)⟩)⟩
        · intro a' w' ha hs hw
          obtain ⟨v2, e2, q2⟩ := hw 2 (by kernel_rfl) _ _ _ rfl rfl rfl
          obtain rfl : v2 = Value.bool false := q2
          exact .inl ⟨wanted_none rfl, wp_val (run_move rfl (ev_tmp e2)) ⟨_, rfl, rfl, Below.refl _ _, hs⟩⟩
        · intro a' w' ha hs hw
          obtain ⟨v3, e3, q3⟩ := hw 3 (by kernel_rfl) _ _ _ rfl rfl rfl
          obtain rfl : v3 = Value.bool false := q3
          exact .inr ⟨wanted_off rfl rfl rfl e3 (by decide), rfl⟩
        · intro a' w' ha hs hw
          obtain ⟨v3, e3, q3⟩ := hw 3 (by kernel_rfl) _ _ _ rfl rfl rfl
          obtain rfl : v3 = Value.bool false := q3
          exact .inr ⟨wanted_off rfl rfl rfl e3 (by decide), rfl⟩
        · intro a' w' ha hs hw
          obtain ⟨v3, e3, q3⟩ := hw 3 (by kernel_rfl) _ _ _ rfl rfl rfl
          obtain rfl : v3 = Value.bool false := q3
          exact .inr ⟨wanted_off rfl rfl rfl e3 (by decide), rfl⟩
        · intro a' w' ha hs hw
          obtain ⟨v3, e3, q3⟩ := hw 3 (by kernel_rfl) _ _ _ rfl rfl rfl
          obtain rfl : v3 = Value.bool false := q3
          exact .inl ⟨wanted_none rfl, wp_val (run_pick (b := false) rfl (ev_tmp e3) rfl) ⟨_, rfl, rfl, Below.refl _ _, hs⟩⟩
        · intro a' w' ha hs hw
          have eo11 : a'.tmps[11]? = some (.pointer (some ⟨y8.heap.size, 0, none⟩)) := (ha.rest 11 (by kernel_rfl)).trans rfl
          exact .inl ⟨wanted_none rfl, wp_val (run_load rfl (ev_tmp eo11) (L.out.below hs L.out.lt)) ⟨_, rfl, rfl, Below.refl _ _, hs⟩⟩
        · intro a' w' ha hs hw
          have eo10 : a'.tmps[10]? = some (.pointer (some ⟨y6.heap.size, 0, none⟩)) := (ha.rest 10 (by kernel_rfl)).trans rfl
          exact .inl ⟨wanted_none rfl, wp_val (run_load rfl (ev_tmp eo10) (C.out.below hs C.out.lt)) ⟨_, rfl, rfl, Below.refl _ _, hs⟩⟩
        · intro a' w' ha hs hw
          obtain ⟨v8, e8, q8⟩ := hw 8 (by kernel_rfl) _ _ _ rfl rfl rfl
          obtain rfl : v8 = .agg (cls (lcmF x y)) := q8
          obtain ⟨v9, e9, q9⟩ := hw 9 (by kernel_rfl) _ _ _ rfl rfl rfl
          obtain rfl : v9 = .agg (cls z) := q9
          exact .inl ⟨wanted_none rfl, call_step rfl Try.func17 (by kernel_rfl) rfl (map_two (ev_tmp e8) (ev_tmp e9)) (divides_is (lcmF x y) (z) (decide (dv (lcmF x y) z)) _ (rfl)) (fun e w2 he => by obtain ⟨rfl, hb⟩ := he; exact ⟨_, rfl, _, rfl, rfl, hb, hs.trans (hb.mono hs.size)⟩)⟩
        · intro a' w' ha hs hw
          obtain ⟨v7, e7, q7⟩ := hw 7 (by kernel_rfl) _ _ _ rfl rfl rfl
          obtain rfl : v7 = Value.bool false := q7
          obtain ⟨v10, e10, q10⟩ := hw 10 (by kernel_rfl) _ _ _ rfl rfl rfl
          obtain rfl : v10 = Value.bool (decide (dv (lcmF x y) z)) := q10
          exact .inl ⟨wanted_none rfl, wp_val (run_neq_bool rfl (ev_tmp e7) (ev_tmp e10)) ⟨_, rfl, congrArg Value.bool (N1.out), Below.refl _ _, hs⟩⟩
        · intro a' w' ha hs hw
          obtain ⟨v11, e11, q11⟩ := hw 11 (by kernel_rfl) _ _ _ rfl rfl rfl
          obtain rfl : v11 = Value.bool false := q11
          exact .inl ⟨wanted_none rfl, wp_val (run_move rfl (ev_tmp e11)) ⟨_, rfl, rfl, Below.refl _ _, hs⟩⟩
        · intro a' w' ha hs hw
          obtain ⟨v12, e12, q12⟩ := hw 12 (by kernel_rfl) _ _ _ rfl rfl rfl
          obtain rfl : v12 = Value.bool false := q12
          have eo10 : a'.tmps[10]? = some (.pointer (some ⟨y6.heap.size, 0, none⟩)) := (ha.rest 10 (by kernel_rfl)).trans rfl
          exact .inl ⟨wanted_some rfl rfl rfl e12, wp_val (run_load rfl (ev_tmp eo10) (C.out.below hs C.out.lt)) ⟨_, rfl, rfl, Below.refl _ _, hs⟩⟩
        · intro a' w' ha hs hw
          obtain ⟨v12, e12, q12⟩ := hw 12 (by kernel_rfl) _ _ _ rfl rfl rfl
          obtain rfl : v12 = Value.bool false := q12
          have eo8 : a'.tmps[8]? = some (.pointer (some ⟨y2.heap.size, 0, none⟩)) := (ha.rest 8 (by kernel_rfl)).trans rfl
          exact .inl ⟨wanted_some rfl rfl rfl e12, wp_val (run_load rfl (ev_tmp eo8) (A.out.below hs A.out.lt)) ⟨_, rfl, rfl, Below.refl _ _, hs⟩⟩
        · intro a' w' ha hs hw
          obtain ⟨v12, e12, q12⟩ := hw 12 (by kernel_rfl) _ _ _ rfl rfl rfl
          obtain rfl : v12 = Value.bool false := q12
          obtain ⟨v13, e13, q13⟩ := hw 13 (by kernel_rfl) _ _ _ rfl rfl rfl
          obtain rfl : v13 = .agg (cls z) := q13
          obtain ⟨v14, e14, q14⟩ := hw 14 (by kernel_rfl) _ _ _ rfl rfl rfl
          obtain rfl : v14 = .agg (cls x) := q14
          exact .inl ⟨wanted_some rfl rfl rfl e12, call_step rfl Try.func17 (by kernel_rfl) rfl (map_two (ev_tmp e13) (ev_tmp e14)) (divides_is (z) (x) (false) _ (H3.out)) (fun e w2 he => by obtain ⟨rfl, hb⟩ := he; exact ⟨_, rfl, _, rfl, rfl, hb, hs.trans (hb.mono hs.size)⟩)⟩
        · intro a' w' ha hs hw
          obtain ⟨v12, e12, q12⟩ := hw 12 (by kernel_rfl) _ _ _ rfl rfl rfl
          obtain rfl : v12 = Value.bool false := q12
          obtain ⟨v15, e15, q15⟩ := hw 15 (by kernel_rfl) _ _ _ rfl rfl rfl
          obtain rfl : v15 = Value.bool false := q15
          exact .inl ⟨wanted_some rfl rfl rfl e12, wp_val (run_move rfl (ev_tmp e15)) ⟨_, rfl, rfl, Below.refl _ _, hs⟩⟩
        · intro a' w' ha hs hw
          obtain ⟨v16, e16, q16⟩ := hw 16 (by kernel_rfl) _ _ _ rfl rfl rfl
          obtain rfl : v16 = Value.bool false := q16
          exact .inr ⟨wanted_off rfl rfl rfl e16 (by decide), rfl⟩
        · intro a' w' ha hs hw
          obtain ⟨v16, e16, q16⟩ := hw 16 (by kernel_rfl) _ _ _ rfl rfl rfl
          obtain rfl : v16 = Value.bool false := q16
          exact .inr ⟨wanted_off rfl rfl rfl e16 (by decide), rfl⟩
        · intro a' w' ha hs hw
          obtain ⟨v16, e16, q16⟩ := hw 16 (by kernel_rfl) _ _ _ rfl rfl rfl
          obtain rfl : v16 = Value.bool false := q16
          exact .inr ⟨wanted_off rfl rfl rfl e16 (by decide), rfl⟩
        · intro a' w' ha hs hw
          obtain ⟨v12, e12, q12⟩ := hw 12 (by kernel_rfl) _ _ _ rfl rfl rfl
          obtain rfl : v12 = Value.bool false := q12
          obtain ⟨v16, e16, q16⟩ := hw 16 (by kernel_rfl) _ _ _ rfl rfl rfl
          obtain rfl : v16 = Value.bool false := q16
          exact .inl ⟨wanted_some rfl rfl rfl e12, wp_val (run_pick (b := false) rfl (ev_tmp e16) rfl) ⟨_, rfl, rfl, Below.refl _ _, hs⟩⟩
        · intro a' w' ha hs hw
          obtain ⟨v12, e12, q12⟩ := hw 12 (by kernel_rfl) _ _ _ rfl rfl rfl
          obtain rfl : v12 = Value.bool false := q12
          have eo10 : a'.tmps[10]? = some (.pointer (some ⟨y6.heap.size, 0, none⟩)) := (ha.rest 10 (by kernel_rfl)).trans rfl
          exact .inl ⟨wanted_some rfl rfl rfl e12, wp_val (run_load rfl (ev_tmp eo10) (C.out.below hs C.out.lt)) ⟨_, rfl, rfl, Below.refl _ _, hs⟩⟩
        · intro a' w' ha hs hw
          obtain ⟨v12, e12, q12⟩ := hw 12 (by kernel_rfl) _ _ _ rfl rfl rfl
          obtain rfl : v12 = Value.bool false := q12
          have eo12 : a'.tmps[12]? = some (.pointer (some ⟨y10.heap.size, 0, none⟩)) := (ha.rest 12 (by kernel_rfl)).trans rfl
          exact .inl ⟨wanted_some rfl rfl rfl e12, wp_val (run_load rfl (ev_tmp eo12) (G.out.below hs G.out.lt)) ⟨_, rfl, rfl, Below.refl _ _, hs⟩⟩
        · intro a' w' ha hs hw
          obtain ⟨v12, e12, q12⟩ := hw 12 (by kernel_rfl) _ _ _ rfl rfl rfl
          obtain rfl : v12 = Value.bool false := q12
          obtain ⟨v21, e21, q21⟩ := hw 21 (by kernel_rfl) _ _ _ rfl rfl rfl
          obtain rfl : v21 = .agg (cls z) := q21
          obtain ⟨v22, e22, q22⟩ := hw 22 (by kernel_rfl) _ _ _ rfl rfl rfl
          obtain rfl : v22 = .agg (cls (gcdF x y)) := q22
          exact .inl ⟨wanted_some rfl rfl rfl e12, call_step rfl Try.func17 (by kernel_rfl) rfl (map_two (ev_tmp e21) (ev_tmp e22)) (divides_is (z) (gcdF x y) (decide (dv z (gcdF x y))) _ (rfl)) (fun e w2 he => by obtain ⟨rfl, hb⟩ := he; exact ⟨_, rfl, _, rfl, rfl, hb, hs.trans (hb.mono hs.size)⟩)⟩
        · intro a' w' ha hs hw
          obtain ⟨v12, e12, q12⟩ := hw 12 (by kernel_rfl) _ _ _ rfl rfl rfl
          obtain rfl : v12 = Value.bool false := q12
          obtain ⟨v20, e20, q20⟩ := hw 20 (by kernel_rfl) _ _ _ rfl rfl rfl
          obtain rfl : v20 = Value.bool false := q20
          obtain ⟨v23, e23, q23⟩ := hw 23 (by kernel_rfl) _ _ _ rfl rfl rfl
          obtain rfl : v23 = Value.bool (decide (dv z (gcdF x y))) := q23
          exact .inl ⟨wanted_some rfl rfl rfl e12, wp_val (run_neq_bool rfl (ev_tmp e20) (ev_tmp e23)) ⟨_, rfl, congrArg Value.bool (N2.out), Below.refl _ _, hs⟩⟩
        · intro a' w' ha hs hw
          obtain ⟨v12, e12, q12⟩ := hw 12 (by kernel_rfl) _ _ _ rfl rfl rfl
          obtain rfl : v12 = Value.bool false := q12
          obtain ⟨v24, e24, q24⟩ := hw 24 (by kernel_rfl) _ _ _ rfl rfl rfl
          obtain rfl : v24 = Value.bool false := q24
          exact .inl ⟨wanted_none rfl, wp_val (run_pick (b := false) rfl (ev_tmp e12) (ev_tmp e24)) ⟨_, rfl, rfl, Below.refl _ _, hs⟩⟩
      simp only [allK]
      simp only [setAll, List.set_cons_succ, List.set_cons_zero]
      refine hK _ _ ?_
      clear hK K
      replace A := Lib.hid (A.out.below hs A.out.lt)
      replace B := Lib.hid (B.out.below hs B.out.lt)
      replace C := Lib.hid (C.out.below hs C.out.lt)
      replace L := Lib.hid (L.out.below hs L.out.lt)
      replace G := Lib.hid (G.out.below hs G.out.lt)
      replace DW := Lib.hid (below_link DW.out hs DW.out.size)
      clear hs
      generalize wn = z13 at *
      go_wp2_with (first | (refine ld _ _ A.out rfl rfl rfl ?_) | (refine ld _ _ B.out rfl rfl rfl ?_) | fail)
      refine (mul_is x y _ V0.out V1.out).mono ?_
      rintro e y14 ⟨rfl, hb⟩
      replace A := Lib.hid (A.out.below hb A.out.lt)
      replace B := Lib.hid (B.out.below hb B.out.lt)
      replace C := Lib.hid (C.out.below hb C.out.lt)
      replace L := Lib.hid (L.out.below hb L.out.lt)
      replace G := Lib.hid (G.out.below hb G.out.lt)
      replace DW := Lib.hid (below_link DW.out hb DW.out.size)
      clear hb
      go_upto_region 14 with fail
      obtain ⟨w15, hW⟩ : ∃ w15, w15 = y14.alloc (Obj.cells #[Value.int IntKind.i64 ((prF x y) 0), Value.int IntKind.i64 ((prF x y) 1), Value.int IntKind.i64 ((prF x y) 2), Value.int IntKind.i64 ((prF x y) 3), Value.int IntKind.i64 ((prF x y) 4), Value.int IntKind.i64 ((prF x y) 5), Value.int IntKind.i64 ((prF x y) 6), Value.int IntKind.i64 ((prF x y) 7)] 27) := ⟨_, rfl⟩
      rw [← hW]
      have P : Hid (Row w15 y14.heap.size (prF x y)) := by rw [hW]; exact Row.new y14 (prF x y)
      have hb : Below y14.heap.size y14 w15 := by rw [hW]; exact (Below.refl _ _).alloc (Nat.le_refl _) _
      replace A := Lib.hid (A.out.below hb A.out.lt)
      replace B := Lib.hid (B.out.below hb B.out.lt)
      replace C := Lib.hid (C.out.below hb C.out.lt)
      replace L := Lib.hid (L.out.below hb L.out.lt)
      replace G := Lib.hid (G.out.below hb G.out.lt)
      replace DW := Lib.hid (below_link DW.out hb DW.out.size)
      clear hW hb
      go_wp2_with (first | (refine ld _ _ L.out rfl rfl rfl ?_) | (refine ld _ _ G.out rfl rfl rfl ?_) | fail)
      refine (mul_is (lcmF x y) (gcdF x y) _ (va_lcm V0.out V1.out) (va_gcd V0.out V1.out)).mono ?_
      rintro e y16 ⟨rfl, hb⟩
      replace A := Lib.hid (A.out.below hb A.out.lt)
      replace B := Lib.hid (B.out.below hb B.out.lt)
      replace C := Lib.hid (C.out.below hb C.out.lt)
      replace L := Lib.hid (L.out.below hb L.out.lt)
      replace G := Lib.hid (G.out.below hb G.out.lt)
      replace P := Lib.hid (P.out.below hb P.out.lt)
      replace DW := Lib.hid (below_link DW.out hb DW.out.size)
      clear hb
      go_upto_region 15 with fail
      obtain ⟨w17, hW⟩ : ∃ w17, w17 = y16.alloc (Obj.cells #[Value.int IntKind.i64 ((prF (lcmF x y) (gcdF x y)) 0), Value.int IntKind.i64 ((prF (lcmF x y) (gcdF x y)) 1), Value.int IntKind.i64 ((prF (lcmF x y) (gcdF x y)) 2), Value.int IntKind.i64 ((prF (lcmF x y) (gcdF x y)) 3), Value.int IntKind.i64 ((prF (lcmF x y) (gcdF x y)) 4), Value.int IntKind.i64 ((prF (lcmF x y) (gcdF x y)) 5), Value.int IntKind.i64 ((prF (lcmF x y) (gcdF x y)) 6), Value.int IntKind.i64 ((prF (lcmF x y) (gcdF x y)) 7)] 27) := ⟨_, rfl⟩
      rw [← hW]
      have Q : Hid (Row w17 y16.heap.size (prF (lcmF x y) (gcdF x y))) := by rw [hW]; exact Row.new y16 (prF (lcmF x y) (gcdF x y))
      have hb : Below y16.heap.size y16 w17 := by rw [hW]; exact (Below.refl _ _).alloc (Nat.le_refl _) _
      replace A := Lib.hid (A.out.below hb A.out.lt)
      replace B := Lib.hid (B.out.below hb B.out.lt)
      replace C := Lib.hid (C.out.below hb C.out.lt)
      replace L := Lib.hid (L.out.below hb L.out.lt)
      replace G := Lib.hid (G.out.below hb G.out.lt)
      replace P := Lib.hid (P.out.below hb P.out.lt)
      replace DW := Lib.hid (below_link DW.out hb DW.out.size)
      clear hW hb
      have E1 := Lib.hid (pr_lat x y); have E2 := Lib.hid (prE_lat x y); have E3 := Lib.hid (lcm_lat x y); have E4 := Lib.hid (gcd_lat x y)
      refine region_run (fun w' => Below w17.heap.size w17 w') [.is (Value.bool true), .is (Value.bool true), .is (.agg (cls (prF x y))), .is (.agg (cls (prF (lcmF x y) (gcdF x y)))), .is (Value.bool true), .is (Value.bool true), .is (Value.bool true), .is (Value.int IntKind.i64 (prE x y)), .is (Value.int IntKind.i64 (prE (lcmF x y) (gcdF x y))), .is (Value.bool true), .is (Value.bool true), .is (Value.bool true), .is (.agg (cls (lcmF x y))), .is (.agg (cls (gcdF x y))), .is (.agg (cls (lcmF (lcmF x y) (gcdF x y)))), .is (.agg (cls (lcmF x y))), .is (Value.bool true), .is (Value.bool true), .is (Value.bool true), .is (.agg (cls (lcmF x y))), .is (.agg (cls (gcdF x y))), .is (.agg (cls (gcdF (lcmF x y) (gcdF x y)))), .is (.agg (cls (gcdF x y))), .is (Value.bool true), .is (Value.bool true), .is (Value.bool true)] [106, 107, 108, 109, 110, 111, 112, 113, 114, 115, 116, 117, 118, 119, 120, 121, 122, 123, 124, 125, 126, 127, 128, 129, 130, 6] (by kernel_rfl) (by kernel_rfl) (by kernel_rfl) (by rfl) (by kernel_rfl) ((Below.refl _ _).drew) (fun Q' => ?_) (fun K hK wn hs => ?_)
      · refine ⟨?_, ?_, ?_, ?_, ?_, ?_, ?_, ?_, ?_, ?_, ?_, ?_, ?_, ?_, ?_, ?_, ?_, ?_, ?_, ?_, ?_, ?_, ?_, ?_, ?_, ?_, trivial⟩
        · intro a' w' ha hs hw
          have eo7 : a'.tmps[7]? = some (Value.bool true) := (ha.rest 7 (by kernel_rfl)).trans rfl
          exact .inl ⟨wanted_none rfl, wp_val (run_move rfl (ev_tmp eo7)) ⟨_, rfl, rfl, Below.refl _ _, hs⟩⟩
        · intro a' w' ha hs hw
          obtain ⟨v0, e0, q0⟩ := hw 0 (by kernel_rfl) _ _ _ rfl rfl rfl
          obtain rfl : v0 = Value.bool true := q0
          exact .inl ⟨wanted_none rfl, wp_val (run_move rfl (ev_tmp e0)) ⟨_, rfl, rfl, Below.refl _ _, hs⟩⟩
        · intro a' w' ha hs hw
          obtain ⟨v1, e1, q1⟩ := hw 1 (by kernel_rfl) _ _ _ rfl rfl rfl
          obtain rfl : v1 = Value.bool true := q1
          have eo13 : a'.tmps[13]? = some (.pointer (some ⟨y14.heap.size, 0, none⟩)) := (ha.rest 13 (by kernel_rfl)).trans rfl
          exact .inl ⟨wanted_some rfl rfl rfl e1, wp_val (run_load rfl (ev_tmp eo13) (P.out.below hs P.out.lt)) ⟨_, rfl, rfl, Below.refl _ _, hs⟩⟩
        · intro a' w' ha hs hw
          obtain ⟨v1, e1, q1⟩ := hw 1 (by kernel_rfl) _ _ _ rfl rfl rfl
          obtain rfl : v1 = Value.bool true := q1
          have eo15 : a'.tmps[15]? = some (.pointer (some ⟨y16.heap.size, 0, none⟩)) := (ha.rest 15 (by kernel_rfl)).trans rfl
          exact .inl ⟨wanted_some rfl rfl rfl e1, wp_val (run_load rfl (ev_tmp eo15) (Q.out.below hs Q.out.lt)) ⟨_, rfl, rfl, Below.refl _ _, hs⟩⟩
        · intro a' w' ha hs hw
          obtain ⟨v1, e1, q1⟩ := hw 1 (by kernel_rfl) _ _ _ rfl rfl rfl
          obtain rfl : v1 = Value.bool true := q1
          obtain ⟨v2, e2, q2⟩ := hw 2 (by kernel_rfl) _ _ _ rfl rfl rfl
          obtain rfl : v2 = .agg (cls (prF x y)) := q2
          obtain ⟨v3, e3, q3⟩ := hw 3 (by kernel_rfl) _ _ _ rfl rfl rfl
          obtain rfl : v3 = .agg (cls (prF (lcmF x y) (gcdF x y))) := q3
          exact .inl ⟨wanted_some rfl rfl rfl e1, wp_val (run_eql_arr rfl (ev_tmp e2) (ev_tmp e3)) ⟨_, rfl, congrArg Value.bool (E1.out), Below.refl _ _, hs⟩⟩
        · intro a' w' ha hs hw
          obtain ⟨v1, e1, q1⟩ := hw 1 (by kernel_rfl) _ _ _ rfl rfl rfl
          obtain rfl : v1 = Value.bool true := q1
          obtain ⟨v4, e4, q4⟩ := hw 4 (by kernel_rfl) _ _ _ rfl rfl rfl
          obtain rfl : v4 = Value.bool true := q4
          exact .inl ⟨wanted_none rfl, wp_val (run_pick (b := true) rfl (ev_tmp e1) (ev_tmp e4)) ⟨_, rfl, rfl, Below.refl _ _, hs⟩⟩
        · intro a' w' ha hs hw
          obtain ⟨v5, e5, q5⟩ := hw 5 (by kernel_rfl) _ _ _ rfl rfl rfl
          obtain rfl : v5 = Value.bool true := q5
          exact .inl ⟨wanted_none rfl, wp_val (run_move rfl (ev_tmp e5)) ⟨_, rfl, rfl, Below.refl _ _, hs⟩⟩
        · intro a' w' ha hs hw
          obtain ⟨v6, e6, q6⟩ := hw 6 (by kernel_rfl) _ _ _ rfl rfl rfl
          obtain rfl : v6 = Value.bool true := q6
          have eo14 : a'.tmps[14]? = some (Value.int IntKind.i64 (prE x y)) := (ha.rest 14 (by kernel_rfl)).trans rfl
          exact .inl ⟨wanted_some rfl rfl rfl e6, wp_val (run_move rfl (ev_tmp eo14)) ⟨_, rfl, rfl, Below.refl _ _, hs⟩⟩
        · intro a' w' ha hs hw
          obtain ⟨v6, e6, q6⟩ := hw 6 (by kernel_rfl) _ _ _ rfl rfl rfl
          obtain rfl : v6 = Value.bool true := q6
          have eo16 : a'.tmps[16]? = some (Value.int IntKind.i64 (prE (lcmF x y) (gcdF x y))) := (ha.rest 16 (by kernel_rfl)).trans rfl
          exact .inl ⟨wanted_some rfl rfl rfl e6, wp_val (run_move rfl (ev_tmp eo16)) ⟨_, rfl, rfl, Below.refl _ _, hs⟩⟩
        · intro a' w' ha hs hw
          obtain ⟨v6, e6, q6⟩ := hw 6 (by kernel_rfl) _ _ _ rfl rfl rfl
          obtain rfl : v6 = Value.bool true := q6
          obtain ⟨v7, e7, q7⟩ := hw 7 (by kernel_rfl) _ _ _ rfl rfl rfl
          obtain rfl : v7 = Value.int IntKind.i64 (prE x y) := q7
          obtain ⟨v8, e8, q8⟩ := hw 8 (by kernel_rfl) _ _ _ rfl rfl rfl
          obtain rfl : v8 = Value.int IntKind.i64 (prE (lcmF x y) (gcdF x y)) := q8
          exact .inl ⟨wanted_some rfl rfl rfl e6, wp_val (run_eql_int rfl (ev_tmp e7) (ev_tmp e8)) ⟨_, rfl, congrArg Value.bool (E2.out), Below.refl _ _, hs⟩⟩
        · intro a' w' ha hs hw
          obtain ⟨v6, e6, q6⟩ := hw 6 (by kernel_rfl) _ _ _ rfl rfl rfl
          obtain rfl : v6 = Value.bool true := q6
          obtain ⟨v9, e9, q9⟩ := hw 9 (by kernel_rfl) _ _ _ rfl rfl rfl
          obtain rfl : v9 = Value.bool true := q9
          exact .inl ⟨wanted_none rfl, wp_val (run_pick (b := true) rfl (ev_tmp e6) (ev_tmp e9)) ⟨_, rfl, rfl, Below.refl _ _, hs⟩⟩
        · intro a' w' ha hs hw
          obtain ⟨v10, e10, q10⟩ := hw 10 (by kernel_rfl) _ _ _ rfl rfl rfl
          obtain rfl : v10 = Value.bool true := q10
          exact .inl ⟨wanted_none rfl, wp_val (run_move rfl (ev_tmp e10)) ⟨_, rfl, rfl, Below.refl _ _, hs⟩⟩
        · intro a' w' ha hs hw
          obtain ⟨v11, e11, q11⟩ := hw 11 (by kernel_rfl) _ _ _ rfl rfl rfl
          obtain rfl : v11 = Value.bool true := q11
          have eo11 : a'.tmps[11]? = some (.pointer (some ⟨y8.heap.size, 0, none⟩)) := (ha.rest 11 (by kernel_rfl)).trans rfl
          exact .inl ⟨wanted_some rfl rfl rfl e11, wp_val (run_load rfl (ev_tmp eo11) (L.out.below hs L.out.lt)) ⟨_, rfl, rfl, Below.refl _ _, hs⟩⟩
        · intro a' w' ha hs hw
          obtain ⟨v11, e11, q11⟩ := hw 11 (by kernel_rfl) _ _ _ rfl rfl rfl
          obtain rfl : v11 = Value.bool true := q11
          have eo12 : a'.tmps[12]? = some (.pointer (some ⟨y10.heap.size, 0, none⟩)) := (ha.rest 12 (by kernel_rfl)).trans rfl
          exact .inl ⟨wanted_some rfl rfl rfl e11, wp_val (run_load rfl (ev_tmp eo12) (G.out.below hs G.out.lt)) ⟨_, rfl, rfl, Below.refl _ _, hs⟩⟩
        · intro a' w' ha hs hw
          obtain ⟨v11, e11, q11⟩ := hw 11 (by kernel_rfl) _ _ _ rfl rfl rfl
          obtain rfl : v11 = Value.bool true := q11
          obtain ⟨v12, e12, q12⟩ := hw 12 (by kernel_rfl) _ _ _ rfl rfl rfl
          obtain rfl : v12 = .agg (cls (lcmF x y)) := q12
          obtain ⟨v13, e13, q13⟩ := hw 13 (by kernel_rfl) _ _ _ rfl rfl rfl
          obtain rfl : v13 = .agg (cls (gcdF x y)) := q13
          exact .inl ⟨wanted_some rfl rfl rfl e11, call_step rfl Try.func21 (by kernel_rfl) rfl (map_two (ev_tmp e12) (ev_tmp e13)) (lcm_any (lcmF x y) (gcdF x y) _) (fun e w2 he => by obtain ⟨rfl, hb⟩ := he; exact ⟨_, rfl, _, rfl, rfl, hb, hs.trans (hb.mono hs.size)⟩)⟩
        · intro a' w' ha hs hw
          obtain ⟨v11, e11, q11⟩ := hw 11 (by kernel_rfl) _ _ _ rfl rfl rfl
          obtain rfl : v11 = Value.bool true := q11
          have eo11 : a'.tmps[11]? = some (.pointer (some ⟨y8.heap.size, 0, none⟩)) := (ha.rest 11 (by kernel_rfl)).trans rfl
          exact .inl ⟨wanted_some rfl rfl rfl e11, wp_val (run_load rfl (ev_tmp eo11) (L.out.below hs L.out.lt)) ⟨_, rfl, rfl, Below.refl _ _, hs⟩⟩
        · intro a' w' ha hs hw
          obtain ⟨v11, e11, q11⟩ := hw 11 (by kernel_rfl) _ _ _ rfl rfl rfl
          obtain rfl : v11 = Value.bool true := q11
          obtain ⟨v14, e14, q14⟩ := hw 14 (by kernel_rfl) _ _ _ rfl rfl rfl
          obtain rfl : v14 = .agg (cls (lcmF (lcmF x y) (gcdF x y))) := q14
          obtain ⟨v15, e15, q15⟩ := hw 15 (by kernel_rfl) _ _ _ rfl rfl rfl
          obtain rfl : v15 = .agg (cls (lcmF x y)) := q15
          exact .inl ⟨wanted_some rfl rfl rfl e11, wp_val (run_eql_arr rfl (ev_tmp e14) (ev_tmp e15)) ⟨_, rfl, congrArg Value.bool (E3.out), Below.refl _ _, hs⟩⟩
        · intro a' w' ha hs hw
          obtain ⟨v11, e11, q11⟩ := hw 11 (by kernel_rfl) _ _ _ rfl rfl rfl
          obtain rfl : v11 = Value.bool true := q11
          obtain ⟨v16, e16, q16⟩ := hw 16 (by kernel_rfl) _ _ _ rfl rfl rfl
          obtain rfl : v16 = Value.bool true := q16
          exact .inl ⟨wanted_none rfl, wp_val (run_pick (b := true) rfl (ev_tmp e11) (ev_tmp e16)) ⟨_, rfl, rfl, Below.refl _ _, hs⟩⟩
        · intro a' w' ha hs hw
          obtain ⟨v17, e17, q17⟩ := hw 17 (by kernel_rfl) _ _ _ rfl rfl rfl
          obtain rfl : v17 = Value.bool true := q17
          exact .inl ⟨wanted_none rfl, wp_val (run_move rfl (ev_tmp e17)) ⟨_, rfl, rfl, Below.refl _ _, hs⟩⟩
        · intro a' w' ha hs hw
          obtain ⟨v18, e18, q18⟩ := hw 18 (by kernel_rfl) _ _ _ rfl rfl rfl
          obtain rfl : v18 = Value.bool true := q18
          have eo11 : a'.tmps[11]? = some (.pointer (some ⟨y8.heap.size, 0, none⟩)) := (ha.rest 11 (by kernel_rfl)).trans rfl
          exact .inl ⟨wanted_some rfl rfl rfl e18, wp_val (run_load rfl (ev_tmp eo11) (L.out.below hs L.out.lt)) ⟨_, rfl, rfl, Below.refl _ _, hs⟩⟩
        · intro a' w' ha hs hw
          obtain ⟨v18, e18, q18⟩ := hw 18 (by kernel_rfl) _ _ _ rfl rfl rfl
          obtain rfl : v18 = Value.bool true := q18
          have eo12 : a'.tmps[12]? = some (.pointer (some ⟨y10.heap.size, 0, none⟩)) := (ha.rest 12 (by kernel_rfl)).trans rfl
          exact .inl ⟨wanted_some rfl rfl rfl e18, wp_val (run_load rfl (ev_tmp eo12) (G.out.below hs G.out.lt)) ⟨_, rfl, rfl, Below.refl _ _, hs⟩⟩
        · intro a' w' ha hs hw
          obtain ⟨v18, e18, q18⟩ := hw 18 (by kernel_rfl) _ _ _ rfl rfl rfl
          obtain rfl : v18 = Value.bool true := q18
          obtain ⟨v19, e19, q19⟩ := hw 19 (by kernel_rfl) _ _ _ rfl rfl rfl
          obtain rfl : v19 = .agg (cls (lcmF x y)) := q19
          obtain ⟨v20, e20, q20⟩ := hw 20 (by kernel_rfl) _ _ _ rfl rfl rfl
          obtain rfl : v20 = .agg (cls (gcdF x y)) := q20
          exact .inl ⟨wanted_some rfl rfl rfl e18, call_step rfl Try.func23 (by kernel_rfl) rfl (map_two (ev_tmp e19) (ev_tmp e20)) (gcd_any (lcmF x y) (gcdF x y) _) (fun e w2 he => by obtain ⟨rfl, hb⟩ := he; exact ⟨_, rfl, _, rfl, rfl, hb, hs.trans (hb.mono hs.size)⟩)⟩
        · intro a' w' ha hs hw
          obtain ⟨v18, e18, q18⟩ := hw 18 (by kernel_rfl) _ _ _ rfl rfl rfl
          obtain rfl : v18 = Value.bool true := q18
          have eo12 : a'.tmps[12]? = some (.pointer (some ⟨y10.heap.size, 0, none⟩)) := (ha.rest 12 (by kernel_rfl)).trans rfl
          exact .inl ⟨wanted_some rfl rfl rfl e18, wp_val (run_load rfl (ev_tmp eo12) (G.out.below hs G.out.lt)) ⟨_, rfl, rfl, Below.refl _ _, hs⟩⟩
        · intro a' w' ha hs hw
          obtain ⟨v18, e18, q18⟩ := hw 18 (by kernel_rfl) _ _ _ rfl rfl rfl
          obtain rfl : v18 = Value.bool true := q18
          obtain ⟨v21, e21, q21⟩ := hw 21 (by kernel_rfl) _ _ _ rfl rfl rfl
          obtain rfl : v21 = .agg (cls (gcdF (lcmF x y) (gcdF x y))) := q21
          obtain ⟨v22, e22, q22⟩ := hw 22 (by kernel_rfl) _ _ _ rfl rfl rfl
          obtain rfl : v22 = .agg (cls (gcdF x y)) := q22
          exact .inl ⟨wanted_some rfl rfl rfl e18, wp_val (run_eql_arr rfl (ev_tmp e21) (ev_tmp e22)) ⟨_, rfl, congrArg Value.bool (E4.out), Below.refl _ _, hs⟩⟩
        · intro a' w' ha hs hw
          obtain ⟨v18, e18, q18⟩ := hw 18 (by kernel_rfl) _ _ _ rfl rfl rfl
          obtain rfl : v18 = Value.bool true := q18
          obtain ⟨v23, e23, q23⟩ := hw 23 (by kernel_rfl) _ _ _ rfl rfl rfl
          obtain rfl : v23 = Value.bool true := q23
          exact .inl ⟨wanted_none rfl, wp_val (run_pick (b := true) rfl (ev_tmp e18) (ev_tmp e23)) ⟨_, rfl, rfl, Below.refl _ _, hs⟩⟩
        · intro a' w' ha hs hw
          obtain ⟨v24, e24, q24⟩ := hw 24 (by kernel_rfl) _ _ _ rfl rfl rfl
          obtain rfl : v24 = Value.bool true := q24
          exact .inl ⟨wanted_none rfl, wp_val (run_assign rfl (ev_tmp e24)) ⟨_, rfl, rfl, Below.refl _ _, hs⟩⟩
      simp only [allK]
      simp only [setAll, List.set_cons_succ, List.set_cons_zero]
      refine hK _ _ ?_
      clear hK K
      replace A := Lib.hid (A.out.below hs A.out.lt)
      replace B := Lib.hid (B.out.below hs B.out.lt)
      replace C := Lib.hid (C.out.below hs C.out.lt)
      replace L := Lib.hid (L.out.below hs L.out.lt)
      replace G := Lib.hid (G.out.below hs G.out.lt)
      replace P := Lib.hid (P.out.below hs P.out.lt)
      replace Q := Lib.hid (Q.out.below hs Q.out.lt)
      replace DW := Lib.hid (below_link DW.out hs DW.out.size)
      clear hs
      generalize wn = z18 at *
      go_wp2_with fail
      go_ret
      exact ⟨rfl, DW.out⟩
end Go.Proofs.Ytchkaaeipafdnaa
