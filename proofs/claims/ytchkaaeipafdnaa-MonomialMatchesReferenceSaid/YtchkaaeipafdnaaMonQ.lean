/-
  The law MonomialMatchesReference.
-/
import Derived.Test.YtchkaaeipafdnaaMonY
namespace Go.Proofs.Ytchkaaeipafdnaa
open Go.RowKit
attribute [local go_sem ↓] Go.wp_at_zero Go.wp_at_succ
set_option maxHeartbeats 4000000 in
set_option maxRecDepth 100000 in
theorem lawReference_any (x y : Mn) (w : World) (hx : Va x) (hy : Va y) : Calls Try.prog 3 #[.agg #[Value.int IntKind.u16 (x 0), Value.int IntKind.u16 (x 1), Value.int IntKind.u16 (x 2), Value.int IntKind.u16 (x 3), Value.int IntKind.u16 (x 4), Value.int IntKind.u16 (x 5), Value.int IntKind.u16 (x 6), Value.int IntKind.u16 (x 7)], .agg #[Value.int IntKind.u16 (y 0), Value.int IntKind.u16 (y 1), Value.int IntKind.u16 (y 2), Value.int IntKind.u16 (y 3), Value.int IntKind.u16 (y 4), Value.int IntKind.u16 (y 5), Value.int IntKind.u16 (y 6), Value.int IntKind.u16 (y 7)]] w fun e w' => e = .returned (.bool true) ∧ Below w.heap.size w w' := by
  have V0 := Lib.hid hx; have V1 := Lib.hid hy
  obtain ⟨o, ho⟩ := CM.ex x y
  have HC := Lib.hid ho
  clear hx hy ho
  go_enter Try.func3, Try.ntmps3
  go_wp2_with fail
  obtain ⟨W, hW⟩ : ∃ W, W = ((w.alloc (Obj.cells #[Value.int IntKind.u16 (x 0), Value.int IntKind.u16 (x 1), Value.int IntKind.u16 (x 2), Value.int IntKind.u16 (x 3), Value.int IntKind.u16 (x 4), Value.int IntKind.u16 (x 5), Value.int IntKind.u16 (x 6), Value.int IntKind.u16 (x 7)] 24)).alloc (Obj.cells #[Value.int IntKind.u16 (y 0), Value.int IntKind.u16 (y 1), Value.int IntKind.u16 (y 2), Value.int IntKind.u16 (y 3), Value.int IntKind.u16 (y 4), Value.int IntKind.u16 (y 5), Value.int IntKind.u16 (y 6), Value.int IntKind.u16 (y 7)] 24)) := ⟨_, rfl⟩
  rw [← hW]
  have U0 : Hid (RowU W (w.heap.size) x) := by (rw [hW]; have h1 := RowU.new w x; (try simp only [World.size_alloc] at h1); exact (h1).alloc _)
  have U1 : Hid (RowU W (w.heap.size + 1) y) := by (rw [hW]; have h1 := RowU.new (w.alloc (Obj.cells #[Value.int IntKind.u16 (x 0), Value.int IntKind.u16 (x 1), Value.int IntKind.u16 (x 2), Value.int IntKind.u16 (x 3), Value.int IntKind.u16 (x 4), Value.int IntKind.u16 (x 5), Value.int IntKind.u16 (x 6), Value.int IntKind.u16 (x 7)] 24)) y; (try simp only [World.size_alloc] at h1); exact h1)
  have DW : Hid (Below w.heap.size w W) := by rw [hW]; exact ((Below.refl _ _).alloc (by simp <;> omega) _).alloc (by simp <;> omega) _
  clear hW
  refine (sanity_any _).mono ?_
  rintro e y1 ⟨rfl, hb⟩
  replace U0 := Lib.hid (U0.out.below hb U0.out.lt)
  replace U1 := Lib.hid (U1.out.below hb U1.out.lt)
  replace DW := Lib.hid (below_link DW.out hb DW.out.size)
  clear hb
  go_wp2_with (first | (refine ldr _ _ U0.out rfl rfl rfl ?_) | fail)
  refine (made_any x _ V0.out).mono ?_
  rintro e y2 ⟨rfl, hb⟩
  replace U0 := Lib.hid (U0.out.below hb U0.out.lt)
  replace U1 := Lib.hid (U1.out.below hb U1.out.lt)
  replace DW := Lib.hid (below_link DW.out hb DW.out.size)
  clear hb
  clear U0
  go_upto_region 5 with fail
  obtain ⟨w3, hW⟩ : ∃ w3, w3 = y2.alloc (Obj.cells #[Value.int IntKind.i64 ((x) 0), Value.int IntKind.i64 ((x) 1), Value.int IntKind.i64 ((x) 2), Value.int IntKind.i64 ((x) 3), Value.int IntKind.i64 ((x) 4), Value.int IntKind.i64 ((x) 5), Value.int IntKind.i64 ((x) 6), Value.int IntKind.i64 ((x) 7)] 27) := ⟨_, rfl⟩
  rw [← hW]
  have A : Hid (Row w3 y2.heap.size (x)) := by rw [hW]; exact Row.new y2 (x)
  have hb : Below y2.heap.size y2 w3 := by rw [hW]; exact (Below.refl _ _).alloc (Nat.le_refl _) _
  replace U1 := Lib.hid (U1.out.below hb U1.out.lt)
  replace DW := Lib.hid (below_link DW.out hb DW.out.size)
  clear hW hb
  go_wp2_with (first | (refine ldr _ _ U1.out rfl rfl rfl ?_) | fail)
  refine (made_any y _ V1.out).mono ?_
  rintro e y4 ⟨rfl, hb⟩
  replace U1 := Lib.hid (U1.out.below hb U1.out.lt)
  replace A := Lib.hid (A.out.below hb A.out.lt)
  replace DW := Lib.hid (below_link DW.out hb DW.out.size)
  clear hb
  clear U1
  go_upto_region 6 with fail
  obtain ⟨w5, hW⟩ : ∃ w5, w5 = y4.alloc (Obj.cells #[Value.int IntKind.i64 ((y) 0), Value.int IntKind.i64 ((y) 1), Value.int IntKind.i64 ((y) 2), Value.int IntKind.i64 ((y) 3), Value.int IntKind.i64 ((y) 4), Value.int IntKind.i64 ((y) 5), Value.int IntKind.i64 ((y) 6), Value.int IntKind.i64 ((y) 7)] 27) := ⟨_, rfl⟩
  rw [← hW]
  have B : Hid (Row w5 y4.heap.size (y)) := by rw [hW]; exact Row.new y4 (y)
  have hb : Below y4.heap.size y4 w5 := by rw [hW]; exact (Below.refl _ _).alloc (Nat.le_refl _) _
  replace A := Lib.hid (A.out.below hb A.out.lt)
  replace DW := Lib.hid (below_link DW.out hb DW.out.size)
  clear hW hb
  go_wp2_with (first | (refine ld _ _ A.out rfl rfl rfl ?_) | (refine ld _ _ B.out rfl rfl rfl ?_) | fail)
  refine (mul_is x y _ V0.out V1.out).mono ?_
  rintro e y6 ⟨rfl, hb⟩
  replace A := Lib.hid (A.out.below hb A.out.lt)
  replace B := Lib.hid (B.out.below hb B.out.lt)
  replace DW := Lib.hid (below_link DW.out hb DW.out.size)
  clear hb
  go_upto_region 7 with fail
  obtain ⟨w7, hW⟩ : ∃ w7, w7 = y6.alloc (Obj.cells #[Value.int IntKind.i64 ((prF x y) 0), Value.int IntKind.i64 ((prF x y) 1), Value.int IntKind.i64 ((prF x y) 2), Value.int IntKind.i64 ((prF x y) 3), Value.int IntKind.i64 ((prF x y) 4), Value.int IntKind.i64 ((prF x y) 5), Value.int IntKind.i64 ((prF x y) 6), Value.int IntKind.i64 ((prF x y) 7)] 27) := ⟨_, rfl⟩
  rw [← hW]
  have P : Hid (Row w7 y6.heap.size (prF x y)) := by rw [hW]; exact Row.new y6 (prF x y)
  have hb : Below y6.heap.size y6 w7 := by rw [hW]; exact (Below.refl _ _).alloc (Nat.le_refl _) _
  replace A := Lib.hid (A.out.below hb A.out.lt)
  replace B := Lib.hid (B.out.below hb B.out.lt)
  replace DW := Lib.hid (below_link DW.out hb DW.out.size)
  clear hW hb
  go_wp2_with (first | (refine ld _ _ A.out rfl rfl rfl ?_) | (refine ld _ _ B.out rfl rfl rfl ?_) | fail)
  refine (rmul_is x y _ V0.out V1.out).mono ?_
  rintro e y8 ⟨rfl, hb⟩
  replace A := Lib.hid (A.out.below hb A.out.lt)
  replace B := Lib.hid (B.out.below hb B.out.lt)
  replace P := Lib.hid (P.out.below hb P.out.lt)
  replace DW := Lib.hid (below_link DW.out hb DW.out.size)
  clear hb
  go_upto_region 8 with fail
  obtain ⟨w9, hW⟩ : ∃ w9, w9 = y8.alloc (Obj.cells #[Value.int IntKind.i64 ((prF x y) 0), Value.int IntKind.i64 ((prF x y) 1), Value.int IntKind.i64 ((prF x y) 2), Value.int IntKind.i64 ((prF x y) 3), Value.int IntKind.i64 ((prF x y) 4), Value.int IntKind.i64 ((prF x y) 5), Value.int IntKind.i64 ((prF x y) 6), Value.int IntKind.i64 ((prF x y) 7)] 27) := ⟨_, rfl⟩
  rw [← hW]
  have Q : Hid (Row w9 y8.heap.size (prF x y)) := by rw [hW]; exact Row.new y8 (prF x y)
  have hb : Below y8.heap.size y8 w9 := by rw [hW]; exact (Below.refl _ _).alloc (Nat.le_refl _) _
  replace A := Lib.hid (A.out.below hb A.out.lt)
  replace B := Lib.hid (B.out.below hb B.out.lt)
  replace P := Lib.hid (P.out.below hb P.out.lt)
  replace DW := Lib.hid (below_link DW.out hb DW.out.size)
  clear hW hb
  go_wp2_with (first | (refine ld _ _ A.out rfl rfl rfl ?_) | (refine ld _ _ B.out rfl rfl rfl ?_) | fail)
  refine (quo_is x y _ V0.out V1.out).mono ?_
  rintro e y10 ⟨rfl, hb⟩
  replace A := Lib.hid (A.out.below hb A.out.lt)
  replace B := Lib.hid (B.out.below hb B.out.lt)
  replace P := Lib.hid (P.out.below hb P.out.lt)
  replace Q := Lib.hid (Q.out.below hb Q.out.lt)
  replace DW := Lib.hid (below_link DW.out hb DW.out.size)
  clear hb
  go_upto_region 9 with fail
  obtain ⟨w11, hW⟩ : ∃ w11, w11 = y10.alloc (Obj.cells #[Value.int IntKind.i64 ((quF x y) 0), Value.int IntKind.i64 ((quF x y) 1), Value.int IntKind.i64 ((quF x y) 2), Value.int IntKind.i64 ((quF x y) 3), Value.int IntKind.i64 ((quF x y) 4), Value.int IntKind.i64 ((quF x y) 5), Value.int IntKind.i64 ((quF x y) 6), Value.int IntKind.i64 ((quF x y) 7)] 27) := ⟨_, rfl⟩
  rw [← hW]
  have S : Hid (Row w11 y10.heap.size (quF x y)) := by rw [hW]; exact Row.new y10 (quF x y)
  have hb : Below y10.heap.size y10 w11 := by rw [hW]; exact (Below.refl _ _).alloc (Nat.le_refl _) _
  replace A := Lib.hid (A.out.below hb A.out.lt)
  replace B := Lib.hid (B.out.below hb B.out.lt)
  replace P := Lib.hid (P.out.below hb P.out.lt)
  replace Q := Lib.hid (Q.out.below hb Q.out.lt)
  replace DW := Lib.hid (below_link DW.out hb DW.out.size)
  clear hW hb
  go_wp2_with (first | (refine ld _ _ A.out rfl rfl rfl ?_) | (refine ld _ _ B.out rfl rfl rfl ?_) | fail)
  refine (rquo_is x y _ V0.out V1.out).mono ?_
  rintro e y12 ⟨rfl, hb⟩
  replace A := Lib.hid (A.out.below hb A.out.lt)
  replace B := Lib.hid (B.out.below hb B.out.lt)
  replace P := Lib.hid (P.out.below hb P.out.lt)
  replace Q := Lib.hid (Q.out.below hb Q.out.lt)
  replace S := Lib.hid (S.out.below hb S.out.lt)
  replace DW := Lib.hid (below_link DW.out hb DW.out.size)
  clear hb
  go_upto_region 10 with fail
  obtain ⟨w13, hW⟩ : ∃ w13, w13 = y12.alloc (Obj.cells #[Value.int IntKind.i64 ((quF x y) 0), Value.int IntKind.i64 ((quF x y) 1), Value.int IntKind.i64 ((quF x y) 2), Value.int IntKind.i64 ((quF x y) 3), Value.int IntKind.i64 ((quF x y) 4), Value.int IntKind.i64 ((quF x y) 5), Value.int IntKind.i64 ((quF x y) 6), Value.int IntKind.i64 ((quF x y) 7)] 27) := ⟨_, rfl⟩
  rw [← hW]
  have T : Hid (Row w13 y12.heap.size (quF x y)) := by rw [hW]; exact Row.new y12 (quF x y)
  have hb : Below y12.heap.size y12 w13 := by rw [hW]; exact (Below.refl _ _).alloc (Nat.le_refl _) _
  replace A := Lib.hid (A.out.below hb A.out.lt)
  replace B := Lib.hid (B.out.below hb B.out.lt)
  replace P := Lib.hid (P.out.below hb P.out.lt)
  replace Q := Lib.hid (Q.out.below hb Q.out.lt)
  replace S := Lib.hid (S.out.below hb S.out.lt)
  replace DW := Lib.hid (below_link DW.out hb DW.out.size)
  clear hW hb
  have E1 := Lib.hid (neq_of (rfl : prF x y = prF x y)); have E2 := Lib.hid (neq_of (rfl : quF x y = quF x y)); have E3 := Lib.hid (show (decide (dv y x) != decide (dv y x)) = false by simp); have E4 := Lib.hid (show (decide (dv x y) != decide (dv x y)) = false by simp); have E5 := Lib.hid (show (prE x y != prE x y) = false by simp); have E6 := Lib.hid (show (o != o) = false by simp)
  refine region_run (fun w' => Below w13.heap.size w13 w') [.is (.agg (cls (prF x y))), .is (.agg (cls (prF x y))), .is (Value.bool false), .is (Value.bool false), .is (Value.int IntKind.i64 (prE x y)), .is (Value.int IntKind.i64 (prE x y)), .is (Value.bool false), .is (Value.bool false), .is (Value.bool false), .is (.agg (cls (quF x y))), .is (.agg (cls (quF x y))), .is (Value.bool false), .is (Value.bool false), .is (Value.bool false), .is (Value.bool (decide (dv y x))), .is (Value.bool (decide (dv y x))), .is (Value.bool false), .is (Value.bool false), .is (Value.bool false), .is (.agg (cls x)), .is (.agg (cls y)), .is (Value.bool (decide (dv x y))), .is (.agg (cls x)), .is (.agg (cls y)), .is (Value.bool (decide (dv x y))), .is (Value.bool false), .is (Value.bool false), .is (Value.bool false), .is (.agg (cls x)), .is (.agg (cls y)), .is (Value.int IntKind.i64 (o)), .is (.agg (cls x)), .is (.agg (cls y)), .is (Value.int IntKind.i64 (o)), .is (Value.bool false), .is (Value.bool false)] [47, 48, 49, 50, 51, 52, 53, 54, 55, 56, 57, 58, 59, 60, 61, 62, 63, 64, 65, 66, 67, 68, 69, 70, 71, 72, 73, 74, 75, 76, 77, 78, 79, 80, 81, 82] (by kernel_rfl) (by kernel_rfl) (by kernel_rfl) (by rfl) (by kernel_rfl) ((Below.refl _ _).drew) (fun Q' => ?_) (fun K hK wn hs => ?_)
  · refine ⟨?_, ?_, ?_, ?_, ?_, ?_, ?_, ?_, ?_, ?_, ?_, ?_, ?_, ?_, ?_, ?_, ?_, ?_, ?_, ?_, ?_, ?_, ?_, ?_, ?_, ?_, ?_, ?_, ?_, ?_, ?_, ?_, ?_, ?_, ?_, ?_, trivial⟩
    · intro a' w' ha hs hw
      have eo8 : a'.tmps[8]? = some (.pointer (some ⟨y6.heap.size, 0, none⟩)) := (ha.rest 8 (by kernel_rfl)).trans rfl
      exact .inl ⟨wanted_none rfl, wp_val (run_load rfl (ev_tmp eo8) (P.out.below hs P.out.lt)) ⟨_, rfl, rfl, Below.refl _ _, hs⟩⟩
    · intro a' w' ha hs hw
      have eo10 : a'.tmps[10]? = some (.pointer (some ⟨y8.heap.size, 0, none⟩)) := (ha.rest 10 (by kernel_rfl)).trans rfl
      exact .inl ⟨wanted_none rfl, wp_val (run_load rfl (ev_tmp eo10) (Q.out.below hs Q.out.lt)) ⟨_, rfl, rfl, Below.refl _ _, hs⟩⟩
    · intro a' w' ha hs hw
      obtain ⟨v0, e0, q0⟩ := hw 0 (by kernel_rfl) _ _ _ rfl rfl rfl
      obtain rfl : v0 = .agg (cls (prF x y)) := q0
      obtain ⟨v1, e1, q1⟩ := hw 1 (by kernel_rfl) _ _ _ rfl rfl rfl
      obtain rfl : v1 = .agg (cls (prF x y)) := q1
      exact .inl ⟨wanted_none rfl, wp_val (run_neq_arr rfl (ev_tmp e0) (ev_tmp e1)) ⟨_, rfl, congrArg Value.bool (E1.out), Below.refl _ _, hs⟩⟩
    · intro a' w' ha hs hw
      obtain ⟨v2, e2, q2⟩ := hw 2 (by kernel_rfl) _ _ _ rfl rfl rfl
      obtain rfl : v2 = Value.bool false := q2
      exact .inl ⟨wanted_none rfl, wp_val (run_move rfl (ev_tmp e2)) ⟨_, rfl, rfl, Below.refl _ _, hs⟩⟩
    · intro a' w' ha hs hw
      obtain ⟨v3, e3, q3⟩ := hw 3 (by kernel_rfl) _ _ _ rfl rfl rfl
      obtain rfl : v3 = Value.bool false := q3
      have eo9 : a'.tmps[9]? = some (Value.int IntKind.i64 (prE x y)) := (ha.rest 9 (by kernel_rfl)).trans rfl
      exact .inl ⟨wanted_some rfl rfl rfl e3, wp_val (run_move rfl (ev_tmp eo9)) ⟨_, rfl, rfl, Below.refl _ _, hs⟩⟩
    · intro a' w' ha hs hw
      obtain ⟨v3, e3, q3⟩ := hw 3 (by kernel_rfl) _ _ _ rfl rfl rfl
      obtain rfl : v3 = Value.bool false := q3
      have eo11 : a'.tmps[11]? = some (Value.int IntKind.i64 (prE x y)) := (ha.rest 11 (by kernel_rfl)).trans rfl
      exact .inl ⟨wanted_some rfl rfl rfl e3, wp_val (run_move rfl (ev_tmp eo11)) ⟨_, rfl, rfl, Below.refl _ _, hs⟩⟩
    · intro a' w' ha hs hw
      obtain ⟨v3, e3, q3⟩ := hw 3 (by kernel_rfl) _ _ _ rfl rfl rfl
      obtain rfl : v3 = Value.bool false := q3
      obtain ⟨v4, e4, q4⟩ := hw 4 (by kernel_rfl) _ _ _ rfl rfl rfl
      obtain rfl : v4 = Value.int IntKind.i64 (prE x y) := q4
      obtain ⟨v5, e5, q5⟩ := hw 5 (by kernel_rfl) _ _ _ rfl rfl rfl
      obtain rfl : v5 = Value.int IntKind.i64 (prE x y) := q5
      exact .inl ⟨wanted_some rfl rfl rfl e3, wp_val (run_neq_int rfl (ev_tmp e4) (ev_tmp e5)) ⟨_, rfl, congrArg Value.bool (E5.out), Below.refl _ _, hs⟩⟩
    · intro a' w' ha hs hw
      obtain ⟨v3, e3, q3⟩ := hw 3 (by kernel_rfl) _ _ _ rfl rfl rfl
      obtain rfl : v3 = Value.bool false := q3
      obtain ⟨v6, e6, q6⟩ := hw 6 (by kernel_rfl) _ _ _ rfl rfl rfl
      obtain rfl : v6 = Value.bool false := q6
      exact .inl ⟨wanted_none rfl, wp_val (run_pick (b := false) rfl (ev_tmp e3) (ev_tmp e6)) ⟨_, rfl, rfl, Below.refl _ _, hs⟩⟩
    · intro a' w' ha hs hw
      obtain ⟨v7, e7, q7⟩ := hw 7 (by kernel_rfl) _ _ _ rfl rfl rfl
      obtain rfl : v7 = Value.bool false := q7
      exact .inl ⟨wanted_none rfl, wp_val (run_move rfl (ev_tmp e7)) ⟨_, rfl, rfl, Below.refl _ _, hs⟩⟩
    · intro a' w' ha hs hw
      obtain ⟨v8, e8, q8⟩ := hw 8 (by kernel_rfl) _ _ _ rfl rfl rfl
      obtain rfl : v8 = Value.bool false := q8
      have eo12 : a'.tmps[12]? = some (.pointer (some ⟨y10.heap.size, 0, none⟩)) := (ha.rest 12 (by kernel_rfl)).trans rfl
      exact .inl ⟨wanted_some rfl rfl rfl e8, wp_val (run_load rfl (ev_tmp eo12) (S.out.below hs S.out.lt)) ⟨_, rfl, rfl, Below.refl _ _, hs⟩⟩
    · intro a' w' ha hs hw
      obtain ⟨v8, e8, q8⟩ := hw 8 (by kernel_rfl) _ _ _ rfl rfl rfl
      obtain rfl : v8 = Value.bool false := q8
      have eo14 : a'.tmps[14]? = some (.pointer (some ⟨y12.heap.size, 0, none⟩)) := (ha.rest 14 (by kernel_rfl)).trans rfl
      exact .inl ⟨wanted_some rfl rfl rfl e8, wp_val (run_load rfl (ev_tmp eo14) (T.out.below hs T.out.lt)) ⟨_, rfl, rfl, Below.refl _ _, hs⟩⟩
    · intro a' w' ha hs hw
      obtain ⟨v8, e8, q8⟩ := hw 8 (by kernel_rfl) _ _ _ rfl rfl rfl
      obtain rfl : v8 = Value.bool false := q8
      obtain ⟨v9, e9, q9⟩ := hw 9 (by kernel_rfl) _ _ _ rfl rfl rfl
      obtain rfl : v9 = .agg (cls (quF x y)) := q9
      obtain ⟨v10, e10, q10⟩ := hw 10 (by kernel_rfl) _ _ _ rfl rfl rfl
      obtain rfl : v10 = .agg (cls (quF x y)) := q10
      exact .inl ⟨wanted_some rfl rfl rfl e8, wp_val (run_neq_arr rfl (ev_tmp e9) (ev_tmp e10)) ⟨_, rfl, congrArg Value.bool (E2.out), Below.refl _ _, hs⟩⟩
    · intro a' w' ha hs hw
      obtain ⟨v8, e8, q8⟩ := hw 8 (by kernel_rfl) _ _ _ rfl rfl rfl
      obtain rfl : v8 = Value.bool false := q8
      obtain ⟨v11, e11, q11⟩ := hw 11 (by kernel_rfl) _ _ _ rfl rfl rfl
      obtain rfl : v11 = Value.bool false := q11
      exact .inl ⟨wanted_none rfl, wp_val (run_pick (b := false) rfl (ev_tmp e8) (ev_tmp e11)) ⟨_, rfl, rfl, Below.refl _ _, hs⟩⟩
    · intro a' w' ha hs hw
      obtain ⟨v12, e12, q12⟩ := hw 12 (by kernel_rfl) _ _ _ rfl rfl rfl
      obtain rfl : v12 = Value.bool false := q12
      exact .inl ⟨wanted_none rfl, wp_val (run_move rfl (ev_tmp e12)) ⟨_, rfl, rfl, Below.refl _ _, hs⟩⟩
    · intro a' w' ha hs hw
      obtain ⟨v13, e13, q13⟩ := hw 13 (by kernel_rfl) _ _ _ rfl rfl rfl
      obtain rfl : v13 = Value.bool false := q13
      have eo13 : a'.tmps[13]? = some (Value.bool (decide (dv y x))) := (ha.rest 13 (by kernel_rfl)).trans rfl
      exact .inl ⟨wanted_some rfl rfl rfl e13, wp_val (run_move rfl (ev_tmp eo13)) ⟨_, rfl, rfl, Below.refl _ _, hs⟩⟩
    · intro a' w' ha hs hw
      obtain ⟨v13, e13, q13⟩ := hw 13 (by kernel_rfl) _ _ _ rfl rfl rfl
      obtain rfl : v13 = Value.bool false := q13
      have eo15 : a'.tmps[15]? = some (Value.bool (decide (dv y x))) := (ha.rest 15 (by kernel_rfl)).trans rfl
      exact .inl ⟨wanted_some rfl rfl rfl e13, wp_val (run_move rfl (ev_tmp eo15)) ⟨_, rfl, rfl, Below.refl _ _, hs⟩⟩
    · intro a' w' ha hs hw
      obtain ⟨v13, e13, q13⟩ := hw 13 (by kernel_rfl) _ _ _ rfl rfl rfl
      obtain rfl : v13 = Value.bool false := q13
      obtain ⟨v14, e14, q14⟩ := hw 14 (by kernel_rfl) _ _ _ rfl rfl rfl
      obtain rfl : v14 = Value.bool (decide (dv y x)) := q14
      obtain ⟨v15, e15, q15⟩ := hw 15 (by kernel_rfl) _ _ _ rfl rfl rfl
      obtain rfl : v15 = Value.bool (decide (dv y x)) := q15
      exact .inl ⟨wanted_some rfl rfl rfl e13, wp_val (run_neq_bool rfl (ev_tmp e14) (ev_tmp e15)) ⟨_, rfl, congrArg Value.bool (E3.out), Below.refl _ _, hs⟩⟩
    · intro a' w' ha hs hw
      obtain ⟨v13, e13, q13⟩ := hw 13 (by kernel_rfl) _ _ _ rfl rfl rfl
      obtain rfl : v13 = Value.bool false := q13
      obtain ⟨v16, e16, q16⟩ := hw 16 (by kernel_rfl) _ _ _ rfl rfl rfl
      obtain rfl : v16 = Value.bool false := q16
      exact .inl ⟨wanted_none rfl, wp_val (run_pick (b := false) rfl (ev_tmp e13) (ev_tmp e16)) ⟨_, rfl, rfl, Below.refl _ _, hs⟩⟩
    · intro a' w' ha hs hw
      obtain ⟨v17, e17, q17⟩ := hw 17 (by kernel_rfl) _ _ _ rfl rfl rfl
      obtain rfl : v17 = Value.bool false := q17
      exact .inl ⟨wanted_none rfl, wp_val (run_move rfl (ev_tmp e17)) ⟨_, rfl, rfl, Below.refl _ _, hs⟩⟩
    · intro a' w' ha hs hw
      obtain ⟨v18, e18, q18⟩ := hw 18 (by kernel_rfl) _ _ _ rfl rfl rfl
      obtain rfl : v18 = Value.bool false := q18
      have eo6 : a'.tmps[6]? = some (.pointer (some ⟨y2.heap.size, 0, none⟩)) := (ha.rest 6 (by kernel_rfl)).trans rfl
      exact .inl ⟨wanted_some rfl rfl rfl e18, wp_val (run_load rfl (ev_tmp eo6) (A.out.below hs A.out.lt)) ⟨_, rfl, rfl, Below.refl _ _, hs⟩⟩
    · intro a' w' ha hs hw
      obtain ⟨v18, e18, q18⟩ := hw 18 (by kernel_rfl) _ _ _ rfl rfl rfl
      obtain rfl : v18 = Value.bool false := q18
      have eo7 : a'.tmps[7]? = some (.pointer (some ⟨y4.heap.size, 0, none⟩)) := (ha.rest 7 (by kernel_rfl)).trans rfl
      exact .inl ⟨wanted_some rfl rfl rfl e18, wp_val (run_load rfl (ev_tmp eo7) (B.out.below hs B.out.lt)) ⟨_, rfl, rfl, Below.refl _ _, hs⟩⟩
    · intro a' w' ha hs hw
      obtain ⟨v18, e18, q18⟩ := hw 18 (by kernel_rfl) _ _ _ rfl rfl rfl
      obtain rfl : v18 = Value.bool false := q18
      obtain ⟨v19, e19, q19⟩ := hw 19 (by kernel_rfl) _ _ _ rfl rfl rfl
      obtain rfl : v19 = .agg (cls x) := q19
      obtain ⟨v20, e20, q20⟩ := hw 20 (by kernel_rfl) _ _ _ rfl rfl rfl
      obtain rfl : v20 = .agg (cls y) := q20
      exact .inl ⟨wanted_some rfl rfl rfl e18, call_step rfl Try.func17 (by kernel_rfl) rfl (map_two (ev_tmp e19) (ev_tmp e20)) (divides_is (x) (y) (decide (dv x y)) _ (rfl)) (fun e w2 he => by obtain ⟨rfl, hb⟩ := he; exact ⟨_, rfl, _, rfl, rfl, hb, hs.trans (hb.mono hs.size)⟩)⟩
    · intro a' w' ha hs hw
      obtain ⟨v18, e18, q18⟩ := hw 18 (by kernel_rfl) _ _ _ rfl rfl rfl
      obtain rfl : v18 = Value.bool false := q18
      have eo6 : a'.tmps[6]? = some (.pointer (some ⟨y2.heap.size, 0, none⟩)) := (ha.rest 6 (by kernel_rfl)).trans rfl
      exact .inl ⟨wanted_some rfl rfl rfl e18, wp_val (run_load rfl (ev_tmp eo6) (A.out.below hs A.out.lt)) ⟨_, rfl, rfl, Below.refl _ _, hs⟩⟩
    · intro a' w' ha hs hw
      obtain ⟨v18, e18, q18⟩ := hw 18 (by kernel_rfl) _ _ _ rfl rfl rfl
      obtain rfl : v18 = Value.bool false := q18
      have eo7 : a'.tmps[7]? = some (.pointer (some ⟨y4.heap.size, 0, none⟩)) := (ha.rest 7 (by kernel_rfl)).trans rfl
      exact .inl ⟨wanted_some rfl rfl rfl e18, wp_val (run_load rfl (ev_tmp eo7) (B.out.below hs B.out.lt)) ⟨_, rfl, rfl, Below.refl _ _, hs⟩⟩
    · intro a' w' ha hs hw
      obtain ⟨v18, e18, q18⟩ := hw 18 (by kernel_rfl) _ _ _ rfl rfl rfl
      obtain rfl : v18 = Value.bool false := q18
      obtain ⟨v22, e22, q22⟩ := hw 22 (by kernel_rfl) _ _ _ rfl rfl rfl
      obtain rfl : v22 = .agg (cls x) := q22
      obtain ⟨v23, e23, q23⟩ := hw 23 (by kernel_rfl) _ _ _ rfl rfl rfl
      obtain rfl : v23 = .agg (cls y) := q23
      exact .inl ⟨wanted_some rfl rfl rfl e18, call_step rfl Try.func18 (by kernel_rfl) rfl (map_two (ev_tmp e22) (ev_tmp e23)) (rdivides_is (x) (y) (decide (dv x y)) _ (rfl)) (fun e w2 he => by obtain ⟨rfl, hb⟩ := he; exact ⟨_, rfl, _, rfl, rfl, hb, hs.trans (hb.mono hs.size)⟩)⟩
    · intro a' w' ha hs hw
      obtain ⟨v18, e18, q18⟩ := hw 18 (by kernel_rfl) _ _ _ rfl rfl rfl
      obtain rfl : v18 = Value.bool false := q18
      obtain ⟨v21, e21, q21⟩ := hw 21 (by kernel_rfl) _ _ _ rfl rfl rfl
      obtain rfl : v21 = Value.bool (decide (dv x y)) := q21
      obtain ⟨v24, e24, q24⟩ := hw 24 (by kernel_rfl) _ _ _ rfl rfl rfl
      obtain rfl : v24 = Value.bool (decide (dv x y)) := q24
      exact .inl ⟨wanted_some rfl rfl rfl e18, wp_val (run_neq_bool rfl (ev_tmp e21) (ev_tmp e24)) ⟨_, rfl, congrArg Value.bool (E4.out), Below.refl _ _, hs⟩⟩
    · intro a' w' ha hs hw
      obtain ⟨v18, e18, q18⟩ := hw 18 (by kernel_rfl) _ _ _ rfl rfl rfl
      obtain rfl : v18 = Value.bool false := q18
      obtain ⟨v25, e25, q25⟩ := hw 25 (by kernel_rfl) _ _ _ rfl rfl rfl
      obtain rfl : v25 = Value.bool false := q25
      exact .inl ⟨wanted_none rfl, wp_val (run_pick (b := false) rfl (ev_tmp e18) (ev_tmp e25)) ⟨_, rfl, rfl, Below.refl _ _, hs⟩⟩
    · intro a' w' ha hs hw
      obtain ⟨v26, e26, q26⟩ := hw 26 (by kernel_rfl) _ _ _ rfl rfl rfl
      obtain rfl : v26 = Value.bool false := q26
      exact .inl ⟨wanted_none rfl, wp_val (run_move rfl (ev_tmp e26)) ⟨_, rfl, rfl, Below.refl _ _, hs⟩⟩
    · intro a' w' ha hs hw
      obtain ⟨v27, e27, q27⟩ := hw 27 (by kernel_rfl) _ _ _ rfl rfl rfl
      obtain rfl : v27 = Value.bool false := q27
      have eo6 : a'.tmps[6]? = some (.pointer (some ⟨y2.heap.size, 0, none⟩)) := (ha.rest 6 (by kernel_rfl)).trans rfl
      exact .inl ⟨wanted_some rfl rfl rfl e27, wp_val (run_load rfl (ev_tmp eo6) (A.out.below hs A.out.lt)) ⟨_, rfl, rfl, Below.refl _ _, hs⟩⟩
    · intro a' w' ha hs hw
      obtain ⟨v27, e27, q27⟩ := hw 27 (by kernel_rfl) _ _ _ rfl rfl rfl
      obtain rfl : v27 = Value.bool false := q27
      have eo7 : a'.tmps[7]? = some (.pointer (some ⟨y4.heap.size, 0, none⟩)) := (ha.rest 7 (by kernel_rfl)).trans rfl
      exact .inl ⟨wanted_some rfl rfl rfl e27, wp_val (run_load rfl (ev_tmp eo7) (B.out.below hs B.out.lt)) ⟨_, rfl, rfl, Below.refl _ _, hs⟩⟩
    · intro a' w' ha hs hw
      obtain ⟨v27, e27, q27⟩ := hw 27 (by kernel_rfl) _ _ _ rfl rfl rfl
      obtain rfl : v27 = Value.bool false := q27
      obtain ⟨v28, e28, q28⟩ := hw 28 (by kernel_rfl) _ _ _ rfl rfl rfl
      obtain rfl : v28 = .agg (cls x) := q28
      obtain ⟨v29, e29, q29⟩ := hw 29 (by kernel_rfl) _ _ _ rfl rfl rfl
      obtain rfl : v29 = .agg (cls y) := q29
      exact .inl ⟨wanted_some rfl rfl rfl e27, call_step rfl Try.func19 (by kernel_rfl) rfl (map_two (ev_tmp e28) (ev_tmp e29)) (cmp_is (x) (y) (o) _ (HC.out)) (fun e w2 he => by obtain ⟨rfl, hb⟩ := he; exact ⟨_, rfl, _, rfl, rfl, hb, hs.trans (hb.mono hs.size)⟩)⟩
    · intro a' w' ha hs hw
      obtain ⟨v27, e27, q27⟩ := hw 27 (by kernel_rfl) _ _ _ rfl rfl rfl
      obtain rfl : v27 = Value.bool false := q27
      have eo6 : a'.tmps[6]? = some (.pointer (some ⟨y2.heap.size, 0, none⟩)) := (ha.rest 6 (by kernel_rfl)).trans rfl
      exact .inl ⟨wanted_some rfl rfl rfl e27, wp_val (run_load rfl (ev_tmp eo6) (A.out.below hs A.out.lt)) ⟨_, rfl, rfl, Below.refl _ _, hs⟩⟩
    · intro a' w' ha hs hw
      obtain ⟨v27, e27, q27⟩ := hw 27 (by kernel_rfl) _ _ _ rfl rfl rfl
      obtain rfl : v27 = Value.bool false := q27
      have eo7 : a'.tmps[7]? = some (.pointer (some ⟨y4.heap.size, 0, none⟩)) := (ha.rest 7 (by kernel_rfl)).trans rfl
      exact .inl ⟨wanted_some rfl rfl rfl e27, wp_val (run_load rfl (ev_tmp eo7) (B.out.below hs B.out.lt)) ⟨_, rfl, rfl, Below.refl _ _, hs⟩⟩
    · intro a' w' ha hs hw
      obtain ⟨v27, e27, q27⟩ := hw 27 (by kernel_rfl) _ _ _ rfl rfl rfl
      obtain rfl : v27 = Value.bool false := q27
      obtain ⟨v31, e31, q31⟩ := hw 31 (by kernel_rfl) _ _ _ rfl rfl rfl
      obtain rfl : v31 = .agg (cls x) := q31
      obtain ⟨v32, e32, q32⟩ := hw 32 (by kernel_rfl) _ _ _ rfl rfl rfl
      obtain rfl : v32 = .agg (cls y) := q32
      exact .inl ⟨wanted_some rfl rfl rfl e27, call_step rfl Try.func20 (by kernel_rfl) rfl (map_two (ev_tmp e31) (ev_tmp e32)) (rcmp_is (x) (y) (o) _ (HC.out)) (fun e w2 he => by obtain ⟨rfl, hb⟩ := he; exact ⟨_, rfl, _, rfl, rfl, hb, hs.trans (hb.mono hs.size)⟩)⟩
    · intro a' w' ha hs hw
      obtain ⟨v27, e27, q27⟩ := hw 27 (by kernel_rfl) _ _ _ rfl rfl rfl
      obtain rfl : v27 = Value.bool false := q27
      obtain ⟨v30, e30, q30⟩ := hw 30 (by kernel_rfl) _ _ _ rfl rfl rfl
      obtain rfl : v30 = Value.int IntKind.i64 (o) := q30
      obtain ⟨v33, e33, q33⟩ := hw 33 (by kernel_rfl) _ _ _ rfl rfl rfl
      obtain rfl : v33 = Value.int IntKind.i64 (o) := q33
      exact .inl ⟨wanted_some rfl rfl rfl e27, wp_val (run_neq_int rfl (ev_tmp e30) (ev_tmp e33)) ⟨_, rfl, congrArg Value.bool (E6.out), Below.refl _ _, hs⟩⟩
    · intro a' w' ha hs hw
      obtain ⟨v27, e27, q27⟩ := hw 27 (by kernel_rfl) _ _ _ rfl rfl rfl
      obtain rfl : v27 = Value.bool false := q27
      obtain ⟨v34, e34, q34⟩ := hw 34 (by kernel_rfl) _ _ _ rfl rfl rfl
      obtain rfl : v34 = Value.bool false := q34
      exact .inl ⟨wanted_none rfl, wp_val (run_pick (b := false) rfl (ev_tmp e27) (ev_tmp e34)) ⟨_, rfl, rfl, Below.refl _ _, hs⟩⟩
  simp only [allK]
  simp only [setAll, List.set_cons_succ, List.set_cons_zero]
  refine hK _ _ ?_
  clear hK K
  replace A := Lib.hid (A.out.below hs A.out.lt)
  replace B := Lib.hid (B.out.below hs B.out.lt)
  replace P := Lib.hid (P.out.below hs P.out.lt)
  replace Q := Lib.hid (Q.out.below hs Q.out.lt)
  replace S := Lib.hid (S.out.below hs S.out.lt)
  replace T := Lib.hid (T.out.below hs T.out.lt)
  replace DW := Lib.hid (below_link DW.out hs DW.out.size)
  clear hs
  generalize wn = z14 at *
  clear E1 E2 E3 E4 E5 E6
  go_wp2_with fail
  have E1 := Lib.hid (eqa_true.2 (Eqv.rfl' (lcmF x y))); have E2 := Lib.hid (eqa_true.2 (Eqv.rfl' (gcdF x y))); have E3 := Lib.hid (show (sm x 8 == sm x 8) = true by simp); have E4 := Lib.hid (show ((((sp x 8 : Nat) : Int)) == ((sp x 8 : Nat) : Int)) = true by simp)
  refine region_run (fun w' => Below z14.heap.size z14 w') [.is (Value.bool true), .is (Value.bool true), .is (.agg (cls x)), .is (.agg (cls y)), .is (.agg (cls (lcmF (x) (y)))), .is (.agg (cls x)), .is (.agg (cls y)), .is (.agg (cls (lcmF (x) (y)))), .is (Value.bool true), .is (Value.bool true), .is (Value.bool true), .is (.agg (cls x)), .is (.agg (cls y)), .is (.agg (cls (gcdF (x) (y)))), .is (.agg (cls x)), .is (.agg (cls y)), .is (.agg (cls (gcdF (x) (y)))), .is (Value.bool true), .is (Value.bool true), .is (Value.bool true), .is (.agg (cls x)), .is (Value.int IntKind.i64 (sm (x) 8)), .is (.agg (cls x)), .is (Value.int IntKind.i64 (sm (x) 8)), .is (Value.bool true), .is (Value.bool true), .is (Value.bool true), .is (.agg (cls x)), .is (Value.int IntKind.u8 ((sp (x) 8 : Nat) : Int)), .is (.agg (cls x)), .is (Value.int IntKind.u8 ((sp (x) 8 : Nat) : Int)), .is (Value.bool true), .is (Value.bool true), .is (Value.bool true)] [83, 84, 85, 86, 87, 88, 89, 90, 91, 92, 93, 94, 95, 96, 97, 98, 99, 100, 101, 102, 103, 104, 105, 106, 107, 108, 109, 110, 111, 112, 113, 114, 115, 4] (by kernel_rfl) (by kernel_rfl) (by kernel_rfl) (by rfl) (by kernel_rfl) ((Below.refl _ _).drew) (fun Q' => ?_) (fun K hK wn hs => ?_)
  · refine ⟨?_, ?_, ?_, ?_, ?_, ?_, ?_, ?_, ?_, ?_, ?_, ?_, ?_, ?_, ?_, ?_, ?_, ?_, ?_, ?_, ?_, ?_, ?_, ?_, ?_, ?_, ?_, ?_, ?_, ?_, ?_, ?_, ?_, ?_, trivial⟩
    · intro a' w' ha hs hw
      have eo5 : a'.tmps[5]? = some (Value.bool true) := (ha.rest 5 (by kernel_rfl)).trans rfl
      exact .inl ⟨wanted_none rfl, wp_val (run_move rfl (ev_tmp eo5)) ⟨_, rfl, rfl, Below.refl _ _, hs⟩⟩
    · intro a' w' ha hs hw
      obtain ⟨v0, e0, q0⟩ := hw 0 (by kernel_rfl) _ _ _ rfl rfl rfl
      obtain rfl : v0 = Value.bool true := q0
      exact .inl ⟨wanted_none rfl, wp_val (run_move rfl (ev_tmp e0)) ⟨_, rfl, rfl, Below.refl _ _, hs⟩⟩
    · intro a' w' ha hs hw
      obtain ⟨v1, e1, q1⟩ := hw 1 (by kernel_rfl) _ _ _ rfl rfl rfl
      obtain rfl : v1 = Value.bool true := q1
      have eo6 : a'.tmps[6]? = some (.pointer (some ⟨y2.heap.size, 0, none⟩)) := (ha.rest 6 (by kernel_rfl)).trans rfl
      exact .inl ⟨wanted_some rfl rfl rfl e1, wp_val (run_load rfl (ev_tmp eo6) (A.out.below hs A.out.lt)) ⟨_, rfl, rfl, Below.refl _ _, hs⟩⟩
    · intro a' w' ha hs hw
      obtain ⟨v1, e1, q1⟩ := hw 1 (by kernel_rfl) _ _ _ rfl rfl rfl
      obtain rfl : v1 = Value.bool true := q1
      have eo7 : a'.tmps[7]? = some (.pointer (some ⟨y4.heap.size, 0, none⟩)) := (ha.rest 7 (by kernel_rfl)).trans rfl
      exact .inl ⟨wanted_some rfl rfl rfl e1, wp_val (run_load rfl (ev_tmp eo7) (B.out.below hs B.out.lt)) ⟨_, rfl, rfl, Below.refl _ _, hs⟩⟩
    · intro a' w' ha hs hw
      obtain ⟨v1, e1, q1⟩ := hw 1 (by kernel_rfl) _ _ _ rfl rfl rfl
      obtain rfl : v1 = Value.bool true := q1
      obtain ⟨v2, e2, q2⟩ := hw 2 (by kernel_rfl) _ _ _ rfl rfl rfl
      obtain rfl : v2 = .agg (cls x) := q2
      obtain ⟨v3, e3, q3⟩ := hw 3 (by kernel_rfl) _ _ _ rfl rfl rfl
      obtain rfl : v3 = .agg (cls y) := q3
      exact .inl ⟨wanted_some rfl rfl rfl e1, call_step rfl Try.func21 (by kernel_rfl) rfl (map_two (ev_tmp e2) (ev_tmp e3)) (lcm_any (x) (y) _) (fun e w2 he => by obtain ⟨rfl, hb⟩ := he; exact ⟨_, rfl, _, rfl, rfl, hb, hs.trans (hb.mono hs.size)⟩)⟩
    · intro a' w' ha hs hw
      obtain ⟨v1, e1, q1⟩ := hw 1 (by kernel_rfl) _ _ _ rfl rfl rfl
      obtain rfl : v1 = Value.bool true := q1
      have eo6 : a'.tmps[6]? = some (.pointer (some ⟨y2.heap.size, 0, none⟩)) := (ha.rest 6 (by kernel_rfl)).trans rfl
      exact .inl ⟨wanted_some rfl rfl rfl e1, wp_val (run_load rfl (ev_tmp eo6) (A.out.below hs A.out.lt)) ⟨_, rfl, rfl, Below.refl _ _, hs⟩⟩
    · intro a' w' ha hs hw
      obtain ⟨v1, e1, q1⟩ := hw 1 (by kernel_rfl) _ _ _ rfl rfl rfl
      obtain rfl : v1 = Value.bool true := q1
      have eo7 : a'.tmps[7]? = some (.pointer (some ⟨y4.heap.size, 0, none⟩)) := (ha.rest 7 (by kernel_rfl)).trans rfl
      exact .inl ⟨wanted_some rfl rfl rfl e1, wp_val (run_load rfl (ev_tmp eo7) (B.out.below hs B.out.lt)) ⟨_, rfl, rfl, Below.refl _ _, hs⟩⟩
    · intro a' w' ha hs hw
      obtain ⟨v1, e1, q1⟩ := hw 1 (by kernel_rfl) _ _ _ rfl rfl rfl
      obtain rfl : v1 = Value.bool true := q1
      obtain ⟨v5, e5, q5⟩ := hw 5 (by kernel_rfl) _ _ _ rfl rfl rfl
      obtain rfl : v5 = .agg (cls x) := q5
      obtain ⟨v6, e6, q6⟩ := hw 6 (by kernel_rfl) _ _ _ rfl rfl rfl
      obtain rfl : v6 = .agg (cls y) := q6
      exact .inl ⟨wanted_some rfl rfl rfl e1, call_step rfl Try.func22 (by kernel_rfl) rfl (map_two (ev_tmp e5) (ev_tmp e6)) (rlcm_any (x) (y) _) (fun e w2 he => by obtain ⟨rfl, hb⟩ := he; exact ⟨_, rfl, _, rfl, rfl, hb, hs.trans (hb.mono hs.size)⟩)⟩
    · intro a' w' ha hs hw
      obtain ⟨v1, e1, q1⟩ := hw 1 (by kernel_rfl) _ _ _ rfl rfl rfl
      obtain rfl : v1 = Value.bool true := q1
      obtain ⟨v4, e4, q4⟩ := hw 4 (by kernel_rfl) _ _ _ rfl rfl rfl
      obtain rfl : v4 = .agg (cls (lcmF (x) (y))) := q4
      obtain ⟨v7, e7, q7⟩ := hw 7 (by kernel_rfl) _ _ _ rfl rfl rfl
      obtain rfl : v7 = .agg (cls (lcmF (x) (y))) := q7
      exact .inl ⟨wanted_some rfl rfl rfl e1, wp_val (run_eql_arr rfl (ev_tmp e4) (ev_tmp e7)) ⟨_, rfl, congrArg Value.bool (E1.out), Below.refl _ _, hs⟩⟩
    · intro a' w' ha hs hw
      obtain ⟨v1, e1, q1⟩ := hw 1 (by kernel_rfl) _ _ _ rfl rfl rfl
      obtain rfl : v1 = Value.bool true := q1
      obtain ⟨v8, e8, q8⟩ := hw 8 (by kernel_rfl) _ _ _ rfl rfl rfl
      obtain rfl : v8 = Value.bool true := q8
      exact .inl ⟨wanted_none rfl, wp_val (run_pick (b := true) rfl (ev_tmp e1) (ev_tmp e8)) ⟨_, rfl, rfl, Below.refl _ _, hs⟩⟩
    · intro a' w' ha hs hw
      obtain ⟨v9, e9, q9⟩ := hw 9 (by kernel_rfl) _ _ _ rfl rfl rfl
      obtain rfl : v9 = Value.bool true := q9
      exact .inl ⟨wanted_none rfl, wp_val (run_move rfl (ev_tmp e9)) ⟨_, rfl, rfl, Below.refl _ _, hs⟩⟩
    · intro a' w' ha hs hw
      obtain ⟨v10, e10, q10⟩ := hw 10 (by kernel_rfl) _ _ _ rfl rfl rfl
      obtain rfl : v10 = Value.bool true := q10
      have eo6 : a'.tmps[6]? = some (.pointer (some ⟨y2.heap.size, 0, none⟩)) := (ha.rest 6 (by kernel_rfl)).trans rfl
      exact .inl ⟨wanted_some rfl rfl rfl e10, wp_val (run_load rfl (ev_tmp eo6) (A.out.below hs A.out.lt)) ⟨_, rfl, rfl, Below.refl _ _, hs⟩⟩
    · intro a' w' ha hs hw
      obtain ⟨v10, e10, q10⟩ := hw 10 (by kernel_rfl) _ _ _ rfl rfl rfl
      obtain rfl : v10 = Value.bool true := q10
      have eo7 : a'.tmps[7]? = some (.pointer (some ⟨y4.heap.size, 0, none⟩)) := (ha.rest 7 (by kernel_rfl)).trans rfl
      exact .inl ⟨wanted_some rfl rfl rfl e10, wp_val (run_load rfl (ev_tmp eo7) (B.out.below hs B.out.lt)) ⟨_, rfl, rfl, Below.refl _ _, hs⟩⟩
    · intro a' w' ha hs hw
      obtain ⟨v10, e10, q10⟩ := hw 10 (by kernel_rfl) _ _ _ rfl rfl rfl
      obtain rfl : v10 = Value.bool true := q10
      obtain ⟨v11, e11, q11⟩ := hw 11 (by kernel_rfl) _ _ _ rfl rfl rfl
      obtain rfl : v11 = .agg (cls x) := q11
      obtain ⟨v12, e12, q12⟩ := hw 12 (by kernel_rfl) _ _ _ rfl rfl rfl
      obtain rfl : v12 = .agg (cls y) := q12
      exact .inl ⟨wanted_some rfl rfl rfl e10, call_step rfl Try.func23 (by kernel_rfl) rfl (map_two (ev_tmp e11) (ev_tmp e12)) (gcd_any (x) (y) _) (fun e w2 he => by obtain ⟨rfl, hb⟩ := he; exact ⟨_, rfl, _, rfl, rfl, hb, hs.trans (hb.mono hs.size)⟩)⟩
    · intro a' w' ha hs hw
      obtain ⟨v10, e10, q10⟩ := hw 10 (by kernel_rfl) _ _ _ rfl rfl rfl
      obtain rfl : v10 = Value.bool true := q10
      have eo6 : a'.tmps[6]? = some (.pointer (some ⟨y2.heap.size, 0, none⟩)) := (ha.rest 6 (by kernel_rfl)).trans rfl
      exact .inl ⟨wanted_some rfl rfl rfl e10, wp_val (run_load rfl (ev_tmp eo6) (A.out.below hs A.out.lt)) ⟨_, rfl, rfl, Below.refl _ _, hs⟩⟩
    · intro a' w' ha hs hw
      obtain ⟨v10, e10, q10⟩ := hw 10 (by kernel_rfl) _ _ _ rfl rfl rfl
      obtain rfl : v10 = Value.bool true := q10
      have eo7 : a'.tmps[7]? = some (.pointer (some ⟨y4.heap.size, 0, none⟩)) := (ha.rest 7 (by kernel_rfl)).trans rfl
      exact .inl ⟨wanted_some rfl rfl rfl e10, wp_val (run_load rfl (ev_tmp eo7) (B.out.below hs B.out.lt)) ⟨_, rfl, rfl, Below.refl _ _, hs⟩⟩
    · intro a' w' ha hs hw
      obtain ⟨v10, e10, q10⟩ := hw 10 (by kernel_rfl) _ _ _ rfl rfl rfl
      obtain rfl : v10 = Value.bool true := q10
      obtain ⟨v14, e14, q14⟩ := hw 14 (by kernel_rfl) _ _ _ rfl rfl rfl
      obtain rfl : v14 = .agg (cls x) := q14
      obtain ⟨v15, e15, q15⟩ := hw 15 (by kernel_rfl) _ _ _ rfl rfl rfl
      obtain rfl : v15 = .agg (cls y) := q15
      exact .inl ⟨wanted_some rfl rfl rfl e10, call_step rfl Try.func24 (by kernel_rfl) rfl (map_two (ev_tmp e14) (ev_tmp e15)) (rgcd_any (x) (y) _) (fun e w2 he => by obtain ⟨rfl, hb⟩ := he; exact ⟨_, rfl, _, rfl, rfl, hb, hs.trans (hb.mono hs.size)⟩)⟩
    · intro a' w' ha hs hw
      obtain ⟨v10, e10, q10⟩ := hw 10 (by kernel_rfl) _ _ _ rfl rfl rfl
      obtain rfl : v10 = Value.bool true := q10
      obtain ⟨v13, e13, q13⟩ := hw 13 (by kernel_rfl) _ _ _ rfl rfl rfl
      obtain rfl : v13 = .agg (cls (gcdF (x) (y))) := q13
      obtain ⟨v16, e16, q16⟩ := hw 16 (by kernel_rfl) _ _ _ rfl rfl rfl
      obtain rfl : v16 = .agg (cls (gcdF (x) (y))) := q16
      exact .inl ⟨wanted_some rfl rfl rfl e10, wp_val (run_eql_arr rfl (ev_tmp e13) (ev_tmp e16)) ⟨_, rfl, congrArg Value.bool (E2.out), Below.refl _ _, hs⟩⟩
    · intro a' w' ha hs hw
      obtain ⟨v10, e10, q10⟩ := hw 10 (by kernel_rfl) _ _ _ rfl rfl rfl
      obtain rfl : v10 = Value.bool true := q10
      obtain ⟨v17, e17, q17⟩ := hw 17 (by kernel_rfl) _ _ _ rfl rfl rfl
      obtain rfl : v17 = Value.bool true := q17
      exact .inl ⟨wanted_none rfl, wp_val (run_pick (b := true) rfl (ev_tmp e10) (ev_tmp e17)) ⟨_, rfl, rfl, Below.refl _ _, hs⟩⟩
    · intro a' w' ha hs hw
      obtain ⟨v18, e18, q18⟩ := hw 18 (by kernel_rfl) _ _ _ rfl rfl rfl
      obtain rfl : v18 = Value.bool true := q18
      exact .inl ⟨wanted_none rfl, wp_val (run_move rfl (ev_tmp e18)) ⟨_, rfl, rfl, Below.refl _ _, hs⟩⟩
    · intro a' w' ha hs hw
      obtain ⟨v19, e19, q19⟩ := hw 19 (by kernel_rfl) _ _ _ rfl rfl rfl
      obtain rfl : v19 = Value.bool true := q19
      have eo6 : a'.tmps[6]? = some (.pointer (some ⟨y2.heap.size, 0, none⟩)) := (ha.rest 6 (by kernel_rfl)).trans rfl
      exact .inl ⟨wanted_some rfl rfl rfl e19, wp_val (run_load rfl (ev_tmp eo6) (A.out.below hs A.out.lt)) ⟨_, rfl, rfl, Below.refl _ _, hs⟩⟩
    · intro a' w' ha hs hw
      obtain ⟨v19, e19, q19⟩ := hw 19 (by kernel_rfl) _ _ _ rfl rfl rfl
      obtain rfl : v19 = Value.bool true := q19
      obtain ⟨v20, e20, q20⟩ := hw 20 (by kernel_rfl) _ _ _ rfl rfl rfl
      obtain rfl : v20 = .agg (cls x) := q20
      exact .inl ⟨wanted_some rfl rfl rfl e19, call_step rfl Try.func25 (by kernel_rfl) rfl (map_one (ev_tmp e20)) (degree_any (x) _ (V0.out)) (fun e w2 he => by obtain ⟨rfl, hb⟩ := he; exact ⟨_, rfl, _, rfl, rfl, hb, hs.trans (hb.mono hs.size)⟩)⟩
    · intro a' w' ha hs hw
      obtain ⟨v19, e19, q19⟩ := hw 19 (by kernel_rfl) _ _ _ rfl rfl rfl
      obtain rfl : v19 = Value.bool true := q19
      have eo6 : a'.tmps[6]? = some (.pointer (some ⟨y2.heap.size, 0, none⟩)) := (ha.rest 6 (by kernel_rfl)).trans rfl
      exact .inl ⟨wanted_some rfl rfl rfl e19, wp_val (run_load rfl (ev_tmp eo6) (A.out.below hs A.out.lt)) ⟨_, rfl, rfl, Below.refl _ _, hs⟩⟩
    · intro a' w' ha hs hw
      obtain ⟨v19, e19, q19⟩ := hw 19 (by kernel_rfl) _ _ _ rfl rfl rfl
      obtain rfl : v19 = Value.bool true := q19
      obtain ⟨v22, e22, q22⟩ := hw 22 (by kernel_rfl) _ _ _ rfl rfl rfl
      obtain rfl : v22 = .agg (cls x) := q22
      exact .inl ⟨wanted_some rfl rfl rfl e19, call_step rfl Try.func26 (by kernel_rfl) rfl (map_one (ev_tmp e22)) (rdegree_any (x) _ (V0.out)) (fun e w2 he => by obtain ⟨rfl, hb⟩ := he; exact ⟨_, rfl, _, rfl, rfl, hb, hs.trans (hb.mono hs.size)⟩)⟩
    · intro a' w' ha hs hw
      obtain ⟨v19, e19, q19⟩ := hw 19 (by kernel_rfl) _ _ _ rfl rfl rfl
      obtain rfl : v19 = Value.bool true := q19
      obtain ⟨v21, e21, q21⟩ := hw 21 (by kernel_rfl) _ _ _ rfl rfl rfl
      obtain rfl : v21 = Value.int IntKind.i64 (sm (x) 8) := q21
      obtain ⟨v23, e23, q23⟩ := hw 23 (by kernel_rfl) _ _ _ rfl rfl rfl
      obtain rfl : v23 = Value.int IntKind.i64 (sm (x) 8) := q23
      exact .inl ⟨wanted_some rfl rfl rfl e19, wp_val (run_eql_int rfl (ev_tmp e21) (ev_tmp e23)) ⟨_, rfl, congrArg Value.bool (E3.out), Below.refl _ _, hs⟩⟩
    · intro a' w' ha hs hw
      obtain ⟨v19, e19, q19⟩ := hw 19 (by kernel_rfl) _ _ _ rfl rfl rfl
      obtain rfl : v19 = Value.bool true := q19
      obtain ⟨v24, e24, q24⟩ := hw 24 (by kernel_rfl) _ _ _ rfl rfl rfl
      obtain rfl : v24 = Value.bool true := q24
      exact .inl ⟨wanted_none rfl, wp_val (run_pick (b := true) rfl (ev_tmp e19) (ev_tmp e24)) ⟨_, rfl, rfl, Below.refl _ _, hs⟩⟩
    · intro a' w' ha hs hw
      obtain ⟨v25, e25, q25⟩ := hw 25 (by kernel_rfl) _ _ _ rfl rfl rfl
      obtain rfl : v25 = Value.bool true := q25
      exact .inl ⟨wanted_none rfl, wp_val (run_move rfl (ev_tmp e25)) ⟨_, rfl, rfl, Below.refl _ _, hs⟩⟩
    · intro a' w' ha hs hw
      obtain ⟨v26, e26, q26⟩ := hw 26 (by kernel_rfl) _ _ _ rfl rfl rfl
      obtain rfl : v26 = Value.bool true := q26
      have eo6 : a'.tmps[6]? = some (.pointer (some ⟨y2.heap.size, 0, none⟩)) := (ha.rest 6 (by kernel_rfl)).trans rfl
      exact .inl ⟨wanted_some rfl rfl rfl e26, wp_val (run_load rfl (ev_tmp eo6) (A.out.below hs A.out.lt)) ⟨_, rfl, rfl, Below.refl _ _, hs⟩⟩
    · intro a' w' ha hs hw
      obtain ⟨v26, e26, q26⟩ := hw 26 (by kernel_rfl) _ _ _ rfl rfl rfl
      obtain rfl : v26 = Value.bool true := q26
      obtain ⟨v27, e27, q27⟩ := hw 27 (by kernel_rfl) _ _ _ rfl rfl rfl
      obtain rfl : v27 = .agg (cls x) := q27
      exact .inl ⟨wanted_some rfl rfl rfl e26, call_step rfl Try.func27 (by kernel_rfl) rfl (map_one (ev_tmp e27)) (support_any (x) _) (fun e w2 he => by obtain ⟨rfl, hb⟩ := he; exact ⟨_, rfl, _, rfl, rfl, hb, hs.trans (hb.mono hs.size)⟩)⟩
    · intro a' w' ha hs hw
      obtain ⟨v26, e26, q26⟩ := hw 26 (by kernel_rfl) _ _ _ rfl rfl rfl
      obtain rfl : v26 = Value.bool true := q26
      have eo6 : a'.tmps[6]? = some (.pointer (some ⟨y2.heap.size, 0, none⟩)) := (ha.rest 6 (by kernel_rfl)).trans rfl
      exact .inl ⟨wanted_some rfl rfl rfl e26, wp_val (run_load rfl (ev_tmp eo6) (A.out.below hs A.out.lt)) ⟨_, rfl, rfl, Below.refl _ _, hs⟩⟩
    · intro a' w' ha hs hw
      obtain ⟨v26, e26, q26⟩ := hw 26 (by kernel_rfl) _ _ _ rfl rfl rfl
      obtain rfl : v26 = Value.bool true := q26
      obtain ⟨v29, e29, q29⟩ := hw 29 (by kernel_rfl) _ _ _ rfl rfl rfl
      obtain rfl : v29 = .agg (cls x) := q29
      exact .inl ⟨wanted_some rfl rfl rfl e26, call_step rfl Try.func28 (by kernel_rfl) rfl (map_one (ev_tmp e29)) (rsupport_any (x) _) (fun e w2 he => by obtain ⟨rfl, hb⟩ := he; exact ⟨_, rfl, _, rfl, rfl, hb, hs.trans (hb.mono hs.size)⟩)⟩
    · intro a' w' ha hs hw
      obtain ⟨v26, e26, q26⟩ := hw 26 (by kernel_rfl) _ _ _ rfl rfl rfl
      obtain rfl : v26 = Value.bool true := q26
      obtain ⟨v28, e28, q28⟩ := hw 28 (by kernel_rfl) _ _ _ rfl rfl rfl
      obtain rfl : v28 = Value.int IntKind.u8 ((sp (x) 8 : Nat) : Int) := q28
      obtain ⟨v30, e30, q30⟩ := hw 30 (by kernel_rfl) _ _ _ rfl rfl rfl
      obtain rfl : v30 = Value.int IntKind.u8 ((sp (x) 8 : Nat) : Int) := q30
      exact .inl ⟨wanted_some rfl rfl rfl e26, wp_val (run_eql_int rfl (ev_tmp e28) (ev_tmp e30)) ⟨_, rfl, congrArg Value.bool (E4.out), Below.refl _ _, hs⟩⟩
    · intro a' w' ha hs hw
      obtain ⟨v26, e26, q26⟩ := hw 26 (by kernel_rfl) _ _ _ rfl rfl rfl
      obtain rfl : v26 = Value.bool true := q26
      obtain ⟨v31, e31, q31⟩ := hw 31 (by kernel_rfl) _ _ _ rfl rfl rfl
      obtain rfl : v31 = Value.bool true := q31
      exact .inl ⟨wanted_none rfl, wp_val (run_pick (b := true) rfl (ev_tmp e26) (ev_tmp e31)) ⟨_, rfl, rfl, Below.refl _ _, hs⟩⟩
    · intro a' w' ha hs hw
      obtain ⟨v32, e32, q32⟩ := hw 32 (by kernel_rfl) _ _ _ rfl rfl rfl
      obtain rfl : v32 = Value.bool true := q32
      exact .inl ⟨wanted_none rfl, wp_val (run_assign rfl (ev_tmp e32)) ⟨_, rfl, rfl, Below.refl _ _, hs⟩⟩
  simp only [allK]
  simp only [setAll, List.set_cons_succ, List.set_cons_zero]
  refine hK _ _ ?_
  clear hK K
  replace A := Lib.hid (A.out.below hs A.out.lt)
  replace B := Lib.hid (B.out.below hs B.out.lt)
  replace P := Lib.hid (P.out.below hs P.out.lt)
  replace Q := Lib.hid (Q.out.below hs Q.out.lt)
  replace S := Lib.hid (S.out.below hs S.out.lt)
  replace T := Lib.hid (T.out.below hs T.out.lt)
  replace DW := Lib.hid (below_link DW.out hs DW.out.size)
  clear hs
  generalize wn = z15 at *
  go_wp2_with fail
  go_ret
  exact ⟨rfl, DW.out⟩
end Go.Proofs.Ytchkaaeipafdnaa
