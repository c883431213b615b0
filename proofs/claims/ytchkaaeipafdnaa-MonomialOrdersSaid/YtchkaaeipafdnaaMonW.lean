/-
  The law MonomialOrders.
-/
import Derived.Test.YtchkaaeipafdnaaMonY
namespace Go.Proofs.Ytchkaaeipafdnaa
open Go.RowKit
attribute [local go_sem ↓] Go.wp_at_zero Go.wp_at_succ
theorem cm_bd {a b : Mn} {o : Int} (h : CM a b o) : -1 ≤ o ∧ o ≤ 1 := by rcases h with ⟨_, rfl⟩ | ⟨_, rfl⟩ | ⟨_, rfl⟩ <;> omega
theorem cm_swap {a b : Mn} {o : Int} (h : CM a b o) : CM b a (-o) := by
  rcases h with ⟨h, rfl⟩ | ⟨h, rfl⟩ | ⟨h, rfl⟩
  · exact .inr (.inr ⟨h, rfl⟩)
  · exact .inr (.inl ⟨h.symm, rfl⟩)
  · exact .inl ⟨h, rfl⟩
theorem eqa_lt {a b : Mn} (h : Lt a b) : eqa a b = false := by
  obtain ⟨n, h1, _, h3⟩ := h
  exact eqa_false h1 (by omega)
theorem eqa_gt {a b : Mn} (h : Lt b a) : eqa a b = false := by
  obtain ⟨n, h1, _, h3⟩ := h
  exact eqa_false h1 (by omega)
theorem cm_eqa {a b : Mn} {o : Int} (h : CM a b o) : ((o == 0) != eqa a b) = false := by
  rcases h with ⟨h, rfl⟩ | ⟨h, rfl⟩ | ⟨h, rfl⟩
  · rw [eqa_lt h]; rfl
  · rw [eqa_true.2 h]; rfl
  · rw [eqa_gt h]; rfl
theorem cm_nul {a : Mn} {u : Int} (h : Va a) (k : CM a nul u) : 0 ≤ u := by
  rcases k with ⟨⟨n, h1, _, h3⟩, rfl⟩ | ⟨_, rfl⟩ | ⟨_, rfl⟩
  · have := h n h1
    unfold nul at h3
    omega
  · omega
  · omega
theorem cm_trans {a b c : Mn} {o q : Int} (h : CM a b o) (k : CM b c q) (ho : o < 0) (hq : q ≤ 0) : CM a c (-1) := by
  rcases h with ⟨h, rfl⟩ | ⟨h, rfl⟩ | ⟨h, rfl⟩
  · rcases k with ⟨k, rfl⟩ | ⟨k, rfl⟩ | ⟨k, rfl⟩
    · exact .inl ⟨h.trans k, rfl⟩
    · exact .inl ⟨h.right k, rfl⟩
    · omega
  · omega
  · omega
theorem lt_sum {a b c : Mn} (h : Lt a b) : Lt (sumF a c) (sumF b c) := by
  obtain ⟨n, h1, h2, h3⟩ := h
  exact ⟨n, h1, fun k hk => by unfold sumF; rw [h2 k hk], by unfold sumF; omega⟩
theorem cm_sum {a b c : Mn} {o : Int} (h : CM a b o) (ha : Va (sumF a c)) (hb : Va (sumF b c)) : CM (prF a c) (prF b c) o := by
  rw [prF_ok ha, prF_ok hb]
  rcases h with ⟨h, rfl⟩ | ⟨h, rfl⟩ | ⟨h, rfl⟩
  · exact .inl ⟨lt_sum h, rfl⟩
  · exact .inr (.inl ⟨fun k hk => by unfold sumF; rw [h k hk], rfl⟩)
  · exact .inr (.inr ⟨lt_sum h, rfl⟩)
set_option maxHeartbeats 4000000 in
set_option maxRecDepth 100000 in
theorem lawOrders_any (x y z : Mn) (w : World) (hx : Va x) (hy : Va y) (hz : Va z) : Calls Try.prog 8 #[.agg #[Value.int IntKind.u16 (x 0), Value.int IntKind.u16 (x 1), Value.int IntKind.u16 (x 2), Value.int IntKind.u16 (x 3), Value.int IntKind.u16 (x 4), Value.int IntKind.u16 (x 5), Value.int IntKind.u16 (x 6), Value.int IntKind.u16 (x 7)], .agg #[Value.int IntKind.u16 (y 0), Value.int IntKind.u16 (y 1), Value.int IntKind.u16 (y 2), Value.int IntKind.u16 (y 3), Value.int IntKind.u16 (y 4), Value.int IntKind.u16 (y 5), Value.int IntKind.u16 (y 6), Value.int IntKind.u16 (y 7)], .agg #[Value.int IntKind.u16 (z 0), Value.int IntKind.u16 (z 1), Value.int IntKind.u16 (z 2), Value.int IntKind.u16 (z 3), Value.int IntKind.u16 (z 4), Value.int IntKind.u16 (z 5), Value.int IntKind.u16 (z 6), Value.int IntKind.u16 (z 7)]] w fun e w' => e = .returned (.bool true) ∧ Below w.heap.size w w' := by
  have V0 := Lib.hid hx; have V1 := Lib.hid hy; have V2 := Lib.hid hz
  obtain ⟨o, ho⟩ := CM.ex x y
  obtain ⟨u, hu⟩ := CM.ex x nul
  have HC := Lib.hid ho; have HU := Lib.hid hu
  clear hx hy hz ho hu
  go_enter Try.func8, Try.ntmps8
  go_wp2_with fail
  obtain ⟨W, hW⟩ : ∃ W, W = (((w.alloc (Obj.cells #[Value.int IntKind.u16 (x 0), Value.int IntKind.u16 (x 1), Value.int IntKind.u16 (x 2), Value.int IntKind.u16 (x 3), Value.int IntKind.u16 (x 4), Value.int IntKind.u16 (x 5), Value.int IntKind.u16 (x 6), Value.int IntKind.u16 (x 7)] 24)).alloc (Obj.cells #[Value.int IntKind.u16 (y 0), Value.int IntKind.u16 (y 1), Value.int IntKind.u16 (y 2), Value.int IntKind.u16 (y 3), Value.int IntKind.u16 (y 4), Value.int IntKind.u16 (y 5), Value.int IntKind.u16 (y 6), Value.int IntKind.u16 (y 7)] 24)).alloc (Obj.cells #[Value.int IntKind.u16 (z 0), Value.int IntKind.u16 (z 1), Value.int IntKind.u16 (z 2), Value.int IntKind.u16 (z 3), Value.int IntKind.u16 (z 4), Value.int IntKind.u16 (z 5), Value.int IntKind.u16 (z 6), Value.int IntKind.u16 (z 7)] 24)) := ⟨_, rfl⟩
  rw [← hW]
  have U0 : Hid (RowU W (w.heap.size) x) := by (rw [hW]; have h1 := RowU.new w x; (try simp only [World.size_alloc] at h1); exact ((h1).alloc _).alloc _)
  have U1 : Hid (RowU W (w.heap.size + 1) y) := by (rw [hW]; have h1 := RowU.new (w.alloc (Obj.cells #[Value.int IntKind.u16 (x 0), Value.int IntKind.u16 (x 1), Value.int IntKind.u16 (x 2), Value.int IntKind.u16 (x 3), Value.int IntKind.u16 (x 4), Value.int IntKind.u16 (x 5), Value.int IntKind.u16 (x 6), Value.int IntKind.u16 (x 7)] 24)) y; (try simp only [World.size_alloc] at h1); exact (h1).alloc _)
  have U2 : Hid (RowU W (w.heap.size + 1 + 1) z) := by (rw [hW]; have h1 := RowU.new ((w.alloc (Obj.cells #[Value.int IntKind.u16 (x 0), Value.int IntKind.u16 (x 1), Value.int IntKind.u16 (x 2), Value.int IntKind.u16 (x 3), Value.int IntKind.u16 (x 4), Value.int IntKind.u16 (x 5), Value.int IntKind.u16 (x 6), Value.int IntKind.u16 (x 7)] 24)).alloc (Obj.cells #[Value.int IntKind.u16 (y 0), Value.int IntKind.u16 (y 1), Value.int IntKind.u16 (y 2), Value.int IntKind.u16 (y 3), Value.int IntKind.u16 (y 4), Value.int IntKind.u16 (y 5), Value.int IntKind.u16 (y 6), Value.int IntKind.u16 (y 7)] 24)) z; (try simp only [World.size_alloc] at h1); exact h1)
  have DW : Hid (Below w.heap.size w W) := by rw [hW]; exact (((Below.refl _ _).alloc (by simp <;> omega) _).alloc (by simp <;> omega) _).alloc (by simp <;> omega) _
  clear hW
  refine (sanity_any _).mono ?_
  rintro e y1 ⟨rfl, hb⟩
  replace U0 := Lib.hid (U0.out.below hb U0.out.lt)
  replace U1 := Lib.hid (U1.out.below hb U1.out.lt)
  replace U2 := Lib.hid (U2.out.below hb U2.out.lt)
  replace DW := Lib.hid (below_link DW.out hb DW.out.size)
  clear hb
  go_wp2_with (first | (refine ldr _ _ U0.out rfl rfl rfl ?_) | fail)
  refine (made_any x _ V0.out).mono ?_
  rintro e y2 ⟨rfl, hb⟩
  replace U0 := Lib.hid (U0.out.below hb U0.out.lt)
  replace U1 := Lib.hid (U1.out.below hb U1.out.lt)
  replace U2 := Lib.hid (U2.out.below hb U2.out.lt)
  replace DW := Lib.hid (below_link DW.out hb DW.out.size)
  clear hb
  clear U0
  go_upto_region 5 with fail
  obtain ⟨w3, hW⟩ : ∃ w3, w3 = y2.alloc (Obj.cells #[Value.int IntKind.i64 ((x) 0), Value.int IntKind.i64 ((x) 1), Value.int IntKind.i64 ((x) 2), Value.int IntKind.i64 ((x) 3), Value.int IntKind.i64 ((x) 4), Value.int IntKind.i64 ((x) 5), Value.int IntKind.i64 ((x) 6), Value.int IntKind.i64 ((x) 7)] 27) := ⟨_, rfl⟩
  rw [← hW]
  have A : Hid (Row w3 y2.heap.size (x)) := by rw [hW]; exact Row.new y2 (x)
  have hb : Below y2.heap.size y2 w3 := by rw [hW]; exact (Below.refl _ _).alloc (Nat.le_refl _) _
  replace U1 := Lib.hid (U1.out.below hb U1.out.lt)
  replace U2 := Lib.hid (U2.out.below hb U2.out.lt)
  replace DW := Lib.hid (below_link DW.out hb DW.out.size)
  clear hW hb
  go_wp2_with (first | (refine ldr _ _ U1.out rfl rfl rfl ?_) | fail)
  refine (made_any y _ V1.out).mono ?_
  rintro e y4 ⟨rfl, hb⟩
  replace U1 := Lib.hid (U1.out.below hb U1.out.lt)
  replace U2 := Lib.hid (U2.out.below hb U2.out.lt)
  replace A := Lib.hid (A.out.below hb A.out.lt)
  replace DW := Lib.hid (below_link DW.out hb DW.out.size)
  clear hb
  clear U1
  go_upto_region 6 with fail
  obtain ⟨w5, hW⟩ : ∃ w5, w5 = y4.alloc (Obj.cells #[Value.int IntKind.i64 ((y) 0), Value.int IntKind.i64 ((y) 1), Value.int IntKind.i64 ((y) 2), Value.int IntKind.i64 ((y) 3), Value.int IntKind.i64 ((y) 4), Value.int IntKind.i64 ((y) 5), Value.int IntKind.i64 ((y) 6), Value.int IntKind.i64 ((y) 7)] 27) := ⟨_, rfl⟩
  rw [← hW]
  have B : Hid (Row w5 y4.heap.size (y)) := by rw [hW]; exact Row.new y4 (y)
  have hb : Below y4.heap.size y4 w5 := by rw [hW]; exact (Below.refl _ _).alloc (Nat.le_refl _) _
  replace U2 := Lib.hid (U2.out.below hb U2.out.lt)
  replace A := Lib.hid (A.out.below hb A.out.lt)
  replace DW := Lib.hid (below_link DW.out hb DW.out.size)
  clear hW hb
  go_wp2_with (first | (refine ldr _ _ U2.out rfl rfl rfl ?_) | fail)
  refine (made_any z _ V2.out).mono ?_
  rintro e y6 ⟨rfl, hb⟩
  replace U2 := Lib.hid (U2.out.below hb U2.out.lt)
  replace A := Lib.hid (A.out.below hb A.out.lt)
  replace B := Lib.hid (B.out.below hb B.out.lt)
  replace DW := Lib.hid (below_link DW.out hb DW.out.size)
  clear hb
  clear U2
  go_upto_region 7 with fail
  obtain ⟨w7, hW⟩ : ∃ w7, w7 = y6.alloc (Obj.cells #[Value.int IntKind.i64 ((z) 0), Value.int IntKind.i64 ((z) 1), Value.int IntKind.i64 ((z) 2), Value.int IntKind.i64 ((z) 3), Value.int IntKind.i64 ((z) 4), Value.int IntKind.i64 ((z) 5), Value.int IntKind.i64 ((z) 6), Value.int IntKind.i64 ((z) 7)] 27) := ⟨_, rfl⟩
  rw [← hW]
  have C : Hid (Row w7 y6.heap.size (z)) := by rw [hW]; exact Row.new y6 (z)
  have hb : Below y6.heap.size y6 w7 := by rw [hW]; exact (Below.refl _ _).alloc (Nat.le_refl _) _
  replace A := Lib.hid (A.out.below hb A.out.lt)
  replace B := Lib.hid (B.out.below hb B.out.lt)
  replace DW := Lib.hid (below_link DW.out hb DW.out.size)
  clear hW hb
  go_wp2_with (first | (refine ld _ _ A.out rfl rfl rfl ?_) | (refine ld _ _ B.out rfl rfl rfl ?_) | fail)
  refine (cmp_is x y o _ HC.out).mono ?_
  rintro e y8 ⟨rfl, hb⟩
  replace A := Lib.hid (A.out.below hb A.out.lt)
  replace B := Lib.hid (B.out.below hb B.out.lt)
  replace C := Lib.hid (C.out.below hb C.out.lt)
  replace DW := Lib.hid (below_link DW.out hb DW.out.size)
  clear hb
  go_upto_region 8 with fail
  have E1 := Lib.hid (show decide (o < -1) = false by have := cm_bd HC.out; simp; omega); have E2 := Lib.hid (show decide (1 < o) = false by have := cm_bd HC.out; simp; omega)
  have E3 := Lib.hid (cm_swap HC.out); have E4 := Lib.hid (show ((-o) != (-o)) = false by simp); have E5 := Lib.hid (cm_eqa HC.out); have E6 := Lib.hid (cm_eqa HU.out); have E7 := Lib.hid (show decide (u < 0) = false by have := cm_nul V0.out HU.out; simp; omega); have E8 := Lib.hid (show IntKind.i64.wrap (-o) = -o from IntWalk.i64_in _ (by have := cm_bd HC.out; omega))
  refine region_run (fun w' => Below y8.heap.size y8 w') [.is (Value.int IntKind.i64 (o)), .is (Value.bool false), .is (Value.bool false), .is (Value.int IntKind.i64 (o)), .is (Value.bool false), .is (Value.bool false), .is (Value.bool false), .is (.agg (cls y)), .is (.agg (cls x)), .is (Value.int IntKind.i64 (-o)), .is (Value.int IntKind.i64 (o)), .is (Value.int IntKind.i64 (-o)), .is (Value.bool false), .is (Value.bool false), .is (Value.bool false), .is (Value.int IntKind.i64 (o)), .is (Value.bool ((o == 0))), .is (.agg (cls x)), .is (.agg (cls y)), .is (Value.bool (eqa x y)), .is (Value.bool false), .is (Value.bool false), .is (Value.bool false), .is (.agg (cls x)), .is (.agg (cls nul)), .is (Value.int IntKind.i64 (u)), .is (Value.bool ((u == 0))), .is (.agg (cls x)), .is (.agg (cls nul)), .is (Value.bool (eqa x nul)), .is (Value.bool false), .is (Value.bool false), .is (Value.bool false), .is (.agg (cls x)), .is (.agg (cls nul)), .is (Value.int IntKind.i64 (u)), .is (Value.bool false), .is (Value.bool false)] [28, 29, 30, 31, 32, 33, 34, 35, 36, 37, 38, 39, 40, 41, 42, 43, 44, 45, 46, 47, 48, 49, 50, 51, 52, 53, 54, 55, 56, 57, 58, 59, 60, 61, 62, 63, 64, 65] (by kernel_rfl) (by kernel_rfl) (by kernel_rfl) (by rfl) (by kernel_rfl) ((Below.refl _ _).drew) (fun Q' => ?_) (fun K hK wn hs => ?_)
  · refine ⟨?_, ?_, ?_, ?_, ?_, ?_, ?_, ?_, ?_, ?_, ?_, ?_, ?_, ?_, ?_, ?_, ?_, ?_, ?_, ?_, ?_, ?_, ?_, ?_, ?_, ?_, ?_, ?_, ?_, ?_, ?_, ?_, ?_, ?_, ?_, ?_, ?_, ?_, trivial⟩
    · intro a' w' ha hs hw
      have eo11 : a'.tmps[11]? = some (Value.int IntKind.i64 (o)) := (ha.rest 11 (by kernel_rfl)).trans rfl
      exact .inl ⟨wanted_none rfl, wp_val (run_move rfl (ev_tmp eo11)) ⟨_, rfl, rfl, Below.refl _ _, hs⟩⟩
    · intro a' w' ha hs hw
      obtain ⟨v0, e0, q0⟩ := hw 0 (by kernel_rfl) _ _ _ rfl rfl rfl
      obtain rfl : v0 = Value.int IntKind.i64 (o) := q0
      exact .inl ⟨wanted_none rfl, wp_val (run_lss_int rfl (ev_tmp e0) rfl) ⟨_, rfl, congrArg Value.bool (E1.out), Below.refl _ _, hs⟩⟩
    · intro a' w' ha hs hw
      obtain ⟨v1, e1, q1⟩ := hw 1 (by kernel_rfl) _ _ _ rfl rfl rfl
      obtain rfl : v1 = Value.bool false := q1
      exact .inl ⟨wanted_none rfl, wp_val (run_move rfl (ev_tmp e1)) ⟨_, rfl, rfl, Below.refl _ _, hs⟩⟩
    · intro a' w' ha hs hw
      obtain ⟨v2, e2, q2⟩ := hw 2 (by kernel_rfl) _ _ _ rfl rfl rfl
      obtain rfl : v2 = Value.bool false := q2
      have eo11 : a'.tmps[11]? = some (Value.int IntKind.i64 (o)) := (ha.rest 11 (by kernel_rfl)).trans rfl
      exact .inl ⟨wanted_some rfl rfl rfl e2, wp_val (run_move rfl (ev_tmp eo11)) ⟨_, rfl, rfl, Below.refl _ _, hs⟩⟩
    · intro a' w' ha hs hw
      obtain ⟨v2, e2, q2⟩ := hw 2 (by kernel_rfl) _ _ _ rfl rfl rfl
      obtain rfl : v2 = Value.bool false := q2
      obtain ⟨v3, e3, q3⟩ := hw 3 (by kernel_rfl) _ _ _ rfl rfl rfl
      obtain rfl : v3 = Value.int IntKind.i64 (o) := q3
      exact .inl ⟨wanted_some rfl rfl rfl e2, wp_val (run_gtr_int rfl (ev_tmp e3) rfl) ⟨_, rfl, congrArg Value.bool (E2.out), Below.refl _ _, hs⟩⟩
    · intro a' w' ha hs hw
      obtain ⟨v2, e2, q2⟩ := hw 2 (by kernel_rfl) _ _ _ rfl rfl rfl
      obtain rfl : v2 = Value.bool false := q2
      obtain ⟨v4, e4, q4⟩ := hw 4 (by kernel_rfl) _ _ _ rfl rfl rfl
      obtain rfl : v4 = Value.bool false := q4
      exact .inl ⟨wanted_none rfl, wp_val (run_pick (b := false) rfl (ev_tmp e2) (ev_tmp e4)) ⟨_, rfl, rfl, Below.refl _ _, hs⟩⟩
    · intro a' w' ha hs hw
      obtain ⟨v5, e5, q5⟩ := hw 5 (by kernel_rfl) _ _ _ rfl rfl rfl
      obtain rfl : v5 = Value.bool false := q5
      exact .inl ⟨wanted_none rfl, wp_val (run_move rfl (ev_tmp e5)) ⟨_, rfl, rfl, Below.refl _ _, hs⟩⟩
    · intro a' w' ha hs hw
      obtain ⟨v6, e6, q6⟩ := hw 6 (by kernel_rfl) _ _ _ rfl rfl rfl
      obtain rfl : v6 = Value.bool false := q6
      have eo9 : a'.tmps[9]? = some (.pointer (some ⟨y4.heap.size, 0, none⟩)) := (ha.rest 9 (by kernel_rfl)).trans rfl
      exact .inl ⟨wanted_some rfl rfl rfl e6, wp_val (run_load rfl (ev_tmp eo9) (B.out.below hs B.out.lt)) ⟨_, rfl, rfl, Below.refl _ _, hs⟩⟩
    · intro a' w' ha hs hw
      obtain ⟨v6, e6, q6⟩ := hw 6 (by kernel_rfl) _ _ _ rfl rfl rfl
      obtain rfl : v6 = Value.bool false := q6
      have eo8 : a'.tmps[8]? = some (.pointer (some ⟨y2.heap.size, 0, none⟩)) := (ha.rest 8 (by kernel_rfl)).trans rfl
      exact .inl ⟨wanted_some rfl rfl rfl e6, wp_val (run_load rfl (ev_tmp eo8) (A.out.below hs A.out.lt)) ⟨_, rfl, rfl, Below.refl _ _, hs⟩⟩
    · intro a' w' ha hs hw
      obtain ⟨v6, e6, q6⟩ := hw 6 (by kernel_rfl) _ _ _ rfl rfl rfl
      obtain rfl : v6 = Value.bool false := q6
      obtain ⟨v7, e7, q7⟩ := hw 7 (by kernel_rfl) _ _ _ rfl rfl rfl
      obtain rfl : v7 = .agg (cls y) := q7
      obtain ⟨v8, e8, q8⟩ := hw 8 (by kernel_rfl) _ _ _ rfl rfl rfl
      obtain rfl : v8 = .agg (cls x) := q8
      exact .inl ⟨wanted_some rfl rfl rfl e6, call_step rfl Try.func19 (by kernel_rfl) rfl (map_two (ev_tmp e7) (ev_tmp e8)) (cmp_is (y) (x) (-o) _ (E3.out)) (fun e w2 he => by obtain ⟨rfl, hb⟩ := he; exact ⟨_, rfl, _, rfl, rfl, hb, hs.trans (hb.mono hs.size)⟩)⟩
    · intro a' w' ha hs hw
      obtain ⟨v6, e6, q6⟩ := hw 6 (by kernel_rfl) _ _ _ rfl rfl rfl
      obtain rfl : v6 = Value.bool false := q6
      have eo11 : a'.tmps[11]? = some (Value.int IntKind.i64 (o)) := (ha.rest 11 (by kernel_rfl)).trans rfl
      exact .inl ⟨wanted_some rfl rfl rfl e6, wp_val (run_move rfl (ev_tmp eo11)) ⟨_, rfl, rfl, Below.refl _ _, hs⟩⟩
    · intro a' w' ha hs hw
      obtain ⟨v6, e6, q6⟩ := hw 6 (by kernel_rfl) _ _ _ rfl rfl rfl
      obtain rfl : v6 = Value.bool false := q6
      obtain ⟨v10, e10, q10⟩ := hw 10 (by kernel_rfl) _ _ _ rfl rfl rfl
      obtain rfl : v10 = Value.int IntKind.i64 (o) := q10
      exact .inl ⟨wanted_some rfl rfl rfl e6, wp_val (run_neg_i64 rfl (ev_tmp e10) (E8.out)) ⟨_, rfl, rfl, Below.refl _ _, hs⟩⟩
    · intro a' w' ha hs hw
      obtain ⟨v6, e6, q6⟩ := hw 6 (by kernel_rfl) _ _ _ rfl rfl rfl
      obtain rfl : v6 = Value.bool false := q6
      obtain ⟨v9, e9, q9⟩ := hw 9 (by kernel_rfl) _ _ _ rfl rfl rfl
      obtain rfl : v9 = Value.int IntKind.i64 (-o) := q9
      obtain ⟨v11, e11, q11⟩ := hw 11 (by kernel_rfl) _ _ _ rfl rfl rfl
      obtain rfl : v11 = Value.int IntKind.i64 (-o) := q11
      exact .inl ⟨wanted_some rfl rfl rfl e6, wp_val (run_neq_int rfl (ev_tmp e9) (ev_tmp e11)) ⟨_, rfl, congrArg Value.bool (E4.out), Below.refl _ _, hs⟩⟩
    · intro a' w' ha hs hw
      obtain ⟨v6, e6, q6⟩ := hw 6 (by kernel_rfl) _ _ _ rfl rfl rfl
      obtain rfl : v6 = Value.bool false := q6
      obtain ⟨v12, e12, q12⟩ := hw 12 (by kernel_rfl) _ _ _ rfl rfl rfl
      obtain rfl : v12 = Value.bool false := q12
      exact .inl ⟨wanted_none rfl, wp_val (run_pick (b := false) rfl (ev_tmp e6) (ev_tmp e12)) ⟨_, rfl, rfl, Below.refl _ _, hs⟩⟩
    · intro a' w' ha hs hw
      obtain ⟨v13, e13, q13⟩ := hw 13 (by kernel_rfl) _ _ _ rfl rfl rfl
      obtain rfl : v13 = Value.bool false := q13
      exact .inl ⟨wanted_none rfl, wp_val (run_move rfl (ev_tmp e13)) ⟨_, rfl, rfl, Below.refl _ _, hs⟩⟩
    · intro a' w' ha hs hw
      obtain ⟨v14, e14, q14⟩ := hw 14 (by kernel_rfl) _ _ _ rfl rfl rfl
      obtain rfl : v14 = Value.bool false := q14
      have eo11 : a'.tmps[11]? = some (Value.int IntKind.i64 (o)) := (ha.rest 11 (by kernel_rfl)).trans rfl
      exact .inl ⟨wanted_some rfl rfl rfl e14, wp_val (run_move rfl (ev_tmp eo11)) ⟨_, rfl, rfl, Below.refl _ _, hs⟩⟩
    · intro a' w' ha hs hw
      obtain ⟨v14, e14, q14⟩ := hw 14 (by kernel_rfl) _ _ _ rfl rfl rfl
      obtain rfl : v14 = Value.bool false := q14
      obtain ⟨v15, e15, q15⟩ := hw 15 (by kernel_rfl) _ _ _ rfl rfl rfl
      obtain rfl : v15 = Value.int IntKind.i64 (o) := q15
      exact .inl ⟨wanted_some rfl rfl rfl e14, wp_val (run_eql_int rfl (ev_tmp e15) rfl) ⟨_, rfl, congrArg Value.bool (rfl), Below.refl _ _, hs⟩⟩
    · intro a' w' ha hs hw
      obtain ⟨v14, e14, q14⟩ := hw 14 (by kernel_rfl) _ _ _ rfl rfl rfl
      obtain rfl : v14 = Value.bool false := q14
      have eo8 : a'.tmps[8]? = some (.pointer (some ⟨y2.heap.size, 0, none⟩)) := (ha.rest 8 (by kernel_rfl)).trans rfl
      exact .inl ⟨wanted_some rfl rfl rfl e14, wp_val (run_load rfl (ev_tmp eo8) (A.out.below hs A.out.lt)) ⟨_, rfl, rfl, Below.refl _ _, hs⟩⟩
    · intro a' w' ha hs hw
      obtain ⟨v14, e14, q14⟩ := hw 14 (by kernel_rfl) _ _ _ rfl rfl rfl
      obtain rfl : v14 = Value.bool false := q14
      have eo9 : a'.tmps[9]? = some (.pointer (some ⟨y4.heap.size, 0, none⟩)) := (ha.rest 9 (by kernel_rfl)).trans rfl
      exact .inl ⟨wanted_some rfl rfl rfl e14, wp_val (run_load rfl (ev_tmp eo9) (B.out.below hs B.out.lt)) ⟨_, rfl, rfl, Below.refl _ _, hs⟩⟩
    · intro a' w' ha hs hw
      obtain ⟨v14, e14, q14⟩ := hw 14 (by kernel_rfl) _ _ _ rfl rfl rfl
      obtain rfl : v14 = Value.bool false := q14
      obtain ⟨v17, e17, q17⟩ := hw 17 (by kernel_rfl) _ _ _ rfl rfl rfl
      obtain rfl : v17 = .agg (cls x) := q17
      obtain ⟨v18, e18, q18⟩ := hw 18 (by kernel_rfl) _ _ _ rfl rfl rfl
      obtain rfl : v18 = .agg (cls y) := q18
      exact .inl ⟨wanted_some rfl rfl rfl e14, wp_val (run_eql_arr rfl (ev_tmp e17) (ev_tmp e18)) ⟨_, rfl, congrArg Value.bool (rfl), Below.refl _ _, hs⟩⟩
    · intro a' w' ha hs hw
      obtain ⟨v14, e14, q14⟩ := hw 14 (by kernel_rfl) _ _ _ rfl rfl rfl
      obtain rfl : v14 = Value.bool false := q14
      obtain ⟨v16, e16, q16⟩ := hw 16 (by kernel_rfl) _ _ _ rfl rfl rfl
      obtain rfl : v16 = Value.bool ((o == 0)) := q16
      obtain ⟨v19, e19, q19⟩ := hw 19 (by kernel_rfl) _ _ _ rfl rfl rfl
      obtain rfl : v19 = Value.bool (eqa x y) := q19
      exact .inl ⟨wanted_some rfl rfl rfl e14, wp_val (run_neq_bool rfl (ev_tmp e16) (ev_tmp e19)) ⟨_, rfl, congrArg Value.bool (E5.out), Below.refl _ _, hs⟩⟩
    · intro a' w' ha hs hw
      obtain ⟨v14, e14, q14⟩ := hw 14 (by kernel_rfl) _ _ _ rfl rfl rfl
      obtain rfl : v14 = Value.bool false := q14
      obtain ⟨v20, e20, q20⟩ := hw 20 (by kernel_rfl) _ _ _ rfl rfl rfl
      obtain rfl : v20 = Value.bool false := q20
      exact .inl ⟨wanted_none rfl, wp_val (run_pick (b := false) rfl (ev_tmp e14) (ev_tmp e20)) ⟨_, rfl, rfl, Below.refl _ _, hs⟩⟩
    · intro a' w' ha hs hw
      obtain ⟨v21, e21, q21⟩ := hw 21 (by kernel_rfl) _ _ _ rfl rfl rfl
      obtain rfl : v21 = Value.bool false := q21
      exact .inl ⟨wanted_none rfl, wp_val (run_move rfl (ev_tmp e21)) ⟨_, rfl, rfl, Below.refl _ _, hs⟩⟩
    · intro a' w' ha hs hw
      obtain ⟨v22, e22, q22⟩ := hw 22 (by kernel_rfl) _ _ _ rfl rfl rfl
      obtain rfl : v22 = Value.bool false := q22
      have eo8 : a'.tmps[8]? = some (.pointer (some ⟨y2.heap.size, 0, none⟩)) := (ha.rest 8 (by kernel_rfl)).trans rfl
      exact .inl ⟨wanted_some rfl rfl rfl e22, wp_val (run_load rfl (ev_tmp eo8) (A.out.below hs A.out.lt)) ⟨_, rfl, rfl, Below.refl _ _, hs⟩⟩
    · intro a' w' ha hs hw
      obtain ⟨v22, e22, q22⟩ := hw 22 (by kernel_rfl) _ _ _ rfl rfl rfl
      obtain rfl : v22 = Value.bool false := q22
      exact .inl ⟨wanted_some rfl rfl rfl e22, wp_val (run_build_nul rfl) ⟨_, rfl, rfl, Below.refl _ _, hs⟩⟩
    · intro a' w' ha hs hw
      obtain ⟨v22, e22, q22⟩ := hw 22 (by kernel_rfl) _ _ _ rfl rfl rfl
      obtain rfl : v22 = Value.bool false := q22
      obtain ⟨v23, e23, q23⟩ := hw 23 (by kernel_rfl) _ _ _ rfl rfl rfl
      obtain rfl : v23 = .agg (cls x) := q23
      obtain ⟨v24, e24, q24⟩ := hw 24 (by kernel_rfl) _ _ _ rfl rfl rfl
      obtain rfl : v24 = .agg (cls nul) := q24
      exact .inl ⟨wanted_some rfl rfl rfl e22, call_step rfl Try.func19 (by kernel_rfl) rfl (map_two (ev_tmp e23) (ev_tmp e24)) (cmp_is (x) (nul) (u) _ (HU.out)) (fun e w2 he => by obtain ⟨rfl, hb⟩ := he; exact ⟨_, rfl, _, rfl, rfl, hb, hs.trans (hb.mono hs.size)⟩)⟩
    · intro a' w' ha hs hw
      obtain ⟨v22, e22, q22⟩ := hw 22 (by kernel_rfl) _ _ _ rfl rfl rfl
      obtain rfl : v22 = Value.bool false := q22
      obtain ⟨v25, e25, q25⟩ := hw 25 (by kernel_rfl) _ _ _ rfl rfl rfl
      obtain rfl : v25 = Value.int IntKind.i64 (u) := q25
      exact .inl ⟨wanted_some rfl rfl rfl e22, wp_val (run_eql_int rfl (ev_tmp e25) rfl) ⟨_, rfl, congrArg Value.bool (rfl), Below.refl _ _, hs⟩⟩
    · intro a' w' ha hs hw
      obtain ⟨v22, e22, q22⟩ := hw 22 (by kernel_rfl) _ _ _ rfl rfl rfl
      obtain rfl : v22 = Value.bool false := q22
      have eo8 : a'.tmps[8]? = some (.pointer (some ⟨y2.heap.size, 0, none⟩)) := (ha.rest 8 (by kernel_rfl)).trans rfl
      exact .inl ⟨wanted_some rfl rfl rfl e22, wp_val (run_load rfl (ev_tmp eo8) (A.out.below hs A.out.lt)) ⟨_, rfl, rfl, Below.refl _ _, hs⟩⟩
    · intro a' w' ha hs hw
      obtain ⟨v22, e22, q22⟩ := hw 22 (by kernel_rfl) _ _ _ rfl rfl rfl
      obtain rfl : v22 = Value.bool false := q22
      exact .inl ⟨wanted_some rfl rfl rfl e22, wp_val (run_build_nul rfl) ⟨_, rfl, rfl, Below.refl _ _, hs⟩⟩
    · intro a' w' ha hs hw
      obtain ⟨v22, e22, q22⟩ := hw 22 (by kernel_rfl) _ _ _ rfl rfl rfl
      obtain rfl : v22 = Value.bool false := q22
      obtain ⟨v27, e27, q27⟩ := hw 27 (by kernel_rfl) _ _ _ rfl rfl rfl
      obtain rfl : v27 = .agg (cls x) := q27
      obtain ⟨v28, e28, q28⟩ := hw 28 (by kernel_rfl) _ _ _ rfl rfl rfl
      obtain rfl : v28 = .agg (cls nul) := q28
      exact .inl ⟨wanted_some rfl rfl rfl e22, wp_val (run_eql_arr rfl (ev_tmp e27) (ev_tmp e28)) ⟨_, rfl, congrArg Value.bool (rfl), Below.refl _ _, hs⟩⟩
    · intro a' w' ha hs hw
      obtain ⟨v22, e22, q22⟩ := hw 22 (by kernel_rfl) _ _ _ rfl rfl rfl
      obtain rfl : v22 = Value.bool false := q22
      obtain ⟨v26, e26, q26⟩ := hw 26 (by kernel_rfl) _ _ _ rfl rfl rfl
      obtain rfl : v26 = Value.bool ((u == 0)) := q26
      obtain ⟨v29, e29, q29⟩ := hw 29 (by kernel_rfl) _ _ _ rfl rfl rfl
      obtain rfl : v29 = Value.bool (eqa x nul) := q29
      exact .inl ⟨wanted_some rfl rfl rfl e22, wp_val (run_neq_bool rfl (ev_tmp e26) (ev_tmp e29)) ⟨_, rfl, congrArg Value.bool (E6.out), Below.refl _ _, hs⟩⟩
    · intro a' w' ha hs hw
      obtain ⟨v22, e22, q22⟩ := hw 22 (by kernel_rfl) _ _ _ rfl rfl rfl
      obtain rfl : v22 = Value.bool false := q22
      obtain ⟨v30, e30, q30⟩ := hw 30 (by kernel_rfl) _ _ _ rfl rfl rfl
      obtain rfl : v30 = Value.bool false := q30
      exact .inl ⟨wanted_none rfl, wp_val (run_pick (b := false) rfl (ev_tmp e22) (ev_tmp e30)) ⟨_, rfl, rfl, Below.refl _ _, hs⟩⟩
    · intro a' w' ha hs hw
      obtain ⟨v31, e31, q31⟩ := hw 31 (by kernel_rfl) _ _ _ rfl rfl rfl
      obtain rfl : v31 = Value.bool false := q31
      exact .inl ⟨wanted_none rfl, wp_val (run_move rfl (ev_tmp e31)) ⟨_, rfl, rfl, Below.refl _ _, hs⟩⟩
    · intro a' w' ha hs hw
      obtain ⟨v32, e32, q32⟩ := hw 32 (by kernel_rfl) _ _ _ rfl rfl rfl
      obtain rfl : v32 = Value.bool false := q32
      have eo8 : a'.tmps[8]? = some (.pointer (some ⟨y2.heap.size, 0, none⟩)) := (ha.rest 8 (by kernel_rfl)).trans rfl
      exact .inl ⟨wanted_some rfl rfl rfl e32, wp_val (run_load rfl (ev_tmp eo8) (A.out.below hs A.out.lt)) ⟨_, rfl, rfl, Below.refl _ _, hs⟩⟩
    · intro a' w' ha hs hw
      obtain ⟨v32, e32, q32⟩ := hw 32 (by kernel_rfl) _ _ _ rfl rfl rfl
      obtain rfl : v32 = Value.bool false := q32
      exact .inl ⟨wanted_some rfl rfl rfl e32, wp_val (run_build_nul rfl) ⟨_, rfl, rfl, Below.refl _ _, hs⟩⟩
    · intro a' w' ha hs hw
      obtain ⟨v32, e32, q32⟩ := hw 32 (by kernel_rfl) _ _ _ rfl rfl rfl
      obtain rfl : v32 = Value.bool false := q32
      obtain ⟨v33, e33, q33⟩ := hw 33 (by kernel_rfl) _ _ _ rfl rfl rfl
      obtain rfl : v33 = .agg (cls x) := q33
      obtain ⟨v34, e34, q34⟩ := hw 34 (by kernel_rfl) _ _ _ rfl rfl rfl
      obtain rfl : v34 = .agg (cls nul) := q34
      exact .inl ⟨wanted_some rfl rfl rfl e32, call_step rfl Try.func19 (by kernel_rfl) rfl (map_two (ev_tmp e33) (ev_tmp e34)) (cmp_is (x) (nul) (u) _ (HU.out)) (fun e w2 he => by obtain ⟨rfl, hb⟩ := he; exact ⟨_, rfl, _, rfl, rfl, hb, hs.trans (hb.mono hs.size)⟩)⟩
    · intro a' w' ha hs hw
      obtain ⟨v32, e32, q32⟩ := hw 32 (by kernel_rfl) _ _ _ rfl rfl rfl
      obtain rfl : v32 = Value.bool false := q32
      obtain ⟨v35, e35, q35⟩ := hw 35 (by kernel_rfl) _ _ _ rfl rfl rfl
      obtain rfl : v35 = Value.int IntKind.i64 (u) := q35
      exact .inl ⟨wanted_some rfl rfl rfl e32, wp_val (run_lss_int rfl (ev_tmp e35) rfl) ⟨_, rfl, congrArg Value.bool (E7.out), Below.refl _ _, hs⟩⟩
    · intro a' w' ha hs hw
      obtain ⟨v32, e32, q32⟩ := hw 32 (by kernel_rfl) _ _ _ rfl rfl rfl
      obtain rfl : v32 = Value.bool false := q32
      obtain ⟨v36, e36, q36⟩ := hw 36 (by kernel_rfl) _ _ _ rfl rfl rfl
      obtain rfl : v36 = Value.bool false := q36
      exact .inl ⟨wanted_none rfl, wp_val (run_pick (b := false) rfl (ev_tmp e32) (ev_tmp e36)) ⟨_, rfl, rfl, Below.refl _ _, hs⟩⟩
  simp only [allK]
  simp only [setAll, List.set_cons_succ, List.set_cons_zero]
  refine hK _ _ ?_
  clear hK K
  replace A := Lib.hid (A.out.below hs A.out.lt)
  replace B := Lib.hid (B.out.below hs B.out.lt)
  replace C := Lib.hid (C.out.below hs C.out.lt)
  replace DW := Lib.hid (below_link DW.out hs DW.out.size)
  clear hs
  generalize wn = z9 at *
  clear E1 E2 E3 E4 E5 E6 E7 E8
  by_cases hg : o < 0
  · have NG := Lib.hid (decide_eq_true hg)
    obtain ⟨q, hq⟩ := CM.ex y z
    have HQ := Lib.hid hq
    by_cases hql : q ≤ 0
    · have NQ := Lib.hid (decide_eq_true hql)
      have HT := Lib.hid (cm_trans HC.out hq hg hql)
      clear hg hq hql
      cases hva : vaB (sumF x z) with
      | false =>
        have HA := Lib.hid hva
        clear hva
        have e0 : decide (o < 0) = true := NG.out
        obtain ⟨cB0, cB1, cB2, cB3, cB4, cB5, cB6, cB7⟩ := B.out.all
        obtain ⟨cC0, cC1, cC2, cC3, cC4, cC5, cC6, cC7⟩ := C.out.all
        go_wp2_with fail
        clear cB0 cB1 cB2 cB3 cB4 cB5 cB6 cB7
        clear cC0 cC1 cC2 cC3 cC4 cC5 cC6 cC7
        refine (cmp_is y z q _ HQ.out).mono ?_
        rintro e y10 ⟨rfl, hb⟩
        replace A := Lib.hid (A.out.below hb A.out.lt)
        replace B := Lib.hid (B.out.below hb B.out.lt)
        replace C := Lib.hid (C.out.below hb C.out.lt)
        replace DW := Lib.hid (below_link DW.out hb DW.out.size)
        clear hb
        have e9 : decide (q ≤ 0) = true := NQ.out
        obtain ⟨cA0, cA1, cA2, cA3, cA4, cA5, cA6, cA7⟩ := A.out.all
        obtain ⟨cC0, cC1, cC2, cC3, cC4, cC5, cC6, cC7⟩ := C.out.all
        go_wp2_with fail
        clear cA0 cA1 cA2 cA3 cA4 cA5 cA6 cA7
        clear cC0 cC1 cC2 cC3 cC4 cC5 cC6 cC7
        refine (cmp_is x z (-1) _ HT.out).mono ?_
        rintro e y11 ⟨rfl, hb⟩
        replace A := Lib.hid (A.out.below hb A.out.lt)
        replace B := Lib.hid (B.out.below hb B.out.lt)
        replace C := Lib.hid (C.out.below hb C.out.lt)
        replace DW := Lib.hid (below_link DW.out hb DW.out.size)
        clear hb
        go_wp2_with (first | (refine ld _ _ A.out rfl rfl rfl ?_) | (refine ld _ _ C.out rfl rfl rfl ?_) | fail)
        refine (mul_is x z _ V0.out V2.out).mono ?_
        rintro e y12 ⟨rfl, hb⟩
        replace A := Lib.hid (A.out.below hb A.out.lt)
        replace B := Lib.hid (B.out.below hb B.out.lt)
        replace C := Lib.hid (C.out.below hb C.out.lt)
        replace DW := Lib.hid (below_link DW.out hb DW.out.size)
        clear hb
        go_upto_region 13 with fail
        obtain ⟨w13, hW⟩ : ∃ w13, w13 = y12.alloc (Obj.cells #[Value.int IntKind.i64 ((prF x z) 0), Value.int IntKind.i64 ((prF x z) 1), Value.int IntKind.i64 ((prF x z) 2), Value.int IntKind.i64 ((prF x z) 3), Value.int IntKind.i64 ((prF x z) 4), Value.int IntKind.i64 ((prF x z) 5), Value.int IntKind.i64 ((prF x z) 6), Value.int IntKind.i64 ((prF x z) 7)] 27) := ⟨_, rfl⟩
        rw [← hW]
        have P : Hid (Row w13 y12.heap.size (prF x z)) := by rw [hW]; exact Row.new y12 (prF x z)
        have hb : Below y12.heap.size y12 w13 := by rw [hW]; exact (Below.refl _ _).alloc (Nat.le_refl _) _
        replace A := Lib.hid (A.out.below hb A.out.lt)
        replace B := Lib.hid (B.out.below hb B.out.lt)
        replace C := Lib.hid (C.out.below hb C.out.lt)
        replace DW := Lib.hid (below_link DW.out hb DW.out.size)
        clear hW hb
        go_wp2_with (first | (refine ld _ _ B.out rfl rfl rfl ?_) | (refine ld _ _ C.out rfl rfl rfl ?_) | fail)
        refine (mul_is y z _ V1.out V2.out).mono ?_
        rintro e y14 ⟨rfl, hb⟩
        replace A := Lib.hid (A.out.below hb A.out.lt)
        replace B := Lib.hid (B.out.below hb B.out.lt)
        replace C := Lib.hid (C.out.below hb C.out.lt)
        replace P := Lib.hid (P.out.below hb P.out.lt)
        replace DW := Lib.hid (below_link DW.out hb DW.out.size)
        clear hb
        go_upto_region 14 with fail
        obtain ⟨w15, hW⟩ : ∃ w15, w15 = y14.alloc (Obj.cells #[Value.int IntKind.i64 ((prF y z) 0), Value.int IntKind.i64 ((prF y z) 1), Value.int IntKind.i64 ((prF y z) 2), Value.int IntKind.i64 ((prF y z) 3), Value.int IntKind.i64 ((prF y z) 4), Value.int IntKind.i64 ((prF y z) 5), Value.int IntKind.i64 ((prF y z) 6), Value.int IntKind.i64 ((prF y z) 7)] 27) := ⟨_, rfl⟩
        rw [← hW]
        have Q : Hid (Row w15 y14.heap.size (prF y z)) := by rw [hW]; exact Row.new y14 (prF y z)
        have hb : Below y14.heap.size y14 w15 := by rw [hW]; exact (Below.refl _ _).alloc (Nat.le_refl _) _
        replace A := Lib.hid (A.out.below hb A.out.lt)
        replace B := Lib.hid (B.out.below hb B.out.lt)
        replace C := Lib.hid (C.out.below hb C.out.lt)
        replace P := Lib.hid (P.out.below hb P.out.lt)
        replace DW := Lib.hid (below_link DW.out hb DW.out.size)
        clear hW hb
        have e1 : (prE x z != 0) = true := by rw [prE_no HA.out]; rfl
        go_wp2_with fail
        go_ret
        exact ⟨rfl, DW.out⟩
      | true =>
        have HA := Lib.hid hva
        clear hva
        cases hvb : vaB (sumF y z) with
        | false =>
          have HB := Lib.hid hvb
          clear hvb
          have e0 : decide (o < 0) = true := NG.out
          obtain ⟨cB0, cB1, cB2, cB3, cB4, cB5, cB6, cB7⟩ := B.out.all
          obtain ⟨cC0, cC1, cC2, cC3, cC4, cC5, cC6, cC7⟩ := C.out.all
          go_wp2_with fail
          clear cB0 cB1 cB2 cB3 cB4 cB5 cB6 cB7
          clear cC0 cC1 cC2 cC3 cC4 cC5 cC6 cC7
          refine (cmp_is y z q _ HQ.out).mono ?_
          rintro e y10 ⟨rfl, hb⟩
          replace A := Lib.hid (A.out.below hb A.out.lt)
          replace B := Lib.hid (B.out.below hb B.out.lt)
          replace C := Lib.hid (C.out.below hb C.out.lt)
          replace DW := Lib.hid (below_link DW.out hb DW.out.size)
          clear hb
          have e9 : decide (q ≤ 0) = true := NQ.out
          obtain ⟨cA0, cA1, cA2, cA3, cA4, cA5, cA6, cA7⟩ := A.out.all
          obtain ⟨cC0, cC1, cC2, cC3, cC4, cC5, cC6, cC7⟩ := C.out.all
          go_wp2_with fail
          clear cA0 cA1 cA2 cA3 cA4 cA5 cA6 cA7
          clear cC0 cC1 cC2 cC3 cC4 cC5 cC6 cC7
          refine (cmp_is x z (-1) _ HT.out).mono ?_
          rintro e y11 ⟨rfl, hb⟩
          replace A := Lib.hid (A.out.below hb A.out.lt)
          replace B := Lib.hid (B.out.below hb B.out.lt)
          replace C := Lib.hid (C.out.below hb C.out.lt)
          replace DW := Lib.hid (below_link DW.out hb DW.out.size)
          clear hb
          go_wp2_with (first | (refine ld _ _ A.out rfl rfl rfl ?_) | (refine ld _ _ C.out rfl rfl rfl ?_) | fail)
          refine (mul_is x z _ V0.out V2.out).mono ?_
          rintro e y12 ⟨rfl, hb⟩
          replace A := Lib.hid (A.out.below hb A.out.lt)
          replace B := Lib.hid (B.out.below hb B.out.lt)
          replace C := Lib.hid (C.out.below hb C.out.lt)
          replace DW := Lib.hid (below_link DW.out hb DW.out.size)
          clear hb
          go_upto_region 13 with fail
          obtain ⟨w13, hW⟩ : ∃ w13, w13 = y12.alloc (Obj.cells #[Value.int IntKind.i64 ((prF x z) 0), Value.int IntKind.i64 ((prF x z) 1), Value.int IntKind.i64 ((prF x z) 2), Value.int IntKind.i64 ((prF x z) 3), Value.int IntKind.i64 ((prF x z) 4), Value.int IntKind.i64 ((prF x z) 5), Value.int IntKind.i64 ((prF x z) 6), Value.int IntKind.i64 ((prF x z) 7)] 27) := ⟨_, rfl⟩
          rw [← hW]
          have P : Hid (Row w13 y12.heap.size (prF x z)) := by rw [hW]; exact Row.new y12 (prF x z)
          have hb : Below y12.heap.size y12 w13 := by rw [hW]; exact (Below.refl _ _).alloc (Nat.le_refl _) _
          replace A := Lib.hid (A.out.below hb A.out.lt)
          replace B := Lib.hid (B.out.below hb B.out.lt)
          replace C := Lib.hid (C.out.below hb C.out.lt)
          replace DW := Lib.hid (below_link DW.out hb DW.out.size)
          clear hW hb
          go_wp2_with (first | (refine ld _ _ B.out rfl rfl rfl ?_) | (refine ld _ _ C.out rfl rfl rfl ?_) | fail)
          refine (mul_is y z _ V1.out V2.out).mono ?_
          rintro e y14 ⟨rfl, hb⟩
          replace A := Lib.hid (A.out.below hb A.out.lt)
          replace B := Lib.hid (B.out.below hb B.out.lt)
          replace C := Lib.hid (C.out.below hb C.out.lt)
          replace P := Lib.hid (P.out.below hb P.out.lt)
          replace DW := Lib.hid (below_link DW.out hb DW.out.size)
          clear hb
          go_upto_region 14 with fail
          obtain ⟨w15, hW⟩ : ∃ w15, w15 = y14.alloc (Obj.cells #[Value.int IntKind.i64 ((prF y z) 0), Value.int IntKind.i64 ((prF y z) 1), Value.int IntKind.i64 ((prF y z) 2), Value.int IntKind.i64 ((prF y z) 3), Value.int IntKind.i64 ((prF y z) 4), Value.int IntKind.i64 ((prF y z) 5), Value.int IntKind.i64 ((prF y z) 6), Value.int IntKind.i64 ((prF y z) 7)] 27) := ⟨_, rfl⟩
          rw [← hW]
          have Q : Hid (Row w15 y14.heap.size (prF y z)) := by rw [hW]; exact Row.new y14 (prF y z)
          have hb : Below y14.heap.size y14 w15 := by rw [hW]; exact (Below.refl _ _).alloc (Nat.le_refl _) _
          replace A := Lib.hid (A.out.below hb A.out.lt)
          replace B := Lib.hid (B.out.below hb B.out.lt)
          replace C := Lib.hid (C.out.below hb C.out.lt)
          replace P := Lib.hid (P.out.below hb P.out.lt)
          replace DW := Lib.hid (below_link DW.out hb DW.out.size)
          clear hW hb
          have e1 : (prE x z != 0) = false := by rw [prE_ok (vaB_iff.1 HA.out)]; rfl
          have e2 : (prE y z != 0) = true := by rw [prE_no HB.out]; rfl
          go_wp2_with fail
          go_ret
          exact ⟨rfl, DW.out⟩
        | true =>
          have HB := Lib.hid hvb
          clear hvb
          have e0 : decide (o < 0) = true := NG.out
          obtain ⟨cB0, cB1, cB2, cB3, cB4, cB5, cB6, cB7⟩ := B.out.all
          obtain ⟨cC0, cC1, cC2, cC3, cC4, cC5, cC6, cC7⟩ := C.out.all
          go_wp2_with fail
          clear cB0 cB1 cB2 cB3 cB4 cB5 cB6 cB7
          clear cC0 cC1 cC2 cC3 cC4 cC5 cC6 cC7
          refine (cmp_is y z q _ HQ.out).mono ?_
          rintro e y10 ⟨rfl, hb⟩
          replace A := Lib.hid (A.out.below hb A.out.lt)
          replace B := Lib.hid (B.out.below hb B.out.lt)
          replace C := Lib.hid (C.out.below hb C.out.lt)
          replace DW := Lib.hid (below_link DW.out hb DW.out.size)
          clear hb
          have e9 : decide (q ≤ 0) = true := NQ.out
          obtain ⟨cA0, cA1, cA2, cA3, cA4, cA5, cA6, cA7⟩ := A.out.all
          obtain ⟨cC0, cC1, cC2, cC3, cC4, cC5, cC6, cC7⟩ := C.out.all
          go_wp2_with fail
          clear cA0 cA1 cA2 cA3 cA4 cA5 cA6 cA7
          clear cC0 cC1 cC2 cC3 cC4 cC5 cC6 cC7
          refine (cmp_is x z (-1) _ HT.out).mono ?_
          rintro e y11 ⟨rfl, hb⟩
          replace A := Lib.hid (A.out.below hb A.out.lt)
          replace B := Lib.hid (B.out.below hb B.out.lt)
          replace C := Lib.hid (C.out.below hb C.out.lt)
          replace DW := Lib.hid (below_link DW.out hb DW.out.size)
          clear hb
          go_wp2_with (first | (refine ld _ _ A.out rfl rfl rfl ?_) | (refine ld _ _ C.out rfl rfl rfl ?_) | fail)
          refine (mul_is x z _ V0.out V2.out).mono ?_
          rintro e y12 ⟨rfl, hb⟩
          replace A := Lib.hid (A.out.below hb A.out.lt)
          replace B := Lib.hid (B.out.below hb B.out.lt)
          replace C := Lib.hid (C.out.below hb C.out.lt)
          replace DW := Lib.hid (below_link DW.out hb DW.out.size)
          clear hb
          go_upto_region 13 with fail
          obtain ⟨w13, hW⟩ : ∃ w13, w13 = y12.alloc (Obj.cells #[Value.int IntKind.i64 ((prF x z) 0), Value.int IntKind.i64 ((prF x z) 1), Value.int IntKind.i64 ((prF x z) 2), Value.int IntKind.i64 ((prF x z) 3), Value.int IntKind.i64 ((prF x z) 4), Value.int IntKind.i64 ((prF x z) 5), Value.int IntKind.i64 ((prF x z) 6), Value.int IntKind.i64 ((prF x z) 7)] 27) := ⟨_, rfl⟩
          rw [← hW]
          have P : Hid (Row w13 y12.heap.size (prF x z)) := by rw [hW]; exact Row.new y12 (prF x z)
          have hb : Below y12.heap.size y12 w13 := by rw [hW]; exact (Below.refl _ _).alloc (Nat.le_refl _) _
          replace A := Lib.hid (A.out.below hb A.out.lt)
          replace B := Lib.hid (B.out.below hb B.out.lt)
          replace C := Lib.hid (C.out.below hb C.out.lt)
          replace DW := Lib.hid (below_link DW.out hb DW.out.size)
          clear hW hb
          go_wp2_with (first | (refine ld _ _ B.out rfl rfl rfl ?_) | (refine ld _ _ C.out rfl rfl rfl ?_) | fail)
          refine (mul_is y z _ V1.out V2.out).mono ?_
          rintro e y14 ⟨rfl, hb⟩
          replace A := Lib.hid (A.out.below hb A.out.lt)
          replace B := Lib.hid (B.out.below hb B.out.lt)
          replace C := Lib.hid (C.out.below hb C.out.lt)
          replace P := Lib.hid (P.out.below hb P.out.lt)
          replace DW := Lib.hid (below_link DW.out hb DW.out.size)
          clear hb
          go_upto_region 14 with fail
          obtain ⟨w15, hW⟩ : ∃ w15, w15 = y14.alloc (Obj.cells #[Value.int IntKind.i64 ((prF y z) 0), Value.int IntKind.i64 ((prF y z) 1), Value.int IntKind.i64 ((prF y z) 2), Value.int IntKind.i64 ((prF y z) 3), Value.int IntKind.i64 ((prF y z) 4), Value.int IntKind.i64 ((prF y z) 5), Value.int IntKind.i64 ((prF y z) 6), Value.int IntKind.i64 ((prF y z) 7)] 27) := ⟨_, rfl⟩
          rw [← hW]
          have Q : Hid (Row w15 y14.heap.size (prF y z)) := by rw [hW]; exact Row.new y14 (prF y z)
          have hb : Below y14.heap.size y14 w15 := by rw [hW]; exact (Below.refl _ _).alloc (Nat.le_refl _) _
          replace A := Lib.hid (A.out.below hb A.out.lt)
          replace B := Lib.hid (B.out.below hb B.out.lt)
          replace C := Lib.hid (C.out.below hb C.out.lt)
          replace P := Lib.hid (P.out.below hb P.out.lt)
          replace DW := Lib.hid (below_link DW.out hb DW.out.size)
          clear hW hb
          have e1 : (prE x z != 0) = false := by rw [prE_ok (vaB_iff.1 HA.out)]; rfl
          have e2 : (prE y z != 0) = false := by rw [prE_ok (vaB_iff.1 HB.out)]; rfl
          obtain ⟨cP0, cP1, cP2, cP3, cP4, cP5, cP6, cP7⟩ := P.out.all
          obtain ⟨cQ0, cQ1, cQ2, cQ3, cQ4, cQ5, cQ6, cQ7⟩ := Q.out.all
          go_wp2_with fail
          clear cP0 cP1 cP2 cP3 cP4 cP5 cP6 cP7
          clear cQ0 cQ1 cQ2 cQ3 cQ4 cQ5 cQ6 cQ7
          refine (cmp_is (prF x z) (prF y z) o _ (cm_sum HC.out (vaB_iff.1 HA.out) (vaB_iff.1 HB.out))).mono ?_
          rintro e y16 ⟨rfl, hb⟩
          replace A := Lib.hid (A.out.below hb A.out.lt)
          replace B := Lib.hid (B.out.below hb B.out.lt)
          replace C := Lib.hid (C.out.below hb C.out.lt)
          replace P := Lib.hid (P.out.below hb P.out.lt)
          replace Q := Lib.hid (Q.out.below hb Q.out.lt)
          replace DW := Lib.hid (below_link DW.out hb DW.out.size)
          clear hb
          clear e1 e2
          have e3 : (o == o) = true := by simp
          go_wp2_with fail
          go_ret
          exact ⟨rfl, DW.out⟩
  
    · have NQ := Lib.hid (decide_eq_false hql)
      clear hg hq hql
      cases hva : vaB (sumF x z) with
      | false =>
        have HA := Lib.hid hva
        clear hva
        have e0 : decide (o < 0) = true := NG.out
        obtain ⟨cB0, cB1, cB2, cB3, cB4, cB5, cB6, cB7⟩ := B.out.all
        obtain ⟨cC0, cC1, cC2, cC3, cC4, cC5, cC6, cC7⟩ := C.out.all
        go_wp2_with fail
        clear cB0 cB1 cB2 cB3 cB4 cB5 cB6 cB7
        clear cC0 cC1 cC2 cC3 cC4 cC5 cC6 cC7
        refine (cmp_is y z q _ HQ.out).mono ?_
        rintro e y10 ⟨rfl, hb⟩
        replace A := Lib.hid (A.out.below hb A.out.lt)
        replace B := Lib.hid (B.out.below hb B.out.lt)
        replace C := Lib.hid (C.out.below hb C.out.lt)
        replace DW := Lib.hid (below_link DW.out hb DW.out.size)
        clear hb
        have e9 : decide (q ≤ 0) = false := NQ.out
        go_wp2_with (first | (refine ld _ _ A.out rfl rfl rfl ?_) | (refine ld _ _ C.out rfl rfl rfl ?_) | fail)
        refine (mul_is x z _ V0.out V2.out).mono ?_
        rintro e y11 ⟨rfl, hb⟩
        replace A := Lib.hid (A.out.below hb A.out.lt)
        replace B := Lib.hid (B.out.below hb B.out.lt)
        replace C := Lib.hid (C.out.below hb C.out.lt)
        replace DW := Lib.hid (below_link DW.out hb DW.out.size)
        clear hb
        go_upto_region 13 with fail
        obtain ⟨w12, hW⟩ : ∃ w12, w12 = y11.alloc (Obj.cells #[Value.int IntKind.i64 ((prF x z) 0), Value.int IntKind.i64 ((prF x z) 1), Value.int IntKind.i64 ((prF x z) 2), Value.int IntKind.i64 ((prF x z) 3), Value.int IntKind.i64 ((prF x z) 4), Value.int IntKind.i64 ((prF x z) 5), Value.int IntKind.i64 ((prF x z) 6), Value.int IntKind.i64 ((prF x z) 7)] 27) := ⟨_, rfl⟩
        rw [← hW]
        have P : Hid (Row w12 y11.heap.size (prF x z)) := by rw [hW]; exact Row.new y11 (prF x z)
        have hb : Below y11.heap.size y11 w12 := by rw [hW]; exact (Below.refl _ _).alloc (Nat.le_refl _) _
        replace A := Lib.hid (A.out.below hb A.out.lt)
        replace B := Lib.hid (B.out.below hb B.out.lt)
        replace C := Lib.hid (C.out.below hb C.out.lt)
        replace DW := Lib.hid (below_link DW.out hb DW.out.size)
        clear hW hb
        go_wp2_with (first | (refine ld _ _ B.out rfl rfl rfl ?_) | (refine ld _ _ C.out rfl rfl rfl ?_) | fail)
        refine (mul_is y z _ V1.out V2.out).mono ?_
        rintro e y13 ⟨rfl, hb⟩
        replace A := Lib.hid (A.out.below hb A.out.lt)
        replace B := Lib.hid (B.out.below hb B.out.lt)
        replace C := Lib.hid (C.out.below hb C.out.lt)
        replace P := Lib.hid (P.out.below hb P.out.lt)
        replace DW := Lib.hid (below_link DW.out hb DW.out.size)
        clear hb
        go_upto_region 14 with fail
        obtain ⟨w14, hW⟩ : ∃ w14, w14 = y13.alloc (Obj.cells #[Value.int IntKind.i64 ((prF y z) 0), Value.int IntKind.i64 ((prF y z) 1), Value.int IntKind.i64 ((prF y z) 2), Value.int IntKind.i64 ((prF y z) 3), Value.int IntKind.i64 ((prF y z) 4), Value.int IntKind.i64 ((prF y z) 5), Value.int IntKind.i64 ((prF y z) 6), Value.int IntKind.i64 ((prF y z) 7)] 27) := ⟨_, rfl⟩
        rw [← hW]
        have Q : Hid (Row w14 y13.heap.size (prF y z)) := by rw [hW]; exact Row.new y13 (prF y z)
        have hb : Below y13.heap.size y13 w14 := by rw [hW]; exact (Below.refl _ _).alloc (Nat.le_refl _) _
        replace A := Lib.hid (A.out.below hb A.out.lt)
        replace B := Lib.hid (B.out.below hb B.out.lt)
        replace C := Lib.hid (C.out.below hb C.out.lt)
        replace P := Lib.hid (P.out.below hb P.out.lt)
        replace DW := Lib.hid (below_link DW.out hb DW.out.size)
        clear hW hb
        have e1 : (prE x z != 0) = true := by rw [prE_no HA.out]; rfl
        go_wp2_with fail
        go_ret
        exact ⟨rfl, DW.out⟩
      | true =>
        have HA := Lib.hid hva
        clear hva
        cases hvb : vaB (sumF y z) with
        | false =>
          have HB := Lib.hid hvb
          clear hvb
          have e0 : decide (o < 0) = true := NG.out
          obtain ⟨cB0, cB1, cB2, cB3, cB4, cB5, cB6, cB7⟩ := B.out.all
          obtain ⟨cC0, cC1, cC2, cC3, cC4, cC5, cC6, cC7⟩ := C.out.all
          go_wp2_with fail
          clear cB0 cB1 cB2 cB3 cB4 cB5 cB6 cB7
          clear cC0 cC1 cC2 cC3 cC4 cC5 cC6 cC7
          refine (cmp_is y z q _ HQ.out).mono ?_
          rintro e y10 ⟨rfl, hb⟩
          replace A := Lib.hid (A.out.below hb A.out.lt)
          replace B := Lib.hid (B.out.below hb B.out.lt)
          replace C := Lib.hid (C.out.below hb C.out.lt)
          replace DW := Lib.hid (below_link DW.out hb DW.out.size)
          clear hb
          have e9 : decide (q ≤ 0) = false := NQ.out
          go_wp2_with (first | (refine ld _ _ A.out rfl rfl rfl ?_) | (refine ld _ _ C.out rfl rfl rfl ?_) | fail)
          refine (mul_is x z _ V0.out V2.out).mono ?_
          rintro e y11 ⟨rfl, hb⟩
          replace A := Lib.hid (A.out.below hb A.out.lt)
          replace B := Lib.hid (B.out.below hb B.out.lt)
          replace C := Lib.hid (C.out.below hb C.out.lt)
          replace DW := Lib.hid (below_link DW.out hb DW.out.size)
          clear hb
          go_upto_region 13 with fail
          obtain ⟨w12, hW⟩ : ∃ w12, w12 = y11.alloc (Obj.cells #[Value.int IntKind.i64 ((prF x z) 0), Value.int IntKind.i64 ((prF x z) 1), Value.int IntKind.i64 ((prF x z) 2), Value.int IntKind.i64 ((prF x z) 3), Value.int IntKind.i64 ((prF x z) 4), Value.int IntKind.i64 ((prF x z) 5), Value.int IntKind.i64 ((prF x z) 6), Value.int IntKind.i64 ((prF x z) 7)] 27) := ⟨_, rfl⟩
          rw [← hW]
          have P : Hid (Row w12 y11.heap.size (prF x z)) := by rw [hW]; exact Row.new y11 (prF x z)
          have hb : Below y11.heap.size y11 w12 := by rw [hW]; exact (Below.refl _ _).alloc (Nat.le_refl _) _
          replace A := Lib.hid (A.out.below hb A.out.lt)
          replace B := Lib.hid (B.out.below hb B.out.lt)
          replace C := Lib.hid (C.out.below hb C.out.lt)
          replace DW := Lib.hid (below_link DW.out hb DW.out.size)
          clear hW hb
          go_wp2_with (first | (refine ld _ _ B.out rfl rfl rfl ?_) | (refine ld _ _ C.out rfl rfl rfl ?_) | fail)
          refine (mul_is y z _ V1.out V2.out).mono ?_
          rintro e y13 ⟨rfl, hb⟩
          replace A := Lib.hid (A.out.below hb A.out.lt)
          replace B := Lib.hid (B.out.below hb B.out.lt)
          replace C := Lib.hid (C.out.below hb C.out.lt)
          replace P := Lib.hid (P.out.below hb P.out.lt)
          replace DW := Lib.hid (below_link DW.out hb DW.out.size)
          clear hb
          go_upto_region 14 with fail
          obtain ⟨w14, hW⟩ : ∃ w14, w14 = y13.alloc (Obj.cells #[Value.int IntKind.i64 ((prF y z) 0), Value.int IntKind.i64 ((prF y z) 1), Value.int IntKind.i64 ((prF y z) 2), Value.int IntKind.i64 ((prF y z) 3), Value.int IntKind.i64 ((prF y z) 4), Value.int IntKind.i64 ((prF y z) 5), Value.int IntKind.i64 ((prF y z) 6), Value.int IntKind.i64 ((prF y z) 7)] 27) := ⟨_, rfl⟩
          rw [← hW]
          have Q : Hid (Row w14 y13.heap.size (prF y z)) := by rw [hW]; exact Row.new y13 (prF y z)
          have hb : Below y13.heap.size y13 w14 := by rw [hW]; exact (Below.refl _ _).alloc (Nat.le_refl _) _
          replace A := Lib.hid (A.out.below hb A.out.lt)
          replace B := Lib.hid (B.out.below hb B.out.lt)
          replace C := Lib.hid (C.out.below hb C.out.lt)
          replace P := Lib.hid (P.out.below hb P.out.lt)
          replace DW := Lib.hid (below_link DW.out hb DW.out.size)
          clear hW hb
          have e1 : (prE x z != 0) = false := by rw [prE_ok (vaB_iff.1 HA.out)]; rfl
          have e2 : (prE y z != 0) = true := by rw [prE_no HB.out]; rfl
          go_wp2_with fail
          go_ret
          exact ⟨rfl, DW.out⟩
        | true =>
          have HB := Lib.hid hvb
          clear hvb
          have e0 : decide (o < 0) = true := NG.out
          obtain ⟨cB0, cB1, cB2, cB3, cB4, cB5, cB6, cB7⟩ := B.out.all
          obtain ⟨cC0, cC1, cC2, cC3, cC4, cC5, cC6, cC7⟩ := C.out.all
          go_wp2_with fail
          clear cB0 cB1 cB2 cB3 cB4 cB5 cB6 cB7
          clear cC0 cC1 cC2 cC3 cC4 cC5 cC6 cC7
          refine (cmp_is y z q _ HQ.out).mono ?_
          rintro e y10 ⟨rfl, hb⟩
          replace A := Lib.hid (A.out.below hb A.out.lt)
          replace B := Lib.hid (B.out.below hb B.out.lt)
          replace C := Lib.hid (C.out.below hb C.out.lt)
          replace DW := Lib.hid (below_link DW.out hb DW.out.size)
          clear hb
          have e9 : decide (q ≤ 0) = false := NQ.out
          go_wp2_with (first | (refine ld _ _ A.out rfl rfl rfl ?_) | (refine ld _ _ C.out rfl rfl rfl ?_) | fail)
          refine (mul_is x z _ V0.out V2.out).mono ?_
          rintro e y11 ⟨rfl, hb⟩
          replace A := Lib.hid (A.out.below hb A.out.lt)
          replace B := Lib.hid (B.out.below hb B.out.lt)
          replace C := Lib.hid (C.out.below hb C.out.lt)
          replace DW := Lib.hid (below_link DW.out hb DW.out.size)
          clear hb
          go_upto_region 13 with fail
          obtain ⟨w12, hW⟩ : ∃ w12, w12 = y11.alloc (Obj.cells #[Value.int IntKind.i64 ((prF x z) 0), Value.int IntKind.i64 ((prF x z) 1), Value.int IntKind.i64 ((prF x z) 2), Value.int IntKind.i64 ((prF x z) 3), Value.int IntKind.i64 ((prF x z) 4), Value.int IntKind.i64 ((prF x z) 5), Value.int IntKind.i64 ((prF x z) 6), Value.int IntKind.i64 ((prF x z) 7)] 27) := ⟨_, rfl⟩
          rw [← hW]
          have P : Hid (Row w12 y11.heap.size (prF x z)) := by rw [hW]; exact Row.new y11 (prF x z)
          have hb : Below y11.heap.size y11 w12 := by rw [hW]; exact (Below.refl _ _).alloc (Nat.le_refl _) _
          replace A := Lib.hid (A.out.below hb A.out.lt)
          replace B := Lib.hid (B.out.below hb B.out.lt)
          replace C := Lib.hid (C.out.below hb C.out.lt)
          replace DW := Lib.hid (below_link DW.out hb DW.out.size)
          clear hW hb
          go_wp2_with (first | (refine ld _ _ B.out rfl rfl rfl ?_) | (refine ld _ _ C.out rfl rfl rfl ?_) | fail)
          refine (mul_is y z _ V1.out V2.out).mono ?_
          rintro e y13 ⟨rfl, hb⟩
          replace A := Lib.hid (A.out.below hb A.out.lt)
          replace B := Lib.hid (B.out.below hb B.out.lt)
          replace C := Lib.hid (C.out.below hb C.out.lt)
          replace P := Lib.hid (P.out.below hb P.out.lt)
          replace DW := Lib.hid (below_link DW.out hb DW.out.size)
          clear hb
          go_upto_region 14 with fail
          obtain ⟨w14, hW⟩ : ∃ w14, w14 = y13.alloc (Obj.cells #[Value.int IntKind.i64 ((prF y z) 0), Value.int IntKind.i64 ((prF y z) 1), Value.int IntKind.i64 ((prF y z) 2), Value.int IntKind.i64 ((prF y z) 3), Value.int IntKind.i64 ((prF y z) 4), Value.int IntKind.i64 ((prF y z) 5), Value.int IntKind.i64 ((prF y z) 6), Value.int IntKind.i64 ((prF y z) 7)] 27) := ⟨_, rfl⟩
          rw [← hW]
          have Q : Hid (Row w14 y13.heap.size (prF y z)) := by rw [hW]; exact Row.new y13 (prF y z)
          have hb : Below y13.heap.size y13 w14 := by rw [hW]; exact (Below.refl _ _).alloc (Nat.le_refl _) _
          replace A := Lib.hid (A.out.below hb A.out.lt)
          replace B := Lib.hid (B.out.below hb B.out.lt)
          replace C := Lib.hid (C.out.below hb C.out.lt)
          replace P := Lib.hid (P.out.below hb P.out.lt)
          replace DW := Lib.hid (below_link DW.out hb DW.out.size)
          clear hW hb
          have e1 : (prE x z != 0) = false := by rw [prE_ok (vaB_iff.1 HA.out)]; rfl
          have e2 : (prE y z != 0) = false := by rw [prE_ok (vaB_iff.1 HB.out)]; rfl
          obtain ⟨cP0, cP1, cP2, cP3, cP4, cP5, cP6, cP7⟩ := P.out.all
          obtain ⟨cQ0, cQ1, cQ2, cQ3, cQ4, cQ5, cQ6, cQ7⟩ := Q.out.all
          go_wp2_with fail
          clear cP0 cP1 cP2 cP3 cP4 cP5 cP6 cP7
          clear cQ0 cQ1 cQ2 cQ3 cQ4 cQ5 cQ6 cQ7
          refine (cmp_is (prF x z) (prF y z) o _ (cm_sum HC.out (vaB_iff.1 HA.out) (vaB_iff.1 HB.out))).mono ?_
          rintro e y15 ⟨rfl, hb⟩
          replace A := Lib.hid (A.out.below hb A.out.lt)
          replace B := Lib.hid (B.out.below hb B.out.lt)
          replace C := Lib.hid (C.out.below hb C.out.lt)
          replace P := Lib.hid (P.out.below hb P.out.lt)
          replace Q := Lib.hid (Q.out.below hb Q.out.lt)
          replace DW := Lib.hid (below_link DW.out hb DW.out.size)
          clear hb
          clear e1 e2
          have e3 : (o == o) = true := by simp
          go_wp2_with fail
          go_ret
          exact ⟨rfl, DW.out⟩
  
  · have NG := Lib.hid (decide_eq_false hg)
    clear hg
    cases hva : vaB (sumF x z) with
    | false =>
      have HA := Lib.hid hva
      clear hva
      have e0 : decide (o < 0) = false := NG.out
      go_wp2_with (first | (refine ld _ _ A.out rfl rfl rfl ?_) | (refine ld _ _ C.out rfl rfl rfl ?_) | fail)
      refine (mul_is x z _ V0.out V2.out).mono ?_
      rintro e y10 ⟨rfl, hb⟩
      replace A := Lib.hid (A.out.below hb A.out.lt)
      replace B := Lib.hid (B.out.below hb B.out.lt)
      replace C := Lib.hid (C.out.below hb C.out.lt)
      replace DW := Lib.hid (below_link DW.out hb DW.out.size)
      clear hb
      go_upto_region 13 with fail
      obtain ⟨w11, hW⟩ : ∃ w11, w11 = y10.alloc (Obj.cells #[Value.int IntKind.i64 ((prF x z) 0), Value.int IntKind.i64 ((prF x z) 1), Value.int IntKind.i64 ((prF x z) 2), Value.int IntKind.i64 ((prF x z) 3), Value.int IntKind.i64 ((prF x z) 4), Value.int IntKind.i64 ((prF x z) 5), Value.int IntKind.i64 ((prF x z) 6), Value.int IntKind.i64 ((prF x z) 7)] 27) := ⟨_, rfl⟩
      rw [← hW]
      have P : Hid (Row w11 y10.heap.size (prF x z)) := by rw [hW]; exact Row.new y10 (prF x z)
      have hb : Below y10.heap.size y10 w11 := by rw [hW]; exact (Below.refl _ _).alloc (Nat.le_refl _) _
      replace A := Lib.hid (A.out.below hb A.out.lt)
      replace B := Lib.hid (B.out.below hb B.out.lt)
      replace C := Lib.hid (C.out.below hb C.out.lt)
      replace DW := Lib.hid (below_link DW.out hb DW.out.size)
      clear hW hb
      go_wp2_with (first | (refine ld _ _ B.out rfl rfl rfl ?_) | (refine ld _ _ C.out rfl rfl rfl ?_) | fail)
      refine (mul_is y z _ V1.out V2.out).mono ?_
      rintro e y12 ⟨rfl, hb⟩
      replace A := Lib.hid (A.out.below hb A.out.lt)
      replace B := Lib.hid (B.out.below hb B.out.lt)
      replace C := Lib.hid (C.out.below hb C.out.lt)
      replace P := Lib.hid (P.out.below hb P.out.lt)
      replace DW := Lib.hid (below_link DW.out hb DW.out.size)
      clear hb
      go_upto_region 14 with fail
      obtain ⟨w13, hW⟩ : ∃ w13, w13 = y12.alloc (Obj.cells #[Value.int IntKind.i64 ((prF y z) 0), Value.int IntKind.i64 ((prF y z) 1), Value.int IntKind.i64 ((prF y z) 2), Value.int IntKind.i64 ((prF y z) 3), Value.int IntKind.i64 ((prF y z) 4), Value.int IntKind.i64 ((prF y z) 5), Value.int IntKind.i64 ((prF y z) 6), Value.int IntKind.i64 ((prF y z) 7)] 27) := ⟨_, rfl⟩
      rw [← hW]
      have Q : Hid (Row w13 y12.heap.size (prF y z)) := by rw [hW]; exact Row.new y12 (prF y z)
      have hb : Below y12.heap.size y12 w13 := by rw [hW]; exact (Below.refl _ _).alloc (Nat.le_refl _) _
      replace A := Lib.hid (A.out.below hb A.out.lt)
      replace B := Lib.hid (B.out.below hb B.out.lt)
      replace C := Lib.hid (C.out.below hb C.out.lt)
      replace P := Lib.hid (P.out.below hb P.out.lt)
      replace DW := Lib.hid (below_link DW.out hb DW.out.size)
      clear hW hb
      have e1 : (prE x z != 0) = true := by rw [prE_no HA.out]; rfl
      go_wp2_with fail
      go_ret
      exact ⟨rfl, DW.out⟩
    | true =>
      have HA := Lib.hid hva
      clear hva
      cases hvb : vaB (sumF y z) with
      | false =>
        have HB := Lib.hid hvb
        clear hvb
        have e0 : decide (o < 0) = false := NG.out
        go_wp2_with (first | (refine ld _ _ A.out rfl rfl rfl ?_) | (refine ld _ _ C.out rfl rfl rfl ?_) | fail)
        refine (mul_is x z _ V0.out V2.out).mono ?_
        rintro e y10 ⟨rfl, hb⟩
        replace A := Lib.hid (A.out.below hb A.out.lt)
        replace B := Lib.hid (B.out.below hb B.out.lt)
        replace C := Lib.hid (C.out.below hb C.out.lt)
        replace DW := Lib.hid (below_link DW.out hb DW.out.size)
        clear hb
        go_upto_region 13 with fail
        obtain ⟨w11, hW⟩ : ∃ w11, w11 = y10.alloc (Obj.cells #[Value.int IntKind.i64 ((prF x z) 0), Value.int IntKind.i64 ((prF x z) 1), Value.int IntKind.i64 ((prF x z) 2), Value.int IntKind.i64 ((prF x z) 3), Value.int IntKind.i64 ((prF x z) 4), Value.int IntKind.i64 ((prF x z) 5), Value.int IntKind.i64 ((prF x z) 6), Value.int IntKind.i64 ((prF x z) 7)] 27) := ⟨_, rfl⟩
        rw [← hW]
        have P : Hid (Row w11 y10.heap.size (prF x z)) := by rw [hW]; exact Row.new y10 (prF x z)
        have hb : Below y10.heap.size y10 w11 := by rw [hW]; exact (Below.refl _ _).alloc (Nat.le_refl _) _
        replace A := Lib.hid (A.out.below hb A.out.lt)
        replace B := Lib.hid (B.out.below hb B.out.lt)
        replace C := Lib.hid (C.out.below hb C.out.lt)
        replace DW := Lib.hid (below_link DW.out hb DW.out.size)
        clear hW hb
        go_wp2_with (first | (refine ld _ _ B.out rfl rfl rfl ?_) | (refine ld _ _ C.out rfl rfl rfl ?_) | fail)
        refine (mul_is y z _ V1.out V2.out).mono ?_
        rintro e y12 ⟨rfl, hb⟩
        replace A := Lib.hid (A.out.below hb A.out.lt)
        replace B := Lib.hid (B.out.below hb B.out.lt)
        replace C := Lib.hid (C.out.below hb C.out.lt)
        replace P := Lib.hid (P.out.below hb P.out.lt)
        replace DW := Lib.hid (below_link DW.out hb DW.out.size)
        clear hb
        go_upto_region 14 with fail
        obtain ⟨w13, hW⟩ : ∃ w13, w13 = y12.alloc (Obj.cells #[Value.int IntKind.i64 ((prF y z) 0), Value.int IntKind.i64 ((prF y z) 1), Value.int IntKind.i64 ((prF y z) 2), Value.int IntKind.i64 ((prF y z) 3), Value.int IntKind.i64 ((prF y z) 4), Value.int IntKind.i64 ((prF y z) 5), Value.int IntKind.i64 ((prF y z) 6), Value.int IntKind.i64 ((prF y z) 7)] 27) := ⟨_, rfl⟩
        rw [← hW]
        have Q : Hid (Row w13 y12.heap.size (prF y z)) := by rw [hW]; exact Row.new y12 (prF y z)
        have hb : Below y12.heap.size y12 w13 := by rw [hW]; exact (Below.refl _ _).alloc (Nat.le_refl _) _
        replace A := Lib.hid (A.out.below hb A.out.lt)
        replace B := Lib.hid (B.out.below hb B.out.lt)
        replace C := Lib.hid (C.out.below hb C.out.lt)
        replace P := Lib.hid (P.out.below hb P.out.lt)
        replace DW := Lib.hid (below_link DW.out hb DW.out.size)
        clear hW hb
        have e1 : (prE x z != 0) = false := by rw [prE_ok (vaB_iff.1 HA.out)]; rfl
        have e2 : (prE y z != 0) = true := by rw [prE_no HB.out]; rfl
        go_wp2_with fail
        go_ret
        exact ⟨rfl, DW.out⟩
      | true =>
        have HB := Lib.hid hvb
        clear hvb
        have e0 : decide (o < 0) = false := NG.out
        go_wp2_with (first | (refine ld _ _ A.out rfl rfl rfl ?_) | (refine ld _ _ C.out rfl rfl rfl ?_) | fail)
        refine (mul_is x z _ V0.out V2.out).mono ?_
        rintro e y10 ⟨rfl, hb⟩
        replace A := Lib.hid (A.out.below hb A.out.lt)
        replace B := Lib.hid (B.out.below hb B.out.lt)
        replace C := Lib.hid (C.out.below hb C.out.lt)
        replace DW := Lib.hid (below_link DW.out hb DW.out.size)
        clear hb
        go_upto_region 13 with fail
        obtain ⟨w11, hW⟩ : ∃ w11, w11 = y10.alloc (Obj.cells #[Value.int IntKind.i64 ((prF x z) 0), Value.int IntKind.i64 ((prF x z) 1), Value.int IntKind.i64 ((prF x z) 2), Value.int IntKind.i64 ((prF x z) 3), Value.int IntKind.i64 ((prF x z) 4), Value.int IntKind.i64 ((prF x z) 5), Value.int IntKind.i64 ((prF x z) 6), Value.int IntKind.i64 ((prF x z) 7)] 27) := ⟨_, rfl⟩
        rw [← hW]
        have P : Hid (Row w11 y10.heap.size (prF x z)) := by rw [hW]; exact Row.new y10 (prF x z)
        have hb : Below y10.heap.size y10 w11 := by rw [hW]; exact (Below.refl _ _).alloc (Nat.le_refl _) _
        replace A := Lib.hid (A.out.below hb A.out.lt)
        replace B := Lib.hid (B.out.below hb B.out.lt)
        replace C := Lib.hid (C.out.below hb C.out.lt)
        replace DW := Lib.hid (below_link DW.out hb DW.out.size)
        clear hW hb
        go_wp2_with (first | (refine ld _ _ B.out rfl rfl rfl ?_) | (refine ld _ _ C.out rfl rfl rfl ?_) | fail)
        refine (mul_is y z _ V1.out V2.out).mono ?_
        rintro e y12 ⟨rfl, hb⟩
        replace A := Lib.hid (A.out.below hb A.out.lt)
        replace B := Lib.hid (B.out.below hb B.out.lt)
        replace C := Lib.hid (C.out.below hb C.out.lt)
        replace P := Lib.hid (P.out.below hb P.out.lt)
        replace DW := Lib.hid (below_link DW.out hb DW.out.size)
        clear hb
        go_upto_region 14 with fail
        obtain ⟨w13, hW⟩ : ∃ w13, w13 = y12.alloc (Obj.cells #[Value.int IntKind.i64 ((prF y z) 0), Value.int IntKind.i64 ((prF y z) 1), Value.int IntKind.i64 ((prF y z) 2), Value.int IntKind.i64 ((prF y z) 3), Value.int IntKind.i64 ((prF y z) 4), Value.int IntKind.i64 ((prF y z) 5), Value.int IntKind.i64 ((prF y z) 6), Value.int IntKind.i64 ((prF y z) 7)] 27) := ⟨_, rfl⟩
        rw [← hW]
        have Q : Hid (Row w13 y12.heap.size (prF y z)) := by rw [hW]; exact Row.new y12 (prF y z)
        have hb : Below y12.heap.size y12 w13 := by rw [hW]; exact (Below.refl _ _).alloc (Nat.le_refl _) _
        replace A := Lib.hid (A.out.below hb A.out.lt)
        replace B := Lib.hid (B.out.below hb B.out.lt)
        replace C := Lib.hid (C.out.below hb C.out.lt)
        replace P := Lib.hid (P.out.below hb P.out.lt)
        replace DW := Lib.hid (below_link DW.out hb DW.out.size)
        clear hW hb
        have e1 : (prE x z != 0) = false := by rw [prE_ok (vaB_iff.1 HA.out)]; rfl
        have e2 : (prE y z != 0) = false := by rw [prE_ok (vaB_iff.1 HB.out)]; rfl
        obtain ⟨cP0, cP1, cP2, cP3, cP4, cP5, cP6, cP7⟩ := P.out.all
        obtain ⟨cQ0, cQ1, cQ2, cQ3, cQ4, cQ5, cQ6, cQ7⟩ := Q.out.all
        go_wp2_with fail
        clear cP0 cP1 cP2 cP3 cP4 cP5 cP6 cP7
        clear cQ0 cQ1 cQ2 cQ3 cQ4 cQ5 cQ6 cQ7
        refine (cmp_is (prF x z) (prF y z) o _ (cm_sum HC.out (vaB_iff.1 HA.out) (vaB_iff.1 HB.out))).mono ?_
        rintro e y14 ⟨rfl, hb⟩
        replace A := Lib.hid (A.out.below hb A.out.lt)
        replace B := Lib.hid (B.out.below hb B.out.lt)
        replace C := Lib.hid (C.out.below hb C.out.lt)
        replace P := Lib.hid (P.out.below hb P.out.lt)
        replace Q := Lib.hid (Q.out.below hb Q.out.lt)
        replace DW := Lib.hid (below_link DW.out hb DW.out.size)
        clear hb
        clear e1 e2
        have e3 : (o == o) = true := by simp
        go_wp2_with fail
        go_ret
        exact ⟨rfl, DW.out⟩
end Go.Proofs.Ytchkaaeipafdnaa
