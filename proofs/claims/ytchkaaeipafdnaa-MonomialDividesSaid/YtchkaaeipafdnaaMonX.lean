/-
  The law MonomialDivides.
-/
import Derived.Test.YtchkaaeipafdnaaMonY
namespace Go.Proofs.Ytchkaaeipafdnaa
open Go.RowKit
attribute [local go_sem ↓] Go.wp_at_zero Go.wp_at_succ
theorem nul_dv {z : Mn} (h : Va z) : dv nul z := fun k hk => (h k hk).1
theorem dv_eqa (x l : Mn) (h : dv x l) : (decide (dv l x) != eqa x l) = false := by
  by_cases h1 : dv l x
  · rw [decide_eq_true h1, eqa_true.2 (dv.antisymm h h1)]; rfl
  · cases e : eqa x l with
    | false => rw [decide_eq_false h1]; rfl
    | true => exact absurd (fun k hk => by rw [eqa_true.1 e k hk]; exact Int.le_refl _) h1
theorem va_quo {z x : Mn} (hz : Va z) (hx : Va x) : Va (quF z x) := by
  by_cases h : dv x z
  · rw [quF_ok h]; intro k hk; have := hz k hk; have := hx k hk; have := h k hk; unfold difF; omega
  · rw [quF_no h]; exact va_nul
theorem quo_sum {z x : Mn} (h : dv x z) : sumF (quF z x) x = z := by rw [quF_ok h]; funext k; unfold sumF difF; omega
theorem quo_mul {z x : Mn} (h : dv x z) (hz : Va z) : eqa (prF (quF z x) x) z = true := by
  rw [prF_ok (by rw [quo_sum h]; exact hz), quo_sum h]; exact eqa_true.2 fun _ _ => rfl
theorem quo_mulE {z x : Mn} (h : dv x z) (hz : Va z) : prE (quF z x) x = 0 := prE_ok (by rw [quo_sum h]; exact hz)
set_option maxHeartbeats 4000000 in
set_option maxRecDepth 100000 in
theorem lawDivides_any (x y z : Mn) (w : World) (hx : Va x) (hy : Va y) (hz : Va z) : Calls Try.prog 6 #[.agg #[Value.int IntKind.u16 (x 0), Value.int IntKind.u16 (x 1), Value.int IntKind.u16 (x 2), Value.int IntKind.u16 (x 3), Value.int IntKind.u16 (x 4), Value.int IntKind.u16 (x 5), Value.int IntKind.u16 (x 6), Value.int IntKind.u16 (x 7)], .agg #[Value.int IntKind.u16 (y 0), Value.int IntKind.u16 (y 1), Value.int IntKind.u16 (y 2), Value.int IntKind.u16 (y 3), Value.int IntKind.u16 (y 4), Value.int IntKind.u16 (y 5), Value.int IntKind.u16 (y 6), Value.int IntKind.u16 (y 7)], .agg #[Value.int IntKind.u16 (z 0), Value.int IntKind.u16 (z 1), Value.int IntKind.u16 (z 2), Value.int IntKind.u16 (z 3), Value.int IntKind.u16 (z 4), Value.int IntKind.u16 (z 5), Value.int IntKind.u16 (z 6), Value.int IntKind.u16 (z 7)]] w fun e w' => e = .returned (.bool true) ∧ Below w.heap.size w w' := by
  have V0 := Lib.hid hx; have V1 := Lib.hid hy; have V2 := Lib.hid hz
  clear hx hy hz
  go_enter Try.func6, Try.ntmps6
  go_wp2_with fail
  obtain ⟨W, hW⟩ : ∃ W, W = (((w.alloc (Obj.cells #[Value.int IntKind.u16 (x 0), Value.int IntKind.u16 (x 1), Value.int IntKind.u16 (x 2), Value.int IntKind.u16 (x 3), Value.int IntKind.u16 (x 4), Value.int IntKind.u16 (x 5), Value.int IntKind.u16 (x 6), Value.int IntKind.u16 (x 7)] 24)).alloc (Obj.cells #[Value.int IntKind.u16 (y 0), Value.int IntKind.u16 (y 1), Value.int IntKind.u16 (y 2), Value.int IntKind.u16 (y 3), Value.int IntKind.u16 (y 4), Value.int IntKind.u16 (y 5), Value.int IntKind.u16 (y 6), Value.int IntKind.u16 (y 7)] 24)).alloc (Obj.cells #[Value.int IntKind.u16 (z 0), Value.int IntKind.u16 (z 1), Value.int IntKind.u16 (z 2), Value.int IntKind.u16 (z 3), Value.int IntKind.u16 (z 4), Value.int IntKind.u16 (z 5), Value.int IntKind.u16 (z 6), Value.int IntKind.u16 (z 7)] 24)) := ⟨_, rfl⟩
  rw [← hW]
  have U0 : Hid (RowU W (w.heap.size) x) := by (rw [hW]; have h1 := RowU.new w x; (try simp only [World.size_alloc] at h1); exact ((h1).alloc _).alloc _)
  have U1 : Hid (RowU W (w.heap.size + 1) y) := by (rw [hW]; have h1 := RowU.new (w.alloc (Obj.cells #[Value.int IntKind.u16 (x 0), Value.int IntKind.u16 (x 1), Value.int IntKind.u16 (x 2), Value.int IntKind.u16 (x 3), Value.int IntKind.u16 (x 4), Value.int IntKind.u16 (x 5), Value.int IntKind.u16 (x 6), Value.int IntKind.u16 (x 7)] 24)) y; (try simp only [World.size_alloc] at h1); exact (h1).alloc _)
  have U2 : Hid (RowU W (w.heap.size + 1 + 1) z) := by (rw [hW]; have h1 := RowU.new ((w.alloc (Obj.cells #[Value.int IntKind.u16 (x 0), Value.int IntKind.u16 (x 1), Value.int IntKind.u16 (x 2), Value.int IntKind.u16 (x 3), Value.int IntKind.u16 (x 4), Value.int IntKind.u16 (x 5), Value.int IntKind.u16 (x 6), Value.int IntKind.u16 (x 7)] 24)).alloc (Obj.cells #[Value.int IntKind.u16 (y 0), Value.int IntKind.u16 (y 1), Value.int IntKind.u16 (y 2), Value.int IntKind.u16 (y 3), Value.int IntKind.u16 (y 4), Value.int IntKind.u16 (y 5), Value.int IntKind.u16 (y 6), Value.int IntKind.u16 (y 7)] 24)) z; (try simp only [World.size_alloc] at h1); exact h1)
  have DW : Hid (Below w.heap.size w W) := by rw [hW]; exact (((Below.refl _ _).alloc (by simp <;> omega) _).alloc (by simp <;> omega) _).alloc (by simp <;> omega) _
  clear hW
  refine (sanity_any _).mono ?_
  rintro e y1 ⟨rfl, hb⟩
  replace U0 := Lib.hid (U0.out.below hb U0.out.lt)
  replace U1 := Lib.hid (U1.out.below hb U1.out.lt)
  replace U2 := Lib.hid (U2.out.below hb U2.out.lt)
  replace DW := Lib.hid (below_link DW.out hb DW.out.size)
  clear hb
  go_wp2_with (first | (refine ldr _ _ U0.out rfl rfl rfl ?_) | fail)
  refine (made_any x _ V0.out).mono ?_
  rintro e y2 ⟨rfl, hb⟩
  replace U0 := Lib.hid (U0.out.below hb U0.out.lt)
  replace U1 := Lib.hid (U1.out.below hb U1.out.lt)
  replace U2 := Lib.hid (U2.out.below hb U2.out.lt)
  replace DW := Lib.hid (below_link DW.out hb DW.out.size)
  clear hb
  clear U0
  go_upto_region 5 with fail
  obtain ⟨w3, hW⟩ : ∃ w3, w3 = y2.alloc (Obj.cells #[Value.int IntKind.i64 ((x) 0), Value.int IntKind.i64 ((x) 1), Value.int IntKind.i64 ((x) 2), Value.int IntKind.i64 ((x) 3), Value.int IntKind.i64 ((x) 4), Value.int IntKind.i64 ((x) 5), Value.int IntKind.i64 ((x) 6), Value.int IntKind.i64 ((x) 7)] 27) := ⟨_, rfl⟩
  rw [← hW]
  have A : Hid (Row w3 y2.heap.size (x)) := by rw [hW]; exact Row.new y2 (x)
  have hb : Below y2.heap.size y2 w3 := by rw [hW]; exact (Below.refl _ _).alloc (Nat.le_refl _) _
  replace U1 := Lib.hid (U1.out.below hb U1.out.lt)
  replace U2 := Lib.hid (U2.out.below hb U2.out.lt)
  replace DW := Lib.hid (below_link DW.out hb DW.out.size)
  clear hW hb
  refine region_last (fun w' => Below w3.heap.size w3 w') [.is (.agg (cls x)), .is (.agg (ucl y)), .is (.agg (cls y)), .is (.agg (cls (lcmF (x) (y)))), .sat (fun v w => ∃ g, v = .pointer (some ⟨g, 0, none⟩) ∧ w3.heap.size ≤ g ∧ Row w g nul) (fun _ _ _ h hb => by obtain ⟨g, h1, h2, h3⟩ := h; exact ⟨g, h1, h2, h3.below hb h3.lt⟩)] [20, 21, 22, 23, 9] 5 _ (by kernel_rfl) rfl rfl rfl (by kernel_rfl) (by kernel_rfl) (by kernel_rfl) (by rfl) rfl (by kernel_rfl) ((Below.refl _ _).drew) (fun Q' => ?_) (fun K hK wn hs => ?_)
  · refine ⟨?_, ?_, ?_, ?_, ?_, trivial⟩
    · intro a' w' ha hs hw
      have eo8 : a'.tmps[8]? = some (.pointer (some ⟨y2.heap.size, 0, none⟩)) := (ha.rest 8 (by kernel_rfl)).trans rfl
      exact .inl ⟨wanted_none rfl, wp_val (run_load rfl (ev_tmp eo8) (A.out.below hs A.out.lt)) ⟨_, rfl, rfl, Below.refl _ _, hs⟩⟩
    · intro a' w' ha hs hw
      have eo4 : a'.tmps[4]? = some (.pointer (some ⟨w.heap.size + 1, 0, none⟩)) := (ha.rest 4 (by kernel_rfl)).trans rfl
      exact .inl ⟨wanted_none rfl, wp_val (run_load_raw rfl (ev_tmp eo4) (U1.out.below hs U1.out.lt)) ⟨_, rfl, rfl, Below.refl _ _, hs⟩⟩
    · intro a' w' ha hs hw
      obtain ⟨v1, e1, q1⟩ := hw 1 (by kernel_rfl) _ _ _ rfl rfl rfl
      obtain rfl : v1 = .agg (ucl y) := q1
      exact .inl ⟨wanted_none rfl, call_step rfl Try.func12 (by kernel_rfl) rfl (map_one (ev_tmp e1)) (made_any y _ (V1.out)) (fun e w2 he => by obtain ⟨rfl, hb⟩ := he; exact ⟨_, rfl, _, rfl, rfl, hb, hs.trans (hb.mono hs.size)⟩)⟩
    · intro a' w' ha hs hw
      obtain ⟨v0, e0, q0⟩ := hw 0 (by kernel_rfl) _ _ _ rfl rfl rfl
      obtain rfl : v0 = .agg (cls x) := q0
      obtain ⟨v2, e2, q2⟩ := hw 2 (by kernel_rfl) _ _ _ rfl rfl rfl
      obtain rfl : v2 = .agg (cls y) := q2
      exact .inl ⟨wanted_none rfl, call_step rfl Try.func22 (by kernel_rfl) rfl (map_two (ev_tmp e0) (ev_tmp e2)) (rlcm_any (x) (y) _) (fun e w2 he => by obtain ⟨rfl, hb⟩ := he; exact ⟨_, rfl, _, rfl, rfl, hb, hs.trans (hb.mono hs.size)⟩)⟩
    · intro a' w' ha hs hw
      exact .inl ⟨wanted_none rfl, wp_val2 (run_alloc_mono rfl) ⟨_, rfl, ⟨_, rfl, hs.size, Row.new w' nul⟩, (Below.refl _ _).alloc (Nat.le_refl _) _, hs.alloc hs.size _⟩⟩
  simp only [allK]
  intro s4 hs4
  simp only [setAll, List.set_cons_succ, List.set_cons_zero]
  obtain ⟨g9, rfl, hge, hrow⟩ := hs4
  refine wp_store_row 27 _ _ rfl g9 (cls (lcmF x y)) rfl rfl 27 (cls nul) hrow infoMono rfl (cls_one _) ?_
  refine hK _ _ ?_
  clear hK K
  have hb := below_setRow hs hge (cls (lcmF x y))
  have B := Lib.hid (hrow.setRow (lcmF x y))
  clear hs hge hrow
  generalize wn.setRow g9 (cls (lcmF x y)) = z4 at *
  replace U1 := Lib.hid (U1.out.below hb U1.out.lt)
  replace U2 := Lib.hid (U2.out.below hb U2.out.lt)
  replace A := Lib.hid (A.out.below hb A.out.lt)
  replace DW := Lib.hid (below_link DW.out hb DW.out.size)
  clear hb
  clear U1
  go_wp2_with (first | (refine ldr _ _ U2.out rfl rfl rfl ?_) | fail)
  refine (made_any z _ V2.out).mono ?_
  rintro e y5 ⟨rfl, hb⟩
  replace U2 := Lib.hid (U2.out.below hb U2.out.lt)
  replace A := Lib.hid (A.out.below hb A.out.lt)
  replace B := Lib.hid (B.out.below hb B.out.lt)
  replace DW := Lib.hid (below_link DW.out hb DW.out.size)
  clear hb
  clear U2
  go_upto_region 7 with fail
  obtain ⟨w6, hW⟩ : ∃ w6, w6 = y5.alloc (Obj.cells #[Value.int IntKind.i64 ((z) 0), Value.int IntKind.i64 ((z) 1), Value.int IntKind.i64 ((z) 2), Value.int IntKind.i64 ((z) 3), Value.int IntKind.i64 ((z) 4), Value.int IntKind.i64 ((z) 5), Value.int IntKind.i64 ((z) 6), Value.int IntKind.i64 ((z) 7)] 27) := ⟨_, rfl⟩
  rw [← hW]
  have C : Hid (Row w6 y5.heap.size (z)) := by rw [hW]; exact Row.new y5 (z)
  have hb : Below y5.heap.size y5 w6 := by rw [hW]; exact (Below.refl _ _).alloc (Nat.le_refl _) _
  replace A := Lib.hid (A.out.below hb A.out.lt)
  replace B := Lib.hid (B.out.below hb B.out.lt)
  replace DW := Lib.hid (below_link DW.out hb DW.out.size)
  clear hW hb
  have E1 := Lib.hid (dvt (dv_lcm x y).1); have E2 := Lib.hid (dvt (dv.refl x)); have E3 := Lib.hid (dvt (nul_dv V2.out)); have E4 := Lib.hid (dv_eqa x (lcmF x y) (dv_lcm x y).1)
  refine region_run (fun w' => Below w6.heap.size w6 w') [.is (.agg (cls x)), .is (.agg (cls (lcmF x y))), .is (Value.bool true), .is (Value.bool false), .is (Value.bool false), .is (.agg (cls x)), .is (.agg (cls x)), .is (Value.bool true), .is (Value.bool false), .is (Value.bool false), .is (Value.bool false), .is (.agg (cls nul)), .is (.agg (cls z)), .is (Value.bool true), .is (Value.bool false), .is (Value.bool false), .is (Value.bool false), .is (.agg (cls (lcmF x y))), .is (.agg (cls x)), .is (Value.bool (decide (dv (lcmF x y) x))), .is (.agg (cls x)), .is (.agg (cls (lcmF x y))), .is (Value.bool (eqa x (lcmF x y))), .is (Value.bool false), .is (Value.bool false)] [26, 27, 28, 29, 30, 31, 32, 33, 34, 35, 36, 37, 38, 39, 40, 41, 42, 43, 44, 45, 46, 47, 48, 49, 50] (by kernel_rfl) (by kernel_rfl) (by kernel_rfl) (by rfl) (by kernel_rfl) ((Below.refl _ _).drew) (fun Q' => ?_) (fun K hK wn hs => ?_)
  · refine ⟨?_, ?_, ?_, ?_, ?_, ?_, ?_, ?_, ?_, ?_, ?_, ?_, ?_, ?_, ?_, ?_, ?_, ?_, ?_, ?_, ?_, ?_, ?_, ?_, ?_, trivial⟩
    · intro a' w' ha hs hw
      have eo8 : a'.tmps[8]? = some (.pointer (some ⟨y2.heap.size, 0, none⟩)) := (ha.rest 8 (by kernel_rfl)).trans rfl
      exact .inl ⟨wanted_none rfl, wp_val (run_load rfl (ev_tmp eo8) (A.out.below hs A.out.lt)) ⟨_, rfl, rfl, Below.refl _ _, hs⟩⟩
    · intro a' w' ha hs hw
      have eo9 : a'.tmps[9]? = some (.pointer (some ⟨g9, 0, none⟩)) := (ha.rest 9 (by kernel_rfl)).trans rfl
      exact .inl ⟨wanted_none rfl, wp_val (run_load rfl (ev_tmp eo9) (B.out.below hs B.out.lt)) ⟨_, rfl, rfl, Below.refl _ _, hs⟩⟩
    · intro a' w' ha hs hw
      obtain ⟨v0, e0, q0⟩ := hw 0 (by kernel_rfl) _ _ _ rfl rfl rfl
      obtain rfl : v0 = .agg (cls x) := q0
      obtain ⟨v1, e1, q1⟩ := hw 1 (by kernel_rfl) _ _ _ rfl rfl rfl
      obtain rfl : v1 = .agg (cls (lcmF x y)) := q1
      exact .inl ⟨wanted_none rfl, call_step rfl Try.func17 (by kernel_rfl) rfl (map_two (ev_tmp e0) (ev_tmp e1)) (divides_is (x) (lcmF x y) (true) _ (E1.out)) (fun e w2 he => by obtain ⟨rfl, hb⟩ := he; exact ⟨_, rfl, _, rfl, rfl, hb, hs.trans (hb.mono hs.size)⟩)⟩
    · intro a' w' ha hs hw
      obtain ⟨v2, e2, q2⟩ := hw 2 (by kernel_rfl) _ _ _ rfl rfl rfl
      obtain rfl : v2 = Value.bool true := q2
      exact .inl ⟨wanted_none rfl, wp_val (run_not rfl (ev_tmp e2)) ⟨_, rfl, rfl, Below.refl _ _, hs⟩⟩
    · intro a' w' ha hs hw
      obtain ⟨v3, e3, q3⟩ := hw 3 (by kernel_rfl) _ _ _ rfl rfl rfl
      obtain rfl : v3 = Value.bool false := q3
      exact .inl ⟨wanted_none rfl, wp_val (run_move rfl (ev_tmp e3)) ⟨_, rfl, rfl, Below.refl _ _, hs⟩⟩
    · intro a' w' ha hs hw
      obtain ⟨v4, e4, q4⟩ := hw 4 (by kernel_rfl) _ _ _ rfl rfl rfl
      obtain rfl : v4 = Value.bool false := q4
      have eo8 : a'.tmps[8]? = some (.pointer (some ⟨y2.heap.size, 0, none⟩)) := (ha.rest 8 (by kernel_rfl)).trans rfl
      exact .inl ⟨wanted_some rfl rfl rfl e4, wp_val (run_load rfl (ev_tmp eo8) (A.out.below hs A.out.lt)) ⟨_, rfl, rfl, Below.refl _ _, hs⟩⟩
    · intro a' w' ha hs hw
      obtain ⟨v4, e4, q4⟩ := hw 4 (by kernel_rfl) _ _ _ rfl rfl rfl
      obtain rfl : v4 = Value.bool false := q4
      have eo8 : a'.tmps[8]? = some (.pointer (some ⟨y2.heap.size, 0, none⟩)) := (ha.rest 8 (by kernel_rfl)).trans rfl
      exact .inl ⟨wanted_some rfl rfl rfl e4, wp_val (run_load rfl (ev_tmp eo8) (A.out.below hs A.out.lt)) ⟨_, rfl, rfl, Below.refl _ _, hs⟩⟩
    · intro a' w' ha hs hw
      obtain ⟨v4, e4, q4⟩ := hw 4 (by kernel_rfl) _ _ _ rfl rfl rfl
      obtain rfl : v4 = Value.bool false := q4
      obtain ⟨v5, e5, q5⟩ := hw 5 (by kernel_rfl) _ _ _ rfl rfl rfl
      obtain rfl : v5 = .agg (cls x) := q5
      obtain ⟨v6, e6, q6⟩ := hw 6 (by kernel_rfl) _ _ _ rfl rfl rfl
      obtain rfl : v6 = .agg (cls x) := q6
      exact .inl ⟨wanted_some rfl rfl rfl e4, call_step rfl Try.func17 (by kernel_rfl) rfl (map_two (ev_tmp e5) (ev_tmp e6)) (divides_is (x) (x) (true) _ (E2.out)) (fun e w2 he => by obtain ⟨rfl, hb⟩ := he; exact ⟨_, rfl, _, rfl, rfl, hb, hs.trans (hb.mono hs.size)⟩)⟩
    · intro a' w' ha hs hw
      obtain ⟨v4, e4, q4⟩ := hw 4 (by kernel_rfl) _ _ _ rfl rfl rfl
      obtain rfl : v4 = Value.bool false := q4
      obtain ⟨v7, e7, q7⟩ := hw 7 (by kernel_rfl) _ _ _ rfl rfl rfl
      obtain rfl : v7 = Value.bool true := q7
      exact .inl ⟨wanted_some rfl rfl rfl e4, wp_val (run_not rfl (ev_tmp e7)) ⟨_, rfl, rfl, Below.refl _ _, hs⟩⟩
    · intro a' w' ha hs hw
      obtain ⟨v4, e4, q4⟩ := hw 4 (by kernel_rfl) _ _ _ rfl rfl rfl
      obtain rfl : v4 = Value.bool false := q4
      obtain ⟨v8, e8, q8⟩ := hw 8 (by kernel_rfl) _ _ _ rfl rfl rfl
      obtain rfl : v8 = Value.bool false := q8
      exact .inl ⟨wanted_none rfl, wp_val (run_pick (b := false) rfl (ev_tmp e4) (ev_tmp e8)) ⟨_, rfl, rfl, Below.refl _ _, hs⟩⟩
    · intro a' w' ha hs hw
      obtain ⟨v9, e9, q9⟩ := hw 9 (by kernel_rfl) _ _ _ rfl rfl rfl
      obtain rfl : v9 = Value.bool false := q9
      exact .inl ⟨wanted_none rfl, wp_val (run_move rfl (ev_tmp e9)) ⟨_, rfl, rfl, Below.refl _ _, hs⟩⟩
    · intro a' w' ha hs hw
      obtain ⟨v10, e10, q10⟩ := hw 10 (by kernel_rfl) _ _ _ rfl rfl rfl
      obtain rfl : v10 = Value.bool false := q10
      exact .inl ⟨wanted_some rfl rfl rfl e10, wp_val (run_build_nul rfl) ⟨_, rfl, rfl, Below.refl _ _, hs⟩⟩
    · intro a' w' ha hs hw
      obtain ⟨v10, e10, q10⟩ := hw 10 (by kernel_rfl) _ _ _ rfl rfl rfl
      obtain rfl : v10 = Value.bool false := q10
      have eo10 : a'.tmps[10]? = some (.pointer (some ⟨y5.heap.size, 0, none⟩)) := (ha.rest 10 (by kernel_rfl)).trans rfl
      exact .inl ⟨wanted_some rfl rfl rfl e10, wp_val (run_load rfl (ev_tmp eo10) (C.out.below hs C.out.lt)) ⟨_, rfl, rfl, Below.refl _ _, hs⟩⟩
    · intro a' w' ha hs hw
      obtain ⟨v10, e10, q10⟩ := hw 10 (by kernel_rfl) _ _ _ rfl rfl rfl
      obtain rfl : v10 = Value.bool false := q10
      obtain ⟨v11, e11, q11⟩ := hw 11 (by kernel_rfl) _ _ _ rfl rfl rfl
      obtain rfl : v11 = .agg (cls nul) := q11
      obtain ⟨v12, e12, q12⟩ := hw 12 (by kernel_rfl) _ _ _ rfl rfl rfl
      obtain rfl : v12 = .agg (cls z) := q12
      exact .inl ⟨wanted_some rfl rfl rfl e10, call_step rfl Try.func17 (by kernel_rfl) rfl (map_two (ev_tmp e11) (ev_tmp e12)) (divides_is (nul) (z) (true) _ (E3.out)) (fun e w2 he => by obtain ⟨rfl, hb⟩ := he; exact ⟨_, rfl, _, rfl, rfl, hb, hs.trans (hb.mono hs.size)⟩)⟩
    · intro a' w' ha hs hw
      obtain ⟨v10, e10, q10⟩ := hw 10 (by kernel_rfl) _ _ _ rfl rfl rfl
      obtain rfl : v10 = Value.bool false := q10
      obtain ⟨v13, e13, q13⟩ := hw 13 (by kernel_rfl) _ _ _ rfl rfl rfl
      obtain rfl : v13 = Value.bool true := q13
      exact .inl ⟨wanted_some rfl rfl rfl e10, wp_val (run_not rfl (ev_tmp e13)) ⟨_, rfl, rfl, Below.refl _ _, hs⟩⟩
    · intro a' w' ha hs hw
      obtain ⟨v10, e10, q10⟩ := hw 10 (by kernel_rfl) _ _ _ rfl rfl rfl
      obtain rfl : v10 = Value.bool false := q10
      obtain ⟨v14, e14, q14⟩ := hw 14 (by kernel_rfl) _ _ _ rfl rfl rfl
      obtain rfl : v14 = Value.bool false := q14
      exact .inl ⟨wanted_none rfl, wp_val (run_pick (b := false) rfl (ev_tmp e10) (ev_tmp e14)) ⟨_, rfl, rfl, Below.refl _ _, hs⟩⟩
    · intro a' w' ha hs hw
      obtain ⟨v15, e15, q15⟩ := hw 15 (by kernel_rfl) _ _ _ rfl rfl rfl
      obtain rfl : v15 = Value.bool false := q15
      exact .inl ⟨wanted_none rfl, wp_val (run_move rfl (ev_tmp e15)) ⟨_, rfl, rfl, Below.refl _ _, hs⟩⟩
    · intro a' w' ha hs hw
      obtain ⟨v16, e16, q16⟩ := hw 16 (by kernel_rfl) _ _ _ rfl rfl rfl
      obtain rfl : v16 = Value.bool false := q16
      have eo9 : a'.tmps[9]? = some (.pointer (some ⟨g9, 0, none⟩)) := (ha.rest 9 (by kernel_rfl)).trans rfl
      exact .inl ⟨wanted_some rfl rfl rfl e16, wp_val (run_load rfl (ev_tmp eo9) (B.out.below hs B.out.lt)) ⟨_, rfl, rfl, Below.refl _ _, hs⟩⟩
    · intro a' w' ha hs hw
      obtain ⟨v16, e16, q16⟩ := hw 16 (by kernel_rfl) _ _ _ rfl rfl rfl
      obtain rfl : v16 = Value.bool false := q16
      have eo8 : a'.tmps[8]? = some (.pointer (some ⟨y2.heap.size, 0, none⟩)) := (ha.rest 8 (by kernel_rfl)).trans rfl
      exact .inl ⟨wanted_some rfl rfl rfl e16, wp_val (run_load rfl (ev_tmp eo8) (A.out.below hs A.out.lt)) ⟨_, rfl, rfl, Below.refl _ _, hs⟩⟩
    · intro a' w' ha hs hw
      obtain ⟨v16, e16, q16⟩ := hw 16 (by kernel_rfl) _ _ _ rfl rfl rfl
      obtain rfl : v16 = Value.bool false := q16
      obtain ⟨v17, e17, q17⟩ := hw 17 (by kernel_rfl) _ _ _ rfl rfl rfl
      obtain rfl : v17 = .agg (cls (lcmF x y)) := q17
      obtain ⟨v18, e18, q18⟩ := hw 18 (by kernel_rfl) _ _ _ rfl rfl rfl
      obtain rfl : v18 = .agg (cls x) := q18
      exact .inl ⟨wanted_some rfl rfl rfl e16, call_step rfl Try.func17 (by kernel_rfl) rfl (map_two (ev_tmp e17) (ev_tmp e18)) (divides_is (lcmF x y) (x) (decide (dv (lcmF x y) x)) _ (rfl)) (fun e w2 he => by obtain ⟨rfl, hb⟩ := he; exact ⟨_, rfl, _, rfl, rfl, hb, hs.trans (hb.mono hs.size)⟩)⟩
    · intro a' w' ha hs hw
      obtain ⟨v16, e16, q16⟩ := hw 16 (by kernel_rfl) _ _ _ rfl rfl rfl
      obtain rfl : v16 = Value.bool false := q16
      have eo8 : a'.tmps[8]? = some (.pointer (some ⟨y2.heap.size, 0, none⟩)) := (ha.rest 8 (by kernel_rfl)).trans rfl
      exact .inl ⟨wanted_some rfl rfl rfl e16, wp_val (run_load rfl (ev_tmp eo8) (A.out.below hs A.out.lt)) ⟨_, rfl, rfl, Below.refl _ _, hs⟩⟩
    · intro a' w' ha hs hw
      obtain ⟨v16, e16, q16⟩ := hw 16 (by kernel_rfl) _ _ _ rfl rfl rfl
      obtain rfl : v16 = Value.bool false := q16
      have eo9 : a'.tmps[9]? = some (.pointer (some ⟨g9, 0, none⟩)) := (ha.rest 9 (by kernel_rfl)).trans rfl
      exact .inl ⟨wanted_some rfl rfl rfl e16, wp_val (run_load rfl (ev_tmp eo9) (B.out.below hs B.out.lt)) ⟨_, rfl, rfl, Below.refl _ _, hs⟩⟩
    · intro a' w' ha hs hw
      obtain ⟨v16, e16, q16⟩ := hw 16 (by kernel_rfl) _ _ _ rfl rfl rfl
      obtain rfl : v16 = Value.bool false := q16
      obtain ⟨v20, e20, q20⟩ := hw 20 (by kernel_rfl) _ _ _ rfl rfl rfl
      obtain rfl : v20 = .agg (cls x) := q20
      obtain ⟨v21, e21, q21⟩ := hw 21 (by kernel_rfl) _ _ _ rfl rfl rfl
      obtain rfl : v21 = .agg (cls (lcmF x y)) := q21
      exact .inl ⟨wanted_some rfl rfl rfl e16, wp_val (run_eql_arr rfl (ev_tmp e20) (ev_tmp e21)) ⟨_, rfl, congrArg Value.bool (rfl), Below.refl _ _, hs⟩⟩
    · intro a' w' ha hs hw
      obtain ⟨v16, e16, q16⟩ := hw 16 (by kernel_rfl) _ _ _ rfl rfl rfl
      obtain rfl : v16 = Value.bool false := q16
      obtain ⟨v19, e19, q19⟩ := hw 19 (by kernel_rfl) _ _ _ rfl rfl rfl
      obtain rfl : v19 = Value.bool (decide (dv (lcmF x y) x)) := q19
      obtain ⟨v22, e22, q22⟩ := hw 22 (by kernel_rfl) _ _ _ rfl rfl rfl
      obtain rfl : v22 = Value.bool (eqa x (lcmF x y)) := q22
      exact .inl ⟨wanted_some rfl rfl rfl e16, wp_val (run_neq_bool rfl (ev_tmp e19) (ev_tmp e22)) ⟨_, rfl, congrArg Value.bool (E4.out), Below.refl _ _, hs⟩⟩
    · intro a' w' ha hs hw
      obtain ⟨v16, e16, q16⟩ := hw 16 (by kernel_rfl) _ _ _ rfl rfl rfl
      obtain rfl : v16 = Value.bool false := q16
      obtain ⟨v23, e23, q23⟩ := hw 23 (by kernel_rfl) _ _ _ rfl rfl rfl
      obtain rfl : v23 = Value.bool false := q23
      exact .inl ⟨wanted_none rfl, wp_val (run_pick (b := false) rfl (ev_tmp e16) (ev_tmp e23)) ⟨_, rfl, rfl, Below.refl _ _, hs⟩⟩
  simp only [allK]
  simp only [setAll, List.set_cons_succ, List.set_cons_zero]
  refine hK _ _ ?_
  clear hK K
  replace A := Lib.hid (A.out.below hs A.out.lt)
  replace B := Lib.hid (B.out.below hs B.out.lt)
  replace C := Lib.hid (C.out.below hs C.out.lt)
  replace DW := Lib.hid (below_link DW.out hs DW.out.size)
  clear hs
  generalize wn = z7 at *
  clear E1 E2 E3 E4
  by_cases hd : dv x z
  · by_cases hl : dv (lcmF x y) z
    · skip
      have HB2 := Lib.hid (decide_eq_true hd); have HD := Lib.hid hd; have HL := Lib.hid (decide_eq_true hl)
      clear hd hl
      go_wp2_with (first | (refine ld _ _ B.out rfl rfl rfl ?_) | (refine ld _ _ C.out rfl rfl rfl ?_) | fail)
      refine (divides_is (lcmF x y) z true _ HL.out).mono ?_
      rintro e y8 ⟨rfl, hb⟩
      replace A := Lib.hid (A.out.below hb A.out.lt)
      replace B := Lib.hid (B.out.below hb B.out.lt)
      replace C := Lib.hid (C.out.below hb C.out.lt)
      replace DW := Lib.hid (below_link DW.out hb DW.out.size)
      clear hb
      obtain ⟨cA0, cA1, cA2, cA3, cA4, cA5, cA6, cA7⟩ := A.out.all
      obtain ⟨cC0, cC1, cC2, cC3, cC4, cC5, cC6, cC7⟩ := C.out.all
      go_wp2_with fail
      clear cA0 cA1 cA2 cA3 cA4 cA5 cA6 cA7
      clear cC0 cC1 cC2 cC3 cC4 cC5 cC6 cC7
      refine (divides_is x z true _ HB2.out).mono ?_
      rintro e y9 ⟨rfl, hb⟩
      replace A := Lib.hid (A.out.below hb A.out.lt)
      replace B := Lib.hid (B.out.below hb B.out.lt)
      replace C := Lib.hid (C.out.below hb C.out.lt)
      replace DW := Lib.hid (below_link DW.out hb DW.out.size)
      clear hb
      go_wp2_with (first | (refine ld _ _ A.out rfl rfl rfl ?_) | (refine ld _ _ C.out rfl rfl rfl ?_) | fail)
      refine (quo_is z x _ V2.out V0.out).mono ?_
      rintro e y10 ⟨rfl, hb⟩
      replace A := Lib.hid (A.out.below hb A.out.lt)
      replace B := Lib.hid (B.out.below hb B.out.lt)
      replace C := Lib.hid (C.out.below hb C.out.lt)
      replace DW := Lib.hid (below_link DW.out hb DW.out.size)
      clear hb
      rw [HB2.out]
      go_upto_region 12 with fail
      obtain ⟨w11, hW⟩ : ∃ w11, w11 = y10.alloc (Obj.cells #[Value.int IntKind.i64 ((quF z x) 0), Value.int IntKind.i64 ((quF z x) 1), Value.int IntKind.i64 ((quF z x) 2), Value.int IntKind.i64 ((quF z x) 3), Value.int IntKind.i64 ((quF z x) 4), Value.int IntKind.i64 ((quF z x) 5), Value.int IntKind.i64 ((quF z x) 6), Value.int IntKind.i64 ((quF z x) 7)] 27) := ⟨_, rfl⟩
      rw [← hW]
      have Q : Hid (Row w11 y10.heap.size (quF z x)) := by rw [hW]; exact Row.new y10 (quF z x)
      have hb : Below y10.heap.size y10 w11 := by rw [hW]; exact (Below.refl _ _).alloc (Nat.le_refl _) _
      replace A := Lib.hid (A.out.below hb A.out.lt)
      replace B := Lib.hid (B.out.below hb B.out.lt)
      replace C := Lib.hid (C.out.below hb C.out.lt)
      replace DW := Lib.hid (below_link DW.out hb DW.out.size)
      clear hW hb
      go_wp2_with (first | (refine ld _ _ A.out rfl rfl rfl ?_) | (refine ld _ _ C.out rfl rfl rfl ?_) | fail)
      refine (divides_is x z true _ HB2.out).mono ?_
      rintro e y12 ⟨rfl, hb⟩
      replace A := Lib.hid (A.out.below hb A.out.lt)
      replace B := Lib.hid (B.out.below hb B.out.lt)
      replace C := Lib.hid (C.out.below hb C.out.lt)
      replace Q := Lib.hid (Q.out.below hb Q.out.lt)
      replace DW := Lib.hid (below_link DW.out hb DW.out.size)
      clear hb
      go_wp2_with (first | (refine ld _ _ Q.out rfl rfl rfl ?_) | (refine ld _ _ A.out rfl rfl rfl ?_) | fail)
      refine (mul_is (quF z x) x _ (va_quo V2.out V0.out) V0.out).mono ?_
      rintro e y13 ⟨rfl, hb⟩
      replace A := Lib.hid (A.out.below hb A.out.lt)
      replace B := Lib.hid (B.out.below hb B.out.lt)
      replace C := Lib.hid (C.out.below hb C.out.lt)
      replace Q := Lib.hid (Q.out.below hb Q.out.lt)
      replace DW := Lib.hid (below_link DW.out hb DW.out.size)
      clear hb
      go_upto_region 17 with fail
      obtain ⟨w14, hW⟩ : ∃ w14, w14 = y13.alloc (Obj.cells #[Value.int IntKind.i64 ((prF (quF z x) x) 0), Value.int IntKind.i64 ((prF (quF z x) x) 1), Value.int IntKind.i64 ((prF (quF z x) x) 2), Value.int IntKind.i64 ((prF (quF z x) x) 3), Value.int IntKind.i64 ((prF (quF z x) x) 4), Value.int IntKind.i64 ((prF (quF z x) x) 5), Value.int IntKind.i64 ((prF (quF z x) x) 6), Value.int IntKind.i64 ((prF (quF z x) x) 7)] 27) := ⟨_, rfl⟩
      rw [← hW]
      have P : Hid (Row w14 y13.heap.size (prF (quF z x) x)) := by rw [hW]; exact Row.new y13 (prF (quF z x) x)
      have hb : Below y13.heap.size y13 w14 := by rw [hW]; exact (Below.refl _ _).alloc (Nat.le_refl _) _
      replace A := Lib.hid (A.out.below hb A.out.lt)
      replace B := Lib.hid (B.out.below hb B.out.lt)
      replace C := Lib.hid (C.out.below hb C.out.lt)
      replace Q := Lib.hid (Q.out.below hb Q.out.lt)
      replace DW := Lib.hid (below_link DW.out hb DW.out.size)
      clear hW hb
      have e1 := run_equalIn_arr (prF (quF z x) x) z
      have e2 : eqa (prF (quF z x) x) z = true := quo_mul HD.out V2.out
      have e3 : (prE (quF z x) x == 0) = true := by rw [quo_mulE HD.out V2.out]; rfl
      obtain ⟨cP0, cP1, cP2, cP3, cP4, cP5, cP6, cP7⟩ := P.out.all
      obtain ⟨cC0, cC1, cC2, cC3, cC4, cC5, cC6, cC7⟩ := C.out.all
      obtain ⟨cQ0, cQ1, cQ2, cQ3, cQ4, cQ5, cQ6, cQ7⟩ := Q.out.all
      go_wp2_with fail
      clear cP0 cP1 cP2 cP3 cP4 cP5 cP6 cP7
      clear cC0 cC1 cC2 cC3 cC4 cC5 cC6 cC7
      clear cQ0 cQ1 cQ2 cQ3 cQ4 cQ5 cQ6 cQ7
      refine (rvalid_true (quF z x) _ (va_quo V2.out V0.out)).mono ?_
      rintro e y15 ⟨rfl, hb⟩
      replace A := Lib.hid (A.out.below hb A.out.lt)
      replace B := Lib.hid (B.out.below hb B.out.lt)
      replace C := Lib.hid (C.out.below hb C.out.lt)
      replace Q := Lib.hid (Q.out.below hb Q.out.lt)
      replace P := Lib.hid (P.out.below hb P.out.lt)
      replace DW := Lib.hid (below_link DW.out hb DW.out.size)
      clear hb
      go_wp2_with fail
      go_ret
      exact ⟨rfl, DW.out⟩
    · skip
      have HB2 := Lib.hid (decide_eq_true hd); have HD := Lib.hid hd; have HL := Lib.hid (decide_eq_false hl)
      clear hd hl
      go_wp2_with (first | (refine ld _ _ B.out rfl rfl rfl ?_) | (refine ld _ _ C.out rfl rfl rfl ?_) | fail)
      refine (divides_is (lcmF x y) z false _ HL.out).mono ?_
      rintro e y8 ⟨rfl, hb⟩
      replace A := Lib.hid (A.out.below hb A.out.lt)
      replace B := Lib.hid (B.out.below hb B.out.lt)
      replace C := Lib.hid (C.out.below hb C.out.lt)
      replace DW := Lib.hid (below_link DW.out hb DW.out.size)
      clear hb
      go_wp2_with (first | (refine ld _ _ A.out rfl rfl rfl ?_) | (refine ld _ _ C.out rfl rfl rfl ?_) | fail)
      refine (quo_is z x _ V2.out V0.out).mono ?_
      rintro e y9 ⟨rfl, hb⟩
      replace A := Lib.hid (A.out.below hb A.out.lt)
      replace B := Lib.hid (B.out.below hb B.out.lt)
      replace C := Lib.hid (C.out.below hb C.out.lt)
      replace DW := Lib.hid (below_link DW.out hb DW.out.size)
      clear hb
      rw [HB2.out]
      go_upto_region 12 with fail
      obtain ⟨w10, hW⟩ : ∃ w10, w10 = y9.alloc (Obj.cells #[Value.int IntKind.i64 ((quF z x) 0), Value.int IntKind.i64 ((quF z x) 1), Value.int IntKind.i64 ((quF z x) 2), Value.int IntKind.i64 ((quF z x) 3), Value.int IntKind.i64 ((quF z x) 4), Value.int IntKind.i64 ((quF z x) 5), Value.int IntKind.i64 ((quF z x) 6), Value.int IntKind.i64 ((quF z x) 7)] 27) := ⟨_, rfl⟩
      rw [← hW]
      have Q : Hid (Row w10 y9.heap.size (quF z x)) := by rw [hW]; exact Row.new y9 (quF z x)
      have hb : Below y9.heap.size y9 w10 := by rw [hW]; exact (Below.refl _ _).alloc (Nat.le_refl _) _
      replace A := Lib.hid (A.out.below hb A.out.lt)
      replace B := Lib.hid (B.out.below hb B.out.lt)
      replace C := Lib.hid (C.out.below hb C.out.lt)
      replace DW := Lib.hid (below_link DW.out hb DW.out.size)
      clear hW hb
      go_wp2_with (first | (refine ld _ _ A.out rfl rfl rfl ?_) | (refine ld _ _ C.out rfl rfl rfl ?_) | fail)
      refine (divides_is x z true _ HB2.out).mono ?_
      rintro e y11 ⟨rfl, hb⟩
      replace A := Lib.hid (A.out.below hb A.out.lt)
      replace B := Lib.hid (B.out.below hb B.out.lt)
      replace C := Lib.hid (C.out.below hb C.out.lt)
      replace Q := Lib.hid (Q.out.below hb Q.out.lt)
      replace DW := Lib.hid (below_link DW.out hb DW.out.size)
      clear hb
      go_wp2_with (first | (refine ld _ _ Q.out rfl rfl rfl ?_) | (refine ld _ _ A.out rfl rfl rfl ?_) | fail)
      refine (mul_is (quF z x) x _ (va_quo V2.out V0.out) V0.out).mono ?_
      rintro e y12 ⟨rfl, hb⟩
      replace A := Lib.hid (A.out.below hb A.out.lt)
      replace B := Lib.hid (B.out.below hb B.out.lt)
      replace C := Lib.hid (C.out.below hb C.out.lt)
      replace Q := Lib.hid (Q.out.below hb Q.out.lt)
      replace DW := Lib.hid (below_link DW.out hb DW.out.size)
      clear hb
      go_upto_region 17 with fail
      obtain ⟨w13, hW⟩ : ∃ w13, w13 = y12.alloc (Obj.cells #[Value.int IntKind.i64 ((prF (quF z x) x) 0), Value.int IntKind.i64 ((prF (quF z x) x) 1), Value.int IntKind.i64 ((prF (quF z x) x) 2), Value.int IntKind.i64 ((prF (quF z x) x) 3), Value.int IntKind.i64 ((prF (quF z x) x) 4), Value.int IntKind.i64 ((prF (quF z x) x) 5), Value.int IntKind.i64 ((prF (quF z x) x) 6), Value.int IntKind.i64 ((prF (quF z x) x) 7)] 27) := ⟨_, rfl⟩
      rw [← hW]
      have P : Hid (Row w13 y12.heap.size (prF (quF z x) x)) := by rw [hW]; exact Row.new y12 (prF (quF z x) x)
      have hb : Below y12.heap.size y12 w13 := by rw [hW]; exact (Below.refl _ _).alloc (Nat.le_refl _) _
      replace A := Lib.hid (A.out.below hb A.out.lt)
      replace B := Lib.hid (B.out.below hb B.out.lt)
      replace C := Lib.hid (C.out.below hb C.out.lt)
      replace Q := Lib.hid (Q.out.below hb Q.out.lt)
      replace DW := Lib.hid (below_link DW.out hb DW.out.size)
      clear hW hb
      have e1 := run_equalIn_arr (prF (quF z x) x) z
      have e2 : eqa (prF (quF z x) x) z = true := quo_mul HD.out V2.out
      have e3 : (prE (quF z x) x == 0) = true := by rw [quo_mulE HD.out V2.out]; rfl
      obtain ⟨cP0, cP1, cP2, cP3, cP4, cP5, cP6, cP7⟩ := P.out.all
      obtain ⟨cC0, cC1, cC2, cC3, cC4, cC5, cC6, cC7⟩ := C.out.all
      obtain ⟨cQ0, cQ1, cQ2, cQ3, cQ4, cQ5, cQ6, cQ7⟩ := Q.out.all
      go_wp2_with fail
      clear cP0 cP1 cP2 cP3 cP4 cP5 cP6 cP7
      clear cC0 cC1 cC2 cC3 cC4 cC5 cC6 cC7
      clear cQ0 cQ1 cQ2 cQ3 cQ4 cQ5 cQ6 cQ7
      refine (rvalid_true (quF z x) _ (va_quo V2.out V0.out)).mono ?_
      rintro e y14 ⟨rfl, hb⟩
      replace A := Lib.hid (A.out.below hb A.out.lt)
      replace B := Lib.hid (B.out.below hb B.out.lt)
      replace C := Lib.hid (C.out.below hb C.out.lt)
      replace Q := Lib.hid (Q.out.below hb Q.out.lt)
      replace P := Lib.hid (P.out.below hb P.out.lt)
      replace DW := Lib.hid (below_link DW.out hb DW.out.size)
      clear hb
      go_wp2_with fail
      go_ret
      exact ⟨rfl, DW.out⟩
  · have hl : ¬ dv (lcmF x y) z := fun h => hd ((lcm_le x y z).1 h).1
    · skip
      have HB2 := Lib.hid (decide_eq_false hd); have HD := Lib.hid hd; have HL := Lib.hid (decide_eq_false hl)
      clear hd hl
      go_wp2_with (first | (refine ld _ _ B.out rfl rfl rfl ?_) | (refine ld _ _ C.out rfl rfl rfl ?_) | fail)
      refine (divides_is (lcmF x y) z false _ HL.out).mono ?_
      rintro e y8 ⟨rfl, hb⟩
      replace A := Lib.hid (A.out.below hb A.out.lt)
      replace B := Lib.hid (B.out.below hb B.out.lt)
      replace C := Lib.hid (C.out.below hb C.out.lt)
      replace DW := Lib.hid (below_link DW.out hb DW.out.size)
      clear hb
      have Q0 := Lib.hid (quF_no HD.out)
      go_wp2_with (first | (refine ld _ _ A.out rfl rfl rfl ?_) | (refine ld _ _ C.out rfl rfl rfl ?_) | fail)
      refine (quo_is z x _ V2.out V0.out).mono ?_
      rintro e y9 ⟨rfl, hb⟩
      replace A := Lib.hid (A.out.below hb A.out.lt)
      replace B := Lib.hid (B.out.below hb B.out.lt)
      replace C := Lib.hid (C.out.below hb C.out.lt)
      replace DW := Lib.hid (below_link DW.out hb DW.out.size)
      clear hb
      rw [HB2.out]
      go_upto_region 12 with fail
      obtain ⟨w10, hW⟩ : ∃ w10, w10 = y9.alloc (Obj.cells #[Value.int IntKind.i64 ((quF z x) 0), Value.int IntKind.i64 ((quF z x) 1), Value.int IntKind.i64 ((quF z x) 2), Value.int IntKind.i64 ((quF z x) 3), Value.int IntKind.i64 ((quF z x) 4), Value.int IntKind.i64 ((quF z x) 5), Value.int IntKind.i64 ((quF z x) 6), Value.int IntKind.i64 ((quF z x) 7)] 27) := ⟨_, rfl⟩
      rw [← hW]
      have Q : Hid (Row w10 y9.heap.size (quF z x)) := by rw [hW]; exact Row.new y9 (quF z x)
      have hb : Below y9.heap.size y9 w10 := by rw [hW]; exact (Below.refl _ _).alloc (Nat.le_refl _) _
      replace A := Lib.hid (A.out.below hb A.out.lt)
      replace B := Lib.hid (B.out.below hb B.out.lt)
      replace C := Lib.hid (C.out.below hb C.out.lt)
      replace DW := Lib.hid (below_link DW.out hb DW.out.size)
      clear hW hb
      go_wp2_with (first | (refine ld _ _ A.out rfl rfl rfl ?_) | (refine ld _ _ C.out rfl rfl rfl ?_) | fail)
      refine (divides_is x z false _ HB2.out).mono ?_
      rintro e y11 ⟨rfl, hb⟩
      replace A := Lib.hid (A.out.below hb A.out.lt)
      replace B := Lib.hid (B.out.below hb B.out.lt)
      replace C := Lib.hid (C.out.below hb C.out.lt)
      replace Q := Lib.hid (Q.out.below hb Q.out.lt)
      replace DW := Lib.hid (below_link DW.out hb DW.out.size)
      clear hb
      have e1 : ∀ w, (Op.equalIn 10000 27 (.agg #[Value.int IntKind.i64 ((quF z x) 0), Value.int IntKind.i64 ((quF z x) 1), Value.int IntKind.i64 ((quF z x) 2), Value.int IntKind.i64 ((quF z x) 3), Value.int IntKind.i64 ((quF z x) 4), Value.int IntKind.i64 ((quF z x) 5), Value.int IntKind.i64 ((quF z x) 6), Value.int IntKind.i64 ((quF z x) 7)]) (.agg #[Value.int IntKind.i64 0, Value.int IntKind.i64 0, Value.int IntKind.i64 0, Value.int IntKind.i64 0, Value.int IntKind.i64 0, Value.int IntKind.i64 0, Value.int IntKind.i64 0, Value.int IntKind.i64 0])).run Try.prog w = .ok (eqa (quF z x) nul) w := run_equalIn_arr (quF z x) nul
      have e2 : eqa (quF z x) nul = true := by rw [quF_no HD.out]; exact eqa_true.2 fun _ _ => rfl
      obtain ⟨cQ0, cQ1, cQ2, cQ3, cQ4, cQ5, cQ6, cQ7⟩ := Q.out.all
      go_wp2_with fail
      go_ret
      exact ⟨rfl, DW.out⟩
end Go.Proofs.Ytchkaaeipafdnaa
