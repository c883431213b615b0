/-
  The fixed examples: sanity.
-/
import Derived.Test.YtchkaaeipafdnaaMonK
namespace Go.Proofs.Ytchkaaeipafdnaa
open Go.RowKit
attribute [local go_sem ↓] Go.wp_at_zero Go.wp_at_succ
theorem mono_any (a b c : Int) (w : World) : Calls Try.prog 36 #[.int .i64 a, .int .i64 b, .int .i64 c] w fun e w' => e = .returned (arr (tri a b c)) ∧ Below w.heap.size w w' := by
  go_enter Try.func36, Try.ntmps36
  go_wp2
  exact ret_row (p := 6) (by kernel_rfl) rfl (Row.new w (tri a b c)) rfl ⟨rfl, (Below.refl _ _).alloc (Nat.le_refl _) _⟩
theorem va_tri {a b c : Int} (h : 0 ≤ a ∧ a ≤ 65535) (k : 0 ≤ b ∧ b ≤ 65535) (l : 0 ≤ c ∧ c ≤ 65535) : Va (tri a b c) := by
  intro j hj
  unfold tri
  split
  · exact h
  · split
    · exact k
    · split
      · exact l
      · omega
theorem lit_sl (w : World) (l : List Mn) (h : l.length ≤ 1000) : Sl (w.alloc (Obj.cells (cs l).toArray 27)) (.slice (some ⟨w.heap.size, 0, none⟩) l.length l.length) l :=
  Sl.of_own (base := w.heap.size) (World.ownsRow_lit (size := 8) w (cs l).toArray l.length (Nat.le_refl _) (by unfold maxLen; omega) (by simp [cs_length]) |> fun h => by simpa using h)
theorem alike_at {a b : List Mn} (h : Alike a b) : ∀ k, k < a.length → Eqv (mg a k) (mg b k) := fun k hk =>
  h.at_ k _ _ (mg_get hk) (mg_get (by rw [← h.len]; exact hk))
theorem rs_two : Alike (rs 2 0 2 nul) [tri 2 0 0, tri 1 1 0, tri 0 2 0] := by
  have e : rs 2 0 2 nul = [put (put nul 0 2) 1 0, put (put nul 0 1) 1 1, put (put nul 0 0) 1 2] := rfl
  rw [e]
  refine ⟨?_, ?_, ?_, trivial⟩ <;> (intro k hk; rcases lt8 hk with rfl | rfl | rfl | rfl | rfl | rfl | rfl | rfl <;> rfl)
theorem five_in {m : List Mn} (h : MinOf five m) : anyDv (tri 2 1 0) m = true := by
  obtain ⟨d, h1, h2⟩ := h.cover (tri 2 0 0) (by simp [five])
  exact anyDv_true.2 ⟨d, h1, h2.trans (tri_dv.2 (by omega))⟩
theorem five_out {m : List Mn} (h : MinOf five m) : anyDv (tri 1 0 4) m = false := by
  cases ha : anyDv (tri 1 0 4) m with
  | false => rfl
  | true =>
    obtain ⟨d, h1, h2⟩ := anyDv_true.1 ha
    have h3 := h.mem d h1
    simp [five] at h3
    rcases h3 with rfl | rfl | rfl | rfl | rfl <;> (have := tri_dv.1 h2; omega)
set_option maxHeartbeats 4000000 in
set_option maxRecDepth 100000 in
theorem sanity_any (w : World) : Calls Try.prog 11 #[] w fun e w' => e = .returned (.bool true) ∧ Below w.heap.size w w' := by
  go_enter Try.func11, Try.ntmps11
  have DW : Hid (Below w.heap.size w w) := Below.refl _ _
  go_wp2_with fail
  refine (mono_any (3) (2) (0) _).mono ?_
  rintro e y1 ⟨rfl, hb⟩
  replace DW := Lib.hid (below_link DW.out hb DW.out.size)
  clear hb
  go_wp2_with fail
  refine (mono_any (1) (2) (0) _).mono ?_
  rintro e y2 ⟨rfl, hb⟩
  replace DW := Lib.hid (below_link DW.out hb DW.out.size)
  clear hb
  go_wp2_with fail
  refine (quo_ok (tri 3 2 0) (tri 1 2 0) _ (va_tri (by omega) (by omega) (by omega)) (va_tri (by omega) (by omega) (by omega)) (tri_dv.2 (by omega))).mono ?_
  rintro e y3 ⟨rfl, hb⟩
  replace DW := Lib.hid (below_link DW.out hb DW.out.size)
  clear hb
  go_upto_region 2 with fail
  obtain ⟨w4, hW⟩ : ∃ w4, w4 = y3.alloc (Obj.cells #[Value.int IntKind.i64 ((difF (tri 3 2 0) (tri 1 2 0)) 0), Value.int IntKind.i64 ((difF (tri 3 2 0) (tri 1 2 0)) 1), Value.int IntKind.i64 ((difF (tri 3 2 0) (tri 1 2 0)) 2), Value.int IntKind.i64 ((difF (tri 3 2 0) (tri 1 2 0)) 3), Value.int IntKind.i64 ((difF (tri 3 2 0) (tri 1 2 0)) 4), Value.int IntKind.i64 ((difF (tri 3 2 0) (tri 1 2 0)) 5), Value.int IntKind.i64 ((difF (tri 3 2 0) (tri 1 2 0)) 6), Value.int IntKind.i64 ((difF (tri 3 2 0) (tri 1 2 0)) 7)] 27) := ⟨_, rfl⟩
  rw [← hW]
  have R1 : Hid (Row w4 y3.heap.size (difF (tri 3 2 0) (tri 1 2 0))) := by rw [hW]; exact Row.new y3 (difF (tri 3 2 0) (tri 1 2 0))
  have hb : Below y3.heap.size y3 w4 := by rw [hW]; exact (Below.refl _ _).alloc (Nat.le_refl _) _
  replace DW := Lib.hid (below_link DW.out hb DW.out.size)
  clear hW hb
  go_wp2_with fail
  refine (mono_any (3) (2) (0) _).mono ?_
  rintro e y5 ⟨rfl, hb⟩
  replace R1 := Lib.hid (R1.out.below hb R1.out.lt)
  replace DW := Lib.hid (below_link DW.out hb DW.out.size)
  clear hb
  go_wp2_with fail
  refine (mono_any (0) (3) (0) _).mono ?_
  rintro e y6 ⟨rfl, hb⟩
  replace R1 := Lib.hid (R1.out.below hb R1.out.lt)
  replace DW := Lib.hid (below_link DW.out hb DW.out.size)
  clear hb
  go_wp2_with fail
  refine (quo_no (tri 3 2 0) (tri 0 3 0) 1 _ (by omega) (fun k hk => by (obtain rfl : k = 0 := (by omega)); decide) (by decide)).mono ?_
  rintro e y7 ⟨rfl, hb⟩
  replace R1 := Lib.hid (R1.out.below hb R1.out.lt)
  replace DW := Lib.hid (below_link DW.out hb DW.out.size)
  clear hb
  go_upto_region 3 with fail
  obtain ⟨w8, hW⟩ : ∃ w8, w8 = y7.alloc (Obj.cells #[Value.int IntKind.i64 ((nul) 0), Value.int IntKind.i64 ((nul) 1), Value.int IntKind.i64 ((nul) 2), Value.int IntKind.i64 ((nul) 3), Value.int IntKind.i64 ((nul) 4), Value.int IntKind.i64 ((nul) 5), Value.int IntKind.i64 ((nul) 6), Value.int IntKind.i64 ((nul) 7)] 27) := ⟨_, rfl⟩
  rw [← hW]
  have R3 : Hid (Row w8 y7.heap.size (nul)) := by rw [hW]; exact Row.new y7 (nul)
  have hb : Below y7.heap.size y7 w8 := by rw [hW]; exact (Below.refl _ _).alloc (Nat.le_refl _) _
  replace R1 := Lib.hid (R1.out.below hb R1.out.lt)
  replace DW := Lib.hid (below_link DW.out hb DW.out.size)
  clear hW hb
  clear R3
  go_wp2_with fail
  refine (mono_any (65535) (0) (0) _).mono ?_
  rintro e y9 ⟨rfl, hb⟩
  replace R1 := Lib.hid (R1.out.below hb R1.out.lt)
  replace DW := Lib.hid (below_link DW.out hb DW.out.size)
  clear hb
  go_wp2_with fail
  refine (mono_any (1) (0) (0) _).mono ?_
  rintro e y10 ⟨rfl, hb⟩
  replace R1 := Lib.hid (R1.out.below hb R1.out.lt)
  replace DW := Lib.hid (below_link DW.out hb DW.out.size)
  clear hb
  go_wp2_with fail
  refine (mul_big (tri 65535 0 0) (tri 1 0 0) 0 _ (va_tri (by omega) (by omega) (by omega)) (va_tri (by omega) (by omega) (by omega)) (by omega) (fun k hk => by omega) (by decide)).mono ?_
  rintro e y11 ⟨rfl, hb⟩
  replace R1 := Lib.hid (R1.out.below hb R1.out.lt)
  replace DW := Lib.hid (below_link DW.out hb DW.out.size)
  clear hb
  go_upto_region 4 with fail
  obtain ⟨w12, hW⟩ : ∃ w12, w12 = y11.alloc (Obj.cells #[Value.int IntKind.i64 ((nul) 0), Value.int IntKind.i64 ((nul) 1), Value.int IntKind.i64 ((nul) 2), Value.int IntKind.i64 ((nul) 3), Value.int IntKind.i64 ((nul) 4), Value.int IntKind.i64 ((nul) 5), Value.int IntKind.i64 ((nul) 6), Value.int IntKind.i64 ((nul) 7)] 27) := ⟨_, rfl⟩
  rw [← hW]
  have R5 : Hid (Row w12 y11.heap.size (nul)) := by rw [hW]; exact Row.new y11 (nul)
  have hb : Below y11.heap.size y11 w12 := by rw [hW]; exact (Below.refl _ _).alloc (Nat.le_refl _) _
  replace R1 := Lib.hid (R1.out.below hb R1.out.lt)
  replace DW := Lib.hid (below_link DW.out hb DW.out.size)
  clear hW hb
  clear R5
  go_wp2_with fail
  refine (all_ok 2 2 _ (by omega) (by omega)).mono ?_
  rintro e y13 ⟨v7, l7, rfl, s7, hl7, hb⟩
  replace R1 := Lib.hid (R1.out.below hb R1.out.lt)
  replace DW := Lib.hid (below_link DW.out hb DW.out.size)
  clear hb
  subst hl7
  have S7 := Lib.hid s7
  clear s7
  obtain ⟨A7, n7, c7, rfl, _, _, _, _⟩ := S7.out
  go_upto_region 5 with fail
  go_wp2_with fail
  refine (all_err 9 1 _ (by omega)).mono ?_
  rintro e y14 ⟨rfl, hb⟩
  replace R1 := Lib.hid (R1.out.below hb R1.out.lt)
  replace S7 := Lib.hid (S7.out.below hb)
  replace DW := Lib.hid (below_link DW.out hb DW.out.size)
  clear hb
  go_upto_region 6 with fail
  go_wp2_with fail
  refine (all_ok 0 1 _ (by omega) (by omega)).mono ?_
  rintro e y15 ⟨v11, l11, rfl, s11, hl11, hb⟩
  replace R1 := Lib.hid (R1.out.below hb R1.out.lt)
  replace S7 := Lib.hid (S7.out.below hb)
  replace DW := Lib.hid (below_link DW.out hb DW.out.size)
  clear hb
  have N11 := Lib.hid s11
  obtain ⟨A11, n11, c11, rfl, _, _, _, h11⟩ := s11
  obtain rfl : n11 = 0 := by have := h11.len; rw [hl11] at this; simpa [rs] using this.symm
  clear h11 hl11
  go_upto_region 7 with fail
  go_wp2_with fail
  refine (mono_any (1) (2) (0) _).mono ?_
  rintro e y16 ⟨rfl, hb⟩
  replace R1 := Lib.hid (R1.out.below hb R1.out.lt)
  replace S7 := Lib.hid (S7.out.below hb)
  replace DW := Lib.hid (below_link DW.out hb DW.out.size)
  clear hb
  go_wp2_with fail
  refine (mono_any (2) (0) (0) _).mono ?_
  rintro e y17 ⟨rfl, hb⟩
  replace R1 := Lib.hid (R1.out.below hb R1.out.lt)
  replace S7 := Lib.hid (S7.out.below hb)
  replace DW := Lib.hid (below_link DW.out hb DW.out.size)
  clear hb
  go_wp2_with fail
  refine (mono_any (1) (1) (0) _).mono ?_
  rintro e y18 ⟨rfl, hb⟩
  replace R1 := Lib.hid (R1.out.below hb R1.out.lt)
  replace S7 := Lib.hid (S7.out.below hb)
  replace DW := Lib.hid (below_link DW.out hb DW.out.size)
  clear hb
  go_wp2_with fail
  refine (mono_any (2) (0) (0) _).mono ?_
  rintro e y19 ⟨rfl, hb⟩
  replace R1 := Lib.hid (R1.out.below hb R1.out.lt)
  replace S7 := Lib.hid (S7.out.below hb)
  replace DW := Lib.hid (below_link DW.out hb DW.out.size)
  clear hb
  go_wp2_with fail
  refine (mono_any (1) (2) (0) _).mono ?_
  rintro e y20 ⟨rfl, hb⟩
  replace R1 := Lib.hid (R1.out.below hb R1.out.lt)
  replace S7 := Lib.hid (S7.out.below hb)
  replace DW := Lib.hid (below_link DW.out hb DW.out.size)
  clear hb
  go_wp2_with fail
  obtain ⟨w21, hW⟩ : ∃ w21, w21 = y20.alloc (Obj.cells #[Value.int IntKind.i64 ((tri 1 2 0) 0), Value.int IntKind.i64 ((tri 1 2 0) 1), Value.int IntKind.i64 ((tri 1 2 0) 2), Value.int IntKind.i64 ((tri 1 2 0) 3), Value.int IntKind.i64 ((tri 1 2 0) 4), Value.int IntKind.i64 ((tri 1 2 0) 5), Value.int IntKind.i64 ((tri 1 2 0) 6), Value.int IntKind.i64 ((tri 1 2 0) 7), Value.int IntKind.i64 ((tri 2 0 0) 0), Value.int IntKind.i64 ((tri 2 0 0) 1), Value.int IntKind.i64 ((tri 2 0 0) 2), Value.int IntKind.i64 ((tri 2 0 0) 3), Value.int IntKind.i64 ((tri 2 0 0) 4), Value.int IntKind.i64 ((tri 2 0 0) 5), Value.int IntKind.i64 ((tri 2 0 0) 6), Value.int IntKind.i64 ((tri 2 0 0) 7), Value.int IntKind.i64 ((tri 1 1 0) 0), Value.int IntKind.i64 ((tri 1 1 0) 1), Value.int IntKind.i64 ((tri 1 1 0) 2), Value.int IntKind.i64 ((tri 1 1 0) 3), Value.int IntKind.i64 ((tri 1 1 0) 4), Value.int IntKind.i64 ((tri 1 1 0) 5), Value.int IntKind.i64 ((tri 1 1 0) 6), Value.int IntKind.i64 ((tri 1 1 0) 7), Value.int IntKind.i64 ((tri 2 0 0) 0), Value.int IntKind.i64 ((tri 2 0 0) 1), Value.int IntKind.i64 ((tri 2 0 0) 2), Value.int IntKind.i64 ((tri 2 0 0) 3), Value.int IntKind.i64 ((tri 2 0 0) 4), Value.int IntKind.i64 ((tri 2 0 0) 5), Value.int IntKind.i64 ((tri 2 0 0) 6), Value.int IntKind.i64 ((tri 2 0 0) 7), Value.int IntKind.i64 ((tri 1 2 0) 0), Value.int IntKind.i64 ((tri 1 2 0) 1), Value.int IntKind.i64 ((tri 1 2 0) 2), Value.int IntKind.i64 ((tri 1 2 0) 3), Value.int IntKind.i64 ((tri 1 2 0) 4), Value.int IntKind.i64 ((tri 1 2 0) 5), Value.int IntKind.i64 ((tri 1 2 0) 6), Value.int IntKind.i64 ((tri 1 2 0) 7)] 27) := ⟨_, rfl⟩
  rw [← hW]
  have S5 : Hid (Sl w21 (.slice (some ⟨y20.heap.size, 0, none⟩) 5 5) [tri 1 2 0, tri 2 0 0, tri 1 1 0, tri 2 0 0, tri 1 2 0]) := by rw [hW]; exact lit_sl y20 [tri 1 2 0, tri 2 0 0, tri 1 1 0, tri 2 0 0, tri 1 2 0] (by simp)
  have hb : Below y20.heap.size y20 w21 := by rw [hW]; exact (Below.refl _ _).alloc (Nat.le_refl _) _
  replace R1 := Lib.hid (R1.out.below hb R1.out.lt)
  replace S7 := Lib.hid (S7.out.below hb)
  replace DW := Lib.hid (below_link DW.out hb DW.out.size)
  clear hW hb
  refine (minimal_any _ five _ S5.out (by decide)).mono ?_
  rintro e y22 ⟨v13, m13, rfl, s13, ⟨hm13, hl13⟩, hb⟩
  replace R1 := Lib.hid (R1.out.below hb R1.out.lt)
  replace S7 := Lib.hid (S7.out.below hb)
  replace S5 := Lib.hid (S5.out.below hb)
  replace DW := Lib.hid (below_link DW.out hb DW.out.size)
  clear hb
  have S13 := Lib.hid s13
  have M13 := Lib.hid hm13
  clear s13 hm13 hl13 S5
  obtain ⟨A13, n13, c13, rfl, _, _, _, hx13⟩ := S13.out
  have X13 := Lib.hid hx13
  clear hx13
  go_wp2_with fail
  refine region_run (fun w' => Below y22.heap.size y22 w') [.is (.agg (cls (tri (1) (0) (0)))), .is (.agg (cls (tri (0) (5) (0)))), .is (Value.int IntKind.i64 (1)), .is (Value.bool true), .is (Value.bool true), .is (.agg (cls (tri (2) (1) (0)))), .is (.agg (cls (tri (2) (3) (0)))), .is (Value.int IntKind.i64 (-1)), .is (Value.bool true), .is (Value.bool true), .is (Value.bool true), .is (.agg (cls (tri (3) (0) (1)))), .is (.agg (cls (tri (1) (2) (0)))), .is (.agg (cls (lcmF (tri (3) (0) (1)) (tri (1) (2) (0))))), .is (.agg (cls (tri (3) (2) (1)))), .is (Value.bool true), .is (Value.bool true), .is (Value.bool true), .is (.agg (cls (tri (3) (0) (1)))), .is (.agg (cls (tri (1) (2) (0)))), .is (.agg (cls (gcdF (tri (3) (0) (1)) (tri (1) (2) (0))))), .is (.agg (cls (tri (1) (0) (0)))), .is (Value.bool true), .is (Value.bool true), .is (Value.bool true), .is (Value.bool true), .is (Value.bool true), .is (Value.bool true), .is (Value.bool false), .is (Value.bool true), .is (Value.bool true), .is (Value.bool true), .is (.agg (cls (difF (tri 3 2 0) (tri 1 2 0)))), .is (.agg (cls (tri (2) (0) (0)))), .is (Value.bool true), .is (Value.bool true), .is (Value.bool true)] [53, 54, 55, 56, 57, 58, 59, 60, 61, 62, 63, 64, 65, 66, 67, 68, 69, 70, 71, 72, 73, 74, 75, 76, 77, 78, 79, 80, 81, 82, 83, 84, 85, 86, 87, 88, 14] (by kernel_rfl) (by kernel_rfl) (by kernel_rfl) (by rfl) (by kernel_rfl) ((Below.refl _ _).drew) (fun Q' => ?_) (fun K hK wn hs => ?_)
  · refine ⟨?_, ?_, ?_, ?_, ?_, ?_, ?_, ?_, ?_, ?_, ?_, ?_, ?_, ?_, ?_, ?_, ?_, ?_, ?_, ?_, ?_, ?_, ?_, ?_, ?_, ?_, ?_, ?_, ?_, ?_, ?_, ?_, ?_, ?_, ?_, ?_, ?_, trivial⟩
    · intro a' w' ha hs hw
      exact .inl ⟨wanted_none rfl, call_step rfl Try.func36 (by kernel_rfl) rfl (map_three rfl rfl rfl) (mono_any (1) (0) (0) _) (fun e w2 he => by obtain ⟨rfl, hb⟩ := he; exact ⟨_, rfl, _, rfl, rfl, hb, hs.trans (hb.mono hs.size)⟩)⟩
    · intro a' w' ha hs hw
      exact .inl ⟨wanted_none rfl, call_step rfl Try.func36 (by kernel_rfl) rfl (map_three rfl rfl rfl) (mono_any (0) (5) (0) _) (fun e w2 he => by obtain ⟨rfl, hb⟩ := he; exact ⟨_, rfl, _, rfl, rfl, hb, hs.trans (hb.mono hs.size)⟩)⟩
    · intro a' w' ha hs hw
      obtain ⟨v0, e0, q0⟩ := hw 0 (by kernel_rfl) _ _ _ rfl rfl rfl
      obtain rfl : v0 = .agg (cls (tri (1) (0) (0))) := q0
      obtain ⟨v1, e1, q1⟩ := hw 1 (by kernel_rfl) _ _ _ rfl rfl rfl
      obtain rfl : v1 = .agg (cls (tri (0) (5) (0))) := q1
      exact .inl ⟨wanted_none rfl, call_step rfl Try.func19 (by kernel_rfl) rfl (map_two (ev_tmp e0) (ev_tmp e1)) (cmp_is (tri (1) (0) (0)) (tri (0) (5) (0)) (1) _ (.inr (.inr ⟨tri_lt (by omega), rfl⟩))) (fun e w2 he => by obtain ⟨rfl, hb⟩ := he; exact ⟨_, rfl, _, rfl, rfl, hb, hs.trans (hb.mono hs.size)⟩)⟩
    · intro a' w' ha hs hw
      obtain ⟨v2, e2, q2⟩ := hw 2 (by kernel_rfl) _ _ _ rfl rfl rfl
      obtain rfl : v2 = Value.int IntKind.i64 (1) := q2
      exact .inl ⟨wanted_none rfl, wp_val (run_eql_int rfl (ev_tmp e2) rfl) ⟨_, rfl, congrArg Value.bool (by decide), Below.refl _ _, hs⟩⟩
    · intro a' w' ha hs hw
      obtain ⟨v3, e3, q3⟩ := hw 3 (by kernel_rfl) _ _ _ rfl rfl rfl
      obtain rfl : v3 = Value.bool true := q3
      exact .inl ⟨wanted_none rfl, wp_val (run_move rfl (ev_tmp e3)) ⟨_, rfl, rfl, Below.refl _ _, hs⟩⟩
    · intro a' w' ha hs hw
      obtain ⟨v4, e4, q4⟩ := hw 4 (by kernel_rfl) _ _ _ rfl rfl rfl
      obtain rfl : v4 = Value.bool true := q4
      exact .inl ⟨wanted_some rfl rfl rfl e4, call_step rfl Try.func36 (by kernel_rfl) rfl (map_three rfl rfl rfl) (mono_any (2) (1) (0) _) (fun e w2 he => by obtain ⟨rfl, hb⟩ := he; exact ⟨_, rfl, _, rfl, rfl, hb, hs.trans (hb.mono hs.size)⟩)⟩
    · intro a' w' ha hs hw
      obtain ⟨v4, e4, q4⟩ := hw 4 (by kernel_rfl) _ _ _ rfl rfl rfl
      obtain rfl : v4 = Value.bool true := q4
      exact .inl ⟨wanted_some rfl rfl rfl e4, call_step rfl Try.func36 (by kernel_rfl) rfl (map_three rfl rfl rfl) (mono_any (2) (3) (0) _) (fun e w2 he => by obtain ⟨rfl, hb⟩ := he; exact ⟨_, rfl, _, rfl, rfl, hb, hs.trans (hb.mono hs.size)⟩)⟩
    · intro a' w' ha hs hw
      obtain ⟨v4, e4, q4⟩ := hw 4 (by kernel_rfl) _ _ _ rfl rfl rfl
      obtain rfl : v4 = Value.bool true := q4
      obtain ⟨v5, e5, q5⟩ := hw 5 (by kernel_rfl) _ _ _ rfl rfl rfl
      obtain rfl : v5 = .agg (cls (tri (2) (1) (0))) := q5
      obtain ⟨v6, e6, q6⟩ := hw 6 (by kernel_rfl) _ _ _ rfl rfl rfl
      obtain rfl : v6 = .agg (cls (tri (2) (3) (0))) := q6
      exact .inl ⟨wanted_some rfl rfl rfl e4, call_step rfl Try.func19 (by kernel_rfl) rfl (map_two (ev_tmp e5) (ev_tmp e6)) (cmp_is (tri (2) (1) (0)) (tri (2) (3) (0)) (-1) _ (.inl ⟨tri_lt (by omega), rfl⟩)) (fun e w2 he => by obtain ⟨rfl, hb⟩ := he; exact ⟨_, rfl, _, rfl, rfl, hb, hs.trans (hb.mono hs.size)⟩)⟩
    · intro a' w' ha hs hw
      obtain ⟨v4, e4, q4⟩ := hw 4 (by kernel_rfl) _ _ _ rfl rfl rfl
      obtain rfl : v4 = Value.bool true := q4
      obtain ⟨v7, e7, q7⟩ := hw 7 (by kernel_rfl) _ _ _ rfl rfl rfl
      obtain rfl : v7 = Value.int IntKind.i64 (-1) := q7
      exact .inl ⟨wanted_some rfl rfl rfl e4, wp_val (run_eql_int rfl (ev_tmp e7) rfl) ⟨_, rfl, congrArg Value.bool (by decide), Below.refl _ _, hs⟩⟩
    · intro a' w' ha hs hw
      obtain ⟨v4, e4, q4⟩ := hw 4 (by kernel_rfl) _ _ _ rfl rfl rfl
      obtain rfl : v4 = Value.bool true := q4
      obtain ⟨v8, e8, q8⟩ := hw 8 (by kernel_rfl) _ _ _ rfl rfl rfl
      obtain rfl : v8 = Value.bool true := q8
      exact .inl ⟨wanted_none rfl, wp_val (run_pick (b := true) rfl (ev_tmp e4) (ev_tmp e8)) ⟨_, rfl, rfl, Below.refl _ _, hs⟩⟩
    · intro a' w' ha hs hw
      obtain ⟨v9, e9, q9⟩ := hw 9 (by kernel_rfl) _ _ _ rfl rfl rfl
      obtain rfl : v9 = Value.bool true := q9
      exact .inl ⟨wanted_none rfl, wp_val (run_move rfl (ev_tmp e9)) ⟨_, rfl, rfl, Below.refl _ _, hs⟩⟩
    · intro a' w' ha hs hw
      obtain ⟨v10, e10, q10⟩ := hw 10 (by kernel_rfl) _ _ _ rfl rfl rfl
      obtain rfl : v10 = Value.bool true := q10
      exact .inl ⟨wanted_some rfl rfl rfl e10, call_step rfl Try.func36 (by kernel_rfl) rfl (map_three rfl rfl rfl) (mono_any (3) (0) (1) _) (fun e w2 he => by obtain ⟨rfl, hb⟩ := he; exact ⟨_, rfl, _, rfl, rfl, hb, hs.trans (hb.mono hs.size)⟩)⟩
    · intro a' w' ha hs hw
      obtain ⟨v10, e10, q10⟩ := hw 10 (by kernel_rfl) _ _ _ rfl rfl rfl
      obtain rfl : v10 = Value.bool true := q10
      exact .inl ⟨wanted_some rfl rfl rfl e10, call_step rfl Try.func36 (by kernel_rfl) rfl (map_three rfl rfl rfl) (mono_any (1) (2) (0) _) (fun e w2 he => by obtain ⟨rfl, hb⟩ := he; exact ⟨_, rfl, _, rfl, rfl, hb, hs.trans (hb.mono hs.size)⟩)⟩
    · intro a' w' ha hs hw
      obtain ⟨v10, e10, q10⟩ := hw 10 (by kernel_rfl) _ _ _ rfl rfl rfl
      obtain rfl : v10 = Value.bool true := q10
      obtain ⟨v11, e11, q11⟩ := hw 11 (by kernel_rfl) _ _ _ rfl rfl rfl
      obtain rfl : v11 = .agg (cls (tri (3) (0) (1))) := q11
      obtain ⟨v12, e12, q12⟩ := hw 12 (by kernel_rfl) _ _ _ rfl rfl rfl
      obtain rfl : v12 = .agg (cls (tri (1) (2) (0))) := q12
      exact .inl ⟨wanted_some rfl rfl rfl e10, call_step rfl Try.func21 (by kernel_rfl) rfl (map_two (ev_tmp e11) (ev_tmp e12)) (lcm_any (tri (3) (0) (1)) (tri (1) (2) (0)) _) (fun e w2 he => by obtain ⟨rfl, hb⟩ := he; exact ⟨_, rfl, _, rfl, rfl, hb, hs.trans (hb.mono hs.size)⟩)⟩
    · intro a' w' ha hs hw
      obtain ⟨v10, e10, q10⟩ := hw 10 (by kernel_rfl) _ _ _ rfl rfl rfl
      obtain rfl : v10 = Value.bool true := q10
      exact .inl ⟨wanted_some rfl rfl rfl e10, call_step rfl Try.func36 (by kernel_rfl) rfl (map_three rfl rfl rfl) (mono_any (3) (2) (1) _) (fun e w2 he => by obtain ⟨rfl, hb⟩ := he; exact ⟨_, rfl, _, rfl, rfl, hb, hs.trans (hb.mono hs.size)⟩)⟩
    · intro a' w' ha hs hw
      obtain ⟨v10, e10, q10⟩ := hw 10 (by kernel_rfl) _ _ _ rfl rfl rfl
      obtain rfl : v10 = Value.bool true := q10
      obtain ⟨v13, e13, q13⟩ := hw 13 (by kernel_rfl) _ _ _ rfl rfl rfl
      obtain rfl : v13 = .agg (cls (lcmF (tri (3) (0) (1)) (tri (1) (2) (0)))) := q13
      obtain ⟨v14, e14, q14⟩ := hw 14 (by kernel_rfl) _ _ _ rfl rfl rfl
      obtain rfl : v14 = .agg (cls (tri (3) (2) (1))) := q14
      exact .inl ⟨wanted_some rfl rfl rfl e10, wp_val (run_eql_arr rfl (ev_tmp e13) (ev_tmp e14)) ⟨_, rfl, congrArg Value.bool (by decide), Below.refl _ _, hs⟩⟩
    · intro a' w' ha hs hw
      obtain ⟨v10, e10, q10⟩ := hw 10 (by kernel_rfl) _ _ _ rfl rfl rfl
      obtain rfl : v10 = Value.bool true := q10
      obtain ⟨v15, e15, q15⟩ := hw 15 (by kernel_rfl) _ _ _ rfl rfl rfl
      obtain rfl : v15 = Value.bool true := q15
      exact .inl ⟨wanted_none rfl, wp_val (run_pick (b := true) rfl (ev_tmp e10) (ev_tmp e15)) ⟨_, rfl, rfl, Below.refl _ _, hs⟩⟩
    · intro a' w' ha hs hw
      obtain ⟨v16, e16, q16⟩ := hw 16 (by kernel_rfl) _ _ _ rfl rfl rfl
      obtain rfl : v16 = Value.bool true := q16
      exact .inl ⟨wanted_none rfl, wp_val (run_move rfl (ev_tmp e16)) ⟨_, rfl, rfl, Below.refl _ _, hs⟩⟩
    · intro a' w' ha hs hw
      obtain ⟨v17, e17, q17⟩ := hw 17 (by kernel_rfl) _ _ _ rfl rfl rfl
      obtain rfl : v17 = Value.bool true := q17
      exact .inl ⟨wanted_some rfl rfl rfl e17, call_step rfl Try.func36 (by kernel_rfl) rfl (map_three rfl rfl rfl) (mono_any (3) (0) (1) _) (fun e w2 he => by obtain ⟨rfl, hb⟩ := he; exact ⟨_, rfl, _, rfl, rfl, hb, hs.trans (hb.mono hs.size)⟩)⟩
    · intro a' w' ha hs hw
      obtain ⟨v17, e17, q17⟩ := hw 17 (by kernel_rfl) _ _ _ rfl rfl rfl
      obtain rfl : v17 = Value.bool true := q17
      exact .inl ⟨wanted_some rfl rfl rfl e17, call_step rfl Try.func36 (by kernel_rfl) rfl (map_three rfl rfl rfl) (mono_any (1) (2) (0) _) (fun e w2 he => by obtain ⟨rfl, hb⟩ := he; exact ⟨_, rfl, _, rfl, rfl, hb, hs.trans (hb.mono hs.size)⟩)⟩
    · intro a' w' ha hs hw
      obtain ⟨v17, e17, q17⟩ := hw 17 (by kernel_rfl) _ _ _ rfl rfl rfl
      obtain rfl : v17 = Value.bool true := q17
      obtain ⟨v18, e18, q18⟩ := hw 18 (by kernel_rfl) _ _ _ rfl rfl rfl
      obtain rfl : v18 = .agg (cls (tri (3) (0) (1))) := q18
      obtain ⟨v19, e19, q19⟩ := hw 19 (by kernel_rfl) _ _ _ rfl rfl rfl
      obtain rfl : v19 = .agg (cls (tri (1) (2) (0))) := q19
      exact .inl ⟨wanted_some rfl rfl rfl e17, call_step rfl Try.func23 (by kernel_rfl) rfl (map_two (ev_tmp e18) (ev_tmp e19)) (gcd_any (tri (3) (0) (1)) (tri (1) (2) (0)) _) (fun e w2 he => by obtain ⟨rfl, hb⟩ := he; exact ⟨_, rfl, _, rfl, rfl, hb, hs.trans (hb.mono hs.size)⟩)⟩
    · intro a' w' ha hs hw
      obtain ⟨v17, e17, q17⟩ := hw 17 (by kernel_rfl) _ _ _ rfl rfl rfl
      obtain rfl : v17 = Value.bool true := q17
      exact .inl ⟨wanted_some rfl rfl rfl e17, call_step rfl Try.func36 (by kernel_rfl) rfl (map_three rfl rfl rfl) (mono_any (1) (0) (0) _) (fun e w2 he => by obtain ⟨rfl, hb⟩ := he; exact ⟨_, rfl, _, rfl, rfl, hb, hs.trans (hb.mono hs.size)⟩)⟩
    · intro a' w' ha hs hw
      obtain ⟨v17, e17, q17⟩ := hw 17 (by kernel_rfl) _ _ _ rfl rfl rfl
      obtain rfl : v17 = Value.bool true := q17
      obtain ⟨v20, e20, q20⟩ := hw 20 (by kernel_rfl) _ _ _ rfl rfl rfl
      obtain rfl : v20 = .agg (cls (gcdF (tri (3) (0) (1)) (tri (1) (2) (0)))) := q20
      obtain ⟨v21, e21, q21⟩ := hw 21 (by kernel_rfl) _ _ _ rfl rfl rfl
      obtain rfl : v21 = .agg (cls (tri (1) (0) (0))) := q21
      exact .inl ⟨wanted_some rfl rfl rfl e17, wp_val (run_eql_arr rfl (ev_tmp e20) (ev_tmp e21)) ⟨_, rfl, congrArg Value.bool (by decide), Below.refl _ _, hs⟩⟩
    · intro a' w' ha hs hw
      obtain ⟨v17, e17, q17⟩ := hw 17 (by kernel_rfl) _ _ _ rfl rfl rfl
      obtain rfl : v17 = Value.bool true := q17
      obtain ⟨v22, e22, q22⟩ := hw 22 (by kernel_rfl) _ _ _ rfl rfl rfl
      obtain rfl : v22 = Value.bool true := q22
      exact .inl ⟨wanted_none rfl, wp_val (run_pick (b := true) rfl (ev_tmp e17) (ev_tmp e22)) ⟨_, rfl, rfl, Below.refl _ _, hs⟩⟩
    · intro a' w' ha hs hw
      obtain ⟨v23, e23, q23⟩ := hw 23 (by kernel_rfl) _ _ _ rfl rfl rfl
      obtain rfl : v23 = Value.bool true := q23
      exact .inl ⟨wanted_none rfl, wp_val (run_move rfl (ev_tmp e23)) ⟨_, rfl, rfl, Below.refl _ _, hs⟩⟩
    · intro a' w' ha hs hw
      obtain ⟨v24, e24, q24⟩ := hw 24 (by kernel_rfl) _ _ _ rfl rfl rfl
      obtain rfl : v24 = Value.bool true := q24
      have eo2 : a'.tmps[2]? = some (Value.bool true) := (ha.rest 2 (by kernel_rfl)).trans rfl
      exact .inl ⟨wanted_some rfl rfl rfl e24, wp_val (run_move rfl (ev_tmp eo2)) ⟨_, rfl, rfl, Below.refl _ _, hs⟩⟩
    · intro a' w' ha hs hw
      obtain ⟨v24, e24, q24⟩ := hw 24 (by kernel_rfl) _ _ _ rfl rfl rfl
      obtain rfl : v24 = Value.bool true := q24
      obtain ⟨v25, e25, q25⟩ := hw 25 (by kernel_rfl) _ _ _ rfl rfl rfl
      obtain rfl : v25 = Value.bool true := q25
      exact .inl ⟨wanted_none rfl, wp_val (run_pick (b := true) rfl (ev_tmp e24) (ev_tmp e25)) ⟨_, rfl, rfl, Below.refl _ _, hs⟩⟩
    · intro a' w' ha hs hw
      obtain ⟨v26, e26, q26⟩ := hw 26 (by kernel_rfl) _ _ _ rfl rfl rfl
      obtain rfl : v26 = Value.bool true := q26
      exact .inl ⟨wanted_none rfl, wp_val (run_move rfl (ev_tmp e26)) ⟨_, rfl, rfl, Below.refl _ _, hs⟩⟩
    · intro a' w' ha hs hw
      obtain ⟨v27, e27, q27⟩ := hw 27 (by kernel_rfl) _ _ _ rfl rfl rfl
      obtain rfl : v27 = Value.bool true := q27
      have eo4 : a'.tmps[4]? = some (Value.bool false) := (ha.rest 4 (by kernel_rfl)).trans rfl
      exact .inl ⟨wanted_some rfl rfl rfl e27, wp_val (run_move rfl (ev_tmp eo4)) ⟨_, rfl, rfl, Below.refl _ _, hs⟩⟩
    · intro a' w' ha hs hw
      obtain ⟨v27, e27, q27⟩ := hw 27 (by kernel_rfl) _ _ _ rfl rfl rfl
      obtain rfl : v27 = Value.bool true := q27
      obtain ⟨v28, e28, q28⟩ := hw 28 (by kernel_rfl) _ _ _ rfl rfl rfl
      obtain rfl : v28 = Value.bool false := q28
      exact .inl ⟨wanted_some rfl rfl rfl e27, wp_val (run_not rfl (ev_tmp e28)) ⟨_, rfl, rfl, Below.refl _ _, hs⟩⟩
    · intro a' w' ha hs hw
      obtain ⟨v27, e27, q27⟩ := hw 27 (by kernel_rfl) _ _ _ rfl rfl rfl
      obtain rfl : v27 = Value.bool true := q27
      obtain ⟨v29, e29, q29⟩ := hw 29 (by kernel_rfl) _ _ _ rfl rfl rfl
      obtain rfl : v29 = Value.bool true := q29
      exact .inl ⟨wanted_none rfl, wp_val (run_pick (b := true) rfl (ev_tmp e27) (ev_tmp e29)) ⟨_, rfl, rfl, Below.refl _ _, hs⟩⟩
    · intro a' w' ha hs hw
      obtain ⟨v30, e30, q30⟩ := hw 30 (by kernel_rfl) _ _ _ rfl rfl rfl
      obtain rfl : v30 = Value.bool true := q30
      exact .inl ⟨wanted_none rfl, wp_val (run_move rfl (ev_tmp e30)) ⟨_, rfl, rfl, Below.refl _ _, hs⟩⟩
    · intro a' w' ha hs hw
      obtain ⟨v31, e31, q31⟩ := hw 31 (by kernel_rfl) _ _ _ rfl rfl rfl
      obtain rfl : v31 = Value.bool true := q31
      have eo1 : a'.tmps[1]? = some (.pointer (some ⟨y3.heap.size, 0, none⟩)) := (ha.rest 1 (by kernel_rfl)).trans rfl
      exact .inl ⟨wanted_some rfl rfl rfl e31, wp_val (run_load rfl (ev_tmp eo1) (R1.out.below hs R1.out.lt)) ⟨_, rfl, rfl, Below.refl _ _, hs⟩⟩
    · intro a' w' ha hs hw
      obtain ⟨v31, e31, q31⟩ := hw 31 (by kernel_rfl) _ _ _ rfl rfl rfl
      obtain rfl : v31 = Value.bool true := q31
      exact .inl ⟨wanted_some rfl rfl rfl e31, call_step rfl Try.func36 (by kernel_rfl) rfl (map_three rfl rfl rfl) (mono_any (2) (0) (0) _) (fun e w2 he => by obtain ⟨rfl, hb⟩ := he; exact ⟨_, rfl, _, rfl, rfl, hb, hs.trans (hb.mono hs.size)⟩)⟩
    · intro a' w' ha hs hw
      obtain ⟨v31, e31, q31⟩ := hw 31 (by kernel_rfl) _ _ _ rfl rfl rfl
      obtain rfl : v31 = Value.bool true := q31
      obtain ⟨v32, e32, q32⟩ := hw 32 (by kernel_rfl) _ _ _ rfl rfl rfl
      obtain rfl : v32 = .agg (cls (difF (tri 3 2 0) (tri 1 2 0))) := q32
      obtain ⟨v33, e33, q33⟩ := hw 33 (by kernel_rfl) _ _ _ rfl rfl rfl
      obtain rfl : v33 = .agg (cls (tri (2) (0) (0))) := q33
      exact .inl ⟨wanted_some rfl rfl rfl e31, wp_val (run_eql_arr rfl (ev_tmp e32) (ev_tmp e33)) ⟨_, rfl, congrArg Value.bool (by decide), Below.refl _ _, hs⟩⟩
    · intro a' w' ha hs hw
      obtain ⟨v31, e31, q31⟩ := hw 31 (by kernel_rfl) _ _ _ rfl rfl rfl
      obtain rfl : v31 = Value.bool true := q31
      obtain ⟨v34, e34, q34⟩ := hw 34 (by kernel_rfl) _ _ _ rfl rfl rfl
      obtain rfl : v34 = Value.bool true := q34
      exact .inl ⟨wanted_none rfl, wp_val (run_pick (b := true) rfl (ev_tmp e31) (ev_tmp e34)) ⟨_, rfl, rfl, Below.refl _ _, hs⟩⟩
    · intro a' w' ha hs hw
      obtain ⟨v35, e35, q35⟩ := hw 35 (by kernel_rfl) _ _ _ rfl rfl rfl
      obtain rfl : v35 = Value.bool true := q35
      exact .inl ⟨wanted_none rfl, wp_val (run_assign rfl (ev_tmp e35)) ⟨_, rfl, rfl, Below.refl _ _, hs⟩⟩
  simp only [allK]
  simp only [setAll, List.set_cons_succ, List.set_cons_zero]
  refine hK _ _ ?_
  clear hK K
  replace R1 := Lib.hid (R1.out.below hs R1.out.lt)
  replace S7 := Lib.hid (S7.out.below hs)
  replace S13 := Lib.hid (S13.out.below hs)
  replace X13 := Lib.hid (X13.out.below hs)
  replace DW := Lib.hid (below_link DW.out hs DW.out.size)
  clear hs
  generalize wn = z23 at *
  go_wp2_with fail
  refine (mono_any (2) (0) (0) _).mono ?_
  rintro e y24 ⟨rfl, hb⟩
  replace R1 := Lib.hid (R1.out.below hb R1.out.lt)
  replace S7 := Lib.hid (S7.out.below hb)
  replace S13 := Lib.hid (S13.out.below hb)
  replace X13 := Lib.hid (X13.out.below hb)
  replace DW := Lib.hid (below_link DW.out hb DW.out.size)
  clear hb
  go_wp2_with fail
  refine (mono_any (1) (1) (0) _).mono ?_
  rintro e y25 ⟨rfl, hb⟩
  replace R1 := Lib.hid (R1.out.below hb R1.out.lt)
  replace S7 := Lib.hid (S7.out.below hb)
  replace S13 := Lib.hid (S13.out.below hb)
  replace X13 := Lib.hid (X13.out.below hb)
  replace DW := Lib.hid (below_link DW.out hb DW.out.size)
  clear hb
  go_wp2_with fail
  refine (mono_any (0) (2) (0) _).mono ?_
  rintro e y26 ⟨rfl, hb⟩
  replace R1 := Lib.hid (R1.out.below hb R1.out.lt)
  replace S7 := Lib.hid (S7.out.below hb)
  replace S13 := Lib.hid (S13.out.below hb)
  replace X13 := Lib.hid (X13.out.below hb)
  replace DW := Lib.hid (below_link DW.out hb DW.out.size)
  clear hb
  go_wp2_with fail
  obtain ⟨w27, hW⟩ : ∃ w27, w27 = y26.alloc (Obj.cells #[Value.int IntKind.i64 ((tri 2 0 0) 0), Value.int IntKind.i64 ((tri 2 0 0) 1), Value.int IntKind.i64 ((tri 2 0 0) 2), Value.int IntKind.i64 ((tri 2 0 0) 3), Value.int IntKind.i64 ((tri 2 0 0) 4), Value.int IntKind.i64 ((tri 2 0 0) 5), Value.int IntKind.i64 ((tri 2 0 0) 6), Value.int IntKind.i64 ((tri 2 0 0) 7), Value.int IntKind.i64 ((tri 1 1 0) 0), Value.int IntKind.i64 ((tri 1 1 0) 1), Value.int IntKind.i64 ((tri 1 1 0) 2), Value.int IntKind.i64 ((tri 1 1 0) 3), Value.int IntKind.i64 ((tri 1 1 0) 4), Value.int IntKind.i64 ((tri 1 1 0) 5), Value.int IntKind.i64 ((tri 1 1 0) 6), Value.int IntKind.i64 ((tri 1 1 0) 7), Value.int IntKind.i64 ((tri 0 2 0) 0), Value.int IntKind.i64 ((tri 0 2 0) 1), Value.int IntKind.i64 ((tri 0 2 0) 2), Value.int IntKind.i64 ((tri 0 2 0) 3), Value.int IntKind.i64 ((tri 0 2 0) 4), Value.int IntKind.i64 ((tri 0 2 0) 5), Value.int IntKind.i64 ((tri 0 2 0) 6), Value.int IntKind.i64 ((tri 0 2 0) 7)] 27) := ⟨_, rfl⟩
  rw [← hW]
  have S3 : Hid (Sl w27 (.slice (some ⟨y26.heap.size, 0, none⟩) 3 3) [tri 2 0 0, tri 1 1 0, tri 0 2 0]) := by rw [hW]; exact lit_sl y26 [tri 2 0 0, tri 1 1 0, tri 0 2 0] (by simp)
  have hb : Below y26.heap.size y26 w27 := by rw [hW]; exact (Below.refl _ _).alloc (Nat.le_refl _) _
  replace R1 := Lib.hid (R1.out.below hb R1.out.lt)
  replace S7 := Lib.hid (S7.out.below hb)
  replace S13 := Lib.hid (S13.out.below hb)
  replace X13 := Lib.hid (X13.out.below hb)
  replace DW := Lib.hid (below_link DW.out hb DW.out.size)
  clear hW hb
  refine (same_true _ _ (rs 2 0 2 nul) [tri 2 0 0, tri 1 1 0, tri 0 2 0] _ S7.out S3.out (by decide) (by decide) (alike_at rs_two)).mono ?_
  rintro e y28 ⟨rfl, hb⟩
  replace R1 := Lib.hid (R1.out.below hb R1.out.lt)
  replace S7 := Lib.hid (S7.out.below hb)
  replace S13 := Lib.hid (S13.out.below hb)
  replace X13 := Lib.hid (X13.out.below hb)
  replace S3 := Lib.hid (S3.out.below hb)
  replace DW := Lib.hid (below_link DW.out hb DW.out.size)
  clear hb
  clear S3 S7
  go_wp2_with fail
  refine (mono_any (2) (0) (0) _).mono ?_
  rintro e y29 ⟨rfl, hb⟩
  replace R1 := Lib.hid (R1.out.below hb R1.out.lt)
  replace S13 := Lib.hid (S13.out.below hb)
  replace X13 := Lib.hid (X13.out.below hb)
  replace DW := Lib.hid (below_link DW.out hb DW.out.size)
  clear hb
  go_wp2_with fail
  refine (mono_any (1) (1) (0) _).mono ?_
  rintro e y30 ⟨rfl, hb⟩
  replace R1 := Lib.hid (R1.out.below hb R1.out.lt)
  replace S13 := Lib.hid (S13.out.below hb)
  replace X13 := Lib.hid (X13.out.below hb)
  replace DW := Lib.hid (below_link DW.out hb DW.out.size)
  clear hb
  go_wp2_with fail
  obtain ⟨w31, hW⟩ : ∃ w31, w31 = y30.alloc (Obj.cells #[Value.int IntKind.i64 ((tri 2 0 0) 0), Value.int IntKind.i64 ((tri 2 0 0) 1), Value.int IntKind.i64 ((tri 2 0 0) 2), Value.int IntKind.i64 ((tri 2 0 0) 3), Value.int IntKind.i64 ((tri 2 0 0) 4), Value.int IntKind.i64 ((tri 2 0 0) 5), Value.int IntKind.i64 ((tri 2 0 0) 6), Value.int IntKind.i64 ((tri 2 0 0) 7), Value.int IntKind.i64 ((tri 1 1 0) 0), Value.int IntKind.i64 ((tri 1 1 0) 1), Value.int IntKind.i64 ((tri 1 1 0) 2), Value.int IntKind.i64 ((tri 1 1 0) 3), Value.int IntKind.i64 ((tri 1 1 0) 4), Value.int IntKind.i64 ((tri 1 1 0) 5), Value.int IntKind.i64 ((tri 1 1 0) 6), Value.int IntKind.i64 ((tri 1 1 0) 7)] 27) := ⟨_, rfl⟩
  rw [← hW]
  have S2 : Hid (Sl w31 (.slice (some ⟨y30.heap.size, 0, none⟩) 2 2) [tri 2 0 0, tri 1 1 0]) := by rw [hW]; exact lit_sl y30 [tri 2 0 0, tri 1 1 0] (by simp)
  have hb : Below y30.heap.size y30 w31 := by rw [hW]; exact (Below.refl _ _).alloc (Nat.le_refl _) _
  replace R1 := Lib.hid (R1.out.below hb R1.out.lt)
  replace S13 := Lib.hid (S13.out.below hb)
  replace X13 := Lib.hid (X13.out.below hb)
  replace DW := Lib.hid (below_link DW.out hb DW.out.size)
  clear hW hb
  refine (same_true _ _ m13 [tri 2 0 0, tri 1 1 0] _ S13.out S2.out (five_min M13.out).len (by rw [(five_min M13.out).len]; decide) (alike_at (five_min M13.out))).mono ?_
  rintro e y32 ⟨rfl, hb⟩
  replace R1 := Lib.hid (R1.out.below hb R1.out.lt)
  replace S13 := Lib.hid (S13.out.below hb)
  replace X13 := Lib.hid (X13.out.below hb)
  replace S2 := Lib.hid (S2.out.below hb)
  replace DW := Lib.hid (below_link DW.out hb DW.out.size)
  clear hb
  clear S2
  go_wp2_with fail
  refine (mono_any (2) (1) (0) _).mono ?_
  rintro e y33 ⟨rfl, hb⟩
  replace R1 := Lib.hid (R1.out.below hb R1.out.lt)
  replace S13 := Lib.hid (S13.out.below hb)
  replace X13 := Lib.hid (X13.out.below hb)
  replace DW := Lib.hid (below_link DW.out hb DW.out.size)
  clear hb
  go_wp2_with fail
  refine (in_is (tri 2 1 0) _ _ _ m13 true _ X13.out (by have := X13.out.len; have := (five_min M13.out).len; simp at this; omega) (five_in M13.out)).mono ?_
  rintro e y34 ⟨rfl, hb⟩
  replace R1 := Lib.hid (R1.out.below hb R1.out.lt)
  replace S13 := Lib.hid (S13.out.below hb)
  replace X13 := Lib.hid (X13.out.below hb)
  replace DW := Lib.hid (below_link DW.out hb DW.out.size)
  clear hb
  go_wp2_with fail
  refine (mono_any (1) (0) (4) _).mono ?_
  rintro e y35 ⟨rfl, hb⟩
  replace R1 := Lib.hid (R1.out.below hb R1.out.lt)
  replace S13 := Lib.hid (S13.out.below hb)
  replace X13 := Lib.hid (X13.out.below hb)
  replace DW := Lib.hid (below_link DW.out hb DW.out.size)
  clear hb
  go_wp2_with fail
  refine (in_is (tri 1 0 4) _ _ _ m13 false _ X13.out (by have := X13.out.len; have := (five_min M13.out).len; simp at this; omega) (five_out M13.out)).mono ?_
  rintro e y36 ⟨rfl, hb⟩
  replace R1 := Lib.hid (R1.out.below hb R1.out.lt)
  replace S13 := Lib.hid (S13.out.below hb)
  replace X13 := Lib.hid (X13.out.below hb)
  replace DW := Lib.hid (below_link DW.out hb DW.out.size)
  clear hb
  go_wp2_with fail
  refine (mono_any (3) (0) (4) _).mono ?_
  rintro e y37 ⟨rfl, hb⟩
  replace R1 := Lib.hid (R1.out.below hb R1.out.lt)
  replace S13 := Lib.hid (S13.out.below hb)
  replace X13 := Lib.hid (X13.out.below hb)
  replace DW := Lib.hid (below_link DW.out hb DW.out.size)
  clear hb
  go_wp2_with fail
  refine (degree_any (tri 3 0 4) _ (va_tri (by omega) (by omega) (by omega))).mono ?_
  rintro e y38 ⟨rfl, hb⟩
  replace R1 := Lib.hid (R1.out.below hb R1.out.lt)
  replace S13 := Lib.hid (S13.out.below hb)
  replace X13 := Lib.hid (X13.out.below hb)
  replace DW := Lib.hid (below_link DW.out hb DW.out.size)
  clear hb
  rw [show sm (tri 3 0 4) 8 = 7 by decide]
  go_wp2_with fail
  refine (mono_any (3) (0) (4) _).mono ?_
  rintro e y39 ⟨rfl, hb⟩
  replace R1 := Lib.hid (R1.out.below hb R1.out.lt)
  replace S13 := Lib.hid (S13.out.below hb)
  replace X13 := Lib.hid (X13.out.below hb)
  replace DW := Lib.hid (below_link DW.out hb DW.out.size)
  clear hb
  go_wp2_with fail
  refine (support_any (tri 3 0 4) _).mono ?_
  rintro e y40 ⟨rfl, hb⟩
  replace R1 := Lib.hid (R1.out.below hb R1.out.lt)
  replace S13 := Lib.hid (S13.out.below hb)
  replace X13 := Lib.hid (X13.out.below hb)
  replace DW := Lib.hid (below_link DW.out hb DW.out.size)
  clear hb
  rw [show ((sp (tri 3 0 4) 8 : Nat) : Int) = 5 by decide]
  go_wp2_with fail
  refine (mono_any (65535) (0) (0) _).mono ?_
  rintro e y41 ⟨rfl, hb⟩
  replace R1 := Lib.hid (R1.out.below hb R1.out.lt)
  replace S13 := Lib.hid (S13.out.below hb)
  replace X13 := Lib.hid (X13.out.below hb)
  replace DW := Lib.hid (below_link DW.out hb DW.out.size)
  clear hb
  go_wp2_with fail
  refine (valid_true (tri 65535 0 0) _ (va_tri (by omega) (by omega) (by omega))).mono ?_
  rintro e y42 ⟨rfl, hb⟩
  replace R1 := Lib.hid (R1.out.below hb R1.out.lt)
  replace S13 := Lib.hid (S13.out.below hb)
  replace X13 := Lib.hid (X13.out.below hb)
  replace DW := Lib.hid (below_link DW.out hb DW.out.size)
  clear hb
  go_wp2_with fail
  refine (mono_any (0) (-1) (0) _).mono ?_
  rintro e y43 ⟨rfl, hb⟩
  replace R1 := Lib.hid (R1.out.below hb R1.out.lt)
  replace S13 := Lib.hid (S13.out.below hb)
  replace X13 := Lib.hid (X13.out.below hb)
  replace DW := Lib.hid (below_link DW.out hb DW.out.size)
  clear hb
  go_wp2_with fail
  refine (valid_false (tri 0 (-1) 0) 1 _ (by omega) (fun k hk => by (obtain rfl : k = 0 := (by omega)); decide) (by decide)).mono ?_
  rintro e y44 ⟨rfl, hb⟩
  replace R1 := Lib.hid (R1.out.below hb R1.out.lt)
  replace S13 := Lib.hid (S13.out.below hb)
  replace X13 := Lib.hid (X13.out.below hb)
  replace DW := Lib.hid (below_link DW.out hb DW.out.size)
  clear hb
  go_wp2_with fail
  refine (mono_any (1) (0) (0) _).mono ?_
  rintro e y45 ⟨rfl, hb⟩
  replace R1 := Lib.hid (R1.out.below hb R1.out.lt)
  replace S13 := Lib.hid (S13.out.below hb)
  replace X13 := Lib.hid (X13.out.below hb)
  replace DW := Lib.hid (below_link DW.out hb DW.out.size)
  clear hb
  go_wp2_with fail
  refine (mono_any (1) (1) (0) _).mono ?_
  rintro e y46 ⟨rfl, hb⟩
  replace R1 := Lib.hid (R1.out.below hb R1.out.lt)
  replace S13 := Lib.hid (S13.out.below hb)
  replace X13 := Lib.hid (X13.out.below hb)
  replace DW := Lib.hid (below_link DW.out hb DW.out.size)
  clear hb
  go_wp2_with fail
  refine (divides_true (tri 1 0 0) (tri 1 1 0) _ (tri_dv.2 (by omega))).mono ?_
  rintro e y47 ⟨rfl, hb⟩
  replace R1 := Lib.hid (R1.out.below hb R1.out.lt)
  replace S13 := Lib.hid (S13.out.below hb)
  replace X13 := Lib.hid (X13.out.below hb)
  replace DW := Lib.hid (below_link DW.out hb DW.out.size)
  clear hb
  go_wp2_with fail
  go_ret
  exact ⟨rfl, DW.out⟩
end Go.Proofs.Ytchkaaeipafdnaa
