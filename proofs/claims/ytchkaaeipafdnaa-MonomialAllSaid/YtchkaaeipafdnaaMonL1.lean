/-
  The law MonomialMinimal.
-/
import Derived.Test.YtchkaaeipafdnaaMonL0
namespace Go.Proofs.Ytchkaaeipafdnaa
open Go.RowKit
set_option linter.unusedVariables false
attribute [local go_sem ↓] Go.wp_at_zero Go.wp_at_succ
theorem min_empty {l s : List Mn} {n6 n8 : Nat} (h : MinOf l s) (h6 : l.length = n6) (h8 : s.length = n8) : ((((n8 : Nat) : Int) == 0) != (((n6 : Nat) : Int) == 0)) = false := by
  subst h6 h8
  cases l with
  | nil =>
    cases s with
    | nil => rfl
    | cons a s => have := h.mem a List.mem_cons_self; cases this
  | cons a l =>
    obtain ⟨d, hd, _⟩ := h.cover a List.mem_cons_self
    cases s with
    | nil => cases hd
    | cons b s =>
      have e1 : (((a :: l).length : Int) == 0) = false := by simp; omega
      have e2 : (((b :: s).length : Int) == 0) = false := by simp; omega
      rw [e1, e2]; rfl
theorem min_any {l s : List Mn} (h : MinOf l s) (y : Mn) : (anyDv y l != anyDv y s) = false := by
  have e : anyDv y l = anyDv y s := by
    rw [Bool.eq_iff_iff, anyDv_true, anyDv_true]
    constructor
    · rintro ⟨d, h1, h2⟩
      obtain ⟨e, h3, h4⟩ := h.cover d h1
      exact ⟨e, h3, h4.trans h2⟩
    · rintro ⟨d, h1, h2⟩
      exact ⟨d, h.mem d h1, h2⟩
  rw [e]; simp
theorem pair_at {R : Mn → Mn → Prop} {s : List Mn} (h : s.Pairwise R) {i j : Nat} (hij : i < j) (hj : j < s.length) : R (mg s i) (mg s j) := by
  have h1 := List.pairwise_iff_getElem.1 h i j (by omega) hj hij
  have e1 : mg s i = s[i]'(by omega) := by simp [mg, show i < s.length by omega]
  have e2 : mg s j = s[j] := by simp [mg, hj]
  rw [e1, e2]; exact h1
theorem strict_at {s : List Mn} (h : Strict s) {i : Nat} (hi : i + 1 < s.length) : Lt (mg s (i + 1)) (mg s i) := pair_at h (by omega) hi
theorem free_at {s : List Mn} (h : s.Pairwise fun a b => ¬ dv a b ∧ ¬ dv b a) {k i : Nat} (hk : k < s.length) (hi : i < s.length) (hne : ¬ k = i) : ¬ dv (mg s k) (mg s i) := by
  rcases Nat.lt_or_gt_of_ne hne with h1 | h1
  · exact (pair_at h h1 hi).1
  · exact (pair_at h h1 hk).2
/-- m is one of the first k elements. -/
def fnd (l : List Mn) (m : Mn) : Nat → Bool
  | 0 => false
  | k + 1 => fnd l m k || eqa (mg l k) m
theorem fnd_true {l : List Mn} {m : Mn} {k : Nat} (h : fnd l m k = true) : fnd l m (k + 1) = true := by rw [fnd, h]; rfl
theorem fnd_false {l : List Mn} {m : Mn} {k : Nat} (h : fnd l m k = false) : fnd l m (k + 1) = eqa (mg l k) m := by rw [fnd, h]; rfl
theorem fnd_at {l : List Mn} {m : Mn} : ∀ {k j : Nat}, j < k → eqa (mg l j) m = true → fnd l m k = true
  | 0, j, h, _ => by omega
  | k + 1, j, h, he => by
    rw [fnd]
    by_cases e : j = k
    · subst e; rw [he, Bool.or_true]
    · rw [fnd_at (show j < k by omega) he]; rfl
theorem fnd_mem {l : List Mn} {m : Mn} {n : Nat} (h : m ∈ l) (hn : l.length = n) : fnd l m n = true := by
  obtain ⟨j, hj⟩ := List.getElem?_of_mem h
  have hlt : j < l.length := by
    rcases Nat.lt_or_ge j l.length with h | h
    · exact h
    · rw [List.getElem?_eq_none h] at hj; cases hj
  refine fnd_at (j := j) (by omega) ?_
  rw [mg_eq hj]
  exact eqa_true.2 fun _ _ => rfl
theorem range_all {w : World} {b q : Nat} {f : Mn} (h : w.rangeAt b q (cls f).toList) : w.cell? ⟨b, q, none⟩ = some (.int .i64 (f 0)) ∧ w.cell? ⟨b, q + 1, none⟩ = some (.int .i64 (f 1)) ∧ w.cell? ⟨b, q + 2, none⟩ = some (.int .i64 (f 2)) ∧ w.cell? ⟨b, q + 3, none⟩ = some (.int .i64 (f 3)) ∧
    w.cell? ⟨b, q + 4, none⟩ = some (.int .i64 (f 4)) ∧ w.cell? ⟨b, q + 5, none⟩ = some (.int .i64 (f 5)) ∧ w.cell? ⟨b, q + 6, none⟩ = some (.int .i64 (f 6)) ∧ w.cell? ⟨b, q + 7, none⟩ = some (.int .i64 (f 7)) :=
  ⟨h 0 _ rfl, h 1 _ rfl, h 2 _ rfl, h 3 _ rfl, h 4 _ rfl, h 5 _ rfl, h 6 _ rfl, h 7 _ rfl⟩
theorem all_in {l out : List Mn} {n : Nat} (hn : l.length = n) (h : ∀ j, 0 ≤ j → j < n → mg l j ∈ out) {y : Mn} (hy : y ∈ l) : y ∈ out := by
  obtain ⟨j, hj⟩ := List.getElem?_of_mem hy
  have hlt : j < l.length := by
    rcases Nat.lt_or_ge j l.length with h | h
    · exact h
    · rw [List.getElem?_eq_none h] at hj; cases hj
  have := h j (by omega) (by omega)
  rwa [mg_eq hj] at this
theorem two_in {l : List Mn} {n t : Nat} {x : Mn} (hn : l.length = n) (ht : t < n) (h : x ∈ [mg l t, mg l 0]) : x ∈ l := by
  rcases List.mem_cons.1 h with rfl | h
  · exact mg_mem (by omega)
  · rcases List.mem_cons.1 h with rfl | h
    · exact mg_mem (by omega)
    · cases h
theorem any_of {l s : List Mn} (h : MinOf l s) {x : Mn} (hx : x ∈ l) : anyDv x s = true := by
  obtain ⟨d, h1, h2⟩ := h.cover x hx
  exact anyDv_true.2 ⟨d, h1, h2⟩
set_option maxHeartbeats 4000000 in
set_option maxRecDepth 100000 in
theorem lawMinimal_any (A : Option Addr) (n c : Nat) (X : List Mn) (y : Mn) (w : World) (hu : Us w A n X ∧ n ≤ 9223372036854775807) (hy : Va y) : Calls Try.prog 9 #[.slice A n c, .agg #[Value.int IntKind.u16 (y 0), Value.int IntKind.u16 (y 1), Value.int IntKind.u16 (y 2), Value.int IntKind.u16 (y 3), Value.int IntKind.u16 (y 4), Value.int IntKind.u16 (y 5), Value.int IntKind.u16 (y 6), Value.int IntKind.u16 (y 7)]] w fun e w' => e = .returned (.bool true) ∧ Below w.heap.size w w' := by
  have HU := Lib.hid hu.1; have HN := Lib.hid hu.2; have VY := Lib.hid hy
  clear hu hy
  go_enter Try.func9, Try.ntmps9
  go_wp2_with fail
  obtain ⟨W, hW⟩ : ∃ W, W = w.alloc (Obj.cells #[Value.int IntKind.u16 (y 0), Value.int IntKind.u16 (y 1), Value.int IntKind.u16 (y 2), Value.int IntKind.u16 (y 3), Value.int IntKind.u16 (y 4), Value.int IntKind.u16 (y 5), Value.int IntKind.u16 (y 6), Value.int IntKind.u16 (y 7)] 24) := ⟨_, rfl⟩
  rw [← hW]
  have U0 : Hid (RowU W w.heap.size y) := by (rw [hW]; exact RowU.new w y)
  have DW : Hid (Below w.heap.size w W) := by rw [hW]; exact (Below.refl _ _).alloc (Nat.le_refl _) _
  have K0 : Hid (Us W A n X) := by (rw [hW]; exact HU.out.keep ((Below.refl _ _).alloc (Nat.le_refl _) _))
  clear hW HU
  refine (sanity_any _).mono ?_
  rintro e y1 ⟨rfl, hb⟩
  replace U0 := Lib.hid (U0.out.below hb U0.out.lt)
  replace K0 := Lib.hid (K0.out.keep hb)
  replace DW := Lib.hid (below_link DW.out hb DW.out.size)
  clear hb
  go_wp2_with fail
  refine (list_any A n c X _ K0.out HN.out).mono ?_
  rintro e y2 ⟨v6, l, rfl, s6, hl6, hb⟩
  replace U0 := Lib.hid (U0.out.below hb U0.out.lt)
  replace K0 := Lib.hid (K0.out.keep hb)
  replace DW := Lib.hid (below_link DW.out hb DW.out.size)
  clear hb
  clear K0
  obtain ⟨A6, n6, c6, rfl, p1, p2, p3, p4⟩ := s6
  have X6 := Lib.hid p4; have L6 := Lib.hid p4.len; have bn6 : n6 ≤ 12 := by have := p4.len; rw [hl6, List.length_take] at this; omega
  have S6 := Lib.hid (show Sl _ (.slice A6 n6 c6) l from ⟨A6, n6, c6, rfl, p1, p2, p3, p4⟩)
  have P1 := Lib.hid p1; have P2 := Lib.hid p2
  clear p1 p2 p3 p4 hl6 HN
  go_wp2_with (first | (refine ldr _ _ U0.out rfl rfl rfl ?_) | fail)
  refine (made_any y _ VY.out).mono ?_
  rintro e y3 ⟨rfl, hb⟩
  replace U0 := Lib.hid (U0.out.below hb U0.out.lt)
  replace X6 := Lib.hid (X6.out.below hb)
  replace S6 := Lib.hid (S6.out.below hb)
  replace DW := Lib.hid (below_link DW.out hb DW.out.size)
  clear hb
  clear U0
  go_upto_region 6 with fail
  obtain ⟨w4, hW⟩ : ∃ w4, w4 = y3.alloc (Obj.cells #[Value.int IntKind.i64 ((y) 0), Value.int IntKind.i64 ((y) 1), Value.int IntKind.i64 ((y) 2), Value.int IntKind.i64 ((y) 3), Value.int IntKind.i64 ((y) 4), Value.int IntKind.i64 ((y) 5), Value.int IntKind.i64 ((y) 6), Value.int IntKind.i64 ((y) 7)] 27) := ⟨_, rfl⟩
  rw [← hW]
  have M : Hid (Row w4 y3.heap.size (y)) := by rw [hW]; exact Row.new y3 (y)
  have hb : Below y3.heap.size y3 w4 := by rw [hW]; exact (Below.refl _ _).alloc (Nat.le_refl _) _
  replace X6 := Lib.hid (X6.out.below hb)
  replace S6 := Lib.hid (S6.out.below hb)
  replace DW := Lib.hid (below_link DW.out hb DW.out.size)
  clear hW hb
  go_wp2_with fail
  refine (minimal_any _ l _ S6.out (by have := L6.out; omega)).mono ?_
  rintro e y5 ⟨v8, s, rfl, s8, ⟨hm, hml⟩, hb⟩
  replace X6 := Lib.hid (X6.out.below hb)
  replace S6 := Lib.hid (S6.out.below hb)
  replace M := Lib.hid (M.out.below hb M.out.lt)
  replace DW := Lib.hid (below_link DW.out hb DW.out.size)
  clear hb
  obtain ⟨A8, n8, c8, rfl, p1, p2, p3, p4⟩ := s8
  have X8 := Lib.hid p4; have L8 := Lib.hid p4.len; have bn8 : n8 ≤ n6 := by have := p4.len; have := L6.out; omega
  have S8 := Lib.hid (show Sl _ (.slice A8 n8 c8) s from ⟨A8, n8, c8, rfl, p1, p2, p3, p4⟩)
  have MO := Lib.hid hm
  have P3 := Lib.hid p1; have P4 := Lib.hid p2
  clear p1 p2 p3 p4 hm hml
  have E1 := Lib.hid (show decide (((n6 : Nat) : Int) < ((n8 : Nat) : Int)) = false by simp; omega); have E2 := Lib.hid (min_empty MO.out L6.out L8.out); have E3 := Lib.hid (min_any MO.out y)
  go_wp2_with fail
  refine region_run (fun w' => Below y5.heap.size y5 w') [.is (.slice A8 n8 c8), .is (Value.int IntKind.i64 ((n8 : Nat))), .is (.slice A6 n6 c6), .is (Value.int IntKind.i64 ((n6 : Nat))), .is (Value.bool false), .is (Value.bool false), .is (.slice A8 n8 c8), .is (Value.int IntKind.i64 ((n8 : Nat))), .is (Value.bool ((((n8 : Nat) : Int) == 0))), .is (.slice A6 n6 c6), .is (Value.int IntKind.i64 ((n6 : Nat))), .is (Value.bool ((((n6 : Nat) : Int) == 0))), .is (Value.bool false), .is (Value.bool false), .is (Value.bool false), .is (.agg (cls y)), .is (.slice A6 n6 c6), .is (Value.bool (anyDv y l)), .is (.agg (cls y)), .is (.slice A8 n8 c8), .is (Value.bool (anyDv y s)), .is (Value.bool false), .is (Value.bool false)] [24, 25, 26, 27, 28, 29, 30, 31, 32, 33, 34, 35, 36, 37, 38, 39, 40, 41, 42, 43, 44, 45, 46] (by kernel_rfl) (by kernel_rfl) (by kernel_rfl) (by rfl) (by kernel_rfl) ((Below.refl _ _).drew) (fun Q' => ?_) (fun K hK wn hs => ?_)
  · refine ⟨?_, ?_, ?_, ?_, ?_, ?_, ?_, ?_, ?_, ?_, ?_, ?_, ?_, ?_, ?_, ?_, ?_, ?_, ?_, ?_, ?_, ?_, ?_, trivial⟩
    · intro a' w' ha hs hw
      have eo8 : a'.tmps[8]? = some (.slice A8 n8 c8) := (ha.rest 8 (by kernel_rfl)).trans rfl
      exact .inl ⟨wanted_none rfl, wp_val (run_move rfl (ev_tmp eo8)) ⟨_, rfl, rfl, Below.refl _ _, hs⟩⟩
    · intro a' w' ha hs hw
      obtain ⟨v0, e0, q0⟩ := hw 0 (by kernel_rfl) _ _ _ rfl rfl rfl
      obtain rfl : v0 = .slice A8 n8 c8 := q0
      exact .inl ⟨wanted_none rfl, wp_val (run_len rfl (ev_tmp e0)) ⟨_, rfl, rfl, Below.refl _ _, hs⟩⟩
    · intro a' w' ha hs hw
      have eo6 : a'.tmps[6]? = some (.slice A6 n6 c6) := (ha.rest 6 (by kernel_rfl)).trans rfl
      exact .inl ⟨wanted_none rfl, wp_val (run_move rfl (ev_tmp eo6)) ⟨_, rfl, rfl, Below.refl _ _, hs⟩⟩
    · intro a' w' ha hs hw
      obtain ⟨v2, e2, q2⟩ := hw 2 (by kernel_rfl) _ _ _ rfl rfl rfl
      obtain rfl : v2 = .slice A6 n6 c6 := q2
      exact .inl ⟨wanted_none rfl, wp_val (run_len rfl (ev_tmp e2)) ⟨_, rfl, rfl, Below.refl _ _, hs⟩⟩
    · intro a' w' ha hs hw
      obtain ⟨v1, e1, q1⟩ := hw 1 (by kernel_rfl) _ _ _ rfl rfl rfl
      obtain rfl : v1 = Value.int IntKind.i64 ((n8 : Nat)) := q1
      obtain ⟨v3, e3, q3⟩ := hw 3 (by kernel_rfl) _ _ _ rfl rfl rfl
      obtain rfl : v3 = Value.int IntKind.i64 ((n6 : Nat)) := q3
      exact .inl ⟨wanted_none rfl, wp_val (run_gtr_int rfl (ev_tmp e1) (ev_tmp e3)) ⟨_, rfl, congrArg Value.bool (E1.out), Below.refl _ _, hs⟩⟩
    · intro a' w' ha hs hw
      obtain ⟨v4, e4, q4⟩ := hw 4 (by kernel_rfl) _ _ _ rfl rfl rfl
      obtain rfl : v4 = Value.bool false := q4
      exact .inl ⟨wanted_none rfl, wp_val (run_move rfl (ev_tmp e4)) ⟨_, rfl, rfl, Below.refl _ _, hs⟩⟩
    · intro a' w' ha hs hw
      obtain ⟨v5, e5, q5⟩ := hw 5 (by kernel_rfl) _ _ _ rfl rfl rfl
      obtain rfl : v5 = Value.bool false := q5
      have eo8 : a'.tmps[8]? = some (.slice A8 n8 c8) := (ha.rest 8 (by kernel_rfl)).trans rfl
      exact .inl ⟨wanted_some rfl rfl rfl e5, wp_val (run_move rfl (ev_tmp eo8)) ⟨_, rfl, rfl, Below.refl _ _, hs⟩⟩
    · intro a' w' ha hs hw
      obtain ⟨v5, e5, q5⟩ := hw 5 (by kernel_rfl) _ _ _ rfl rfl rfl
      obtain rfl : v5 = Value.bool false := q5
      obtain ⟨v6, e6, q6⟩ := hw 6 (by kernel_rfl) _ _ _ rfl rfl rfl
      obtain rfl : v6 = .slice A8 n8 c8 := q6
      exact .inl ⟨wanted_some rfl rfl rfl e5, wp_val (run_len rfl (ev_tmp e6)) ⟨_, rfl, rfl, Below.refl _ _, hs⟩⟩
    · intro a' w' ha hs hw
      obtain ⟨v5, e5, q5⟩ := hw 5 (by kernel_rfl) _ _ _ rfl rfl rfl
      obtain rfl : v5 = Value.bool false := q5
      obtain ⟨v7, e7, q7⟩ := hw 7 (by kernel_rfl) _ _ _ rfl rfl rfl
      obtain rfl : v7 = Value.int IntKind.i64 ((n8 : Nat)) := q7
      exact .inl ⟨wanted_some rfl rfl rfl e5, wp_val (run_eql_int rfl (ev_tmp e7) rfl) ⟨_, rfl, congrArg Value.bool (rfl), Below.refl _ _, hs⟩⟩
    · intro a' w' ha hs hw
      obtain ⟨v5, e5, q5⟩ := hw 5 (by kernel_rfl) _ _ _ rfl rfl rfl
      obtain rfl : v5 = Value.bool false := q5
      have eo6 : a'.tmps[6]? = some (.slice A6 n6 c6) := (ha.rest 6 (by kernel_rfl)).trans rfl
      exact .inl ⟨wanted_some rfl rfl rfl e5, wp_val (run_move rfl (ev_tmp eo6)) ⟨_, rfl, rfl, Below.refl _ _, hs⟩⟩
    · intro a' w' ha hs hw
      obtain ⟨v5, e5, q5⟩ := hw 5 (by kernel_rfl) _ _ _ rfl rfl rfl
      obtain rfl : v5 = Value.bool false := q5
      obtain ⟨v9, e9, q9⟩ := hw 9 (by kernel_rfl) _ _ _ rfl rfl rfl
      obtain rfl : v9 = .slice A6 n6 c6 := q9
      exact .inl ⟨wanted_some rfl rfl rfl e5, wp_val (run_len rfl (ev_tmp e9)) ⟨_, rfl, rfl, Below.refl _ _, hs⟩⟩
    · intro a' w' ha hs hw
      obtain ⟨v5, e5, q5⟩ := hw 5 (by kernel_rfl) _ _ _ rfl rfl rfl
      obtain rfl : v5 = Value.bool false := q5
      obtain ⟨v10, e10, q10⟩ := hw 10 (by kernel_rfl) _ _ _ rfl rfl rfl
      obtain rfl : v10 = Value.int IntKind.i64 ((n6 : Nat)) := q10
      exact .inl ⟨wanted_some rfl rfl rfl e5, wp_val (run_eql_int rfl (ev_tmp e10) rfl) ⟨_, rfl, congrArg Value.bool (rfl), Below.refl _ _, hs⟩⟩
    · intro a' w' ha hs hw
      obtain ⟨v5, e5, q5⟩ := hw 5 (by kernel_rfl) _ _ _ rfl rfl rfl
      obtain rfl : v5 = Value.bool false := q5
      obtain ⟨v8, e8, q8⟩ := hw 8 (by kernel_rfl) _ _ _ rfl rfl rfl
      obtain rfl : v8 = Value.bool ((((n8 : Nat) : Int) == 0)) := q8
      obtain ⟨v11, e11, q11⟩ := hw 11 (by kernel_rfl) _ _ _ rfl rfl rfl
      obtain rfl : v11 = Value.bool ((((n6 : Nat) : Int) == 0)) := q11
      exact .inl ⟨wanted_some rfl rfl rfl e5, wp_val (run_neq_bool rfl (ev_tmp e8) (ev_tmp e11)) ⟨_, rfl, congrArg Value.bool (E2.out), Below.refl _ _, hs⟩⟩
    · intro a' w' ha hs hw
      obtain ⟨v5, e5, q5⟩ := hw 5 (by kernel_rfl) _ _ _ rfl rfl rfl
      obtain rfl : v5 = Value.bool false := q5
      obtain ⟨v12, e12, q12⟩ := hw 12 (by kernel_rfl) _ _ _ rfl rfl rfl
      obtain rfl : v12 = Value.bool false := q12
      exact .inl ⟨wanted_none rfl, wp_val (run_pick (b := false) rfl (ev_tmp e5) (ev_tmp e12)) ⟨_, rfl, rfl, Below.refl _ _, hs⟩⟩
    · intro a' w' ha hs hw
      obtain ⟨v13, e13, q13⟩ := hw 13 (by kernel_rfl) _ _ _ rfl rfl rfl
      obtain rfl : v13 = Value.bool false := q13
      exact .inl ⟨wanted_none rfl, wp_val (run_move rfl (ev_tmp e13)) ⟨_, rfl, rfl, Below.refl _ _, hs⟩⟩
    · intro a' w' ha hs hw
      obtain ⟨v14, e14, q14⟩ := hw 14 (by kernel_rfl) _ _ _ rfl rfl rfl
      obtain rfl : v14 = Value.bool false := q14
      have eo7 : a'.tmps[7]? = some (.pointer (some ⟨y3.heap.size, 0, none⟩)) := (ha.rest 7 (by kernel_rfl)).trans rfl
      exact .inl ⟨wanted_some rfl rfl rfl e14, wp_val (run_load rfl (ev_tmp eo7) (M.out.below hs M.out.lt)) ⟨_, rfl, rfl, Below.refl _ _, hs⟩⟩
    · intro a' w' ha hs hw
      obtain ⟨v14, e14, q14⟩ := hw 14 (by kernel_rfl) _ _ _ rfl rfl rfl
      obtain rfl : v14 = Value.bool false := q14
      have eo6 : a'.tmps[6]? = some (.slice A6 n6 c6) := (ha.rest 6 (by kernel_rfl)).trans rfl
      exact .inl ⟨wanted_some rfl rfl rfl e14, wp_val (run_move rfl (ev_tmp eo6)) ⟨_, rfl, rfl, Below.refl _ _, hs⟩⟩
    · intro a' w' ha hs hw
      obtain ⟨v14, e14, q14⟩ := hw 14 (by kernel_rfl) _ _ _ rfl rfl rfl
      obtain rfl : v14 = Value.bool false := q14
      obtain ⟨v15, e15, q15⟩ := hw 15 (by kernel_rfl) _ _ _ rfl rfl rfl
      obtain rfl : v15 = .agg (cls y) := q15
      obtain ⟨v16, e16, q16⟩ := hw 16 (by kernel_rfl) _ _ _ rfl rfl rfl
      obtain rfl : v16 = .slice A6 n6 c6 := q16
      exact .inl ⟨wanted_some rfl rfl rfl e14, call_step rfl Try.func34 (by kernel_rfl) rfl (map_two (ev_tmp e15) (ev_tmp e16)) (in_is y A6 n6 c6 l (anyDv y l) _ (X6.out.below hs) (by omega) rfl) (fun e w2 he => by obtain ⟨rfl, hb⟩ := he; exact ⟨_, rfl, _, rfl, rfl, hb, hs.trans (hb.mono hs.size)⟩)⟩
    · intro a' w' ha hs hw
      obtain ⟨v14, e14, q14⟩ := hw 14 (by kernel_rfl) _ _ _ rfl rfl rfl
      obtain rfl : v14 = Value.bool false := q14
      have eo7 : a'.tmps[7]? = some (.pointer (some ⟨y3.heap.size, 0, none⟩)) := (ha.rest 7 (by kernel_rfl)).trans rfl
      exact .inl ⟨wanted_some rfl rfl rfl e14, wp_val (run_load rfl (ev_tmp eo7) (M.out.below hs M.out.lt)) ⟨_, rfl, rfl, Below.refl _ _, hs⟩⟩
    · intro a' w' ha hs hw
      obtain ⟨v14, e14, q14⟩ := hw 14 (by kernel_rfl) _ _ _ rfl rfl rfl
      obtain rfl : v14 = Value.bool false := q14
      have eo8 : a'.tmps[8]? = some (.slice A8 n8 c8) := (ha.rest 8 (by kernel_rfl)).trans rfl
      exact .inl ⟨wanted_some rfl rfl rfl e14, wp_val (run_move rfl (ev_tmp eo8)) ⟨_, rfl, rfl, Below.refl _ _, hs⟩⟩
    · intro a' w' ha hs hw
      obtain ⟨v14, e14, q14⟩ := hw 14 (by kernel_rfl) _ _ _ rfl rfl rfl
      obtain rfl : v14 = Value.bool false := q14
      obtain ⟨v18, e18, q18⟩ := hw 18 (by kernel_rfl) _ _ _ rfl rfl rfl
      obtain rfl : v18 = .agg (cls y) := q18
      obtain ⟨v19, e19, q19⟩ := hw 19 (by kernel_rfl) _ _ _ rfl rfl rfl
      obtain rfl : v19 = .slice A8 n8 c8 := q19
      exact .inl ⟨wanted_some rfl rfl rfl e14, call_step rfl Try.func34 (by kernel_rfl) rfl (map_two (ev_tmp e18) (ev_tmp e19)) (in_is y A8 n8 c8 s (anyDv y s) _ (X8.out.below hs) (by omega) rfl) (fun e w2 he => by obtain ⟨rfl, hb⟩ := he; exact ⟨_, rfl, _, rfl, rfl, hb, hs.trans (hb.mono hs.size)⟩)⟩
    · intro a' w' ha hs hw
      obtain ⟨v14, e14, q14⟩ := hw 14 (by kernel_rfl) _ _ _ rfl rfl rfl
      obtain rfl : v14 = Value.bool false := q14
      obtain ⟨v17, e17, q17⟩ := hw 17 (by kernel_rfl) _ _ _ rfl rfl rfl
      obtain rfl : v17 = Value.bool (anyDv y l) := q17
      obtain ⟨v20, e20, q20⟩ := hw 20 (by kernel_rfl) _ _ _ rfl rfl rfl
      obtain rfl : v20 = Value.bool (anyDv y s) := q20
      exact .inl ⟨wanted_some rfl rfl rfl e14, wp_val (run_neq_bool rfl (ev_tmp e17) (ev_tmp e20)) ⟨_, rfl, congrArg Value.bool (E3.out), Below.refl _ _, hs⟩⟩
    · intro a' w' ha hs hw
      obtain ⟨v14, e14, q14⟩ := hw 14 (by kernel_rfl) _ _ _ rfl rfl rfl
      obtain rfl : v14 = Value.bool false := q14
      obtain ⟨v21, e21, q21⟩ := hw 21 (by kernel_rfl) _ _ _ rfl rfl rfl
      obtain rfl : v21 = Value.bool false := q21
      exact .inl ⟨wanted_none rfl, wp_val (run_pick (b := false) rfl (ev_tmp e14) (ev_tmp e21)) ⟨_, rfl, rfl, Below.refl _ _, hs⟩⟩
  simp only [allK]
  simp only [setAll, List.set_cons_succ, List.set_cons_zero]
  refine hK _ _ ?_
  clear hK K
  replace X6 := Lib.hid (X6.out.below hs)
  replace S6 := Lib.hid (S6.out.below hs)
  replace M := Lib.hid (M.out.below hs M.out.lt)
  replace X8 := Lib.hid (X8.out.below hs)
  replace S8 := Lib.hid (S8.out.below hs)
  replace DW := Lib.hid (below_link DW.out hs DW.out.size)
  clear hs
  generalize wn = z6 at *
  clear E1 E2 E3
  go_wp2_with fail
  go_loopw [9, 10, 11, 12] (fun s9 _ _ _ wr => ∃ i : Nat, i ≤ n8 ∧ s9 = .int .i64 i ∧ Below z6.heap.size z6 wr) (fun s9 _ _ _ _ => n8 - (intOf s9).toNat)
  case atStart => exact ⟨0, by omega, rfl, Below.refl _ _⟩
  case round =>
    obtain ⟨i, hi, rfl, hb⟩ := hrel
    obtain ⟨wo, rfl⟩ : ∃ wo : World, wo = wr := ⟨_, rfl⟩
    replace X6 := Lib.hid (X6.out.below hb)
    replace S6 := Lib.hid (S6.out.below hb)
    replace M := Lib.hid (M.out.below hb M.out.lt)
    replace X8 := Lib.hid (X8.out.below hb)
    replace S8 := Lib.hid (S8.out.below hb)
    replace DW := Lib.hid (below_link DW.out hb DW.out.size)
    have LB := Lib.hid hb
    clear hb
    by_cases hlt : i < n8
    · by_cases hi0 : ¬ 0 < i
      · skip
        have E1 := Lib.hid (show decide ((0 : Int) < ((i : Nat) : Int)) = false by simp; omega)
        clear hi0
        go_wp2_with fail
        refine region_run (fun w' => Below wo.heap.size wo w') [.is (Value.int IntKind.i64 ((i : Nat))), .is (Value.bool false), .is (Value.bool false), .is undef, .is undef, .is undef, .is undef, .is undef, .is undef, .is undef, .is undef, .is undef, .is undef, .is undef, .is (Value.bool false)] [53, 54, 55, 56, 57, 58, 59, 60, 61, 62, 63, 64, 65, 66, 67] (by kernel_rfl) (by kernel_rfl) (by kernel_rfl) (by rfl) (by kernel_rfl) ((Below.refl _ _).drew) (fun Q' => ?_) (fun K hK wn hs => ?_)
        · refine ⟨?_, ?_, ?_, ?_, ?_, ?_, ?_, ?_, ?_, ?_, ?_, ?_, ?_, ?_, ?_, trivial⟩
          · intro a' w' ha hs hw
            have eo9 : a'.tmps[9]? = some (Value.int IntKind.i64 ((i : Nat))) := (ha.rest 9 (by kernel_rfl)).trans rfl
            exact .inl ⟨wanted_none rfl, wp_val (run_move rfl (ev_tmp eo9)) ⟨_, rfl, rfl, Below.refl _ _, hs⟩⟩
          · intro a' w' ha hs hw
            obtain ⟨v0, e0, q0⟩ := hw 0 (by kernel_rfl) _ _ _ rfl rfl rfl
            obtain rfl : v0 = Value.int IntKind.i64 ((i : Nat)) := q0
            exact .inl ⟨wanted_none rfl, wp_val (run_gtr_int rfl (ev_tmp e0) rfl) ⟨_, rfl, congrArg Value.bool (E1.out), Below.refl _ _, hs⟩⟩
          · intro a' w' ha hs hw
            obtain ⟨v1, e1, q1⟩ := hw 1 (by kernel_rfl) _ _ _ rfl rfl rfl
            obtain rfl : v1 = Value.bool false := q1
            exact .inl ⟨wanted_none rfl, wp_val (run_move rfl (ev_tmp e1)) ⟨_, rfl, rfl, Below.refl _ _, hs⟩⟩
          · intro a' w' ha hs hw
            obtain ⟨v2, e2, q2⟩ := hw 2 (by kernel_rfl) _ _ _ rfl rfl rfl
            obtain rfl : v2 = Value.bool false := q2
            exact .inr ⟨wanted_off rfl rfl rfl e2 (by decide), rfl⟩
          · intro a' w' ha hs hw
            obtain ⟨v2, e2, q2⟩ := hw 2 (by kernel_rfl) _ _ _ rfl rfl rfl
            obtain rfl : v2 = Value.bool false := q2
            exact .inr ⟨wanted_off rfl rfl rfl e2 (by decide), rfl⟩
          · intro a' w' ha hs hw
            obtain ⟨v2, e2, q2⟩ := hw 2 (by kernel_rfl) _ _ _ rfl rfl rfl
            obtain rfl : v2 = Value.bool false := q2
            exact .inr ⟨wanted_off rfl rfl rfl e2 (by decide), rfl⟩
          · intro a' w' ha hs hw
            obtain ⟨v2, e2, q2⟩ := hw 2 (by kernel_rfl) _ _ _ rfl rfl rfl
            obtain rfl : v2 = Value.bool false := q2
            exact .inr ⟨wanted_off rfl rfl rfl e2 (by decide), rfl⟩
          · intro a' w' ha hs hw
            obtain ⟨v2, e2, q2⟩ := hw 2 (by kernel_rfl) _ _ _ rfl rfl rfl
            obtain rfl : v2 = Value.bool false := q2
            exact .inr ⟨wanted_off rfl rfl rfl e2 (by decide), rfl⟩
          · intro a' w' ha hs hw
            obtain ⟨v2, e2, q2⟩ := hw 2 (by kernel_rfl) _ _ _ rfl rfl rfl
            obtain rfl : v2 = Value.bool false := q2
            exact .inr ⟨wanted_off rfl rfl rfl e2 (by decide), rfl⟩
          · intro a' w' ha hs hw
            obtain ⟨v2, e2, q2⟩ := hw 2 (by kernel_rfl) _ _ _ rfl rfl rfl
            obtain rfl : v2 = Value.bool false := q2
            exact .inr ⟨wanted_off rfl rfl rfl e2 (by decide), rfl⟩
          · intro a' w' ha hs hw
            obtain ⟨v2, e2, q2⟩ := hw 2 (by kernel_rfl) _ _ _ rfl rfl rfl
            obtain rfl : v2 = Value.bool false := q2
            exact .inr ⟨wanted_off rfl rfl rfl e2 (by decide), rfl⟩
          · intro a' w' ha hs hw
            obtain ⟨v2, e2, q2⟩ := hw 2 (by kernel_rfl) _ _ _ rfl rfl rfl
            obtain rfl : v2 = Value.bool false := q2
            exact .inr ⟨wanted_off rfl rfl rfl e2 (by decide), rfl⟩
          · intro a' w' ha hs hw
            obtain ⟨v2, e2, q2⟩ := hw 2 (by kernel_rfl) _ _ _ rfl rfl rfl
            obtain rfl : v2 = Value.bool false := q2
            exact .inr ⟨wanted_off rfl rfl rfl e2 (by decide), rfl⟩
          · intro a' w' ha hs hw
            obtain ⟨v2, e2, q2⟩ := hw 2 (by kernel_rfl) _ _ _ rfl rfl rfl
            obtain rfl : v2 = Value.bool false := q2
            exact .inr ⟨wanted_off rfl rfl rfl e2 (by decide), rfl⟩
          · intro a' w' ha hs hw
            obtain ⟨v2, e2, q2⟩ := hw 2 (by kernel_rfl) _ _ _ rfl rfl rfl
            obtain rfl : v2 = Value.bool false := q2
            exact .inl ⟨wanted_none rfl, wp_val (run_pick (b := false) rfl (ev_tmp e2) rfl) ⟨_, rfl, rfl, Below.refl _ _, hs⟩⟩
        simp only [allK]
        simp only [setAll, List.set_cons_succ, List.set_cons_zero]
        refine hK _ _ ?_
        clear hK K
        replace X6 := Lib.hid (X6.out.below hs)
        replace S6 := Lib.hid (S6.out.below hs)
        replace M := Lib.hid (M.out.below hs M.out.lt)
        replace X8 := Lib.hid (X8.out.below hs)
        replace S8 := Lib.hid (S8.out.below hs)
        replace LB := Lib.hid (below_link LB.out hs LB.out.size)
        replace DW := Lib.hid (below_link DW.out hs DW.out.size)
        clear hs
        generalize wn = z7 at *
        have FM := Lib.hid (show mg s i ∈ l from MO.out.mem _ (mg_mem (by rw [L8.out]; omega)))
        go_wp2_with fail
        go_loopw [10, 11] (fun s10 s11 wr => ∃ j : Nat, j ≤ n6 ∧ s11 = .int .i64 j ∧ s10 = .bool (fnd l (mg s i) j) ∧ Below z7.heap.size z7 wr) (fun _ s11 _ => n6 - (intOf s11).toNat)
        case atStart => exact ⟨0, by omega, rfl, rfl, Below.refl _ _⟩
        case round =>
          obtain ⟨j, hj, rfl, rfl, hb⟩ := hrel
          obtain ⟨wp, rfl⟩ : ∃ wp : World, wp = wr := ⟨_, rfl⟩
          replace X6 := Lib.hid (X6.out.below hb)
          replace S6 := Lib.hid (S6.out.below hb)
          replace M := Lib.hid (M.out.below hb M.out.lt)
          replace X8 := Lib.hid (X8.out.below hb)
          replace S8 := Lib.hid (S8.out.below hb)
          replace LB := Lib.hid (below_link LB.out hb LB.out.size)
          replace DW := Lib.hid (below_link DW.out hb DW.out.size)
          have LC := Lib.hid hb
          clear hb
          by_cases hjt : j < n6
          · cases hfd : fnd l (mg s i) j with
            | true =>
              have HS := Lib.hid (fnd_true hfd)
              clear hfd
              go_wp2_with fail
              go_quiet (fail)
              go_wp2_with fail
              go_roundw
              case rel => exact ⟨j + 1, by omega, by go_num, by rw [HS.out], bdrew LC.out⟩
              case measure => simp [intOf]; omega
            | false =>
              have HS := Lib.hid (fnd_false hfd)
              clear hfd
              obtain ⟨b6, o6, e6, _, hr6⟩ := X6.out.at_ hjt
              subst e6
              obtain ⟨d0, d1, d2, d3, d4, d5, d6, d7⟩ := range_all hr6
              obtain ⟨b8, o8, e8, _, hr8⟩ := X8.out.at_ (k := i) hlt
              subst e8
              obtain ⟨f0, f1, f2, f3, f4, f5, f6, f7⟩ := range_all hr8
              clear hr6 hr8
              have he := run_equalIn_arr (mg l j) (mg s i)
              have hj1 : ((j : Nat) : Int) < ((n6 : Nat) : Int) := by omega
              have hj2 : ((i : Nat) : Int) < ((n8 : Nat) : Int) := by omega
              go_wp2_with fail
              go_quiet (fail)
              clear hj1 hj2 he d0 d1 d2 d3 d4 d5 d6 d7 f0 f1 f2 f3 f4 f5 f6 f7
              go_wp2_with fail
              go_roundw
              case rel => exact ⟨j + 1, by omega, by go_num, by rw [HS.out], bdrew LC.out⟩
              case measure => simp [intOf]; omega
          · obtain rfl : j = n6 := by omega
            have hft : fnd l (mg s i) j = true := fnd_mem FM.out L6.out
            rw [hft]
            clear hft
            go_wp2_with fail
            go_loopw [12] (fun s12 wr => ∃ q : Nat, q ≤ n8 ∧ s12 = .int .i64 q ∧ Below wp.heap.size wp wr) (fun s12 _ => n8 - (intOf s12).toNat)
            case atStart => exact ⟨0, by omega, rfl, Below.refl _ _⟩
            case round =>
              obtain ⟨q, hq, rfl, hb⟩ := hrel
              obtain ⟨wq, rfl⟩ : ∃ wq : World, wq = wr := ⟨_, rfl⟩
              replace X6 := Lib.hid (X6.out.below hb)
              replace S6 := Lib.hid (S6.out.below hb)
              replace M := Lib.hid (M.out.below hb M.out.lt)
              replace X8 := Lib.hid (X8.out.below hb)
              replace S8 := Lib.hid (S8.out.below hb)
              replace LB := Lib.hid (below_link LB.out hb LB.out.size)
              replace LC := Lib.hid (below_link LC.out hb LC.out.size)
              replace DW := Lib.hid (below_link DW.out hb DW.out.size)
              have LD := Lib.hid hb
              clear hb
              by_cases hqt : q < n8
              · by_cases hqi : q = i
                · have E1 := Lib.hid (show (((q : Nat) : Int) != ((i : Nat) : Int)) = false by simp; omega)
                  clear hqi
                  go_wp2_with fail
                  refine region_run (fun w' => Below wq.heap.size wq w') [.is (Value.int IntKind.i64 ((q : Nat))), .is (Value.int IntKind.i64 ((i : Nat))), .is (Value.bool false), .is (Value.bool false), .is undef, .is undef, .is undef, .is undef, .is undef, .is undef, .is undef, .is undef, .is undef, .is (Value.bool false)] [92, 93, 94, 95, 96, 97, 98, 99, 100, 101, 102, 103, 104, 105] (by kernel_rfl) (by kernel_rfl) (by kernel_rfl) (by rfl) (by kernel_rfl) ((Below.refl _ _).drew) (fun Q' => ?_) (fun K hK wn hs => ?_)
                  · refine ⟨?_, ?_, ?_, ?_, ?_, ?_, ?_, ?_, ?_, ?_, ?_, ?_, ?_, ?_, trivial⟩
                    · intro a' w' ha hs hw
                      have eo12 : a'.tmps[12]? = some (Value.int IntKind.i64 ((q : Nat))) := (ha.rest 12 (by kernel_rfl)).trans rfl
                      exact .inl ⟨wanted_none rfl, wp_val (run_move rfl (ev_tmp eo12)) ⟨_, rfl, rfl, Below.refl _ _, hs⟩⟩
                    · intro a' w' ha hs hw
                      have eo9 : a'.tmps[9]? = some (Value.int IntKind.i64 ((i : Nat))) := (ha.rest 9 (by kernel_rfl)).trans rfl
                      exact .inl ⟨wanted_none rfl, wp_val (run_move rfl (ev_tmp eo9)) ⟨_, rfl, rfl, Below.refl _ _, hs⟩⟩
                    · intro a' w' ha hs hw
                      obtain ⟨v0, e0, q0⟩ := hw 0 (by kernel_rfl) _ _ _ rfl rfl rfl
                      obtain rfl : v0 = Value.int IntKind.i64 ((q : Nat)) := q0
                      obtain ⟨v1, e1, q1⟩ := hw 1 (by kernel_rfl) _ _ _ rfl rfl rfl
                      obtain rfl : v1 = Value.int IntKind.i64 ((i : Nat)) := q1
                      exact .inl ⟨wanted_none rfl, wp_val (run_neq_int rfl (ev_tmp e0) (ev_tmp e1)) ⟨_, rfl, congrArg Value.bool (E1.out), Below.refl _ _, hs⟩⟩
                    · intro a' w' ha hs hw
                      obtain ⟨v2, e2, q2⟩ := hw 2 (by kernel_rfl) _ _ _ rfl rfl rfl
                      obtain rfl : v2 = Value.bool false := q2
                      exact .inl ⟨wanted_none rfl, wp_val (run_move rfl (ev_tmp e2)) ⟨_, rfl, rfl, Below.refl _ _, hs⟩⟩
                    · intro a' w' ha hs hw
                      obtain ⟨v3, e3, q3⟩ := hw 3 (by kernel_rfl) _ _ _ rfl rfl rfl
                      obtain rfl : v3 = Value.bool false := q3
                      exact .inr ⟨wanted_off rfl rfl rfl e3 (by decide), rfl⟩
                    · intro a' w' ha hs hw
                      obtain ⟨v3, e3, q3⟩ := hw 3 (by kernel_rfl) _ _ _ rfl rfl rfl
                      obtain rfl : v3 = Value.bool false := q3
                      exact .inr ⟨wanted_off rfl rfl rfl e3 (by decide), rfl⟩
                    · intro a' w' ha hs hw
                      obtain ⟨v3, e3, q3⟩ := hw 3 (by kernel_rfl) _ _ _ rfl rfl rfl
                      obtain rfl : v3 = Value.bool false := q3
                      exact .inr ⟨wanted_off rfl rfl rfl e3 (by decide), rfl⟩
                    · intro a' w' ha hs hw
                      obtain ⟨v3, e3, q3⟩ := hw 3 (by kernel_rfl) _ _ _ rfl rfl rfl
                      obtain rfl : v3 = Value.bool false := q3
                      exact .inr ⟨wanted_off rfl rfl rfl e3 (by decide), rfl⟩
                    · intro a' w' ha hs hw
                      obtain ⟨v3, e3, q3⟩ := hw 3 (by kernel_rfl) _ _ _ rfl rfl rfl
                      obtain rfl : v3 = Value.bool false := q3
                      exact .inr ⟨wanted_off rfl rfl rfl e3 (by decide), rfl⟩
                    · intro a' w' ha hs hw
                      obtain ⟨v3, e3, q3⟩ := hw 3 (by kernel_rfl) _ _ _ rfl rfl rfl
                      obtain rfl : v3 = Value.bool false := q3
                      exact .inr ⟨wanted_off rfl rfl rfl e3 (by decide), rfl⟩
                    · intro a' w' ha hs hw
                      obtain ⟨v3, e3, q3⟩ := hw 3 (by kernel_rfl) _ _ _ rfl rfl rfl
                      obtain rfl : v3 = Value.bool false := q3
                      exact .inr ⟨wanted_off rfl rfl rfl e3 (by decide), rfl⟩
                    · intro a' w' ha hs hw
                      obtain ⟨v3, e3, q3⟩ := hw 3 (by kernel_rfl) _ _ _ rfl rfl rfl
                      obtain rfl : v3 = Value.bool false := q3
                      exact .inr ⟨wanted_off rfl rfl rfl e3 (by decide), rfl⟩
                    · intro a' w' ha hs hw
                      obtain ⟨v3, e3, q3⟩ := hw 3 (by kernel_rfl) _ _ _ rfl rfl rfl
                      obtain rfl : v3 = Value.bool false := q3
                      exact .inr ⟨wanted_off rfl rfl rfl e3 (by decide), rfl⟩
                    · intro a' w' ha hs hw
                      obtain ⟨v3, e3, q3⟩ := hw 3 (by kernel_rfl) _ _ _ rfl rfl rfl
                      obtain rfl : v3 = Value.bool false := q3
                      exact .inl ⟨wanted_none rfl, wp_val (run_pick (b := false) rfl (ev_tmp e3) rfl) ⟨_, rfl, rfl, Below.refl _ _, hs⟩⟩
                  simp only [allK]
                  simp only [setAll, List.set_cons_succ, List.set_cons_zero]
                  refine hK _ _ ?_
                  clear hK K
                  replace X6 := Lib.hid (X6.out.below hs)
                  replace S6 := Lib.hid (S6.out.below hs)
                  replace M := Lib.hid (M.out.below hs M.out.lt)
                  replace X8 := Lib.hid (X8.out.below hs)
                  replace S8 := Lib.hid (S8.out.below hs)
                  replace LB := Lib.hid (below_link LB.out hs LB.out.size)
                  replace LC := Lib.hid (below_link LC.out hs LC.out.size)
                  replace LD := Lib.hid (below_link LD.out hs LD.out.size)
                  replace DW := Lib.hid (below_link DW.out hs DW.out.size)
                  clear hs
                  generalize wn = z8 at *
                  go_wp2_with fail
                  go_roundw
                  case rel => exact ⟨q + 1, by omega, by go_num, LD.out⟩
                  case measure => simp [intOf]; omega
                · have E1 := Lib.hid (show (((q : Nat) : Int) != ((i : Nat) : Int)) = true by simp; omega)
                  have E2 := Lib.hid (decide_eq_false (free_at MO.out.free (k := q) (i := i) (by rw [L8.out]; exact hqt) (by rw [L8.out]; omega) hqi))
                  clear hqi
                  obtain ⟨b8, o8, e8, hb8, hr8⟩ := X8.out.at_ hqt
                  subst e8
                  obtain ⟨b9, o9, e9, _, hr9⟩ := X8.out.at_ (k := i) hlt
                  cases e9
                  have H1 := Lib.hid hr8; have H2 := Lib.hid hr9; have HB := Lib.hid hb8
                  clear hr8 hr9 hb8
                  go_wp2_with fail
                  refine region_run (fun w' => Below wq.heap.size wq w') [.is (Value.int IntKind.i64 ((q : Nat))), .is (Value.int IntKind.i64 ((i : Nat))), .is (Value.bool true), .is (Value.bool true), .is (.slice (some ⟨b8, o8, none⟩) n8 c8), .is (Value.int IntKind.i64 ((q : Nat))), .is (.pointer (some ⟨b8, o8 + q * 8, none⟩)), .is (.agg (cls (mg s q))), .is (.slice (some ⟨b8, o8, none⟩) n8 c8), .is (Value.int IntKind.i64 ((i : Nat))), .is (.pointer (some ⟨b8, o8 + i * 8, none⟩)), .is (.agg (cls (mg s i))), .is (Value.bool false), .is (Value.bool false)] [92, 93, 94, 95, 96, 97, 98, 99, 100, 101, 102, 103, 104, 105] (by kernel_rfl) (by kernel_rfl) (by kernel_rfl) (by rfl) (by kernel_rfl) ((Below.refl _ _).drew) (fun Q' => ?_) (fun K hK wn hs => ?_)
                  · refine ⟨?_, ?_, ?_, ?_, ?_, ?_, ?_, ?_, ?_, ?_, ?_, ?_, ?_, ?_, trivial⟩
                    · intro a' w' ha hs hw
                      have eo12 : a'.tmps[12]? = some (Value.int IntKind.i64 ((q : Nat))) := (ha.rest 12 (by kernel_rfl)).trans rfl
                      exact .inl ⟨wanted_none rfl, wp_val (run_move rfl (ev_tmp eo12)) ⟨_, rfl, rfl, Below.refl _ _, hs⟩⟩
                    · intro a' w' ha hs hw
                      have eo9 : a'.tmps[9]? = some (Value.int IntKind.i64 ((i : Nat))) := (ha.rest 9 (by kernel_rfl)).trans rfl
                      exact .inl ⟨wanted_none rfl, wp_val (run_move rfl (ev_tmp eo9)) ⟨_, rfl, rfl, Below.refl _ _, hs⟩⟩
                    · intro a' w' ha hs hw
                      obtain ⟨v0, e0, q0⟩ := hw 0 (by kernel_rfl) _ _ _ rfl rfl rfl
                      obtain rfl : v0 = Value.int IntKind.i64 ((q : Nat)) := q0
                      obtain ⟨v1, e1, q1⟩ := hw 1 (by kernel_rfl) _ _ _ rfl rfl rfl
                      obtain rfl : v1 = Value.int IntKind.i64 ((i : Nat)) := q1
                      exact .inl ⟨wanted_none rfl, wp_val (run_neq_int rfl (ev_tmp e0) (ev_tmp e1)) ⟨_, rfl, congrArg Value.bool (E1.out), Below.refl _ _, hs⟩⟩
                    · intro a' w' ha hs hw
                      obtain ⟨v2, e2, q2⟩ := hw 2 (by kernel_rfl) _ _ _ rfl rfl rfl
                      obtain rfl : v2 = Value.bool true := q2
                      exact .inl ⟨wanted_none rfl, wp_val (run_move rfl (ev_tmp e2)) ⟨_, rfl, rfl, Below.refl _ _, hs⟩⟩
                    · intro a' w' ha hs hw
                      obtain ⟨v3, e3, q3⟩ := hw 3 (by kernel_rfl) _ _ _ rfl rfl rfl
                      obtain rfl : v3 = Value.bool true := q3
                      have eo8 : a'.tmps[8]? = some (.slice (some ⟨b8, o8, none⟩) n8 c8) := (ha.rest 8 (by kernel_rfl)).trans rfl
                      exact .inl ⟨wanted_some rfl rfl rfl e3, wp_val (run_move rfl (ev_tmp eo8)) ⟨_, rfl, rfl, Below.refl _ _, hs⟩⟩
                    · intro a' w' ha hs hw
                      obtain ⟨v3, e3, q3⟩ := hw 3 (by kernel_rfl) _ _ _ rfl rfl rfl
                      obtain rfl : v3 = Value.bool true := q3
                      have eo12 : a'.tmps[12]? = some (Value.int IntKind.i64 ((q : Nat))) := (ha.rest 12 (by kernel_rfl)).trans rfl
                      exact .inl ⟨wanted_some rfl rfl rfl e3, wp_val (run_move rfl (ev_tmp eo12)) ⟨_, rfl, rfl, Below.refl _ _, hs⟩⟩
                    · intro a' w' ha hs hw
                      obtain ⟨v3, e3, q3⟩ := hw 3 (by kernel_rfl) _ _ _ rfl rfl rfl
                      obtain rfl : v3 = Value.bool true := q3
                      obtain ⟨v4, e4, q4⟩ := hw 4 (by kernel_rfl) _ _ _ rfl rfl rfl
                      obtain rfl : v4 = .slice (some ⟨b8, o8, none⟩) n8 c8 := q4
                      obtain ⟨v5, e5, q5⟩ := hw 5 (by kernel_rfl) _ _ _ rfl rfl rfl
                      obtain rfl : v5 = Value.int IntKind.i64 ((q : Nat)) := q5
                      exact .inl ⟨wanted_some rfl rfl rfl e3, wp_val (run_at (k := q) rfl (ev_tmp e4) (ev_tmp e5) hqt) ⟨_, rfl, rfl, Below.refl _ _, hs⟩⟩
                    · intro a' w' ha hs hw
                      obtain ⟨v3, e3, q3⟩ := hw 3 (by kernel_rfl) _ _ _ rfl rfl rfl
                      obtain rfl : v3 = Value.bool true := q3
                      obtain ⟨v6, e6, q6⟩ := hw 6 (by kernel_rfl) _ _ _ rfl rfl rfl
                      obtain rfl : v6 = .pointer (some ⟨b8, o8 + q * 8, none⟩) := q6
                      exact .inl ⟨wanted_some rfl rfl rfl e3, wp_val (run_load_mid rfl (ev_tmp e6) (rangeAt_keep H1.out (hs.block _ HB.out))) ⟨_, rfl, rfl, Below.refl _ _, hs⟩⟩
                    · intro a' w' ha hs hw
                      obtain ⟨v3, e3, q3⟩ := hw 3 (by kernel_rfl) _ _ _ rfl rfl rfl
                      obtain rfl : v3 = Value.bool true := q3
                      have eo8 : a'.tmps[8]? = some (.slice (some ⟨b8, o8, none⟩) n8 c8) := (ha.rest 8 (by kernel_rfl)).trans rfl
                      exact .inl ⟨wanted_some rfl rfl rfl e3, wp_val (run_move rfl (ev_tmp eo8)) ⟨_, rfl, rfl, Below.refl _ _, hs⟩⟩
                    · intro a' w' ha hs hw
                      obtain ⟨v3, e3, q3⟩ := hw 3 (by kernel_rfl) _ _ _ rfl rfl rfl
                      obtain rfl : v3 = Value.bool true := q3
                      have eo9 : a'.tmps[9]? = some (Value.int IntKind.i64 ((i : Nat))) := (ha.rest 9 (by kernel_rfl)).trans rfl
                      exact .inl ⟨wanted_some rfl rfl rfl e3, wp_val (run_move rfl (ev_tmp eo9)) ⟨_, rfl, rfl, Below.refl _ _, hs⟩⟩
                    · intro a' w' ha hs hw
                      obtain ⟨v3, e3, q3⟩ := hw 3 (by kernel_rfl) _ _ _ rfl rfl rfl
                      obtain rfl : v3 = Value.bool true := q3
                      obtain ⟨v8, e8, q8⟩ := hw 8 (by kernel_rfl) _ _ _ rfl rfl rfl
                      obtain rfl : v8 = .slice (some ⟨b8, o8, none⟩) n8 c8 := q8
                      obtain ⟨v9, e9, q9⟩ := hw 9 (by kernel_rfl) _ _ _ rfl rfl rfl
                      obtain rfl : v9 = Value.int IntKind.i64 ((i : Nat)) := q9
                      exact .inl ⟨wanted_some rfl rfl rfl e3, wp_val (run_at (k := i) rfl (ev_tmp e8) (ev_tmp e9) hlt) ⟨_, rfl, rfl, Below.refl _ _, hs⟩⟩
                    · intro a' w' ha hs hw
                      obtain ⟨v3, e3, q3⟩ := hw 3 (by kernel_rfl) _ _ _ rfl rfl rfl
                      obtain rfl : v3 = Value.bool true := q3
                      obtain ⟨v10, e10, q10⟩ := hw 10 (by kernel_rfl) _ _ _ rfl rfl rfl
                      obtain rfl : v10 = .pointer (some ⟨b8, o8 + i * 8, none⟩) := q10
                      exact .inl ⟨wanted_some rfl rfl rfl e3, wp_val (run_load_mid rfl (ev_tmp e10) (rangeAt_keep H2.out (hs.block _ HB.out))) ⟨_, rfl, rfl, Below.refl _ _, hs⟩⟩
                    · intro a' w' ha hs hw
                      obtain ⟨v3, e3, q3⟩ := hw 3 (by kernel_rfl) _ _ _ rfl rfl rfl
                      obtain rfl : v3 = Value.bool true := q3
                      obtain ⟨v7, e7, q7⟩ := hw 7 (by kernel_rfl) _ _ _ rfl rfl rfl
                      obtain rfl : v7 = .agg (cls (mg s q)) := q7
                      obtain ⟨v11, e11, q11⟩ := hw 11 (by kernel_rfl) _ _ _ rfl rfl rfl
                      obtain rfl : v11 = .agg (cls (mg s i)) := q11
                      exact .inl ⟨wanted_some rfl rfl rfl e3, call_step rfl Try.func17 (by kernel_rfl) rfl (map_two (ev_tmp e7) (ev_tmp e11)) (divides_is (mg s q) (mg s i) (false) _ (E2.out)) (fun e w2 he => by obtain ⟨rfl, hb⟩ := he; exact ⟨_, rfl, _, rfl, rfl, hb, hs.trans (hb.mono hs.size)⟩)⟩
                    · intro a' w' ha hs hw
                      obtain ⟨v3, e3, q3⟩ := hw 3 (by kernel_rfl) _ _ _ rfl rfl rfl
                      obtain rfl : v3 = Value.bool true := q3
                      obtain ⟨v12, e12, q12⟩ := hw 12 (by kernel_rfl) _ _ _ rfl rfl rfl
                      obtain rfl : v12 = Value.bool false := q12
                      exact .inl ⟨wanted_none rfl, wp_val (run_pick (b := true) rfl (ev_tmp e3) (ev_tmp e12)) ⟨_, rfl, rfl, Below.refl _ _, hs⟩⟩
                  simp only [allK]
                  simp only [setAll, List.set_cons_succ, List.set_cons_zero]
                  refine hK _ _ ?_
                  clear hK K
                  replace X6 := Lib.hid (X6.out.below hs)
                  replace S6 := Lib.hid (S6.out.below hs)
                  replace M := Lib.hid (M.out.below hs M.out.lt)
                  replace X8 := Lib.hid (X8.out.below hs)
                  replace S8 := Lib.hid (S8.out.below hs)
                  replace LB := Lib.hid (below_link LB.out hs LB.out.size)
                  replace LC := Lib.hid (below_link LC.out hs LC.out.size)
                  replace LD := Lib.hid (below_link LD.out hs LD.out.size)
                  replace DW := Lib.hid (below_link DW.out hs DW.out.size)
                  clear hs
                  generalize wn = z9 at *
                  go_wp2_with fail
                  go_roundw
                  case rel => exact ⟨q + 1, by omega, by go_num, LD.out⟩
                  case measure => simp [intOf]; omega
              · have LF := LB
                go_wp2_with fail
                go_roundw
                case rel => exact ⟨i + 1, by omega, by go_num, LF.out⟩
                case measure => simp [intOf]; omega
      · skip
        obtain ⟨b8, o8, e8, hb8, hr8⟩ := X8.out.at_ (k := i - 1) (by omega)
        obtain ⟨b9, o9, e9, _, hr9⟩ := X8.out.at_ (k := i) hlt
        subst e8
        cases e9
        have H1 := Lib.hid hr8; have H2 := Lib.hid hr9; have HB := Lib.hid hb8
        clear hr8 hr9 hb8
        have E1 := Lib.hid (show decide ((0 : Int) < ((i : Nat) : Int)) = true by simp; omega); have E2 := Lib.hid (show CM (mg s (i - 1)) (mg s i) 1 from .inr (.inr ⟨by have := strict_at MO.out.strict (i := i - 1) (by rw [L8.out]; omega); rw [show i - 1 + 1 = i by omega] at this; exact this, rfl⟩))
        have HI := Lib.hid (show ((i : Nat) : Int) - 1 = ((i - 1 : Nat) : Int) by omega)
        go_wp2_with fail
        refine region_run (fun w' => Below wo.heap.size wo w') [.is (Value.int IntKind.i64 ((i : Nat))), .is (Value.bool true), .is (Value.bool true), .is (.slice (some ⟨b8, o8, none⟩) n8 c8), .is (Value.int IntKind.i64 ((i : Nat))), .is (Value.int IntKind.i64 ((i - 1 : Nat))), .is (.pointer (some ⟨b8, o8 + (i - 1) * 8, none⟩)), .is (.agg (cls (mg s (i - 1)))), .is (.slice (some ⟨b8, o8, none⟩) n8 c8), .is (Value.int IntKind.i64 ((i : Nat))), .is (.pointer (some ⟨b8, o8 + i * 8, none⟩)), .is (.agg (cls (mg s i))), .is (Value.int IntKind.i64 (1)), .is (Value.bool false), .is (Value.bool false)] [53, 54, 55, 56, 57, 58, 59, 60, 61, 62, 63, 64, 65, 66, 67] (by kernel_rfl) (by kernel_rfl) (by kernel_rfl) (by rfl) (by kernel_rfl) ((Below.refl _ _).drew) (fun Q' => ?_) (fun K hK wn hs => ?_)
        · refine ⟨?_, ?_, ?_, ?_, ?_, ?_, ?_, ?_, ?_, ?_, ?_, ?_, ?_, ?_, ?_, trivial⟩
          · intro a' w' ha hs hw
            have eo9 : a'.tmps[9]? = some (Value.int IntKind.i64 ((i : Nat))) := (ha.rest 9 (by kernel_rfl)).trans rfl
            exact .inl ⟨wanted_none rfl, wp_val (run_move rfl (ev_tmp eo9)) ⟨_, rfl, rfl, Below.refl _ _, hs⟩⟩
          · intro a' w' ha hs hw
            obtain ⟨v0, e0, q0⟩ := hw 0 (by kernel_rfl) _ _ _ rfl rfl rfl
            obtain rfl : v0 = Value.int IntKind.i64 ((i : Nat)) := q0
            exact .inl ⟨wanted_none rfl, wp_val (run_gtr_int rfl (ev_tmp e0) rfl) ⟨_, rfl, congrArg Value.bool (E1.out), Below.refl _ _, hs⟩⟩
          · intro a' w' ha hs hw
            obtain ⟨v1, e1, q1⟩ := hw 1 (by kernel_rfl) _ _ _ rfl rfl rfl
            obtain rfl : v1 = Value.bool true := q1
            exact .inl ⟨wanted_none rfl, wp_val (run_move rfl (ev_tmp e1)) ⟨_, rfl, rfl, Below.refl _ _, hs⟩⟩
          · intro a' w' ha hs hw
            obtain ⟨v2, e2, q2⟩ := hw 2 (by kernel_rfl) _ _ _ rfl rfl rfl
            obtain rfl : v2 = Value.bool true := q2
            have eo8 : a'.tmps[8]? = some (.slice (some ⟨b8, o8, none⟩) n8 c8) := (ha.rest 8 (by kernel_rfl)).trans rfl
            exact .inl ⟨wanted_some rfl rfl rfl e2, wp_val (run_move rfl (ev_tmp eo8)) ⟨_, rfl, rfl, Below.refl _ _, hs⟩⟩
          · intro a' w' ha hs hw
            obtain ⟨v2, e2, q2⟩ := hw 2 (by kernel_rfl) _ _ _ rfl rfl rfl
            obtain rfl : v2 = Value.bool true := q2
            have eo9 : a'.tmps[9]? = some (Value.int IntKind.i64 ((i : Nat))) := (ha.rest 9 (by kernel_rfl)).trans rfl
            exact .inl ⟨wanted_some rfl rfl rfl e2, wp_val (run_move rfl (ev_tmp eo9)) ⟨_, rfl, rfl, Below.refl _ _, hs⟩⟩
          · intro a' w' ha hs hw
            obtain ⟨v2, e2, q2⟩ := hw 2 (by kernel_rfl) _ _ _ rfl rfl rfl
            obtain rfl : v2 = Value.bool true := q2
            obtain ⟨v4, e4, q4⟩ := hw 4 (by kernel_rfl) _ _ _ rfl rfl rfl
            obtain rfl : v4 = Value.int IntKind.i64 ((i : Nat)) := q4
            exact .inl ⟨wanted_some rfl rfl rfl e2, wp_val (run_sub_int rfl (ev_tmp e4) rfl (by omega) (by omega)) ⟨_, rfl, congrArg (Value.int IntKind.i64) (HI.out), Below.refl _ _, hs⟩⟩
          · intro a' w' ha hs hw
            obtain ⟨v2, e2, q2⟩ := hw 2 (by kernel_rfl) _ _ _ rfl rfl rfl
            obtain rfl : v2 = Value.bool true := q2
            obtain ⟨v3, e3, q3⟩ := hw 3 (by kernel_rfl) _ _ _ rfl rfl rfl
            obtain rfl : v3 = .slice (some ⟨b8, o8, none⟩) n8 c8 := q3
            obtain ⟨v5, e5, q5⟩ := hw 5 (by kernel_rfl) _ _ _ rfl rfl rfl
            obtain rfl : v5 = Value.int IntKind.i64 ((i - 1 : Nat)) := q5
            exact .inl ⟨wanted_some rfl rfl rfl e2, wp_val (run_at (k := (i - 1)) rfl (ev_tmp e3) (ev_tmp e5) (by omega)) ⟨_, rfl, rfl, Below.refl _ _, hs⟩⟩
          · intro a' w' ha hs hw
            obtain ⟨v2, e2, q2⟩ := hw 2 (by kernel_rfl) _ _ _ rfl rfl rfl
            obtain rfl : v2 = Value.bool true := q2
            obtain ⟨v6, e6, q6⟩ := hw 6 (by kernel_rfl) _ _ _ rfl rfl rfl
            obtain rfl : v6 = .pointer (some ⟨b8, o8 + (i - 1) * 8, none⟩) := q6
            exact .inl ⟨wanted_some rfl rfl rfl e2, wp_val (run_load_mid rfl (ev_tmp e6) (rangeAt_keep H1.out (hs.block _ HB.out))) ⟨_, rfl, rfl, Below.refl _ _, hs⟩⟩
          · intro a' w' ha hs hw
            obtain ⟨v2, e2, q2⟩ := hw 2 (by kernel_rfl) _ _ _ rfl rfl rfl
            obtain rfl : v2 = Value.bool true := q2
            have eo8 : a'.tmps[8]? = some (.slice (some ⟨b8, o8, none⟩) n8 c8) := (ha.rest 8 (by kernel_rfl)).trans rfl
            exact .inl ⟨wanted_some rfl rfl rfl e2, wp_val (run_move rfl (ev_tmp eo8)) ⟨_, rfl, rfl, Below.refl _ _, hs⟩⟩
          · intro a' w' ha hs hw
            obtain ⟨v2, e2, q2⟩ := hw 2 (by kernel_rfl) _ _ _ rfl rfl rfl
            obtain rfl : v2 = Value.bool true := q2
            have eo9 : a'.tmps[9]? = some (Value.int IntKind.i64 ((i : Nat))) := (ha.rest 9 (by kernel_rfl)).trans rfl
            exact .inl ⟨wanted_some rfl rfl rfl e2, wp_val (run_move rfl (ev_tmp eo9)) ⟨_, rfl, rfl, Below.refl _ _, hs⟩⟩
          · intro a' w' ha hs hw
            obtain ⟨v2, e2, q2⟩ := hw 2 (by kernel_rfl) _ _ _ rfl rfl rfl
            obtain rfl : v2 = Value.bool true := q2
            obtain ⟨v8, e8, q8⟩ := hw 8 (by kernel_rfl) _ _ _ rfl rfl rfl
            obtain rfl : v8 = .slice (some ⟨b8, o8, none⟩) n8 c8 := q8
            obtain ⟨v9, e9, q9⟩ := hw 9 (by kernel_rfl) _ _ _ rfl rfl rfl
            obtain rfl : v9 = Value.int IntKind.i64 ((i : Nat)) := q9
            exact .inl ⟨wanted_some rfl rfl rfl e2, wp_val (run_at (k := i) rfl (ev_tmp e8) (ev_tmp e9) hlt) ⟨_, rfl, rfl, Below.refl _ _, hs⟩⟩
          · intro a' w' ha hs hw
            obtain ⟨v2, e2, q2⟩ := hw 2 (by kernel_rfl) _ _ _ rfl rfl rfl
            obtain rfl : v2 = Value.bool true := q2
            obtain ⟨v10, e10, q10⟩ := hw 10 (by kernel_rfl) _ _ _ rfl rfl rfl
            obtain rfl : v10 = .pointer (some ⟨b8, o8 + i * 8, none⟩) := q10
            exact .inl ⟨wanted_some rfl rfl rfl e2, wp_val (run_load_mid rfl (ev_tmp e10) (rangeAt_keep H2.out (hs.block _ HB.out))) ⟨_, rfl, rfl, Below.refl _ _, hs⟩⟩
          · intro a' w' ha hs hw
            obtain ⟨v2, e2, q2⟩ := hw 2 (by kernel_rfl) _ _ _ rfl rfl rfl
            obtain rfl : v2 = Value.bool true := q2
            obtain ⟨v7, e7, q7⟩ := hw 7 (by kernel_rfl) _ _ _ rfl rfl rfl
            obtain rfl : v7 = .agg (cls (mg s (i - 1))) := q7
            obtain ⟨v11, e11, q11⟩ := hw 11 (by kernel_rfl) _ _ _ rfl rfl rfl
            obtain rfl : v11 = .agg (cls (mg s i)) := q11
            exact .inl ⟨wanted_some rfl rfl rfl e2, call_step rfl Try.func20 (by kernel_rfl) rfl (map_two (ev_tmp e7) (ev_tmp e11)) (rcmp_is (mg s (i - 1)) (mg s i) (1) _ (E2.out)) (fun e w2 he => by obtain ⟨rfl, hb⟩ := he; exact ⟨_, rfl, _, rfl, rfl, hb, hs.trans (hb.mono hs.size)⟩)⟩
          · intro a' w' ha hs hw
            obtain ⟨v2, e2, q2⟩ := hw 2 (by kernel_rfl) _ _ _ rfl rfl rfl
            obtain rfl : v2 = Value.bool true := q2
            obtain ⟨v12, e12, q12⟩ := hw 12 (by kernel_rfl) _ _ _ rfl rfl rfl
            obtain rfl : v12 = Value.int IntKind.i64 (1) := q12
            exact .inl ⟨wanted_some rfl rfl rfl e2, wp_val (run_leq_int rfl (ev_tmp e12) rfl) ⟨_, rfl, congrArg Value.bool (by decide), Below.refl _ _, hs⟩⟩
          · intro a' w' ha hs hw
            obtain ⟨v2, e2, q2⟩ := hw 2 (by kernel_rfl) _ _ _ rfl rfl rfl
            obtain rfl : v2 = Value.bool true := q2
            obtain ⟨v13, e13, q13⟩ := hw 13 (by kernel_rfl) _ _ _ rfl rfl rfl
            obtain rfl : v13 = Value.bool false := q13
            exact .inl ⟨wanted_none rfl, wp_val (run_pick (b := true) rfl (ev_tmp e2) (ev_tmp e13)) ⟨_, rfl, rfl, Below.refl _ _, hs⟩⟩
        simp only [allK]
        simp only [setAll, List.set_cons_succ, List.set_cons_zero]
        refine hK _ _ ?_
        clear hK K
        replace X6 := Lib.hid (X6.out.below hs)
        replace S6 := Lib.hid (S6.out.below hs)
        replace M := Lib.hid (M.out.below hs M.out.lt)
        replace X8 := Lib.hid (X8.out.below hs)
        replace S8 := Lib.hid (S8.out.below hs)
        replace LB := Lib.hid (below_link LB.out hs LB.out.size)
        replace DW := Lib.hid (below_link DW.out hs DW.out.size)
        clear hs
        generalize wn = z7 at *
        have FM := Lib.hid (show mg s i ∈ l from MO.out.mem _ (mg_mem (by rw [L8.out]; omega)))
        go_wp2_with fail
        go_loopw [10, 11] (fun s10 s11 wr => ∃ j : Nat, j ≤ n6 ∧ s11 = .int .i64 j ∧ s10 = .bool (fnd l (mg s i) j) ∧ Below z7.heap.size z7 wr) (fun _ s11 _ => n6 - (intOf s11).toNat)
        case atStart => exact ⟨0, by omega, rfl, rfl, Below.refl _ _⟩
        case round =>
          obtain ⟨j, hj, rfl, rfl, hb⟩ := hrel
          obtain ⟨wp, rfl⟩ : ∃ wp : World, wp = wr := ⟨_, rfl⟩
          replace X6 := Lib.hid (X6.out.below hb)
          replace S6 := Lib.hid (S6.out.below hb)
          replace M := Lib.hid (M.out.below hb M.out.lt)
          replace X8 := Lib.hid (X8.out.below hb)
          replace S8 := Lib.hid (S8.out.below hb)
          replace LB := Lib.hid (below_link LB.out hb LB.out.size)
          replace DW := Lib.hid (below_link DW.out hb DW.out.size)
          have LC := Lib.hid hb
          clear hb
          by_cases hjt : j < n6
          · cases hfd : fnd l (mg s i) j with
            | true =>
              have HS := Lib.hid (fnd_true hfd)
              clear hfd
              go_wp2_with fail
              go_quiet (fail)
              go_wp2_with fail
              go_roundw
              case rel => exact ⟨j + 1, by omega, by go_num, by rw [HS.out], bdrew LC.out⟩
              case measure => simp [intOf]; omega
            | false =>
              have HS := Lib.hid (fnd_false hfd)
              clear hfd
              obtain ⟨b6, o6, e6, _, hr6⟩ := X6.out.at_ hjt
              subst e6
              obtain ⟨d0, d1, d2, d3, d4, d5, d6, d7⟩ := range_all hr6
              obtain ⟨b9, o9, e9, _, hr8⟩ := X8.out.at_ (k := i) hlt
              cases e9
              obtain ⟨f0, f1, f2, f3, f4, f5, f6, f7⟩ := range_all hr8
              clear hr6 hr8
              have he := run_equalIn_arr (mg l j) (mg s i)
              have hj1 : ((j : Nat) : Int) < ((n6 : Nat) : Int) := by omega
              have hj2 : ((i : Nat) : Int) < ((n8 : Nat) : Int) := by omega
              go_wp2_with fail
              go_quiet (fail)
              clear hj1 hj2 he d0 d1 d2 d3 d4 d5 d6 d7 f0 f1 f2 f3 f4 f5 f6 f7
              go_wp2_with fail
              go_roundw
              case rel => exact ⟨j + 1, by omega, by go_num, by rw [HS.out], bdrew LC.out⟩
              case measure => simp [intOf]; omega
          · obtain rfl : j = n6 := by omega
            have hft : fnd l (mg s i) j = true := fnd_mem FM.out L6.out
            rw [hft]
            clear hft
            go_wp2_with fail
            go_loopw [12] (fun s12 wr => ∃ q : Nat, q ≤ n8 ∧ s12 = .int .i64 q ∧ Below wp.heap.size wp wr) (fun s12 _ => n8 - (intOf s12).toNat)
            case atStart => exact ⟨0, by omega, rfl, Below.refl _ _⟩
            case round =>
              obtain ⟨q, hq, rfl, hb⟩ := hrel
              obtain ⟨wq, rfl⟩ : ∃ wq : World, wq = wr := ⟨_, rfl⟩
              replace X6 := Lib.hid (X6.out.below hb)
              replace S6 := Lib.hid (S6.out.below hb)
              replace M := Lib.hid (M.out.below hb M.out.lt)
              replace X8 := Lib.hid (X8.out.below hb)
              replace S8 := Lib.hid (S8.out.below hb)
              replace LB := Lib.hid (below_link LB.out hb LB.out.size)
              replace LC := Lib.hid (below_link LC.out hb LC.out.size)
              replace DW := Lib.hid (below_link DW.out hb DW.out.size)
              have LD := Lib.hid hb
              clear hb
              by_cases hqt : q < n8
              · by_cases hqi : q = i
                · have E1 := Lib.hid (show (((q : Nat) : Int) != ((i : Nat) : Int)) = false by simp; omega)
                  clear hqi
                  go_wp2_with fail
                  refine region_run (fun w' => Below wq.heap.size wq w') [.is (Value.int IntKind.i64 ((q : Nat))), .is (Value.int IntKind.i64 ((i : Nat))), .is (Value.bool false), .is (Value.bool false), .is undef, .is undef, .is undef, .is undef, .is undef, .is undef, .is undef, .is undef, .is undef, .is (Value.bool false)] [92, 93, 94, 95, 96, 97, 98, 99, 100, 101, 102, 103, 104, 105] (by kernel_rfl) (by kernel_rfl) (by kernel_rfl) (by rfl) (by kernel_rfl) ((Below.refl _ _).drew) (fun Q' => ?_) (fun K hK wn hs => ?_)
                  · refine ⟨?_, ?_, ?_, ?_, ?_, ?_, ?_, ?_, ?_, ?_, ?_, ?_, ?_, ?_, trivial⟩
                    · intro a' w' ha hs hw
                      have eo12 : a'.tmps[12]? = some (Value.int IntKind.i64 ((q : Nat))) := (ha.rest 12 (by kernel_rfl)).trans rfl
                      exact .inl ⟨wanted_none rfl, wp_val (run_move rfl (ev_tmp eo12)) ⟨_, rfl, rfl, Below.refl _ _, hs⟩⟩
                    · intro a' w' ha hs hw
                      have eo9 : a'.tmps[9]? = some (Value.int IntKind.i64 ((i : Nat))) := (ha.rest 9 (by kernel_rfl)).trans rfl
                      exact .inl ⟨wanted_none rfl, wp_val (run_move rfl (ev_tmp eo9)) ⟨_, rfl, rfl, Below.refl _ _, hs⟩⟩
                    · intro a' w' ha hs hw
                      obtain ⟨v0, e0, q0⟩ := hw 0 (by kernel_rfl) _ _ _ rfl rfl rfl
                      obtain rfl : v0 = Value.int IntKind.i64 ((q : Nat)) := q0
                      obtain ⟨v1, e1, q1⟩ := hw 1 (by kernel_rfl) _ _ _ rfl rfl rfl
                      obtain rfl : v1 = Value.int IntKind.i64 ((i : Nat)) := q1
                      exact .inl ⟨wanted_none rfl, wp_val (run_neq_int rfl (ev_tmp e0) (ev_tmp e1)) ⟨_, rfl, congrArg Value.bool (E1.out), Below.refl _ _, hs⟩⟩
                    · intro a' w' ha hs hw
                      obtain ⟨v2, e2, q2⟩ := hw 2 (by kernel_rfl) _ _ _ rfl rfl rfl
                      obtain rfl : v2 = Value.bool false := q2
                      exact .inl ⟨wanted_none rfl, wp_val (run_move rfl (ev_tmp e2)) ⟨_, rfl, rfl, Below.refl _ _, hs⟩⟩
                    · intro a' w' ha hs hw
                      obtain ⟨v3, e3, q3⟩ := hw 3 (by kernel_rfl) _ _ _ rfl rfl rfl
                      obtain rfl : v3 = Value.bool false := q3
                      exact .inr ⟨wanted_off rfl rfl rfl e3 (by decide), rfl⟩
                    · intro a' w' ha hs hw
                      obtain ⟨v3, e3, q3⟩ := hw 3 (by kernel_rfl) _ _ _ rfl rfl rfl
                      obtain rfl : v3 = Value.bool false := q3
                      exact .inr ⟨wanted_off rfl rfl rfl e3 (by decide), rfl⟩
                    · intro a' w' ha hs hw
                      obtain ⟨v3, e3, q3⟩ := hw 3 (by kernel_rfl) _ _ _ rfl rfl rfl
                      obtain rfl : v3 = Value.bool false := q3
                      exact .inr ⟨wanted_off rfl rfl rfl e3 (by decide), rfl⟩
                    · intro a' w' ha hs hw
                      obtain ⟨v3, e3, q3⟩ := hw 3 (by kernel_rfl) _ _ _ rfl rfl rfl
                      obtain rfl : v3 = Value.bool false := q3
                      exact .inr ⟨wanted_off rfl rfl rfl e3 (by decide), rfl⟩
                    · intro a' w' ha hs hw
                      obtain ⟨v3, e3, q3⟩ := hw 3 (by kernel_rfl) _ _ _ rfl rfl rfl
                      obtain rfl : v3 = Value.bool false := q3
                      exact .inr ⟨wanted_off rfl rfl rfl e3 (by decide), rfl⟩
                    · intro a' w' ha hs hw
                      obtain ⟨v3, e3, q3⟩ := hw 3 (by kernel_rfl) _ _ _ rfl rfl rfl
                      obtain rfl : v3 = Value.bool false := q3
                      exact .inr ⟨wanted_off rfl rfl rfl e3 (by decide), rfl⟩
                    · intro a' w' ha hs hw
                      obtain ⟨v3, e3, q3⟩ := hw 3 (by kernel_rfl) _ _ _ rfl rfl rfl
                      obtain rfl : v3 = Value.bool false := q3
                      exact .inr ⟨wanted_off rfl rfl rfl e3 (by decide), rfl⟩
                    · intro a' w' ha hs hw
                      obtain ⟨v3, e3, q3⟩ := hw 3 (by kernel_rfl) _ _ _ rfl rfl rfl
                      obtain rfl : v3 = Value.bool false := q3
                      exact .inr ⟨wanted_off rfl rfl rfl e3 (by decide), rfl⟩
                    · intro a' w' ha hs hw
                      obtain ⟨v3, e3, q3⟩ := hw 3 (by kernel_rfl) _ _ _ rfl rfl rfl
                      obtain rfl : v3 = Value.bool false := q3
                      exact .inr ⟨wanted_off rfl rfl rfl e3 (by decide), rfl⟩
                    · intro a' w' ha hs hw
                      obtain ⟨v3, e3, q3⟩ := hw 3 (by kernel_rfl) _ _ _ rfl rfl rfl
                      obtain rfl : v3 = Value.bool false := q3
                      exact .inl ⟨wanted_none rfl, wp_val (run_pick (b := false) rfl (ev_tmp e3) rfl) ⟨_, rfl, rfl, Below.refl _ _, hs⟩⟩
                  simp only [allK]
                  simp only [setAll, List.set_cons_succ, List.set_cons_zero]
                  refine hK _ _ ?_
                  clear hK K
                  replace X6 := Lib.hid (X6.out.below hs)
                  replace S6 := Lib.hid (S6.out.below hs)
                  replace M := Lib.hid (M.out.below hs M.out.lt)
                  replace X8 := Lib.hid (X8.out.below hs)
                  replace S8 := Lib.hid (S8.out.below hs)
                  replace LB := Lib.hid (below_link LB.out hs LB.out.size)
                  replace LC := Lib.hid (below_link LC.out hs LC.out.size)
                  replace LD := Lib.hid (below_link LD.out hs LD.out.size)
                  replace DW := Lib.hid (below_link DW.out hs DW.out.size)
                  clear hs
                  generalize wn = z8 at *
                  go_wp2_with fail
                  go_roundw
                  case rel => exact ⟨q + 1, by omega, by go_num, LD.out⟩
                  case measure => simp [intOf]; omega
                · have E1 := Lib.hid (show (((q : Nat) : Int) != ((i : Nat) : Int)) = true by simp; omega)
                  have E2 := Lib.hid (decide_eq_false (free_at MO.out.free (k := q) (i := i) (by rw [L8.out]; exact hqt) (by rw [L8.out]; omega) hqi))
                  clear hqi
                  obtain ⟨b9, o9, e9, hb8, hr8⟩ := X8.out.at_ hqt
                  cases e9
                  obtain ⟨b9, o9, e9, _, hr9⟩ := X8.out.at_ (k := i) hlt
                  cases e9
                  have H1 := Lib.hid hr8; have H2 := Lib.hid hr9; have HB := Lib.hid hb8
                  clear hr8 hr9 hb8
                  go_wp2_with fail
                  refine region_run (fun w' => Below wq.heap.size wq w') [.is (Value.int IntKind.i64 ((q : Nat))), .is (Value.int IntKind.i64 ((i : Nat))), .is (Value.bool true), .is (Value.bool true), .is (.slice (some ⟨b8, o8, none⟩) n8 c8), .is (Value.int IntKind.i64 ((q : Nat))), .is (.pointer (some ⟨b8, o8 + q * 8, none⟩)), .is (.agg (cls (mg s q))), .is (.slice (some ⟨b8, o8, none⟩) n8 c8), .is (Value.int IntKind.i64 ((i : Nat))), .is (.pointer (some ⟨b8, o8 + i * 8, none⟩)), .is (.agg (cls (mg s i))), .is (Value.bool false), .is (Value.bool false)] [92, 93, 94, 95, 96, 97, 98, 99, 100, 101, 102, 103, 104, 105] (by kernel_rfl) (by kernel_rfl) (by kernel_rfl) (by rfl) (by kernel_rfl) ((Below.refl _ _).drew) (fun Q' => ?_) (fun K hK wn hs => ?_)
                  · refine ⟨?_, ?_, ?_, ?_, ?_, ?_, ?_, ?_, ?_, ?_, ?_, ?_, ?_, ?_, trivial⟩
                    · intro a' w' ha hs hw
                      have eo12 : a'.tmps[12]? = some (Value.int IntKind.i64 ((q : Nat))) := (ha.rest 12 (by kernel_rfl)).trans rfl
                      exact .inl ⟨wanted_none rfl, wp_val (run_move rfl (ev_tmp eo12)) ⟨_, rfl, rfl, Below.refl _ _, hs⟩⟩
                    · intro a' w' ha hs hw
                      have eo9 : a'.tmps[9]? = some (Value.int IntKind.i64 ((i : Nat))) := (ha.rest 9 (by kernel_rfl)).trans rfl
                      exact .inl ⟨wanted_none rfl, wp_val (run_move rfl (ev_tmp eo9)) ⟨_, rfl, rfl, Below.refl _ _, hs⟩⟩
                    · intro a' w' ha hs hw
                      obtain ⟨v0, e0, q0⟩ := hw 0 (by kernel_rfl) _ _ _ rfl rfl rfl
                      obtain rfl : v0 = Value.int IntKind.i64 ((q : Nat)) := q0
                      obtain ⟨v1, e1, q1⟩ := hw 1 (by kernel_rfl) _ _ _ rfl rfl rfl
                      obtain rfl : v1 = Value.int IntKind.i64 ((i : Nat)) := q1
                      exact .inl ⟨wanted_none rfl, wp_val (run_neq_int rfl (ev_tmp e0) (ev_tmp e1)) ⟨_, rfl, congrArg Value.bool (E1.out), Below.refl _ _, hs⟩⟩
                    · intro a' w' ha hs hw
                      obtain ⟨v2, e2, q2⟩ := hw 2 (by kernel_rfl) _ _ _ rfl rfl rfl
                      obtain rfl : v2 = Value.bool true := q2
                      exact .inl ⟨wanted_none rfl, wp_val (run_move rfl (ev_tmp e2)) ⟨_, rfl, rfl, Below.refl _ _, hs⟩⟩
                    · intro a' w' ha hs hw
                      obtain ⟨v3, e3, q3⟩ := hw 3 (by kernel_rfl) _ _ _ rfl rfl rfl
                      obtain rfl : v3 = Value.bool true := q3
                      have eo8 : a'.tmps[8]? = some (.slice (some ⟨b8, o8, none⟩) n8 c8) := (ha.rest 8 (by kernel_rfl)).trans rfl
                      exact .inl ⟨wanted_some rfl rfl rfl e3, wp_val (run_move rfl (ev_tmp eo8)) ⟨_, rfl, rfl, Below.refl _ _, hs⟩⟩
                    · intro a' w' ha hs hw
                      obtain ⟨v3, e3, q3⟩ := hw 3 (by kernel_rfl) _ _ _ rfl rfl rfl
                      obtain rfl : v3 = Value.bool true := q3
                      have eo12 : a'.tmps[12]? = some (Value.int IntKind.i64 ((q : Nat))) := (ha.rest 12 (by kernel_rfl)).trans rfl
                      exact .inl ⟨wanted_some rfl rfl rfl e3, wp_val (run_move rfl (ev_tmp eo12)) ⟨_, rfl, rfl, Below.refl _ _, hs⟩⟩
                    · intro a' w' ha hs hw
                      obtain ⟨v3, e3, q3⟩ := hw 3 (by kernel_rfl) _ _ _ rfl rfl rfl
                      obtain rfl : v3 = Value.bool true := q3
                      obtain ⟨v4, e4, q4⟩ := hw 4 (by kernel_rfl) _ _ _ rfl rfl rfl
                      obtain rfl : v4 = .slice (some ⟨b8, o8, none⟩) n8 c8 := q4
                      obtain ⟨v5, e5, q5⟩ := hw 5 (by kernel_rfl) _ _ _ rfl rfl rfl
                      obtain rfl : v5 = Value.int IntKind.i64 ((q : Nat)) := q5
                      exact .inl ⟨wanted_some rfl rfl rfl e3, wp_val (run_at (k := q) rfl (ev_tmp e4) (ev_tmp e5) hqt) ⟨_, rfl, rfl, Below.refl _ _, hs⟩⟩
                    · intro a' w' ha hs hw
                      obtain ⟨v3, e3, q3⟩ := hw 3 (by kernel_rfl) _ _ _ rfl rfl rfl
                      obtain rfl : v3 = Value.bool true := q3
                      obtain ⟨v6, e6, q6⟩ := hw 6 (by kernel_rfl) _ _ _ rfl rfl rfl
                      obtain rfl : v6 = .pointer (some ⟨b8, o8 + q * 8, none⟩) := q6
                      exact .inl ⟨wanted_some rfl rfl rfl e3, wp_val (run_load_mid rfl (ev_tmp e6) (rangeAt_keep H1.out (hs.block _ HB.out))) ⟨_, rfl, rfl, Below.refl _ _, hs⟩⟩
                    · intro a' w' ha hs hw
                      obtain ⟨v3, e3, q3⟩ := hw 3 (by kernel_rfl) _ _ _ rfl rfl rfl
                      obtain rfl : v3 = Value.bool true := q3
                      have eo8 : a'.tmps[8]? = some (.slice (some ⟨b8, o8, none⟩) n8 c8) := (ha.rest 8 (by kernel_rfl)).trans rfl
                      exact .inl ⟨wanted_some rfl rfl rfl e3, wp_val (run_move rfl (ev_tmp eo8)) ⟨_, rfl, rfl, Below.refl _ _, hs⟩⟩
                    · intro a' w' ha hs hw
                      obtain ⟨v3, e3, q3⟩ := hw 3 (by kernel_rfl) _ _ _ rfl rfl rfl
                      obtain rfl : v3 = Value.bool true := q3
                      have eo9 : a'.tmps[9]? = some (Value.int IntKind.i64 ((i : Nat))) := (ha.rest 9 (by kernel_rfl)).trans rfl
                      exact .inl ⟨wanted_some rfl rfl rfl e3, wp_val (run_move rfl (ev_tmp eo9)) ⟨_, rfl, rfl, Below.refl _ _, hs⟩⟩
                    · intro a' w' ha hs hw
                      obtain ⟨v3, e3, q3⟩ := hw 3 (by kernel_rfl) _ _ _ rfl rfl rfl
                      obtain rfl : v3 = Value.bool true := q3
                      obtain ⟨v8, e8, q8⟩ := hw 8 (by kernel_rfl) _ _ _ rfl rfl rfl
                      obtain rfl : v8 = .slice (some ⟨b8, o8, none⟩) n8 c8 := q8
                      obtain ⟨v9, e9, q9⟩ := hw 9 (by kernel_rfl) _ _ _ rfl rfl rfl
                      obtain rfl : v9 = Value.int IntKind.i64 ((i : Nat)) := q9
                      exact .inl ⟨wanted_some rfl rfl rfl e3, wp_val (run_at (k := i) rfl (ev_tmp e8) (ev_tmp e9) hlt) ⟨_, rfl, rfl, Below.refl _ _, hs⟩⟩
                    · intro a' w' ha hs hw
                      obtain ⟨v3, e3, q3⟩ := hw 3 (by kernel_rfl) _ _ _ rfl rfl rfl
                      obtain rfl : v3 = Value.bool true := q3
                      obtain ⟨v10, e10, q10⟩ := hw 10 (by kernel_rfl) _ _ _ rfl rfl rfl
                      obtain rfl : v10 = .pointer (some ⟨b8, o8 + i * 8, none⟩) := q10
                      exact .inl ⟨wanted_some rfl rfl rfl e3, wp_val (run_load_mid rfl (ev_tmp e10) (rangeAt_keep H2.out (hs.block _ HB.out))) ⟨_, rfl, rfl, Below.refl _ _, hs⟩⟩
                    · intro a' w' ha hs hw
                      obtain ⟨v3, e3, q3⟩ := hw 3 (by kernel_rfl) _ _ _ rfl rfl rfl
                      obtain rfl : v3 = Value.bool true := q3
                      obtain ⟨v7, e7, q7⟩ := hw 7 (by kernel_rfl) _ _ _ rfl rfl rfl
                      obtain rfl : v7 = .agg (cls (mg s q)) := q7
                      obtain ⟨v11, e11, q11⟩ := hw 11 (by kernel_rfl) _ _ _ rfl rfl rfl
                      obtain rfl : v11 = .agg (cls (mg s i)) := q11
                      exact .inl ⟨wanted_some rfl rfl rfl e3, call_step rfl Try.func17 (by kernel_rfl) rfl (map_two (ev_tmp e7) (ev_tmp e11)) (divides_is (mg s q) (mg s i) (false) _ (E2.out)) (fun e w2 he => by obtain ⟨rfl, hb⟩ := he; exact ⟨_, rfl, _, rfl, rfl, hb, hs.trans (hb.mono hs.size)⟩)⟩
                    · intro a' w' ha hs hw
                      obtain ⟨v3, e3, q3⟩ := hw 3 (by kernel_rfl) _ _ _ rfl rfl rfl
                      obtain rfl : v3 = Value.bool true := q3
                      obtain ⟨v12, e12, q12⟩ := hw 12 (by kernel_rfl) _ _ _ rfl rfl rfl
                      obtain rfl : v12 = Value.bool false := q12
                      exact .inl ⟨wanted_none rfl, wp_val (run_pick (b := true) rfl (ev_tmp e3) (ev_tmp e12)) ⟨_, rfl, rfl, Below.refl _ _, hs⟩⟩
                  simp only [allK]
                  simp only [setAll, List.set_cons_succ, List.set_cons_zero]
                  refine hK _ _ ?_
                  clear hK K
                  replace X6 := Lib.hid (X6.out.below hs)
                  replace S6 := Lib.hid (S6.out.below hs)
                  replace M := Lib.hid (M.out.below hs M.out.lt)
                  replace X8 := Lib.hid (X8.out.below hs)
                  replace S8 := Lib.hid (S8.out.below hs)
                  replace LB := Lib.hid (below_link LB.out hs LB.out.size)
                  replace LC := Lib.hid (below_link LC.out hs LC.out.size)
                  replace LD := Lib.hid (below_link LD.out hs LD.out.size)
                  replace DW := Lib.hid (below_link DW.out hs DW.out.size)
                  clear hs
                  generalize wn = z9 at *
                  go_wp2_with fail
                  go_roundw
                  case rel => exact ⟨q + 1, by omega, by go_num, LD.out⟩
                  case measure => simp [intOf]; omega
              · have LF := LB
                go_wp2_with fail
                go_roundw
                case rel => exact ⟨i + 1, by omega, by go_num, LF.out⟩
                case measure => simp [intOf]; omega
    · skip
      go_wp2_with fail
      have O5 := Lib.hid (World.ownsRow_made (base := wo.heap.size) (e := 27) (size := 8) wo #[] 0 (Nat.le_refl _) (by unfold maxLen; omega) rfl)
      have D5 := Lib.hid ((Below.refl wo.heap.size wo).alloc (Nat.le_refl _) (Obj.cells #[] 27))
      generalize wo.alloc (Obj.cells #[] 27) = W5 at *
      go_loopw [13, 14] (fun s13 s14 wr => ∃ (t : Nat) (q : Int) (out : List Mn), t ≤ n6 ∧ q + 1 = t ∧ s14 = .int .i64 q ∧ wr.ownsRow wo.heap.size 27 8 s13 out.length (cs out) ∧ Below wo.heap.size wo wr ∧ out.length ≤ 2 * (n6 - t) ∧ (∀ x ∈ out, x ∈ l) ∧ (∀ j, t ≤ j → j < n6 → mg l j ∈ out)) (fun _ s14 _ => (intOf s14 + 1).toNat)
      case atStart => exact ⟨n6, _, [], Nat.le_refl _, by omega, rfl, O5.out, D5.out, by simp, (fun x h => by cases h), (fun j h1 h2 => by omega)⟩
      case round =>
        obtain ⟨t, q, out, ht, hq, rfl, ho, hb, hl, h1, h2⟩ := hrel
        obtain ⟨wv, rfl⟩ : ∃ wv : World, wv = wr := ⟨_, rfl⟩
        replace X6 := Lib.hid (X6.out.below hb)
        replace S6 := Lib.hid (S6.out.below hb)
        replace M := Lib.hid (M.out.below hb M.out.lt)
        replace X8 := Lib.hid (X8.out.below hb)
        replace S8 := Lib.hid (S8.out.below hb)
        replace LB := Lib.hid (below_link LB.out hb LB.out.size)
        replace DW := Lib.hid (below_link DW.out hb DW.out.size)
        have OW := Lib.hid ho; have DV := Lib.hid hb; have IN := Lib.hid h1; have ALL := Lib.hid h2
        clear ho hb h1 h2 O5 D5
        rcases t with _ | t'
        · obtain rfl : q = -1 := by omega
          have hol : out.length ≤ 24 := by omega
          obtain ⟨A3, c3, hv3, hc1, hc2⟩ := own_cap OW.out
          subst hv3
          go_wp2_with fail
          refine (minimal_any _ out _ (Sl.of_own OW.out) (by omega)).mono ?_
          rintro e y7 ⟨v9, m9, rfl, s9, ⟨hm9, hl9⟩, hb⟩
          replace X6 := Lib.hid (X6.out.below hb)
          replace S6 := Lib.hid (S6.out.below hb)
          replace M := Lib.hid (M.out.below hb M.out.lt)
          replace X8 := Lib.hid (X8.out.below hb)
          replace S8 := Lib.hid (S8.out.below hb)
          replace LB := Lib.hid (below_link LB.out hb LB.out.size)
          replace DV := Lib.hid (below_link DV.out hb DV.out.size)
          replace DW := Lib.hid (below_link DW.out hb DW.out.size)
          clear hb
          have M9 := Lib.hid hm9; have S9 := Lib.hid s9; have L9 := Lib.hid hl9
          clear hm9 s9 hl9
          have AL := Lib.hid (min_same M9.out MO.out (fun x hx => ⟨x, IN.out x hx, Eqv.rfl' x⟩) (fun y hy => ⟨y, all_in L6.out ALL.out hy, Eqv.rfl' y⟩))
          go_wp2_with fail
          refine (same_true _ _ m9 s _ S9.out S8.out AL.out.len (by have := L9.out; omega) (alike_at AL.out)).mono ?_
          rintro e y8 ⟨rfl, hb⟩
          replace X6 := Lib.hid (X6.out.below hb)
          replace S6 := Lib.hid (S6.out.below hb)
          replace M := Lib.hid (M.out.below hb M.out.lt)
          replace X8 := Lib.hid (X8.out.below hb)
          replace S8 := Lib.hid (S8.out.below hb)
          replace LB := Lib.hid (below_link LB.out hb LB.out.size)
          replace DV := Lib.hid (below_link DV.out hb DV.out.size)
          replace S9 := Lib.hid (S9.out.below hb)
          replace DW := Lib.hid (below_link DW.out hb DW.out.size)
          clear hb
          go_wp2_with fail
          go_ret
          exact ⟨rfl, DW.out⟩
        · obtain rfl : q = ((t' : Nat) : Int) := by omega
          clear hq
          have htn : t' < n6 := by omega
          obtain ⟨b6, o6, e6, hb6, hr6⟩ := X6.out.at_ htn
          obtain ⟨b5, o5, e5, _, hr5⟩ := X6.out.at_ (k := 0) (by omega)
          subst e6
          cases e5
          have H1 := Lib.hid hr6; have H2 := Lib.hid hr5; have HB6 := Lib.hid hb6
          clear hr6 hr5 hb6
          have HAN := Lib.hid (any_of MO.out (mg_mem (l := l) (k := t') (by rw [L6.out]; exact htn)))
          have DVY := Lib.hid (Below.refl wv.heap.size wv)
          go_wp2_with (first | (refine ldm _ b6 (o6 + t' * 8) H1.out rfl rfl rfl ?_) | fail)
          refine (in_is (mg l t') A8 n8 c8 s true _ X8.out (by omega) HAN.out).mono ?_
          rintro e y7 ⟨rfl, hb⟩
          replace X6 := Lib.hid (X6.out.below hb)
          replace S6 := Lib.hid (S6.out.below hb)
          replace M := Lib.hid (M.out.below hb M.out.lt)
          replace X8 := Lib.hid (X8.out.below hb)
          replace S8 := Lib.hid (S8.out.below hb)
          replace LB := Lib.hid (below_link LB.out hb LB.out.size)
          replace DV := Lib.hid (below_link DV.out hb DV.out.size)
          replace DVY := Lib.hid (below_link DVY.out hb DVY.out.size)
          replace DW := Lib.hid (below_link DW.out hb DW.out.size)
          clear hb
          have OW2 := Lib.hid (OW.out.kept (w' := y7) (row := none) (by have hb := DVY.out; exact ⟨hb.os, hb.tape, hb.output, hb.size, fun k hk _ => hb.block k hk⟩) (by cases u13.ownBlock <;> simp))
          have K1 := Lib.hid (rangeAt_keep H1.out (DVY.out.block _ HB6.out)); have K2 := Lib.hid (rangeAt_keep H2.out (DVY.out.block _ HB6.out))
          obtain ⟨A3, c3, hv3, hc1, hc2⟩ := own_cap OW2.out
          subst hv3
          go_upto_region 32 with fail
          have KB := Lib.hid (show b6 < y7.heap.size by have := DVY.out.size; have := HB6.out; omega)
          refine region_two (fun w' => Below y7.heap.size y7 w') [.is (.slice A3 out.length c3), .is (.slice (some ⟨b6, o6, none⟩) n6 c6), .is (Value.int IntKind.i64 ((t' : Nat))), .is (.pointer (some ⟨b6, o6 + t' * 8, none⟩)), .is (.agg (cls (mg l t'))), .is (.slice (some ⟨b6, o6, none⟩) n6 c6), .is (.pointer (some ⟨b6, o6 + 0 * 8, none⟩)), .is (.agg (cls (mg l 0))), .sat (fun v w => ∃ g, v = .slice (some ⟨g, 0, none⟩) 2 2 ∧ Ms w (some ⟨g, 0, none⟩) 2 [mg l t', mg l 0]) (fun _ _ _ h hb => by obtain ⟨g, h1, h2⟩ := h; exact ⟨g, h1, h2.below hb⟩)] [123, 124, 125, 126, 127, 128, 129, 130, 131] 9 _ _ (by kernel_rfl) rfl rfl (by kernel_rfl) rfl rfl rfl (by kernel_rfl) (by kernel_rfl) (by kernel_rfl) (by rfl) (by kernel_rfl) ((Below.refl _ _).drew) (fun Q' => ?_) (fun K hK wn hs => ?_)
          · refine ⟨?_, ?_, ?_, ?_, ?_, ?_, ?_, ?_, ?_, trivial⟩
            · intro a' w' ha hs hw
              have eo13 : a'.tmps[13]? = some (.slice A3 out.length c3) := (ha.rest 13 (by kernel_rfl)).trans rfl
              exact .inl ⟨wanted_none rfl, wp_val (run_move rfl (ev_tmp eo13)) ⟨_, rfl, rfl, Below.refl _ _, hs⟩⟩
            · intro a' w' ha hs hw
              have eo6 : a'.tmps[6]? = some (.slice (some ⟨b6, o6, none⟩) n6 c6) := (ha.rest 6 (by kernel_rfl)).trans rfl
              exact .inl ⟨wanted_none rfl, wp_val (run_move rfl (ev_tmp eo6)) ⟨_, rfl, rfl, Below.refl _ _, hs⟩⟩
            · intro a' w' ha hs hw
              have eo14 : a'.tmps[14]? = some (Value.int IntKind.i64 ((t' : Nat))) := (ha.rest 14 (by kernel_rfl)).trans rfl
              exact .inl ⟨wanted_none rfl, wp_val (run_move rfl (ev_tmp eo14)) ⟨_, rfl, rfl, Below.refl _ _, hs⟩⟩
            · intro a' w' ha hs hw
              obtain ⟨v1, e1, q1⟩ := hw 1 (by kernel_rfl) _ _ _ rfl rfl rfl
              obtain rfl : v1 = .slice (some ⟨b6, o6, none⟩) n6 c6 := q1
              obtain ⟨v2, e2, q2⟩ := hw 2 (by kernel_rfl) _ _ _ rfl rfl rfl
              obtain rfl : v2 = Value.int IntKind.i64 ((t' : Nat)) := q2
              exact .inl ⟨wanted_none rfl, wp_val (run_at (k := t') rfl (ev_tmp e1) (ev_tmp e2) htn) ⟨_, rfl, rfl, Below.refl _ _, hs⟩⟩
            · intro a' w' ha hs hw
              obtain ⟨v3, e3, q3⟩ := hw 3 (by kernel_rfl) _ _ _ rfl rfl rfl
              obtain rfl : v3 = .pointer (some ⟨b6, o6 + t' * 8, none⟩) := q3
              exact .inl ⟨wanted_none rfl, wp_val (run_load_mid rfl (ev_tmp e3) (rangeAt_keep K1.out (hs.block _ KB.out))) ⟨_, rfl, rfl, Below.refl _ _, hs⟩⟩
            · intro a' w' ha hs hw
              have eo6 : a'.tmps[6]? = some (.slice (some ⟨b6, o6, none⟩) n6 c6) := (ha.rest 6 (by kernel_rfl)).trans rfl
              exact .inl ⟨wanted_none rfl, wp_val (run_move rfl (ev_tmp eo6)) ⟨_, rfl, rfl, Below.refl _ _, hs⟩⟩
            · intro a' w' ha hs hw
              obtain ⟨v5, e5, q5⟩ := hw 5 (by kernel_rfl) _ _ _ rfl rfl rfl
              obtain rfl : v5 = .slice (some ⟨b6, o6, none⟩) n6 c6 := q5
              exact .inl ⟨wanted_none rfl, wp_val (run_at (k := 0) rfl (ev_tmp e5) rfl (by omega)) ⟨_, rfl, rfl, Below.refl _ _, hs⟩⟩
            · intro a' w' ha hs hw
              obtain ⟨v6, e6, q6⟩ := hw 6 (by kernel_rfl) _ _ _ rfl rfl rfl
              obtain rfl : v6 = .pointer (some ⟨b6, o6 + 0 * 8, none⟩) := q6
              exact .inl ⟨wanted_none rfl, wp_val (run_load_mid rfl (ev_tmp e6) (rangeAt_keep K2.out (hs.block _ KB.out))) ⟨_, rfl, rfl, Below.refl _ _, hs⟩⟩
            · intro a' w' ha hs hw
              obtain ⟨v4, e4, q4⟩ := hw 4 (by kernel_rfl) _ _ _ rfl rfl rfl
              obtain rfl : v4 = .agg (cls (mg l t')) := q4
              obtain ⟨v7, e7, q7⟩ := hw 7 (by kernel_rfl) _ _ _ rfl rfl rfl
              obtain rfl : v7 = .agg (cls (mg l 0)) := q7
              exact .inl ⟨wanted_none rfl, wp_val2 (run_two rfl (ev_tmp e4) (ev_tmp e7)) ⟨_, rfl, ⟨_, rfl, lit_ms w' [mg l t', mg l 0] (by simp)⟩, (Below.refl _ _).alloc (Nat.le_refl _) _, hs.alloc hs.size _⟩⟩
          simp only [allK]
          intro s8 hs8
          simp only [setAll, List.set_cons_succ, List.set_cons_zero]
          obtain ⟨gs, rfl, hms⟩ := hs8
          have OW3 := OW2.out.kept (w' := wn) (row := none) ⟨hs.os, hs.tape, hs.output, hs.size, fun k hk _ => hs.block k hk⟩ (by cases A3 <;> simp [Value.ownBlock])
          have DV3 := below_link (below_link DV.out (Below.refl _ _) DV.out.size) hs DV.out.size
          refine app1 _ _ wo.heap.size OW3 hms (by simp; omega) DV3.size rfl rfl rfl ?_
          intro v' w' g1 g2
          refine wp_val (run_assign rfl rfl) ?_
          refine hK _ _ ?_
          clear hK K
          have G1 := Lib.hid g1; have G2 := Lib.hid (DV3.grown g2 DV3.size (fun k hk => (OW3.lt k hk).1))
          clear g1 g2 hs hms OW3 DV3
          go_wp2_with fail
          go_roundw
          case rel => exact ⟨t', _, out ++ [mg l t', mg l 0], by omega, by omega, rfl, G1.out, G2.out, by simp; omega, (fun x hx => by rcases List.mem_append.1 hx with h | h; exact IN.out x h; exact two_in L6.out htn h), (fun j h1 h2 => by by_cases e : j = t'; subst e; simp; exact List.mem_append.2 (.inl (ALL.out j (by omega) h2)))⟩
          case measure => simp [intOf] <;> omega
end Go.Proofs.Ytchkaaeipafdnaa
