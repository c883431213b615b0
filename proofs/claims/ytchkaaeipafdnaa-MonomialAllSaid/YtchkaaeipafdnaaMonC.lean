/-
  Lcm, Gcd, Mul, Quo of the program.
-/
import Derived.Test.YtchkaaeipafdnaaMonB
namespace Go.Proofs.Ytchkaaeipafdnaa
open Go.RowKit
attribute [local go_sem ↓] Go.wp_at_zero Go.wp_at_succ

/-- The first k numbers are those of f, the others those of a. -/
def mix (f a : Nat → Int) (k : Nat) : Nat → Int := fun j => if j < k then f j else a j
theorem mix_zero (f a : Nat → Int) : mix f a 0 = a := by funext j; simp [mix]
theorem mix_all (f a : Nat → Int) : ∀ k, k < 8 → mix f a 8 k = f k := by intro k hk; simp [mix, hk]
theorem mix_up (f a : Nat → Int) (k : Nat) : up (mix f a k) k (f k) = mix f a (k + 1) := by
  funext j
  unfold up mix
  by_cases h : j = k
  · subst h; simp
  · by_cases h2 : j < k
    · simp [h, h2, show j < k + 1 by omega]
    · simp [h, h2, show ¬ j < k + 1 by omega]
theorem mix_at (f a : Nat → Int) (k : Nat) : mix f a k k = a k := by simp [mix]
def nul : Nat → Int := fun _ => 0
/-- Three blocks made one behind the other. -/
theorem three_rows (w : World) (a b : Nat → Int) : ∀ W, W = ((w.alloc (Obj.cells #[Value.int IntKind.i64 (a 0), Value.int IntKind.i64 (a 1), Value.int IntKind.i64 (a 2), Value.int IntKind.i64 (a 3), Value.int IntKind.i64 (a 4), Value.int IntKind.i64 (a 5), Value.int IntKind.i64 (a 6), Value.int IntKind.i64 (a 7)] 27)).alloc (Obj.cells #[Value.int IntKind.i64 (b 0), Value.int IntKind.i64 (b 1), Value.int IntKind.i64 (b 2), Value.int IntKind.i64 (b 3), Value.int IntKind.i64 (b 4), Value.int IntKind.i64 (b 5), Value.int IntKind.i64 (b 6), Value.int IntKind.i64 (b 7)] 27)).alloc (Obj.cells #[Value.int IntKind.i64 0, Value.int IntKind.i64 0, Value.int IntKind.i64 0, Value.int IntKind.i64 0, Value.int IntKind.i64 0, Value.int IntKind.i64 0, Value.int IntKind.i64 0, Value.int IntKind.i64 0] 27) →
    Row W w.heap.size a ∧ Row W (w.heap.size + 1) b ∧ Row W (w.heap.size + 2) nul ∧ Below w.heap.size w W ∧ W.heap.size = w.heap.size + 3 := by
  rintro W rfl
  obtain ⟨r0, r1, hd, hz⟩ := two_rows w a b
  refine ⟨r0.alloc _, r1.alloc _, ?_, hd.alloc (by rw [hz]; omega) _, by simp⟩
  rw [← hz]
  exact Row.new _ nul

theorem Row.setRow {w : World} {g : Nat} {a : Nat → Int} (h : Row w g a) (b : Nat → Int) : Row (w.setRow g (cls b)) g b := setRow_heap w g _ _ _ _ h
theorem Row.setRow_far {w : World} {g h : Nat} {a : Nat → Int} (r : Row w g a) (hn : g ≠ h) (b : Array Value) : Row (w.setRow h b) g a := (setRow_other w h g b hn).trans r
theorem below_setRow {B : Nat} {a w : World} (h : Below B a w) {g : Nat} (hg : B ≤ g) (c : Array Value) : Below B a (w.setRow g c) :=
  ⟨h.os, h.tape, h.output, by rw [setRow_size]; exact h.size, fun k hk => (setRow_other w g k c (by omega)).trans (h.block k hk)⟩

def lcmF (a b : Nat → Int) : Nat → Int := fun k => if a k < b k then b k else a k
set_option maxHeartbeats 400000 in
theorem lcm_any (a b : Nat → Int) (w : World) : Calls Try.prog 21 #[arr a, arr b] w fun e w' => e = .returned (arr (lcmF a b)) ∧ Below w.heap.size w w' := by
  show Calls Try.prog 21 #[.agg #[.int .i64 (a 0), .int .i64 (a 1), .int .i64 (a 2), .int .i64 (a 3), .int .i64 (a 4), .int .i64 (a 5), .int .i64 (a 6), .int .i64 (a 7)], .agg #[.int .i64 (b 0), .int .i64 (b 1), .int .i64 (b 2), .int .i64 (b 3), .int .i64 (b 4), .int .i64 (b 5), .int .i64 (b 6), .int .i64 (b 7)]] w _
  go_enter Try.func21, Try.ntmps21
  go_wp2
  obtain ⟨W, hW⟩ : ∃ W, W = ((w.alloc (Obj.cells #[Value.int IntKind.i64 (a 0), Value.int IntKind.i64 (a 1), Value.int IntKind.i64 (a 2), Value.int IntKind.i64 (a 3), Value.int IntKind.i64 (a 4), Value.int IntKind.i64 (a 5), Value.int IntKind.i64 (a 6), Value.int IntKind.i64 (a 7)] 27)).alloc (Obj.cells #[Value.int IntKind.i64 (b 0), Value.int IntKind.i64 (b 1), Value.int IntKind.i64 (b 2), Value.int IntKind.i64 (b 3), Value.int IntKind.i64 (b 4), Value.int IntKind.i64 (b 5), Value.int IntKind.i64 (b 6), Value.int IntKind.i64 (b 7)] 27)).alloc (Obj.cells #[Value.int IntKind.i64 0, Value.int IntKind.i64 0, Value.int IntKind.i64 0, Value.int IntKind.i64 0, Value.int IntKind.i64 0, Value.int IntKind.i64 0, Value.int IntKind.i64 0, Value.int IntKind.i64 0] 27) := ⟨_, rfl⟩
  rw [← hW]
  obtain ⟨r0, r1, r2, hd, hz⟩ := three_rows w a b W hW
  have R0 := Lib.hid r0; have R2 := Lib.hid r2; have D := Lib.hid hd
  clear hW r0 r1 r2 hd hz
  go_loopw [5, 6, 8] (fun _ _ i wr => ∃ k : Nat, k ≤ 8 ∧ i = .int .i64 k ∧ Row wr w.heap.size (mix (lcmF a b) a k) ∧ Row wr (w.heap.size + 2) nul ∧ Below w.heap.size w wr) (fun _ _ i _ => 8 - (intOf i).toNat)
  case atStart => exact ⟨0, by omega, rfl, by rw [mix_zero]; exact R0.out, R2.out, D.out⟩
  case round =>
    obtain ⟨k, hk, rfl, q0, q2, qd⟩ := hrel
    have Q0 := Lib.hid q0; have Q2 := Lib.hid q2; have QD := Lib.hid qd
    by_cases hlt : k < 8
    · have hi := run_index_arr b hlt
      have c0 := q0.cell hlt
      rw [mix_at] at c0
      have f0 := q0.frozen k
      clear q0 q2 qd
      go_wp2
      go_roundw
      case rel => exact ⟨k + 1, by omega, by go_num, by rw [← mix_up]; exact Q0.out.set _ hlt, Q2.out.far (by simp) _, QD.out.setCell (by simp) _⟩
      case measure => simp [intOf]; omega
    · obtain rfl : k = 8 := by omega
      clear q0 q2 qd
      go_upto_region 6 with fail
      go_wp2_with (first | (refine ld _ w.heap.size Q0.out rfl rfl rfl ?_) | (refine st _ _ (w.heap.size + 1 + 1) _ Q2.out rfl rfl rfl rfl ?_))
      exact ret_row (p := 4) (by kernel_rfl) rfl (Q2.out.setRow _) rfl ⟨congrArg Ending.returned (arr_ext (mix_all _ _)), below_setRow QD.out (by omega) _⟩
def gcdF (a b : Nat → Int) : Nat → Int := fun k => if b k < a k then b k else a k
set_option maxHeartbeats 400000 in
theorem gcd_any (a b : Nat → Int) (w : World) : Calls Try.prog 23 #[arr a, arr b] w fun e w' => e = .returned (arr (gcdF a b)) ∧ Below w.heap.size w w' := by
  show Calls Try.prog 23 #[.agg #[.int .i64 (a 0), .int .i64 (a 1), .int .i64 (a 2), .int .i64 (a 3), .int .i64 (a 4), .int .i64 (a 5), .int .i64 (a 6), .int .i64 (a 7)], .agg #[.int .i64 (b 0), .int .i64 (b 1), .int .i64 (b 2), .int .i64 (b 3), .int .i64 (b 4), .int .i64 (b 5), .int .i64 (b 6), .int .i64 (b 7)]] w _
  go_enter Try.func23, Try.ntmps23
  go_wp2
  obtain ⟨W, hW⟩ : ∃ W, W = ((w.alloc (Obj.cells #[Value.int IntKind.i64 (a 0), Value.int IntKind.i64 (a 1), Value.int IntKind.i64 (a 2), Value.int IntKind.i64 (a 3), Value.int IntKind.i64 (a 4), Value.int IntKind.i64 (a 5), Value.int IntKind.i64 (a 6), Value.int IntKind.i64 (a 7)] 27)).alloc (Obj.cells #[Value.int IntKind.i64 (b 0), Value.int IntKind.i64 (b 1), Value.int IntKind.i64 (b 2), Value.int IntKind.i64 (b 3), Value.int IntKind.i64 (b 4), Value.int IntKind.i64 (b 5), Value.int IntKind.i64 (b 6), Value.int IntKind.i64 (b 7)] 27)).alloc (Obj.cells #[Value.int IntKind.i64 0, Value.int IntKind.i64 0, Value.int IntKind.i64 0, Value.int IntKind.i64 0, Value.int IntKind.i64 0, Value.int IntKind.i64 0, Value.int IntKind.i64 0, Value.int IntKind.i64 0] 27) := ⟨_, rfl⟩
  rw [← hW]
  obtain ⟨r0, r1, r2, hd, hz⟩ := three_rows w a b W hW
  have R0 := Lib.hid r0; have R2 := Lib.hid r2; have D := Lib.hid hd
  clear hW r0 r1 r2 hd hz
  go_loopw [5, 6, 8] (fun _ _ i wr => ∃ k : Nat, k ≤ 8 ∧ i = .int .i64 k ∧ Row wr w.heap.size (mix (gcdF a b) a k) ∧ Row wr (w.heap.size + 2) nul ∧ Below w.heap.size w wr) (fun _ _ i _ => 8 - (intOf i).toNat)
  case atStart => exact ⟨0, by omega, rfl, by rw [mix_zero]; exact R0.out, R2.out, D.out⟩
  case round =>
    obtain ⟨k, hk, rfl, q0, q2, qd⟩ := hrel
    have Q0 := Lib.hid q0; have Q2 := Lib.hid q2; have QD := Lib.hid qd
    by_cases hlt : k < 8
    · have hi := run_index_arr b hlt
      have c0 := q0.cell hlt
      rw [mix_at] at c0
      have f0 := q0.frozen k
      clear q0 q2 qd
      go_wp2
      go_roundw
      case rel => exact ⟨k + 1, by omega, by go_num, by rw [← mix_up]; exact Q0.out.set _ hlt, Q2.out.far (by simp) _, QD.out.setCell (by simp) _⟩
      case measure => simp [intOf]; omega
    · obtain rfl : k = 8 := by omega
      clear q0 q2 qd
      go_upto_region 6 with fail
      go_wp2_with (first | (refine ld _ w.heap.size Q0.out rfl rfl rfl ?_) | (refine st _ _ (w.heap.size + 1 + 1) _ Q2.out rfl rfl rfl rfl ?_))
      exact ret_row (p := 4) (by kernel_rfl) rfl (Q2.out.setRow _) rfl ⟨congrArg Ending.returned (arr_ext (mix_all _ _)), below_setRow QD.out (by omega) _⟩
def sumF (a b : Nat → Int) : Nat → Int := fun k => a k + b k
def difF (a b : Nat → Int) : Nat → Int := fun k => a k - b k
theorem below_link {B B' : Nat} {a w w' : World} (h : Below B a w) (hb : Below B' w w') (hB : B ≤ B') : Below B a w' := h.trans (hb.mono hB)
set_option maxHeartbeats 400000 in
theorem mul_ok (a b : Nat → Int) (w : World) (ha : Va a) (hb : Va b) (hs : Va (sumF a b)) : Calls Try.prog 13 #[arr a, arr b] w fun e w' => e = .returned (.tuple #[arr (sumF a b), .int .i64 0]) ∧ Below w.heap.size w w' := by
  have HA := Lib.hid ha; have HB := Lib.hid hb; have HS := Lib.hid hs
  clear ha hb hs
  show Calls Try.prog 13 #[.agg #[.int .i64 (a 0), .int .i64 (a 1), .int .i64 (a 2), .int .i64 (a 3), .int .i64 (a 4), .int .i64 (a 5), .int .i64 (a 6), .int .i64 (a 7)], .agg #[.int .i64 (b 0), .int .i64 (b 1), .int .i64 (b 2), .int .i64 (b 3), .int .i64 (b 4), .int .i64 (b 5), .int .i64 (b 6), .int .i64 (b 7)]] w _
  go_enter Try.func13, Try.ntmps13
  go_wp2
  obtain ⟨W, hW⟩ : ∃ W, W = ((w.alloc (Obj.cells #[Value.int IntKind.i64 (a 0), Value.int IntKind.i64 (a 1), Value.int IntKind.i64 (a 2), Value.int IntKind.i64 (a 3), Value.int IntKind.i64 (a 4), Value.int IntKind.i64 (a 5), Value.int IntKind.i64 (a 6), Value.int IntKind.i64 (a 7)] 27)).alloc (Obj.cells #[Value.int IntKind.i64 (b 0), Value.int IntKind.i64 (b 1), Value.int IntKind.i64 (b 2), Value.int IntKind.i64 (b 3), Value.int IntKind.i64 (b 4), Value.int IntKind.i64 (b 5), Value.int IntKind.i64 (b 6), Value.int IntKind.i64 (b 7)] 27)).alloc (Obj.cells #[Value.int IntKind.i64 0, Value.int IntKind.i64 0, Value.int IntKind.i64 0, Value.int IntKind.i64 0, Value.int IntKind.i64 0, Value.int IntKind.i64 0, Value.int IntKind.i64 0, Value.int IntKind.i64 0] 27) := ⟨_, rfl⟩
  rw [← hW]
  obtain ⟨r0, r1, r2, hd, hz⟩ := three_rows w a b W hW
  have R0 := Lib.hid r0; have R1 := Lib.hid r1; have R2 := Lib.hid r2; have D := Lib.hid hd; have Z := Lib.hid hz
  clear hW r0 r1 r2 hd hz
  go_loopw [6, 7, 9] (fun _ _ i wr => ∃ k : Nat, k ≤ 8 ∧ i = .int .i64 k ∧ Row wr w.heap.size (mix (sumF a b) a k) ∧ Row wr (w.heap.size + 2) nul ∧ Below w.heap.size w wr ∧ w.heap.size + 3 ≤ wr.heap.size) (fun _ _ i _ => 8 - (intOf i).toNat)
  case atStart => exact ⟨0, by omega, rfl, by rw [mix_zero]; exact R0.out, R2.out, D.out, by rw [Z.out]; omega⟩
  case round =>
    obtain ⟨k, hk, rfl, q0, q2, qd, qz⟩ := hrel
    have Q0 := Lib.hid q0; have Q2 := Lib.hid q2; have QD := Lib.hid qd; have QZ := Lib.hid qz
    by_cases hlt : k < 8
    · have hi := run_index_arr b hlt
      have c0 := q0.cell hlt
      rw [mix_at] at c0
      have f0 := q0.frozen k
      clear q0 q2 qd qz
      obtain ⟨x1, x2⟩ := HA.out k hlt
      obtain ⟨x3, x4⟩ := HB.out k hlt
      go_wp2
      go_roundw
      case rel => exact ⟨k + 1, by omega, by go_num, by rw [← mix_up]; exact Q0.out.set _ hlt, Q2.out.far (by simp) _, QD.out.setCell (by simp) _, by simp; exact QZ.out⟩
      case measure => simp [intOf]; omega
    · obtain rfl : k = 8 := by omega
      clear q0 q2 qd qz
      go_upto_region 6 with fail
      go_wp2_with (first | (refine ld _ w.heap.size Q0.out rfl rfl rfl ?_) | fail)
      refine (valid_true (mix (sumF a b) a 8) _ (fun k hk => by rw [mix_all _ _ k hk]; exact HS.out k hk)).mono ?_
      rintro e w1 ⟨rfl, hb1⟩
      have B1 := Lib.hid hb1
      have Q0b := Lib.hid (Q0.out.below hb1 Q0.out.lt)
      have Q2b := Lib.hid (Q2.out.below hb1 Q2.out.lt)
      clear hb1
      go_wp2_with (first | (refine ld _ w.heap.size Q0b.out rfl rfl rfl ?_) | (refine st _ _ (w.heap.size + 1 + 1) _ Q2b.out rfl rfl rfl rfl ?_))
      exact ret_row2 (p := 4) (q := 5) (by kernel_rfl) rfl rfl (Q2b.out.setRow _) rfl ⟨congrArg (fun x => Ending.returned (.tuple #[x, _])) (arr_ext (mix_all _ _)), below_setRow (below_link QD.out B1.out (by have := QZ.out; omega)) (by omega) _⟩
set_option maxHeartbeats 400000 in
/-- Index n is the first one at which the sum is too great. -/
theorem mul_big (a b : Nat → Int) (n : Nat) (w : World) (ha : Va a) (hb : Va b) (hn : n < 8) (hs : ∀ k, k < n → a k + b k ≤ 65535) (hx : 65535 < a n + b n) : Calls Try.prog 13 #[arr a, arr b] w fun e w' => e = .returned (.tuple #[arr nul, .int .i64 2]) ∧ Below w.heap.size w w' := by
  have HA := Lib.hid ha; have HB := Lib.hid hb; have HS := Lib.hid hs; have HX := Lib.hid hx
  clear ha hb hs hx
  show Calls Try.prog 13 #[.agg #[.int .i64 (a 0), .int .i64 (a 1), .int .i64 (a 2), .int .i64 (a 3), .int .i64 (a 4), .int .i64 (a 5), .int .i64 (a 6), .int .i64 (a 7)], .agg #[.int .i64 (b 0), .int .i64 (b 1), .int .i64 (b 2), .int .i64 (b 3), .int .i64 (b 4), .int .i64 (b 5), .int .i64 (b 6), .int .i64 (b 7)]] w _
  go_enter Try.func13, Try.ntmps13
  go_wp2
  obtain ⟨W, hW⟩ : ∃ W, W = ((w.alloc (Obj.cells #[Value.int IntKind.i64 (a 0), Value.int IntKind.i64 (a 1), Value.int IntKind.i64 (a 2), Value.int IntKind.i64 (a 3), Value.int IntKind.i64 (a 4), Value.int IntKind.i64 (a 5), Value.int IntKind.i64 (a 6), Value.int IntKind.i64 (a 7)] 27)).alloc (Obj.cells #[Value.int IntKind.i64 (b 0), Value.int IntKind.i64 (b 1), Value.int IntKind.i64 (b 2), Value.int IntKind.i64 (b 3), Value.int IntKind.i64 (b 4), Value.int IntKind.i64 (b 5), Value.int IntKind.i64 (b 6), Value.int IntKind.i64 (b 7)] 27)).alloc (Obj.cells #[Value.int IntKind.i64 0, Value.int IntKind.i64 0, Value.int IntKind.i64 0, Value.int IntKind.i64 0, Value.int IntKind.i64 0, Value.int IntKind.i64 0, Value.int IntKind.i64 0, Value.int IntKind.i64 0] 27) := ⟨_, rfl⟩
  rw [← hW]
  obtain ⟨r0, r1, r2, hd, hz⟩ := three_rows w a b W hW
  have R0 := Lib.hid r0; have R1 := Lib.hid r1; have R2 := Lib.hid r2; have D := Lib.hid hd; have Z := Lib.hid hz
  clear hW r0 r1 r2 hd hz
  go_loopw [6, 7, 9] (fun _ _ i wr => ∃ k : Nat, k ≤ 8 ∧ i = .int .i64 k ∧ Row wr w.heap.size (mix (sumF a b) a k) ∧ Row wr (w.heap.size + 2) nul ∧ Below w.heap.size w wr ∧ w.heap.size + 3 ≤ wr.heap.size) (fun _ _ i _ => 8 - (intOf i).toNat)
  case atStart => exact ⟨0, by omega, rfl, by rw [mix_zero]; exact R0.out, R2.out, D.out, by rw [Z.out]; omega⟩
  case round =>
    obtain ⟨k, hk, rfl, q0, q2, qd, qz⟩ := hrel
    have Q0 := Lib.hid q0; have Q2 := Lib.hid q2; have QD := Lib.hid qd; have QZ := Lib.hid qz
    by_cases hlt : k < 8
    · have hi := run_index_arr b hlt
      have c0 := q0.cell hlt
      rw [mix_at] at c0
      have f0 := q0.frozen k
      clear q0 q2 qd qz
      obtain ⟨x1, x2⟩ := HA.out k hlt
      obtain ⟨x3, x4⟩ := HB.out k hlt
      go_wp2
      go_roundw
      case rel => exact ⟨k + 1, by omega, by go_num, by rw [← mix_up]; exact Q0.out.set _ hlt, Q2.out.far (by simp) _, QD.out.setCell (by simp) _, by simp; exact QZ.out⟩
      case measure => simp [intOf]; omega
    · obtain rfl : k = 8 := by omega
      clear q0 q2 qd qz
      go_upto_region 6 with fail
      go_wp2_with (first | (refine ld _ w.heap.size Q0.out rfl rfl rfl ?_) | fail)
      refine (valid_false (mix (sumF a b) a 8) n _ hn (fun k hk => by rw [mix_all _ _ k (by omega)]; have := HS.out k hk; have := HA.out k (by omega); have := HB.out k (by omega); unfold sumF; omega) (by rw [mix_all _ _ n hn]; have := HX.out; unfold sumF; omega)).mono ?_
      rintro e w1 ⟨rfl, hb1⟩
      have B1 := Lib.hid hb1
      have Q2b := Lib.hid (Q2.out.below hb1 Q2.out.lt)
      clear hb1
      go_wp2_with (first | (refine st _ _ (w.heap.size + 1 + 1) nul Q2b.out rfl rfl rfl rfl ?_))
      exact ret_row2 (p := 4) (q := 5) (by kernel_rfl) rfl rfl (Q2b.out.setRow _) rfl ⟨rfl, below_setRow (below_link QD.out B1.out (by have := QZ.out; omega)) (by omega) _⟩
set_option maxHeartbeats 400000 in
theorem quo_ok (a b : Nat → Int) (w : World) (ha : Va a) (hb : Va b) (hd : ∀ k, k < 8 → b k ≤ a k) : Calls Try.prog 15 #[arr a, arr b] w fun e w' => e = .returned (.tuple #[arr (difF a b), .bool true]) ∧ Below w.heap.size w w' := by
  have HA := Lib.hid ha; have HB := Lib.hid hb; have HS := Lib.hid hd
  clear ha hb hd
  show Calls Try.prog 15 #[.agg #[.int .i64 (a 0), .int .i64 (a 1), .int .i64 (a 2), .int .i64 (a 3), .int .i64 (a 4), .int .i64 (a 5), .int .i64 (a 6), .int .i64 (a 7)], .agg #[.int .i64 (b 0), .int .i64 (b 1), .int .i64 (b 2), .int .i64 (b 3), .int .i64 (b 4), .int .i64 (b 5), .int .i64 (b 6), .int .i64 (b 7)]] w _
  go_enter Try.func15, Try.ntmps15
  go_upto_region 1 with fail
  obtain ⟨W, hW⟩ : ∃ W, W = ((w.alloc (Obj.cells #[Value.int IntKind.i64 (a 0), Value.int IntKind.i64 (a 1), Value.int IntKind.i64 (a 2), Value.int IntKind.i64 (a 3), Value.int IntKind.i64 (a 4), Value.int IntKind.i64 (a 5), Value.int IntKind.i64 (a 6), Value.int IntKind.i64 (a 7)] 27)).alloc (Obj.cells #[Value.int IntKind.i64 (b 0), Value.int IntKind.i64 (b 1), Value.int IntKind.i64 (b 2), Value.int IntKind.i64 (b 3), Value.int IntKind.i64 (b 4), Value.int IntKind.i64 (b 5), Value.int IntKind.i64 (b 6), Value.int IntKind.i64 (b 7)] 27)).alloc (Obj.cells #[Value.int IntKind.i64 0, Value.int IntKind.i64 0, Value.int IntKind.i64 0, Value.int IntKind.i64 0, Value.int IntKind.i64 0, Value.int IntKind.i64 0, Value.int IntKind.i64 0, Value.int IntKind.i64 0] 27) := ⟨_, rfl⟩
  rw [← hW]
  obtain ⟨r0, r1, r2, hd, hz⟩ := three_rows w a b W hW
  have R0 := Lib.hid r0; have R1 := Lib.hid r1; have R2 := Lib.hid r2; have D := Lib.hid hd; have Z := Lib.hid hz
  clear hW r0 r1 r2 hd hz
  go_wp2_with (first | (refine ld _ (w.heap.size + 1) R1.out rfl rfl rfl ?_) | (refine ld _ w.heap.size R0.out rfl rfl rfl ?_) | fail)
  refine (divides_true b a _ HS.out).mono ?_
  rintro e w1 ⟨rfl, hb1⟩
  replace D := Lib.hid (below_link D.out hb1 (by rw [Z.out]; omega))
  replace Z : Hid (w.heap.size + 3 ≤ w1.heap.size) := by have := Z.out; have := hb1.size; show _ ≤ _; omega
  replace R0 := Lib.hid (R0.out.below hb1 R0.out.lt)
  replace R1 := Lib.hid (R1.out.below hb1 R1.out.lt)
  replace R2 := Lib.hid (R2.out.below hb1 R2.out.lt)
  clear hb1
  go_wp2_with (first | (refine ld _ (w.heap.size + 1) R1.out rfl rfl rfl ?_) | fail)
  go_loopw [6, 7, 14] (fun _ _ i wr => ∃ k : Nat, k ≤ 8 ∧ i = .int .i64 k ∧ Row wr w.heap.size (mix (difF a b) a k) ∧ Row wr (w.heap.size + 2) nul ∧ Below w.heap.size w wr ∧ w.heap.size + 3 ≤ wr.heap.size) (fun _ _ i _ => 8 - (intOf i).toNat)
  case atStart => exact ⟨0, by omega, rfl, by rw [mix_zero]; exact R0.out, R2.out, D.out, Z.out⟩
  case round =>
    obtain ⟨k, hk, rfl, q0, q2, qd, qz⟩ := hrel
    have Q0 := Lib.hid q0; have Q2 := Lib.hid q2; have QD := Lib.hid qd; have QZ := Lib.hid qz
    by_cases hlt : k < 8
    · have hi := run_index_arr b hlt
      have c0 := q0.cell hlt
      rw [mix_at] at c0
      have f0 := q0.frozen k
      clear q0 q2 qd qz
      have HD := HS.out k hlt
      obtain ⟨x1, x2⟩ := HA.out k hlt
      obtain ⟨x3, x4⟩ := HB.out k hlt
      go_wp2
      go_roundw
      case rel => exact ⟨k + 1, by omega, by go_num, by rw [← mix_up]; exact Q0.out.set _ hlt, Q2.out.far (by simp) _, QD.out.setCell (by simp) _, by simp; exact QZ.out⟩
      case measure => simp [intOf]; omega
    · obtain rfl : k = 8 := by omega
      clear q0 q2 qd qz
      go_upto_region 8 with fail
      go_wp2_with (first | (refine ld _ w.heap.size Q0.out rfl rfl rfl ?_) | (refine st _ _ (w.heap.size + 1 + 1) _ Q2.out rfl rfl rfl rfl ?_))
      exact ret_row2 (p := 4) (q := 5) (by kernel_rfl) rfl rfl (Q2.out.setRow _) rfl ⟨congrArg (fun x => Ending.returned (.tuple #[x, _])) (arr_ext (mix_all _ _)), below_setRow QD.out (by omega) _⟩
set_option maxHeartbeats 400000 in
/-- Index n is the first one at which b has the greater exponent. -/
theorem quo_no (a b : Nat → Int) (n : Nat) (w : World) (hn : n < 8) (hs : ∀ k, k < n → b k ≤ a k) (hx : a n < b n) : Calls Try.prog 15 #[arr a, arr b] w fun e w' => e = .returned (.tuple #[arr nul, .bool false]) ∧ Below w.heap.size w w' := by
  have HS := Lib.hid hs; have HX := Lib.hid hx
  clear hs hx
  show Calls Try.prog 15 #[.agg #[.int .i64 (a 0), .int .i64 (a 1), .int .i64 (a 2), .int .i64 (a 3), .int .i64 (a 4), .int .i64 (a 5), .int .i64 (a 6), .int .i64 (a 7)], .agg #[.int .i64 (b 0), .int .i64 (b 1), .int .i64 (b 2), .int .i64 (b 3), .int .i64 (b 4), .int .i64 (b 5), .int .i64 (b 6), .int .i64 (b 7)]] w _
  go_enter Try.func15, Try.ntmps15
  go_upto_region 1 with fail
  obtain ⟨W, hW⟩ : ∃ W, W = ((w.alloc (Obj.cells #[Value.int IntKind.i64 (a 0), Value.int IntKind.i64 (a 1), Value.int IntKind.i64 (a 2), Value.int IntKind.i64 (a 3), Value.int IntKind.i64 (a 4), Value.int IntKind.i64 (a 5), Value.int IntKind.i64 (a 6), Value.int IntKind.i64 (a 7)] 27)).alloc (Obj.cells #[Value.int IntKind.i64 (b 0), Value.int IntKind.i64 (b 1), Value.int IntKind.i64 (b 2), Value.int IntKind.i64 (b 3), Value.int IntKind.i64 (b 4), Value.int IntKind.i64 (b 5), Value.int IntKind.i64 (b 6), Value.int IntKind.i64 (b 7)] 27)).alloc (Obj.cells #[Value.int IntKind.i64 0, Value.int IntKind.i64 0, Value.int IntKind.i64 0, Value.int IntKind.i64 0, Value.int IntKind.i64 0, Value.int IntKind.i64 0, Value.int IntKind.i64 0, Value.int IntKind.i64 0] 27) := ⟨_, rfl⟩
  rw [← hW]
  obtain ⟨r0, r1, r2, hd, hz⟩ := three_rows w a b W hW
  have R0 := Lib.hid r0; have R1 := Lib.hid r1; have R2 := Lib.hid r2; have D := Lib.hid hd; have Z := Lib.hid hz
  clear hW r0 r1 r2 hd hz
  go_wp2_with (first | (refine ld _ (w.heap.size + 1) R1.out rfl rfl rfl ?_) | (refine ld _ w.heap.size R0.out rfl rfl rfl ?_) | fail)
  refine (divides_false b a n _ hn HS.out HX.out).mono ?_
  rintro e w1 ⟨rfl, hb1⟩
  replace D := Lib.hid (below_link D.out hb1 (by rw [Z.out]; omega))
  replace R2 := Lib.hid (R2.out.below hb1 R2.out.lt)
  clear hb1
  go_wp2_with (first | (refine st _ _ (w.heap.size + 1 + 1) nul R2.out rfl rfl rfl rfl ?_))
  exact ret_row2 (p := 4) (q := 5) (by kernel_rfl) rfl rfl (R2.out.setRow _) rfl ⟨rfl, below_setRow D.out (by omega) _⟩
end Go.Proofs.Ytchkaaeipafdnaa
