/-
  The reference: Valid, Degree, Bit, Support, Divides, Cmp, Mul, Quo, Lcm, Gcd, Made.
-/
import Derived.Test.YtchkaaeipafdnaaMonC
import Derived.RegionTactic
import Derived.BigRegion
namespace Go.Proofs.Ytchkaaeipafdnaa
open Go.RowKit
attribute [local go_sem ↓] Go.wp_at_zero Go.wp_at_succ

set_option maxHeartbeats 400000 in
theorem rvalid_true (a : Nat → Int) (w : World) (h : Va a) : Calls Try.prog 31 #[arr a] w fun e w' => e = .returned (.bool true) ∧ Below w.heap.size w w' := by
  have H := Lib.hid h
  clear h
  show Calls Try.prog 31 #[.agg #[.int .i64 (a 0), .int .i64 (a 1), .int .i64 (a 2), .int .i64 (a 3), .int .i64 (a 4), .int .i64 (a 5), .int .i64 (a 6), .int .i64 (a 7)]] w _
  go_enter Try.func31, Try.ntmps31
  go_wp2
  have R := Lib.hid (Row.new w a); have D := Lib.hid ((Below.refl w.heap.size w).alloc (Nat.le_refl _) (Obj.cells #[Value.int IntKind.i64 (a 0), Value.int IntKind.i64 (a 1), Value.int IntKind.i64 (a 2), Value.int IntKind.i64 (a 3), Value.int IntKind.i64 (a 4), Value.int IntKind.i64 (a 5), Value.int IntKind.i64 (a 6), Value.int IntKind.i64 (a 7)] 27))
  generalize w.alloc (Obj.cells #[Value.int IntKind.i64 (a 0), Value.int IntKind.i64 (a 1), Value.int IntKind.i64 (a 2), Value.int IntKind.i64 (a 3), Value.int IntKind.i64 (a 4), Value.int IntKind.i64 (a 5), Value.int IntKind.i64 (a 6), Value.int IntKind.i64 (a 7)] 27) = W at *
  go_loop [3] (fun i => ∃ k : Nat, k ≤ 8 ∧ i = .int .i64 k) (fun i => 8 - (intOf i).toNat)
  case atStart => exact ⟨0, by omega, rfl⟩
  case round =>
    obtain ⟨k, hk, rfl⟩ := hrel
    by_cases hlt : k < 8
    · have hc := R.out.cell hlt
      obtain ⟨h1, h2⟩ := H.out k hlt
      go_wp2
      go_round
      case rel => exact ⟨k + 1, by omega, by go_num⟩
      case measure => simp [intOf]; omega
    · go_wp2
      go_ret
      exact ⟨rfl, D.out⟩
set_option maxHeartbeats 400000 in
theorem rdegree_any (a : Nat → Int) (w : World) (h : Va a) : Calls Try.prog 26 #[arr a] w fun e w' => e = .returned (.int .i64 (sm a 8)) ∧ Below w.heap.size w w' := by
  have H := Lib.hid h
  clear h
  show Calls Try.prog 26 #[.agg #[.int .i64 (a 0), .int .i64 (a 1), .int .i64 (a 2), .int .i64 (a 3), .int .i64 (a 4), .int .i64 (a 5), .int .i64 (a 6), .int .i64 (a 7)]] w _
  go_enter Try.func26, Try.ntmps26
  go_wp2
  have R := Lib.hid (Row.new w a); have D := Lib.hid ((Below.refl w.heap.size w).alloc (Nat.le_refl _) (Obj.cells #[Value.int IntKind.i64 (a 0), Value.int IntKind.i64 (a 1), Value.int IntKind.i64 (a 2), Value.int IntKind.i64 (a 3), Value.int IntKind.i64 (a 4), Value.int IntKind.i64 (a 5), Value.int IntKind.i64 (a 6), Value.int IntKind.i64 (a 7)] 27))
  generalize w.alloc (Obj.cells #[Value.int IntKind.i64 (a 0), Value.int IntKind.i64 (a 1), Value.int IntKind.i64 (a 2), Value.int IntKind.i64 (a 3), Value.int IntKind.i64 (a 4), Value.int IntKind.i64 (a 5), Value.int IntKind.i64 (a 6), Value.int IntKind.i64 (a 7)] 27) = W at *
  go_loop [3, 4] (fun s i => ∃ k : Nat, k ≤ 8 ∧ i = .int .i64 k ∧ s = .int .i64 (sm a k)) (fun _ i => 8 - (intOf i).toNat)
  case atStart => exact ⟨0, by omega, rfl, rfl⟩
  case round =>
    obtain ⟨k, hk, rfl, rfl⟩ := hrel
    obtain ⟨s1, s2⟩ := sm_bd H.out hk
    by_cases hlt : k < 8
    · have hc := R.out.cell hlt
      obtain ⟨h1, h2⟩ := H.out k hlt
      go_wp2
      go_round
      case rel => exact ⟨k + 1, by omega, by go_num, rfl⟩
      case measure => simp [intOf]; omega
    · obtain rfl : k = 8 := by omega
      go_wp2
      go_ret
      exact ⟨rfl, D.out⟩
def pw (k : Nat) : Nat := 2 ^ k
theorem pw_succ (k : Nat) : pw (k + 1) = 2 * pw k := by unfold pw; rw [Nat.pow_succ]; omega
theorem pw_bd {k : Nat} (h : k ≤ 7) : 1 ≤ pw k ∧ pw k ≤ 128 := ⟨Nat.pow_pos (by omega), Nat.pow_le_pow_right (n := 2) (by omega) h⟩
theorem sp_pw (a : Nat → Int) (k : Nat) : sp a (k + 1) = if 0 < a k then sp a k + pw k else sp a k := rfl
set_option maxHeartbeats 400000 in
theorem bit_any (k : Nat) (w : World) (hk : k < 8) : Calls Try.prog 37 #[.int .i64 k] w fun e w' => e = .returned (.int .u8 (pw k : Nat)) ∧ w = w' := by
  go_enter Try.func37, Try.ntmps37
  go_wp2
  go_loop [3, 4] (fun n i => ∃ j : Nat, j ≤ k ∧ i = .int .i64 j ∧ n = .int .i64 (pw j : Nat)) (fun _ i => k - (intOf i).toNat)
  case atStart => exact ⟨0, by omega, rfl, rfl⟩
  case round =>
    obtain ⟨j, hj, rfl, rfl⟩ := hrel
    obtain ⟨p1, p2⟩ := pw_bd (show j ≤ 7 by omega)
    by_cases hlt : j < k
    · go_wp2
      go_round
      case rel => exact ⟨j + 1, by omega, by go_num, by rw [pw_succ]; go_num⟩
      case measure => simp [intOf]; omega
    · obtain rfl : j = k := by omega
      go_wp2
      go_ret
      exact ⟨rfl, rfl⟩
set_option maxHeartbeats 400000 in
theorem rsupport_any (a : Nat → Int) (w : World) : Calls Try.prog 28 #[arr a] w fun e w' => e = .returned (.int .u8 (sp a 8 : Nat)) ∧ Below w.heap.size w w' := by
  show Calls Try.prog 28 #[.agg #[.int .i64 (a 0), .int .i64 (a 1), .int .i64 (a 2), .int .i64 (a 3), .int .i64 (a 4), .int .i64 (a 5), .int .i64 (a 6), .int .i64 (a 7)]] w _
  go_enter Try.func28, Try.ntmps28
  go_wp2
  have R := Lib.hid (Row.new w a); have D := Lib.hid ((Below.refl w.heap.size w).alloc (Nat.le_refl _) (Obj.cells #[Value.int IntKind.i64 (a 0), Value.int IntKind.i64 (a 1), Value.int IntKind.i64 (a 2), Value.int IntKind.i64 (a 3), Value.int IntKind.i64 (a 4), Value.int IntKind.i64 (a 5), Value.int IntKind.i64 (a 6), Value.int IntKind.i64 (a 7)] 27))
  generalize w.alloc (Obj.cells #[Value.int IntKind.i64 (a 0), Value.int IntKind.i64 (a 1), Value.int IntKind.i64 (a 2), Value.int IntKind.i64 (a 3), Value.int IntKind.i64 (a 4), Value.int IntKind.i64 (a 5), Value.int IntKind.i64 (a 6), Value.int IntKind.i64 (a 7)] 27) = W at *
  go_loop [3, 4] (fun s i => ∃ k : Nat, k ≤ 8 ∧ i = .int .i64 k ∧ s = .int .u8 (sp a k : Nat)) (fun _ i => 8 - (intOf i).toNat)
  case atStart => exact ⟨0, by omega, rfl, rfl⟩
  case round =>
    obtain ⟨k, hk, rfl, rfl⟩ := hrel
    by_cases hlt : k < 8
    · have hc := R.out.cell hlt
      have hl : sp a k < pw k := sp_lt a k
      obtain ⟨p1, p2⟩ := pw_bd (show k ≤ 7 by omega)
      by_cases hp : 0 < a k
      · have HP := Lib.hid (show sp a (k + 1) = sp a k + pw k by rw [sp_pw, if_pos hp])
        go_wp2_with fail
        refine (bit_any k _ hlt).mono ?_
        rintro e w' ⟨rfl, rfl⟩
        go_wp2_with fail
        go_round
        case rel => exact ⟨k + 1, by omega, by go_num, by rw [HP.out]; go_num⟩
        case measure => simp [intOf]; omega
      · have HP := Lib.hid (show sp a (k + 1) = sp a k by rw [sp_pw, if_neg hp])
        have hp1 : a k ≤ 0 := by omega
        go_wp2
        go_round
        case rel => exact ⟨k + 1, by omega, by go_num, by rw [HP.out]⟩
        case measure => simp [intOf]; omega
    · obtain rfl : k = 8 := by omega
      go_wp2
      go_ret
      exact ⟨rfl, D.out⟩
set_option maxHeartbeats 400000 in
theorem rdivides_true (a b : Nat → Int) (w : World) (h : ∀ k, k < 8 → a k ≤ b k) : Calls Try.prog 18 #[arr a, arr b] w fun e w' => e = .returned (.bool true) ∧ Below w.heap.size w w' := by
  have H := Lib.hid h
  clear h
  show Calls Try.prog 18 #[.agg #[.int .i64 (a 0), .int .i64 (a 1), .int .i64 (a 2), .int .i64 (a 3), .int .i64 (a 4), .int .i64 (a 5), .int .i64 (a 6), .int .i64 (a 7)], .agg #[.int .i64 (b 0), .int .i64 (b 1), .int .i64 (b 2), .int .i64 (b 3), .int .i64 (b 4), .int .i64 (b 5), .int .i64 (b 6), .int .i64 (b 7)]] w _
  go_enter Try.func18, Try.ntmps18
  go_wp2
  obtain ⟨r0, r1, hd, hz⟩ := two_rows w a b
  have R0 := Lib.hid r0; have R1 := Lib.hid r1; have D := Lib.hid hd
  clear r0 r1 hd hz
  generalize (w.alloc (Obj.cells #[Value.int IntKind.i64 (a 0), Value.int IntKind.i64 (a 1), Value.int IntKind.i64 (a 2), Value.int IntKind.i64 (a 3), Value.int IntKind.i64 (a 4), Value.int IntKind.i64 (a 5), Value.int IntKind.i64 (a 6), Value.int IntKind.i64 (a 7)] 27)).alloc (Obj.cells #[Value.int IntKind.i64 (b 0), Value.int IntKind.i64 (b 1), Value.int IntKind.i64 (b 2), Value.int IntKind.i64 (b 3), Value.int IntKind.i64 (b 4), Value.int IntKind.i64 (b 5), Value.int IntKind.i64 (b 6), Value.int IntKind.i64 (b 7)] 27) = W at *
  go_loopw [5] (fun i wr => ∃ k : Nat, k ≤ 8 ∧ i = .int .i64 k ∧ Row wr w.heap.size a ∧ Row wr (w.heap.size + 1) b ∧ Below w.heap.size w wr) (fun i _ => 8 - (intOf i).toNat)
  case atStart => exact ⟨0, by omega, rfl, R0.out, R1.out, D.out⟩
  case round =>
    obtain ⟨k, hk, rfl, q0, q1, qd⟩ := hrel
    have Q0 := Lib.hid q0; have Q1 := Lib.hid q1; have QD := Lib.hid qd
    by_cases hlt : k < 8
    · have c0 := q0.cell hlt
      have c1 := q1.cell hlt
      have h1 := H.out k hlt
      clear q0 q1 qd
      go_wp2_with fail
      go_quiet (fail)
      go_wp2
      go_roundw
      case rel => exact ⟨k + 1, by omega, by go_num, Q0.out.drewN _, Q1.out.drewN _, bdrew QD.out⟩
      case measure => simp [intOf]; omega
    · clear q0 q1 qd
      go_wp2
      go_ret
      exact ⟨rfl, QD.out⟩
set_option maxHeartbeats 400000 in
theorem rdivides_false (a b : Nat → Int) (n : Nat) (w : World) (hn : n < 8) (h : ∀ k, k < n → a k ≤ b k) (hx : b n < a n) : Calls Try.prog 18 #[arr a, arr b] w fun e w' => e = .returned (.bool false) ∧ Below w.heap.size w w' := by
  have H := Lib.hid h; have HX := Lib.hid hx
  clear h hx
  show Calls Try.prog 18 #[.agg #[.int .i64 (a 0), .int .i64 (a 1), .int .i64 (a 2), .int .i64 (a 3), .int .i64 (a 4), .int .i64 (a 5), .int .i64 (a 6), .int .i64 (a 7)], .agg #[.int .i64 (b 0), .int .i64 (b 1), .int .i64 (b 2), .int .i64 (b 3), .int .i64 (b 4), .int .i64 (b 5), .int .i64 (b 6), .int .i64 (b 7)]] w _
  go_enter Try.func18, Try.ntmps18
  go_wp2
  obtain ⟨r0, r1, hd, hz⟩ := two_rows w a b
  have R0 := Lib.hid r0; have R1 := Lib.hid r1; have D := Lib.hid hd
  clear r0 r1 hd hz
  generalize (w.alloc (Obj.cells #[Value.int IntKind.i64 (a 0), Value.int IntKind.i64 (a 1), Value.int IntKind.i64 (a 2), Value.int IntKind.i64 (a 3), Value.int IntKind.i64 (a 4), Value.int IntKind.i64 (a 5), Value.int IntKind.i64 (a 6), Value.int IntKind.i64 (a 7)] 27)).alloc (Obj.cells #[Value.int IntKind.i64 (b 0), Value.int IntKind.i64 (b 1), Value.int IntKind.i64 (b 2), Value.int IntKind.i64 (b 3), Value.int IntKind.i64 (b 4), Value.int IntKind.i64 (b 5), Value.int IntKind.i64 (b 6), Value.int IntKind.i64 (b 7)] 27) = W at *
  go_loopw [5] (fun i wr => ∃ k : Nat, k ≤ n ∧ i = .int .i64 k ∧ Row wr w.heap.size a ∧ Row wr (w.heap.size + 1) b ∧ Below w.heap.size w wr) (fun i _ => 8 - (intOf i).toNat)
  case atStart => exact ⟨0, by omega, rfl, R0.out, R1.out, D.out⟩
  case round =>
    obtain ⟨k, hk, rfl, q0, q1, qd⟩ := hrel
    have Q0 := Lib.hid q0; have Q1 := Lib.hid q1; have QD := Lib.hid qd
    have c0 := q0.cell (show k < 8 by omega)
    have c1 := q1.cell (show k < 8 by omega)
    clear q0 q1 qd
    by_cases hlt : k < n
    · have h1 := H.out k hlt
      go_wp2_with fail
      go_quiet (fail)
      go_wp2
      go_roundw
      case rel => exact ⟨k + 1, by omega, by go_num, Q0.out.drewN _, Q1.out.drewN _, bdrew QD.out⟩
      case measure => simp [intOf]; omega
    · obtain rfl : k = n := by omega
      have h1 := HX.out
      go_wp2_with fail
      go_quiet (fail)
      go_wp2
      go_ret
      exact ⟨rfl, bdrew QD.out⟩
set_option maxHeartbeats 400000 in
theorem rcmp_lt (a b : Nat → Int) (n : Nat) (w : World) (hn : n < 8) (h : ∀ k, k < n → a k = b k) (hx : a n < b n) : Calls Try.prog 20 #[arr a, arr b] w fun e w' => e = .returned (.int .i64 (-1)) ∧ Below w.heap.size w w' := by
  have H := Lib.hid h; have HX := Lib.hid hx
  clear h hx
  show Calls Try.prog 20 #[.agg #[.int .i64 (a 0), .int .i64 (a 1), .int .i64 (a 2), .int .i64 (a 3), .int .i64 (a 4), .int .i64 (a 5), .int .i64 (a 6), .int .i64 (a 7)], .agg #[.int .i64 (b 0), .int .i64 (b 1), .int .i64 (b 2), .int .i64 (b 3), .int .i64 (b 4), .int .i64 (b 5), .int .i64 (b 6), .int .i64 (b 7)]] w _
  go_enter Try.func20, Try.ntmps20
  go_wp2
  obtain ⟨r0, r1, hd, hz⟩ := two_rows w a b
  have R0 := Lib.hid r0; have R1 := Lib.hid r1; have D := Lib.hid hd
  clear r0 r1 hd hz
  generalize (w.alloc (Obj.cells #[Value.int IntKind.i64 (a 0), Value.int IntKind.i64 (a 1), Value.int IntKind.i64 (a 2), Value.int IntKind.i64 (a 3), Value.int IntKind.i64 (a 4), Value.int IntKind.i64 (a 5), Value.int IntKind.i64 (a 6), Value.int IntKind.i64 (a 7)] 27)).alloc (Obj.cells #[Value.int IntKind.i64 (b 0), Value.int IntKind.i64 (b 1), Value.int IntKind.i64 (b 2), Value.int IntKind.i64 (b 3), Value.int IntKind.i64 (b 4), Value.int IntKind.i64 (b 5), Value.int IntKind.i64 (b 6), Value.int IntKind.i64 (b 7)] 27) = W at *
  go_loopw [5] (fun i wr => ∃ k : Nat, k ≤ n ∧ i = .int .i64 k ∧ Row wr w.heap.size a ∧ Row wr (w.heap.size + 1) b ∧ Below w.heap.size w wr) (fun i _ => 8 - (intOf i).toNat)
  case atStart => exact ⟨0, by omega, rfl, R0.out, R1.out, D.out⟩
  case round =>
    obtain ⟨k, hk, rfl, q0, q1, qd⟩ := hrel
    have Q0 := Lib.hid q0; have Q1 := Lib.hid q1; have QD := Lib.hid qd
    have c0 := q0.cell (show k < 8 by omega)
    have c1 := q1.cell (show k < 8 by omega)
    clear q0 q1 qd
    by_cases hlt : k < n
    · have h1 := H.out k hlt
      have e1 : decide (a k < b k) = false := by simp; omega
      have e2 : decide (b k < a k) = false := by simp; omega
      clear h1
      go_wp2_with fail
      go_quiet (fail)
      go_wp2_with fail
      go_quiet (fail)
      go_wp2
      go_roundw
      case rel => exact ⟨k + 1, by omega, by go_num, Q0.out.drewN _, Q1.out.drewN _, bdrew QD.out⟩
      case measure => simp [intOf]; omega
    · obtain rfl : k = n := by omega
      have h1 := HX.out
      have e1 : decide (a k < b k) = true := by simp; omega
      have e2 : decide (b k < a k) = false := by simp; omega
      clear h1
      go_wp2_with fail
      go_quiet (fail)
      go_wp2
      go_ret
      exact ⟨rfl, bdrew QD.out⟩
set_option maxHeartbeats 400000 in
theorem rcmp_gt (a b : Nat → Int) (n : Nat) (w : World) (hn : n < 8) (h : ∀ k, k < n → a k = b k) (hx : b n < a n) : Calls Try.prog 20 #[arr a, arr b] w fun e w' => e = .returned (.int .i64 (1)) ∧ Below w.heap.size w w' := by
  have H := Lib.hid h; have HX := Lib.hid hx
  clear h hx
  show Calls Try.prog 20 #[.agg #[.int .i64 (a 0), .int .i64 (a 1), .int .i64 (a 2), .int .i64 (a 3), .int .i64 (a 4), .int .i64 (a 5), .int .i64 (a 6), .int .i64 (a 7)], .agg #[.int .i64 (b 0), .int .i64 (b 1), .int .i64 (b 2), .int .i64 (b 3), .int .i64 (b 4), .int .i64 (b 5), .int .i64 (b 6), .int .i64 (b 7)]] w _
  go_enter Try.func20, Try.ntmps20
  go_wp2
  obtain ⟨r0, r1, hd, hz⟩ := two_rows w a b
  have R0 := Lib.hid r0; have R1 := Lib.hid r1; have D := Lib.hid hd
  clear r0 r1 hd hz
  generalize (w.alloc (Obj.cells #[Value.int IntKind.i64 (a 0), Value.int IntKind.i64 (a 1), Value.int IntKind.i64 (a 2), Value.int IntKind.i64 (a 3), Value.int IntKind.i64 (a 4), Value.int IntKind.i64 (a 5), Value.int IntKind.i64 (a 6), Value.int IntKind.i64 (a 7)] 27)).alloc (Obj.cells #[Value.int IntKind.i64 (b 0), Value.int IntKind.i64 (b 1), Value.int IntKind.i64 (b 2), Value.int IntKind.i64 (b 3), Value.int IntKind.i64 (b 4), Value.int IntKind.i64 (b 5), Value.int IntKind.i64 (b 6), Value.int IntKind.i64 (b 7)] 27) = W at *
  go_loopw [5] (fun i wr => ∃ k : Nat, k ≤ n ∧ i = .int .i64 k ∧ Row wr w.heap.size a ∧ Row wr (w.heap.size + 1) b ∧ Below w.heap.size w wr) (fun i _ => 8 - (intOf i).toNat)
  case atStart => exact ⟨0, by omega, rfl, R0.out, R1.out, D.out⟩
  case round =>
    obtain ⟨k, hk, rfl, q0, q1, qd⟩ := hrel
    have Q0 := Lib.hid q0; have Q1 := Lib.hid q1; have QD := Lib.hid qd
    have c0 := q0.cell (show k < 8 by omega)
    have c1 := q1.cell (show k < 8 by omega)
    clear q0 q1 qd
    by_cases hlt : k < n
    · have h1 := H.out k hlt
      have e1 : decide (a k < b k) = false := by simp; omega
      have e2 : decide (b k < a k) = false := by simp; omega
      clear h1
      go_wp2_with fail
      go_quiet (fail)
      go_wp2_with fail
      go_quiet (fail)
      go_wp2
      go_roundw
      case rel => exact ⟨k + 1, by omega, by go_num, Q0.out.drewN _, Q1.out.drewN _, bdrew QD.out⟩
      case measure => simp [intOf]; omega
    · obtain rfl : k = n := by omega
      have h1 := HX.out
      have e1 : decide (a k < b k) = false := by simp; omega
      have e2 : decide (b k < a k) = true := by simp; omega
      clear h1
      go_wp2_with fail
      go_quiet (fail)
      go_wp2_with fail
      go_quiet (fail)
      go_wp2
      go_ret
      exact ⟨rfl, bdrew (bdrew QD.out)⟩
set_option maxHeartbeats 400000 in
theorem rcmp_eq (a b : Nat → Int) (w : World) (h : ∀ k, k < 8 → a k = b k) : Calls Try.prog 20 #[arr a, arr b] w fun e w' => e = .returned (.int .i64 0) ∧ Below w.heap.size w w' := by
  have H := Lib.hid h
  clear h
  show Calls Try.prog 20 #[.agg #[.int .i64 (a 0), .int .i64 (a 1), .int .i64 (a 2), .int .i64 (a 3), .int .i64 (a 4), .int .i64 (a 5), .int .i64 (a 6), .int .i64 (a 7)], .agg #[.int .i64 (b 0), .int .i64 (b 1), .int .i64 (b 2), .int .i64 (b 3), .int .i64 (b 4), .int .i64 (b 5), .int .i64 (b 6), .int .i64 (b 7)]] w _
  go_enter Try.func20, Try.ntmps20
  go_wp2
  obtain ⟨r0, r1, hd, hz⟩ := two_rows w a b
  have R0 := Lib.hid r0; have R1 := Lib.hid r1; have D := Lib.hid hd
  clear r0 r1 hd hz
  generalize (w.alloc (Obj.cells #[Value.int IntKind.i64 (a 0), Value.int IntKind.i64 (a 1), Value.int IntKind.i64 (a 2), Value.int IntKind.i64 (a 3), Value.int IntKind.i64 (a 4), Value.int IntKind.i64 (a 5), Value.int IntKind.i64 (a 6), Value.int IntKind.i64 (a 7)] 27)).alloc (Obj.cells #[Value.int IntKind.i64 (b 0), Value.int IntKind.i64 (b 1), Value.int IntKind.i64 (b 2), Value.int IntKind.i64 (b 3), Value.int IntKind.i64 (b 4), Value.int IntKind.i64 (b 5), Value.int IntKind.i64 (b 6), Value.int IntKind.i64 (b 7)] 27) = W at *
  go_loopw [5] (fun i wr => ∃ k : Nat, k ≤ 8 ∧ i = .int .i64 k ∧ Row wr w.heap.size a ∧ Row wr (w.heap.size + 1) b ∧ Below w.heap.size w wr) (fun i _ => 8 - (intOf i).toNat)
  case atStart => exact ⟨0, by omega, rfl, R0.out, R1.out, D.out⟩
  case round =>
    obtain ⟨k, hk, rfl, q0, q1, qd⟩ := hrel
    have Q0 := Lib.hid q0; have Q1 := Lib.hid q1; have QD := Lib.hid qd
    by_cases hlt : k < 8
    · have c0 := q0.cell hlt
      have c1 := q1.cell hlt
      clear q0 q1 qd
      have h1 := H.out k hlt
      have e1 : decide (a k < b k) = false := by simp; omega
      have e2 : decide (b k < a k) = false := by simp; omega
      clear h1
      go_wp2_with fail
      go_quiet (fail)
      go_wp2_with fail
      go_quiet (fail)
      go_wp2
      go_roundw
      case rel => exact ⟨k + 1, by omega, by go_num, Q0.out.drewN _, Q1.out.drewN _, bdrew QD.out⟩
      case measure => simp [intOf]; omega
    · clear q0 q1 qd
      go_wp2
      go_ret
      exact ⟨rfl, QD.out⟩
set_option maxHeartbeats 400000 in
theorem rlcm_any (a b : Nat → Int) (w : World) : Calls Try.prog 22 #[arr a, arr b] w fun e w' => e = .returned (arr (lcmF a b)) ∧ Below w.heap.size w w' := by
  show Calls Try.prog 22 #[.agg #[.int .i64 (a 0), .int .i64 (a 1), .int .i64 (a 2), .int .i64 (a 3), .int .i64 (a 4), .int .i64 (a 5), .int .i64 (a 6), .int .i64 (a 7)], .agg #[.int .i64 (b 0), .int .i64 (b 1), .int .i64 (b 2), .int .i64 (b 3), .int .i64 (b 4), .int .i64 (b 5), .int .i64 (b 6), .int .i64 (b 7)]] w _
  go_enter Try.func22, Try.ntmps22
  go_wp2
  obtain ⟨W, hW⟩ : ∃ W, W = ((w.alloc (Obj.cells #[Value.int IntKind.i64 (a 0), Value.int IntKind.i64 (a 1), Value.int IntKind.i64 (a 2), Value.int IntKind.i64 (a 3), Value.int IntKind.i64 (a 4), Value.int IntKind.i64 (a 5), Value.int IntKind.i64 (a 6), Value.int IntKind.i64 (a 7)] 27)).alloc (Obj.cells #[Value.int IntKind.i64 (b 0), Value.int IntKind.i64 (b 1), Value.int IntKind.i64 (b 2), Value.int IntKind.i64 (b 3), Value.int IntKind.i64 (b 4), Value.int IntKind.i64 (b 5), Value.int IntKind.i64 (b 6), Value.int IntKind.i64 (b 7)] 27)).alloc (Obj.cells #[Value.int IntKind.i64 0, Value.int IntKind.i64 0, Value.int IntKind.i64 0, Value.int IntKind.i64 0, Value.int IntKind.i64 0, Value.int IntKind.i64 0, Value.int IntKind.i64 0, Value.int IntKind.i64 0] 27) := ⟨_, rfl⟩
  rw [← hW]
  obtain ⟨r0, r1, r2, hd, hz⟩ := three_rows w a b W hW
  have R0 := Lib.hid r0; have R1 := Lib.hid r1; have R2 := Lib.hid r2; have D := Lib.hid hd; have Z := Lib.hid hz
  clear hW r0 r1 r2 hd hz
  go_loopw [5] (fun i wr => ∃ k : Nat, k ≤ 8 ∧ i = .int .i64 k ∧ Row wr w.heap.size (mix (lcmF a b) a k) ∧ Row wr (w.heap.size + 1) b ∧ Row wr (w.heap.size + 2) nul ∧ Below w.heap.size w wr) (fun i _ => 8 - (intOf i).toNat)
  case atStart => exact ⟨0, by omega, rfl, by rw [mix_zero]; exact R0.out, R1.out, R2.out, D.out⟩
  case round =>
    obtain ⟨k, hk, rfl, q0, q1, q2, qd⟩ := hrel
    have Q0 := Lib.hid q0; have Q1 := Lib.hid q1; have Q2 := Lib.hid q2; have QD := Lib.hid qd
    by_cases hlt : k < 8
    · have c0 := q0.cell hlt
      have c1 := q1.cell hlt
      rw [mix_at] at c0
      have f0 := q0.frozen k
      clear q0 q1 q2 qd
      go_wp2_with fail
      go_region
      go_wp2
      go_roundw
      case rel => exact ⟨k + 1, by omega, by go_num, by rw [← mix_up]; exact (Q0.out.set _ hlt).drew, (Q1.out.far (by simp) _).drew, (Q2.out.far (by simp) _).drew, (QD.out.setCell (by simp) _).drew⟩
      case measure => simp [intOf]; omega
    · obtain rfl : k = 8 := by omega
      clear q0 q1 q2 qd
      go_upto_region 5 with fail
      go_wp2_with (first | (refine ld _ w.heap.size Q0.out rfl rfl rfl ?_) | (refine st _ _ (w.heap.size + 1 + 1) _ Q2.out rfl rfl rfl rfl ?_))
      exact ret_row (p := 4) (by kernel_rfl) rfl (Q2.out.setRow _) rfl ⟨congrArg Ending.returned (arr_ext (mix_all _ _)), below_setRow QD.out (by omega) _⟩
set_option maxHeartbeats 400000 in
theorem rgcd_any (a b : Nat → Int) (w : World) : Calls Try.prog 24 #[arr a, arr b] w fun e w' => e = .returned (arr (gcdF a b)) ∧ Below w.heap.size w w' := by
  show Calls Try.prog 24 #[.agg #[.int .i64 (a 0), .int .i64 (a 1), .int .i64 (a 2), .int .i64 (a 3), .int .i64 (a 4), .int .i64 (a 5), .int .i64 (a 6), .int .i64 (a 7)], .agg #[.int .i64 (b 0), .int .i64 (b 1), .int .i64 (b 2), .int .i64 (b 3), .int .i64 (b 4), .int .i64 (b 5), .int .i64 (b 6), .int .i64 (b 7)]] w _
  go_enter Try.func24, Try.ntmps24
  go_wp2
  obtain ⟨W, hW⟩ : ∃ W, W = ((w.alloc (Obj.cells #[Value.int IntKind.i64 (a 0), Value.int IntKind.i64 (a 1), Value.int IntKind.i64 (a 2), Value.int IntKind.i64 (a 3), Value.int IntKind.i64 (a 4), Value.int IntKind.i64 (a 5), Value.int IntKind.i64 (a 6), Value.int IntKind.i64 (a 7)] 27)).alloc (Obj.cells #[Value.int IntKind.i64 (b 0), Value.int IntKind.i64 (b 1), Value.int IntKind.i64 (b 2), Value.int IntKind.i64 (b 3), Value.int IntKind.i64 (b 4), Value.int IntKind.i64 (b 5), Value.int IntKind.i64 (b 6), Value.int IntKind.i64 (b 7)] 27)).alloc (Obj.cells #[Value.int IntKind.i64 0, Value.int IntKind.i64 0, Value.int IntKind.i64 0, Value.int IntKind.i64 0, Value.int IntKind.i64 0, Value.int IntKind.i64 0, Value.int IntKind.i64 0, Value.int IntKind.i64 0] 27) := ⟨_, rfl⟩
  rw [← hW]
  obtain ⟨r0, r1, r2, hd, hz⟩ := three_rows w a b W hW
  have R0 := Lib.hid r0; have R1 := Lib.hid r1; have R2 := Lib.hid r2; have D := Lib.hid hd; have Z := Lib.hid hz
  clear hW r0 r1 r2 hd hz
  go_loopw [5] (fun i wr => ∃ k : Nat, k ≤ 8 ∧ i = .int .i64 k ∧ Row wr w.heap.size (mix (gcdF a b) a k) ∧ Row wr (w.heap.size + 1) b ∧ Row wr (w.heap.size + 2) nul ∧ Below w.heap.size w wr) (fun i _ => 8 - (intOf i).toNat)
  case atStart => exact ⟨0, by omega, rfl, by rw [mix_zero]; exact R0.out, R1.out, R2.out, D.out⟩
  case round =>
    obtain ⟨k, hk, rfl, q0, q1, q2, qd⟩ := hrel
    have Q0 := Lib.hid q0; have Q1 := Lib.hid q1; have Q2 := Lib.hid q2; have QD := Lib.hid qd
    by_cases hlt : k < 8
    · have c0 := q0.cell hlt
      have c1 := q1.cell hlt
      rw [mix_at] at c0
      have f0 := q0.frozen k
      clear q0 q1 q2 qd
      go_wp2_with fail
      go_region
      go_wp2
      go_roundw
      case rel => exact ⟨k + 1, by omega, by go_num, by rw [← mix_up]; exact (Q0.out.set _ hlt).drew, (Q1.out.far (by simp) _).drew, (Q2.out.far (by simp) _).drew, (QD.out.setCell (by simp) _).drew⟩
      case measure => simp [intOf]; omega
    · obtain rfl : k = 8 := by omega
      clear q0 q1 q2 qd
      go_upto_region 5 with fail
      go_wp2_with (first | (refine ld _ w.heap.size Q0.out rfl rfl rfl ?_) | (refine st _ _ (w.heap.size + 1 + 1) _ Q2.out rfl rfl rfl rfl ?_))
      exact ret_row (p := 4) (by kernel_rfl) rfl (Q2.out.setRow _) rfl ⟨congrArg Ending.returned (arr_ext (mix_all _ _)), below_setRow QD.out (by omega) _⟩
set_option maxHeartbeats 400000 in
theorem rvalid_false (a : Nat → Int) (n : Nat) (w : World) (hn : n < 8) (h : ∀ k, k < n → 0 ≤ a k ∧ a k ≤ 65535) (hx : a n < 0 ∨ 65535 < a n) : Calls Try.prog 31 #[arr a] w fun e w' => e = .returned (.bool false) ∧ Below w.heap.size w w' := by
  have H := Lib.hid h; have HX := Lib.hid hx
  clear h hx
  show Calls Try.prog 31 #[.agg #[.int .i64 (a 0), .int .i64 (a 1), .int .i64 (a 2), .int .i64 (a 3), .int .i64 (a 4), .int .i64 (a 5), .int .i64 (a 6), .int .i64 (a 7)]] w _
  go_enter Try.func31, Try.ntmps31
  go_wp2
  have R := Lib.hid (Row.new w a); have D := Lib.hid ((Below.refl w.heap.size w).alloc (Nat.le_refl _) (Obj.cells #[Value.int IntKind.i64 (a 0), Value.int IntKind.i64 (a 1), Value.int IntKind.i64 (a 2), Value.int IntKind.i64 (a 3), Value.int IntKind.i64 (a 4), Value.int IntKind.i64 (a 5), Value.int IntKind.i64 (a 6), Value.int IntKind.i64 (a 7)] 27))
  generalize w.alloc (Obj.cells #[Value.int IntKind.i64 (a 0), Value.int IntKind.i64 (a 1), Value.int IntKind.i64 (a 2), Value.int IntKind.i64 (a 3), Value.int IntKind.i64 (a 4), Value.int IntKind.i64 (a 5), Value.int IntKind.i64 (a 6), Value.int IntKind.i64 (a 7)] 27) = W at *
  go_loop [3] (fun i => ∃ k : Nat, k ≤ n ∧ i = .int .i64 k) (fun i => 8 - (intOf i).toNat)
  case atStart => exact ⟨0, by omega, rfl⟩
  case round =>
    obtain ⟨k, hk, rfl⟩ := hrel
    have hc := R.out.cell (show k < 8 by omega)
    by_cases hlt : k < n
    · obtain ⟨h1, h2⟩ := H.out k hlt
      go_wp2
      go_round
      case rel => exact ⟨k + 1, by omega, by go_num⟩
      case measure => simp [intOf]; omega
    · obtain rfl : k = n := by omega
      rcases HX.out with h1 | h1
      · go_wp2
        go_ret
        exact ⟨rfl, D.out⟩
      · have h2 : 0 ≤ a k := by omega
        go_wp2
        go_ret
        exact ⟨rfl, D.out⟩
set_option maxHeartbeats 400000 in
theorem rmul_ok (a b : Nat → Int) (w : World) (ha : Va a) (hb : Va b) (hs : Va (sumF a b)) : Calls Try.prog 14 #[arr a, arr b] w fun e w' => e = .returned (.tuple #[arr (sumF a b), .int .i64 0]) ∧ Below w.heap.size w w' := by
  have HA := Lib.hid ha; have HB := Lib.hid hb; have HS := Lib.hid hs
  clear ha hb hs
  show Calls Try.prog 14 #[.agg #[.int .i64 (a 0), .int .i64 (a 1), .int .i64 (a 2), .int .i64 (a 3), .int .i64 (a 4), .int .i64 (a 5), .int .i64 (a 6), .int .i64 (a 7)], .agg #[.int .i64 (b 0), .int .i64 (b 1), .int .i64 (b 2), .int .i64 (b 3), .int .i64 (b 4), .int .i64 (b 5), .int .i64 (b 6), .int .i64 (b 7)]] w _
  go_enter Try.func14, Try.ntmps14
  go_wp2
  obtain ⟨W, hW⟩ : ∃ W, W = ((w.alloc (Obj.cells #[Value.int IntKind.i64 (a 0), Value.int IntKind.i64 (a 1), Value.int IntKind.i64 (a 2), Value.int IntKind.i64 (a 3), Value.int IntKind.i64 (a 4), Value.int IntKind.i64 (a 5), Value.int IntKind.i64 (a 6), Value.int IntKind.i64 (a 7)] 27)).alloc (Obj.cells #[Value.int IntKind.i64 (b 0), Value.int IntKind.i64 (b 1), Value.int IntKind.i64 (b 2), Value.int IntKind.i64 (b 3), Value.int IntKind.i64 (b 4), Value.int IntKind.i64 (b 5), Value.int IntKind.i64 (b 6), Value.int IntKind.i64 (b 7)] 27)).alloc (Obj.cells #[Value.int IntKind.i64 0, Value.int IntKind.i64 0, Value.int IntKind.i64 0, Value.int IntKind.i64 0, Value.int IntKind.i64 0, Value.int IntKind.i64 0, Value.int IntKind.i64 0, Value.int IntKind.i64 0] 27) := ⟨_, rfl⟩
  rw [← hW]
  obtain ⟨r0, r1, r2, hd, hz⟩ := three_rows w a b W hW
  have R0 := Lib.hid r0; have R1 := Lib.hid r1; have R2 := Lib.hid r2; have D := Lib.hid hd; have Z := Lib.hid hz
  clear hW r0 r1 r2 hd hz
  go_loopw [6] (fun i wr => ∃ k : Nat, k ≤ 8 ∧ i = .int .i64 k ∧ Row wr w.heap.size (mix (sumF a b) a k) ∧ Row wr (w.heap.size + 1) b ∧ Row wr (w.heap.size + 2) nul ∧ Below w.heap.size w wr ∧ w.heap.size + 3 ≤ wr.heap.size) (fun i _ => 8 - (intOf i).toNat)
  case atStart => exact ⟨0, by omega, rfl, by rw [mix_zero]; exact R0.out, R1.out, R2.out, D.out, by rw [Z.out]; omega⟩
  case round =>
    obtain ⟨k, hk, rfl, q0, q1, q2, qd, qz⟩ := hrel
    have Q0 := Lib.hid q0; have Q1 := Lib.hid q1; have Q2 := Lib.hid q2; have QD := Lib.hid qd; have QZ := Lib.hid qz
    by_cases hlt : k < 8
    · have c0 := q0.cell hlt
      have c1 := q1.cell hlt
      rw [mix_at] at c0
      have f0 := q0.frozen k
      clear q0 q1 q2 qd qz
      obtain ⟨x1, x2⟩ := HA.out k hlt
      obtain ⟨x3, x4⟩ := HB.out k hlt
      go_wp2_with fail
      go_region
      go_wp2
      go_roundw
      case rel => exact ⟨k + 1, by omega, by go_num, by rw [← mix_up]; exact (Q0.out.set _ hlt).drew, (Q1.out.far (by simp) _).drew, (Q2.out.far (by simp) _).drew, (QD.out.setCell (by simp) _).drew, by simp; exact QZ.out⟩
      case measure => simp [intOf]; omega
    · obtain rfl : k = 8 := by omega
      clear q0 q1 q2 qd qz
      go_upto_region 5 with fail
      go_wp2_with (first | (refine ld _ w.heap.size Q0.out rfl rfl rfl ?_) | fail)
      refine (rvalid_true (mix (sumF a b) a 8) _ (fun k hk => by rw [mix_all _ _ k hk]; exact HS.out k hk)).mono ?_
      rintro e w1 ⟨rfl, hb1⟩
      have B1 := Lib.hid hb1
      have Q0b := Lib.hid (Q0.out.below hb1 Q0.out.lt)
      have Q2b := Lib.hid (Q2.out.below hb1 Q2.out.lt)
      clear hb1
      go_wp2_with (first | (refine ld _ w.heap.size Q0b.out rfl rfl rfl ?_) | (refine st _ _ (w.heap.size + 1 + 1) _ Q2b.out rfl rfl rfl rfl ?_))
      exact ret_row2 (p := 4) (q := 5) (by kernel_rfl) rfl rfl (Q2b.out.setRow _) rfl ⟨congrArg (fun x => Ending.returned (.tuple #[x, _])) (arr_ext (mix_all _ _)), below_setRow (below_link QD.out B1.out (by have := QZ.out; omega)) (by omega) _⟩
set_option maxHeartbeats 400000 in
theorem rmul_big (a b : Nat → Int) (n : Nat) (w : World) (ha : Va a) (hb : Va b) (hn : n < 8) (hs : ∀ k, k < n → a k + b k ≤ 65535) (hx : 65535 < a n + b n) : Calls Try.prog 14 #[arr a, arr b] w fun e w' => e = .returned (.tuple #[arr nul, .int .i64 2]) ∧ Below w.heap.size w w' := by
  have HA := Lib.hid ha; have HB := Lib.hid hb; have HS := Lib.hid hs; have HX := Lib.hid hx
  clear ha hb hs hx
  show Calls Try.prog 14 #[.agg #[.int .i64 (a 0), .int .i64 (a 1), .int .i64 (a 2), .int .i64 (a 3), .int .i64 (a 4), .int .i64 (a 5), .int .i64 (a 6), .int .i64 (a 7)], .agg #[.int .i64 (b 0), .int .i64 (b 1), .int .i64 (b 2), .int .i64 (b 3), .int .i64 (b 4), .int .i64 (b 5), .int .i64 (b 6), .int .i64 (b 7)]] w _
  go_enter Try.func14, Try.ntmps14
  go_wp2
  obtain ⟨W, hW⟩ : ∃ W, W = ((w.alloc (Obj.cells #[Value.int IntKind.i64 (a 0), Value.int IntKind.i64 (a 1), Value.int IntKind.i64 (a 2), Value.int IntKind.i64 (a 3), Value.int IntKind.i64 (a 4), Value.int IntKind.i64 (a 5), Value.int IntKind.i64 (a 6), Value.int IntKind.i64 (a 7)] 27)).alloc (Obj.cells #[Value.int IntKind.i64 (b 0), Value.int IntKind.i64 (b 1), Value.int IntKind.i64 (b 2), Value.int IntKind.i64 (b 3), Value.int IntKind.i64 (b 4), Value.int IntKind.i64 (b 5), Value.int IntKind.i64 (b 6), Value.int IntKind.i64 (b 7)] 27)).alloc (Obj.cells #[Value.int IntKind.i64 0, Value.int IntKind.i64 0, Value.int IntKind.i64 0, Value.int IntKind.i64 0, Value.int IntKind.i64 0, Value.int IntKind.i64 0, Value.int IntKind.i64 0, Value.int IntKind.i64 0] 27) := ⟨_, rfl⟩
  rw [← hW]
  obtain ⟨r0, r1, r2, hd, hz⟩ := three_rows w a b W hW
  have R0 := Lib.hid r0; have R1 := Lib.hid r1; have R2 := Lib.hid r2; have D := Lib.hid hd; have Z := Lib.hid hz
  clear hW r0 r1 r2 hd hz
  go_loopw [6] (fun i wr => ∃ k : Nat, k ≤ 8 ∧ i = .int .i64 k ∧ Row wr w.heap.size (mix (sumF a b) a k) ∧ Row wr (w.heap.size + 1) b ∧ Row wr (w.heap.size + 2) nul ∧ Below w.heap.size w wr ∧ w.heap.size + 3 ≤ wr.heap.size) (fun i _ => 8 - (intOf i).toNat)
  case atStart => exact ⟨0, by omega, rfl, by rw [mix_zero]; exact R0.out, R1.out, R2.out, D.out, by rw [Z.out]; omega⟩
  case round =>
    obtain ⟨k, hk, rfl, q0, q1, q2, qd, qz⟩ := hrel
    have Q0 := Lib.hid q0; have Q1 := Lib.hid q1; have Q2 := Lib.hid q2; have QD := Lib.hid qd; have QZ := Lib.hid qz
    by_cases hlt : k < 8
    · have c0 := q0.cell hlt
      have c1 := q1.cell hlt
      rw [mix_at] at c0
      have f0 := q0.frozen k
      clear q0 q1 q2 qd qz
      obtain ⟨x1, x2⟩ := HA.out k hlt
      obtain ⟨x3, x4⟩ := HB.out k hlt
      go_wp2_with fail
      go_region
      go_wp2
      go_roundw
      case rel => exact ⟨k + 1, by omega, by go_num, by rw [← mix_up]; exact (Q0.out.set _ hlt).drew, (Q1.out.far (by simp) _).drew, (Q2.out.far (by simp) _).drew, (QD.out.setCell (by simp) _).drew, by simp; exact QZ.out⟩
      case measure => simp [intOf]; omega
    · obtain rfl : k = 8 := by omega
      clear q0 q1 q2 qd qz
      go_upto_region 5 with fail
      go_wp2_with (first | (refine ld _ w.heap.size Q0.out rfl rfl rfl ?_) | fail)
      refine (rvalid_false (mix (sumF a b) a 8) n _ hn (fun k hk => by rw [mix_all _ _ k (by omega)]; have := HS.out k hk; have := HA.out k (by omega); have := HB.out k (by omega); unfold sumF; omega) (by rw [mix_all _ _ n hn]; have := HX.out; unfold sumF; omega)).mono ?_
      rintro e w1 ⟨rfl, hb1⟩
      have B1 := Lib.hid hb1
      have Q2b := Lib.hid (Q2.out.below hb1 Q2.out.lt)
      clear hb1
      go_wp2_with (first | (refine st _ _ (w.heap.size + 1 + 1) nul Q2b.out rfl rfl rfl rfl ?_))
      exact ret_row2 (p := 4) (q := 5) (by kernel_rfl) rfl rfl (Q2b.out.setRow _) rfl ⟨rfl, below_setRow (below_link QD.out B1.out (by have := QZ.out; omega)) (by omega) _⟩
set_option maxHeartbeats 400000 in
theorem rquo_ok (a b : Nat → Int) (w : World) (ha : Va a) (hb : Va b) (hd : ∀ k, k < 8 → b k ≤ a k) : Calls Try.prog 16 #[arr a, arr b] w fun e w' => e = .returned (.tuple #[arr (difF a b), .bool true]) ∧ Below w.heap.size w w' := by
  have HA := Lib.hid ha; have HB := Lib.hid hb; have HS := Lib.hid hd
  clear ha hb hd
  show Calls Try.prog 16 #[.agg #[.int .i64 (a 0), .int .i64 (a 1), .int .i64 (a 2), .int .i64 (a 3), .int .i64 (a 4), .int .i64 (a 5), .int .i64 (a 6), .int .i64 (a 7)], .agg #[.int .i64 (b 0), .int .i64 (b 1), .int .i64 (b 2), .int .i64 (b 3), .int .i64 (b 4), .int .i64 (b 5), .int .i64 (b 6), .int .i64 (b 7)]] w _
  go_enter Try.func16, Try.ntmps16
  go_upto_region 1 with fail
  obtain ⟨W, hW⟩ : ∃ W, W = ((w.alloc (Obj.cells #[Value.int IntKind.i64 (a 0), Value.int IntKind.i64 (a 1), Value.int IntKind.i64 (a 2), Value.int IntKind.i64 (a 3), Value.int IntKind.i64 (a 4), Value.int IntKind.i64 (a 5), Value.int IntKind.i64 (a 6), Value.int IntKind.i64 (a 7)] 27)).alloc (Obj.cells #[Value.int IntKind.i64 (b 0), Value.int IntKind.i64 (b 1), Value.int IntKind.i64 (b 2), Value.int IntKind.i64 (b 3), Value.int IntKind.i64 (b 4), Value.int IntKind.i64 (b 5), Value.int IntKind.i64 (b 6), Value.int IntKind.i64 (b 7)] 27)).alloc (Obj.cells #[Value.int IntKind.i64 0, Value.int IntKind.i64 0, Value.int IntKind.i64 0, Value.int IntKind.i64 0, Value.int IntKind.i64 0, Value.int IntKind.i64 0, Value.int IntKind.i64 0, Value.int IntKind.i64 0] 27) := ⟨_, rfl⟩
  rw [← hW]
  obtain ⟨r0, r1, r2, hd, hz⟩ := three_rows w a b W hW
  have R0 := Lib.hid r0; have R1 := Lib.hid r1; have R2 := Lib.hid r2; have D := Lib.hid hd; have Z := Lib.hid hz
  clear hW r0 r1 r2 hd hz
  go_wp2_with (first | (refine ld _ (w.heap.size + 1) R1.out rfl rfl rfl ?_) | (refine ld _ w.heap.size R0.out rfl rfl rfl ?_) | fail)
  refine (rdivides_true b a _ HS.out).mono ?_
  rintro e w1 ⟨rfl, hb1⟩
  replace D := Lib.hid (below_link D.out hb1 (by rw [Z.out]; omega))
  replace Z : Hid (w.heap.size + 3 ≤ w1.heap.size) := by have := Z.out; have := hb1.size; show _ ≤ _; omega
  replace R0 := Lib.hid (R0.out.below hb1 R0.out.lt)
  replace R1 := Lib.hid (R1.out.below hb1 R1.out.lt)
  replace R2 := Lib.hid (R2.out.below hb1 R2.out.lt)
  clear hb1
  go_wp2_with fail
  go_loopw [6] (fun i wr => ∃ k : Nat, k ≤ 8 ∧ i = .int .i64 k ∧ Row wr w.heap.size (mix (difF a b) a k) ∧ Row wr (w.heap.size + 1) b ∧ Row wr (w.heap.size + 2) nul ∧ Below w.heap.size w wr ∧ w.heap.size + 3 ≤ wr.heap.size) (fun i _ => 8 - (intOf i).toNat)
  case atStart => exact ⟨0, by omega, rfl, by rw [mix_zero]; exact R0.out, R1.out, R2.out, D.out, Z.out⟩
  case round =>
    obtain ⟨k, hk, rfl, q0, q1, q2, qd, qz⟩ := hrel
    have Q0 := Lib.hid q0; have Q1 := Lib.hid q1; have Q2 := Lib.hid q2; have QD := Lib.hid qd; have QZ := Lib.hid qz
    by_cases hlt : k < 8
    · have c0 := q0.cell hlt
      have c1 := q1.cell hlt
      rw [mix_at] at c0
      have f0 := q0.frozen k
      clear q0 q1 q2 qd qz
      obtain ⟨x1, x2⟩ := HA.out k hlt
      obtain ⟨x3, x4⟩ := HB.out k hlt
      go_wp2_with fail
      go_region
      go_wp2
      go_roundw
      case rel => exact ⟨k + 1, by omega, by go_num, by rw [← mix_up]; exact (Q0.out.set _ hlt).drew, (Q1.out.far (by simp) _).drew, (Q2.out.far (by simp) _).drew, (QD.out.setCell (by simp) _).drew, by simp; exact QZ.out⟩
      case measure => simp [intOf]; omega
    · obtain rfl : k = 8 := by omega
      clear q0 q1 q2 qd qz
      go_upto_region 7 with fail
      go_wp2_with (first | (refine ld _ w.heap.size Q0.out rfl rfl rfl ?_) | (refine st _ _ (w.heap.size + 1 + 1) _ Q2.out rfl rfl rfl rfl ?_))
      exact ret_row2 (p := 4) (q := 5) (by kernel_rfl) rfl rfl (Q2.out.setRow _) rfl ⟨congrArg (fun x => Ending.returned (.tuple #[x, _])) (arr_ext (mix_all _ _)), below_setRow QD.out (by omega) _⟩
set_option maxHeartbeats 400000 in
/-- Index n is the first one at which b has the greater exponent. -/
theorem rquo_no (a b : Nat → Int) (n : Nat) (w : World) (hn : n < 8) (hs : ∀ k, k < n → b k ≤ a k) (hx : a n < b n) : Calls Try.prog 16 #[arr a, arr b] w fun e w' => e = .returned (.tuple #[arr nul, .bool false]) ∧ Below w.heap.size w w' := by
  have HS := Lib.hid hs; have HX := Lib.hid hx
  clear hs hx
  show Calls Try.prog 16 #[.agg #[.int .i64 (a 0), .int .i64 (a 1), .int .i64 (a 2), .int .i64 (a 3), .int .i64 (a 4), .int .i64 (a 5), .int .i64 (a 6), .int .i64 (a 7)], .agg #[.int .i64 (b 0), .int .i64 (b 1), .int .i64 (b 2), .int .i64 (b 3), .int .i64 (b 4), .int .i64 (b 5), .int .i64 (b 6), .int .i64 (b 7)]] w _
  go_enter Try.func16, Try.ntmps16
  go_upto_region 1 with fail
  obtain ⟨W, hW⟩ : ∃ W, W = ((w.alloc (Obj.cells #[Value.int IntKind.i64 (a 0), Value.int IntKind.i64 (a 1), Value.int IntKind.i64 (a 2), Value.int IntKind.i64 (a 3), Value.int IntKind.i64 (a 4), Value.int IntKind.i64 (a 5), Value.int IntKind.i64 (a 6), Value.int IntKind.i64 (a 7)] 27)).alloc (Obj.cells #[Value.int IntKind.i64 (b 0), Value.int IntKind.i64 (b 1), Value.int IntKind.i64 (b 2), Value.int IntKind.i64 (b 3), Value.int IntKind.i64 (b 4), Value.int IntKind.i64 (b 5), Value.int IntKind.i64 (b 6), Value.int IntKind.i64 (b 7)] 27)).alloc (Obj.cells #[Value.int IntKind.i64 0, Value.int IntKind.i64 0, Value.int IntKind.i64 0, Value.int IntKind.i64 0, Value.int IntKind.i64 0, Value.int IntKind.i64 0, Value.int IntKind.i64 0, Value.int IntKind.i64 0] 27) := ⟨_, rfl⟩
  rw [← hW]
  obtain ⟨r0, r1, r2, hd, hz⟩ := three_rows w a b W hW
  have R0 := Lib.hid r0; have R1 := Lib.hid r1; have R2 := Lib.hid r2; have D := Lib.hid hd; have Z := Lib.hid hz
  clear hW r0 r1 r2 hd hz
  go_wp2_with (first | (refine ld _ (w.heap.size + 1) R1.out rfl rfl rfl ?_) | (refine ld _ w.heap.size R0.out rfl rfl rfl ?_) | fail)
  refine (rdivides_false b a n _ hn HS.out HX.out).mono ?_
  rintro e w1 ⟨rfl, hb1⟩
  replace D := Lib.hid (below_link D.out hb1 (by rw [Z.out]; omega))
  replace R2 := Lib.hid (R2.out.below hb1 R2.out.lt)
  clear hb1
  go_wp2_with (first | (refine st _ _ (w.heap.size + 1 + 1) nul R2.out rfl rfl rfl rfl ?_))
  exact ret_row2 (p := 4) (q := 5) (by kernel_rfl) rfl rfl (R2.out.setRow _) rfl ⟨rfl, below_setRow D.out (by omega) _⟩
end Go.Proofs.Ytchkaaeipafdnaa
