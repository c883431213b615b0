/-
  Valid, Degree, Support, Divides, Cmp of the program.
-/
import Derived.Test.YtchkaaeipafdnaaMonA
namespace Go.Proofs.Ytchkaaeipafdnaa
open Go.RowKit
attribute [local go_sem ↓] Go.wp_at_zero Go.wp_at_succ

set_option maxHeartbeats 400000 in
theorem valid_true (a : Nat → Int) (w : World) (h : ∀ k, k < 8 → 0 ≤ a k ∧ a k ≤ 65535) : Calls Try.prog 29 #[arr a] w fun e w' => e = .returned (.bool true) ∧ Below w.heap.size w w' := by
  have H := Lib.hid h
  clear h
  show Calls Try.prog 29 #[.agg #[.int .i64 (a 0), .int .i64 (a 1), .int .i64 (a 2), .int .i64 (a 3), .int .i64 (a 4), .int .i64 (a 5), .int .i64 (a 6), .int .i64 (a 7)]] w _
  go_enter Try.func29, Try.ntmps29
  go_wp2
  go_loop [4, 6] (fun _ i => ∃ k : Nat, k ≤ 8 ∧ i = .int .i64 k) (fun _ i => 8 - (intOf i).toNat)
  case atStart => exact ⟨0, by omega, rfl⟩
  case round =>
    obtain ⟨k, hk, rfl⟩ := hrel
    by_cases hlt : k < 8
    · have hi := run_index_arr a hlt
      obtain ⟨h1, h2⟩ := H.out k hlt
      go_wp2
      go_round
      case rel => exact ⟨k + 1, by omega, by go_num⟩
      case measure => simp [intOf]; omega
    · go_wp2
      go_ret
      exact ⟨rfl, (Below.refl _ _).alloc (Nat.le_refl _) _⟩

set_option maxHeartbeats 400000 in
/-- Index n is the first one at which an exponent is out of range. -/
theorem valid_false (a : Nat → Int) (n : Nat) (w : World) (hn : n < 8) (h : ∀ k, k < n → 0 ≤ a k ∧ a k ≤ 65535) (hx : a n < 0 ∨ 65535 < a n) : Calls Try.prog 29 #[arr a] w fun e w' => e = .returned (.bool false) ∧ Below w.heap.size w w' := by
  have H := Lib.hid h
  have HX := Lib.hid hx
  clear h hx
  show Calls Try.prog 29 #[.agg #[.int .i64 (a 0), .int .i64 (a 1), .int .i64 (a 2), .int .i64 (a 3), .int .i64 (a 4), .int .i64 (a 5), .int .i64 (a 6), .int .i64 (a 7)]] w _
  go_enter Try.func29, Try.ntmps29
  go_wp2
  go_loop [4, 6] (fun _ i => ∃ k : Nat, k ≤ n ∧ i = .int .i64 k) (fun _ i => 8 - (intOf i).toNat)
  case atStart => exact ⟨0, by omega, rfl⟩
  case round =>
    obtain ⟨k, hk, rfl⟩ := hrel
    have hi := run_index_arr a (show k < 8 by omega)
    by_cases hlt : k < n
    · obtain ⟨h1, h2⟩ := H.out k hlt
      go_wp2
      go_round
      case rel => exact ⟨k + 1, by omega, by go_num⟩
      case measure => simp [intOf]; omega
    · obtain rfl : k = n := by omega
      rcases HX.out with h1 | h1
      · go_wp2
        go_ret
        exact ⟨rfl, (Below.refl _ _).alloc (Nat.le_refl _) _⟩
      · have h2 : 0 ≤ a k := by omega
        go_wp2
        go_ret
        exact ⟨rfl, (Below.refl _ _).alloc (Nat.le_refl _) _⟩

/-- The sum of the first k exponents. -/
def sm (a : Nat → Int) : Nat → Int
  | 0 => 0
  | k + 1 => sm a k + a k
def Va (a : Nat → Int) : Prop := ∀ k, k < 8 → 0 ≤ a k ∧ a k ≤ 65535
theorem sm_bd {a : Nat → Int} (h : Va a) : ∀ {k : Nat}, k ≤ 8 → 0 ≤ sm a k ∧ sm a k ≤ 65535 * k
  | 0, _ => by simp [sm]
  | k + 1, hk => by
    have := sm_bd h (k := k) (by omega)
    have := h k (by omega)
    simp only [sm]
    omega
theorem degree_any (a : Nat → Int) (w : World) (h : Va a) : Calls Try.prog 25 #[arr a] w fun e w' => e = .returned (.int .i64 (sm a 8)) ∧ Below w.heap.size w w' := by
  have H := Lib.hid h
  clear h
  show Calls Try.prog 25 #[.agg #[.int .i64 (a 0), .int .i64 (a 1), .int .i64 (a 2), .int .i64 (a 3), .int .i64 (a 4), .int .i64 (a 5), .int .i64 (a 6), .int .i64 (a 7)]] w _
  go_enter Try.func25, Try.ntmps25
  go_wp2
  go_loop [3, 5, 7] (fun s _ i => ∃ k : Nat, k ≤ 8 ∧ i = .int .i64 k ∧ s = .int .i64 (sm a k)) (fun _ _ i => 8 - (intOf i).toNat)
  case atStart => exact ⟨0, by omega, rfl, rfl⟩
  case round =>
    obtain ⟨k, hk, rfl, rfl⟩ := hrel
    obtain ⟨s1, s2⟩ := sm_bd H.out hk
    by_cases hlt : k < 8
    · have hi := run_index_arr a hlt
      obtain ⟨h1, h2⟩ := H.out k hlt
      go_wp2
      go_round
      case rel => exact ⟨k + 1, by omega, by go_num, rfl⟩
      case measure => simp [intOf]; omega
    · obtain rfl : k = 8 := by omega
      go_wp2
      go_ret
      exact ⟨rfl, (Below.refl _ _).alloc (Nat.le_refl _) _⟩

/-- The variables below k that occur, as a number. -/
def sp (a : Nat → Int) : Nat → Nat
  | 0 => 0
  | k + 1 => if 0 < a k then sp a k + 2 ^ k else sp a k
theorem sp_lt (a : Nat → Int) : ∀ k, sp a k < 2 ^ k
  | 0 => by simp [sp]
  | k + 1 => by
    have := sp_lt a k
    simp only [sp]
    split <;> rw [Nat.pow_succ] <;> omega

/-- Two boxes made one behind the other. -/
theorem two_rows (w : World) (a b : Nat → Int) : Row ((w.alloc (Obj.cells #[Value.int IntKind.i64 (a 0), Value.int IntKind.i64 (a 1), Value.int IntKind.i64 (a 2), Value.int IntKind.i64 (a 3), Value.int IntKind.i64 (a 4), Value.int IntKind.i64 (a 5), Value.int IntKind.i64 (a 6), Value.int IntKind.i64 (a 7)] 27)).alloc (Obj.cells #[Value.int IntKind.i64 (b 0), Value.int IntKind.i64 (b 1), Value.int IntKind.i64 (b 2), Value.int IntKind.i64 (b 3), Value.int IntKind.i64 (b 4), Value.int IntKind.i64 (b 5), Value.int IntKind.i64 (b 6), Value.int IntKind.i64 (b 7)] 27)) w.heap.size a ∧ Row ((w.alloc (Obj.cells #[Value.int IntKind.i64 (a 0), Value.int IntKind.i64 (a 1), Value.int IntKind.i64 (a 2), Value.int IntKind.i64 (a 3), Value.int IntKind.i64 (a 4), Value.int IntKind.i64 (a 5), Value.int IntKind.i64 (a 6), Value.int IntKind.i64 (a 7)] 27)).alloc (Obj.cells #[Value.int IntKind.i64 (b 0), Value.int IntKind.i64 (b 1), Value.int IntKind.i64 (b 2), Value.int IntKind.i64 (b 3), Value.int IntKind.i64 (b 4), Value.int IntKind.i64 (b 5), Value.int IntKind.i64 (b 6), Value.int IntKind.i64 (b 7)] 27)) (w.heap.size + 1) b ∧
    Below w.heap.size w ((w.alloc (Obj.cells #[Value.int IntKind.i64 (a 0), Value.int IntKind.i64 (a 1), Value.int IntKind.i64 (a 2), Value.int IntKind.i64 (a 3), Value.int IntKind.i64 (a 4), Value.int IntKind.i64 (a 5), Value.int IntKind.i64 (a 6), Value.int IntKind.i64 (a 7)] 27)).alloc (Obj.cells #[Value.int IntKind.i64 (b 0), Value.int IntKind.i64 (b 1), Value.int IntKind.i64 (b 2), Value.int IntKind.i64 (b 3), Value.int IntKind.i64 (b 4), Value.int IntKind.i64 (b 5), Value.int IntKind.i64 (b 6), Value.int IntKind.i64 (b 7)] 27)) ∧ ((w.alloc (Obj.cells #[Value.int IntKind.i64 (a 0), Value.int IntKind.i64 (a 1), Value.int IntKind.i64 (a 2), Value.int IntKind.i64 (a 3), Value.int IntKind.i64 (a 4), Value.int IntKind.i64 (a 5), Value.int IntKind.i64 (a 6), Value.int IntKind.i64 (a 7)] 27)).alloc (Obj.cells #[Value.int IntKind.i64 (b 0), Value.int IntKind.i64 (b 1), Value.int IntKind.i64 (b 2), Value.int IntKind.i64 (b 3), Value.int IntKind.i64 (b 4), Value.int IntKind.i64 (b 5), Value.int IntKind.i64 (b 6), Value.int IntKind.i64 (b 7)] 27)).heap.size = w.heap.size + 2 := by
  refine ⟨(Row.new w a).alloc _, ?_, ((Below.refl _ _).alloc (Nat.le_refl _) _).alloc (by simp) _, by simp⟩
  have e : (w.alloc (Obj.cells #[Value.int IntKind.i64 (a 0), Value.int IntKind.i64 (a 1), Value.int IntKind.i64 (a 2), Value.int IntKind.i64 (a 3), Value.int IntKind.i64 (a 4), Value.int IntKind.i64 (a 5), Value.int IntKind.i64 (a 6), Value.int IntKind.i64 (a 7)] 27)).heap.size = w.heap.size + 1 := by simp
  rw [← e]
  exact Row.new (w.alloc (Obj.cells #[Value.int IntKind.i64 (a 0), Value.int IntKind.i64 (a 1), Value.int IntKind.i64 (a 2), Value.int IntKind.i64 (a 3), Value.int IntKind.i64 (a 4), Value.int IntKind.i64 (a 5), Value.int IntKind.i64 (a 6), Value.int IntKind.i64 (a 7)] 27)) b

set_option maxHeartbeats 400000 in
theorem divides_true (a b : Nat → Int) (w : World) (h : ∀ k, k < 8 → a k ≤ b k) : Calls Try.prog 17 #[arr a, arr b] w fun e w' => e = .returned (.bool true) ∧ Below w.heap.size w w' := by
  have H := Lib.hid h
  clear h
  show Calls Try.prog 17 #[.agg #[.int .i64 (a 0), .int .i64 (a 1), .int .i64 (a 2), .int .i64 (a 3), .int .i64 (a 4), .int .i64 (a 5), .int .i64 (a 6), .int .i64 (a 7)], .agg #[.int .i64 (b 0), .int .i64 (b 1), .int .i64 (b 2), .int .i64 (b 3), .int .i64 (b 4), .int .i64 (b 5), .int .i64 (b 6), .int .i64 (b 7)]] w _
  go_enter Try.func17, Try.ntmps17
  go_wp2
  obtain ⟨r0, r1, hd, hz⟩ := two_rows w a b
  have R1 := Lib.hid r1; have D := Lib.hid hd
  clear r0 r1 hd hz
  generalize (w.alloc (Obj.cells #[Value.int IntKind.i64 (a 0), Value.int IntKind.i64 (a 1), Value.int IntKind.i64 (a 2), Value.int IntKind.i64 (a 3), Value.int IntKind.i64 (a 4), Value.int IntKind.i64 (a 5), Value.int IntKind.i64 (a 6), Value.int IntKind.i64 (a 7)] 27)).alloc (Obj.cells #[Value.int IntKind.i64 (b 0), Value.int IntKind.i64 (b 1), Value.int IntKind.i64 (b 2), Value.int IntKind.i64 (b 3), Value.int IntKind.i64 (b 4), Value.int IntKind.i64 (b 5), Value.int IntKind.i64 (b 6), Value.int IntKind.i64 (b 7)] 27) = W at *
  go_loop [5, 6, 8] (fun _ _ i => ∃ k : Nat, k ≤ 8 ∧ i = .int .i64 k) (fun _ _ i => 8 - (intOf i).toNat)
  case atStart => exact ⟨0, by omega, rfl⟩
  case round =>
    obtain ⟨k, hk, rfl⟩ := hrel
    by_cases hlt : k < 8
    · have hi := run_index_arr a hlt
      have hc := R1.out.cell hlt
      have h1 := H.out k hlt
      go_wp2
      go_round
      case rel => exact ⟨k + 1, by omega, by go_num⟩
      case measure => simp [intOf]; omega
    · go_wp2
      go_ret
      exact ⟨rfl, D.out⟩
set_option maxHeartbeats 400000 in
theorem divides_false (a b : Nat → Int) (n : Nat) (w : World) (hn : n < 8) (h : ∀ k, k < n → a k ≤ b k) (hx : b n < a n) : Calls Try.prog 17 #[arr a, arr b] w fun e w' => e = .returned (.bool false) ∧ Below w.heap.size w w' := by
  have H := Lib.hid h
  have HX := Lib.hid hx
  clear h hx
  show Calls Try.prog 17 #[.agg #[.int .i64 (a 0), .int .i64 (a 1), .int .i64 (a 2), .int .i64 (a 3), .int .i64 (a 4), .int .i64 (a 5), .int .i64 (a 6), .int .i64 (a 7)], .agg #[.int .i64 (b 0), .int .i64 (b 1), .int .i64 (b 2), .int .i64 (b 3), .int .i64 (b 4), .int .i64 (b 5), .int .i64 (b 6), .int .i64 (b 7)]] w _
  go_enter Try.func17, Try.ntmps17
  go_wp2
  obtain ⟨r0, r1, hd, hz⟩ := two_rows w a b
  have R1 := Lib.hid r1; have D := Lib.hid hd
  clear r0 r1 hd hz
  generalize (w.alloc (Obj.cells #[Value.int IntKind.i64 (a 0), Value.int IntKind.i64 (a 1), Value.int IntKind.i64 (a 2), Value.int IntKind.i64 (a 3), Value.int IntKind.i64 (a 4), Value.int IntKind.i64 (a 5), Value.int IntKind.i64 (a 6), Value.int IntKind.i64 (a 7)] 27)).alloc (Obj.cells #[Value.int IntKind.i64 (b 0), Value.int IntKind.i64 (b 1), Value.int IntKind.i64 (b 2), Value.int IntKind.i64 (b 3), Value.int IntKind.i64 (b 4), Value.int IntKind.i64 (b 5), Value.int IntKind.i64 (b 6), Value.int IntKind.i64 (b 7)] 27) = W at *
  go_loop [5, 6, 8] (fun _ _ i => ∃ k : Nat, k ≤ n ∧ i = .int .i64 k) (fun _ _ i => 8 - (intOf i).toNat)
  case atStart => exact ⟨0, by omega, rfl⟩
  case round =>
    obtain ⟨k, hk, rfl⟩ := hrel
    have hk8 : k < 8 := by omega
    have hi := run_index_arr a hk8
    have hc := R1.out.cell hk8
    by_cases hlt : k < n
    · have h1 := H.out k hlt
      go_wp2
      go_round
      case rel => exact ⟨k + 1, by omega, by go_num⟩
      case measure => simp [intOf]; omega
    · obtain rfl : k = n := by omega
      have h1 := HX.out
      go_wp2
      go_ret
      exact ⟨rfl, D.out⟩

theorem or_step {x k : Nat} (hx : x < 2 ^ k) (hk : k < 8) : bits .or .u8 (x : Int) (2 ^ k % 256) = ((x + 2 ^ k : Nat) : Int) := by
  have h2 : 2 ^ k ≤ 2 ^ 7 := Nat.pow_le_pow_right (by omega) (by omega)
  have e : ((2 : Int) ^ k % 256) = ((2 ^ k : Nat) : Int) := by
    have : ((2 ^ k : Nat) : Int) = (2 : Int) ^ k := by simp
    omega
  rw [e, u8_or _ _ (by omega) (by omega) (by omega) (by omega)]
  congr 1
  simp only [Int.toNat_natCast]
  have := Nat.two_pow_add_eq_or_of_lt hx 1
  rw [Nat.mul_one] at this
  rw [Nat.or_comm, ← this, Nat.add_comm]
set_option maxHeartbeats 400000 in
theorem support_any (a : Nat → Int) (w : World) : Calls Try.prog 27 #[arr a] w fun e w' => e = .returned (.int .u8 (sp a 8 : Nat)) ∧ Below w.heap.size w w' := by
  show Calls Try.prog 27 #[.agg #[.int .i64 (a 0), .int .i64 (a 1), .int .i64 (a 2), .int .i64 (a 3), .int .i64 (a 4), .int .i64 (a 5), .int .i64 (a 6), .int .i64 (a 7)]] w _
  go_enter Try.func27, Try.ntmps27
  go_wp2
  go_loop [3, 4, 5, 7] (fun s _ _ i => ∃ k : Nat, k ≤ 8 ∧ i = .int .i64 k ∧ s = .int .u8 (sp a k : Nat)) (fun _ _ _ i => 8 - (intOf i).toNat)
  case atStart => exact ⟨0, by omega, rfl, rfl⟩
  case round =>
    obtain ⟨k, hk, rfl, rfl⟩ := hrel
    by_cases hlt : k < 8
    · have hi := run_index_arr a hlt
      by_cases hp : 0 < a k
      · go_wp2
        go_round
        case rel => exact ⟨k + 1, by omega, by go_num, by simp only [sp]; rw [if_pos hp, or_step (sp_lt a k) hlt]⟩
        case measure => simp [intOf]; omega
      · have hp1 : a k ≤ 0 := by omega
        go_wp2
        go_round
        case rel => exact ⟨k + 1, by omega, by go_num, by simp only [sp]; rw [if_neg hp]⟩
        case measure => simp [intOf]; omega
    · obtain rfl : k = 8 := by omega
      go_wp2
      go_ret
      exact ⟨rfl, (Below.refl _ _).alloc (Nat.le_refl _) _⟩

set_option maxHeartbeats 400000 in
theorem cmp_lt (a b : Nat → Int) (n : Nat) (w : World) (hn : n < 8) (h : ∀ k, k < n → a k = b k) (hx : a n < b n) : Calls Try.prog 19 #[arr a, arr b] w fun e w' => e = .returned (.int .i64 (-1)) ∧ Below w.heap.size w w' := by
  have H := Lib.hid h
  have HX := Lib.hid hx
  have he := run_equalIn_arr a b
  have hf : eqa a b = false := eqa_false hn (by omega)
  clear h hx
  show Calls Try.prog 19 #[.agg #[.int .i64 (a 0), .int .i64 (a 1), .int .i64 (a 2), .int .i64 (a 3), .int .i64 (a 4), .int .i64 (a 5), .int .i64 (a 6), .int .i64 (a 7)], .agg #[.int .i64 (b 0), .int .i64 (b 1), .int .i64 (b 2), .int .i64 (b 3), .int .i64 (b 4), .int .i64 (b 5), .int .i64 (b 6), .int .i64 (b 7)]] w _
  go_enter Try.func19, Try.ntmps19
  go_wp2
  clear he hf
  obtain ⟨r0, r1, hd, hz⟩ := two_rows w a b
  have R0 := Lib.hid r0; have R1 := Lib.hid r1; have D := Lib.hid hd
  clear r0 r1 hd hz
  generalize (w.alloc (Obj.cells #[Value.int IntKind.i64 (a 0), Value.int IntKind.i64 (a 1), Value.int IntKind.i64 (a 2), Value.int IntKind.i64 (a 3), Value.int IntKind.i64 (a 4), Value.int IntKind.i64 (a 5), Value.int IntKind.i64 (a 6), Value.int IntKind.i64 (a 7)] 27)).alloc (Obj.cells #[Value.int IntKind.i64 (b 0), Value.int IntKind.i64 (b 1), Value.int IntKind.i64 (b 2), Value.int IntKind.i64 (b 3), Value.int IntKind.i64 (b 4), Value.int IntKind.i64 (b 5), Value.int IntKind.i64 (b 6), Value.int IntKind.i64 (b 7)] 27) = W at *
  go_loopw [5] (fun i wr => ∃ k : Nat, k ≤ n ∧ i = .int .i64 k ∧ Row wr w.heap.size a ∧ Row wr (w.heap.size + 1) b ∧ Below w.heap.size w wr) (fun i _ => 8 - (intOf i).toNat)
  case atStart => exact ⟨0, by omega, rfl, R0.out, R1.out, D.out⟩
  case round =>
    obtain ⟨k, hk, rfl, q0, q1, qd⟩ := hrel
    have c0 := q0.cell (show k < 8 by omega)
    have c1 := q1.cell (show k < 8 by omega)
    have Q0 := Lib.hid q0; have Q1 := Lib.hid q1; have QD := Lib.hid qd
    clear q0 q1 qd
    by_cases hlt : k < n
    · have e1 : (a k == b k) = true := by rw [H.out k hlt]; simp
      go_wp2_with fail
      go_quiet (fail)
      go_wp2
      go_roundw
      case rel => exact ⟨k + 1, by omega, by go_num, Q0.out.drewN _, Q1.out.drewN _, bdrew QD.out⟩
      case measure => simp [intOf]; omega
    · obtain rfl : k = n := by omega
      have hx := HX.out
      have e1 : (a k == b k) = false := by simp; omega
      have e2 : decide (a k < b k) = true := by simp; omega
      clear hx
      go_wp2_with fail
      go_quiet (fail)
      go_wp2
      go_wp2_with fail
      go_quiet (fail)
      go_wp2
      go_ret
      exact ⟨rfl, bdrew (bdrew QD.out)⟩
set_option maxHeartbeats 400000 in
theorem cmp_gt (a b : Nat → Int) (n : Nat) (w : World) (hn : n < 8) (h : ∀ k, k < n → a k = b k) (hx : b n < a n) : Calls Try.prog 19 #[arr a, arr b] w fun e w' => e = .returned (.int .i64 (1)) ∧ Below w.heap.size w w' := by
  have H := Lib.hid h
  have HX := Lib.hid hx
  have he := run_equalIn_arr a b
  have hf : eqa a b = false := eqa_false hn (by omega)
  clear h hx
  show Calls Try.prog 19 #[.agg #[.int .i64 (a 0), .int .i64 (a 1), .int .i64 (a 2), .int .i64 (a 3), .int .i64 (a 4), .int .i64 (a 5), .int .i64 (a 6), .int .i64 (a 7)], .agg #[.int .i64 (b 0), .int .i64 (b 1), .int .i64 (b 2), .int .i64 (b 3), .int .i64 (b 4), .int .i64 (b 5), .int .i64 (b 6), .int .i64 (b 7)]] w _
  go_enter Try.func19, Try.ntmps19
  go_wp2
  clear he hf
  obtain ⟨r0, r1, hd, hz⟩ := two_rows w a b
  have R0 := Lib.hid r0; have R1 := Lib.hid r1; have D := Lib.hid hd
  clear r0 r1 hd hz
  generalize (w.alloc (Obj.cells #[Value.int IntKind.i64 (a 0), Value.int IntKind.i64 (a 1), Value.int IntKind.i64 (a 2), Value.int IntKind.i64 (a 3), Value.int IntKind.i64 (a 4), Value.int IntKind.i64 (a 5), Value.int IntKind.i64 (a 6), Value.int IntKind.i64 (a 7)] 27)).alloc (Obj.cells #[Value.int IntKind.i64 (b 0), Value.int IntKind.i64 (b 1), Value.int IntKind.i64 (b 2), Value.int IntKind.i64 (b 3), Value.int IntKind.i64 (b 4), Value.int IntKind.i64 (b 5), Value.int IntKind.i64 (b 6), Value.int IntKind.i64 (b 7)] 27) = W at *
  go_loopw [5] (fun i wr => ∃ k : Nat, k ≤ n ∧ i = .int .i64 k ∧ Row wr w.heap.size a ∧ Row wr (w.heap.size + 1) b ∧ Below w.heap.size w wr) (fun i _ => 8 - (intOf i).toNat)
  case atStart => exact ⟨0, by omega, rfl, R0.out, R1.out, D.out⟩
  case round =>
    obtain ⟨k, hk, rfl, q0, q1, qd⟩ := hrel
    have c0 := q0.cell (show k < 8 by omega)
    have c1 := q1.cell (show k < 8 by omega)
    have Q0 := Lib.hid q0; have Q1 := Lib.hid q1; have QD := Lib.hid qd
    clear q0 q1 qd
    by_cases hlt : k < n
    · have e1 : (a k == b k) = true := by rw [H.out k hlt]; simp
      go_wp2_with fail
      go_quiet (fail)
      go_wp2
      go_roundw
      case rel => exact ⟨k + 1, by omega, by go_num, Q0.out.drewN _, Q1.out.drewN _, bdrew QD.out⟩
      case measure => simp [intOf]; omega
    · obtain rfl : k = n := by omega
      have hx := HX.out
      have e1 : (a k == b k) = false := by simp; omega
      have e2 : decide (a k < b k) = false := by simp; omega
      clear hx
      go_wp2_with fail
      go_quiet (fail)
      go_wp2
      go_wp2_with fail
      go_quiet (fail)
      go_wp2
      go_ret
      exact ⟨rfl, bdrew (bdrew QD.out)⟩
set_option maxHeartbeats 400000 in
theorem cmp_eq (a b : Nat → Int) (w : World) (h : ∀ k, k < 8 → a k = b k) : Calls Try.prog 19 #[arr a, arr b] w fun e w' => e = .returned (.int .i64 0) ∧ Below w.heap.size w w' := by
  have he := run_equalIn_arr a b
  have hf : eqa a b = true := eqa_true.2 h
  clear h
  show Calls Try.prog 19 #[.agg #[.int .i64 (a 0), .int .i64 (a 1), .int .i64 (a 2), .int .i64 (a 3), .int .i64 (a 4), .int .i64 (a 5), .int .i64 (a 6), .int .i64 (a 7)], .agg #[.int .i64 (b 0), .int .i64 (b 1), .int .i64 (b 2), .int .i64 (b 3), .int .i64 (b 4), .int .i64 (b 5), .int .i64 (b 6), .int .i64 (b 7)]] w _
  go_enter Try.func19, Try.ntmps19
  go_wp2
  clear he hf
  go_ret
  exact ⟨rfl, (two_rows w a b).2.2.1⟩
end Go.Proofs.Ytchkaaeipafdnaa
