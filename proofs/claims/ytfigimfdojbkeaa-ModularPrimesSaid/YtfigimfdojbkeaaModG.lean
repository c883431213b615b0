/-
  Layer 3: the program's Prime, for primes and for small divisors.
-/
import Derived.Test.YtfigimfdojbkeaaModF
import Derived.Test.YtfigimfdojbkeaaLawE
set_option linter.unusedSimpArgs false
set_option linter.unusedVariables false
namespace Go.Proofs.Ytfigimfdojbkeaa
open Go.RowKit
attribute [local go_sem ↓] Go.wp_at_zero Go.wp_at_succ

theorem IsPr.only {n a : Nat} (h : IsPr n) (ha : 2 ≤ a) (hd : n % a = 0) : n = a := by
  have h2 := h.two
  have hdv : a ∣ n := Nat.dvd_of_mod_eq_zero hd
  rcases Nat.eq_zero_or_pos (a % n) with e | e
  · exact Nat.le_antisymm (Nat.le_of_dvd (by omega) (Nat.dvd_of_mod_eq_zero e)) (Nat.le_of_dvd (by omega) hdv)
  · have h3 : Nat.gcd a n = 1 := h.coprime (by omega)
    rw [Nat.gcd_eq_left hdv] at h3
    omega
def wit (i : Nat) : Nat := if i = 0 then 2 else if i = 1 then 3 else if i = 2 then 5 else 7
theorem wit_mod {n i : Nat} (hi : i < 4) (h2 : 2 ≤ n) (h : n % wit i ≠ 0) : wit i % n ≠ 0 := by
  intro e
  have h0 : ∀ n, n < 8 → ∀ i, i < 4 → 2 ≤ n → wit i % n = 0 → n % wit i = 0 := by decide
  have h1 : wit i ≤ 7 := by unfold wit; split <;> (try split) <;> (try split) <;> omega
  have h3 : 0 < wit i := by unfold wit; split <;> (try split) <;> (try split) <;> omega
  have h4 := Nat.le_of_dvd h3 (Nat.dvd_of_mod_eq_zero e)
  exact h (h0 n (by omega) i hi h2 e)

set_option maxHeartbeats 4000000 in
set_option maxRecDepth 10000 in
theorem oprime_pr (n : Nat) (w : World) (h : IsPr n) : Calls Try.prog 50 #[.int .u64 n] w (RetV (.bool true) w) := by
  have h2 := h.two
  have h3 := h.small
  have i2 : decide ((n : Int) < 2) = false := decide_eq_false (by omega)
  have i3 : decide ((2147483648 : Int) ≤ n) = false := decide_eq_false (by omega)
  have x0 : ∀ w, (Instr.index 71 (.agg #[Value.int IntKind.u64 2, Value.int IntKind.u64 3, Value.int IntKind.u64 5, Value.int IntKind.u64 7]) (.int .i64 0)).run Try.prog w = .ok (.int .u64 2) w := fun _ => by kernel_rfl
  have x1 : ∀ w, (Instr.index 71 (.agg #[Value.int IntKind.u64 2, Value.int IntKind.u64 3, Value.int IntKind.u64 5, Value.int IntKind.u64 7]) (.int .i64 1)).run Try.prog w = .ok (.int .u64 3) w := fun _ => by kernel_rfl
  have x2 : ∀ w, (Instr.index 71 (.agg #[Value.int IntKind.u64 2, Value.int IntKind.u64 3, Value.int IntKind.u64 5, Value.int IntKind.u64 7]) (.int .i64 2)).run Try.prog w = .ok (.int .u64 5) w := fun _ => by kernel_rfl
  have x3 : ∀ w, (Instr.index 71 (.agg #[Value.int IntKind.u64 2, Value.int IntKind.u64 3, Value.int IntKind.u64 5, Value.int IntKind.u64 7]) (.int .i64 3)).run Try.prog w = .ok (.int .u64 7) w := fun _ => by kernel_rfl
  go_enter Try.func50, Try.ntmps50
  go_wp2_with fail
  clear i2 i3
  go_loopg [5, 16] 4 (fun k _ v16 wr => ∃ i : Nat, i + k = 4 ∧ v16 = .int .i64 i ∧ Hid (∀ j, j < i → n % wit j ≠ 0) ∧ Below w.heap.size w wr ∧ CBox wr w.heap.size #[Value.int IntKind.u64 2, Value.int IntKind.u64 3, Value.int IntKind.u64 5, Value.int IntKind.u64 7] 71)
  case atStart => exact ⟨0, rfl, rfl, fun j hj => by omega, (Below.refl _ _).alloc (Nat.le_refl _) _, CBox.new _ _ _⟩
  case round =>
    obtain ⟨i, hik, rfl, hw, hbl, hbx⟩ := hrel
    have HBL := Lib.hid hbl
    have HBX := Lib.hid hbx
    clear hbl hbx
    by_cases h0 : gk = 0
    · obtain rfl : i = 4 := by omega
      subst h0
      have c0 := HBX.out.cell 0; have c1 := HBX.out.cell 1; have c2 := HBX.out.cell 2; have c3 := HBX.out.cell 3
      simp at c0 c1 c2 c3
      go_wp2_with fail
      clear c0 c1 c2 c3 HBX
      go_loopg [7, 28] 4 (fun k _ v28 wr => ∃ i : Nat, i + k = 4 ∧ v28 = .int .i64 i ∧ Below w.heap.size w wr)
      case atStart => exact ⟨0, rfl, rfl, HBL.out⟩
      case round =>
        clear HBL
        obtain ⟨i, hik, rfl, hbl⟩ := hrel
        have HBL := Lib.hid hbl
        clear hbl
        by_cases h0 : gk = 0
        · obtain rfl : i = 4 := by omega
          subst h0
          go_wp2
          exact bodyPost_ret (v := .bool true) (by simp [results, Try.results50, go_sem]) rfl ⟨rfl, HBL.out⟩
        · have hi : i = 0 ∨ i = 1 ∨ i = 2 ∨ i = 3 := by omega
          rcases hi with rfl | rfl | rfl | rfl
          · have hc := fun w0 => passes_prime 2 n w0 (by omega) h (wit_mod (i := 0) (by omega) h2 (hw.out 0 (by omega)))
            go_wp2_with fail
            refine (hc _).mono ?_
            rintro e w1 ⟨rfl, hb⟩
            replace HBL := Lib.hid (link_below HBL.out hb (by have := HBL.out.size; omega) rfl rfl rfl rfl)
            clear hb hc
            go_wp2
            go_roundg (gk - 1)
            case measure => omega
            case rel => exact ⟨1, by omega, by simp, HBL.out⟩
          · have hc := fun w0 => passes_prime 3 n w0 (by omega) h (wit_mod (i := 1) (by omega) h2 (hw.out 1 (by omega)))
            go_wp2_with fail
            refine (hc _).mono ?_
            rintro e w1 ⟨rfl, hb⟩
            replace HBL := Lib.hid (link_below HBL.out hb (by have := HBL.out.size; omega) rfl rfl rfl rfl)
            clear hb hc
            go_wp2
            go_roundg (gk - 1)
            case measure => omega
            case rel => exact ⟨2, by omega, by simp, HBL.out⟩
          · have hc := fun w0 => passes_prime 5 n w0 (by omega) h (wit_mod (i := 2) (by omega) h2 (hw.out 2 (by omega)))
            go_wp2_with fail
            refine (hc _).mono ?_
            rintro e w1 ⟨rfl, hb⟩
            replace HBL := Lib.hid (link_below HBL.out hb (by have := HBL.out.size; omega) rfl rfl rfl rfl)
            clear hb hc
            go_wp2
            go_roundg (gk - 1)
            case measure => omega
            case rel => exact ⟨3, by omega, by simp, HBL.out⟩
          · have hc := fun w0 => passes_prime 7 n w0 (by omega) h (wit_mod (i := 3) (by omega) h2 (hw.out 3 (by omega)))
            go_wp2_with fail
            refine (hc _).mono ?_
            rintro e w1 ⟨rfl, hb⟩
            replace HBL := Lib.hid (link_below HBL.out hb (by have := HBL.out.size; omega) rfl rfl rfl rfl)
            clear hb hc
            go_wp2
            go_roundg (gk - 1)
            case measure => omega
            case rel => exact ⟨4, by omega, by simp, HBL.out⟩
    · have hi : i = 0 ∨ i = 1 ∨ i = 2 ∨ i = 3 := by omega
      rcases hi with rfl | rfl | rfl | rfl
      · by_cases hm : n % 2 = 0
        · have hn : n = 2 := h.only (by omega) hm
          clear hw
          subst hn
          go_wp2
          exact bodyPost_ret (v := .bool true) (by simp [results, Try.results50, go_sem]) rfl ⟨rfl, HBL.out⟩
        · have hm2 : ((n : Int) % 2 == 0) = false := by rw [beq_eq_false_iff_ne]; omega
          go_wp2
          go_roundg (gk - 1)
          case measure => omega
          case rel =>
            refine ⟨1, by omega, by simp, fun j hj => ?_, HBL.out, HBX.out⟩
            rcases Nat.lt_or_ge j 0 with h4 | h4
            · exact hw.out j h4
            · obtain rfl : j = 0 := by omega
              exact hm
      · by_cases hm : n % 3 = 0
        · have hn : n = 3 := h.only (by omega) hm
          clear hw
          subst hn
          go_wp2
          exact bodyPost_ret (v := .bool true) (by simp [results, Try.results50, go_sem]) rfl ⟨rfl, HBL.out⟩
        · have hm2 : ((n : Int) % 3 == 0) = false := by rw [beq_eq_false_iff_ne]; omega
          go_wp2
          go_roundg (gk - 1)
          case measure => omega
          case rel =>
            refine ⟨2, by omega, by simp, fun j hj => ?_, HBL.out, HBX.out⟩
            rcases Nat.lt_or_ge j 1 with h4 | h4
            · exact hw.out j h4
            · obtain rfl : j = 1 := by omega
              exact hm
      · by_cases hm : n % 5 = 0
        · have hn : n = 5 := h.only (by omega) hm
          clear hw
          subst hn
          go_wp2
          exact bodyPost_ret (v := .bool true) (by simp [results, Try.results50, go_sem]) rfl ⟨rfl, HBL.out⟩
        · have hm2 : ((n : Int) % 5 == 0) = false := by rw [beq_eq_false_iff_ne]; omega
          go_wp2
          go_roundg (gk - 1)
          case measure => omega
          case rel =>
            refine ⟨3, by omega, by simp, fun j hj => ?_, HBL.out, HBX.out⟩
            rcases Nat.lt_or_ge j 2 with h4 | h4
            · exact hw.out j h4
            · obtain rfl : j = 2 := by omega
              exact hm
      · by_cases hm : n % 7 = 0
        · have hn : n = 7 := h.only (by omega) hm
          clear hw
          subst hn
          go_wp2
          exact bodyPost_ret (v := .bool true) (by simp [results, Try.results50, go_sem]) rfl ⟨rfl, HBL.out⟩
        · have hm2 : ((n : Int) % 7 == 0) = false := by rw [beq_eq_false_iff_ne]; omega
          go_wp2
          go_roundg (gk - 1)
          case measure => omega
          case rel =>
            refine ⟨4, by omega, by simp, fun j hj => ?_, HBL.out, HBX.out⟩
            rcases Nat.lt_or_ge j 3 with h4 | h4
            · exact hw.out j h4
            · obtain rfl : j = 3 := by omega
              exact hm

set_option maxHeartbeats 4000000 in
set_option maxRecDepth 10000 in
/-- Not a prime, for one of the first four primes divides it. -/
theorem oprime_not (n k0 : Nat) (w : World) (h2 : 2 ≤ n) (h3 : n ≤ 2147483647) (hk : k0 < 4) (hd : n % wit k0 = 0) (hb : ∀ j, j < k0 → n % wit j ≠ 0) (hne : n ≠ wit k0) : Calls Try.prog 50 #[.int .u64 n] w (RetV (.bool false) w) := by
  have i2 : decide ((n : Int) < 2) = false := decide_eq_false (by omega)
  have i3 : decide ((2147483648 : Int) ≤ n) = false := decide_eq_false (by omega)
  have HD := Lib.hid hd
  have HB := Lib.hid hb
  have HN := Lib.hid hne
  clear hd hb hne
  have x0 : ∀ w, (Instr.index 71 (.agg #[Value.int IntKind.u64 2, Value.int IntKind.u64 3, Value.int IntKind.u64 5, Value.int IntKind.u64 7]) (.int .i64 0)).run Try.prog w = .ok (.int .u64 2) w := fun _ => by kernel_rfl
  have x1 : ∀ w, (Instr.index 71 (.agg #[Value.int IntKind.u64 2, Value.int IntKind.u64 3, Value.int IntKind.u64 5, Value.int IntKind.u64 7]) (.int .i64 1)).run Try.prog w = .ok (.int .u64 3) w := fun _ => by kernel_rfl
  have x2 : ∀ w, (Instr.index 71 (.agg #[Value.int IntKind.u64 2, Value.int IntKind.u64 3, Value.int IntKind.u64 5, Value.int IntKind.u64 7]) (.int .i64 2)).run Try.prog w = .ok (.int .u64 5) w := fun _ => by kernel_rfl
  have x3 : ∀ w, (Instr.index 71 (.agg #[Value.int IntKind.u64 2, Value.int IntKind.u64 3, Value.int IntKind.u64 5, Value.int IntKind.u64 7]) (.int .i64 3)).run Try.prog w = .ok (.int .u64 7) w := fun _ => by kernel_rfl
  go_enter Try.func50, Try.ntmps50
  go_wp2_with fail
  clear i2 i3
  go_loopg [5, 16] 4 (fun k _ v16 wr => ∃ i : Nat, i + k = 4 ∧ v16 = .int .i64 i ∧ i ≤ k0 ∧ Below w.heap.size w wr)
  case atStart => exact ⟨0, rfl, rfl, by omega, (Below.refl _ _).alloc (Nat.le_refl _) _⟩
  case round =>
    obtain ⟨i, hik, rfl, hik0, hbl⟩ := hrel
    have HBL := Lib.hid hbl
    clear hbl
    by_cases h0 : gk = 0
    · omega
    · have hi : i = 0 ∨ i = 1 ∨ i = 2 ∨ i = 3 := by omega
      rcases hi with rfl | rfl | rfl | rfl
      · by_cases hm : n % 2 = 0
        · have hk2 : 0 = k0 := by
            rcases Nat.lt_or_ge 0 k0 with h4 | h4
            · exact absurd hm (HB.out 0 h4)
            · omega
          subst hk2
          have hn : n ≠ 2 := HN.out
          have hn2 : ((n : Int) == 2) = false := by rw [beq_eq_false_iff_ne]; omega
          have hm2 : ((n : Int) % 2 == 0) = true := by rw [beq_iff_eq]; omega
          go_wp2
          exact bodyPost_ret (v := .bool false) (by simp [results, Try.results50, go_sem]) rfl ⟨rfl, HBL.out⟩
        · have hm2 : ((n : Int) % 2 == 0) = false := by rw [beq_eq_false_iff_ne]; omega
          have hk2 : 0 < k0 := by
            rcases Nat.lt_or_ge 0 k0 with h4 | h4
            · exact h4
            · obtain rfl : k0 = 0 := by omega
              exact absurd HD.out hm
          go_wp2
          go_roundg (gk - 1)
          case measure => omega
          case rel => exact ⟨1, by omega, by simp, by omega, HBL.out⟩
      · by_cases hm : n % 3 = 0
        · have hk2 : 1 = k0 := by
            rcases Nat.lt_or_ge 1 k0 with h4 | h4
            · exact absurd hm (HB.out 1 h4)
            · omega
          subst hk2
          have hn : n ≠ 3 := HN.out
          have hn2 : ((n : Int) == 3) = false := by rw [beq_eq_false_iff_ne]; omega
          have hm2 : ((n : Int) % 3 == 0) = true := by rw [beq_iff_eq]; omega
          go_wp2
          exact bodyPost_ret (v := .bool false) (by simp [results, Try.results50, go_sem]) rfl ⟨rfl, HBL.out⟩
        · have hm2 : ((n : Int) % 3 == 0) = false := by rw [beq_eq_false_iff_ne]; omega
          have hk2 : 1 < k0 := by
            rcases Nat.lt_or_ge 1 k0 with h4 | h4
            · exact h4
            · obtain rfl : k0 = 1 := by omega
              exact absurd HD.out hm
          go_wp2
          go_roundg (gk - 1)
          case measure => omega
          case rel => exact ⟨2, by omega, by simp, by omega, HBL.out⟩
      · by_cases hm : n % 5 = 0
        · have hk2 : 2 = k0 := by
            rcases Nat.lt_or_ge 2 k0 with h4 | h4
            · exact absurd hm (HB.out 2 h4)
            · omega
          subst hk2
          have hn : n ≠ 5 := HN.out
          have hn2 : ((n : Int) == 5) = false := by rw [beq_eq_false_iff_ne]; omega
          have hm2 : ((n : Int) % 5 == 0) = true := by rw [beq_iff_eq]; omega
          go_wp2
          exact bodyPost_ret (v := .bool false) (by simp [results, Try.results50, go_sem]) rfl ⟨rfl, HBL.out⟩
        · have hm2 : ((n : Int) % 5 == 0) = false := by rw [beq_eq_false_iff_ne]; omega
          have hk2 : 2 < k0 := by
            rcases Nat.lt_or_ge 2 k0 with h4 | h4
            · exact h4
            · obtain rfl : k0 = 2 := by omega
              exact absurd HD.out hm
          go_wp2
          go_roundg (gk - 1)
          case measure => omega
          case rel => exact ⟨3, by omega, by simp, by omega, HBL.out⟩
      · by_cases hm : n % 7 = 0
        · have hk2 : 3 = k0 := by
            rcases Nat.lt_or_ge 3 k0 with h4 | h4
            · exact absurd hm (HB.out 3 h4)
            · omega
          subst hk2
          have hn : n ≠ 7 := HN.out
          have hn2 : ((n : Int) == 7) = false := by rw [beq_eq_false_iff_ne]; omega
          have hm2 : ((n : Int) % 7 == 0) = true := by rw [beq_iff_eq]; omega
          go_wp2
          exact bodyPost_ret (v := .bool false) (by simp [results, Try.results50, go_sem]) rfl ⟨rfl, HBL.out⟩
        · have hm2 : ((n : Int) % 7 == 0) = false := by rw [beq_eq_false_iff_ne]; omega
          have hk2 : 3 < k0 := by
            rcases Nat.lt_or_ge 3 k0 with h4 | h4
            · exact h4
            · obtain rfl : k0 = 3 := by omega
              exact absurd HD.out hm
          go_wp2
          go_roundg (gk - 1)
          case measure => omega
          case rel => exact ⟨4, by omega, by simp, by omega, HBL.out⟩
end Go.Proofs.Ytfigimfdojbkeaa
