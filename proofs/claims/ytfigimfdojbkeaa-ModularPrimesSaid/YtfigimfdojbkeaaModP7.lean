/-
  Layer 3, plain facts: the answer of the program's passes, read for Miller's test.
  Layer 3: the program's Prime, for numbers that fail a witness, and out of range.
  Layer 3: the program's Prime tells primes; its Next finds the next one.
-/
import Derived.Test.YtfigimfdojbkeaaModP4
import Derived.Test.YtfigimfdojbkeaaModG
set_option linter.unusedSimpArgs false
set_option linter.unusedVariables false
namespace Go.Proofs.Ytfigimfdojbkeaa.Mil
theorem sqHas_ps {n : Nat} (hn : 2 ≤ n) : ∀ s x, x % n = x → sqHas n s x = true → ∃ i, i < s ∧ x ^ (2 ^ i) % n = n - 1
  | 0, _, _, h => nomatch h
  | s + 1, x, hx, h => by
    unfold sqHas at h
    rw [Bool.or_eq_true, beq_iff_eq] at h
    rcases h with h | h
    · exact ⟨0, by omega, by rw [Nat.pow_zero, Nat.pow_one, hx]; exact h⟩
    · obtain ⟨i, hi, h1⟩ := sqHas_ps hn s (x * x % n) (Nat.mod_mod _ _) h
      refine ⟨i + 1, by omega, ?_⟩
      rw [← Nat.pow_mod, ← Nat.pow_two, ← Nat.pow_mul, ← Nat.pow_succ'] at h1
      exact h1
/-- What the program's passes answers, read as 'n passes with the witness a'. -/
theorem ps_of {a n d s : Nat} (hn : 2 ≤ n) (e : n - 1 = d * 2 ^ s) (hd : d % 2 = 1) (h : (a ^ d % n == 1 || sqHas n s (a ^ d % n)) = true) : Ps a n := by
  refine ⟨s, d, by rw [e, Nat.mul_comm], hd, ?_⟩
  rw [Bool.or_eq_true, beq_iff_eq] at h
  rcases h with h | h
  · exact .inl h
  · obtain ⟨i, hi, h1⟩ := sqHas_ps hn s _ (Nat.mod_mod _ _) h
    refine .inr ⟨i, hi, ?_⟩
    rw [← Nat.pow_mod, ← Nat.pow_mul, Nat.mul_comm] at h1
    exact h1
end Go.Proofs.Ytfigimfdojbkeaa.Mil

section
namespace Go.Proofs.Ytfigimfdojbkeaa
open Go.RowKit
attribute [local go_sem ↓] Go.wp_at_zero Go.wp_at_succ

theorem oprime_lo (n : Nat) (w : World) (h : n < 2) : Calls Try.prog 50 #[.int .u64 n] w (RetV (.bool false) w) := by
  have i2 : decide ((n : Int) < 2) = true := decide_eq_true (by omega)
  go_enter Try.func50, Try.ntmps50
  go_wp2
  exact bodyPost_ret (v := .bool false) (by simp [results, Try.results50, go_sem]) rfl ⟨rfl, Below.refl _ _⟩
theorem oprime_hi (n : Nat) (w : World) (h : 2147483648 ≤ n) : Calls Try.prog 50 #[.int .u64 n] w (RetV (.bool false) w) := by
  have i2 : decide ((n : Int) < 2) = false := decide_eq_false (by omega)
  have i3 : decide ((2147483648 : Int) ≤ n) = true := decide_eq_true (by omega)
  go_enter Try.func50, Try.ntmps50
  go_wp2
  exact bodyPost_ret (v := .bool false) (by simp [results, Try.results50, go_sem]) rfl ⟨rfl, Below.refl _ _⟩

set_option maxHeartbeats 4000000 in
set_option maxRecDepth 10000 in
/-- P a: what passes says of the witness a. -/
theorem oprime_no (n : Nat) (P : Nat → Prop) (w : World) (h2 : 2 ≤ n) (h3 : n ≤ 2147483647) (hd : ∀ j, j < 4 → n % wit j ≠ 0)
    (hP : ∀ a d s, n - 1 = d * 2 ^ s → d % 2 = 1 → (a ^ d % n == 1 || sqHas n s (a ^ d % n)) = true → P a) (hno : ¬ (P 2 ∧ P 3 ∧ P 5 ∧ P 7)) : Calls Try.prog 50 #[.int .u64 n] w (RetV (.bool false) w) := by
  have i2 : decide ((n : Int) < 2) = false := decide_eq_false (by omega)
  have i3 : decide ((2147483648 : Int) ≤ n) = false := decide_eq_false (by omega)
  have HP := Lib.hid hP
  have HNO := Lib.hid hno
  have m0 : ((n : Int) % 2 == 0) = false := by have := hd 0 (by omega); simp only [wit] at this; rw [beq_eq_false_iff_ne]; simp at this; omega
  have m1 : ((n : Int) % 3 == 0) = false := by have := hd 1 (by omega); simp only [wit] at this; rw [beq_eq_false_iff_ne]; simp at this; omega
  have m2 : ((n : Int) % 5 == 0) = false := by have := hd 2 (by omega); simp only [wit] at this; rw [beq_eq_false_iff_ne]; simp at this; omega
  have m3 : ((n : Int) % 7 == 0) = false := by have := hd 3 (by omega); simp only [wit] at this; rw [beq_eq_false_iff_ne]; simp at this; omega
  clear hP hno hd
  have x0 : ∀ w, (Instr.index 71 (.agg #[Value.int IntKind.u64 2, Value.int IntKind.u64 3, Value.int IntKind.u64 5, Value.int IntKind.u64 7]) (.int .i64 0)).run Try.prog w = .ok (.int .u64 2) w := fun _ => by kernel_rfl
  have x1 : ∀ w, (Instr.index 71 (.agg #[Value.int IntKind.u64 2, Value.int IntKind.u64 3, Value.int IntKind.u64 5, Value.int IntKind.u64 7]) (.int .i64 1)).run Try.prog w = .ok (.int .u64 3) w := fun _ => by kernel_rfl
  have x2 : ∀ w, (Instr.index 71 (.agg #[Value.int IntKind.u64 2, Value.int IntKind.u64 3, Value.int IntKind.u64 5, Value.int IntKind.u64 7]) (.int .i64 2)).run Try.prog w = .ok (.int .u64 5) w := fun _ => by kernel_rfl
  have x3 : ∀ w, (Instr.index 71 (.agg #[Value.int IntKind.u64 2, Value.int IntKind.u64 3, Value.int IntKind.u64 5, Value.int IntKind.u64 7]) (.int .i64 3)).run Try.prog w = .ok (.int .u64 7) w := fun _ => by kernel_rfl
  go_enter Try.func50, Try.ntmps50
  go_wp2_with fail
  clear i2 i3
  go_loopg [5, 16] 4 (fun k _ v16 wr => ∃ i : Nat, i + k = 4 ∧ v16 = .int .i64 i ∧ Below w.heap.size w wr ∧ CBox wr w.heap.size #[Value.int IntKind.u64 2, Value.int IntKind.u64 3, Value.int IntKind.u64 5, Value.int IntKind.u64 7] 71)
  case atStart => exact ⟨0, rfl, rfl, (Below.refl _ _).alloc (Nat.le_refl _) _, CBox.new _ _ _⟩
  case round =>
    obtain ⟨i, hik, rfl, hbl, hbx⟩ := hrel
    have HBL := Lib.hid hbl
    have HBX := Lib.hid hbx
    clear hbl hbx
    by_cases h0 : gk = 0
    · obtain rfl : i = 4 := by omega
      subst h0
      have c0 := HBX.out.cell 0; have c1 := HBX.out.cell 1; have c2 := HBX.out.cell 2; have c3 := HBX.out.cell 3
      simp at c0 c1 c2 c3
      go_wp2_with fail
      clear c0 c1 c2 c3 HBX
      go_loopg [7, 28] 4 (fun k _ v28 wr => ∃ i : Nat, i + k = 4 ∧ v28 = .int .i64 i ∧ Hid ((0 < i → P 2) ∧ (1 < i → P 3) ∧ (2 < i → P 5) ∧ (3 < i → P 7)) ∧ Below w.heap.size w wr)
      case atStart => exact ⟨0, rfl, rfl, ⟨fun h => by omega, fun h => by omega, fun h => by omega, fun h => by omega⟩, HBL.out⟩
      case round =>
        clear HBL
        obtain ⟨i, hik, rfl, hq, hbl⟩ := hrel
        have HBL := Lib.hid hbl
        clear hbl
        by_cases h0 : gk = 0
        · obtain rfl : i = 4 := by omega
          obtain ⟨q0, q1, q2, q3⟩ := hq.out
          exact absurd ⟨q0 (by omega), q1 (by omega), q2 (by omega), q3 (by omega)⟩ HNO.out
        · have hi : i = 0 ∨ i = 1 ∨ i = 2 ∨ i = 3 := by omega
          rcases hi with rfl | rfl | rfl | rfl
          · have hc := fun w0 => passes_any 2 n w0 (by omega) h2 h3
            go_wp2_with fail
            refine (hc _).mono ?_
            rintro e w1 ⟨d, s, ed, od, rfl, hb⟩
            generalize hgb : (2 ^ d % n == 1 || sqHas n s (2 ^ d % n)) = b
            replace HBL := Lib.hid (link_below HBL.out hb (by have := HBL.out.size; omega) rfl rfl rfl rfl)
            replace ed := Lib.hid ed; replace od := Lib.hid od; replace hgb := Lib.hid hgb
            clear hb hc
            cases b
            · go_wp2
              exact bodyPost_ret (v := .bool false) (by simp [results, Try.results50, go_sem]) rfl ⟨rfl, HBL.out⟩
            · go_wp2
              go_roundg (gk - 1)
              case measure => omega
              case rel => exact ⟨1, by omega, by simp, ⟨fun h => HP.out _ _ _ ed.out od.out (hgb.out), fun h => by omega, fun h => by omega, fun h => by omega⟩, HBL.out⟩
          · have hc := fun w0 => passes_any 3 n w0 (by omega) h2 h3
            go_wp2_with fail
            refine (hc _).mono ?_
            rintro e w1 ⟨d, s, ed, od, rfl, hb⟩
            generalize hgb : (3 ^ d % n == 1 || sqHas n s (3 ^ d % n)) = b
            replace HBL := Lib.hid (link_below HBL.out hb (by have := HBL.out.size; omega) rfl rfl rfl rfl)
            replace ed := Lib.hid ed; replace od := Lib.hid od; replace hgb := Lib.hid hgb
            clear hb hc
            cases b
            · go_wp2
              exact bodyPost_ret (v := .bool false) (by simp [results, Try.results50, go_sem]) rfl ⟨rfl, HBL.out⟩
            · go_wp2
              go_roundg (gk - 1)
              case measure => omega
              case rel => exact ⟨2, by omega, by simp, ⟨fun h => hq.out.1 (by omega), fun h => HP.out _ _ _ ed.out od.out (hgb.out), fun h => by omega, fun h => by omega⟩, HBL.out⟩
          · have hc := fun w0 => passes_any 5 n w0 (by omega) h2 h3
            go_wp2_with fail
            refine (hc _).mono ?_
            rintro e w1 ⟨d, s, ed, od, rfl, hb⟩
            generalize hgb : (5 ^ d % n == 1 || sqHas n s (5 ^ d % n)) = b
            replace HBL := Lib.hid (link_below HBL.out hb (by have := HBL.out.size; omega) rfl rfl rfl rfl)
            replace ed := Lib.hid ed; replace od := Lib.hid od; replace hgb := Lib.hid hgb
            clear hb hc
            cases b
            · go_wp2
              exact bodyPost_ret (v := .bool false) (by simp [results, Try.results50, go_sem]) rfl ⟨rfl, HBL.out⟩
            · go_wp2
              go_roundg (gk - 1)
              case measure => omega
              case rel => exact ⟨3, by omega, by simp, ⟨fun h => hq.out.1 (by omega), fun h => hq.out.2.1 (by omega), fun h => HP.out _ _ _ ed.out od.out (hgb.out), fun h => by omega⟩, HBL.out⟩
          · have hc := fun w0 => passes_any 7 n w0 (by omega) h2 h3
            go_wp2_with fail
            refine (hc _).mono ?_
            rintro e w1 ⟨d, s, ed, od, rfl, hb⟩
            generalize hgb : (7 ^ d % n == 1 || sqHas n s (7 ^ d % n)) = b
            replace HBL := Lib.hid (link_below HBL.out hb (by have := HBL.out.size; omega) rfl rfl rfl rfl)
            replace ed := Lib.hid ed; replace od := Lib.hid od; replace hgb := Lib.hid hgb
            clear hb hc
            cases b
            · go_wp2
              exact bodyPost_ret (v := .bool false) (by simp [results, Try.results50, go_sem]) rfl ⟨rfl, HBL.out⟩
            · go_wp2
              go_roundg (gk - 1)
              case measure => omega
              case rel => exact ⟨4, by omega, by simp, ⟨fun h => hq.out.1 (by omega), fun h => hq.out.2.1 (by omega), fun h => hq.out.2.2.1 (by omega), fun h => HP.out _ _ _ ed.out od.out (hgb.out)⟩, HBL.out⟩
    · have hi : i = 0 ∨ i = 1 ∨ i = 2 ∨ i = 3 := by omega
      rcases hi with rfl | rfl | rfl | rfl
      · go_wp2
        go_roundg (gk - 1)
        case measure => omega
        case rel => exact ⟨1, by omega, by simp, HBL.out, HBX.out⟩
      · go_wp2
        go_roundg (gk - 1)
        case measure => omega
        case rel => exact ⟨2, by omega, by simp, HBL.out, HBX.out⟩
      · go_wp2
        go_roundg (gk - 1)
        case measure => omega
        case rel => exact ⟨3, by omega, by simp, HBL.out, HBX.out⟩
      · go_wp2
        go_roundg (gk - 1)
        case measure => omega
        case rel => exact ⟨4, by omega, by simp, HBL.out, HBX.out⟩
end Go.Proofs.Ytfigimfdojbkeaa
end

section
namespace Go.Proofs.Ytfigimfdojbkeaa
open Go.RowKit
attribute [local go_sem ↓] Go.wp_at_zero Go.wp_at_succ

theorem wit_pr {j : Nat} (h : j < 4) : IsPr (wit j) := by
  have : j = 0 ∨ j = 1 ∨ j = 2 ∨ j = 3 := by omega
  rcases this with rfl | rfl | rfl | rfl
  · exact Mil.isPr2
  · exact Mil.isPr3
  · exact Mil.isPr5
  · exact Mil.isPr7
theorem oprime_is (n : Nat) (w : World) : Calls Try.prog 50 #[.int .u64 n] w fun e w' => ∃ b : Bool, e = .returned (.bool b) ∧ (b = true ↔ IsPr n) ∧ Below w.heap.size w w' := by
  by_cases hp : IsPr n
  · refine (oprime_pr n w hp).mono ?_
    rintro e w1 ⟨rfl, hb⟩
    exact ⟨true, rfl, ⟨fun _ => hp, fun _ => rfl⟩, hb⟩
  · have key : Calls Try.prog 50 #[.int .u64 n] w (RetV (.bool false) w) := by
      rcases Nat.lt_or_ge n 2 with h2 | h2
      · exact oprime_lo n w h2
      rcases Nat.lt_or_ge n 2147483648 with h3 | h3
      · have d0 : n ≠ 2 := by rintro rfl; exact hp Mil.isPr2
        have d1 : n ≠ 3 := by rintro rfl; exact hp Mil.isPr3
        have d2 : n ≠ 5 := by rintro rfl; exact hp Mil.isPr5
        have d3 : n ≠ 7 := by rintro rfl; exact hp Mil.isPr7
        by_cases m0 : n % 2 = 0
        · exact oprime_not n 0 w h2 (by omega) (by omega) m0 (fun j h => by omega) d0
        by_cases m1 : n % 3 = 0
        · exact oprime_not n 1 w h2 (by omega) (by omega) m1 (fun j h => by obtain rfl : j = 0 := by omega
                                                                            exact m0) d1
        by_cases m2 : n % 5 = 0
        · exact oprime_not n 2 w h2 (by omega) (by omega) m2 (fun j h => by
            have : j = 0 ∨ j = 1 := by omega
            rcases this with rfl | rfl
            · exact m0
            · exact m1) d2
        by_cases m3 : n % 7 = 0
        · exact oprime_not n 3 w h2 (by omega) (by omega) m3 (fun j h => by
            have : j = 0 ∨ j = 1 ∨ j = 2 := by omega
            rcases this with rfl | rfl | rfl
            · exact m0
            · exact m1
            · exact m2) d3
        exact oprime_no n (fun a => Mil.Ps a n) w h2 (by omega) (fun j h => by
            have : j = 0 ∨ j = 1 ∨ j = 2 ∨ j = 3 := by omega
            rcases this with rfl | rfl | rfl | rfl
            · exact m0
            · exact m1
            · exact m2
            · exact m3) (fun a d s h1 h4 h5 => Mil.ps_of h2 h1 h4 h5) (fun h => hp (Mil.miller_prime h2 (by omega) m0 m1 m2 m3 ⟨h.1, h.2.1, h.2.2.1, h.2.2.2⟩))
      · exact oprime_hi n w h3
    refine key.mono ?_
    rintro e w1 ⟨rfl, hb⟩
    exact ⟨false, rfl, ⟨fun h => (nomatch h), fun h => absurd h hp⟩, hb⟩

set_option maxHeartbeats 1000000 in
theorem onext_any (n : Nat) (w : World) (hn : n < 2147483647) :
    Calls Try.prog 48 #[.int .u64 n] w fun e w' => ∃ p : Nat, e = .returned (.tuple #[.int .u64 p, .int .i64 0]) ∧ n < p ∧ IsPr p ∧ (∀ q, n < q → q < p → ¬ IsPr q) ∧ Below w.heap.size w w' := by
  have i1 : decide ((2147483647 : Int) ≤ (n : Int)) = false := decide_eq_false (by omega)
  have i2 : IntKind.u64.wrap ((n : Int) + 1) = ((n + 1 : Nat) : Int) := by rw [IntWalk.u64_in _ (by omega)]; omega
  go_enter Try.func48, Try.ntmps48
  go_wp2_with fail
  go_loopg [0] (2147483646 - n) (fun k v4 wr => ∃ p : Nat, p + k = 2147483647 ∧ n < p ∧ v4 = .int .u64 p ∧ Hid (∀ q, n < q → q < p → ¬ IsPr q) ∧ Below w.heap.size w wr)
  case atStart => exact ⟨n + 1, by omega, by omega, by simp, fun q h1 h2 => by omega, Below.refl _ _⟩
  case round =>
    obtain ⟨p, hpk, hnp, rfl, hq, hbl⟩ := hrel
    have HBL := Lib.hid hbl
    clear hbl i1 i2
    go_wp2_with fail
    refine (oprime_is p _).mono ?_
    rintro e w1 ⟨b, rfl, hb, hbl⟩
    have HB := Lib.hid hb
    replace HBL := Lib.hid (link_below HBL.out hbl (by have := HBL.out.size; omega) rfl rfl rfl rfl)
    clear hb hbl
    have i3 : IntKind.u64.wrap ((p : Int) + 1) = ((p + 1 : Nat) : Int) := by rw [IntWalk.u64_in _ (by omega)]; omega
    cases b
    · have hk0 : gk ≠ 0 := by
        intro h
        obtain rfl : p = 2147483647 := by omega
        exact absurd (HB.out.2 isPr_last) (by simp)
      go_wp2
      go_roundg (gk - 1)
      case measure => omega
      case rel =>
        refine ⟨p + 1, by omega, by omega, by simp, fun q h1 h2 => ?_, HBL.out⟩
        rcases Nat.lt_or_ge q p with h | h
        · exact hq.out q h1 h
        · obtain rfl : q = p := by omega
          exact fun h => absurd (HB.out.2 h) (by simp)
    · go_wp2
      exact bodyPost_ret (v := .tuple #[.int .u64 (p : Nat), .int .i64 0]) (by simp [results, Try.results48, go_sem]) rfl ⟨p, rfl, hnp, HB.out.1 (by simp), hq.out, HBL.out⟩
set_option maxHeartbeats 1000000 in
theorem onext_err (n : Nat) (w : World) (hn : 2147483647 ≤ n) (hb : n < 18446744073709551616) : Calls Try.prog 48 #[.int .u64 n] w (RetV (.tuple #[.int .u64 0, .int .i64 1]) w) := by
  have i1 : decide ((2147483647 : Int) ≤ (n : Int)) = true := decide_eq_true (by omega)
  go_enter Try.func48, Try.ntmps48
  go_wp2
  exact bodyPost_ret (v := .tuple #[.int .u64 0, .int .i64 1]) (by simp [results, Try.results48, go_sem]) rfl ⟨rfl, Below.refl _ _⟩
end Go.Proofs.Ytfigimfdojbkeaa
end
