/-
  Layer 3: contracts of Inv, and of the reference's Prime and Next.
-/
import Derived.Test.YtfigimfdojbkeaaModA
set_option linter.unusedSimpArgs false
set_option linter.unusedVariables false
namespace Go.Proofs.Ytfigimfdojbkeaa
open Go.RowKit
attribute [local go_sem ↓] Go.wp_at_zero Go.wp_at_succ

set_option maxHeartbeats 1000000 in
theorem oinv_zero (a p : Nat) (w : World) (hp0 : 0 < p) (hp : p ≤ 4294967296) (h : a % p = 0) : Calls Try.prog 53 #[.int .u64 a, .int .u64 p] w (RetV (.tuple #[.int .u64 0, .int .i64 10]) w) := by
  have hz : ((p : Int) == 0) = false := by simp; omega
  have hz2 : ¬ (p : Int) = 0 := by omega
  have hm : (a : Int) % (p : Int) = 0 := by rw [← Int.natCast_emod, h]; rfl
  go_enter Try.func53, Try.ntmps53
  go_wp2
  go_ret2
  exact ⟨rfl, Below.refl _ _⟩
set_option maxHeartbeats 1000000 in
theorem oinv_any (a p : Nat) (w : World) (ha : a < 18446744073709551616) (hp0 : 0 < p) (hp : p ≤ 4294967296) (h : a % p ≠ 0) : Calls Try.prog 53 #[.int .u64 a, .int .u64 p] w (RetV (.tuple #[.int .u64 (a ^ (p - 2) % p : Nat), .int .i64 0]) w) := by
  have hp2 : 2 ≤ p := by
    rcases Nat.lt_or_ge p 2 with h1 | h1
    · obtain rfl : p = 1 := by omega
      exact absurd (Nat.mod_one a) h
    · exact h1
  have hz : ((p : Int) == 0) = false := by simp; omega
  have hz2 : ¬ (p : Int) = 0 := by omega
  have hm : ((a : Int) % (p : Int) == 0) = false := by rw [← Int.natCast_emod]; simp; omega
  have hs : IntKind.u64.wrap ((p : Int) - 2) = ((p - 2 : Nat) : Int) := by rw [IntWalk.u64_in _ (by omega)]; omega
  go_enter Try.func53, Try.ntmps53
  go_wp2_with fail
  have hc := opow_any a (p - 2) p w ha (by omega) hp0 hp
  refine hc.mono ?_
  rintro e w1 ⟨rfl, hb⟩
  go_wp2
  go_ret2
  exact ⟨rfl, hb⟩
set_option maxHeartbeats 1000000 in
theorem einv_zero (a p : Nat) (w : World) (hp0 : 0 < p) (h : a % p = 0) : Calls Try.prog 54 #[.int .u64 a, .int .u64 p] w (RetV (.tuple #[.int .u64 0, .int .i64 10]) w) := by
  have hz2 : ¬ (p : Int) = 0 := by omega
  have hm : (a : Int) % (p : Int) = 0 := by rw [← Int.natCast_emod, h]; rfl
  go_enter Try.func54, Try.ntmps54
  go_wp2
  go_ret2
  exact ⟨rfl, Below.refl _ _⟩
set_option maxHeartbeats 1000000 in
theorem einv_any (a p : Nat) (w : World) (ha : a < 18446744073709551616) (hp0 : 0 < p) (hp : p ≤ 4294967296) (h : a % p ≠ 0) : Calls Try.prog 54 #[.int .u64 a, .int .u64 p] w (RetV (.tuple #[.int .u64 (a ^ (p - 2) % p : Nat), .int .i64 0]) w) := by
  have hp2 : 2 ≤ p := by
    rcases Nat.lt_or_ge p 2 with h1 | h1
    · obtain rfl : p = 1 := by omega
      exact absurd (Nat.mod_one a) h
    · exact h1
  have hz2 : ¬ (p : Int) = 0 := by omega
  have hm : ((a : Int) % (p : Int) == 0) = false := by rw [← Int.natCast_emod]; simp; omega
  have hs : IntKind.u64.wrap ((p : Int) - 2) = ((p - 2 : Nat) : Int) := by rw [IntWalk.u64_in _ (by omega)]; omega
  go_enter Try.func54, Try.ntmps54
  go_wp2_with fail
  have hc := epow_any a (p - 2) p w ha (by omega) hp0 hp
  refine hc.mono ?_
  rintro e w1 ⟨rfl, hb⟩
  go_wp2
  go_ret2
  exact ⟨rfl, hb⟩

/-- A prime of the document: found by trial division. -/
structure IsPr (n : Nat) : Prop where
  two : 2 ≤ n
  small : n ≤ 2147483647
  div : ∀ d, 2 ≤ d → d * d ≤ n → n % d ≠ 0

set_option maxHeartbeats 1000000 in
theorem eprime_any (n : Nat) (w : World) (hn : n < 18446744073709551616) :
    Calls Try.prog 51 #[.int .u64 n] w fun e w' => ∃ b : Bool, e = .returned (.bool b) ∧ (b = true ↔ IsPr n) ∧ Below w.heap.size w w' := by
  by_cases h2 : n < 2
  · have i2 : (n : Int) < 2 := by omega
    go_enter Try.func51, Try.ntmps51
    go_wp2
    exact bodyPost_ret (v := .bool false) (by simp [results, Try.results51, go_sem]) rfl ⟨false, rfl, ⟨fun h => (nomatch h), fun h => absurd (IsPr.two h) (by omega)⟩, Below.refl _ _⟩
  · have i2 : decide ((n : Int) < 2) = false := by rw [decide_eq_false_iff_not]; omega
    by_cases h3 : 2147483647 < n
    · have i3 : (2147483647 : Int) < n := by omega
      go_enter Try.func51, Try.ntmps51
      go_wp2
      exact bodyPost_ret (v := .bool false) (by simp [results, Try.results51, go_sem]) rfl ⟨false, rfl, ⟨fun h => (nomatch h), fun h => absurd (IsPr.small h) (by omega)⟩, Below.refl _ _⟩
    · have i3 : decide ((2147483647 : Int) < n) = false := by rw [decide_eq_false_iff_not]; omega
      have hn3 : n ≤ 2147483647 := by omega
      go_enter Try.func51, Try.ntmps51
      go_wp2_with fail
      go_loopg [3] 46340 (fun k v3 wr => ∃ d : Nat, d + k = 46342 ∧ 2 ≤ d ∧ v3 = .int .u64 d ∧ wr = w ∧ Hid (∀ c, 2 ≤ c → c < d → n % c ≠ 0))
      case atStart => exact ⟨2, rfl, Nat.le_refl _, rfl, rfl, fun c h1 h2 => by omega⟩
      case round =>
        obtain ⟨d, hdk, hd2, rfl, rfl, hc⟩ := hrel
        have hdl : d ≤ 46342 := by omega
        have hdd : d * d < 18446744073709551616 := Nat.lt_of_le_of_lt (Nat.mul_le_mul hdl hdl) (by omega)
        have m1 : IntKind.u64.wrap ((d : Int) * (d : Int)) = ((d * d : Nat) : Int) := by rw [← Int.natCast_mul]; exact IntWalk.u64_in _ (by omega)
        by_cases hle : d * d ≤ n
        · have i4 : decide (((d * d : Nat) : Int) ≤ (n : Int)) = true := decide_eq_true (by omega)
          have hd4 : d ≤ 46340 := by
            rcases Nat.lt_or_ge 46340 d with h | h
            · have := Nat.mul_le_mul h h
              omega
            · exact h
          have hz : ¬ (d : Int) = 0 := by omega
          have hz' : ((d : Int) == 0) = false := by simp; omega
          have i5 : IntKind.u64.wrap ((d : Int) + 1) = ((d + 1 : Nat) : Int) := by rw [IntWalk.u64_in _ (by omega)]; omega
          by_cases hm : n % d = 0
          · have hmI : (n : Int) % (d : Int) = 0 := by rw [← Int.natCast_emod, hm]; rfl
            clear hdd
            go_wp2
            exact bodyPost_ret (v := .bool false) (by simp [results, Try.results51, go_sem]) rfl ⟨false, rfl, ⟨fun h => (nomatch h), fun h => absurd hm (IsPr.div h d hd2 hle)⟩, Below.refl _ _⟩
          · have hmI : ((n : Int) % (d : Int) == 0) = false := by rw [← Int.natCast_emod]; simp; omega
            clear hdd
            go_wp2
            go_roundg (gk - 1)
            case measure => omega
            case rel =>
              refine ⟨d + 1, by omega, by omega, by simp, rfl, fun c h1 h2 => ?_⟩
              rcases Nat.lt_or_ge c d with h | h
              · exact hc.out c h1 h
              · obtain rfl : c = d := by omega
                exact hm
        · have i4 : decide (((d * d : Nat) : Int) ≤ (n : Int)) = false := decide_eq_false (by omega)
          clear hdd
          go_wp2
          refine bodyPost_ret (v := .bool true) (by simp [results, Try.results51, go_sem]) rfl ⟨true, rfl, ⟨fun _ => ⟨by omega, hn3, fun c h1 h4 => hc.out c h1 ?_⟩, fun _ => rfl⟩, Below.refl _ _⟩
          rcases Nat.lt_or_ge c d with h | h
          · exact h
          · exact absurd (Nat.le_trans (Nat.mul_le_mul h h) h4) hle

/-- No number from a up to a + 2^f divides n, but for 1. -/
def noDiv (n : Nat) : Nat → Nat → Bool
  | 0, a => n % a != 0 || decide (a < 2)
  | f + 1, a => noDiv n f a && noDiv n f (a + 2 ^ f)
theorem noDiv_ok (n : Nat) : ∀ f a, noDiv n f a = true → ∀ d, a ≤ d → d < a + 2 ^ f → 2 ≤ d → n % d ≠ 0
  | 0, a, h, d, h1, h2, h3 => by
    obtain rfl : d = a := by simp at h2; omega
    simp [noDiv] at h
    omega
  | f + 1, a, h, d, h1, h2, h3 => by
    simp only [noDiv, Bool.and_eq_true] at h
    rw [Nat.pow_succ] at h2
    rcases Nat.lt_or_ge d (a + 2 ^ f) with h4 | h4
    · exact noDiv_ok n f a h.1 d h1 h4 h3
    · exact noDiv_ok n f _ h.2 d h4 (by omega) h3
theorem isPr_last : IsPr 2147483647 := by
  refine ⟨by omega, by omega, fun d h2 hd => ?_⟩
  have hk : noDiv 2147483647 16 0 = true := by kernel_rfl
  refine noDiv_ok _ 16 0 hk d (by omega) ?_ h2
  rcases Nat.lt_or_ge d (0 + 2 ^ 16) with h | h
  · exact h
  · have := Nat.mul_le_mul h h
    omega

set_option maxHeartbeats 1000000 in
theorem enext_any (n : Nat) (w : World) (hn : n < 2147483647) :
    Calls Try.prog 49 #[.int .u64 n] w fun e w' => ∃ p : Nat, e = .returned (.tuple #[.int .u64 p, .int .i64 0]) ∧ n < p ∧ IsPr p ∧ (∀ q, n < q → q < p → ¬ IsPr q) ∧ Below w.heap.size w w' := by
  have i1 : decide ((2147483647 : Int) ≤ (n : Int)) = false := decide_eq_false (by omega)
  have i2 : IntKind.u64.wrap ((n : Int) + 1) = ((n + 1 : Nat) : Int) := by rw [IntWalk.u64_in _ (by omega)]; omega
  go_enter Try.func49, Try.ntmps49
  go_wp2_with fail
  go_loopg [4] (2147483646 - n) (fun k v4 wr => ∃ p : Nat, p + k = 2147483647 ∧ n < p ∧ v4 = .int .u64 p ∧ Hid (∀ q, n < q → q < p → ¬ IsPr q) ∧ Below w.heap.size w wr)
  case atStart => exact ⟨n + 1, by omega, by omega, by simp, fun q h1 h2 => by omega, Below.refl _ _⟩
  case round =>
    obtain ⟨p, hpk, hnp, rfl, hq, hbl⟩ := hrel
    have HBL := Lib.hid hbl
    clear hbl i1 i2
    go_wp2_with fail
    refine (eprime_any p _ (by omega)).mono ?_
    rintro e w1 ⟨b, rfl, hb, hbl⟩
    have HB := Lib.hid hb
    replace HBL := Lib.hid (link_below HBL.out hbl (by have := HBL.out.size; omega) rfl rfl rfl rfl)
    clear hb hbl
    have i3 : IntKind.u64.wrap ((p : Int) + 1) = ((p + 1 : Nat) : Int) := by rw [IntWalk.u64_in _ (by omega)]; omega
    cases b
    · have hk0 : gk ≠ 0 := by
        intro h
        obtain rfl : p = 2147483647 := by omega
        exact absurd (HB.out.2 isPr_last) (by simp)
      go_wp2
      go_roundg (gk - 1)
      case measure => omega
      case rel =>
        refine ⟨p + 1, by omega, by omega, by simp, fun q h1 h2 => ?_, HBL.out⟩
        rcases Nat.lt_or_ge q p with h | h
        · exact hq.out q h1 h
        · obtain rfl : q = p := by omega
          exact fun h => absurd (HB.out.2 h) (by simp)
    · go_wp2
      exact bodyPost_ret (v := .tuple #[.int .u64 (p : Nat), .int .i64 0]) (by simp [results, Try.results49, go_sem]) rfl ⟨p, rfl, hnp, HB.out.1 (by simp), hq.out, HBL.out⟩
end Go.Proofs.Ytfigimfdojbkeaa
