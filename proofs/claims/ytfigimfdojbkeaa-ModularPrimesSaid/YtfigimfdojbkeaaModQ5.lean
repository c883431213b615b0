/-
  Layer 3: ModularPrimes.
  Layer 3, plain facts: a prime at most 1000 above every number below 2^31 - 1.
-/
import Derived.Test.YtfigimfdojbkeaaModL1
import Derived.Test.YtfigimfdojbkeaaModP7
import Derived.Deep.DeepCutAuto
import Derived.Handy
import Derived.Test.YtfigimfdojbkeaaModQ2
import Derived.Test.YtfigimfdojbkeaaModQ4
set_option linter.unusedSimpArgs false
set_option linter.unusedVariables false
section
namespace Go.Proofs.Ytfigimfdojbkeaa
open Go.RowKit
attribute [local go_sem ↓] Go.wp_at_zero Go.wp_at_succ

set_option maxHeartbeats 8000000 in
set_option maxRecDepth 10000 in
theorem lawPri_any (gap : ∀ k, k < 2147483647 → ∃ p, k < p ∧ p ≤ k + 1000 ∧ IsPr p) (N a : Nat) (w : World) (hN : N < 4294967296) (ha : a < 18446744073709551616) : Calls Try.prog 8 #[.int .u32 (N : Nat), .int .u64 (a : Nat)] w (RetV (.bool true) w) := by
  obtain ⟨K, hK⟩ : ∃ K, N % 2147483647 = K := ⟨_, rfl⟩
  have hK1 : K < 2147483647 := by omega
  have hK2 : (N : Int) % 2147483647 = (K : Int) := by omega
  have HA := Lib.hid ha
  clear ha
  go_enter Try.func8, Try.ntmps8
  have DW : Hid (Below w.heap.size w w) := Below.refl _ _
  obtain ⟨g, hg⟩ : ∃ g, w.heap.size = g := ⟨_, rfl⟩
  rw [hg] at DW
  replace hg := Lib.hid hg
  go_wp2_with fail
  refine (sanity3_any _).mono ?_
  rintro e y1 ⟨rfl, hb⟩
  replace DW := nxd DW hg hb rfl rfl rfl rfl
  clear hb
  go_wp2_with fail
  try rw [hK2]
  refine (onext_any K _ hK1).mono ?_
  rintro e y2 ⟨p, rfl, hkp, hpr, hmin, hb⟩
  replace DW := nxd DW hg hb rfl rfl rfl rfl
  clear hb
  have hgap : p ≤ K + 1000 := by
    obtain ⟨q, hq1, hq2, hq3⟩ := gap K hK1
    rcases Nat.lt_or_ge q p with h | h
    · exact absurd hq3 (hmin q hq1 h)
    · omega
  have p2 : Hid (2 ≤ p ∧ p ≤ 2147483647) := ⟨hpr.1, hpr.small⟩
  have HPR := Lib.hid hpr
  have HMIN := Lib.hid hmin
  have HKP : Hid (K < p) := hkp
  have f1 : decide ((p : Int) ≤ (K : Int)) = false := decide_eq_false (by omega)
  have f1n : decide (p ≤ K) = false := decide_eq_false (by omega)
  have f2 : IntKind.u64.wrap ((p : Int) - (K : Int)) = (p : Int) - (K : Int) := IntWalk.u64_in _ (by have := p2.out; omega)
  have f3 : decide ((1000 : Int) < (p : Int) - (K : Int)) = false := decide_eq_false (by omega)
  have i2 : IntKind.u64.wrap ((K : Int) + 1) = ((K + 1 : Nat) : Int) := by rw [IntWalk.u64_in _ (by omega)]; omega
  clear hpr hmin hK hK1 hK2 hgap hkp gap
  go_wp2_with fail
  refine (oprime_pr p _ HPR.out).mono ?_
  rintro e y3 ⟨rfl, hb⟩
  replace DW := nxd DW hg hb rfl rfl rfl rfl
  clear hb
  go_wp2_with fail
  clear f1 f1n f2 f3
  go_loopg [9] (p - (K + 1)) (fun k v9 wr => ∃ q : Nat, q + k = p ∧ K < q ∧ v9 = .int .u64 q ∧ Below g w wr)
  case atStart => exact ⟨K + 1, by have := HKP.out; omega, by omega, by simp, DW.out⟩
  case round =>
    clear DW i2
    obtain ⟨q, hqk, hKq, rfl, hbl⟩ := hrel
    have DW := Lib.hid hbl
    clear hbl
    by_cases h0 : gk = 0
    · obtain rfl : q = p := by omega
      have l0 : decide ((q : Int) < (q : Int)) = false := decide_eq_false (by omega)
      clear hqk
      go_wp2_with fail
      clear l0
      go_loopg [10] 46339 (fun k v10 wr => ∃ d : Nat, d + k = 46341 ∧ 2 ≤ d ∧ v10 = .int .u64 d ∧ Below g w wr)
      case atStart => exact ⟨2, by omega, by omega, rfl, DW.out⟩
      case round =>
        clear DW
        obtain ⟨d, hdk, hd2, rfl, hbl⟩ := hrel
        have DW := Lib.hid hbl
        clear hbl
        have hmm : d * d ≤ 46341 * 46341 := Nat.mul_le_mul (by omega) (by omega)
        have f4 : IntKind.u64.wrap ((d : Int) * (d : Int)) = (d : Int) * (d : Int) :=
          IntWalk.u64_in _ ⟨by rw [← Int.natCast_mul]; omega, by rw [← Int.natCast_mul]; omega⟩
        by_cases hD : d * d ≤ q
        · have f5 : decide ((d : Int) * (d : Int) ≤ (q : Int)) = true := decide_eq_true (by rw [← Int.natCast_mul]; omega)
          have hk0 : gk ≠ 0 := by
            intro h
            obtain rfl : d = 46341 := by omega
            have := p2.out
            omega
          have f6 : ((q : Int) % (d : Int) == 0) = false := by
            have := HPR.out.div d hd2 hD
            rw [beq_eq_false_iff_ne, ← Int.natCast_emod]
            omega
          have hz : ((d : Int) == 0) = false := by simp; omega
          have hz2 : ¬ (d : Int) = 0 := by omega
          have i3 : IntKind.u64.wrap ((d : Int) + 1) = ((d + 1 : Nat) : Int) := by rw [IntWalk.u64_in _ (by omega)]; omega
          clear hmm hD
          go_wp2
          go_roundg (gk - 1)
          case measure => omega
          case rel => exact ⟨d + 1, by omega, by omega, by simp, DW.out⟩
        · have f5 : decide ((d : Int) * (d : Int) ≤ (q : Int)) = false := decide_eq_false (by rw [← Int.natCast_mul]; omega)
          have f6 : IntKind.u64.wrap ((q : Int) - 1) = ((q - 1 : Nat) : Int) := by have := p2.out; rw [IntWalk.u64_in _ (by omega)]; omega
          have hz : ((q : Int) == 0) = false := by have := p2.out; simp; omega
          have hz2 : ¬ (q : Int) = 0 := by have := p2.out; omega
          clear hmm hD
          obtain ⟨pw, hpw⟩ : ∃ x, a ^ (q - 1) % q = x := ⟨_, rfl⟩
          obtain ⟨r, hr⟩ : ∃ r, a % q = r := ⟨_, rfl⟩
          have hri : (a : Int) % (q : Int) = (r : Int) := by rw [← Int.natCast_emod, hr]
          have hpv : (r = 0 ∧ pw = 0) ∨ (r ≠ 0 ∧ pw = 1) := by
            by_cases h : r = 0
            · refine .inl ⟨h, ?_⟩
              have := p2.out
              rw [← hpw, Nat.pow_mod, hr, h, Nat.zero_pow (by omega), Nat.zero_mod]
            · exact .inr ⟨h, by rw [← hpw]; exact fermat HPR.out (by rw [hr]; exact h)⟩
          replace hpw := Lib.hid hpw; replace hr := Lib.hid hr; replace hpv := Lib.hid hpv
          go_wp2_with fail
          refine (opow_is a (q - 1) q pw _ HA.out (by have := p2.out; omega) (by have := p2.out; omega) (by have := p2.out; omega) hpw.out).mono ?_
          rintro e y4 ⟨rfl, hb⟩
          replace DW := nxd DW hg hb rfl rfl rfl rfl
          clear hb
          rcases hpv.out with ⟨rfl, rfl⟩ | ⟨h1, rfl⟩
          · go_wp2
            go_ret
            exact ⟨rfl, by rw [hg.out]; exact DW.out⟩
          · have f7 : ((r : Int) == 0) = false := by rw [beq_eq_false_iff_ne]; omega
            have f8 : ((r : Int) != 0) = true := by simp; omega
            have f9 : ¬ (r : Int) = 0 := by omega
            go_wp2
            go_ret
            exact ⟨rfl, by rw [hg.out]; exact DW.out⟩
    · have l1 : decide ((q : Int) < (p : Int)) = true := decide_eq_true (by omega)
      go_wp2_with fail
      refine (oprime_is q _).mono ?_
      rintro e y4 ⟨b, rfl, hbp, hb⟩
      replace DW := nxd DW hg hb rfl rfl rfl rfl
      clear hb
      obtain rfl : b = false := by
        cases b with
        | false => rfl
        | true => exact absurd (hbp.1 rfl) (HMIN.out q hKq (by omega))
      clear hbp
      have i3 : IntKind.u64.wrap ((q : Int) + 1) = ((q + 1 : Nat) : Int) := by have := p2.out; rw [IntWalk.u64_in _ (by omega)]; omega
      go_wp2
      go_roundg (gk - 1)
      case measure => omega
      case rel => exact ⟨q + 1, by omega, by omega, by simp, DW.out⟩
end Go.Proofs.Ytfigimfdojbkeaa
end

namespace Go.Proofs.Ytfigimfdojbkeaa.Gp
set_option maxRecDepth 100000 in
theorem ws0 : Nat.beq (run 6 1 p0) 63421 = true := by decide +kernel
set_option maxRecDepth 100000 in
theorem ws1 : Nat.beq (run 1 63421 p0) 65393 = true := by decide +kernel
theorem low : Good 66000 1 65393 :=
  ((good_of dec_p0 ws0 (by decide)).trans
    (good_of dec_p0 ws1 (by decide)))
theorem big : Good 2147483647 65393 2147483353 :=
  ((good_of dec_pp wk0 (by decide)).trans
    ((good_of dec_pp wk1 (by decide)).trans
    ((good_of dec_pp wk2 (by decide)).trans
    ((good_of dec_pp wk3 (by decide)).trans
    ((good_of dec_pp wk4 (by decide)).trans
    ((good_of dec_pp wk5 (by decide)).trans
    ((good_of dec_pp wk6 (by decide)).trans
    ((good_of dec_pp wk7 (by decide)).trans
    ((good_of dec_pp wk8 (by decide)).trans
    ((good_of dec_pp wk9 (by decide)).trans
    ((good_of dec_pp wk10 (by decide)).trans
    ((good_of dec_pp wk11 (by decide)).trans
    ((good_of dec_pp wk12 (by decide)).trans
    ((good_of dec_pp wk13 (by decide)).trans
    ((good_of dec_pp wk14 (by decide)).trans
    ((good_of dec_pp wk15 (by decide)).trans
    ((good_of dec_pp wk16 (by decide)).trans
    ((good_of dec_pp wk17 (by decide)).trans
    ((good_of dec_pp wk18 (by decide)).trans
    ((good_of dec_pp wk19 (by decide)).trans
    ((good_of dec_pp wk20 (by decide)).trans
    ((good_of dec_pp wk21 (by decide)).trans
    ((good_of dec_pp wk22 (by decide)).trans
    ((good_of dec_pp wk23 (by decide)).trans
    ((good_of dec_pp wk24 (by decide)).trans
    ((good_of dec_pp wk25 (by decide)).trans
    ((good_of dec_pp wk26 (by decide)).trans
    ((good_of dec_pp wk27 (by decide)).trans
    ((good_of dec_pp wk28 (by decide)).trans
    ((good_of dec_pp wk29 (by decide)).trans
    ((good_of dec_pp wk30 (by decide)).trans
    ((good_of dec_pp wk31 (by decide)).trans
    ((good_of dec_pp wk32 (by decide)).trans
    ((good_of dec_pp wk33 (by decide)).trans
    ((good_of dec_pp wk34 (by decide)).trans
    ((good_of dec_pp wk35 (by decide)).trans
    ((good_of dec_pp wk36 (by decide)).trans
    ((good_of dec_pp wk37 (by decide)).trans
    ((good_of dec_pp wk38 (by decide)).trans
    ((good_of dec_pp wk39 (by decide)).trans
    (good_of dec_pp wk40 (by decide))))))))))))))))))))))))))))))))))))))))))
theorem gap (k : Nat) (h : k < 2147483647) : ∃ p, k < p ∧ p ≤ k + 1000 ∧ IsPr p := by
  rcases Nat.lt_or_ge k 1 with h1 | h1
  · exact ⟨2, by omega, by omega, ⟨by omega, by omega, fun d h1 h2 => by have := Nat.mul_le_mul h1 h1; omega⟩⟩
  rcases Nat.lt_or_ge k 65393 with h2 | h2
  · exact low.2 (by decide) k h1 h2
  rcases Nat.lt_or_ge k 2147483353 with h3 | h3
  · exact big.2 (by decide) k h2 h3
  · exact ⟨2147483647, h, by omega, isPr_last⟩
end Go.Proofs.Ytfigimfdojbkeaa.Gp
