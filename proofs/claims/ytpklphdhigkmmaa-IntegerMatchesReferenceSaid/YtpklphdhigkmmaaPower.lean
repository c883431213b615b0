/-
  Contract of power.
-/
import Derived.Test.YtpklphdhigkmmaaDivide
namespace Go.Proofs.Ytpklphdhigkmmaa
open Go.RowKit

theorem pow_len {x m : Nat} (h : (mag x).length = m) (n : Nat) : (mag (x ^ n)).length ≤ m * n + 1 := by
  refine mag_length_le ?_
  have h1 : x ≤ pw m := by have := lt_pw_mag x; rw [h] at this; omega
  have h2 : x ^ n ≤ pw m ^ n := Nat.pow_le_pow_left h1 n
  have h3 : pw m ^ n = pw (m * n) := by unfold pw; rw [← Nat.pow_mul]
  have h4 := pw_lt (show m * n < m * n + 1 by omega)
  omega

theorem pow_half (x n : Nat) (h : n % 2 = 0) : x ^ (n / 2) * x ^ (n / 2) = x ^ n := by
  rw [← Nat.pow_add]; congr 1; omega
theorem pow_half1 (x n : Nat) (h : n % 2 = 1) : x ^ (n / 2) * x ^ (n / 2) * x = x ^ n := by
  rw [← Nat.pow_add, ← Nat.pow_succ]; congr 1; omega
theorem mag_one1 : mag 1 = [1] := mag_one (by omega) (by omega)

set_option maxHeartbeats 1000000 in
theorem power_at (A : Option Addr) (m c x : Nat) (hm : m ≤ 1000000) (_ : m ≤ c) (_ : c ≤ 9223372036854775807) : ∀ (N n : Nat) (z : Int) (w : World), n ≤ N → z = (n : Int) → m * n ≤ 10000000 → n ≤ 10000000 → Wd w A m (mag x) →
    Calls Try.prog 95 #[.slice A m c, .int .i64 z] w (RetMg (x ^ n) w) := by
  intro N
  induction N with
  | zero =>
    intro n z w hn hz _ _ _
    obtain rfl : n = 0 := by omega
    subst hz
    go_enter Try.func95, Try.ntmps95
    go_wp2_with fail
    go_ret
    exact ⟨_, rfl, Mg.blk (n := 1) (Blk.one (a := 1) (by omega) (by omega)) rfl (by omega) (by rw [Nat.pow_zero]; exact mag_one1.symm), (Below.refl _ _).alloc (Nat.le_refl _) _⟩
  | succ N ih =>
    intro n z w hn hz hmn hnb ha
    have HA := Lib.hid ha
    clear ha
    by_cases h0 : n = 0
    · have := ih 0 0 w (by omega) rfl (by omega) (by omega) HA.out
      subst h0
      subst hz
      exact this
    · have hb1 : (z == 0) = false := by simp; omega
      have hz1 : 0 ≤ z := by omega
      have hz4 : z ≤ 10000000 := by omega
      have hz3 : z / 2 = ((n / 2 : Nat) : Int) := by omega
      have hmn2 : m * (n / 2) ≤ 10000000 := Nat.le_trans (Nat.mul_le_mul_left m (Nat.div_le_self n 2)) hmn
      have IH := fun W => ih (n / 2) ((n / 2 : Nat) : Int) W (by omega) rfl hmn2 (by omega)
      have IHH := Lib.hid IH
      have hl2 := pow_len HA.out.len (n / 2)
      have hl1 := pow_len HA.out.len n
      have HZ := Lib.hid hz
      clear ih IH hz
      rcases (show n % 2 = 0 ∨ n % 2 = 1 by omega) with hpar | hpar
      · have hz2 : (z % 2 == 0) = true := by rw [beq_iff_eq, HZ.out]; omega
        have hfin := Lib.hid (pow_half x n hpar)
        generalize hhn : n / 2 = hf at *
        clear hhn
        go_enter Try.func95, Try.ntmps95
        go_wp2_with fail
        refine (IHH.out _ HA.out).mono ?_
        rintro e w1 ⟨v1, rfl, ⟨A1, n1, c1, rfl, h1, h2, h3⟩, hbl1⟩
        have H3 := Lib.hid h3
        have h4 := h3.len
        have H4 := Lib.hid h4
        have hn1 : n1 ≤ 10000001 := by omega
        clear h3 h4
        go_wp2_with fail
        refine (times_any A1 A1 n1 n1 c1 c1 _ _ _ H3.out H3.out (by omega) (by omega)).mono ?_
        rintro e w2 ⟨v2, rfl, hm2, hbl2⟩
        rw [hfin.out] at hm2
        have HM2 := Lib.hid hm2
        clear hm2
        go_wp2
        go_ret
        exact ⟨_, rfl, HM2.out, hbl1.trans (hbl2.mono hbl1.size)⟩
      · have hz2 : (z % 2 == 0) = false := by rw [beq_eq_false_iff_ne, HZ.out]; omega
        have hfin := Lib.hid (pow_half1 x n hpar)
        have hl3 : (mag (x ^ (n / 2) * x ^ (n / 2))).length ≤ 20000010 := by
          rw [← Nat.pow_add]
          have := pow_len HA.out.len (n / 2 + n / 2)
          rw [Nat.mul_add] at this
          omega
        generalize hhn : n / 2 = hf at *
        clear hhn
        go_enter Try.func95, Try.ntmps95
        go_wp2_with fail
        refine (IHH.out _ HA.out).mono ?_
        rintro e w1 ⟨v1, rfl, ⟨A1, n1, c1, rfl, h1, h2, h3⟩, hbl1⟩
        have H3 := Lib.hid h3
        have h4 := h3.len
        have H4 := Lib.hid h4
        have hn1 : n1 ≤ 10000001 := by omega
        clear h3 h4
        go_wp2_with fail
        refine (times_any A1 A1 n1 n1 c1 c1 _ _ _ H3.out H3.out (by omega) (by omega)).mono ?_
        rintro e w2 ⟨v2, rfl, ⟨A2, n2, c2, rfl, k1, k2, k3⟩, hbl2⟩
        have K3 := Lib.hid k3
        have hn2 : n2 ≤ 20000010 := by have := k3.len; omega
        clear k3
        go_wp2_with fail
        refine (times_any A2 A n2 m c2 c _ x _ K3.out ((HA.out.below hbl1).below hbl2) (by omega) (by omega)).mono ?_
        rintro e w3 ⟨v3, rfl, hm3, hbl3⟩
        rw [hfin.out] at hm3
        have HM3 := Lib.hid hm3
        clear hm3
        go_wp2
        go_ret
        have h12 := hbl1.trans (hbl2.mono hbl1.size)
        exact ⟨_, rfl, HM3.out, h12.trans (hbl3.mono h12.size)⟩

theorem power_any (A : Option Addr) (m c x n : Nat) (z : Int) (w : World) (ha : Wd w A m (mag x)) (hm : m ≤ 1000000) (hc : m ≤ c) (hcb : c ≤ 9223372036854775807) (hz : z = (n : Int)) (hmn : m * n ≤ 10000000) (hn : n ≤ 10000000) :
    Calls Try.prog 95 #[.slice A m c, .int .i64 z] w (RetMg (x ^ n) w) :=
  power_at A m c x hm hc hcb n n z w (Nat.le_refl _) hz hmn hn ha
end Go.Proofs.Ytpklphdhigkmmaa
