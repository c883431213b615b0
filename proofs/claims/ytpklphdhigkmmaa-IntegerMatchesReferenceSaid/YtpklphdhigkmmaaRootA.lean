/-
  Contract of shortRoot.
-/
import Derived.Test.YtpklphdhigkmmaaPower
namespace Go.Proofs.Ytpklphdhigkmmaa
open Go.RowKit

theorem pow_mono {a b k : Nat} (h : a ≤ b) : a ^ k ≤ b ^ k := Nat.pow_le_pow_left h k
theorem root_le {a k r t : Nat} (h1 : r ^ k ≤ a) (h2 : a < (r + 1) ^ k) : t ^ k ≤ a ↔ t ≤ r := by
  constructor
  · intro h
    rcases Nat.lt_or_ge r t with h3 | h3
    · have := pow_mono (k := k) (show r + 1 ≤ t from h3); omega
    · exact h3
  · intro h; exact Nat.le_trans (pow_mono h) h1

/-- What is found after some bits: s bits are still to come. -/
structure BitRel (r s f : Nat) : Prop where
  dvd : f % 2 ^ s = 0
  le : f ≤ r
  lt : r < f + 2 ^ s

theorem BitRel.yes {r s f : Nat} (h : BitRel r (s + 1) f) (hle : f + 2 ^ s ≤ r) : BitRel r s (f + 2 ^ s) := by
  have h1 := h.lt
  have h2 := h.dvd
  rw [Nat.pow_succ] at h1 h2
  refine ⟨?_, hle, by omega⟩
  rw [Nat.add_mod_right]
  have := Nat.mod_mul_right_mod f (2 ^ s) 2
  rw [h2] at this
  rw [← this, Nat.zero_mod]
theorem BitRel.no {r s f : Nat} (h : BitRel r (s + 1) f) (hgt : r < f + 2 ^ s) : BitRel r s f := by
  have h2 := h.dvd
  rw [Nat.pow_succ] at h2
  refine ⟨?_, h.le, hgt⟩
  have := Nat.mod_mul_right_mod f (2 ^ s) 2
  rw [h2] at this
  rw [← this, Nat.zero_mod]
theorem BitRel.or {r s f : Nat} (h : BitRel r (s + 1) f) (hs : s < 60) (hf : f < 2 ^ 60) : bits .or .u64 (f : Int) ((2 ^ s : Nat) : Int) = ((f + 2 ^ s : Nat) : Int) := by
  have h2 : 2 ^ s < 2 ^ 60 := Nat.pow_lt_pow_right (by omega) hs
  rw [u64_or_nat _ _ (by omega) (by omega)]
  have h3 := h.dvd
  have e : f = 2 ^ (s + 1) * (f / 2 ^ (s + 1)) := by
    have := Nat.div_add_mod f (2 ^ (s + 1))
    omega
  have h4 : 2 ^ s < 2 ^ (s + 1) := Nat.pow_lt_pow_right (by omega) (by omega)
  have h5 := Nat.two_pow_add_eq_or_of_lt h4 (f / 2 ^ (s + 1))
  rw [← e] at h5
  rw [← h5]

set_option maxHeartbeats 1000000 in
theorem shortRoot_any (A : Option Addr) (n c x k size r : Nat) (zk zs : Int) (w : World) (ha : Wd w A n (mag x)) (hn : n ≤ 1000000) (hzk : zk = (k : Int)) (hzs : zs = (size : Int)) (hk1 : 1 ≤ k) (hk : k ≤ 4000000) (hsz : size ≤ 59)
    (h1 : r ^ k ≤ x) (h2 : x < (r + 1) ^ k) (hr : r < 2 ^ size) :
    Calls Try.prog 125 #[.slice A n c, .int .i64 zk, .int .i64 zs] w (RetMg r w) := by
  have HA := Lib.hid ha
  have hz0 : 0 ≤ zs := by omega
  have hz1 : zs ≤ 59 := by omega
  have HZK := Lib.hid hzk
  have HZS := Lib.hid hzs
  have H1 := Lib.hid h1
  have H2 := Lib.hid h2
  have HR0 := Lib.hid hr
  clear ha hzk hzs h1 h2 hr
  go_enter Try.func125, Try.ntmps125
  go_wp2
  go_loopw [7, 11] (fun fv t wr => ∃ i f : Nat, i ≤ size ∧ f < 1152921504606846976 ∧ fv = .int .u64 f ∧ t = .int .i64 i ∧ BitRel r (size - i) f ∧ Below w.heap.size w wr)
      (fun _ t _ => size - (intOf t).toNat)
  case atStart => exact ⟨0, 0, Nat.zero_le _, by omega, rfl, rfl, ⟨by simp, Nat.zero_le _, by simpa using HR0.out⟩, Below.refl _ _⟩
  case round =>
    obtain ⟨i, f, hi, hf, rfl, rfl, hrel, hbl⟩ := hrel
    by_cases hlt : i < size
    · obtain ⟨s, hs⟩ : ∃ s, size - i = s + 1 := ⟨size - i - 1, by omega⟩
      rw [hs] at hrel
      have hsi : zs - 1 - (i : Int) = (s : Int) := by have := HZS.out; omega
      have hsb : s < 59 := by omega
      have hmn : min s 64 = s := by omega
      have hor := hrel.or (by omega) (by omega)
      have hp0 : 2 ^ s < 576460752303423488 := by
        have : 2 ^ s < 2 ^ 59 := Nat.pow_lt_pow_right (by omega) hsb
        omega
      have hpi : (2 : Int) ^ s = ((2 ^ s : Nat) : Int) := by simp
      have HREL := Lib.hid hrel
      have hlt2 : (i : Int) < zs := by have := HZS.out; omega
      generalize hb : 2 ^ s = b at *
      have HBB := Lib.hid hb
      have HS := Lib.hid hs
      generalize hft : f + b = nx at *
      have HFT := Lib.hid hft
      have hnx : nx < 1729382256910270464 := by omega
      have hnl : (mag nx).length ≤ 2 := mag_length_le (show nx < pw 2 by rw [show pw 2 = 18446744073709551616 from rfl]; omega)
      clear hrel hb hs hft
      go_wp2_with fail
      refine (wordsOf_any nx _ (by omega)).mono ?_
      rintro e w1 ⟨v1, rfl, ⟨A1, n1, c1, rfl, h1, h2, h3⟩, hbl1⟩
      have H3 := Lib.hid h3
      have hn1 : n1 ≤ 2 := by have := h3.len; omega
      have hnk : n1 * k ≤ 10000000 := Nat.le_trans (Nat.mul_le_mul_right k hn1) (by omega)
      clear h3
      go_wp2_with fail
      refine (power_any A1 n1 c1 nx k zk _ H3.out (by omega) h1 h2 HZK.out hnk (by omega)).mono ?_
      rintro e w2 ⟨v2, rfl, ⟨A2, n2, c2, rfl, k1, k2, k3⟩, hbl2⟩
      have K3 := Lib.hid k3
      have hn2 : n2 ≤ 10000001 := by
        have h5 := pow_len H3.out.len k
        rw [k3.len] at h5
        omega
      clear k3
      have hbl3 : Below w.heap.size w w2 := (hbl.trans (hbl1.mono hbl.size)).trans (hbl2.mono (Nat.le_trans hbl.size hbl1.size))
      go_wp2_with fail
      refine (compare_any A2 A n2 n c2 c (nx ^ k) x _ K3.out (HA.out.below hbl3) (by omega) (by omega)).mono ?_
      rintro e w3 ⟨rfl, q, rfl⟩
      by_cases hle : nx ^ k ≤ x
      · have hc : cmpN (nx ^ k) x ≤ 0 := by unfold cmpN; split <;> (try split) <;> omega
        have hle2 := (root_le H1.out H2.out).1 hle
        have hrel2 : Hid (BitRel r s nx) := by
          have := HREL.out.yes (by rw [HBB.out, HFT.out]; exact hle2)
          rwa [HBB.out, HFT.out] at this
        have hnx2 : nx < 1152921504606846976 := by
          have h5 := HR0.out
          have h6 : 2 ^ size ≤ 2 ^ 59 := Nat.pow_le_pow_right (by omega) hsz
          omega
        generalize cmpN (nx ^ k) x = cc at *
        clear hle hle2
        go_wp2
        go_roundw
        case rel =>
          refine ⟨i + 1, nx, by omega, hnx2, rfl, by go_num, ?_, below_drewN hbl3 _⟩
          rw [show size - (i + 1) = s by have := HS.out; omega]
          exact hrel2.out
        case measure => simp [intOf]; omega
      · have hc : ¬ cmpN (nx ^ k) x ≤ 0 := by rw [cmpN_gt (by omega)]; omega
        have hgt : r < nx := by
          rcases Nat.lt_or_ge r nx with h | h
          · exact h
          · exact absurd ((root_le H1.out H2.out).2 h) hle
        have hrel2 : Hid (BitRel r s f) := HREL.out.no (by rw [HBB.out, HFT.out]; exact hgt)
        generalize cmpN (nx ^ k) x = cc at *
        clear hle hgt
        go_wp2
        go_roundw
        case rel =>
          refine ⟨i + 1, f, by omega, hf, rfl, by go_num, ?_, below_drewN hbl3 _⟩
          rw [show size - (i + 1) = s by have := HS.out; omega]
          exact hrel2.out
        case measure => simp [intOf]; omega
    · obtain rfl : i = size := by omega
      have hfr : Hid (f = r) := by
        rw [Nat.sub_self] at hrel
        have h1 := hrel.le
        have h2 := hrel.lt
        simp at h2
        unfold Hid
        omega
      have hge : ¬ (i : Int) < zs := by have := HZS.out; omega
      clear hrel
      go_wp2_with fail
      refine (wordsOf_any f _ (by omega)).mono ?_
      rintro e w1 ⟨v1, rfl, hm1, hbl1⟩
      rw [hfr.out] at hm1
      have HM1 := Lib.hid hm1
      clear hm1
      go_wp2
      go_ret
      exact ⟨_, rfl, HM1.out, hbl.trans (hbl1.mono hbl.size)⟩
end Go.Proofs.Ytpklphdhigkmmaa
