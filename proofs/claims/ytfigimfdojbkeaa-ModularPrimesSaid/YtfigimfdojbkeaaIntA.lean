/-
  Contract of power.
  Contract of shortRoot.
  Contract of newtonRoot.
  Contract of root.
  Contracts of words, signed, Sign, Bits and sum.
-/
import Derived.Test.YtfigimfdojbkeaaDivide
import Derived.Deep.LoopGhost
set_option linter.unusedSimpArgs false
set_option linter.unusedVariables false
namespace Go.Proofs.Ytfigimfdojbkeaa
open Go.RowKit

theorem pow_len {x m : Nat} (h : (mag x).length = m) (n : Nat) : (mag (x ^ n)).length ≤ m * n + 1 := by
  refine mag_length_le ?_
  have h1 : x ≤ pw m := by have := lt_pw_mag x; rw [h] at this; omega
  have h2 : x ^ n ≤ pw m ^ n := Nat.pow_le_pow_left h1 n
  have h3 : pw m ^ n = pw (m * n) := by unfold pw; rw [← Nat.pow_mul]
  have h4 := pw_lt (show m * n < m * n + 1 by omega)
  omega

theorem pow_half (x n : Nat) (h : n % 2 = 0) : x ^ (n / 2) * x ^ (n / 2) = x ^ n := by
  rw [← Nat.pow_add]; congr 1; omega
theorem pow_half1 (x n : Nat) (h : n % 2 = 1) : x ^ (n / 2) * x ^ (n / 2) * x = x ^ n := by
  rw [← Nat.pow_add, ← Nat.pow_succ]; congr 1; omega
theorem mag_one1 : mag 1 = [1] := mag_one (by omega) (by omega)

set_option maxHeartbeats 1000000 in
theorem power_at (A : Option Addr) (m c x : Nat) (hm : m ≤ 1000000) (_ : m ≤ c) (_ : c ≤ 9223372036854775807) : ∀ (N n : Nat) (z : Int) (w : World), n ≤ N → z = (n : Int) → m * n ≤ 10000000 → n ≤ 10000000 → Wd w A m (mag x) →
    Calls Try.prog 114 #[.slice A m c, .int .i64 z] w (RetMg (x ^ n) w) := by
  intro N
  induction N with
  | zero =>
    intro n z w hn hz _ _ _
    obtain rfl : n = 0 := by omega
    subst hz
    go_enter Try.func114, Try.ntmps114
    go_wp2_with fail
    go_ret
    exact ⟨_, rfl, Mg.blk (n := 1) (Blk.one (a := 1) (by omega) (by omega)) rfl (by omega) (by rw [Nat.pow_zero]; exact mag_one1.symm), (Below.refl _ _).alloc (Nat.le_refl _) _⟩
  | succ N ih =>
    intro n z w hn hz hmn hnb ha
    have HA := Lib.hid ha
    clear ha
    by_cases h0 : n = 0
    · have := ih 0 0 w (by omega) rfl (by omega) (by omega) HA.out
      subst h0
      subst hz
      exact this
    · have hb1 : (z == 0) = false := by simp; omega
      have hz1 : 0 ≤ z := by omega
      have hz4 : z ≤ 10000000 := by omega
      have hz3 : z / 2 = ((n / 2 : Nat) : Int) := by omega
      have hmn2 : m * (n / 2) ≤ 10000000 := Nat.le_trans (Nat.mul_le_mul_left m (Nat.div_le_self n 2)) hmn
      have IH := fun W => ih (n / 2) ((n / 2 : Nat) : Int) W (by omega) rfl hmn2 (by omega)
      have IHH := Lib.hid IH
      have hl2 := pow_len HA.out.len (n / 2)
      have hl1 := pow_len HA.out.len n
      have HZ := Lib.hid hz
      clear ih IH hz
      rcases (show n % 2 = 0 ∨ n % 2 = 1 by omega) with hpar | hpar
      · have hz2 : (z % 2 == 0) = true := by rw [beq_iff_eq, HZ.out]; omega
        have hfin := Lib.hid (pow_half x n hpar)
        generalize hhn : n / 2 = hf at *
        clear hhn
        go_enter Try.func114, Try.ntmps114
        go_wp2_with fail
        refine (IHH.out _ HA.out).mono ?_
        rintro e w1 ⟨v1, rfl, ⟨A1, n1, c1, rfl, h1, h2, h3⟩, hbl1⟩
        have H3 := Lib.hid h3
        have h4 := h3.len
        have H4 := Lib.hid h4
        have hn1 : n1 ≤ 10000001 := by omega
        clear h3 h4
        go_wp2_with fail
        refine (times_any A1 A1 n1 n1 c1 c1 _ _ _ H3.out H3.out (by omega) (by omega)).mono ?_
        rintro e w2 ⟨v2, rfl, hm2, hbl2⟩
        rw [hfin.out] at hm2
        have HM2 := Lib.hid hm2
        clear hm2
        go_wp2
        go_ret
        exact ⟨_, rfl, HM2.out, hbl1.trans (hbl2.mono hbl1.size)⟩
      · have hz2 : (z % 2 == 0) = false := by rw [beq_eq_false_iff_ne, HZ.out]; omega
        have hfin := Lib.hid (pow_half1 x n hpar)
        have hl3 : (mag (x ^ (n / 2) * x ^ (n / 2))).length ≤ 20000010 := by
          rw [← Nat.pow_add]
          have := pow_len HA.out.len (n / 2 + n / 2)
          rw [Nat.mul_add] at this
          omega
        generalize hhn : n / 2 = hf at *
        clear hhn
        go_enter Try.func114, Try.ntmps114
        go_wp2_with fail
        refine (IHH.out _ HA.out).mono ?_
        rintro e w1 ⟨v1, rfl, ⟨A1, n1, c1, rfl, h1, h2, h3⟩, hbl1⟩
        have H3 := Lib.hid h3
        have h4 := h3.len
        have H4 := Lib.hid h4
        have hn1 : n1 ≤ 10000001 := by omega
        clear h3 h4
        go_wp2_with fail
        refine (times_any A1 A1 n1 n1 c1 c1 _ _ _ H3.out H3.out (by omega) (by omega)).mono ?_
        rintro e w2 ⟨v2, rfl, ⟨A2, n2, c2, rfl, k1, k2, k3⟩, hbl2⟩
        have K3 := Lib.hid k3
        have hn2 : n2 ≤ 20000010 := by have := k3.len; omega
        clear k3
        go_wp2_with fail
        refine (times_any A2 A n2 m c2 c _ x _ K3.out ((HA.out.below hbl1).below hbl2) (by omega) (by omega)).mono ?_
        rintro e w3 ⟨v3, rfl, hm3, hbl3⟩
        rw [hfin.out] at hm3
        have HM3 := Lib.hid hm3
        clear hm3
        go_wp2
        go_ret
        have h12 := hbl1.trans (hbl2.mono hbl1.size)
        exact ⟨_, rfl, HM3.out, h12.trans (hbl3.mono h12.size)⟩

theorem power_any (A : Option Addr) (m c x n : Nat) (z : Int) (w : World) (ha : Wd w A m (mag x)) (hm : m ≤ 1000000) (hc : m ≤ c) (hcb : c ≤ 9223372036854775807) (hz : z = (n : Int)) (hmn : m * n ≤ 10000000) (hn : n ≤ 10000000) :
    Calls Try.prog 114 #[.slice A m c, .int .i64 z] w (RetMg (x ^ n) w) :=
  power_at A m c x hm hc hcb n n z w (Nat.le_refl _) hz hmn hn ha
end Go.Proofs.Ytfigimfdojbkeaa

namespace Go.Proofs.Ytfigimfdojbkeaa
open Go.RowKit

theorem pow_mono {a b k : Nat} (h : a ≤ b) : a ^ k ≤ b ^ k := Nat.pow_le_pow_left h k
theorem root_le {a k r t : Nat} (h1 : r ^ k ≤ a) (h2 : a < (r + 1) ^ k) : t ^ k ≤ a ↔ t ≤ r := by
  constructor
  · intro h
    rcases Nat.lt_or_ge r t with h3 | h3
    · have := pow_mono (k := k) (show r + 1 ≤ t from h3); omega
    · exact h3
  · intro h; exact Nat.le_trans (pow_mono h) h1

/-- What is found after some bits: s bits are still to come. -/
structure BitRel (r s f : Nat) : Prop where
  dvd : f % 2 ^ s = 0
  le : f ≤ r
  lt : r < f + 2 ^ s

theorem BitRel.yes {r s f : Nat} (h : BitRel r (s + 1) f) (hle : f + 2 ^ s ≤ r) : BitRel r s (f + 2 ^ s) := by
  have h1 := h.lt
  have h2 := h.dvd
  rw [Nat.pow_succ] at h1 h2
  refine ⟨?_, hle, by omega⟩
  rw [Nat.add_mod_right]
  have := Nat.mod_mul_right_mod f (2 ^ s) 2
  rw [h2] at this
  rw [← this, Nat.zero_mod]
theorem BitRel.no {r s f : Nat} (h : BitRel r (s + 1) f) (hgt : r < f + 2 ^ s) : BitRel r s f := by
  have h2 := h.dvd
  rw [Nat.pow_succ] at h2
  refine ⟨?_, h.le, hgt⟩
  have := Nat.mod_mul_right_mod f (2 ^ s) 2
  rw [h2] at this
  rw [← this, Nat.zero_mod]
theorem BitRel.or {r s f : Nat} (h : BitRel r (s + 1) f) (hs : s < 60) (hf : f < 2 ^ 60) : bits .or .u64 (f : Int) ((2 ^ s : Nat) : Int) = ((f + 2 ^ s : Nat) : Int) := by
  have h2 : 2 ^ s < 2 ^ 60 := Nat.pow_lt_pow_right (by omega) hs
  rw [u64_or_nat _ _ (by omega) (by omega)]
  have h3 := h.dvd
  have e : f = 2 ^ (s + 1) * (f / 2 ^ (s + 1)) := by
    have := Nat.div_add_mod f (2 ^ (s + 1))
    omega
  have h4 : 2 ^ s < 2 ^ (s + 1) := Nat.pow_lt_pow_right (by omega) (by omega)
  have h5 := Nat.two_pow_add_eq_or_of_lt h4 (f / 2 ^ (s + 1))
  rw [← e] at h5
  rw [← h5]

set_option maxHeartbeats 1000000 in
theorem shortRoot_any (A : Option Addr) (n c x k size r : Nat) (zk zs : Int) (w : World) (ha : Wd w A n (mag x)) (hn : n ≤ 1000000) (hzk : zk = (k : Int)) (hzs : zs = (size : Int)) (hk1 : 1 ≤ k) (hk : k ≤ 4000000) (hsz : size ≤ 59)
    (h1 : r ^ k ≤ x) (h2 : x < (r + 1) ^ k) (hr : r < 2 ^ size) :
    Calls Try.prog 152 #[.slice A n c, .int .i64 zk, .int .i64 zs] w (RetMg r w) := by
  have HA := Lib.hid ha
  have hz0 : 0 ≤ zs := by omega
  have hz1 : zs ≤ 59 := by omega
  have HZK := Lib.hid hzk
  have HZS := Lib.hid hzs
  have H1 := Lib.hid h1
  have H2 := Lib.hid h2
  have HR0 := Lib.hid hr
  clear ha hzk hzs h1 h2 hr
  go_enter Try.func152, Try.ntmps152
  go_wp2
  go_loopw [7, 11] (fun fv t wr => ∃ i f : Nat, i ≤ size ∧ f < 1152921504606846976 ∧ fv = .int .u64 f ∧ t = .int .i64 i ∧ BitRel r (size - i) f ∧ Below w.heap.size w wr)
      (fun _ t _ => size - (intOf t).toNat)
  case atStart => exact ⟨0, 0, Nat.zero_le _, by omega, rfl, rfl, ⟨by simp, Nat.zero_le _, by simpa using HR0.out⟩, Below.refl _ _⟩
  case round =>
    obtain ⟨i, f, hi, hf, rfl, rfl, hrel, hbl⟩ := hrel
    by_cases hlt : i < size
    · obtain ⟨s, hs⟩ : ∃ s, size - i = s + 1 := ⟨size - i - 1, by omega⟩
      rw [hs] at hrel
      have hsi : zs - 1 - (i : Int) = (s : Int) := by have := HZS.out; omega
      have hsb : s < 59 := by omega
      have hmn : min s 64 = s := by omega
      have hor := hrel.or (by omega) (by omega)
      have hp0 : 2 ^ s < 576460752303423488 := by
        have : 2 ^ s < 2 ^ 59 := Nat.pow_lt_pow_right (by omega) hsb
        omega
      have hpi : (2 : Int) ^ s = ((2 ^ s : Nat) : Int) := by simp
      have HREL := Lib.hid hrel
      have hlt2 : (i : Int) < zs := by have := HZS.out; omega
      generalize hb : 2 ^ s = b at *
      have HBB := Lib.hid hb
      have HS := Lib.hid hs
      generalize hft : f + b = nx at *
      have HFT := Lib.hid hft
      have hnx : nx < 1729382256910270464 := by omega
      have hnl : (mag nx).length ≤ 2 := mag_length_le (show nx < pw 2 by rw [show pw 2 = 18446744073709551616 from rfl]; omega)
      clear hrel hb hs hft
      go_wp2_with fail
      refine (wordsOf_any nx _ (by omega)).mono ?_
      rintro e w1 ⟨v1, rfl, ⟨A1, n1, c1, rfl, h1, h2, h3⟩, hbl1⟩
      have H3 := Lib.hid h3
      have hn1 : n1 ≤ 2 := by have := h3.len; omega
      have hnk : n1 * k ≤ 10000000 := Nat.le_trans (Nat.mul_le_mul_right k hn1) (by omega)
      clear h3
      go_wp2_with fail
      refine (power_any A1 n1 c1 nx k zk _ H3.out (by omega) h1 h2 HZK.out hnk (by omega)).mono ?_
      rintro e w2 ⟨v2, rfl, ⟨A2, n2, c2, rfl, k1, k2, k3⟩, hbl2⟩
      have K3 := Lib.hid k3
      have hn2 : n2 ≤ 10000001 := by
        have h5 := pow_len H3.out.len k
        rw [k3.len] at h5
        omega
      clear k3
      have hbl3 : Below w.heap.size w w2 := (hbl.trans (hbl1.mono hbl.size)).trans (hbl2.mono (Nat.le_trans hbl.size hbl1.size))
      go_wp2_with fail
      refine (compare_any A2 A n2 n c2 c (nx ^ k) x _ K3.out (HA.out.below hbl3) (by omega) (by omega)).mono ?_
      rintro e w3 ⟨rfl, q, rfl⟩
      by_cases hle : nx ^ k ≤ x
      · have hc : cmpN (nx ^ k) x ≤ 0 := by unfold cmpN; split <;> (try split) <;> omega
        have hle2 := (root_le H1.out H2.out).1 hle
        have hrel2 : Hid (BitRel r s nx) := by
          have := HREL.out.yes (by rw [HBB.out, HFT.out]; exact hle2)
          rwa [HBB.out, HFT.out] at this
        have hnx2 : nx < 1152921504606846976 := by
          have h5 := HR0.out
          have h6 : 2 ^ size ≤ 2 ^ 59 := Nat.pow_le_pow_right (by omega) hsz
          omega
        generalize cmpN (nx ^ k) x = cc at *
        clear hle hle2
        go_wp2
        go_roundw
        case rel =>
          refine ⟨i + 1, nx, by omega, hnx2, rfl, by go_num, ?_, below_drewN hbl3 _⟩
          rw [show size - (i + 1) = s by have := HS.out; omega]
          exact hrel2.out
        case measure => simp [intOf]; omega
      · have hc : ¬ cmpN (nx ^ k) x ≤ 0 := by rw [cmpN_gt (by omega)]; omega
        have hgt : r < nx := by
          rcases Nat.lt_or_ge r nx with h | h
          · exact h
          · exact absurd ((root_le H1.out H2.out).2 h) hle
        have hrel2 : Hid (BitRel r s f) := HREL.out.no (by rw [HBB.out, HFT.out]; exact hgt)
        generalize cmpN (nx ^ k) x = cc at *
        clear hle hgt
        go_wp2
        go_roundw
        case rel =>
          refine ⟨i + 1, f, by omega, hf, rfl, by go_num, ?_, below_drewN hbl3 _⟩
          rw [show size - (i + 1) = s by have := HS.out; omega]
          exact hrel2.out
        case measure => simp [intOf]; omega
    · obtain rfl : i = size := by omega
      have hfr : Hid (f = r) := by
        rw [Nat.sub_self] at hrel
        have h1 := hrel.le
        have h2 := hrel.lt
        simp at h2
        unfold Hid
        omega
      have hge : ¬ (i : Int) < zs := by have := HZS.out; omega
      clear hrel
      go_wp2_with fail
      refine (wordsOf_any f _ (by omega)).mono ?_
      rintro e w1 ⟨v1, rfl, hm1, hbl1⟩
      rw [hfr.out] at hm1
      have HM1 := Lib.hid hm1
      clear hm1
      go_wp2
      go_ret
      exact ⟨_, rfl, HM1.out, hbl.trans (hbl1.mono hbl.size)⟩
end Go.Proofs.Ytfigimfdojbkeaa

namespace Go.Proofs.Ytfigimfdojbkeaa
open Go.RowKit

theorem pow_near (r d k : Nat) : (r + d) ^ (k + 1) ≤ r ^ (k + 1) + (k + 1) * d * (r + d) ^ k := by
  induction k with
  | zero => simp
  | succ k ih =>
    have h1 := Nat.mul_le_mul_right (r + d) ih
    have h2 : r ^ (k + 1) ≤ (r + d) ^ (k + 1) := Nat.pow_le_pow_left (by omega) _
    have e1 : (r + d) ^ (k + 1 + 1) = (r + d) ^ (k + 1) * (r + d) := Nat.pow_succ ..
    have e2 : (r ^ (k + 1) + (k + 1) * d * (r + d) ^ k) * (r + d) = r ^ (k + 1) * r + r ^ (k + 1) * d + (k + 1) * d * (r + d) ^ (k + 1) := by
      rw [Nat.add_mul, Nat.mul_add, Nat.mul_assoc ((k + 1) * d), show (r + d) ^ k * (r + d) = (r + d) ^ (k + 1) from (Nat.pow_succ ..).symm]
    have e3 : r ^ (k + 1 + 1) = r ^ (k + 1) * r := Nat.pow_succ ..
    have e4 : (k + 1 + 1) * d * (r + d) ^ (k + 1) = (k + 1) * d * (r + d) ^ (k + 1) + d * (r + d) ^ (k + 1) := by
      rw [Nat.add_mul (k + 1) 1 d, Nat.add_mul, Nat.one_mul]
    have h3 : r ^ (k + 1) * d ≤ d * (r + d) ^ (k + 1) := by rw [Nat.mul_comm]; exact Nat.mul_le_mul_left _ h2
    rw [e1, e3, e4]
    omega

/-- A step of Newton's method does not fall below the root. -/
theorem newton_ge {a k r s : Nat} (hk : 1 ≤ k) (h1 : r ^ k ≤ a) (hs : r ≤ s) (hr : 1 ≤ r) : r ≤ (s * (k - 1) + a / s ^ (k - 1)) / k := by
  obtain ⟨j, rfl⟩ : ∃ j, k = j + 1 := ⟨k - 1, by omega⟩
  obtain ⟨d, rfl⟩ : ∃ d, s = r + d := ⟨s - r, by omega⟩
  rw [Nat.add_sub_cancel, Nat.le_div_iff_mul_le (by omega)]
  have hp : 0 < (r + d) ^ j := Nat.pow_pos (by omega)
  rcases Nat.lt_or_ge ((r + d) * j) (r * (j + 1)) with hl | hl
  · have h2 : r * (j + 1) - (r + d) * j ≤ a / (r + d) ^ j := by
      rw [Nat.le_div_iff_mul_le hp]
      have h3 := pow_near r d j
      have e1 : (r + d) ^ (j + 1) = (r + d) ^ j * (r + d) := Nat.pow_succ ..
      have e2 : (r * (j + 1) - (r + d) * j) * (r + d) ^ j + ((r + d) * j) * (r + d) ^ j = r * (j + 1) * (r + d) ^ j := by
        rw [← Nat.add_mul]; congr 1; omega
      have e3 : r * (j + 1) * (r + d) ^ j + (j + 1) * d * (r + d) ^ j = (r + d) * j * (r + d) ^ j + (r + d) ^ j * (r + d) := by grind
      omega
    omega
  · exact Nat.le_trans hl (Nat.le_add_right _ _)
/-- Above the root it gets less. -/
theorem newton_lt {a k r s : Nat} (hk : 1 ≤ k) (h2 : a < (r + 1) ^ k) (hs : r < s) : (s * (k - 1) + a / s ^ (k - 1)) / k < s := by
  obtain ⟨j, rfl⟩ : ∃ j, k = j + 1 := ⟨k - 1, by omega⟩
  rw [Nat.add_sub_cancel, Nat.div_lt_iff_lt_mul (by omega)]
  have hp : 0 < s ^ j := Nat.pow_pos (by omega)
  have h3 : a / s ^ j < s := by
    rw [Nat.div_lt_iff_lt_mul hp, Nat.mul_comm, ← Nat.pow_succ]
    exact Nat.lt_of_lt_of_le h2 (Nat.pow_le_pow_left hs _)
  rw [Nat.mul_add, Nat.mul_one]
  omega
theorem mag_len_mono {x y : Nat} (h : x ≤ y) : (mag x).length ≤ (mag y).length := mag_length_le (Nat.lt_of_le_of_lt h (lt_pw_mag y))

set_option maxHeartbeats 1000000 in
theorem newtonRoot_any (A S : Option Addr) (n c x k ns cs s0 r : Nat) (zk : Int) (w : World) (ha : Wd w A n (mag x)) (hsr : Wd w S ns (mag s0)) (hn : n ≤ 1000000) (hzk : zk = (k : Int)) (hk1 : 1 ≤ k) (hk : k ≤ 4000000)
    (hns : ns * k ≤ 9000000) (hns1 : ns ≤ 1000000) (hcs : ns ≤ cs) (hcs2 : cs ≤ 9223372036854775807) (h1 : r ^ k ≤ x) (h2 : x < (r + 1) ^ k) (hr1 : 1 ≤ r) (hr : r ≤ s0) :
    Calls Try.prog 154 #[.slice A n c, .int .i64 zk, .slice S ns cs] w (RetMg r w) := by
  have HA := Lib.hid ha
  have HSR := Lib.hid hsr
  have hz0 : 1 ≤ zk := by omega
  have hz1 : zk ≤ 4000000 := by omega
  have H1 := Lib.hid h1
  have H2 := Lib.hid h2
  have hk64 : IntKind.u64.wrap zk = zk := IntWalk.u64_in _ (by omega)
  have hk65 : IntKind.u64.wrap (zk - 1) = zk - 1 := IntWalk.u64_in _ (by omega)
  have HZK := Lib.hid hzk
  clear ha hsr hzk h1 h2
  go_enter Try.func154, Try.ntmps154
  go_wp2_with fail
  refine ((show zk - 1 = ((k - 1 : Nat) : Int) by have := HZK.out; omega) ▸ (wordsOf_any (k - 1) w (by omega)) : Calls Try.prog 139 #[.int .u64 (zk - 1)] w (RetMg (k - 1) w)).mono ?_
  rintro e w1 ⟨v1, rfl, ⟨A1, n1, c1, rfl, a1, a2, a3⟩, hbl1⟩
  have hn1 : n1 ≤ 1 := by rw [← a3.len]; exact mag_length_le (by rw [pw_one]; omega)
  have A3 := Lib.hid a3
  clear a3
  go_wp2_with fail
  refine (HZK.out ▸ (wordsOf_any k _ (by omega)) : Calls Try.prog 139 #[.int .u64 zk] w1 (RetMg k w1)).mono ?_
  rintro e w2 ⟨v2, rfl, ⟨A2, n2, c2, rfl, b1, b2, b3⟩, hbl2⟩
  have hn2 : n2 ≤ 1 := by rw [← b3.len]; exact mag_length_le (by rw [pw_one]; omega)
  have B3 := Lib.hid b3
  have hbl02 := hbl1.trans (hbl2.mono hbl1.size)
  clear b3
  go_wp2
  go_loopg [2] s0 (fun g sv wr => ∃ S1 m1 d1, sv = .slice S1 m1 d1 ∧ Wd wr S1 m1 (mag g) ∧ m1 ≤ ns ∧ m1 ≤ d1 ∧ d1 ≤ 9223372036854775807 ∧ r ≤ g ∧ Below w.heap.size w wr ∧ Below w2.heap.size w2 wr)
  case atStart => exact ⟨S, ns, cs, rfl, HSR.out.below hbl02, Nat.le_refl _, hcs, hcs2, hr, hbl02, Below.refl _ _⟩
  case round =>
    obtain ⟨S1, m1, d1, rfl, hs1, hm1, hd1, hd2, hrg, hbl, hbl2r⟩ := hrel
    have HS1 := Lib.hid hs1
    have HA2 := Lib.hid (HA.out.below hbl)
    have hmk : m1 * (k - 1) ≤ 9000000 := Nat.le_trans (Nat.mul_le_mul hm1 (Nat.sub_le k 1)) hns
    have hm1b : m1 ≤ 1000000 := by omega
    have hpl := pow_len hs1.len (k - 1)
    have hne : gk ^ (k - 1) ≠ 0 := Nat.pos_iff_ne_zero.1 (Nat.pow_pos (by omega))
    have HA3 := Lib.hid (A3.out.below (hbl2.trans (hbl2r.mono hbl2.size)))
    have HB3 := Lib.hid (B3.out.below hbl2r)
    clear hs1
    go_wp2_with fail
    refine (power_any S1 m1 d1 gk (k - 1) (zk - 1) _ HS1.out hm1b hd1 hd2 (by have := HZK.out; omega) (by omega) (by omega)).mono ?_
    rintro e w3 ⟨v3, rfl, ⟨P1, p1, q1, rfl, p2, p3, p4⟩, hbl3⟩
    have P4 := Lib.hid p4
    have hp1 : p1 ≤ 9000001 := by rw [p4.len] at hpl; omega
    clear p4 hpl
    go_wp2_with fail
    refine (divide_any A P1 n c p1 q1 x _ _ (HA2.out.below hbl3) P4.out (by omega) (by omega) hne).mono ?_
    rintro e w4 ⟨v4, u4, rfl, hq4, hr4, hbl4⟩
    obtain ⟨Q1, qn, qc, rfl, q2, q3, q4⟩ := hq4
    have hqn : qn ≤ n := by rw [← q4.len, ← HA2.out.len]; exact mag_len_mono (Nat.div_le_self _ _)
    have Q4 := Lib.hid q4
    clear q4 hr4
    go_wp2_with fail
    refine (times_any S1 A1 m1 n1 d1 c1 gk (k - 1) _ ((HS1.out.below hbl3).below hbl4) ((HA3.out.below hbl3).below hbl4) (by omega) (by omega)).mono ?_
    rintro e w5 ⟨v5, rfl, ⟨T1, t1, tc, rfl, t2, t3, t4⟩, hbl5⟩
    have ht1 : t1 ≤ m1 + 1 := by
      rw [← t4.len]
      refine mag_length_le ?_
      have e1 := lt_pw_mag gk
      rw [HS1.out.len] at e1
      have e2 : k - 1 < 4294967296 := by omega
      rw [pw_succ, Nat.mul_comm 4294967296]
      exact Nat.mul_lt_mul'' e1 e2
    have T4 := Lib.hid t4
    clear t4
    go_wp2_with fail
    refine (plus_any T1 Q1 t1 qn tc qc _ _ _ T4.out (Q4.out.below hbl5) (by omega) (by omega)).mono ?_
    rintro e w6 ⟨v6, rfl, ⟨U1, u1, uc, rfl, u2, u3, u4⟩, hbl6⟩
    have hu1 : u1 ≤ 2000010 := by
      rw [← u4.len]
      refine mag_length_le ?_
      have e1 := lt_pw_mag (gk * (k - 1))
      rw [T4.out.len] at e1
      have e2 := lt_pw_mag (x / gk ^ (k - 1))
      rw [Q4.out.len] at e2
      have e3 := pw_le (show t1 ≤ 2000009 by omega)
      have e4 := pw_le (show qn ≤ 2000009 by omega)
      rw [show pw 2000010 = pw (2000009 + 1) from rfl, pw_succ]
      omega
    have U4 := Lib.hid u4
    clear u4
    have hbl36 : Below wr.heap.size wr w6 := by
      have h34 := hbl3.trans (hbl4.mono hbl3.size)
      have h35 := h34.trans (hbl5.mono h34.size)
      exact h35.trans (hbl6.mono h35.size)
    go_wp2_with fail
    refine (divide_any U1 A2 u1 uc n2 c2 _ k _ U4.out (HB3.out.below hbl36) (by omega) (by omega) (by omega)).mono ?_
    rintro e w7 ⟨v7, u7, rfl, hq7, hr7, hbl7⟩
    obtain ⟨N1, nn, nc, rfl, k2, k3, k4⟩ := hq7
    have hnn : nn ≤ 2000010 := by rw [← U4.out.len] at hu1; rw [← k4.len]; exact Nat.le_trans (mag_len_mono (Nat.div_le_self _ _)) hu1
    have K4 := Lib.hid k4
    clear k4 hr7
    have hbl37 := hbl36.trans (hbl7.mono hbl36.size)
    go_wp2_with fail
    refine (compare_any N1 S1 nn m1 nc d1 _ gk _ K4.out (HS1.out.below hbl37) (by omega) (by omega)).mono ?_
    rintro e w8 ⟨rfl, q8, rfl⟩
    have hge := newton_ge hk1 H1.out hrg hr1
    by_cases hend : gk ≤ (gk * (k - 1) + x / gk ^ (k - 1)) / k
    · have hc : (0 : Int) ≤ cmpN ((gk * (k - 1) + x / gk ^ (k - 1)) / k) gk := by unfold cmpN; rw [if_neg (by omega)]; split <;> omega
      have hgr : Hid (gk = r) := by
        unfold Hid
        rcases Nat.lt_or_ge r gk with h | h
        · have := newton_lt hk1 H2.out h
          omega
        · omega
      generalize cmpN ((gk * (k - 1) + x / gk ^ (k - 1)) / k) gk = cc at *
      clear hend hge
      go_wp2
      go_ret
      refine ⟨_, rfl, ⟨S1, m1, d1, rfl, hd1, hd2, ?_⟩, below_drewN (hbl.trans (hbl37.mono hbl.size)) _⟩
      rw [← hgr.out]
      exact (HS1.out.below hbl37).drewN _
    · have hc : ¬ (0 : Int) ≤ cmpN ((gk * (k - 1) + x / gk ^ (k - 1)) / k) gk := by rw [cmpN_lt (by omega)]; omega
      have hnm : nn ≤ ns := by
        have h5 : nn ≤ m1 := by rw [← K4.out.len, ← HS1.out.len]; exact mag_len_mono (by omega)
        omega
      have HEND := Lib.hid hend
      generalize cmpN ((gk * (k - 1) + x / gk ^ (k - 1)) / k) gk = cc at *
      generalize hnx : (gk * (k - 1) + x / gk ^ (k - 1)) / k = nx at *
      clear hend hnx
      go_wp2
      go_roundg nx
      case measure => have := HEND.out; omega
      case rel => exact ⟨N1, nn, nc, rfl, K4.out, hnm, k2, k3, hge, below_drewN (hbl.trans (hbl37.mono hbl.size)) _, below_drewN (hbl2r.trans (hbl37.mono hbl2r.size)) _⟩
end Go.Proofs.Ytfigimfdojbkeaa

namespace Go.Proofs.Ytfigimfdojbkeaa
open Go.RowKit

theorem root_ex (k : Nat) (hk : 1 ≤ k) (x : Nat) : ∃ r, r ^ k ≤ x ∧ x < (r + 1) ^ k := by
  induction x with
  | zero => exact ⟨0, by rw [Nat.zero_pow (by omega)]; omega, by simp⟩
  | succ x ih =>
    obtain ⟨r, h1, h2⟩ := ih
    by_cases h : x + 1 < (r + 1) ^ k
    · exact ⟨r, by omega, h⟩
    · refine ⟨r + 1, by omega, ?_⟩
      have : (r + 1) ^ k < (r + 1 + 1) ^ k := Nat.pow_lt_pow_left (by omega) (by omega)
      omega
theorem root_uniq {k x r s : Nat} (h1 : r ^ k ≤ x) (h2 : x < (r + 1) ^ k) (h3 : s ^ k ≤ x) (h4 : x < (s + 1) ^ k) : r = s :=
  Nat.le_antisymm ((root_le h3 h4).1 h1) ((root_le h1 h2).1 h3)

theorem bl_le_words {x n : Nat} (h : (mag x).length = n) : bl x ≤ 32 * n := by
  rw [bl_lt, ← pw_two]
  have := lt_pw_mag x
  rwa [h] at this
theorem words_le_bits {x b : Nat} (h : x < 2 ^ b) : (mag x).length ≤ b / 32 + 1 := by
  refine mag_length_le (Nat.lt_of_lt_of_le h ?_)
  rw [pw_two]
  exact Nat.pow_le_pow_right (by omega) (by omega)

/-- A root has no more bits than the size that is reckoned. -/
theorem root_size {x k r : Nat} (hk : 1 ≤ k) (h1 : r ^ k ≤ x) : r < 2 ^ ((bl x - 1) / k + 1) := by
  rcases Nat.lt_or_ge r (2 ^ ((bl x - 1) / k + 1)) with h | h
  · exact h
  · exfalso
    have h2 := Nat.pow_le_pow_left h k
    rw [← Nat.pow_mul] at h2
    have h3 := lt_bl x
    have h4 : bl x ≤ ((bl x - 1) / k + 1) * k := by
      have := Nat.div_add_mod (bl x - 1) k
      have := Nat.mod_lt (bl x - 1) (show 0 < k by omega)
      rw [Nat.add_mul, Nat.one_mul, Nat.mul_comm]
      omega
    have := Nat.pow_le_pow_right (n := 2) (by omega) h4
    omega

theorem start_ge {x k r s h : Nat} (h1 : r ^ k ≤ x) (h2 : x / 2 ^ (k * h) < (s + 1) ^ k) : r ≤ (s + 1) * 2 ^ h := by
  rcases Nat.lt_or_ge ((s + 1) * 2 ^ h) r with hl | hl
  · exfalso
    have h3 := Nat.pow_le_pow_left (Nat.le_of_lt hl) k
    rw [Nat.mul_pow, ← Nat.pow_mul, Nat.mul_comm h k] at h3
    rw [Nat.div_lt_iff_lt_mul (Nat.pow_pos (by omega))] at h2
    omega
  · exact hl
theorem start_le {x k r s h : Nat} (h1 : s ^ k ≤ x / 2 ^ (k * h)) (h2 : x < (r + 1) ^ k) : (s + 1) * 2 ^ h ≤ r + 2 ^ h := by
  have h3 : (s * 2 ^ h) ^ k ≤ x := by
    rw [Nat.mul_pow, ← Nat.pow_mul, Nat.mul_comm h k]
    exact (Nat.le_div_iff_mul_le (Nat.pow_pos (by omega))).1 h1
  have h4 : s * 2 ^ h ≤ r := by
    rcases Nat.lt_or_ge r (s * 2 ^ h) with hl | hl
    · have := Nat.pow_le_pow_left (show r + 1 ≤ s * 2 ^ h from hl) k
      omega
    · exact hl
  rw [Nat.add_mul, Nat.one_mul]
  omega

theorem tdiv_small {a : Int} (h : a ≤ 1) : a.tdiv 2 ≤ 0 := by
  rcases Int.lt_or_le a 0 with h0 | h0
  · have : a.tdiv 2 = -((-a).tdiv 2) := by rw [Int.neg_tdiv, Int.neg_neg]
    rw [this, Int.tdiv_eq_ediv_of_nonneg (by omega)]
    omega
  · rw [Int.tdiv_eq_ediv_of_nonneg h0]; omega

set_option maxHeartbeats 4000000 in
set_option maxRecDepth 100000 in
theorem root_any (k : Nat) (zk : Int) (hzk : zk = (k : Int)) (hk1 : 1 ≤ k) (hz : zk ≤ 9223372036854775807) (x : Nat) : ∀ (A : Option Addr) (n c r : Nat) (w : World), Wd w A n (mag x) → n ≤ c → c ≤ 9223372036854775807 → n ≤ 20000 →
    r ^ k ≤ x → x < (r + 1) ^ k → Calls Try.prog 116 #[.slice A n c, .int .i64 zk] w (RetMg r w) := by
  induction x using Nat.strongRecOn with
  | ind x ih =>
  intro A n c r w ha hnc hc hn h1 h2
  have HA := Lib.hid ha
  have H1 := Lib.hid h1
  have H2 := Lib.hid h2
  have HZK := Lib.hid hzk
  have IH := Lib.hid ih
  have hz0 : 1 ≤ zk := by omega
  have hbw := bl_le_words ha.len
  have hblx := lt_bl x
  have HBLX := Lib.hid hblx
  clear ha h1 h2 ih hblx
  by_cases hx0 : x = 0
  · have hr0 : Hid (r = 0) := by
      unfold Hid
      refine root_uniq H1.out H2.out (s := 0) ?_ ?_
      · rw [Nat.zero_pow (by omega)]; omega
      · rw [hx0]; simp
    have hb0 : bl x = 0 := by rw [hx0]; exact bl_zero
    clear hx0
    go_enter Try.func116, Try.ntmps116
    go_wp2_with fail
    refine (bitLength_any A n c x w HA.out (by omega)).mono ?_
    rintro e w1 ⟨rfl, rfl⟩
    rw [hb0]
    go_wp2
    go_ret
    exact ⟨_, rfl, by rw [hr0.out]; exact Mg.zero _ _ _ (by omega), Below.refl _ _⟩
  · have hb1 : 1 ≤ bl x := by
      rcases Nat.eq_zero_or_pos (bl x) with e | e
      · have := HBLX.out; rw [e] at this; simp at this; exact absurd this hx0
      · exact e
    by_cases hbk : bl x ≤ k
    · have hr1 : Hid (r = 1) := by
        unfold Hid
        refine root_uniq H1.out H2.out (s := 1) ?_ ?_
        · rw [Nat.one_pow]; omega
        · exact Nat.lt_of_lt_of_le HBLX.out (Nat.pow_le_pow_right (by omega) hbk)
      have hbz : ((bl x : Nat) : Int) ≤ zk := by omega
      generalize hbb : bl x = bb at *
      have HBB := Lib.hid hbb
      have ht0 : (((bb : Nat) : Int) == 0) = false := by simp; omega
      clear hbb hbk hx0 hzk
      go_enter Try.func116, Try.ntmps116
      go_wp2_with fail
      refine (bitLength_any A n c x w HA.out (by omega)).mono ?_
      rintro e w1 ⟨rfl, rfl⟩
      rw [HBB.out]
      go_wp2
      go_ret
      exact ⟨_, rfl, Mg.blk (n := 1) (Blk.one (a := 1) (by omega) (by omega)) rfl (by omega) (by rw [hr1.out]; exact mag_one1.symm), (Below.refl _ _).alloc (Nat.le_refl _) _⟩
    · have hkb : k < 640000 := by omega
      have hz1 : zk < 640000 := by omega
      have hzb : zk < ((bl x : Nat) : Int) := by omega
      have hrs := root_size hk1 H1.out
      have hdm := Nat.div_add_mod (bl x - 1) k
      have hsk : k * ((bl x - 1) / k) ≤ bl x - 1 := Nat.mul_div_le _ _
      have hszb : (bl x - 1) / k ≤ bl x := Nat.le_trans (Nat.div_le_self _ _) (by omega)
      have hbk0 : 1 ≤ bl k := by
        rcases Nat.eq_zero_or_pos (bl k) with e | e
        · have := lt_bl k; rw [e] at this; simp at this; omega
        · exact e
      have hbk20 : bl k ≤ 20 := (bl_lt k 20).2 (by omega)
      have hr1 : 1 ≤ r := by
        rcases Nat.eq_zero_or_pos r with e | e
        · have := H2.out; rw [e] at this; simp at this; omega
        · exact e
      have hszI : (((bl x : Nat) : Int) - 1) / zk = (((bl x - 1) / k : Nat) : Int) := by rw [hzk, Int.natCast_ediv]; congr 1; omega
      generalize hsz : (bl x - 1) / k = sz at *
      generalize hbb : bl x = bb at *
      generalize hbbk : bl k = bk at *
      have HBB := Lib.hid hbb
      have HBBK := Lib.hid hbbk
      have HRS := Lib.hid hrs
      have ht0 : (((bb : Nat) : Int) == 0) = false := by simp; omega
      have hk64 : IntKind.u64.wrap zk = zk := IntWalk.u64_in _ (by omega)
      have hxpos : 0 < x := Nat.pos_of_ne_zero hx0
      clear hsz hbb hbbk hrs hdm hx0 hzk
      by_cases hhalf : (sz : Int) + 1 - bk ≤ 1
      · have hle0 := tdiv_small hhalf
        go_enter Try.func116, Try.ntmps116
        go_wp2_with fail
        refine (bitLength_any A n c x w HA.out (by omega)).mono ?_
        rintro e w1 ⟨rfl, rfl⟩
        rw [HBB.out]
        go_wp2_with fail
        refine (HZK.out ▸ (wordsOf_any k _ (by omega)) : Calls Try.prog 139 #[.int .u64 zk] w (RetMg k w)).mono ?_
        rintro e w1 ⟨v1, rfl, ⟨A1, n1, c1, rfl, a1, a2, a3⟩, hbl1⟩
        have hn1 : n1 ≤ 1 := by rw [← a3.len]; exact mag_length_le (by rw [pw_one]; omega)
        have A3 := Lib.hid a3
        clear a3
        go_wp2_with fail
        refine (bitLength_any A1 n1 c1 k _ A3.out (by omega)).mono ?_
        rintro e w2 ⟨rfl, rfl⟩
        rw [HBBK.out]
        go_wp2_with fail
        refine (shortRoot_any A n c x k (sz + 1) r zk _ w1 (HA.out.below hbl1) (by omega) HZK.out (by omega) hk1 (by omega) (by omega) H1.out H2.out HRS.out).mono ?_
        rintro e w3 ⟨v3, rfl, hm3, hbl3⟩
        have HM3 := Lib.hid hm3
        clear hm3
        go_wp2
        go_ret
        exact ⟨_, rfl, HM3.out, hbl1.trans (hbl3.mono hbl1.size)⟩
      · obtain ⟨h, hh⟩ : ∃ h, h = (sz + 1 - bk) / 2 := ⟨_, rfl⟩
        have hh1 : 1 ≤ h := by omega
        have hh2 : h ≤ sz := by omega
        have hhI : ((sz : Int) + 1 - bk) / 2 = (h : Int) := by omega
        have hge2 : (0 : Int) ≤ (sz : Int) + 1 - bk := by omega
        obtain ⟨kh, hkh⟩ : ∃ kh, kh = k * h := ⟨_, rfl⟩
        have hkhI : zk * (h : Int) = (kh : Int) := by rw [HZK.out, hkh, Int.natCast_mul]
        have hkhb : kh ≤ bb := by
          rw [hkh]
          exact Nat.le_trans (Nat.mul_le_mul_left k hh2) (by omega)
        have hkh1 : 1 ≤ kh := by rw [hkh]; exact Nat.mul_pos (by omega) (by omega)
        obtain ⟨r2, hr21, hr22⟩ := root_ex k hk1 (x / 2 ^ kh)
        have hylt : x / 2 ^ kh < x := Nat.div_lt_self hxpos (Nat.lt_of_lt_of_le (show 1 < 2 ^ 1 by omega) (Nat.pow_le_pow_right (by omega) hkh1))
        have hsge : r ≤ (r2 + 1) * 2 ^ h := start_ge H1.out (by rw [← hkh]; exact hr22)
        have hsle : (r2 + 1) * 2 ^ h ≤ r + 2 ^ h := start_le (by rw [← hkh]; exact hr21) H2.out
        have hs0 : (r2 + 1) * 2 ^ h < 2 ^ (sz + 2) := by
          have e1 := HRS.out
          have e2 : 2 ^ h ≤ 2 ^ (sz + 1) := Nat.pow_le_pow_right (by omega) (by omega)
          rw [show sz + 2 = sz + 1 + 1 from rfl, Nat.pow_succ]
          omega
        have hsl := words_le_bits hs0
        have hr2l : (mag (r2 + 1)).length ≤ 20010 := by
          have e1 : r2 + 1 ≤ (r2 + 1) * 2 ^ h := Nat.le_mul_of_pos_right _ (Nat.pow_pos (by omega))
          have e2 := mag_len_mono e1
          omega
        have hr2l2 : (mag r2).length ≤ 20010 := Nat.le_trans (mag_len_mono (Nat.le_succ r2)) hr2l
        have hnsk : ((sz + 2) / 32 + 1) * k ≤ 9000000 := by
          have e1 : ((sz + 2) / 32 + 1) * k ≤ (sz + 3) * k := Nat.mul_le_mul_right k (by omega)
          have e2 : (sz + 3) * k = k * sz + 3 * k := by rw [Nat.add_mul, Nat.mul_comm sz k]
          omega
        have HSGE := Lib.hid hsge
        have HR21 := Lib.hid hr21
        have HR22 := Lib.hid hr22
        have HYLT := Lib.hid hylt
        have HNSK := Lib.hid hnsk
        clear hh hkh hsge hsle hs0 hr21 hr22 hylt hnsk hsk
        have hgt0 : ¬ (h : Int) ≤ 0 := by omega
        go_enter Try.func116, Try.ntmps116
        go_wp2_with fail
        refine (bitLength_any A n c x w HA.out (by omega)).mono ?_
        rintro e w1 ⟨rfl, rfl⟩
        rw [HBB.out]
        go_wp2_with fail
        refine (HZK.out ▸ (wordsOf_any k _ (by omega)) : Calls Try.prog 139 #[.int .u64 zk] w (RetMg k w)).mono ?_
        rintro e w1 ⟨v1, rfl, ⟨A1, n1, c1, rfl, a1, a2, a3⟩, hbl1⟩
        have hn1 : n1 ≤ 1 := by rw [← a3.len]; exact mag_length_le (by rw [pw_one]; omega)
        have A3 := Lib.hid a3
        clear a3
        go_wp2_with fail
        refine (bitLength_any A1 n1 c1 k _ A3.out (by omega)).mono ?_
        rintro e w2 ⟨rfl, rfl⟩
        rw [HBBK.out]
        go_wp2_with fail
        refine (shiftRight_any A n c kh (mag x) _ w1 (HA.out.below hbl1) (by omega) (by omega) rfl).mono ?_
        rintro e w2 ⟨v2, rfl, ⟨A2, n2, c2, rfl, b1, b2, b3⟩, hbl2⟩
        rw [val_mag] at b3
        have B3 := Lib.hid b3
        have hn2 : n2 ≤ n := by rw [← b3.len, ← HA.out.len]; exact mag_len_mono (Nat.div_le_self _ _)
        clear b3
        go_wp2_with fail
        refine (IH.out (x / 2 ^ kh) HYLT.out A2 n2 c2 r2 w2 B3.out b1 b2 (by omega) HR21.out HR22.out).mono ?_
        rintro e w3 ⟨v3, rfl, ⟨A4, n4, c4, rfl, d1, d2, d3⟩, hbl3⟩
        have D3 := Lib.hid d3
        have hn4 : n4 ≤ 20010 := by rw [← d3.len]; exact hr2l2
        clear d3
        go_wp2_with fail
        have hone : Blk (w3.alloc (.cells #[.int .u32 1] 43)) w3.heap.size [1] := Blk.one (a := 1) (by omega) rfl
        have hone2 : Wd (w3.alloc (.cells #[.int .u32 1] 43)) (some ⟨w3.heap.size, 0, none⟩) 1 (mag 1) := by rw [mag_one1]; exact hone.whole
        refine (plus_any A4 _ n4 1 c4 1 r2 1 _ (D3.out.alloc _) hone2 (by omega) (by omega)).mono ?_
        rintro e w5 ⟨v5, rfl, ⟨A6, n6, c6, rfl, f1, f2, f3⟩, hbl5⟩
        have F3 := Lib.hid f3
        have hn6 : n6 ≤ 20010 := by rw [← f3.len]; exact hr2l
        clear f3 hone hone2
        go_wp2_with fail
        refine (shiftLeft_any A6 n6 c6 (r2 + 1) h (h : Int) _ F3.out (by omega) (by omega) rfl).mono ?_
        rintro e w6 ⟨v6, rfl, ⟨A7, n7, c7, rfl, g1, g2, g3⟩, hbl6⟩
        have G3 := Lib.hid g3
        have hn7 : n7 ≤ (sz + 2) / 32 + 1 := by rw [← g3.len]; exact hsl
        clear g3
        have hbl56 : Below w1.heap.size w1 w6 := by
          have h23 := hbl2.trans (hbl3.mono hbl2.size)
          have h24 : Below w1.heap.size w1 (w3.alloc (.cells #[.int .u32 1] 43)) := h23.alloc h23.size _
          have h25 := h24.trans (hbl5.mono h24.size)
          exact h25.trans (hbl6.mono h25.size)
        go_wp2_with fail
        refine (newtonRoot_any A A7 n c x k n7 c7 _ r zk w6 ((HA.out.below hbl1).below hbl56) G3.out (by omega) HZK.out hk1 (by omega) (Nat.le_trans (Nat.mul_le_mul_right k hn7) HNSK.out) (by omega) g1 g2 H1.out H2.out hr1 HSGE.out).mono ?_
        rintro e w7 ⟨v7, rfl, hm7, hbl7⟩
        have HM7 := Lib.hid hm7
        clear hm7
        go_wp2
        go_ret
        have h16 := hbl1.trans (hbl56.mono hbl1.size)
        exact ⟨_, rfl, HM7.out, h16.trans (hbl7.mono h16.size)⟩
end Go.Proofs.Ytfigimfdojbkeaa

section
namespace Go.Proofs.Ytfigimfdojbkeaa
open Go.RowKit
attribute [local go_sem ↓] Go.wp_at_zero Go.wp_at_succ

theorem take_eq_len {l : List Nat} {m : Nat} (hm : m ≤ l.length) (h : l.take m = l) : m = l.length := by
  have := congrArg List.length h
  rw [List.length_take, Nat.min_eq_left hm] at this
  exact this

set_option maxHeartbeats 400000 in
theorem words_any (b : Bool) (A : Option Addr) (n c : Nat) (ws : List Nat) (w : World) (h : Wd w A n ws) (hn : n ≤ 1099511627776) (hc : n ≤ c) :
    Calls Try.prog 94 #[.agg #[.bool b, .slice A n c]] w fun e w' => ∃ m, m ≤ n ∧ e = .returned (.slice A m c) ∧ ws.take m = mag (val ws) ∧ Below w.heap.size w w' := by
  have H := Lib.hid h
  clear h
  go_enter Try.func94, Try.ntmps94
  go_wp2_with fail
  refine (trim_any A n c ws _ (H.out.alloc _) hn hc).mono ?_
  rintro e w' ⟨m, hm, rfl, ht, rfl⟩
  have HT := Lib.hid ht
  clear ht
  rw [H.out.len] at hm
  go_wp2
  go_ret
  exact ⟨m, hm, rfl, HT.out, (Below.refl _ _).alloc (Nat.le_refl _) _⟩

/-- .. of an integer: its words as they are. -/
theorem words_int (b : Bool) (A : Option Addr) (n c x : Nat) (w : World) (h : Wd w A n (mag x)) (hn : n ≤ 1099511627776) (hc : n ≤ c) :
    Calls Try.prog 94 #[.agg #[.bool b, .slice A n c]] w (RetV (.slice A n c) w) :=
  (words_any b A n c (mag x) w h hn hc).mono fun e w' ⟨m, hm, he, ht, hb⟩ => by
    rw [val_mag] at ht
    have := take_eq_len (by rw [h.len]; exact hm) ht
    rw [h.len] at this
    subst this
    exact ⟨he, hb⟩

theorem signed_any (b : Bool) (A : Option Addr) (n c : Nat) (w : World) (_ : n ≤ 1099511627776) :
    Calls Try.prog 98 #[.bool b, .slice A n c] w (RetV (.agg #[.bool (b && decide (0 < n)), .slice A n c]) w) := by
  cases b with
  | false =>
    go_enter Try.func98, Try.ntmps98
    go_wp2
    exact bodyPost_ret (v := .agg #[.bool false, .slice A n c]) (by simp [results, Try.results98, go_sem]) rfl ⟨rfl, (Below.refl _ _).alloc (Nat.le_refl _) _⟩
  | true =>
    by_cases h : 0 < n
    · go_enter Try.func98, Try.ntmps98
      go_wp2
      exact bodyPost_ret (v := .agg #[.bool true, .slice A n c]) (by simp [results, Try.results98, go_sem]) rfl ⟨by rw [decide_eq_true h]; rfl, (Below.refl _ _).alloc (Nat.le_refl _) _⟩
    · go_enter Try.func98, Try.ntmps98
      go_wp2
      exact bodyPost_ret (v := .agg #[.bool false, .slice A n c]) (by simp [results, Try.results98, go_sem]) rfl ⟨by rw [decide_eq_false h]; rfl, (Below.refl _ _).alloc (Nat.le_refl _) _⟩

/-- The integer with a sign and an absolute value. -/
def sgn (b : Bool) (x : Nat) : Int := if b then -(x : Int) else x
theorem sgn_abs (b : Bool) (x : Nat) : (sgn b x).natAbs = x := by cases b <;> simp [sgn]
theorem sgn_neg (b : Bool) (x : Nat) : decide (sgn b x < 0) = (b && decide (0 < x)) := by cases b <;> simp [sgn]
theorem sgn_of (z : Int) : sgn (decide (z < 0)) z.natAbs = z := by
  unfold sgn
  by_cases h : z < 0
  · rw [decide_eq_true h]; simp; omega
  · rw [decide_eq_false h]; simp; omega
theorem sgn_add (b : Bool) (x y : Nat) : sgn b x + sgn b y = sgn b (x + y) := by cases b <;> simp [sgn] <;> omega
theorem sgn_sub_lt {a b : Bool} (h : a ≠ b) {x y : Nat} (hl : x < y) : sgn a x + sgn b y = sgn b (y - x) := by cases a <;> cases b <;> simp [sgn] at h ⊢ <;> omega
theorem sgn_sub_ge {a b : Bool} (h : a ≠ b) {x y : Nat} (hl : y ≤ x) : sgn a x + sgn b y = sgn a (x - y) := by cases a <;> cases b <;> simp [sgn] at h ⊢ <;> omega

theorem len_pos {w : World} {A : Option Addr} {n x : Nat} (h : Wd w A n (mag x)) : decide (0 < n) = decide (0 < x) := by
  have hl := h.len
  by_cases h0 : x = 0
  · subst h0; rw [mag_zero] at hl; simp at hl; subst hl; rfl
  · have : n ≠ 0 := fun e => h0 (mag_length_zero.1 (by omega))
    rw [decide_eq_true (show 0 < n by omega), decide_eq_true (show 0 < x by omega)]

theorem signed_mg (b : Bool) (A : Option Addr) (n c x : Nat) (w : World) (h : Wd w A n (mag x)) (hn : n ≤ 1099511627776) (hc : n ≤ c) (hcb : c ≤ 9223372036854775807) :
    Calls Try.prog 98 #[.bool b, .slice A n c] w (RetIv (sgn b x) w) :=
  (signed_any b A n c w hn).mono fun e w' ⟨he, hb⟩ => ⟨_, he, ⟨.slice A n c, by rw [sgn_neg, len_pos h], A, n, c, rfl, hc, hcb, by rw [sgn_abs]; exact h.below hb⟩, hb⟩

/-- Block g is the cell of one integer: a sign and a slice. -/
def Box (w : World) (g : Nat) (b : Bool) (s : Value) : Prop := w.heap[g]? = some (.cells #[.bool b, s] 27 (0, 0))
theorem Box.new (w : World) (b : Bool) (s : Value) : Box (w.alloc (.cells #[.bool b, s] 27)) w.heap.size b s := heap_alloc_new w _
theorem Box.lt {w : World} {g : Nat} {b : Bool} {s : Value} (h : Box w g b s) : g < w.heap.size := by
  rcases Nat.lt_or_ge g w.heap.size with hlt | hge
  · exact hlt
  · unfold Box at h; rw [Array.getElem?_eq_none hge] at h; cases h
theorem Box.cell0 {w : World} {g : Nat} {b : Bool} {s : Value} (h : Box w g b s) : w.cell? ⟨g, 0, none⟩ = some (.bool b) := cell_of_row w g 0 _ _ (0, 0) h
theorem Box.cell1 {w : World} {g : Nat} {b : Bool} {s : Value} (h : Box w g b s) : w.cell? ⟨g, 1, none⟩ = some s := cell_of_row w g 1 _ _ (0, 0) h
theorem Box.frozen {w : World} {g : Nat} {b : Bool} {s : Value} (h : Box w g b s) (i : Nat) : w.frozen? ⟨g, i, none⟩ = false := by
  unfold Box at h; simp [World.frozen?, h]
theorem Box.drewN {w : World} {g : Nat} {b : Bool} {s : Value} (h : Box w g b s) (n : Nat) : Box (w.drewN n) g b s := h
theorem Box.alloc {w : World} {g : Nat} {b : Bool} {s : Value} (h : Box w g b s) (o : Obj) : Box (w.alloc o) g b s := (Below.heap_alloc w o g h.lt).trans h
theorem Box.below {w w' : World} {g B : Nat} {b : Bool} {s : Value} (h : Box w g b s) (hb : Below B w w') (hg : g < B) : Box w' g b s := (hb.block g hg).trans h

theorem Box.set0 {w : World} {g : Nat} {b : Bool} {s : Value} (h : Box w g b s) (c : Bool) : Box (w.setCell ⟨g, 0, none⟩ (.bool c)) g c s := by
  unfold Box at h ⊢
  simp [World.setCell, Array.getElem?_modify, h]
theorem Box.set1 {w : World} {g : Nat} {b : Bool} {s : Value} (h : Box w g b s) (t : Value) : Box (w.setCell ⟨g, 1, none⟩ t) g b t := by
  unfold Box at h ⊢
  simp [World.setCell, Array.getElem?_modify, h]
/-- Words are no integer's cell: a store there leaves them. -/
theorem Wd.box {w : World} {g i : Nat} {b : Bool} {s u : Value} {A : Option Addr} {n : Nat} {ws : List Nat} (h : Wd w A n ws) (hb : Box w g b s) (hs : ∀ k y, s ≠ .int k y) (hi : i < 2) : Wd (w.setCell ⟨g, i, none⟩ u) A n ws := by
  refine ⟨h.1, h.2.1, fun hn => ?_⟩
  obtain ⟨ad, e, hlt, hc⟩ := h.2.2 hn
  refine ⟨ad, e, by simpa [World.setCell] using hlt, fun k hk => ?_⟩
  have h1 := hc k hk
  rw [World.cell?_setCell_other w ⟨g, i, none⟩ (ad.add k) u ?_]
  · exact h1
  · intro e2
    rw [← e2] at h1
    rcases (show i = 0 ∨ i = 1 by omega) with rfl | rfl
    · rw [hb.cell0] at h1; cases h1
    · rw [hb.cell1] at h1; injection h1 with h1; exact hs _ _ h1
theorem below_new {w w1 : World} {o : Obj} (h : Below (w.alloc o).heap.size (w.alloc o) w1) : Below w.heap.size w w1 :=
  ((Below.refl _ _).alloc (Nat.le_refl _) o).trans (h.mono (by simp))

theorem Iv.form {w : World} {v : Value} {z : Int} (h : Iv w v z) : ∃ A n c, v = .agg #[.bool (decide (z < 0)), .slice A n c] ∧ n ≤ c ∧ c ≤ 9223372036854775807 ∧ Wd w A n (mag z.natAbs) := by
  obtain ⟨m, e, A, n, c, rfl, h1, h2, h3⟩ := h
  exact ⟨A, n, c, e, h1, h2, h3⟩
theorem Iv.made {w : World} {A : Option Addr} {n c : Nat} {z : Int} (h1 : n ≤ c) (h2 : c ≤ 9223372036854775807) (h3 : Wd w A n (mag z.natAbs)) : Iv w (.agg #[.bool (decide (z < 0)), .slice A n c]) z :=
  ⟨_, rfl, A, n, c, rfl, h1, h2, h3⟩
/-- An integer is stored into a cell for integers. -/
theorem iv_store {w : World} {g : Nat} {b : Bool} {X : Option Addr} {p q : Nat} {A : Option Addr} {n c : Nat} {z : Int} {u : Value} (h1 : n ≤ c) (h2 : c ≤ 9223372036854775807) (h3 : Wd w A n (mag z.natAbs)) (hb : Box w g b (.slice X p q)) (cb : Bool) :
    Iv ((w.setCell ⟨g, 0, none⟩ (.bool cb)).setCell ⟨g, 1, none⟩ u) (.agg #[.bool (decide (z < 0)), .slice A n c]) z :=
  Iv.made h1 h2 ((h3.box hb (fun _ _ => by simp) (by omega)).box (Box.set0 hb _) (fun _ _ => by simp) (by omega))

theorem sum_len {x y n m N : Nat} (hx : (mag x).length = n) (hy : (mag y).length = m) (h1 : n ≤ N) (h2 : m ≤ N) : (mag (x + y)).length ≤ N + 1 := by
  refine mag_length_le ?_
  have e1 := lt_pw_mag x
  have e2 := lt_pw_mag y
  rw [hx] at e1
  rw [hy] at e2
  have e3 := pw_le h1
  have e4 := pw_le h2
  rw [pw_succ]
  omega

set_option maxHeartbeats 1000000 in
theorem sum_any (a b : Bool) (A B : Option Addr) (n c m d x y : Nat) (w : World) (ha : Wd w A n (mag x)) (hb : Wd w B m (mag y)) (hn : n ≤ 10000000) (hm : m ≤ 10000000) :
    Calls Try.prog 111 #[.bool a, .slice A n c, .bool b, .slice B m d] w (RetIv (sgn a x + sgn b y) w) := by
  have HA := Lib.hid ha
  have HB := Lib.hid hb
  clear ha hb
  by_cases hab : a = b
  · subst hab
    have ht : (a == a) = true := by simp
    rw [sgn_add a x y]
    go_enter Try.func111, Try.ntmps111
    go_wp2_with fail
    refine (plus_any A B n m c d x y _ (HA.out.alloc _) (HB.out.alloc _) (by omega) (by omega)).mono ?_
    rintro e w1 ⟨v1, rfl, ⟨A1, n1, c1, rfl, h1, h2, h3⟩, hbl1⟩
    have H3 := Lib.hid h3
    have hn1 : n1 ≤ 10000001 := by rw [← h3.len]; exact sum_len HA.out.len HB.out.len hn hm
    clear h3
    go_wp2_with fail
    refine (signed_mg a A1 n1 c1 (x + y) _ H3.out (by omega) h1 h2).mono ?_
    rintro e w2 ⟨v2, rfl, hv2, hbl2⟩
    obtain ⟨A2, n2, c2, rfl, k1, k2, k3⟩ := hv2.form
    have K3 := Lib.hid k3
    have hbx1 : Box w1 w.heap.size false (.slice none 0 0) := (Box.new w _ _).below hbl1 (by simp)
    have hbx2 := Lib.hid (hbx1.below hbl2 hbx1.lt)
    have q0 := hbx2.out.cell0
    have q1 := hbx2.out.cell1
    have q2 := hbx2.out.frozen 0
    have q3 := hbx2.out.frozen 1
    have hbl02 : Below w.heap.size w w2 := (below_new hbl1).trans (hbl2.mono (below_new hbl1).size)
    clear k3 hbx1 hv2
    go_wp2
    exact bodyPost_ret (v := .agg #[.bool (decide (sgn a (x + y) < 0)), .slice A2 n2 c2]) (by simp [results, Try.results111, go_sem, q0, q1]) rfl ⟨_, rfl, iv_store k1 k2 K3.out hbx2.out _, (hbl02.setCell (Nat.le_refl _) _).setCell (Nat.le_refl _) _⟩
  · have ht : (a == b) = false := by simp [hab]
    by_cases hlt : x < y
    · rw [sgn_sub_lt hab hlt]
      have hc := Lib.hid (cmpN_lt hlt)
      have hle := Nat.le_of_lt hlt
      clear hlt hab
      go_enter Try.func111, Try.ntmps111
      go_wp2_with fail
      refine (compare_any A B n m c d x y _ (HA.out.alloc _) (HB.out.alloc _) (by omega) (by omega)).mono ?_
      rintro e w0 ⟨rfl, q, rfl⟩
      rw [hc.out]
      go_wp2_with fail
      refine (minus_any B A m n d c y x _ ((HB.out.alloc _).drewN _) ((HA.out.alloc _).drewN _) (by omega) (by omega) hle).mono ?_
      rintro e w1 ⟨v1, rfl, ⟨A1, n1, c1, rfl, h1, h2, h3⟩, hbl1⟩
      have H3 := Lib.hid h3
      have hn1 : n1 ≤ 10000000 := by rw [← h3.len]; refine Nat.le_trans (mag_len_mono (Nat.sub_le y x)) ?_; rw [HB.out.len]; exact hm
      clear h3
      go_wp2_with fail
      refine (signed_mg b A1 n1 c1 (y - x) _ H3.out (by omega) h1 h2).mono ?_
      rintro e w2 ⟨v2, rfl, hv2, hbl2⟩
      obtain ⟨A2, n2, c2, rfl, k1, k2, k3⟩ := hv2.form
      have K3 := Lib.hid k3
      have hbx1 : Box w1 w.heap.size false (.slice none 0 0) := ((Box.new w _ _).drewN _).below hbl1 (by simp)
      have hbx2 := Lib.hid (hbx1.below hbl2 hbx1.lt)
      have q0 := hbx2.out.cell0
      have q1 := hbx2.out.cell1
      have q2 := hbx2.out.frozen 0
      have q3 := hbx2.out.frozen 1
      have hbl01 := below_new (undrewN hbl1)
      have hbl02 : Below w.heap.size w w2 := hbl01.trans (hbl2.mono hbl01.size)
      clear k3 hbx1 hv2
      go_wp2
      exact bodyPost_ret (v := .agg #[.bool (decide (sgn b (y - x) < 0)), .slice A2 n2 c2]) (by simp [results, Try.results111, go_sem, q0, q1]) rfl ⟨_, rfl, iv_store k1 k2 K3.out hbx2.out _, (hbl02.setCell (Nat.le_refl _) _).setCell (Nat.le_refl _) _⟩
    · rw [sgn_sub_ge hab (Nat.le_of_not_lt hlt)]
      have hc0 : (0 : Int) ≤ cmpN x y := by unfold cmpN; rw [if_neg hlt]; split <;> omega
      have hle := Nat.le_of_not_lt hlt
      generalize hcc : cmpN x y = cc at *
      have HCC := Lib.hid hcc
      clear hlt hab hcc
      go_enter Try.func111, Try.ntmps111
      go_wp2_with fail
      refine (compare_any A B n m c d x y _ (HA.out.alloc _) (HB.out.alloc _) (by omega) (by omega)).mono ?_
      rintro e w0 ⟨rfl, q, rfl⟩
      rw [HCC.out]
      go_wp2_with fail
      refine (minus_any A B n m c d x y _ ((HA.out.alloc _).drewN _) ((HB.out.alloc _).drewN _) (by omega) (by omega) hle).mono ?_
      rintro e w1 ⟨v1, rfl, ⟨A1, n1, c1, rfl, h1, h2, h3⟩, hbl1⟩
      have H3 := Lib.hid h3
      have hn1 : n1 ≤ 10000000 := by rw [← h3.len]; refine Nat.le_trans (mag_len_mono (Nat.sub_le x y)) ?_; rw [HA.out.len]; exact hn
      clear h3
      go_wp2_with fail
      refine (signed_mg a A1 n1 c1 (x - y) _ H3.out (by omega) h1 h2).mono ?_
      rintro e w2 ⟨v2, rfl, hv2, hbl2⟩
      obtain ⟨A2, n2, c2, rfl, k1, k2, k3⟩ := hv2.form
      have K3 := Lib.hid k3
      have hbx1 : Box w1 w.heap.size false (.slice none 0 0) := ((Box.new w _ _).drewN _).below hbl1 (by simp)
      have hbx2 := Lib.hid (hbx1.below hbl2 hbx1.lt)
      have q0 := hbx2.out.cell0
      have q1 := hbx2.out.cell1
      have q2 := hbx2.out.frozen 0
      have q3 := hbx2.out.frozen 1
      have hbl01 := below_new (undrewN hbl1)
      have hbl02 : Below w.heap.size w w2 := hbl01.trans (hbl2.mono hbl01.size)
      clear k3 hbx1 hv2
      go_wp2
      exact bodyPost_ret (v := .agg #[.bool (decide (sgn a (x - y) < 0)), .slice A2 n2 c2]) (by simp [results, Try.results111, go_sem, q0, q1]) rfl ⟨_, rfl, iv_store k1 k2 K3.out hbx2.out _, (hbl02.setCell (Nat.le_refl _) _).setCell (Nat.le_refl _) _⟩
end Go.Proofs.Ytfigimfdojbkeaa
end
