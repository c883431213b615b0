/-
  Contract of newtonRoot.
-/
import Derived.Test.YtpklphdhigkmmaaRootA
import Derived.Deep.LoopGhost
namespace Go.Proofs.Ytpklphdhigkmmaa
open Go.RowKit

theorem pow_near (r d k : Nat) : (r + d) ^ (k + 1) ≤ r ^ (k + 1) + (k + 1) * d * (r + d) ^ k := by
  induction k with
  | zero => simp
  | succ k ih =>
    have h1 := Nat.mul_le_mul_right (r + d) ih
    have h2 : r ^ (k + 1) ≤ (r + d) ^ (k + 1) := Nat.pow_le_pow_left (by omega) _
    have e1 : (r + d) ^ (k + 1 + 1) = (r + d) ^ (k + 1) * (r + d) := Nat.pow_succ ..
    have e2 : (r ^ (k + 1) + (k + 1) * d * (r + d) ^ k) * (r + d) = r ^ (k + 1) * r + r ^ (k + 1) * d + (k + 1) * d * (r + d) ^ (k + 1) := by
      rw [Nat.add_mul, Nat.mul_add, Nat.mul_assoc ((k + 1) * d), show (r + d) ^ k * (r + d) = (r + d) ^ (k + 1) from (Nat.pow_succ ..).symm]
    have e3 : r ^ (k + 1 + 1) = r ^ (k + 1) * r := Nat.pow_succ ..
    have e4 : (k + 1 + 1) * d * (r + d) ^ (k + 1) = (k + 1) * d * (r + d) ^ (k + 1) + d * (r + d) ^ (k + 1) := by
      rw [Nat.add_mul (k + 1) 1 d, Nat.add_mul, Nat.one_mul]
    have h3 : r ^ (k + 1) * d ≤ d * (r + d) ^ (k + 1) := by rw [Nat.mul_comm]; exact Nat.mul_le_mul_left _ h2
    rw [e1, e3, e4]
    omega

/-- A step of Newton's method does not fall below the root. -/
theorem newton_ge {a k r s : Nat} (hk : 1 ≤ k) (h1 : r ^ k ≤ a) (hs : r ≤ s) (hr : 1 ≤ r) : r ≤ (s * (k - 1) + a / s ^ (k - 1)) / k := by
  obtain ⟨j, rfl⟩ : ∃ j, k = j + 1 := ⟨k - 1, by omega⟩
  obtain ⟨d, rfl⟩ : ∃ d, s = r + d := ⟨s - r, by omega⟩
  rw [Nat.add_sub_cancel, Nat.le_div_iff_mul_le (by omega)]
  have hp : 0 < (r + d) ^ j := Nat.pow_pos (by omega)
  rcases Nat.lt_or_ge ((r + d) * j) (r * (j + 1)) with hl | hl
  · have h2 : r * (j + 1) - (r + d) * j ≤ a / (r + d) ^ j := by
      rw [Nat.le_div_iff_mul_le hp]
      have h3 := pow_near r d j
      have e1 : (r + d) ^ (j + 1) = (r + d) ^ j * (r + d) := Nat.pow_succ ..
      have e2 : (r * (j + 1) - (r + d) * j) * (r + d) ^ j + ((r + d) * j) * (r + d) ^ j = r * (j + 1) * (r + d) ^ j := by
        rw [← Nat.add_mul]; congr 1; omega
      have e3 : r * (j + 1) * (r + d) ^ j + (j + 1) * d * (r + d) ^ j = (r + d) * j * (r + d) ^ j + (r + d) ^ j * (r + d) := by grind
      omega
    omega
  · exact Nat.le_trans hl (Nat.le_add_right _ _)
/-- Above the root it gets less. -/
theorem newton_lt {a k r s : Nat} (hk : 1 ≤ k) (h2 : a < (r + 1) ^ k) (hs : r < s) : (s * (k - 1) + a / s ^ (k - 1)) / k < s := by
  obtain ⟨j, rfl⟩ : ∃ j, k = j + 1 := ⟨k - 1, by omega⟩
  rw [Nat.add_sub_cancel, Nat.div_lt_iff_lt_mul (by omega)]
  have hp : 0 < s ^ j := Nat.pow_pos (by omega)
  have h3 : a / s ^ j < s := by
    rw [Nat.div_lt_iff_lt_mul hp, Nat.mul_comm, ← Nat.pow_succ]
    exact Nat.lt_of_lt_of_le h2 (Nat.pow_le_pow_left hs _)
  rw [Nat.mul_add, Nat.mul_one]
  omega
theorem mag_len_mono {x y : Nat} (h : x ≤ y) : (mag x).length ≤ (mag y).length := mag_length_le (Nat.lt_of_le_of_lt h (lt_pw_mag y))

set_option maxHeartbeats 1000000 in
theorem newtonRoot_any (A S : Option Addr) (n c x k ns cs s0 r : Nat) (zk : Int) (w : World) (ha : Wd w A n (mag x)) (hsr : Wd w S ns (mag s0)) (hn : n ≤ 1000000) (hzk : zk = (k : Int)) (hk1 : 1 ≤ k) (hk : k ≤ 4000000)
    (hns : ns * k ≤ 9000000) (hns1 : ns ≤ 1000000) (hcs : ns ≤ cs) (hcs2 : cs ≤ 9223372036854775807) (h1 : r ^ k ≤ x) (h2 : x < (r + 1) ^ k) (hr1 : 1 ≤ r) (hr : r ≤ s0) :
    Calls Try.prog 127 #[.slice A n c, .int .i64 zk, .slice S ns cs] w (RetMg r w) := by
  have HA := Lib.hid ha
  have HSR := Lib.hid hsr
  have hz0 : 1 ≤ zk := by omega
  have hz1 : zk ≤ 4000000 := by omega
  have H1 := Lib.hid h1
  have H2 := Lib.hid h2
  have hk64 : IntKind.u64.wrap zk = zk := IntWalk.u64_in _ (by omega)
  have hk65 : IntKind.u64.wrap (zk - 1) = zk - 1 := IntWalk.u64_in _ (by omega)
  have HZK := Lib.hid hzk
  clear ha hsr hzk h1 h2
  go_enter Try.func127, Try.ntmps127
  go_wp2_with fail
  refine ((show zk - 1 = ((k - 1 : Nat) : Int) by have := HZK.out; omega) ▸ (wordsOf_any (k - 1) w (by omega)) : Calls Try.prog 112 #[.int .u64 (zk - 1)] w (RetMg (k - 1) w)).mono ?_
  rintro e w1 ⟨v1, rfl, ⟨A1, n1, c1, rfl, a1, a2, a3⟩, hbl1⟩
  have hn1 : n1 ≤ 1 := by rw [← a3.len]; exact mag_length_le (by rw [pw_one]; omega)
  have A3 := Lib.hid a3
  clear a3
  go_wp2_with fail
  refine (HZK.out ▸ (wordsOf_any k _ (by omega)) : Calls Try.prog 112 #[.int .u64 zk] w1 (RetMg k w1)).mono ?_
  rintro e w2 ⟨v2, rfl, ⟨A2, n2, c2, rfl, b1, b2, b3⟩, hbl2⟩
  have hn2 : n2 ≤ 1 := by rw [← b3.len]; exact mag_length_le (by rw [pw_one]; omega)
  have B3 := Lib.hid b3
  have hbl02 := hbl1.trans (hbl2.mono hbl1.size)
  clear b3
  go_wp2
  go_loopg [2] s0 (fun g sv wr => ∃ S1 m1 d1, sv = .slice S1 m1 d1 ∧ Wd wr S1 m1 (mag g) ∧ m1 ≤ ns ∧ m1 ≤ d1 ∧ d1 ≤ 9223372036854775807 ∧ r ≤ g ∧ Below w.heap.size w wr ∧ Below w2.heap.size w2 wr)
  case atStart => exact ⟨S, ns, cs, rfl, HSR.out.below hbl02, Nat.le_refl _, hcs, hcs2, hr, hbl02, Below.refl _ _⟩
  case round =>
    obtain ⟨S1, m1, d1, rfl, hs1, hm1, hd1, hd2, hrg, hbl, hbl2r⟩ := hrel
    have HS1 := Lib.hid hs1
    have HA2 := Lib.hid (HA.out.below hbl)
    have hmk : m1 * (k - 1) ≤ 9000000 := Nat.le_trans (Nat.mul_le_mul hm1 (Nat.sub_le k 1)) hns
    have hm1b : m1 ≤ 1000000 := by omega
    have hpl := pow_len hs1.len (k - 1)
    have hne : gk ^ (k - 1) ≠ 0 := Nat.pos_iff_ne_zero.1 (Nat.pow_pos (by omega))
    have HA3 := Lib.hid (A3.out.below (hbl2.trans (hbl2r.mono hbl2.size)))
    have HB3 := Lib.hid (B3.out.below hbl2r)
    clear hs1
    go_wp2_with fail
    refine (power_any S1 m1 d1 gk (k - 1) (zk - 1) _ HS1.out hm1b hd1 hd2 (by have := HZK.out; omega) (by omega) (by omega)).mono ?_
    rintro e w3 ⟨v3, rfl, ⟨P1, p1, q1, rfl, p2, p3, p4⟩, hbl3⟩
    have P4 := Lib.hid p4
    have hp1 : p1 ≤ 9000001 := by rw [p4.len] at hpl; omega
    clear p4 hpl
    go_wp2_with fail
    refine (divide_any A P1 n c p1 q1 x _ _ (HA2.out.below hbl3) P4.out (by omega) (by omega) hne).mono ?_
    rintro e w4 ⟨v4, u4, rfl, hq4, hr4, hbl4⟩
    obtain ⟨Q1, qn, qc, rfl, q2, q3, q4⟩ := hq4
    have hqn : qn ≤ n := by rw [← q4.len, ← HA2.out.len]; exact mag_len_mono (Nat.div_le_self _ _)
    have Q4 := Lib.hid q4
    clear q4 hr4
    go_wp2_with fail
    refine (times_any S1 A1 m1 n1 d1 c1 gk (k - 1) _ ((HS1.out.below hbl3).below hbl4) ((HA3.out.below hbl3).below hbl4) (by omega) (by omega)).mono ?_
    rintro e w5 ⟨v5, rfl, ⟨T1, t1, tc, rfl, t2, t3, t4⟩, hbl5⟩
    have ht1 : t1 ≤ m1 + 1 := by
      rw [← t4.len]
      refine mag_length_le ?_
      have e1 := lt_pw_mag gk
      rw [HS1.out.len] at e1
      have e2 : k - 1 < 4294967296 := by omega
      rw [pw_succ, Nat.mul_comm 4294967296]
      exact Nat.mul_lt_mul'' e1 e2
    have T4 := Lib.hid t4
    clear t4
    go_wp2_with fail
    refine (plus_any T1 Q1 t1 qn tc qc _ _ _ T4.out (Q4.out.below hbl5) (by omega) (by omega)).mono ?_
    rintro e w6 ⟨v6, rfl, ⟨U1, u1, uc, rfl, u2, u3, u4⟩, hbl6⟩
    have hu1 : u1 ≤ 2000010 := by
      rw [← u4.len]
      refine mag_length_le ?_
      have e1 := lt_pw_mag (gk * (k - 1))
      rw [T4.out.len] at e1
      have e2 := lt_pw_mag (x / gk ^ (k - 1))
      rw [Q4.out.len] at e2
      have e3 := pw_le (show t1 ≤ 2000009 by omega)
      have e4 := pw_le (show qn ≤ 2000009 by omega)
      rw [show pw 2000010 = pw (2000009 + 1) from rfl, pw_succ]
      omega
    have U4 := Lib.hid u4
    clear u4
    have hbl36 : Below wr.heap.size wr w6 := by
      have h34 := hbl3.trans (hbl4.mono hbl3.size)
      have h35 := h34.trans (hbl5.mono h34.size)
      exact h35.trans (hbl6.mono h35.size)
    go_wp2_with fail
    refine (divide_any U1 A2 u1 uc n2 c2 _ k _ U4.out (HB3.out.below hbl36) (by omega) (by omega) (by omega)).mono ?_
    rintro e w7 ⟨v7, u7, rfl, hq7, hr7, hbl7⟩
    obtain ⟨N1, nn, nc, rfl, k2, k3, k4⟩ := hq7
    have hnn : nn ≤ 2000010 := by rw [← U4.out.len] at hu1; rw [← k4.len]; exact Nat.le_trans (mag_len_mono (Nat.div_le_self _ _)) hu1
    have K4 := Lib.hid k4
    clear k4 hr7
    have hbl37 := hbl36.trans (hbl7.mono hbl36.size)
    go_wp2_with fail
    refine (compare_any N1 S1 nn m1 nc d1 _ gk _ K4.out (HS1.out.below hbl37) (by omega) (by omega)).mono ?_
    rintro e w8 ⟨rfl, q8, rfl⟩
    have hge := newton_ge hk1 H1.out hrg hr1
    by_cases hend : gk ≤ (gk * (k - 1) + x / gk ^ (k - 1)) / k
    · have hc : (0 : Int) ≤ cmpN ((gk * (k - 1) + x / gk ^ (k - 1)) / k) gk := by unfold cmpN; rw [if_neg (by omega)]; split <;> omega
      have hgr : Hid (gk = r) := by
        unfold Hid
        rcases Nat.lt_or_ge r gk with h | h
        · have := newton_lt hk1 H2.out h
          omega
        · omega
      generalize cmpN ((gk * (k - 1) + x / gk ^ (k - 1)) / k) gk = cc at *
      clear hend hge
      go_wp2
      go_ret
      refine ⟨_, rfl, ⟨S1, m1, d1, rfl, hd1, hd2, ?_⟩, below_drewN (hbl.trans (hbl37.mono hbl.size)) _⟩
      rw [← hgr.out]
      exact (HS1.out.below hbl37).drewN _
    · have hc : ¬ (0 : Int) ≤ cmpN ((gk * (k - 1) + x / gk ^ (k - 1)) / k) gk := by rw [cmpN_lt (by omega)]; omega
      have hnm : nn ≤ ns := by
        have h5 : nn ≤ m1 := by rw [← K4.out.len, ← HS1.out.len]; exact mag_len_mono (by omega)
        omega
      have HEND := Lib.hid hend
      generalize cmpN ((gk * (k - 1) + x / gk ^ (k - 1)) / k) gk = cc at *
      generalize hnx : (gk * (k - 1) + x / gk ^ (k - 1)) / k = nx at *
      clear hend hnx
      go_wp2
      go_roundg nx
      case measure => have := HEND.out; omega
      case rel => exact ⟨N1, nn, nc, rfl, K4.out, hnm, k2, k3, hge, below_drewN (hbl.trans (hbl37.mono hbl.size)) _, below_drewN (hbl2r.trans (hbl37.mono hbl2r.size)) _⟩
end Go.Proofs.Ytpklphdhigkmmaa
