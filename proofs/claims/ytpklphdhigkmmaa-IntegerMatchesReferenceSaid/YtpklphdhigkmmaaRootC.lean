/-
  Contract of root.
-/
import Derived.Test.YtpklphdhigkmmaaRootB
namespace Go.Proofs.Ytpklphdhigkmmaa
open Go.RowKit

theorem root_ex (k : Nat) (hk : 1 ≤ k) (x : Nat) : ∃ r, r ^ k ≤ x ∧ x < (r + 1) ^ k := by
  induction x with
  | zero => exact ⟨0, by rw [Nat.zero_pow (by omega)]; omega, by simp⟩
  | succ x ih =>
    obtain ⟨r, h1, h2⟩ := ih
    by_cases h : x + 1 < (r + 1) ^ k
    · exact ⟨r, by omega, h⟩
    · refine ⟨r + 1, by omega, ?_⟩
      have : (r + 1) ^ k < (r + 1 + 1) ^ k := Nat.pow_lt_pow_left (by omega) (by omega)
      omega
theorem root_uniq {k x r s : Nat} (h1 : r ^ k ≤ x) (h2 : x < (r + 1) ^ k) (h3 : s ^ k ≤ x) (h4 : x < (s + 1) ^ k) : r = s :=
  Nat.le_antisymm ((root_le h3 h4).1 h1) ((root_le h1 h2).1 h3)

theorem bl_le_words {x n : Nat} (h : (mag x).length = n) : bl x ≤ 32 * n := by
  rw [bl_lt, ← pw_two]
  have := lt_pw_mag x
  rwa [h] at this
theorem words_le_bits {x b : Nat} (h : x < 2 ^ b) : (mag x).length ≤ b / 32 + 1 := by
  refine mag_length_le (Nat.lt_of_lt_of_le h ?_)
  rw [pw_two]
  exact Nat.pow_le_pow_right (by omega) (by omega)

/-- A root has no more bits than the size that is reckoned. -/
theorem root_size {x k r : Nat} (hk : 1 ≤ k) (h1 : r ^ k ≤ x) : r < 2 ^ ((bl x - 1) / k + 1) := by
  rcases Nat.lt_or_ge r (2 ^ ((bl x - 1) / k + 1)) with h | h
  · exact h
  · exfalso
    have h2 := Nat.pow_le_pow_left h k
    rw [← Nat.pow_mul] at h2
    have h3 := lt_bl x
    have h4 : bl x ≤ ((bl x - 1) / k + 1) * k := by
      have := Nat.div_add_mod (bl x - 1) k
      have := Nat.mod_lt (bl x - 1) (show 0 < k by omega)
      rw [Nat.add_mul, Nat.one_mul, Nat.mul_comm]
      omega
    have := Nat.pow_le_pow_right (n := 2) (by omega) h4
    omega

theorem start_ge {x k r s h : Nat} (h1 : r ^ k ≤ x) (h2 : x / 2 ^ (k * h) < (s + 1) ^ k) : r ≤ (s + 1) * 2 ^ h := by
  rcases Nat.lt_or_ge ((s + 1) * 2 ^ h) r with hl | hl
  · exfalso
    have h3 := Nat.pow_le_pow_left (Nat.le_of_lt hl) k
    rw [Nat.mul_pow, ← Nat.pow_mul, Nat.mul_comm h k] at h3
    rw [Nat.div_lt_iff_lt_mul (Nat.pow_pos (by omega))] at h2
    omega
  · exact hl
theorem start_le {x k r s h : Nat} (h1 : s ^ k ≤ x / 2 ^ (k * h)) (h2 : x < (r + 1) ^ k) : (s + 1) * 2 ^ h ≤ r + 2 ^ h := by
  have h3 : (s * 2 ^ h) ^ k ≤ x := by
    rw [Nat.mul_pow, ← Nat.pow_mul, Nat.mul_comm h k]
    exact (Nat.le_div_iff_mul_le (Nat.pow_pos (by omega))).1 h1
  have h4 : s * 2 ^ h ≤ r := by
    rcases Nat.lt_or_ge r (s * 2 ^ h) with hl | hl
    · have := Nat.pow_le_pow_left (show r + 1 ≤ s * 2 ^ h from hl) k
      omega
    · exact hl
  rw [Nat.add_mul, Nat.one_mul]
  omega

theorem tdiv_small {a : Int} (h : a ≤ 1) : a.tdiv 2 ≤ 0 := by
  rcases Int.lt_or_le a 0 with h0 | h0
  · have : a.tdiv 2 = -((-a).tdiv 2) := by rw [Int.neg_tdiv, Int.neg_neg]
    rw [this, Int.tdiv_eq_ediv_of_nonneg (by omega)]
    omega
  · rw [Int.tdiv_eq_ediv_of_nonneg h0]; omega

set_option maxHeartbeats 4000000 in
set_option maxRecDepth 100000 in
theorem root_any (k : Nat) (zk : Int) (hzk : zk = (k : Int)) (hk1 : 1 ≤ k) (hz : zk ≤ 9223372036854775807) (x : Nat) : ∀ (A : Option Addr) (n c r : Nat) (w : World), Wd w A n (mag x) → n ≤ c → c ≤ 9223372036854775807 → n ≤ 20000 →
    r ^ k ≤ x → x < (r + 1) ^ k → Calls Try.prog 97 #[.slice A n c, .int .i64 zk] w (RetMg r w) := by
  induction x using Nat.strongRecOn with
  | ind x ih =>
  intro A n c r w ha hnc hc hn h1 h2
  have HA := Lib.hid ha
  have H1 := Lib.hid h1
  have H2 := Lib.hid h2
  have HZK := Lib.hid hzk
  have IH := Lib.hid ih
  have hz0 : 1 ≤ zk := by omega
  have hbw := bl_le_words ha.len
  have hblx := lt_bl x
  have HBLX := Lib.hid hblx
  clear ha h1 h2 ih hblx
  by_cases hx0 : x = 0
  · have hr0 : Hid (r = 0) := by
      unfold Hid
      refine root_uniq H1.out H2.out (s := 0) ?_ ?_
      · rw [Nat.zero_pow (by omega)]; omega
      · rw [hx0]; simp
    have hb0 : bl x = 0 := by rw [hx0]; exact bl_zero
    clear hx0
    go_enter Try.func97, Try.ntmps97
    go_wp2_with fail
    refine (bitLength_any A n c x w HA.out (by omega)).mono ?_
    rintro e w1 ⟨rfl, rfl⟩
    rw [hb0]
    go_wp2
    go_ret
    exact ⟨_, rfl, by rw [hr0.out]; exact Mg.zero _ _ _ (by omega), Below.refl _ _⟩
  · have hb1 : 1 ≤ bl x := by
      rcases Nat.eq_zero_or_pos (bl x) with e | e
      · have := HBLX.out; rw [e] at this; simp at this; exact absurd this hx0
      · exact e
    by_cases hbk : bl x ≤ k
    · have hr1 : Hid (r = 1) := by
        unfold Hid
        refine root_uniq H1.out H2.out (s := 1) ?_ ?_
        · rw [Nat.one_pow]; omega
        · exact Nat.lt_of_lt_of_le HBLX.out (Nat.pow_le_pow_right (by omega) hbk)
      have hbz : ((bl x : Nat) : Int) ≤ zk := by omega
      generalize hbb : bl x = bb at *
      have HBB := Lib.hid hbb
      have ht0 : (((bb : Nat) : Int) == 0) = false := by simp; omega
      clear hbb hbk hx0 hzk
      go_enter Try.func97, Try.ntmps97
      go_wp2_with fail
      refine (bitLength_any A n c x w HA.out (by omega)).mono ?_
      rintro e w1 ⟨rfl, rfl⟩
      rw [HBB.out]
      go_wp2
      go_ret
      exact ⟨_, rfl, Mg.blk (n := 1) (Blk.one (a := 1) (by omega) (by omega)) rfl (by omega) (by rw [hr1.out]; exact mag_one1.symm), (Below.refl _ _).alloc (Nat.le_refl _) _⟩
    · have hkb : k < 640000 := by omega
      have hz1 : zk < 640000 := by omega
      have hzb : zk < ((bl x : Nat) : Int) := by omega
      have hrs := root_size hk1 H1.out
      have hdm := Nat.div_add_mod (bl x - 1) k
      have hsk : k * ((bl x - 1) / k) ≤ bl x - 1 := Nat.mul_div_le _ _
      have hszb : (bl x - 1) / k ≤ bl x := Nat.le_trans (Nat.div_le_self _ _) (by omega)
      have hbk0 : 1 ≤ bl k := by
        rcases Nat.eq_zero_or_pos (bl k) with e | e
        · have := lt_bl k; rw [e] at this; simp at this; omega
        · exact e
      have hbk20 : bl k ≤ 20 := (bl_lt k 20).2 (by omega)
      have hr1 : 1 ≤ r := by
        rcases Nat.eq_zero_or_pos r with e | e
        · have := H2.out; rw [e] at this; simp at this; omega
        · exact e
      have hszI : (((bl x : Nat) : Int) - 1) / zk = (((bl x - 1) / k : Nat) : Int) := by rw [hzk, Int.natCast_ediv]; congr 1; omega
      generalize hsz : (bl x - 1) / k = sz at *
      generalize hbb : bl x = bb at *
      generalize hbbk : bl k = bk at *
      have HBB := Lib.hid hbb
      have HBBK := Lib.hid hbbk
      have HRS := Lib.hid hrs
      have ht0 : (((bb : Nat) : Int) == 0) = false := by simp; omega
      have hk64 : IntKind.u64.wrap zk = zk := IntWalk.u64_in _ (by omega)
      have hxpos : 0 < x := Nat.pos_of_ne_zero hx0
      clear hsz hbb hbbk hrs hdm hx0 hzk
      by_cases hhalf : (sz : Int) + 1 - bk ≤ 1
      · have hle0 := tdiv_small hhalf
        go_enter Try.func97, Try.ntmps97
        go_wp2_with fail
        refine (bitLength_any A n c x w HA.out (by omega)).mono ?_
        rintro e w1 ⟨rfl, rfl⟩
        rw [HBB.out]
        go_wp2_with fail
        refine (HZK.out ▸ (wordsOf_any k _ (by omega)) : Calls Try.prog 112 #[.int .u64 zk] w (RetMg k w)).mono ?_
        rintro e w1 ⟨v1, rfl, ⟨A1, n1, c1, rfl, a1, a2, a3⟩, hbl1⟩
        have hn1 : n1 ≤ 1 := by rw [← a3.len]; exact mag_length_le (by rw [pw_one]; omega)
        have A3 := Lib.hid a3
        clear a3
        go_wp2_with fail
        refine (bitLength_any A1 n1 c1 k _ A3.out (by omega)).mono ?_
        rintro e w2 ⟨rfl, rfl⟩
        rw [HBBK.out]
        go_wp2_with fail
        refine (shortRoot_any A n c x k (sz + 1) r zk _ w1 (HA.out.below hbl1) (by omega) HZK.out (by omega) hk1 (by omega) (by omega) H1.out H2.out HRS.out).mono ?_
        rintro e w3 ⟨v3, rfl, hm3, hbl3⟩
        have HM3 := Lib.hid hm3
        clear hm3
        go_wp2
        go_ret
        exact ⟨_, rfl, HM3.out, hbl1.trans (hbl3.mono hbl1.size)⟩
      · obtain ⟨h, hh⟩ : ∃ h, h = (sz + 1 - bk) / 2 := ⟨_, rfl⟩
        have hh1 : 1 ≤ h := by omega
        have hh2 : h ≤ sz := by omega
        have hhI : ((sz : Int) + 1 - bk) / 2 = (h : Int) := by omega
        have hge2 : (0 : Int) ≤ (sz : Int) + 1 - bk := by omega
        obtain ⟨kh, hkh⟩ : ∃ kh, kh = k * h := ⟨_, rfl⟩
        have hkhI : zk * (h : Int) = (kh : Int) := by rw [HZK.out, hkh, Int.natCast_mul]
        have hkhb : kh ≤ bb := by
          rw [hkh]
          exact Nat.le_trans (Nat.mul_le_mul_left k hh2) (by omega)
        have hkh1 : 1 ≤ kh := by rw [hkh]; exact Nat.mul_pos (by omega) (by omega)
        obtain ⟨r2, hr21, hr22⟩ := root_ex k hk1 (x / 2 ^ kh)
        have hylt : x / 2 ^ kh < x := Nat.div_lt_self hxpos (Nat.lt_of_lt_of_le (show 1 < 2 ^ 1 by omega) (Nat.pow_le_pow_right (by omega) hkh1))
        have hsge : r ≤ (r2 + 1) * 2 ^ h := start_ge H1.out (by rw [← hkh]; exact hr22)
        have hsle : (r2 + 1) * 2 ^ h ≤ r + 2 ^ h := start_le (by rw [← hkh]; exact hr21) H2.out
        have hs0 : (r2 + 1) * 2 ^ h < 2 ^ (sz + 2) := by
          have e1 := HRS.out
          have e2 : 2 ^ h ≤ 2 ^ (sz + 1) := Nat.pow_le_pow_right (by omega) (by omega)
          rw [show sz + 2 = sz + 1 + 1 from rfl, Nat.pow_succ]
          omega
        have hsl := words_le_bits hs0
        have hr2l : (mag (r2 + 1)).length ≤ 20010 := by
          have e1 : r2 + 1 ≤ (r2 + 1) * 2 ^ h := Nat.le_mul_of_pos_right _ (Nat.pow_pos (by omega))
          have e2 := mag_len_mono e1
          omega
        have hr2l2 : (mag r2).length ≤ 20010 := Nat.le_trans (mag_len_mono (Nat.le_succ r2)) hr2l
        have hnsk : ((sz + 2) / 32 + 1) * k ≤ 9000000 := by
          have e1 : ((sz + 2) / 32 + 1) * k ≤ (sz + 3) * k := Nat.mul_le_mul_right k (by omega)
          have e2 : (sz + 3) * k = k * sz + 3 * k := by rw [Nat.add_mul, Nat.mul_comm sz k]
          omega
        have HSGE := Lib.hid hsge
        have HR21 := Lib.hid hr21
        have HR22 := Lib.hid hr22
        have HYLT := Lib.hid hylt
        have HNSK := Lib.hid hnsk
        clear hh hkh hsge hsle hs0 hr21 hr22 hylt hnsk hsk
        have hgt0 : ¬ (h : Int) ≤ 0 := by omega
        go_enter Try.func97, Try.ntmps97
        go_wp2_with fail
        refine (bitLength_any A n c x w HA.out (by omega)).mono ?_
        rintro e w1 ⟨rfl, rfl⟩
        rw [HBB.out]
        go_wp2_with fail
        refine (HZK.out ▸ (wordsOf_any k _ (by omega)) : Calls Try.prog 112 #[.int .u64 zk] w (RetMg k w)).mono ?_
        rintro e w1 ⟨v1, rfl, ⟨A1, n1, c1, rfl, a1, a2, a3⟩, hbl1⟩
        have hn1 : n1 ≤ 1 := by rw [← a3.len]; exact mag_length_le (by rw [pw_one]; omega)
        have A3 := Lib.hid a3
        clear a3
        go_wp2_with fail
        refine (bitLength_any A1 n1 c1 k _ A3.out (by omega)).mono ?_
        rintro e w2 ⟨rfl, rfl⟩
        rw [HBBK.out]
        go_wp2_with fail
        refine (shiftRight_any A n c kh (mag x) _ w1 (HA.out.below hbl1) (by omega) (by omega) rfl).mono ?_
        rintro e w2 ⟨v2, rfl, ⟨A2, n2, c2, rfl, b1, b2, b3⟩, hbl2⟩
        rw [val_mag] at b3
        have B3 := Lib.hid b3
        have hn2 : n2 ≤ n := by rw [← b3.len, ← HA.out.len]; exact mag_len_mono (Nat.div_le_self _ _)
        clear b3
        go_wp2_with fail
        refine (IH.out (x / 2 ^ kh) HYLT.out A2 n2 c2 r2 w2 B3.out b1 b2 (by omega) HR21.out HR22.out).mono ?_
        rintro e w3 ⟨v3, rfl, ⟨A4, n4, c4, rfl, d1, d2, d3⟩, hbl3⟩
        have D3 := Lib.hid d3
        have hn4 : n4 ≤ 20010 := by rw [← d3.len]; exact hr2l2
        clear d3
        go_wp2_with fail
        have hone : Blk (w3.alloc (.cells #[.int .u32 1] 50)) w3.heap.size [1] := Blk.one (a := 1) (by omega) rfl
        have hone2 : Wd (w3.alloc (.cells #[.int .u32 1] 50)) (some ⟨w3.heap.size, 0, none⟩) 1 (mag 1) := by rw [mag_one1]; exact hone.whole
        refine (plus_any A4 _ n4 1 c4 1 r2 1 _ (D3.out.alloc _) hone2 (by omega) (by omega)).mono ?_
        rintro e w5 ⟨v5, rfl, ⟨A6, n6, c6, rfl, f1, f2, f3⟩, hbl5⟩
        have F3 := Lib.hid f3
        have hn6 : n6 ≤ 20010 := by rw [← f3.len]; exact hr2l
        clear f3 hone hone2
        go_wp2_with fail
        refine (shiftLeft_any A6 n6 c6 (r2 + 1) h (h : Int) _ F3.out (by omega) (by omega) rfl).mono ?_
        rintro e w6 ⟨v6, rfl, ⟨A7, n7, c7, rfl, g1, g2, g3⟩, hbl6⟩
        have G3 := Lib.hid g3
        have hn7 : n7 ≤ (sz + 2) / 32 + 1 := by rw [← g3.len]; exact hsl
        clear g3
        have hbl56 : Below w1.heap.size w1 w6 := by
          have h23 := hbl2.trans (hbl3.mono hbl2.size)
          have h24 : Below w1.heap.size w1 (w3.alloc (.cells #[.int .u32 1] 50)) := h23.alloc h23.size _
          have h25 := h24.trans (hbl5.mono h24.size)
          exact h25.trans (hbl6.mono h25.size)
        go_wp2_with fail
        refine (newtonRoot_any A A7 n c x k n7 c7 _ r zk w6 ((HA.out.below hbl1).below hbl56) G3.out (by omega) HZK.out hk1 (by omega) (Nat.le_trans (Nat.mul_le_mul_right k hn7) HNSK.out) (by omega) g1 g2 H1.out H2.out hr1 HSGE.out).mono ?_
        rintro e w7 ⟨v7, rfl, hm7, hbl7⟩
        have HM7 := Lib.hid hm7
        clear hm7
        go_wp2
        go_ret
        have h16 := hbl1.trans (hbl56.mono hbl1.size)
        exact ⟨_, rfl, HM7.out, h16.trans (hbl7.mono h16.size)⟩
end Go.Proofs.Ytpklphdhigkmmaa
