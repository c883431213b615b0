/-
  Contract of shiftRight.
-/
import Derived.Test.YtpklphdhigkmmaaMakeD
namespace Go.Proofs.Ytpklphdhigkmmaa
open Go.RowKit

theorem val_drop {a : List Nat} (h : Wds a) (k : Nat) : val (a.drop k) = val a / pw k := by
  rcases Nat.lt_or_ge k a.length with hl | hl
  · have h1 := val_append (a.take k) (a.drop k)
    rw [List.take_append_drop, List.length_take, Nat.min_eq_left (Nat.le_of_lt hl)] at h1
    have h2 := val_take_lt h k
    rw [h1, Nat.add_comm, Nat.mul_add_div (pw_pos k), Nat.div_eq_of_lt h2]; omega
  · rw [List.drop_of_length_le hl]
    have h1 := val_lt h
    have h2 := pw_le hl
    rw [Nat.div_eq_of_lt (by omega)]; rfl

theorem val_front (a : List Nat) : val a = gd a 0 + 4294967296 * gd a 1 + 4294967296 * 4294967296 * val (a.drop 2) := by
  match a with
  | [] => rfl
  | [x] => simp [val, gd]
  | x :: y :: r => simp [val, gd]; omega

theorem shr_word (a : List Nat) {b : Nat} (hb : b < 32) : val a / 2 ^ b % 4294967296 = (gd a 0 + 4294967296 * gd a 1) / 2 ^ b % 4294967296 := by
  have e : 4294967296 = 2 ^ b * 2 ^ (32 - b) := by rw [← Nat.pow_add, show b + (32 - b) = 32 by omega]
  have e2 : 4294967296 * 4294967296 * val (a.drop 2) = 2 ^ b * (4294967296 * (2 ^ (32 - b) * val (a.drop 2))) := by
    rw [Nat.mul_left_comm (2 ^ b), ← Nat.mul_assoc (2 ^ b), ← e, ← Nat.mul_assoc]
  rw [val_front a, e2, Nat.add_mul_div_left _ _ (Nat.pow_pos (by omega)), Nat.add_mul_mod_self_left]

/-- The block of a number shifted right. -/
structure ShrRel (ws : List Nat) (q b n i : Nat) (lo hi : List Nat) : Prop where
  len : lo.length = i
  hilen : hi.length + i = n
  eq : val lo = val ws / pw q / 2 ^ b % pw i

theorem mod_pw_succ (y i : Nat) : y % pw (i + 1) = y % pw i + pw i * (y / pw i % 4294967296) := by
  rw [pw_succ, Nat.mul_comm 4294967296, Nat.mod_mul]

theorem ShrRel.step {ws : List Nat} {q b n i : Nat} {lo hi : List Nat} (hw : Wds ws) (h : ShrRel ws q b n i lo hi) (hi2 : i < n) (hb : b < 32) :
    ∃ u r, hi = u :: r ∧ ShrRel ws q b n (i + 1) (lo ++ [(gd ws (i + q) + 4294967296 * gd ws (i + q + 1)) / 2 ^ b % 4294967296]) r := by
  have h1 := h.hilen
  cases hi with
  | nil => simp at h1; omega
  | cons u r =>
    refine ⟨u, r, rfl, ⟨by rw [List.length_append, h.len]; rfl, by simp at h1; omega, ?_⟩⟩
    rw [val_snoc, h.len, h.eq, mod_pw_succ]
    congr 2
    have e1 : gd ws (i + q) = gd (ws.drop (i + q)) 0 := by rw [gd_eq, gd_eq, List.getElem?_drop, Nat.add_zero]
    have e2 : gd ws (i + q + 1) = gd (ws.drop (i + q)) 1 := by rw [gd_eq, gd_eq, List.getElem?_drop]
    rw [e1, e2, ← shr_word _ hb, val_drop hw, Nat.div_div_eq_div_mul, Nat.div_div_eq_div_mul, Nat.div_div_eq_div_mul, Nat.add_comm i q, pw_add]
    congr 2
    rw [Nat.mul_assoc, Nat.mul_comm (2 ^ b)]

set_option maxHeartbeats 1000000 in
theorem shiftRight_any (A : Option Addr) (n c s : Nat) (ws : List Nat) (z : Int) (w : World) (ha : Wd w A n ws) (hn : n ≤ 100000000) (hs : s ≤ 100000000) (hz : z = s) :
    Calls Try.prog 126 #[.slice A n c, .int .i64 z] w (RetMg (val ws / 2 ^ s) w) := by
  have HA := Lib.hid ha
  clear ha
  obtain ⟨q, b, hb, rfl⟩ : ∃ q b, b < 32 ∧ s = 32 * q + b := ⟨s / 32, s % 32, by omega, by omega⟩
  have hz0 : 0 ≤ z := by omega
  have hz1 : z / 32 = (q : Int) := by omega
  have hz2 : z % 32 = (b : Int) := by omega
  have hmn : min b 64 = b := by omega
  have HZ := Lib.hid hz
  clear hz
  have hfin : Hid (val ws / pw q / 2 ^ b = val ws / 2 ^ (32 * q + b)) := by
    unfold Hid
    rw [pw_two, Nat.div_div_eq_div_mul, ← Nat.pow_add]
  by_cases hqn : n ≤ q
  · have h0 : Hid (val ws / 2 ^ (32 * q + b) = 0) := by
      unfold Hid
      rw [← hfin.out]
      have h1 := val_lt HA.out.wds
      rw [HA.out.len] at h1
      have h2 := pw_le hqn
      have h3 : val ws / pw q = 0 := Nat.div_eq_of_lt (Nat.lt_of_lt_of_le h1 h2)
      rw [h3, Nat.zero_div]
    go_enter Try.func126, Try.ntmps126
    go_wp2
    go_ret
    exact ⟨_, rfl, ⟨none, 0, 0, rfl, Nat.le_refl _, by omega, by rw [h0.out, mag_zero]; exact Wd.nil _ _⟩, Below.refl _ _⟩
  · obtain ⟨N, hN⟩ : ∃ N, n = q + N := ⟨n - q, by omega⟩
    subst hN
    go_enter Try.func126, Try.ntmps126
    go_wp2_with (first
      | (refine wpList_make_blk rfl _ _ _ rfl Try.underlying22 u32_info _ _ _ _ N rfl rfl (by omega) (by omega) (by omega) ?_
         intro w1 hb1 hs1 hbl1
         have HB1 := Lib.hid hb1
         have HS1 := Lib.hid hs1
         clear hb1 hs1))
    go_loopw [25] (fun t wr => ∃ i : Nat, ∃ lo hi, i ≤ N ∧ t = .int .i64 i ∧ ShrRel ws q b N i lo hi ∧ Blk wr w.heap.size (lo ++ hi) ∧ Below w.heap.size w wr)
        (fun t _ => N - (intOf t).toNat)
    case atStart => exact ⟨0, [], List.replicate N 0, Nat.zero_le _, rfl, ⟨rfl, by simp, by rw [pw_zero, Nat.mod_one]; rfl⟩, HB1.out, hbl1⟩
    case round =>
      obtain ⟨i, lo, hi, hi1, rfl, hrel, hblk, hbl⟩ := hrel
      have HR := Lib.hid hrel
      have HBK := Lib.hid hblk
      clear hrel hblk
      by_cases hlt : i < N
      · obtain ⟨ad, rfl, _, hca⟩ := (HA.out.below hbl).cell (show i + q < q + N by omega)
        have h1 := HA.out.wds.getD (i + q)
        have h2 := HA.out.wds.getD (i + q + 1)
        obtain ⟨u, r, hr, hstep⟩ := HR.out.step HA.out.wds hlt hb
        subst hr
        have HST := Lib.hid hstep
        have hpl : lo.length = i := HR.out.len
        have hcell := HBK.out.cell (i := i) (by simp [hpl])
        have hfro := HBK.out.frozen i
        have hor := or_low _ _ h1 h2
        have i0 : (0 : Int) ≤ (i : Int) + q := by omega
        have i1 : (i : Int) + q < q + N := by omega
        generalize ht : gd ws (i + q) + 4294967296 * gd ws (i + q + 1) = t at *
        have HT := Lib.hid ht
        have HPL := Lib.hid hpl
        have ht0 : t < 18446744073709551616 := by omega
        have ht1 : t / 2 ^ b < 18446744073709551616 := Nat.lt_of_le_of_lt (Nat.div_le_self _ _) ht0
        have hdiv : (t : Int) / 2 ^ b = ((t / 2 ^ b : Nat) : Int) := by simp
        generalize hv : t / 2 ^ b = v at *
        have HV := Lib.hid hv
        clear ht hpl hstep hv
        go_wp2
        go_quiet ((go_at_call 114; exact quiet_left (word_any _ _ c ws (i + q + 1 : Int) _ ((HA.out.below hbl).drewN _) (by omega) (by omega))))
        go_wp2
        go_roundw
        case rel =>
          refine ⟨i + 1, lo ++ [v % 4294967296], r, by omega, by go_num, HST.out, ?_, Below.setCell (p := ⟨w.heap.size, i, none⟩) (below_drewN hbl _) (Nat.le_refl _) _⟩
          have hs := (HBK.out.drewN (by assumption)).set_i i (v % 4294967296) (j := (v : Int) % 4294967296) (by omega) (Nat.mod_lt _ (by omega))
          rw [List.set_append_right _ _ (by rw [HPL.out]; omega), HPL.out, Nat.sub_self, List.set_cons_zero] at hs
          simpa using hs
        case measure => simp [intOf]; omega
      · obtain rfl : i = N := by omega
        have hz : hi = [] := List.eq_nil_of_length_eq_zero (by have := HR.out.hilen; omega)
        subst hz
        have hv : Hid (val lo = val ws / 2 ^ (32 * q + b)) := by
          have h1 := HR.out.eq
          have h2 := val_lt HA.out.wds
          rw [HA.out.len, pw_add] at h2
          have h3 : val ws / pw q < pw i := by rwa [Nat.div_lt_iff_lt_mul (pw_pos q), Nat.mul_comm]
          have h4 : val ws / pw q / 2 ^ b < pw i := Nat.lt_of_le_of_lt (Nat.div_le_self _ _) h3
          rw [Nat.mod_eq_of_lt h4, hfin.out] at h1
          exact h1
        have hlen := Lib.hid HR.out.len
        have HBL : Hid (Blk wr w.heap.size lo) := by have := HBK.out; rwa [List.append_nil] at this
        go_wp2_with fail
        refine (trim_any _ i i lo _ (by have := HBL.out.whole; rwa [hlen.out] at this) (by omega) (by omega)).mono ?_
        rintro e w' ⟨p, hp, rfl, ht, rfl⟩
        have HT := Lib.hid ht
        clear ht
        go_wp2
        go_ret
        have h1 := HBL.out.whole.mg (c := i) hp (by rw [hlen.out]; omega) (by omega) HT.out
        rw [hv.out] at h1
        exact ⟨_, rfl, h1, hbl⟩
end Go.Proofs.Ytpklphdhigkmmaa
