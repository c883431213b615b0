/-
  Contract of divideLong.
-/
import Derived.Test.YtpklphdhigkmmaaKnuthC
namespace Go.Proofs.Ytpklphdhigkmmaa
open Go.RowKit

theorem bl_ge {x : Nat} (h : x ≠ 0) : 2 ^ (bl x - 1) ≤ x := by
  rcases Nat.lt_or_ge x (2 ^ (bl x - 1)) with h1 | h1
  · exfalso
    have h2 := (bl_lt x (bl x - 1)).2 h1
    have h3 : bl x ≠ 0 := by
      intro e
      have := lt_bl x
      rw [e] at this
      simp at this
      exact h this
    omega
  · exact h1

/-- The divisor after the shift: as many words as before, and the first bit is 1. -/
theorem norm_shift {y p : Nat} (h : (mag y).length = p + 2) :
    (mag (y * 2 ^ (32 - bl (gd (mag y) (p + 1))))).length = p + 2 ∧ 2147483648 ≤ gd (mag (y * 2 ^ (32 - bl (gd (mag y) (p + 1))))) (p + 1) ∧
    pw (p + 1) * 2 ^ (32 - bl (gd (mag y) (p + 1))) ≤ y * 2 ^ (32 - bl (gd (mag y) (p + 1))) ∧ 1 ≤ bl (gd (mag y) (p + 1)) ∧ bl (gd (mag y) (p + 1)) ≤ 32 := by
  have hc := (mag_can y).2.resolve_left (fun e => by rw [e] at h; simp at h)
  rw [h, show p + 2 - 1 = p + 1 from rfl] at hc
  have h1 := val_split (mag y) (p + 1) (by omega)
  rw [val_mag, List.drop_of_length_le (by omega), val, Nat.mul_zero, Nat.add_zero] at h1
  have h2 := val_take_lt (mag_wds y) (p + 1)
  have h3 := (mag_wds y).getD (p + 1)
  generalize gd (mag y) (p + 1) = t at *
  have h4 := bl_le32 h3
  have h5 := bl_ge hc
  have h6 := lt_bl t
  have h7 : 1 ≤ bl t := by
    rcases Nat.eq_zero_or_pos (bl t) with e | e
    · rw [e] at h6; simp at h6; exact absurd h6 hc
    · exact e
  have e1 : 2 ^ (bl t - 1) * 2 ^ (32 - bl t) = 2147483648 := by rw [← Nat.pow_add, show bl t - 1 + (32 - bl t) = 31 by omega]
  have e2 : 2 ^ bl t * 2 ^ (32 - bl t) = 4294967296 := by rw [← Nat.pow_add, show bl t + (32 - bl t) = 32 by omega]
  have hlow : 2147483648 * pw (p + 1) ≤ y * 2 ^ (32 - bl t) := by
    have : pw (p + 1) * 2 ^ (bl t - 1) ≤ y := Nat.le_trans (Nat.mul_le_mul_left _ h5) (by omega)
    have := Nat.mul_le_mul_right (2 ^ (32 - bl t)) this
    rw [Nat.mul_assoc, e1, Nat.mul_comm] at this
    exact this
  have hhigh : y * 2 ^ (32 - bl t) < pw (p + 2) := by
    have h8 : y < pw (p + 1) * (t + 1) := by rw [Nat.mul_add]; omega
    have h9 : y < pw (p + 1) * 2 ^ bl t := Nat.lt_of_lt_of_le h8 (Nat.mul_le_mul_left _ h6)
    have := Nat.mul_lt_mul_of_pos_right h9 (show 0 < 2 ^ (32 - bl t) from Nat.pow_pos (by omega))
    rw [Nat.mul_assoc, e2] at this
    rw [show pw (p + 2) = pw (p + 1 + 1) from rfl, pw_succ, Nat.mul_comm 4294967296]
    exact this
  have hl1 := mag_length_le hhigh
  have hpos := pw_pos (p + 1)
  have hl2 := @mag_length_lt (y * 2 ^ (32 - bl t)) (p + 1) (by omega)
  have hlen : (mag (y * 2 ^ (32 - bl t))).length = p + 2 := by omega
  refine ⟨hlen, ?_, ?_, h7, h4⟩
  · have h8 := val_split (mag (y * 2 ^ (32 - bl t))) (p + 1) (by omega)
    rw [val_mag, List.drop_of_length_le (by omega), val, Nat.mul_zero, Nat.add_zero] at h8
    have h9 := val_take_lt (mag_wds (y * 2 ^ (32 - bl t))) (p + 1)
    rcases Nat.lt_or_ge (gd (mag (y * 2 ^ (32 - bl t))) (p + 1)) 2147483648 with h10 | h10
    · exfalso
      have : pw (p + 1) * (gd (mag (y * 2 ^ (32 - bl t))) (p + 1) + 1) ≤ pw (p + 1) * 2147483648 := Nat.mul_le_mul_left _ h10
      rw [Nat.mul_add] at this
      omega
    · exact h10
  · refine Nat.mul_le_mul_right _ ?_
    have : pw (p + 1) * 1 ≤ pw (p + 1) * t := Nat.mul_le_mul_left _ (Nat.pos_of_ne_zero hc)
    omega

/-- The long division before the word with the index K - 1 of the quotient is found. -/
structure LongRel (X V N p K : Nat) (xs us qs : List Nat) : Prop where
  ulen : us.length = N + p + 2
  qlen : qs.length = N
  same : us.take K = xs.take K
  eq : val (xs.drop K) = V * val (qs.drop K) + val (us.drop K)
  lt : val (us.drop K) < V

theorem val_drop_cons (a : List Nat) (k : Nat) (h : k < a.length) : val (a.drop k) = gd a k + 4294967296 * val (a.drop (k + 1)) := by
  rw [List.drop_eq_getElem_cons h, val, gd_eq, List.getElem?_eq_getElem h]; rfl

/-- The window of the step has the value of all that is left from k on. -/
theorem LongRel.window {X V N p k : Nat} {xs us qs : List Nat} (h : LongRel X V N p (k + 1) xs us qs) (hk : k < N) (hV : V < pw (p + 2)) :
    val (us.drop (k + p + 3)) = 0 ∧ val ((us.drop k).take (p + 3)) = val (us.drop k) ∧ val (us.drop k) < 4294967296 * V ∨ ¬ Wds us := by
  by_cases hw : Wds us
  · left
    have h1 := val_append ((us.drop (k + 1)).take (p + 2)) ((us.drop (k + 1)).drop (p + 2))
    have hul := h.ulen
    have hlt := h.lt
    rw [List.take_append_drop, List.length_take, List.length_drop, Nat.min_eq_left (by omega), List.drop_drop, show k + 1 + (p + 2) = k + p + 3 by omega] at h1
    have h0 : val (us.drop (k + p + 3)) = 0 := by
      rcases Nat.eq_zero_or_pos (val (us.drop (k + p + 3))) with e | e
      · exact e
      · have := Nat.mul_le_mul_left (pw (p + 2)) e
        omega
    refine ⟨h0, ?_, ?_⟩
    · have h2 := val_append ((us.drop k).take (p + 3)) ((us.drop k).drop (p + 3))
      rw [List.take_append_drop, List.drop_drop, show k + (p + 3) = k + p + 3 by omega, h0] at h2
      omega
    · rw [val_drop_cons us k (by omega)]
      have := hw.getD k
      omega
  · exact .inr hw

theorem LongRel.step {X V N p k : Nat} {xs us qs mid' : List Nat} (h : LongRel X V N p (k + 1) xs us qs) (hk : k < N) (hxl : xs.length = N + p + 2) (h0 : val (us.drop (k + p + 3)) = 0)
    (hl : mid'.length = p + 3) (hm : val mid' = val (us.drop k) % V) : LongRel X V N p k xs (us.take k ++ mid' ++ us.drop (k + p + 3)) (qs.set k (val (us.drop k) / V)) := by
  have hul := h.ulen
  have e1 : (us.take k).length = k := by rw [List.length_take]; omega
  have e2 : (us.take k ++ mid' ++ us.drop (k + p + 3)).drop k = mid' ++ us.drop (k + p + 3) := by
    rw [List.append_assoc, List.drop_append_of_le_length (by omega), List.drop_of_length_le (by omega)]; rfl
  have hV : 0 < V := by have := h.lt; omega
  refine ⟨by rw [List.length_append, List.length_append, e1, hl, List.length_drop]; omega, by rw [List.length_set, h.qlen], ?_, ?_, ?_⟩
  · rw [List.append_assoc, List.take_append_of_le_length (by omega), List.take_take, Nat.min_self]
    have := congrArg (List.take k) h.same
    rwa [List.take_take, List.take_take, Nat.min_eq_left (by omega)] at this
  · rw [e2, val_append, h0, Nat.mul_zero, Nat.add_zero, hm, val_drop_cons xs k (by omega), h.eq]
    have e3 : gd xs k = gd us k := by
      have := congrArg (fun l => gd l k) h.same
      simp only [gd_eq] at this ⊢
      rw [List.getElem?_take_of_lt (by omega), List.getElem?_take_of_lt (by omega)] at this
      exact this.symm
    have e4 : val ((qs.set k (val (us.drop k) / V)).drop k) = val (us.drop k) / V + 4294967296 * val (qs.drop (k + 1)) := by
      rw [val_drop_cons _ k (by rw [List.length_set, h.qlen]; exact hk), List.drop_set_of_lt (by omega)]
      congr 1
      rw [gd_eq, List.getElem?_set_self (by rw [h.qlen]; exact hk)]; rfl
    rw [e3, e4]
    have e5 := val_drop_cons us k (by omega)
    have e6 := Nat.div_add_mod (val (us.drop k)) V
    rw [Nat.mul_add V, ← Nat.mul_assoc V, Nat.mul_comm V 4294967296, Nat.mul_assoc]
    rw [Nat.mul_add]
    omega
  · rw [e2, val_append, h0, Nat.mul_zero, Nat.add_zero, hm]
    exact Nat.mod_lt _ hV

def RetMg2 (x y : Nat) (w : World) (e : Ending) (w' : World) : Prop := ∃ v u, e = .returned (.tuple #[v, u]) ∧ Mg w' v x ∧ Mg w' u y ∧ Below w.heap.size w w'

theorem Blk.padded {w : World} {g : Nat} {ws : List Nat} (h : Blk w g ws) : Wd w (some ⟨g, 0, none⟩) ws.length ws := h.whole

set_option maxHeartbeats 2000000 in
set_option maxRecDepth 100000 in
theorem divideLong_any (A B : Option Addr) (n c p d x y : Nat) (w : World) (ha : Wd w A n (mag x)) (hb : Wd w B (p + 2) (mag y)) (hn : n ≤ 10000000) (hp : p ≤ 10000000) (_ : y ≤ x) (hpn : p + 2 ≤ n) :
    Calls Try.prog 113 #[.slice A n c, .slice B (p + 2) d] w (RetMg2 (x / y) (x % y) w) := by
  obtain ⟨hn1, hn2, hn3, hn4, hn5⟩ := norm_shift hb.len
  have hcb := hb.cells (by omega)
  obtain ⟨bb, bo, rfl, _, hcb⟩ := hcb
  have c1 := hcb (p + 1) (by omega)
  have b1 := (mag_wds y).getD (p + 1)
  have HA := Lib.hid ha
  have HB := Lib.hid hb
  have HN1 := Lib.hid hn1
  generalize hbeta : bl (gd (mag y) (p + 1)) = beta at *
  have HBETA := Lib.hid hbeta
  clear ha hb hcb hn1 hbeta
  have i0 : (0 : Int) ≤ (p : Int) + 1 := by omega
  have i1 : (p : Int) + 1 < (p : Int) + 2 := by omega
  have i7 : ((p : Int) + 1).toNat = p + 1 := by omega
  go_enter Try.func113, Try.ntmps113
  go_wp2_with fail
  refine (bits_any _ _ b1).mono ?_
  rintro e w' ⟨rfl, rfl⟩
  rw [HBETA.out]
  go_wp2_with fail
  refine (shiftLeft_any _ (p + 2) d y (32 - beta) _ _ HB.out (by omega) (by omega) (by omega)).mono ?_
  rintro e w1 ⟨v, rfl, ⟨Av, nv, cv, rfl, hnv, hcv, hv⟩, hbl1⟩
  obtain rfl : nv = p + 2 := by rw [← hv.len]; exact HN1.out
  have HV := Lib.hid hv
  clear hv
  go_wp2_with (first
    | (refine wpList_make_blk rfl _ _ _ rfl Try.underlying22 u32_info _ _ _ _ (n + 1) rfl rfl (by omega) (by omega) (by omega) ?_
       intro w2 hb2 hs2 hbl2
       have HB2 := Lib.hid hb2
       have HS2 := Lib.hid hs2
       clear hb2 hs2))
  refine (shiftLeft_any _ n c x (32 - beta) _ _ (((HA.out.below hbl1).below hbl2)) (by omega) (by omega) (by omega)).mono ?_
  rintro e w3 ⟨v3, rfl, ⟨A3, n3, c3, rfl, hn3c, hc3, h3⟩, hbl3⟩
  have hX := lt_pw_mag x
  rw [HA.out.len] at hX
  have hXX : x * 2 ^ (32 - beta) < pw (n + 1) := by
    have h1 : 2 ^ (32 - beta) ≤ 4294967296 := Nat.pow_le_pow_right (n := 2) (by omega) (show 32 - beta ≤ 32 by omega)
    have h2 := Nat.mul_lt_mul_of_lt_of_le hX h1 (by omega)
    rw [pw_succ, Nat.mul_comm 4294967296]
    exact h2
  have hn3le : n3 ≤ n + 1 := by rw [← h3.len]; exact mag_length_le hXX
  have HX := Lib.hid hX
  have HXX := Lib.hid hXX
  have H3 := Lib.hid h3
  have hbl13 : Below w1.heap.size w1 w3 := hbl2.trans (hbl3.mono hbl2.size)
  have hb3 : Blk w3 w1.heap.size (List.replicate (n + 1) 0) := HB2.out.below hbl3 (by rw [HS2.out]; omega)
  have HB3 := Lib.hid hb3
  clear hX hXX h3 hb3
  go_wp2_with (first
    | (refine wpList_copy_blk rfl _ _ _ _ rfl Try.underlying22 u32_size w1.heap.size 0 (n + 1) (n + 1) A3 n3 c3 rfl rfl _ _ HB3.out H3.out hn3le (by simp; omega) w1.heap.size w1 hbl13 (Nat.le_refl _) ?_
       intro w4 hb4 hbl4
       have HB4 := Lib.hid hb4
       clear hb4)
    | (refine wpList_make_blk rfl _ _ _ rfl Try.underlying22 u32_info _ _ _ _ (n - p - 1) rfl rfl (by omega) (by omega) (by omega) ?_
       intro w5 hb5 hs5 hbl5
       have HB5 := Lib.hid hb5
       have HS5 := Lib.hid hs5
       clear hb5 hs5))
  obtain ⟨N, hN⟩ : ∃ N, N = n - p - 1 := ⟨_, rfl⟩
  have hN1 : 1 ≤ N := by omega
  have hN2 : n + 1 = N + p + 2 := by omega
  obtain ⟨xs, hxs⟩ : ∃ xs, xs = splice (List.replicate (n + 1) 0) 0 (mag (x * 2 ^ (32 - beta))) := ⟨_, rfl⟩
  have hxv : Hid (val xs = x * 2 ^ (32 - beta) ∧ xs.length = n + 1) := by
    unfold Hid
    rw [hxs]
    have hle := hn3le
    rw [← H3.out.len] at hle
    refine ⟨?_, by rw [length_splice _ _ _ (by simpa using hle)]; simp⟩
    simp only [splice, List.take_zero, List.nil_append, Nat.zero_add]
    rw [val_append, val_mag, List.drop_replicate, val_replicate]
    omega
  have hb6 : Blk w5 w1.heap.size xs := by
    have h := HB4.out.below hbl5 (HB4.out.lt)
    rw [hxs]; exact h
  have HB6 := Lib.hid hb6
  have HXS := Lib.hid hxs
  have hgq : w1.heap.size < w4.heap.size := HB4.out.lt
  have hwx : Wds xs := hb6.2
  have hV : y * 2 ^ (32 - beta) < pw (p + 2) := by
    have := lt_pw_mag (y * 2 ^ (32 - beta))
    rwa [HN1.out] at this
  have HVV := Lib.hid hV
  have hst : Hid (LongRel (x * 2 ^ (32 - beta)) (y * 2 ^ (32 - beta)) N p N xs xs (List.replicate N 0)) := by
    refine ⟨by rw [hxv.out.2]; omega, by simp, rfl, by simp [val], ?_⟩
    rw [val_drop hwx, hxv.out.1, Nat.div_lt_iff_lt_mul (pw_pos N)]
    have h1 := Nat.mul_lt_mul_of_pos_right HX.out (show 0 < 2 ^ (32 - beta) from Nat.pow_pos (by omega))
    rw [show n = (p + 1) + N by omega, pw_add, Nat.mul_right_comm] at h1
    exact Nat.lt_of_lt_of_le h1 (Nat.mul_le_mul_right _ hn3)
  rw [← hN] at HB5
  rw [← hN]
  have hbl15 : Below w1.heap.size w1 w5 := hbl4.trans (hbl5.mono (by omega))
  have hNn : N + p ≤ 10000000 := by omega
  clear hb6 hxs hV hN
  rw [hN2]
  go_loopw [41] (fun t wr => ∃ i : Nat, ∃ us qs, i ≤ N ∧ t = .int .i64 i ∧ LongRel (x * 2 ^ (32 - beta)) (y * 2 ^ (32 - beta)) N p (N - i) xs us qs ∧ Blk wr w1.heap.size us ∧ Blk wr w4.heap.size qs ∧ Below w1.heap.size w1 wr)
      (fun t _ => N - (intOf t).toNat)
  case atStart => exact ⟨0, xs, List.replicate N 0, Nat.zero_le _, rfl, hst.out, HB6.out, HB5.out, hbl15⟩
  case round =>
    obtain ⟨i, us, qs, hi, rfl, hrel, hbu, hbq, hblr⟩ := hrel
    have HR := Lib.hid hrel
    have HBU := Lib.hid hbu
    have HBQ := Lib.hid hbq
    clear hrel hbu hbq
    by_cases hlt : i < N
    · obtain ⟨k, hk⟩ : ∃ k, N - i = k + 1 := ⟨N - i - 1, by omega⟩
      have hkN : k < N := by omega
      have hki : (N : Int) - 1 - (i : Int) = (k : Int) := by omega
      have hrk := HR.out
      rw [hk] at hrk
      obtain ⟨hw0, hw1, hw2⟩ := (hrk.window hkN HVV.out).resolve_right (fun h => h HBU.out.2)
      have hul := hrk.ulen
      have hsplit : us = us.take k ++ (us.drop k).take (p + 3) ++ us.drop (k + p + 3) := by
        rw [show us.drop (k + p + 3) = (us.drop k).drop (p + 3) by rw [List.drop_drop, Nat.add_assoc], List.append_assoc, List.take_append_drop, List.take_append_drop]
      have hb7 : Blk wr w1.heap.size (us.take k ++ (us.drop k).take (p + 3) ++ us.drop (k + p + 3)) := by rw [← hsplit]; exact HBU.out
      have e1 : (us.take k).length = k := by rw [List.length_take]; omega
      have e2 : ((us.drop k).take (p + 3)).length = p + 3 := by rw [List.length_take, List.length_drop]; omega
      have hvr := HV.out.below hblr
      have hne : ∀ ad, Av = some ad → 0 < p + 2 → ad.block ≠ w1.heap.size := fun ad e h0 => by
        obtain ⟨ad', e', hlt', _⟩ := HV.out.2.2 h0
        rw [e] at e'; injection e' with e'
        rw [e']; omega
      have HK := Lib.hid hk
      have HRK := Lib.hid hrk
      have HB7 := Lib.hid hb7
      have E1 := Lib.hid e1
      have E2 := Lib.hid e2
      have HVR := Lib.hid hvr
      have HNE := Lib.hid hne
      have HW0 := Lib.hid hw0
      have HW1 := Lib.hid hw1
      have HW2 := Lib.hid hw2
      clear hk hrk hsplit hb7 e1 e2 hvr hne hw0 hw1 hw2 hul
      have j0 : ¬ (N + p + 2 = k) := by omega
      have j1 : (0 : Int) ≤ (k : Int) := by omega
      have j2 : (k : Int) ≤ (k : Int) + ((p : Int) + 2) + 1 := by omega
      have j3 : (k : Int) + ((p : Int) + 2) + 1 ≤ (N : Int) + p + 2 := by omega
      have j4 : (k : Int) < N := by omega
      go_wp2_with fail
      rw [show k + (p + 2) + 1 - k = p + 3 by omega]
      refine (divideStep_any w1.heap.size k (us.take k) ((us.drop k).take (p + 3)) (us.drop (k + p + 3)) Av p (N + p + 2 - k) cv _ wr HB7.out E1.out E2.out HVR.out HNE.out (by omega) (by omega) hn2 (by rw [HW1.out, val_mag]; exact HW2.out)).mono ?_
      rintro e w6 ⟨mid', rfl, hml, hmv, hb8, hon, hs8⟩
      rw [HW1.out, val_mag] at hmv
      rw [HW1.out, val_mag]
      rw [E2.out] at hml
      have hqb : val (us.drop k) / (y * 2 ^ (32 - beta)) < 4294967296 := by
        rw [Nat.div_lt_iff_lt_mul (by have := HRK.out.lt; omega)]; exact HW2.out
      have hst2 := Lib.hid (HRK.out.step hkN (by rw [hxv.out.2]; omega) HW0.out hml hmv)
      generalize hqk : val (us.drop k) / (y * 2 ^ (32 - beta)) = qk at *
      have hbq6 : Blk w6 w4.heap.size qs := hon.far (by omega) HBQ.out
      have hcell := hbq6.cell (i := k) (by rw [HRK.out.qlen]; exact hkN)
      have hfro := hbq6.frozen k
      have HB8 := Lib.hid hb8
      have HBQ6 := Lib.hid hbq6
      have hbl6 : Below w1.heap.size w1 w6 := hblr.trans (hon.below (Nat.le_refl _) hblr.size)
      clear hml hmv hb8 hbq6 hs8 hqk
      go_wp2
      go_roundw
      case rel =>
        refine ⟨i + 1, _, qs.set k qk, by omega, by go_num, ?_, HB8.out.far (by simp; omega) _, HBQ6.out.set_ k qk hqb, hbl6.setCell (by simp; omega) _⟩
        rw [show N - (i + 1) = k by omega]
        exact hst2.out
      case measure => simp [intOf]; omega
    · obtain rfl : i = N := by omega
      have hfin := HR.out
      rw [Nat.sub_self] at hfin
      have h1 := hfin.eq
      have h2 := hfin.lt
      rw [List.drop_zero, List.drop_zero, List.drop_zero, hxv.out.1] at h1
      rw [List.drop_zero] at h2
      have hs0 : 0 < 2 ^ (32 - beta) := Nat.pow_pos (by omega)
      have hd := Nat.div_add_mod (x * 2 ^ (32 - beta)) (y * 2 ^ (32 - beta))
      have hm := Nat.mod_lt (x * 2 ^ (32 - beta)) (show 0 < y * 2 ^ (32 - beta) by omega)
      have hquo : Hid (val qs = x / y ∧ val us / 2 ^ (32 - beta) = x % y) := by
        have e1 : val qs = x * 2 ^ (32 - beta) / (y * 2 ^ (32 - beta)) := by
          rw [h1, Nat.mul_add_div (by omega), Nat.div_eq_of_lt h2, Nat.add_zero]
        have e2 : val us = x * 2 ^ (32 - beta) % (y * 2 ^ (32 - beta)) := by
          rw [h1, Nat.mul_add_mod, Nat.mod_eq_of_lt h2]
        refine ⟨by rw [e1, Nat.mul_div_mul_right _ _ hs0], ?_⟩
        rw [e2, Nat.mul_mod_mul_right, Nat.mul_div_cancel _ hs0]
      have hql := Lib.hid hfin.qlen
      have hul := Lib.hid hfin.ulen
      clear hfin h1 h2 hd hm
      go_wp2_with fail
      refine (trim_any _ i i qs _ (by have := HBQ.out.whole; rwa [hql.out] at this) (by omega) (by omega)).mono ?_
      rintro e w' ⟨q, hq, rfl, ht, rfl⟩
      have hmq := Lib.hid (HBQ.out.whole.mg (c := i) hq (by rw [hql.out]; omega) (by omega) ht)
      clear ht
      go_wp2_with fail
      refine (shiftRight_any _ (i + p + 2) (i + p + 2) (32 - beta) us _ _ (by have := HBU.out.whole; rwa [hul.out] at this) (by omega) (by omega) (by omega)).mono ?_
      rintro e w7 ⟨v7, rfl, hm7, hbl7⟩
      have hmq7 := Lib.hid (hmq.out.below hbl7)
      have HM7 := Lib.hid hm7
      clear hm7
      go_wp2
      go_ret2
      refine ⟨_, _, rfl, ?_, ?_, (hbl1.trans (hblr.mono hbl1.size)).trans (hbl7.mono (Nat.le_trans hbl1.size hblr.size))⟩
      · rw [← hquo.out.1]; exact hmq7.out
      · rw [← hquo.out.2]; exact HM7.out
end Go.Proofs.Ytpklphdhigkmmaa
