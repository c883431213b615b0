/-
  Contracts of compare and bitLength, for slices of at most 2^40 words.
-/
import Derived.Test.YtpklphdhigkmmaaLeafB
namespace Go.Proofs.Ytpklphdhigkmmaa
open Go.RowKit

/-- How two numbers compare. -/
def cmpN (x y : Nat) : Int := if x < y then -1 else if y < x then 1 else 0

theorem val_split (a : List Nat) (p : Nat) (hp : p < a.length) : val a = val (a.take p) + pw p * gd a p + pw (p + 1) * val (a.drop (p + 1)) := by
  have h1 := val_append (a.take (p + 1)) (a.drop (p + 1))
  rw [List.take_append_drop, val_take_succ, List.length_take, Nat.min_eq_left (by omega)] at h1
  exact h1
theorem drop_same {a b : List Nat} {n p : Nat} (ha : a.length = n) (hb : b.length = n) (h : ∀ j, p ≤ j → j < n → gd a j = gd b j) : a.drop p = b.drop p := by
  apply List.ext_getElem (by simp [ha, hb])
  intro i h1 h2
  have hi : p + i < n := by rw [List.length_drop, ha] at h1; omega
  have := h (p + i) (by omega) hi
  rw [gd_eq, gd_eq, List.getElem?_eq_getElem (by omega), List.getElem?_eq_getElem (by omega)] at this
  simpa using this
theorem less_at {a b : List Nat} {n p : Nat} (wa : Wds a) (ha : a.length = n) (hb : b.length = n) (hp : p < n) (h : ∀ j, p + 1 ≤ j → j < n → gd a j = gd b j) (hlt : gd a p < gd b p) :
    val a < val b := by
  rw [val_split a p (by omega), val_split b p (by omega), drop_same ha hb h]
  have h1 := val_take_lt wa p
  have h2 : pw p * (gd a p + 1) ≤ pw p * gd b p := Nat.mul_le_mul_left _ hlt
  rw [Nat.mul_add] at h2
  omega
theorem mag_lt_of_length {x y : Nat} (h : (mag x).length < (mag y).length) : x < y := by
  rcases Nat.lt_or_ge x y with h1 | h1
  · exact h1
  · exfalso
    have h2 := lt_pw_mag x
    have h3 : y < pw (mag x).length := by omega
    have := mag_length_le h3
    omega
theorem cmpN_lt {x y : Nat} (h : x < y) : cmpN x y = -1 := by unfold cmpN; rw [if_pos h]
theorem cmpN_gt {x y : Nat} (h : y < x) : cmpN x y = 1 := by unfold cmpN; rw [if_neg (by omega), if_pos h]
theorem cmpN_eq {x y : Nat} (h : x = y) : cmpN x y = 0 := by unfold cmpN; rw [if_neg (by omega), if_neg (by omega)]
theorem cmpN_range (x y : Nat) : cmpN x y = -1 ∨ cmpN x y = 0 ∨ cmpN x y = 1 := by unfold cmpN; split <;> (try split) <;> simp

def SameFrom (la lb : List Nat) (n k : Nat) : Prop := ∀ j, n - k ≤ j → j < n → gd la j = gd lb j

set_option maxHeartbeats 800000 in
theorem compare_any (A B : Option Addr) (n m c d x y : Nat) (w : World) (ha : Wd w A n (mag x)) (hb : Wd w B m (mag y)) (hn : n ≤ 1099511627776) (hm : m ≤ 1099511627776) :
    Calls Try.prog 90 #[.slice A n c, .slice B m d] w fun e w' => e = .returned (.int .i64 (cmpN x y)) ∧ ∃ q, w' = w.drewN q := by
  have HA := Lib.hid ha
  have HB := Lib.hid hb
  clear ha hb
  by_cases hnm : n = m
  · subst hnm
    have ht : ((n : Int) != (n : Int)) = false := by simp
    go_enter Try.func90, Try.ntmps90
    go_wp2
    go_loopw [22] (fun t wr => ∃ k q : Nat, k ≤ n ∧ t = .int .i64 k ∧ wr = w.drewN q ∧ SameFrom (mag x) (mag y) n k) (fun t _ => n - (intOf t).toNat)
    case atStart => exact ⟨0, 0, Nat.zero_le _, rfl, rfl, fun j h1 h2 => by omega⟩
    case round =>
      obtain ⟨k, q, hk, rfl, rfl, hs⟩ := hrel
      have HS := Lib.hid hs
      clear hs
      by_cases hlt : k < n
      · obtain ⟨ad, rfl, _, hca⟩ := HA.out.cell (show n - 1 - k < n by omega)
        obtain ⟨bd, rfl, _, hcb⟩ := HB.out.cell (show n - 1 - k < n by omega)
        have i0 : (0 : Int) ≤ (n : Int) - 1 - k := by omega
        have i1 : (n : Int) - 1 - k < n := by omega
        have i2 : (0 : Int) ≤ (n : Int) - 1 := by omega
        have h3 : gd (mag x) (n - 1 - k) < gd (mag y) (n - 1 - k) → Hid (cmpN x y = -1) := fun h =>
          cmpN_lt (by
            have := less_at (mag_wds x) HA.out.len HB.out.len (show n - 1 - k < n by omega) (fun j h1 h2 => HS.out j (by omega) h2) h
            rwa [val_mag, val_mag] at this)
        have h4 : gd (mag y) (n - 1 - k) < gd (mag x) (n - 1 - k) → Hid (cmpN x y = 1) := fun h =>
          cmpN_gt (by
            have := less_at (mag_wds y) HB.out.len HA.out.len (show n - 1 - k < n by omega) (fun j h1 h2 => (HS.out j (by omega) h2).symm) h
            rwa [val_mag, val_mag] at this)
        rcases Nat.lt_trichotomy (gd (mag x) (n - 1 - k)) (gd (mag y) (n - 1 - k)) with h5 | h5 | h5
        · have h6 := h3 h5
          clear h3 h4
          go_wp2
          go_quiet (fail)
          go_wp2
          go_ret
          exact ⟨by rw [h6.out]; rfl, _, rfl⟩
        · have h7 : Hid (SameFrom (mag x) (mag y) n (k + 1)) := fun j h1 h2 => by
            by_cases e : j = n - 1 - k
            · rw [e]; exact h5
            · exact HS.out j (by omega) h2
          have h8 : ¬ gd (mag x) (n - 1 - k) < gd (mag y) (n - 1 - k) := by omega
          have h9 : ¬ gd (mag y) (n - 1 - k) < gd (mag x) (n - 1 - k) := by omega
          clear h3 h4 h5
          go_wp2
          go_quiet (fail)
          go_wp2
          go_roundw
          case rel => exact ⟨k + 1, _, by omega, by go_num, rfl, h7⟩
          case measure => simp [intOf]; omega
        · have h6 := h4 h5
          have h8 : ¬ gd (mag x) (n - 1 - k) < gd (mag y) (n - 1 - k) := by omega
          clear h3 h4
          go_wp2
          go_quiet (fail)
          go_wp2
          go_ret
          exact ⟨by rw [h6.out]; rfl, _, rfl⟩
      · have hge : n ≤ k := by omega
        have hx : Hid (cmpN x y = 0) := cmpN_eq (by
          have := drop_same (p := 0) HA.out.len HB.out.len (fun j _ h2 => HS.out j (by omega) h2)
          exact mag_inj (by simpa using this))
        go_wp2
        go_ret
        exact ⟨by rw [hx.out]; rfl, _, rfl⟩
  · have ht : ((n : Int) != (m : Int)) = true := by simp; omega
    rcases Nat.lt_or_gt_of_ne hnm with h1 | h1
    · have hx : Hid (cmpN x y = -1) := cmpN_lt (mag_lt_of_length (by rw [HA.out.len, HB.out.len]; exact h1))
      go_enter Try.func90, Try.ntmps90
      go_wp2
      all_goals
        go_ret
        exact ⟨ret_int (by have e := hx.out; first | omega | (rw [e]; done) | (rw [e]; simp at *; omega)), 0, rfl⟩
    · have hx : Hid (cmpN x y = 1) := cmpN_gt (mag_lt_of_length (by rw [HA.out.len, HB.out.len]; exact h1))
      go_enter Try.func90, Try.ntmps90
      go_wp2
      all_goals
        go_ret
        exact ⟨ret_int (by have e := hx.out; first | omega | (rw [e]; done) | (rw [e]; simp at *; omega)), 0, rfl⟩

theorem bl_top (x : Nat) (hx : x ≠ 0) : bl x = 32 * ((mag x).length - 1) + bl (gd (mag x) ((mag x).length - 1)) := by
  have hl : 0 < (mag x).length := Nat.pos_of_ne_zero (fun e => hx (mag_length_zero.1 e))
  have hc := (mag_can x).2.resolve_left (fun e => by rw [e] at hl; exact absurd hl (by simp))
  obtain ⟨n, hn⟩ : ∃ n, (mag x).length = n + 1 := ⟨(mag x).length - 1, by omega⟩
  rw [hn, Nat.add_sub_cancel] at hc ⊢
  have h1 := val_split (mag x) n (by omega)
  rw [val_mag, List.drop_of_length_le (by omega), val, Nat.mul_zero, Nat.add_zero] at h1
  have h2 := val_take_lt (mag_wds x) n
  have h3 : x / 2 ^ (32 * n) = gd (mag x) n := by
    have e : pw n = 2 ^ (32 * n) := by unfold pw; rw [Nat.pow_mul]
    rw [← e]
    refine Nat.div_eq_of_lt_le ?_ ?_
    · rw [Nat.mul_comm]; omega
    · rw [Nat.add_mul, Nat.one_mul, Nat.mul_comm]; omega
  rw [← bl_shift x (32 * n) (by rw [h3]; exact hc), h3, Nat.add_comm]
theorem bl_le32 {x : Nat} (h : x < 4294967296) : bl x ≤ 32 := (bl_lt x 32).2 (by omega)

set_option maxHeartbeats 400000 in
theorem bitLength_any (A : Option Addr) (n c x : Nat) (w : World) (ha : Wd w A n (mag x)) (hn : n ≤ 1099511627776) :
    Calls Try.prog 110 #[.slice A n c] w fun e w' => e = .returned (.int .i64 (bl x : Nat)) ∧ w = w' := by
  have hl := ha.len
  by_cases h0 : x = 0
  · subst h0
    have h1 : n = 0 := by rw [mag_zero] at hl; simpa using hl.symm
    subst h1
    go_enter Try.func110, Try.ntmps110
    go_wp2
    go_ret
    exact ⟨rfl, rfl⟩
  · have hpos : 0 < n := by rw [← hl]; exact Nat.pos_of_ne_zero (fun e => h0 (mag_length_zero.1 e))
    have hb := Lib.hid (bl_top x h0)
    have hlt : gd (mag x) (n - 1) < 4294967296 := (mag_wds x).getD _
    have hle := bl_le32 hlt
    obtain ⟨ad, rfl, _, hc⟩ := ha.cell (show n - 1 < n by omega)
    have ht : ((n : Int) == 0) = false := by simp; omega
    have HL := Lib.hid hl
    clear hl ha
    go_enter Try.func110, Try.ntmps110
    go_wp2_with fail
    refine (bits_any _ _ hlt).mono ?_
    rintro e w' ⟨rfl, rfl⟩
    go_wp2
    go_ret
    exact ⟨ret_int (by rw [hb.out, HL.out]; omega), rfl⟩
end Go.Proofs.Ytpklphdhigkmmaa
