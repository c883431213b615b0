/-
  Contracts of the functions on words that make no memory: word, trim, number, compare, bitsOfWord, bitLength; for slices of at most 2^40 words.
  Contracts of number, compare, bitsOfWord, bitLength, for slices of at most 2^40 words.
  Contracts of compare and bitLength, for slices of at most 2^40 words.
  Laws for making and copying rows of words. No function of the program is named here.
-/
import Derived.Test.YtfigimfdojbkeaaProg
import Derived.Tactics
import Derived.Tactics2
import Derived.WalkKit
import Derived.LoopTactic
import Derived.Outline
import Derived.WalkLawsBesides
import Derived.WalkSpells
import Derived.Test.YtfigimfdojbkeaaMem
import Derived.Deep.QuietTactic
import Derived.BigQuiet
import Derived.Laws.Bits64b
import Derived.OwnWalk
import Derived.Deep.OwnRows
import Derived.Laws.CopyOwn
set_option linter.unusedSimpArgs false
set_option linter.unusedVariables false
namespace Go.Proofs.Ytfigimfdojbkeaa
open Go.RowKit

set_option maxHeartbeats 400000 in
theorem word_any (A : Option Addr) (n c : Nat) (ws : List Nat) (k : Int) (w : World) (h : Wd w A n ws) (_ : n ≤ 1099511627776) (hk : 0 ≤ k) :
    Calls Try.prog 141 #[.slice A n c, .int .i64 k] w fun e w' => e = .returned (.int .u32 (gd ws k.toNat : Nat)) ∧ w = w' := by
  obtain ⟨k, rfl⟩ := Int.eq_ofNat_of_zero_le hk
  rw [Int.toNat_natCast]
  by_cases hlt : k < n
  · obtain ⟨ad, rfl, _, hc⟩ := h.cell hlt
    clear h
    go_enter Try.func141, Try.ntmps141
    go_wp2
    go_ret
    exact ⟨rfl, rfl⟩
  · have e : gd ws k = 0 := by rw [gd_eq, List.getElem?_eq_none (by rw [h.1]; omega)]; rfl
    rw [e]
    clear h e
    go_enter Try.func141, Try.ntmps141
    go_wp2
    go_ret
    exact ⟨rfl, rfl⟩

/-- What 'trim' leaves. -/
theorem trim_done {ws : List Nat} {n m : Nat} (hw : Wds ws) (hl : ws.length = n) (hm : m ≤ n) (hz : ∀ k, m ≤ k → k < n → gd ws k = 0) (hlast : m = 0 ∨ gd ws (m - 1) ≠ 0) :
    ws.take m = mag (val ws) := by
  rw [← val_drop_zero ws m (fun k h1 h2 => hz k h1 (by omega))]
  refine (mag_val ⟨hw.take m, ?_⟩).symm
  rcases hlast with rfl | hne
  · left; simp
  · rcases Nat.eq_zero_or_pos m with rfl | hpos
    · left; simp
    · right
      rw [List.length_take, hl, Nat.min_eq_left hm, gd_eq, List.getElem?_take_of_lt (by omega), ← gd_eq]
      exact hne

def TrimRel (n : Nat) (ws : List Nat) (m : Nat) : Prop := ∀ k, m ≤ k → k < n → gd ws k = 0
def RetTrim (A : Option Addr) (c : Nat) (ws : List Nat) (w : World) (e : Ending) (w' : World) : Prop :=
  ∃ m, m ≤ ws.length ∧ e = .returned (.slice A m c) ∧ ws.take m = mag (val ws) ∧ w = w'

set_option maxHeartbeats 400000 in
theorem trim_any (A : Option Addr) (n c : Nat) (ws : List Nat) (w : World) (h : Wd w A n ws) (hn : n ≤ 1099511627776) (hc : n ≤ c) :
    Calls Try.prog 136 #[.slice A n c] w (RetTrim A c ws w) := by
  have hl := h.1
  have hw := h.wds
  have HL := Lib.hid hl
  have H := Lib.hid h
  clear hl h
  go_enter Try.func136, Try.ntmps136
  go_wp2
  go_loop [0] (fun v => ∃ m : Nat, m ≤ n ∧ v = .slice A m c ∧ TrimRel n ws m) (fun v => match v with | .slice _ m _ => m | _ => 0)
  case atStart => exact ⟨n, Nat.le_refl _, rfl, fun k h1 h2 => by omega⟩
  case round =>
    obtain ⟨m, hm, rfl, hz⟩ := hrel
    by_cases hpos : 0 < m
    · obtain ⟨ad, rfl, _, hcell⟩ := H.out.cell (show m - 1 < n by omega)
      obtain ⟨m, rfl⟩ : ∃ m', m = m' + 1 := ⟨m - 1, by omega⟩
      rw [Nat.add_sub_cancel] at hcell
      by_cases hx : gd ws m = 0
      · rw [hx] at hcell
        have HX := Lib.hid hx
        clear hx
        go_wp2
        go_round
        case rel => exact ⟨m, by omega, rfl, fun k h1 h2 => by
          rcases Nat.eq_or_lt_of_le h1 with e | e
          · rw [← e]; exact HX.out
          · exact hz k e h2⟩
        case measure => simp
      · have hx2 : (((gd ws m : Nat) : Int) == 0) = false := by rw [beq_eq_false_iff_ne]; omega
        have HX := Lib.hid hx
        clear hx
        go_wp2
        go_ret
        exact ⟨m + 1, by rw [HL.out]; omega, rfl, trim_done hw HL.out hm hz (.inr (by simpa using HX.out)), rfl⟩
    · have hm0 : m ≤ 0 := by omega
      go_wp2
      go_ret
      exact ⟨m, by rw [HL.out]; omega, rfl, trim_done hw HL.out hm hz (.inl (by omega)), rfl⟩
end Go.Proofs.Ytfigimfdojbkeaa

namespace Go.Proofs.Ytfigimfdojbkeaa
open Go.RowKit

/-- The least n with x < 2^n. -/
def bl (x : Nat) : Nat := if x = 0 then 0 else Nat.log2 x + 1
theorem bl_zero : bl 0 = 0 := rfl
theorem bl_one : bl 1 = 1 := by unfold bl; rw [if_neg (by omega)]; decide +kernel
theorem bl_lt (x n : Nat) : bl x ≤ n ↔ x < 2 ^ n := by
  unfold bl
  split
  · rename_i h; subst h; simp [Nat.pow_pos]
  · rename_i h
    rw [← Nat.log2_lt h]
    omega
theorem lt_bl (x : Nat) : x < 2 ^ bl x := (bl_lt x _).1 (Nat.le_refl _)
theorem bl_shift (x s : Nat) (h : x / 2 ^ s ≠ 0) : bl (x / 2 ^ s) + s = bl x := by
  have hp : 0 < 2 ^ s := Nat.pow_pos (by omega)
  apply Nat.le_antisymm
  · have h1 : x < 2 ^ bl x := lt_bl x
    have h2 : s ≤ bl x := by
      rcases Nat.lt_or_ge (bl x) s with h3 | h3
      · exfalso
        have := Nat.pow_le_pow_right (n := 2) (by omega) (Nat.le_of_lt h3)
        exact h (Nat.div_eq_of_lt (by omega))
      · exact h3
    obtain ⟨d, hd⟩ : ∃ d, bl x = s + d := ⟨bl x - s, by omega⟩
    have : bl (x / 2 ^ s) ≤ d := (bl_lt _ _).2 (by
      rw [Nat.div_lt_iff_lt_mul hp, Nat.mul_comm, ← Nat.pow_add, ← hd]; exact h1)
    omega
  · rw [bl_lt, Nat.pow_add]
    have h1 := lt_bl (x / 2 ^ s)
    rwa [Nat.div_lt_iff_lt_mul hp] at h1

theorem ret_u64 {a b : Int} (h : a = b) : Ending.returned (.int .u64 a) = .returned (.int .u64 b) := by rw [h]
theorem ret_int {k : IntKind} {a b : Int} (h : a = b) : Ending.returned (.int k a) = .returned (.int k b) := by rw [h]
theorem or_high (a b : Nat) (ha : a < 4294967296) (hb : b < 4294967296) : bits .or .u64 ((b : Int) * 4294967296) (a : Int) = ((a + 4294967296 * b : Nat) : Int) := by
  have e : ((b : Int) * 4294967296) = ((2 ^ 32 * b : Nat) : Int) := by omega
  rw [e, bits_or_u64_nat _ _ (by omega) (by omega), ← Nat.two_pow_add_eq_or_of_lt (by omega) b]
  omega
theorem or_low (a b : Nat) (ha : a < 4294967296) (hb : b < 4294967296) : bits .or .u64 (a : Int) ((b : Int) * 4294967296) = ((a + 4294967296 * b : Nat) : Int) := by
  have e : ((b : Int) * 4294967296) = ((2 ^ 32 * b : Nat) : Int) := by omega
  rw [e, bits_or_u64_nat _ _ (by omega) (by omega), Nat.or_comm, ← Nat.two_pow_add_eq_or_of_lt (by omega) b]
  omega

set_option maxHeartbeats 400000 in
theorem number_any (A : Option Addr) (n c : Nat) (ws : List Nat) (w : World) (h : Wd w A n ws) (hn : n ≤ 1099511627776) :
    Calls Try.prog 133 #[.slice A n c] w fun e w' => e = .returned (.int .u64 (gd ws 0 + 4294967296 * gd ws 1 : Nat)) ∧ w = w' := by
  have h0 := h.wds.getD 0
  have h1 := h.wds.getD 1
  have H := Lib.hid h
  clear h
  go_enter Try.func133, Try.ntmps133
  go_wp2_with fail
  refine (word_any A n c ws 0 w H.out hn (by omega)).mono ?_
  rintro e w' ⟨rfl, rfl⟩
  go_wp2_with fail
  refine (word_any A n c ws 1 w H.out hn (by omega)).mono ?_
  rintro e w' ⟨rfl, rfl⟩
  go_wp2
  go_ret
  exact ⟨ret_u64 (by rw [or_low _ _ h0 h1]), rfl⟩

def BitsRel (x : Nat) (y n s : Nat) : Prop := (s = 16 ∨ s = 8 ∨ s = 4 ∨ s = 2 ∨ s = 1 ∨ s = 0) ∧ bl y + n = bl x ∧ n + 2 * s ≤ 32 ∧ y < 4 ^ s * (if s = 0 then 2 else 1)

theorem bits_step {x y n s : Nat} (h : BitsRel x y n s) (hs : s ≠ 0) (hy : y / 2 ^ s ≠ 0) : BitsRel x (y / 2 ^ s) (n + s) (s / 2) := by
  obtain ⟨h1, h2, h3, h4⟩ := h
  have h5 := bl_shift y s hy
  refine ⟨by omega, by omega, by omega, ?_⟩
  rcases h1 with rfl | rfl | rfl | rfl | rfl | rfl <;> simp at h4 hs ⊢ <;> omega
theorem bits_skip {x y n s : Nat} (h : BitsRel x y n s) (hs : s ≠ 0) (hy : y / 2 ^ s = 0) : BitsRel x y n (s / 2) := by
  obtain ⟨h1, h2, h3, h4⟩ := h
  refine ⟨by omega, by omega, by omega, ?_⟩
  rcases h1 with rfl | rfl | rfl | rfl | rfl | rfl <;> simp at h4 hs hy ⊢ <;> omega

theorem bits_up {y k : Nat} {K : Int} (h : ((y : Int) / K != 0) = true) (hK : K = ((2 ^ k : Nat) : Int)) : y / 2 ^ k ≠ 0 := by
  rw [bne_iff_ne] at h
  intro e
  apply h
  rw [hK, ← Int.natCast_ediv, e]; rfl
theorem bits_down {y k : Nat} {K : Int} (h : ((y : Int) / K != 0) = false) (hK : K = ((2 ^ k : Nat) : Int)) : y / 2 ^ k = 0 := by
  rw [bne_eq_false_iff_eq, hK, ← Int.natCast_ediv] at h
  exact_mod_cast h
theorem int_div_nat (y k : Nat) : ((y / 2 ^ k : Nat) : Int) = (y : Int) / ((2 ^ k : Nat) : Int) := Int.natCast_ediv _ _

set_option maxHeartbeats 400000 in
theorem bits_any (x : Nat) (w : World) (h : x < 4294967296) :
    Calls Try.prog 166 #[.int .u32 x] w fun e w' => e = .returned (.int .i64 (bl x : Nat)) ∧ w = w' := by
  go_enter Try.func166, Try.ntmps166
  go_wp2
  go_loop [0, 3, 4] (fun u v t => ∃ y n s : Nat, y < 4294967296 ∧ u = .int .u32 y ∧ v = .int .i64 n ∧ t = .int .i64 s ∧ BitsRel x y n s) (fun _ _ t => (intOf t).toNat)
  case atStart => exact ⟨x, 0, 16, h, rfl, rfl, rfl, by omega, by omega, by omega, by simp; omega⟩
  case round =>
    obtain ⟨y, n, s, hyb, rfl, rfl, rfl, hr⟩ := hrel
    have hb : n ≤ 32 := by have := hr.2.2.1; omega
    rcases hr.1 with rfl | rfl | rfl | rfl | rfl | rfl
    case inr.inr.inr.inr.inr =>
      have hy2 : y < 2 := by have := hr.2.2.2; simpa using this
      have hx : bl x = n + y := by
        have := hr.2.1
        rcases (show y = 0 ∨ y = 1 by omega) with rfl | rfl
        · rw [bl_zero] at this; omega
        · rw [bl_one] at this; omega
      have HX := Lib.hid hx
      clear hx hr
      go_wp2
      go_ret
      exact ⟨by rw [HX.out]; go_num, rfl⟩
    all_goals
      have hn : n < 32 := by have := hr.2.2.1; omega
      have hr2 := Lib.hid (bits_skip hr (by omega))
      have hr3 := Lib.hid (bits_step hr (by omega))
      clear hr
      go_wp2
      · refine ⟨⟨_, _, _, ?_, ?_, ?_, ?_, hr3.out (bits_up (by assumption) (by rfl))⟩, ?_⟩
        · omega
        · rw [int_div_nat]; rfl
        · go_num
        · rfl
        · simp [intOf]
      · refine ⟨⟨_, _, _, ?_, ?_, ?_, ?_, hr2.out (bits_down (by assumption) (by rfl))⟩, ?_⟩
        · omega
        · rfl
        · rfl
        · rfl
        · simp [intOf]
end Go.Proofs.Ytfigimfdojbkeaa

namespace Go.Proofs.Ytfigimfdojbkeaa
open Go.RowKit

/-- How two numbers compare. -/
def cmpN (x y : Nat) : Int := if x < y then -1 else if y < x then 1 else 0

theorem val_split (a : List Nat) (p : Nat) (hp : p < a.length) : val a = val (a.take p) + pw p * gd a p + pw (p + 1) * val (a.drop (p + 1)) := by
  have h1 := val_append (a.take (p + 1)) (a.drop (p + 1))
  rw [List.take_append_drop, val_take_succ, List.length_take, Nat.min_eq_left (by omega)] at h1
  exact h1
theorem drop_same {a b : List Nat} {n p : Nat} (ha : a.length = n) (hb : b.length = n) (h : ∀ j, p ≤ j → j < n → gd a j = gd b j) : a.drop p = b.drop p := by
  apply List.ext_getElem (by simp [ha, hb])
  intro i h1 h2
  have hi : p + i < n := by rw [List.length_drop, ha] at h1; omega
  have := h (p + i) (by omega) hi
  rw [gd_eq, gd_eq, List.getElem?_eq_getElem (by omega), List.getElem?_eq_getElem (by omega)] at this
  simpa using this
theorem less_at {a b : List Nat} {n p : Nat} (wa : Wds a) (ha : a.length = n) (hb : b.length = n) (hp : p < n) (h : ∀ j, p + 1 ≤ j → j < n → gd a j = gd b j) (hlt : gd a p < gd b p) :
    val a < val b := by
  rw [val_split a p (by omega), val_split b p (by omega), drop_same ha hb h]
  have h1 := val_take_lt wa p
  have h2 : pw p * (gd a p + 1) ≤ pw p * gd b p := Nat.mul_le_mul_left _ hlt
  rw [Nat.mul_add] at h2
  omega
theorem mag_lt_of_length {x y : Nat} (h : (mag x).length < (mag y).length) : x < y := by
  rcases Nat.lt_or_ge x y with h1 | h1
  · exact h1
  · exfalso
    have h2 := lt_pw_mag x
    have h3 : y < pw (mag x).length := by omega
    have := mag_length_le h3
    omega
theorem cmpN_lt {x y : Nat} (h : x < y) : cmpN x y = -1 := by unfold cmpN; rw [if_pos h]
theorem cmpN_gt {x y : Nat} (h : y < x) : cmpN x y = 1 := by unfold cmpN; rw [if_neg (by omega), if_pos h]
theorem cmpN_eq {x y : Nat} (h : x = y) : cmpN x y = 0 := by unfold cmpN; rw [if_neg (by omega), if_neg (by omega)]
theorem cmpN_range (x y : Nat) : cmpN x y = -1 ∨ cmpN x y = 0 ∨ cmpN x y = 1 := by unfold cmpN; split <;> (try split) <;> simp

def SameFrom (la lb : List Nat) (n k : Nat) : Prop := ∀ j, n - k ≤ j → j < n → gd la j = gd lb j

set_option maxHeartbeats 800000 in
theorem compare_any (A B : Option Addr) (n m c d x y : Nat) (w : World) (ha : Wd w A n (mag x)) (hb : Wd w B m (mag y)) (hn : n ≤ 1099511627776) (hm : m ≤ 1099511627776) :
    Calls Try.prog 109 #[.slice A n c, .slice B m d] w fun e w' => e = .returned (.int .i64 (cmpN x y)) ∧ ∃ q, w' = w.drewN q := by
  have HA := Lib.hid ha
  have HB := Lib.hid hb
  clear ha hb
  by_cases hnm : n = m
  · subst hnm
    have ht : ((n : Int) != (n : Int)) = false := by simp
    go_enter Try.func109, Try.ntmps109
    go_wp2
    go_loopw [22] (fun t wr => ∃ k q : Nat, k ≤ n ∧ t = .int .i64 k ∧ wr = w.drewN q ∧ SameFrom (mag x) (mag y) n k) (fun t _ => n - (intOf t).toNat)
    case atStart => exact ⟨0, 0, Nat.zero_le _, rfl, rfl, fun j h1 h2 => by omega⟩
    case round =>
      obtain ⟨k, q, hk, rfl, rfl, hs⟩ := hrel
      have HS := Lib.hid hs
      clear hs
      by_cases hlt : k < n
      · obtain ⟨ad, rfl, _, hca⟩ := HA.out.cell (show n - 1 - k < n by omega)
        obtain ⟨bd, rfl, _, hcb⟩ := HB.out.cell (show n - 1 - k < n by omega)
        have i0 : (0 : Int) ≤ (n : Int) - 1 - k := by omega
        have i1 : (n : Int) - 1 - k < n := by omega
        have i2 : (0 : Int) ≤ (n : Int) - 1 := by omega
        have h3 : gd (mag x) (n - 1 - k) < gd (mag y) (n - 1 - k) → Hid (cmpN x y = -1) := fun h =>
          cmpN_lt (by
            have := less_at (mag_wds x) HA.out.len HB.out.len (show n - 1 - k < n by omega) (fun j h1 h2 => HS.out j (by omega) h2) h
            rwa [val_mag, val_mag] at this)
        have h4 : gd (mag y) (n - 1 - k) < gd (mag x) (n - 1 - k) → Hid (cmpN x y = 1) := fun h =>
          cmpN_gt (by
            have := less_at (mag_wds y) HB.out.len HA.out.len (show n - 1 - k < n by omega) (fun j h1 h2 => (HS.out j (by omega) h2).symm) h
            rwa [val_mag, val_mag] at this)
        rcases Nat.lt_trichotomy (gd (mag x) (n - 1 - k)) (gd (mag y) (n - 1 - k)) with h5 | h5 | h5
        · have h6 := h3 h5
          clear h3 h4
          go_wp2
          go_quiet (fail)
          go_wp2
          go_ret
          exact ⟨by rw [h6.out]; rfl, _, rfl⟩
        · have h7 : Hid (SameFrom (mag x) (mag y) n (k + 1)) := fun j h1 h2 => by
            by_cases e : j = n - 1 - k
            · rw [e]; exact h5
            · exact HS.out j (by omega) h2
          have h8 : ¬ gd (mag x) (n - 1 - k) < gd (mag y) (n - 1 - k) := by omega
          have h9 : ¬ gd (mag y) (n - 1 - k) < gd (mag x) (n - 1 - k) := by omega
          clear h3 h4 h5
          go_wp2
          go_quiet (fail)
          go_wp2
          go_roundw
          case rel => exact ⟨k + 1, _, by omega, by go_num, rfl, h7⟩
          case measure => simp [intOf]; omega
        · have h6 := h4 h5
          have h8 : ¬ gd (mag x) (n - 1 - k) < gd (mag y) (n - 1 - k) := by omega
          clear h3 h4
          go_wp2
          go_quiet (fail)
          go_wp2
          go_ret
          exact ⟨by rw [h6.out]; rfl, _, rfl⟩
      · have hge : n ≤ k := by omega
        have hx : Hid (cmpN x y = 0) := cmpN_eq (by
          have := drop_same (p := 0) HA.out.len HB.out.len (fun j _ h2 => HS.out j (by omega) h2)
          exact mag_inj (by simpa using this))
        go_wp2
        go_ret
        exact ⟨by rw [hx.out]; rfl, _, rfl⟩
  · have ht : ((n : Int) != (m : Int)) = true := by simp; omega
    rcases Nat.lt_or_gt_of_ne hnm with h1 | h1
    · have hx : Hid (cmpN x y = -1) := cmpN_lt (mag_lt_of_length (by rw [HA.out.len, HB.out.len]; exact h1))
      go_enter Try.func109, Try.ntmps109
      go_wp2
      all_goals
        go_ret
        exact ⟨ret_int (by have e := hx.out; first | omega | (rw [e]; done) | (rw [e]; simp at *; omega)), 0, rfl⟩
    · have hx : Hid (cmpN x y = 1) := cmpN_gt (mag_lt_of_length (by rw [HA.out.len, HB.out.len]; exact h1))
      go_enter Try.func109, Try.ntmps109
      go_wp2
      all_goals
        go_ret
        exact ⟨ret_int (by have e := hx.out; first | omega | (rw [e]; done) | (rw [e]; simp at *; omega)), 0, rfl⟩

theorem bl_top (x : Nat) (hx : x ≠ 0) : bl x = 32 * ((mag x).length - 1) + bl (gd (mag x) ((mag x).length - 1)) := by
  have hl : 0 < (mag x).length := Nat.pos_of_ne_zero (fun e => hx (mag_length_zero.1 e))
  have hc := (mag_can x).2.resolve_left (fun e => by rw [e] at hl; exact absurd hl (by simp))
  obtain ⟨n, hn⟩ : ∃ n, (mag x).length = n + 1 := ⟨(mag x).length - 1, by omega⟩
  rw [hn, Nat.add_sub_cancel] at hc ⊢
  have h1 := val_split (mag x) n (by omega)
  rw [val_mag, List.drop_of_length_le (by omega), val, Nat.mul_zero, Nat.add_zero] at h1
  have h2 := val_take_lt (mag_wds x) n
  have h3 : x / 2 ^ (32 * n) = gd (mag x) n := by
    have e : pw n = 2 ^ (32 * n) := by unfold pw; rw [Nat.pow_mul]
    rw [← e]
    refine Nat.div_eq_of_lt_le ?_ ?_
    · rw [Nat.mul_comm]; omega
    · rw [Nat.add_mul, Nat.one_mul, Nat.mul_comm]; omega
  rw [← bl_shift x (32 * n) (by rw [h3]; exact hc), h3, Nat.add_comm]
theorem bl_le32 {x : Nat} (h : x < 4294967296) : bl x ≤ 32 := (bl_lt x 32).2 (by omega)

set_option maxHeartbeats 400000 in
theorem bitLength_any (A : Option Addr) (n c x : Nat) (w : World) (ha : Wd w A n (mag x)) (hn : n ≤ 1099511627776) :
    Calls Try.prog 137 #[.slice A n c] w fun e w' => e = .returned (.int .i64 (bl x : Nat)) ∧ w = w' := by
  have hl := ha.len
  by_cases h0 : x = 0
  · subst h0
    have h1 : n = 0 := by rw [mag_zero] at hl; simpa using hl.symm
    subst h1
    go_enter Try.func137, Try.ntmps137
    go_wp2
    go_ret
    exact ⟨rfl, rfl⟩
  · have hpos : 0 < n := by rw [← hl]; exact Nat.pos_of_ne_zero (fun e => h0 (mag_length_zero.1 e))
    have hb := Lib.hid (bl_top x h0)
    have hlt : gd (mag x) (n - 1) < 4294967296 := (mag_wds x).getD _
    have hle := bl_le32 hlt
    obtain ⟨ad, rfl, _, hc⟩ := ha.cell (show n - 1 < n by omega)
    have ht : ((n : Int) == 0) = false := by simp; omega
    have HL := Lib.hid hl
    clear hl ha
    go_enter Try.func137, Try.ntmps137
    go_wp2_with fail
    refine (bits_any _ _ hlt).mono ?_
    rintro e w' ⟨rfl, rfl⟩
    go_wp2
    go_ret
    exact ⟨ret_int (by rw [hb.out, HL.out]; omega), rfl⟩
end Go.Proofs.Ytfigimfdojbkeaa

namespace Go.Proofs.Ytfigimfdojbkeaa
open Go.RowKit

theorem made_words (n : Nat) : madeCells #[Value.int .u32 0] n = ((List.replicate n 0).map cv).toArray := by
  apply Array.ext
  · simp [madeCells]
  · intro i h1 h2
    simp [madeCells, cv, Nat.mod_one]

theorem run_make_blk {P : Program} (t : TypeId) (hu : P.underlying t = some (.slice 43)) (hinfo : (P.info? 43).map (fun i => (i.zero, i.size, i.bytes)) = some (some (.int .u32 0), 1, 4))
    (kl kc : IntKind) (n : Nat) (hn : n ≤ 17592186044416) (w : World) :
    ∃ w', (Instr.makeSlice t (.int kl (n : Int)) (.int kc (n : Int))).run P w = .ok (.slice (some ⟨w.heap.size, 0, none⟩) n n) w' ∧ Blk w' w.heap.size (List.replicate n 0) ∧ w'.heap.size = w.heap.size + 1 ∧ Below w.heap.size w w' := by
  refine ⟨_, run_make_row' t 43 _ 4 hu hinfo rfl kl kc n (by omega) (by omega) w, ⟨?_, Wds.replicate n⟩, by simp, (Below.refl _ _).alloc (Nat.le_refl _) _⟩
  rw [heap_alloc_new, made_words]

theorem wpList_make_blk {P : Program} {w : World} {ops : Array Oper} {rest : List Oper} {o : Oper} {a : Act} {Q : Exit → Act → World → Prop}
    (hg : o.guard = none) (l c : Operand) (t : TypeId) (hop : o.op = Op.makeSlice t l c)
    (hu : P.underlying t = some (.slice 43)) (hinfo : (P.info? 43).map (fun i => (i.zero, i.size, i.bytes)) = some (some (.int .u32 0), 1, 4))
    (kl kc : IntKind) (L C : Int) (n : Nat) (hl : a.eval l = .int kl L) (hc : a.eval c = .int kc C) (hL : L = (n : Int)) (hC : C = (n : Int)) (hn : n ≤ 17592186044416)
    (hK : ∀ w', Blk w' w.heap.size (List.replicate n 0) → w'.heap.size = w.heap.size + 1 → Below w.heap.size w w' → wpList P ops Q rest (a.put o.dst (.slice (some ⟨w.heap.size, 0, none⟩) n n)) w') :
    wpList P ops Q (o :: rest) a w := by
  refine wpList_plain hg fun K hK' => ?_
  obtain ⟨w', hrun, r1, r2, r3⟩ := run_make_blk (P := P) t hu hinfo kl kc n hn w
  subst hL
  subst hC
  unfold Oper.wp
  simp [execOp, hop, hl, hc, hrun, Result.andThen]
  exact hK' _ _ (hK w' r1 r2 r3)

theorem splice_map (z xs : List Nat) (off : Nat) : splice (z.map cv) off (xs.map cv) = (splice z off xs).map cv := by
  simp [splice, List.map_take, List.map_drop]
theorem splice_wds {z xs : List Nat} (hz : Wds z) (hx : Wds xs) (off : Nat) : Wds (splice z off xs) := by
  unfold splice
  exact (hz.take _).append (hx.append (hz.drop _))

/-- copy(out[off:..], src): the words of the source lie in the block afterwards. -/
theorem wpList_copy_blk {P : Program} {w : World} {ops : Array Oper} {rest : List Oper} {o : Oper} {a : Act} {Q : Exit → Act → World → Prop} (hgd : o.guard = none) (d s : Operand) (dT sT : TypeId)
    (ho : o.op = .call { callee := .builtin .copy, args := #[d, s], argTypes := #[dT, sT] }) (hu : P.underlying dT = some (.slice 43)) (hsz : (P.info? 43).map (·.size) = some 1)
    (g off : Nat) (dLen dCap : Nat) (A : Option Addr) (n sCap : Nat) (hd : a.eval d = .slice (some ⟨g, off, none⟩) dLen dCap) (hs : a.eval s = .slice A n sCap)
    (z xs : List Nat) (hb : Blk w g z) (hx : Wd w A n xs) (hn : n ≤ dLen) (hfit : off + n ≤ z.length) (B : Nat) (w0 : World) (hw : Below B w0 w) (hBg : B ≤ g)
    (h : ∀ w', Blk w' g (splice z off xs) → Below B w0 w' → wpList P ops Q rest (a.put o.dst (goInt n)) w') :
    wpList P ops Q (o :: rest) a w := by
  have hl : (xs.map cv).length = n := by rw [List.length_map, hx.len]
  refine wpList_copy_splice hgd d s dT sT ho 43 hu hsz _ A dLen dCap n sCap hd hs g off (z.map cv) 43 hb.1 (xs.map cv) (by rw [hl]; exact (Nat.min_eq_left hn).symm) ?_ (by rw [hl, List.length_map]; exact hfit) ?_ B w0 hw hBg ?_
  · intro h0
    rw [hl] at h0
    obtain ⟨ad, e, _, hc⟩ := hx.2.2 h0
    refine ⟨rfl, ad, e, fun j v hv => ?_⟩
    have hj : j < n := by
      have := (List.getElem?_eq_some_iff.1 hv).1
      rwa [hl] at this
    rw [hc j hj, ← hv, List.getElem?_map, gd_eq, List.getElem?_eq_getElem (by rw [hx.len]; exact hj)]
    rfl
  · intro v hv
    obtain ⟨x, _, rfl⟩ := List.mem_map.1 hv
    rfl
  · intro w' h1 h2
    rw [hl]
    refine h w' ⟨?_, splice_wds hb.2 hx.wds off⟩ h2
    rw [← splice_map]
    exact h1.out
theorem splice_full (z xs : List Nat) (h : z.length = xs.length) : splice z 0 xs = xs := by
  simp [splice, h]
end Go.Proofs.Ytfigimfdojbkeaa
