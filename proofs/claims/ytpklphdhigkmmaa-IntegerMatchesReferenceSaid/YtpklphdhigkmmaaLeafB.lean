/-
  Contracts of number, compare, bitsOfWord, bitLength, for slices of at most 2^40 words.
-/
import Derived.Test.YtpklphdhigkmmaaLeafA
import Derived.Deep.QuietTactic
import Derived.BigQuiet
import Derived.Laws.Bits64b
namespace Go.Proofs.Ytpklphdhigkmmaa
open Go.RowKit

/-- The least n with x < 2^n. -/
def bl (x : Nat) : Nat := if x = 0 then 0 else Nat.log2 x + 1
theorem bl_zero : bl 0 = 0 := rfl
theorem bl_one : bl 1 = 1 := by unfold bl; rw [if_neg (by omega)]; decide +kernel
theorem bl_lt (x n : Nat) : bl x ≤ n ↔ x < 2 ^ n := by
  unfold bl
  split
  · rename_i h; subst h; simp [Nat.pow_pos]
  · rename_i h
    rw [← Nat.log2_lt h]
    omega
theorem lt_bl (x : Nat) : x < 2 ^ bl x := (bl_lt x _).1 (Nat.le_refl _)
theorem bl_shift (x s : Nat) (h : x / 2 ^ s ≠ 0) : bl (x / 2 ^ s) + s = bl x := by
  have hp : 0 < 2 ^ s := Nat.pow_pos (by omega)
  apply Nat.le_antisymm
  · have h1 : x < 2 ^ bl x := lt_bl x
    have h2 : s ≤ bl x := by
      rcases Nat.lt_or_ge (bl x) s with h3 | h3
      · exfalso
        have := Nat.pow_le_pow_right (n := 2) (by omega) (Nat.le_of_lt h3)
        exact h (Nat.div_eq_of_lt (by omega))
      · exact h3
    obtain ⟨d, hd⟩ : ∃ d, bl x = s + d := ⟨bl x - s, by omega⟩
    have : bl (x / 2 ^ s) ≤ d := (bl_lt _ _).2 (by
      rw [Nat.div_lt_iff_lt_mul hp, Nat.mul_comm, ← Nat.pow_add, ← hd]; exact h1)
    omega
  · rw [bl_lt, Nat.pow_add]
    have h1 := lt_bl (x / 2 ^ s)
    rwa [Nat.div_lt_iff_lt_mul hp] at h1

theorem ret_u64 {a b : Int} (h : a = b) : Ending.returned (.int .u64 a) = .returned (.int .u64 b) := by rw [h]
theorem ret_int {k : IntKind} {a b : Int} (h : a = b) : Ending.returned (.int k a) = .returned (.int k b) := by rw [h]
theorem or_high (a b : Nat) (ha : a < 4294967296) (hb : b < 4294967296) : bits .or .u64 ((b : Int) * 4294967296) (a : Int) = ((a + 4294967296 * b : Nat) : Int) := by
  have e : ((b : Int) * 4294967296) = ((2 ^ 32 * b : Nat) : Int) := by omega
  rw [e, bits_or_u64_nat _ _ (by omega) (by omega), ← Nat.two_pow_add_eq_or_of_lt (by omega) b]
  omega
theorem or_low (a b : Nat) (ha : a < 4294967296) (hb : b < 4294967296) : bits .or .u64 (a : Int) ((b : Int) * 4294967296) = ((a + 4294967296 * b : Nat) : Int) := by
  have e : ((b : Int) * 4294967296) = ((2 ^ 32 * b : Nat) : Int) := by omega
  rw [e, bits_or_u64_nat _ _ (by omega) (by omega), Nat.or_comm, ← Nat.two_pow_add_eq_or_of_lt (by omega) b]
  omega

set_option maxHeartbeats 400000 in
theorem number_any (A : Option Addr) (n c : Nat) (ws : List Nat) (w : World) (h : Wd w A n ws) (hn : n ≤ 1099511627776) :
    Calls Try.prog 106 #[.slice A n c] w fun e w' => e = .returned (.int .u64 (gd ws 0 + 4294967296 * gd ws 1 : Nat)) ∧ w = w' := by
  have h0 := h.wds.getD 0
  have h1 := h.wds.getD 1
  have H := Lib.hid h
  clear h
  go_enter Try.func106, Try.ntmps106
  go_wp2_with fail
  refine (word_any A n c ws 0 w H.out hn (by omega)).mono ?_
  rintro e w' ⟨rfl, rfl⟩
  go_wp2_with fail
  refine (word_any A n c ws 1 w H.out hn (by omega)).mono ?_
  rintro e w' ⟨rfl, rfl⟩
  go_wp2
  go_ret
  exact ⟨ret_u64 (by rw [or_low _ _ h0 h1]), rfl⟩

def BitsRel (x : Nat) (y n s : Nat) : Prop := (s = 16 ∨ s = 8 ∨ s = 4 ∨ s = 2 ∨ s = 1 ∨ s = 0) ∧ bl y + n = bl x ∧ n + 2 * s ≤ 32 ∧ y < 4 ^ s * (if s = 0 then 2 else 1)

theorem bits_step {x y n s : Nat} (h : BitsRel x y n s) (hs : s ≠ 0) (hy : y / 2 ^ s ≠ 0) : BitsRel x (y / 2 ^ s) (n + s) (s / 2) := by
  obtain ⟨h1, h2, h3, h4⟩ := h
  have h5 := bl_shift y s hy
  refine ⟨by omega, by omega, by omega, ?_⟩
  rcases h1 with rfl | rfl | rfl | rfl | rfl | rfl <;> simp at h4 hs ⊢ <;> omega
theorem bits_skip {x y n s : Nat} (h : BitsRel x y n s) (hs : s ≠ 0) (hy : y / 2 ^ s = 0) : BitsRel x y n (s / 2) := by
  obtain ⟨h1, h2, h3, h4⟩ := h
  refine ⟨by omega, by omega, by omega, ?_⟩
  rcases h1 with rfl | rfl | rfl | rfl | rfl | rfl <;> simp at h4 hs hy ⊢ <;> omega

theorem bits_up {y k : Nat} {K : Int} (h : ((y : Int) / K != 0) = true) (hK : K = ((2 ^ k : Nat) : Int)) : y / 2 ^ k ≠ 0 := by
  rw [bne_iff_ne] at h
  intro e
  apply h
  rw [hK, ← Int.natCast_ediv, e]; rfl
theorem bits_down {y k : Nat} {K : Int} (h : ((y : Int) / K != 0) = false) (hK : K = ((2 ^ k : Nat) : Int)) : y / 2 ^ k = 0 := by
  rw [bne_eq_false_iff_eq, hK, ← Int.natCast_ediv] at h
  exact_mod_cast h
theorem int_div_nat (y k : Nat) : ((y / 2 ^ k : Nat) : Int) = (y : Int) / ((2 ^ k : Nat) : Int) := Int.natCast_ediv _ _

set_option maxHeartbeats 400000 in
theorem bits_any (x : Nat) (w : World) (h : x < 4294967296) :
    Calls Try.prog 132 #[.int .u32 x] w fun e w' => e = .returned (.int .i64 (bl x : Nat)) ∧ w = w' := by
  go_enter Try.func132, Try.ntmps132
  go_wp2
  go_loop [0, 3, 4] (fun u v t => ∃ y n s : Nat, y < 4294967296 ∧ u = .int .u32 y ∧ v = .int .i64 n ∧ t = .int .i64 s ∧ BitsRel x y n s) (fun _ _ t => (intOf t).toNat)
  case atStart => exact ⟨x, 0, 16, h, rfl, rfl, rfl, by omega, by omega, by omega, by simp; omega⟩
  case round =>
    obtain ⟨y, n, s, hyb, rfl, rfl, rfl, hr⟩ := hrel
    have hb : n ≤ 32 := by have := hr.2.2.1; omega
    rcases hr.1 with rfl | rfl | rfl | rfl | rfl | rfl
    case inr.inr.inr.inr.inr =>
      have hy2 : y < 2 := by have := hr.2.2.2; simpa using this
      have hx : bl x = n + y := by
        have := hr.2.1
        rcases (show y = 0 ∨ y = 1 by omega) with rfl | rfl
        · rw [bl_zero] at this; omega
        · rw [bl_one] at this; omega
      have HX := Lib.hid hx
      clear hx hr
      go_wp2
      go_ret
      exact ⟨by rw [HX.out]; go_num, rfl⟩
    all_goals
      have hn : n < 32 := by have := hr.2.2.1; omega
      have hr2 := Lib.hid (bits_skip hr (by omega))
      have hr3 := Lib.hid (bits_step hr (by omega))
      clear hr
      go_wp2
      · refine ⟨⟨_, _, _, ?_, ?_, ?_, ?_, hr3.out (bits_up (by assumption) (by rfl))⟩, ?_⟩
        · omega
        · rw [int_div_nat]; rfl
        · go_num
        · rfl
        · simp [intOf]
      · refine ⟨⟨_, _, _, ?_, ?_, ?_, ?_, hr2.out (bits_down (by assumption) (by rfl))⟩, ?_⟩
        · omega
        · rfl
        · rfl
        · rfl
        · simp [intOf]
end Go.Proofs.Ytpklphdhigkmmaa
