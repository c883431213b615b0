/-
  Decimal digits: plain facts.
-/
import Derived.Test.YtpklphdhigkmmaaTextA
namespace Go.Proofs.Ytpklphdhigkmmaa

/-- The decimal digits of n as bytes, the last one first, none for 0. -/
def rd (n : Nat) : List Nat := if h : n = 0 then [] else (48 + n % 10) :: rd (n / 10)
termination_by n
decreasing_by omega
theorem rd_zero : rd 0 = [] := by rw [rd]; simp
theorem rd_pos {n : Nat} (h : 0 < n) : rd n = (48 + n % 10) :: rd (n / 10) := by rw [rd]; simp [Nat.ne_of_gt h]
theorem rd_len_pos {n : Nat} (h : 0 < n) : 0 < (rd n).length := by rw [rd_pos h]; simp

theorem dgs_zero (k : Nat) : dgs k 0 = List.replicate k 48 := by
  induction k with
  | zero => rfl
  | succ k ih => simp [dgs, ih, List.replicate_succ]

theorem dgs_add : ∀ (a b n : Nat), dgs (a + b) n = dgs a n ++ dgs b (n / 10 ^ a)
  | 0, b, n => by simp [dgs]
  | a + 1, b, n => by
    rw [show a + 1 + b = (a + b) + 1 by omega]
    simp only [dgs, List.cons_append]
    rw [dgs_add a b (n / 10), Nat.div_div_eq_div_mul, show 10 * 10 ^ a = 10 ^ (a + 1) by rw [Nat.pow_succ, Nat.mul_comm]]

theorem rd_len_le : ∀ (m n : Nat), n < 10 ^ m → (rd n).length ≤ m
  | 0, n, h => by
    have : n = 0 := by simp at h; omega
    subst this; simp [rd_zero]
  | m + 1, n, h => by
    rcases Nat.eq_zero_or_pos n with rfl | hp
    · simp [rd_zero]
    · rw [rd_pos hp]
      have : n / 10 < 10 ^ m := by rw [Nat.pow_succ] at h; omega
      have := rd_len_le m (n / 10) this
      simp; omega

theorem dgs_split : ∀ (m n : Nat), n < 10 ^ m → dgs m n = rd n ++ List.replicate (m - (rd n).length) 48
  | 0, n, h => by
    have : n = 0 := by simp at h; omega
    subst this; simp [rd_zero, dgs]
  | m + 1, n, h => by
    rcases Nat.eq_zero_or_pos n with rfl | hp
    · simp [rd_zero, dgs_zero]
    · have h2 : n / 10 < 10 ^ m := by rw [Nat.pow_succ] at h; omega
      rw [rd_pos hp, dgs, dgs_split m (n / 10) h2]
      simp

/-- The first digit is not 0. -/
theorem rd_last : ∀ (n : Nat), 0 < n → ∀ b, (rd n)[(rd n).length - 1]? = some b → b ≠ 48 := by
  intro n
  induction n using Nat.strongRecOn with
  | _ n ih =>
    intro hp b hb
    rw [rd_pos hp] at hb
    rcases Nat.eq_zero_or_pos (n / 10) with h0 | h0
    · rw [h0, rd_zero] at hb
      simp at hb
      omega
    · have hl := rd_len_pos h0
      have e : (rd (n / 10)).length + 1 - 1 = ((rd (n / 10)).length - 1) + 1 := by omega
      rw [List.length_cons, e, List.getElem?_cons_succ] at hb
      exact ih (n / 10) (by omega) h0 b hb

theorem dgs_byte : ∀ (m n x : Nat), x ∈ dgs m n → 48 ≤ x ∧ x < 58
  | 0, _, x, h => by simp [dgs] at h
  | m + 1, n, x, h => by
    simp only [dgs, List.mem_cons] at h
    rcases h with rfl | h
    · omega
    · exact dgs_byte m (n / 10) x h
theorem rd_byte {n x : Nat} (h : x ∈ rd n) : 48 ≤ x ∧ x < 58 := by
  have h1 : n < 10 ^ n := Nat.lt_pow_self (by omega)
  exact dgs_byte n n x (by rw [dgs_split n n h1]; simp [h])

theorem dg_front {m n k : Nat} (h : n < 10 ^ m) (hk : k < (rd n).length) : gd (dgs m n) k = gd (rd n) k := by
  rw [dgs_split m n h, gd_eq, gd_eq, List.getElem?_append_left hk]
theorem dg_rest {m n k : Nat} (h : n < 10 ^ m) (h1 : (rd n).length ≤ k) (h2 : k < m) : gd (dgs m n) k = 48 := by
  rw [dgs_split m n h, gd_eq, List.getElem?_append_right h1, List.getElem?_replicate, if_pos (by omega)]
  rfl
theorem dg_last {m n : Nat} (h : n < 10 ^ m) (hn : 0 < n) : gd (dgs m n) ((rd n).length - 1) ≠ 48 := by
  have hl := rd_len_pos hn
  rw [dg_front h (by omega), gd_eq, List.getElem?_eq_getElem (by omega)]
  exact rd_last n hn _ (List.getElem?_eq_getElem (by omega))
theorem gd_byte {m n k : Nat} (hk : k < m) : 48 ≤ gd (dgs m n) k ∧ gd (dgs m n) k < 58 := by
  rw [gd_eq, List.getElem?_eq_getElem (by rw [dgs_len]; exact hk)]
  exact dgs_byte m n _ (List.getElem_mem _)

/-- The bytes of the text of z. -/
def txb (z : Int) : List Nat := if z = 0 then [48] else (if z < 0 then [45] else []) ++ (rd z.natAbs).reverse
end Go.Proofs.Ytpklphdhigkmmaa
