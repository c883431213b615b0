/-
  Layer 3, plain facts: Fermat's theorem; a prime passes Miller's test.
-/
import Derived.Test.YtfigimfdojbkeaaModC
set_option linter.unusedSimpArgs false
set_option linter.unusedVariables false
namespace Go.Proofs.Ytfigimfdojbkeaa

def lpr : List Nat → Nat
  | [] => 1
  | x :: l => x * lpr l
theorem lpr_perm {l m : List Nat} (h : l.Perm m) : lpr l = lpr m := by
  induction h with
  | nil => rfl
  | cons x _ ih => simp only [lpr, ih]
  | swap x y l => simp only [lpr]; rw [← Nat.mul_assoc, ← Nat.mul_assoc, Nat.mul_comm y]
  | trans _ _ h1 h2 => exact h1.trans h2
def fc : Nat → Nat
  | 0 => 1
  | n + 1 => (n + 1) * fc n
theorem full_len : ∀ (n : Nat) (l : List Nat), l.Nodup → (∀ x ∈ l, 1 ≤ x ∧ x ≤ n) → l.length ≤ n
  | 0, l, _, h => by
    match l, h with
    | [], _ => simp
    | x :: l, h => have := h x (by simp); omega
  | n + 1, l, hd, h => by
    by_cases hm : n + 1 ∈ l
    · have h1 := full_len n (l.erase (n + 1)) (hd.erase _) (fun x hx => by
        have h2 := hd.mem_erase_iff.1 hx
        have h3 := h x h2.2
        have h4 := h2.1
        omega)
      rw [List.length_erase_of_mem hm] at h1
      omega
    · have h1 := full_len n l hd (fun x hx => by
        have h3 := h x hx
        have h4 : x ≠ n + 1 := fun e => hm (e ▸ hx)
        omega)
      omega
theorem full_lpr : ∀ (n : Nat) (l : List Nat), l.Nodup → (∀ x ∈ l, 1 ≤ x ∧ x ≤ n) → l.length = n → lpr l = fc n
  | 0, l, _, _, hl => by
    rw [List.eq_nil_of_length_eq_zero hl]; rfl
  | n + 1, l, hd, h, hl => by
    by_cases hm : n + 1 ∈ l
    · rw [lpr_perm (List.perm_cons_erase hm), lpr, fc, full_lpr n (l.erase (n + 1)) (hd.erase _) (fun x hx => by
        have h2 := hd.mem_erase_iff.1 hx
        have h3 := h x h2.2
        have h4 := h2.1
        omega) (by rw [List.length_erase_of_mem hm]; omega)]
    · have h1 := full_len n l hd (fun x hx => by
        have h3 := h x hx
        have h4 : x ≠ n + 1 := fun e => hm (e ▸ hx)
        omega)
      omega
theorem lpr_map (a p : Nat) : ∀ l : List Nat, lpr (l.map (fun k => a * k % p)) % p = a ^ l.length * lpr l % p
  | [] => by simp [lpr]
  | x :: l => by
    have ih := lpr_map a p l
    simp only [List.map_cons, lpr, List.length_cons]
    rw [Nat.mul_mod, ih, Nat.mod_mod, ← Nat.mul_mod, Nat.pow_succ]
    congr 1
    rw [Nat.mul_comm (a ^ l.length) a, Nat.mul_assoc, Nat.mul_assoc, Nat.mul_left_comm x]
theorem IsPr.coprime {p x : Nat} (h : IsPr p) (hx : x % p ≠ 0) : Nat.Coprime x p := by
  have h2 := h.two
  obtain ⟨t, ht⟩ := Nat.gcd_dvd_right x p
  have hgp : 0 < Nat.gcd x p := Nat.gcd_pos_of_pos_right _ (by omega)
  unfold Nat.Coprime
  obtain ⟨y, hy⟩ := Nat.gcd_dvd_left x p
  generalize Nat.gcd x p = g at *
  rcases Nat.lt_or_ge g 2 with h3 | h3
  · omega
  · exfalso
    rcases Nat.lt_or_ge p (g * g) with h4 | h4
    · have htg : t < g := by
        rw [ht] at h4
        exact Nat.lt_of_mul_lt_mul_left h4
      rcases Nat.lt_or_ge t 2 with h5 | h5
      · have ht1 : t = 1 := by
          rcases Nat.eq_zero_or_pos t with e | e
          · rw [e, Nat.mul_zero] at ht; omega
          · omega
        rw [ht1, Nat.mul_one] at ht
        apply hx
        rw [hy, ht, Nat.mul_mod_right]
      · refine h.div t h5 ?_ (by rw [ht, Nat.mul_mod_left])
        rw [ht]
        exact Nat.mul_le_mul_right t (Nat.le_of_lt htg)
    · exact h.div g h3 h4 (by rw [ht, Nat.mul_mod_right])
theorem fc_coprime {p : Nat} (h : IsPr p) : ∀ k, k < p → Nat.Coprime (fc k) p
  | 0, _ => by simp [fc]
  | k + 1, hk => by
    rw [fc]
    exact Nat.Coprime.mul_left (h.coprime (by rw [Nat.mod_eq_of_lt hk]; omega)) (fc_coprime h k (by omega))
theorem dvd_of_mod_eq {a b p : Nat} (h : a % p = b % p) : p ∣ a - b := Nat.dvd_of_mod_eq_zero (Nat.sub_mod_eq_zero_of_mod_eq h)
theorem fermat {p a : Nat} (h : IsPr p) (ha : a % p ≠ 0) : a ^ (p - 1) % p = 1 := by
  have h2 := h.two
  have hc := h.coprime ha
  have hinj : ∀ j k, j < p → k < j → a * k % p ≠ a * j % p := by
    intro j k hj hk e
    have h3 := dvd_of_mod_eq e.symm
    rw [← Nat.mul_sub] at h3
    have h4 := Nat.le_of_dvd (by omega) (hc.symm.dvd_of_dvd_mul_left h3)
    omega
  have hl : (List.range' 1 (p - 1)).Nodup := List.nodup_range' 1 (by omega)
  have hmem : ∀ x, x ∈ List.range' 1 (p - 1) → 1 ≤ x ∧ x ≤ p - 1 := fun x hx => by
    have := List.mem_range'_1.1 hx
    omega
  have e1 := full_lpr (p - 1) _ hl hmem (by simp)
  have e2 := full_lpr (p - 1) ((List.range' 1 (p - 1)).map (fun k => a * k % p)) (by
      rw [List.Nodup, List.pairwise_map]
      refine List.Pairwise.imp_of_mem (fun {x y} hx hy hne => ?_) hl
      have h3 := hmem x hx
      have h4 := hmem y hy
      rcases Nat.lt_or_gt_of_ne hne with h5 | h5
      · exact hinj y x (by omega) h5
      · exact fun e => hinj x y (by omega) h5 e.symm) (fun x hx => by
      obtain ⟨k, hk, rfl⟩ := List.mem_map.1 hx
      have h3 := hmem k hk
      have h4 := Nat.mod_lt (a * k) (show 0 < p by omega)
      refine ⟨?_, by omega⟩
      rcases Nat.eq_zero_or_pos (a * k % p) with e | e
      · have h5 := Nat.le_of_dvd (by omega) (hc.symm.dvd_of_dvd_mul_left (Nat.dvd_of_mod_eq_zero e))
        omega
      · exact e) (by simp)
  have e3 := lpr_map a p (List.range' 1 (p - 1))
  rw [e1, e2, List.length_range'] at e3
  have hpos : 0 < a := by
    rcases Nat.eq_zero_or_pos a with e | e
    · rw [e] at ha; simp at ha
    · exact e
  have h1 : 1 ≤ a ^ (p - 1) := Nat.pow_pos hpos
  have h3 := dvd_of_mod_eq e3.symm
  rw [show a ^ (p - 1) * fc (p - 1) - fc (p - 1) = fc (p - 1) * (a ^ (p - 1) - 1) by rw [Nat.mul_sub, Nat.mul_one, Nat.mul_comm]] at h3
  obtain ⟨t, ht⟩ := (fc_coprime h (p - 1) (by omega)).symm.dvd_of_dvd_mul_left h3
  rw [show a ^ (p - 1) = 1 + p * t by omega, Nat.add_mul_mod_self_left, Nat.mod_eq_of_lt (by omega)]

theorem square_one {n x : Nat} (h : IsPr n) (hx : x < n) (h1 : x * x % n = 1) : x = 1 ∨ x = n - 1 := by
  have h2 := h.two
  have hx0 : 0 < x := by
    rcases Nat.eq_zero_or_pos x with e | e
    · rw [e] at h1; simp at h1
    · exact e
  rcases Nat.lt_or_ge x 2 with h3 | h3
  · left; omega
  · right
    have h4 : n ∣ x * x - 1 := dvd_of_mod_eq (by rw [h1, Nat.mod_eq_of_lt (by omega)])
    have h5 : x * x - 1 = (x - 1) * (x + 1) := by
      obtain ⟨y, rfl⟩ : ∃ y, x = y + 1 := ⟨x - 1, by omega⟩
      have : (y + 1) * (y + 1) = y * (y + 1 + 1) + 1 := by grind
      rw [Nat.add_sub_cancel]
      omega
    rw [h5] at h4
    have h6 := (h.coprime (x := x - 1) (by rw [Nat.mod_eq_of_lt (by omega)]; omega)).symm.dvd_of_dvd_mul_left h4
    have h7 := Nat.le_of_dvd (by omega) h6
    omega
theorem sqHas_prime {n : Nat} (h : IsPr n) : ∀ s x, x < n → x ^ (2 ^ s) % n = 1 → (x == 1 || sqHas n s x) = true
  | 0, x, hx, h1 => by
    rw [Nat.pow_zero, Nat.pow_one, Nat.mod_eq_of_lt hx] at h1
    simp [h1]
  | s + 1, x, hx, h1 => by
    have h2 := h.two
    have hy : x * x % n < n := Nat.mod_lt _ (by omega)
    have h3 : (x * x % n) ^ (2 ^ s) % n = 1 := by
      rw [← Nat.pow_mod, ← Nat.pow_two, ← Nat.pow_mul, ← Nat.pow_succ']
      exact h1
    have ih := sqHas_prime h s _ hy h3
    rw [Bool.or_eq_true, beq_iff_eq] at ih
    rcases ih with h4 | h4
    · rcases square_one h hx h4 with e | e
      · simp [e]
      · rw [sqHas, beq_iff_eq.2 e]; simp
    · rw [sqHas, h4]; simp
/-- A prime passes. -/
theorem passes_prime (a n : Nat) (w : World) (ha : a < 18446744073709551616) (h : IsPr n) (han : a % n ≠ 0) : Calls Try.prog 120 #[.int .u64 a, .int .u64 n] w (RetV (.bool true) w) := by
  refine (passes_any a n w ha h.two h.small).mono ?_
  rintro e w' ⟨d, s, hds, _, rfl, hb⟩
  refine ⟨?_, hb⟩
  have h1 := fermat h han
  rw [hds, Nat.pow_mul] at h1
  rw [sqHas_prime h s (a ^ d % n) (Nat.mod_lt _ (by have := h.two; omega)) (by rw [← Nat.pow_mod]; exact h1)]
end Go.Proofs.Ytfigimfdojbkeaa
