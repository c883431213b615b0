/-
  Layer 3, plain facts: what a number below 2^31 that passes Miller's test with 2, 3, 5, 7 says of its prime divisors; the tests that the kernel runs.
  Layer 3, plain facts: the types of prime divisors of a number that passes Miller's test; two prime divisors.
  Layer 3, plain facts: a number below 2^31 that passes Miller's test with 2, 3, 5, 7 is a prime, from tests of single numbers.
-/
import Derived.Test.YtfigimfdojbkeaaModF
set_option linter.unusedSimpArgs false
set_option linter.unusedVariables false
namespace Go.Proofs.Ytfigimfdojbkeaa.Mil

theorem one_mul_mod {p a c : Nat} (h : a % p = 1) : a * c % p = c % p := by
  rw [Nat.mul_mod, h, Nat.one_mul, Nat.mod_mod]
theorem pow_one_mul {b p x : Nat} (hp : 1 < p) (h : b ^ x % p = 1) : ∀ k, b ^ (x * k) % p = 1
  | 0 => by simp; exact Nat.mod_eq_of_lt hp
  | k + 1 => by rw [Nat.mul_succ, Nat.pow_add, one_mul_mod (pow_one_mul hp h k), h]
/-- What is 1 at two exponents is 1 at their gcd. -/
theorem pow_one_gcd {b p : Nat} (hp : 1 < p) (x y : Nat) : b ^ x % p = 1 → b ^ y % p = 1 → b ^ (Nat.gcd x y) % p = 1 := by
  induction x, y using Nat.gcd.induction with
  | H0 y => intro _ h; simpa using h
  | H1 x y hx ih =>
    intro h1 h2
    rw [Nat.gcd_rec]
    refine ih ?_ h1
    have := pow_one_mul hp h1 (y / x)
    have e : b ^ y = b ^ (x * (y / x)) * b ^ (y % x) := by rw [← Nat.pow_add, Nat.div_add_mod]
    rw [e, one_mul_mod this] at h2
    exact h2
theorem one_dvd {p n a : Nat} (hp : 1 < p) (hd : p ∣ n) (h : a % n = 1) : a % p = 1 := by
  rw [← Nat.mod_mod_of_dvd _ hd, h, Nat.mod_eq_of_lt hp]
theorem neg_dvd {p n a : Nat} (hp : 1 < p) (hn : 0 < n) (hd : p ∣ n) (h : a % n = n - 1) : a % p = p - 1 := by
  rw [← Nat.mod_mod_of_dvd _ hd, h]
  obtain ⟨m, rfl⟩ := hd
  obtain ⟨k, rfl⟩ : ∃ k, m = k + 1 := ⟨m - 1, by have : m ≠ 0 := (by intro e; rw [e, Nat.mul_zero] at hn; omega); omega⟩
  rw [Nat.mul_succ, show p * k + p - 1 = (p - 1) + p * k by omega, Nat.add_mul_mod_self_left, Nat.mod_eq_of_lt (by omega)]
/-- b^e modulo n in windows of eight bits, for e below 2^32. -/
def pw (b e n : Nat) : Nat := (((b ^ (e / 16777216) % n) ^ 256 * b ^ (e / 65536 % 256) % n) ^ 256 * b ^ (e / 256 % 256) % n) ^ 256 * b ^ (e % 256) % n
theorem pw_step {b n x u v : Nat} (h : x % n = b ^ u % n) : (x % n) ^ 256 * b ^ v % n = b ^ (u * 256 + v) % n := by
  rw [h, Nat.mul_mod, ← Nat.pow_mod, ← Nat.mul_mod, ← Nat.pow_mul, ← Nat.pow_add]
theorem pw_eq (b e n : Nat) : pw b e n = b ^ e % n := by
  unfold pw
  have h1 := pw_step (n := n) (b := b) (x := b ^ (e / 16777216)) (u := e / 16777216) (v := e / 65536 % 256) rfl
  have h2 := pw_step (v := e / 256 % 256) h1
  have h3 := pw_step (v := e % 256) h2
  rw [h3]
  congr 2
  omega
/-- n passes with the witness b. -/
def Ps (b n : Nat) : Prop := ∃ s d, n - 1 = 2 ^ s * d ∧ d % 2 = 1 ∧ (b ^ d % n = 1 ∨ ∃ i, i < s ∧ b ^ (2 ^ i * d) % n = n - 1)
theorem neg_sq {n a : Nat} (hn : 2 ≤ n) (h : a % n = n - 1) : a ^ 2 % n = 1 % n := by
  rw [Nat.pow_mod, h]
  obtain ⟨k, rfl⟩ : ∃ k, n = k + 2 := ⟨n - 2, by omega⟩
  rw [show (k + 2 - 1) ^ 2 = 1 + (k + 2) * k by rw [show k + 2 - 1 = k + 1 by omega]; grind, Nat.add_mul_mod_self_left]
theorem Ps.fermat {b n : Nat} (hn : 2 < n) (h : Ps b n) : b ^ (n - 1) % n = 1 := by
  obtain ⟨s, d, e, _, h⟩ := h
  rcases h with h | ⟨i, hi, h⟩
  · rw [e, Nat.mul_comm]; exact pow_one_mul (by omega) h _
  · have h2 := neg_sq (by omega) h
    rw [Nat.mod_eq_of_lt (show 1 < n by omega), ← Nat.pow_mul] at h2
    obtain ⟨t, rfl⟩ : ∃ t, s = i + 1 + t := ⟨s - i - 1, by omega⟩
    rw [e, show 2 ^ (i + 1 + t) * d = (2 ^ i * d * 2) * 2 ^ t by rw [Nat.pow_add, Nat.pow_add]; grind]
    exact pow_one_mul (by omega) h2 _
def good (p g : Nat) : Bool := bif Nat.beq (pw 2 g p) 1 then bif Nat.beq (pw 3 g p) 1 then bif Nat.beq (pw 5 g p) 1 then Nat.beq (pw 7 g p) 1 else false else false else false
theorem good_of {p g : Nat} (h2 : 2 ^ g % p = 1) (h3 : 3 ^ g % p = 1) (h5 : 5 ^ g % p = 1) (h7 : 7 ^ g % p = 1) : good p g = true := by
  simp [good, pw_eq, h2, h3, h5, h7]
def lam1 (p g a : Nat) : Nat := bif good p g then Nat.gcd g a else a
def lamL (p : Nat) : Nat → Nat → Nat
  | 0, a => a
  | k + 1, a => lamL p k (bif Nat.beq ((p - 1) % (k + 1)) 0 then lam1 p (k + 1) (lam1 p ((p - 1) / (k + 1)) a) else a)
def lam (p : Nat) : Nat := lamL p 215 (p - 1)
theorem lam1_dvd (p g a : Nat) : lam1 p g a ∣ a := by
  unfold lam1; cases good p g
  · exact Nat.dvd_refl _
  · exact Nat.gcd_dvd_right _ _
theorem lam1_good {p g a : Nat} (h : good p g = true) : lam1 p g a ∣ g := by
  unfold lam1; rw [h]; exact Nat.gcd_dvd_left _ _
theorem lamL_dvd (p : Nat) : ∀ k a, lamL p k a ∣ a
  | 0, _ => Nat.dvd_refl _
  | k + 1, a => by
    unfold lamL
    refine Nat.dvd_trans (lamL_dvd p k _) ?_
    cases Nat.beq ((p - 1) % (k + 1)) 0
    · exact Nat.dvd_refl _
    · exact Nat.dvd_trans (lam1_dvd _ _ _) (lam1_dvd _ _ _)
theorem lamL_good (p : Nat) : ∀ k a g, 1 ≤ g → g ≤ k → g ∣ p - 1 → (good p g = true → lamL p k a ∣ g) ∧ (good p ((p - 1) / g) = true → lamL p k a ∣ (p - 1) / g)
  | 0, _, g, h1, h2, _ => by omega
  | k + 1, a, g, h1, h2, h3 => by
    unfold lamL
    by_cases e : g = k + 1
    · subst e
      have hb : Nat.beq ((p - 1) % (k + 1)) 0 = true := by rw [Nat.mod_eq_zero_of_dvd h3]; rfl
      rw [hb]
      refine ⟨fun h => ?_, fun h => ?_⟩
      · exact Nat.dvd_trans (lamL_dvd p k _) (lam1_good h)
      · exact Nat.dvd_trans (lamL_dvd p k _) (Nat.dvd_trans (lam1_dvd _ _ _) (lam1_good h))
    · exact lamL_good p k _ g h1 (by omega) h3
/-- lam p divides every good divisor of p - 1. -/
theorem lam_good {p g : Nat} (hp : 2 ≤ p) (hs : p - 1 < 46656) (hd : g ∣ p - 1) (h : good p g = true) : lam p ∣ g := by
  have hg : 1 ≤ g := Nat.pos_of_dvd_of_pos hd (by omega)
  by_cases hk : g ≤ 215
  · exact (lamL_good p 215 (p - 1) g hg hk hd).1 h
  · obtain ⟨c, hc⟩ := hd
    have hc0 : 1 ≤ c := by
      rcases Nat.eq_zero_or_pos c with e | e
      · rw [e, Nat.mul_zero] at hc; omega
      · exact e
    have hc1 : c ≤ 215 := by
      apply Nat.le_of_not_lt
      intro hlt
      have := Nat.mul_le_mul (show 216 ≤ g by omega) (show 216 ≤ c by omega)
      omega
    have hq : (p - 1) / c = g := by rw [hc]; exact Nat.mul_div_cancel _ hc0
    have := (lamL_good p 215 (p - 1) c hc0 hc1 ⟨g, by rw [hc, Nat.mul_comm]⟩).2
    rw [hq] at this
    exact this h
theorem lam_last (p : Nat) : lam p ∣ p - 1 := lamL_dvd p 215 (p - 1)
/-- The four witnesses. -/
structure All (n : Nat) : Prop where
  a2 : Ps 2 n
  a3 : Ps 3 n
  a5 : Ps 5 n
  a7 : Ps 7 n
theorem not_wit {p b : Nat} (hp : IsPr p) (hb : IsPr b) (hne : p ≠ b) : b % p ≠ 0 := by
  intro h
  have h1 := hb.coprime (x := p) (by
    intro h2
    have h3 := Nat.le_of_dvd (by have := hb.two; omega) (Nat.dvd_of_mod_eq_zero h)
    have h4 := Nat.le_of_dvd (by have := hp.two; omega) (Nat.dvd_of_mod_eq_zero h2)
    omega)
  have h2 := Nat.dvd_of_mod_eq_zero h
  have h3 := Nat.dvd_gcd (Nat.dvd_refl p) h2
  rw [h1] at h3
  have := Nat.le_of_dvd (by omega) h3
  have := hp.two
  omega
/-- The cofactor of a prime divisor is 1 modulo lam. -/
theorem cofactor {n p : Nat} (hn : 2 < n) (ha : All n) (hp : IsPr p) (hs : p - 1 < 46656) (hd : p ∣ n) (f2 : 2 ^ (p - 1) % p = 1) (f3 : 3 ^ (p - 1) % p = 1) (f5 : 5 ^ (p - 1) % p = 1) (f7 : 7 ^ (p - 1) % p = 1) : ∃ k, n = p + k * (p * lam p) := by
  have h1 : 1 < p := by have := hp.two; omega
  have hl : lam p ∣ Nat.gcd (n - 1) (p - 1) := lam_good hp.two hs (Nat.gcd_dvd_right _ _) (good_of
    (pow_one_gcd h1 _ _ (one_dvd h1 hd (ha.a2.fermat hn)) f2) (pow_one_gcd h1 _ _ (one_dvd h1 hd (ha.a3.fermat hn)) f3)
    (pow_one_gcd h1 _ _ (one_dvd h1 hd (ha.a5.fermat hn)) f5) (pow_one_gcd h1 _ _ (one_dvd h1 hd (ha.a7.fermat hn)) f7))
  have hl1 : lam p ∣ n - 1 := Nat.dvd_trans hl (Nat.gcd_dvd_left _ _)
  have hl2 := lam_last p
  obtain ⟨m, rfl⟩ := hd
  obtain ⟨j, rfl⟩ : ∃ j, m = j + 1 := ⟨m - 1, by have : m ≠ 0 := (by intro e; rw [e, Nat.mul_zero] at hn; omega); omega⟩
  have e : p * (j + 1) - 1 = p * j + (p - 1) := by rw [Nat.mul_succ]; omega
  rw [e] at hl1
  have h3 : lam p ∣ p * j := (Nat.dvd_add_iff_left hl2).2 hl1
  have hc : Nat.Coprime (lam p) p := by
    have h4 : Nat.gcd (lam p) p ∣ p - 1 := Nat.dvd_trans (Nat.gcd_dvd_left _ _) hl2
    have h5 := Nat.dvd_sub (Nat.gcd_dvd_right (lam p) p) h4
    rw [show p - (p - 1) = 1 by omega] at h5
    exact Nat.dvd_one.1 h5
  obtain ⟨k, rfl⟩ := hc.dvd_of_dvd_mul_left h3
  exact ⟨k, by rw [Nat.mul_succ]; grind⟩

def oddp : Nat → Nat → Nat
  | 0, d => d
  | f + 1, d => bif Nat.beq (d % 2) 0 then oddp f (d / 2) else d
def sqs : Nat → Nat → Nat → Bool
  | 0, _, _ => false
  | f + 1, x, n => bif Nat.beq x (n - 1) then true else sqs f (x * x % n) n
def strongX (x n : Nat) : Bool := bif Nat.beq x 1 then true else sqs 32 x n
def strong (b n : Nat) : Bool := strongX (pw b (oddp 32 (n - 1)) n) n
/-- The test of one number, as the kernel runs it. -/
def psp (n : Nat) : Bool := bif Nat.beq (pw 2 (n - 1) n) 1 then bif strong 2 n then bif strong 3 n then bif strong 5 n then strong 7 n else false else false else false else false
theorem oddp_eq : ∀ f s d, d % 2 = 1 → s ≤ f → oddp f (2 ^ s * d) = d
  | 0, s, d, _, h => by
    obtain rfl : s = 0 := by omega
    simp [oddp]
  | f + 1, 0, d, hd, _ => by
    have : Nat.beq (d % 2) 0 = false := by rw [hd]; rfl
    unfold oddp
    rw [Nat.pow_zero, Nat.one_mul, this]
    rfl
  | f + 1, s + 1, d, hd, h => by
    have e : 2 ^ (s + 1) * d = 2 * (2 ^ s * d) := by rw [Nat.pow_succ]; grind
    have e2 : Nat.beq (2 ^ (s + 1) * d % 2) 0 = true := by rw [e, Nat.mul_mod_right]; rfl
    have e3 : 2 ^ (s + 1) * d / 2 = 2 ^ s * d := by rw [e]; omega
    unfold oddp
    rw [e2, e3]
    exact oddp_eq f s d hd (by omega)
theorem sqs_of (n : Nat) : ∀ f x i, i < f → x % n = x → x ^ (2 ^ i) % n = n - 1 → sqs f x n = true
  | 0, _, _, h, _, _ => by omega
  | f + 1, x, 0, _, hx, h => by
    rw [Nat.pow_zero, Nat.pow_one, hx] at h
    have : Nat.beq x (n - 1) = true := Nat.beq_eq ▸ (by rw [h])
    unfold sqs
    rw [this]; rfl
  | f + 1, x, i + 1, hi, hx, h => by
    unfold sqs
    cases Nat.beq x (n - 1)
    · refine sqs_of n f (x * x % n) i (by omega) (Nat.mod_mod _ _) ?_
      rw [← Nat.pow_mod, ← Nat.pow_two, ← Nat.pow_mul, ← Nat.pow_succ']
      exact h
    · rfl
theorem strong_of {b n : Nat} (hlt : n ≤ 2147483647) (hn : 2 < n) (h : Ps b n) : strong b n = true := by
  obtain ⟨s, d, e, hd, h⟩ := h
  have hs : s ≤ 32 := by
    apply Nat.le_of_not_lt
    intro hlt2
    have h1 : 2 ^ 33 ≤ 2 ^ s := Nat.pow_le_pow_right (by omega) hlt2
    have h2 : 2 ^ s * 1 ≤ 2 ^ s * d := Nat.mul_le_mul_left _ (by omega)
    omega
  unfold strong
  rw [e, oddp_eq 32 s d hd hs, pw_eq]
  unfold strongX
  rcases h with h | ⟨i, hi, h⟩
  · rw [h]; rfl
  · cases Nat.beq (b ^ d % n) 1
    · refine sqs_of n 32 _ i (by omega) (Nat.mod_mod _ _) ?_
      rw [← Nat.pow_mod, ← Nat.pow_mul, Nat.mul_comm]
      exact h
    · rfl
theorem psp_of {n : Nat} (hlt : n ≤ 2147483647) (hn : 2 < n) (h : All n) : psp n = true := by
  unfold psp
  rw [pw_eq, h.a2.fermat hn, strong_of hlt hn h.a2, strong_of hlt hn h.a3, strong_of hlt hn h.a5, strong_of hlt hn h.a7]
  rfl
def loopA : Nat → Nat → Nat → Bool
  | 0, _, _ => true
  | k + 1, n, s => bif psp n then false else loopA k (n + s) s
theorem loopA_of : ∀ K n s, loopA K n s = true → ∀ k, k < K → psp (n + k * s) = false
  | 0, _, _, _, k, hk => by omega
  | K + 1, n, s, h, k, hk => by
    unfold loopA at h
    cases hp : psp n
    · rw [hp] at h
      match k, hk with
      | 0, _ => rw [Nat.zero_mul]; exact hp
      | k + 1, hk =>
        have := loopA_of K (n + s) s h k (by omega)
        rw [Nat.succ_mul, show n + (k * s + s) = n + s + k * s by omega]
        exact this
    · rw [hp] at h; exact nomatch h
def goA (p : Nat) : Nat → Bool
  | 0 => false
  | l + 1 => loopA ((2147483647 / p - 1) / (l + 1)) (p + p * (l + 1)) (p * (l + 1))
def oneA (p : Nat) : Bool := bif Nat.beq (pw 2 (p - 1) p) 1 then goA p (lam p) else true
def chkA : Nat → Nat → Bool
  | 0, _ => true
  | f + 1, p => bif oneA p then chkA f (p + 2) else false
theorem goA_of {p : Nat} (hp : 1 ≤ p) : ∀ {l : Nat}, goA p l = true → ∀ k, 1 ≤ k → p + k * (p * l) ≤ 2147483647 → psp (p + k * (p * l)) = false
  | 0, h, _, _, _ => nomatch h
  | l + 1, h, k, hk, hle => by
    have h1 : k - 1 < (2147483647 / p - 1) / (l + 1) := by
      have h2 : (1 + k * (l + 1)) * p ≤ 2147483647 := by
        have : (1 + k * (l + 1)) * p = p + k * (p * (l + 1)) := by grind
        omega
      have h3 := (Nat.le_div_iff_mul_le (by omega)).2 h2
      have h4 : k ≤ (2147483647 / p - 1) / (l + 1) := (Nat.le_div_iff_mul_le (by omega)).2 (by omega)
      omega
    have h5 := loopA_of _ _ _ h (k - 1) h1
    obtain ⟨j, rfl⟩ : ∃ j, k = j + 1 := ⟨k - 1, by omega⟩
    rw [Nat.add_sub_cancel] at h5
    rw [show p + (j + 1) * (p * (l + 1)) = p + p * (l + 1) + j * (p * (l + 1)) by grind]
    exact h5
theorem chkA_of : ∀ f p, chkA f p = true → ∀ i, i < f → oneA (p + 2 * i) = true
  | 0, _, _, _, h => by omega
  | f + 1, p, h, i, hi => by
    unfold chkA at h
    cases ho : oneA p
    · rw [ho] at h; exact nomatch h
    · rw [ho] at h
      match i, hi with
      | 0, _ => exact ho
      | i + 1, hi =>
        have := chkA_of f (p + 2) h i (by omega)
        rw [show p + 2 * (i + 1) = p + 2 + 2 * i by omega]
        exact this
theorem isPr2 : IsPr 2 := ⟨by omega, by omega, fun d h1 h2 => by have := Nat.mul_le_mul h1 h1; omega⟩
theorem isPr3 : IsPr 3 := ⟨by omega, by omega, fun d h1 h2 => by have := Nat.mul_le_mul h1 h1; omega⟩
theorem isPr5 : IsPr 5 := ⟨by omega, by omega, fun d h1 h2 => by
  have h3 : d < 3 := (by apply Nat.lt_of_not_le; intro h; have := Nat.mul_le_mul h h; omega)
  obtain rfl : d = 2 := by omega
  decide⟩
theorem isPr7 : IsPr 7 := ⟨by omega, by omega, fun d h1 h2 => by
  have h3 : d < 3 := (by apply Nat.lt_of_not_le; intro h; have := Nat.mul_le_mul h h; omega)
  obtain rfl : d = 2 := by omega
  decide⟩
/-- The four facts of Fermat at a prime above 7. -/
theorem four {p : Nat} (hp : IsPr p) (h7 : 7 < p) : 2 ^ (p - 1) % p = 1 ∧ 3 ^ (p - 1) % p = 1 ∧ 5 ^ (p - 1) % p = 1 ∧ 7 ^ (p - 1) % p = 1 :=
  ⟨fermat hp (not_wit hp isPr2 (by omega)), fermat hp (not_wit hp isPr3 (by omega)), fermat hp (not_wit hp isPr5 (by omega)), fermat hp (not_wit hp isPr7 (by omega))⟩
/-- Case A: a prime p whose test oneA holds divides no other number that passes. -/
theorem caseA {n p : Nat} (hn : 2 < n) (hlt : n ≤ 2147483647) (ha : All n) (hp : IsPr p) (h7 : 7 < p) (hs : p < 46657) (hd : p ∣ n) (ho : oneA p = true) : n = p := by
  obtain ⟨f2, f3, f5, f7⟩ := four hp h7
  obtain ⟨k, hk⟩ := cofactor hn ha hp (by omega) hd f2 f3 f5 f7
  unfold oneA at ho
  rw [pw_eq, f2] at ho
  rcases Nat.eq_zero_or_pos k with e | e
  · rw [e] at hk; omega
  · have h1 := goA_of (by omega) ho k e (by omega)
    rw [← hk, psp_of hlt hn ha] at h1
    exact nomatch h1
end Go.Proofs.Ytfigimfdojbkeaa.Mil

namespace Go.Proofs.Ytfigimfdojbkeaa.Mil

def cnt : Nat → Nat → Nat → Nat
  | 0, _, _ => 0
  | f + 1, x, p => bif Nat.beq x 1 then 0 else cnt f (x * x % p) p + 1
/-- How often b^u must be squared to be 1 modulo p (u: the odd part of p - 1). -/
def typ (b p : Nat) : Nat := cnt 33 (pw b (oddp 32 (p - 1)) p) p
theorem cnt_eq (p : Nat) : ∀ f x i, i < f → x % p = x → x ^ (2 ^ i) % p = 1 → (∀ j, j < i → x ^ (2 ^ j) % p ≠ 1) → cnt f x p = i
  | 0, _, _, h, _, _, _ => by omega
  | f + 1, x, 0, _, hx, h, _ => by
    rw [Nat.pow_zero, Nat.pow_one, hx] at h
    unfold cnt
    rw [h]; rfl
  | f + 1, x, i + 1, hi, hx, h, hj => by
    have h0 := hj 0 (by omega)
    rw [Nat.pow_zero, Nat.pow_one, hx] at h0
    have e : Nat.beq x 1 = false := by
      cases hb : Nat.beq x 1
      · rfl
      · exact absurd (Nat.eq_of_beq_eq_true hb) h0
    have sq : ∀ k, (x * x % p) ^ (2 ^ k) % p = x ^ (2 ^ (k + 1)) % p := fun k => by
      rw [← Nat.pow_mod, ← Nat.pow_two, ← Nat.pow_mul, ← Nat.pow_succ']
    unfold cnt
    rw [e]
    show cnt f (x * x % p) p + 1 = i + 1
    rw [cnt_eq p f (x * x % p) i (by omega) (Nat.mod_mod _ _) (by rw [sq]; exact h) (fun j hk => by rw [sq]; exact hj (j + 1) (by omega))]
theorem split2 : ∀ f m, 0 < m → m < 2 ^ f → ∃ s u, m = 2 ^ s * u ∧ u % 2 = 1 ∧ s ≤ f
  | 0, m, h1, h2 => by simp at h2; omega
  | f + 1, m, h1, h2 => by
    by_cases e : m % 2 = 1
    · exact ⟨0, m, by simp, e, by omega⟩
    · obtain ⟨s, u, hm, hu, hs⟩ := split2 f (m / 2) (by omega) (by rw [Nat.pow_succ] at h2; omega)
      exact ⟨s + 1, u, by rw [Nat.pow_succ, Nat.mul_right_comm, ← hm]; omega, hu, by omega⟩
theorem odd_cop {d : Nat} (h : d % 2 = 1) : ∀ s, Nat.Coprime d (2 ^ s)
  | s => by
    refine Nat.Coprime.pow_right s ?_
    unfold Nat.Coprime
    have h1 := Nat.gcd_dvd_right d 2
    have h2 := Nat.gcd_dvd_left d 2
    have h3 := Nat.le_of_dvd (by omega) h1
    have h4 : Nat.gcd d 2 ≠ 0 := fun e => by rw [e] at h1; have := Nat.zero_dvd.1 h1; omega
    have h5 : Nat.gcd d 2 ≠ 2 := fun e => by rw [e] at h2; have := Nat.mod_eq_zero_of_dvd h2; omega
    omega
theorem pow_one_dvd {b p x y : Nat} (hp : 1 < p) (h : b ^ x % p = 1) (hd : x ∣ y) : b ^ y % p = 1 := by
  obtain ⟨k, rfl⟩ := hd; exact pow_one_mul hp h k
/-- b^(2^i d) and b^(2^s u) are 1, d is odd: then b^(2^i u) is 1. -/
theorem even_part {b p i d s u : Nat} (hp : 1 < p) (hd : d % 2 = 1) (h1 : b ^ (2 ^ i * d) % p = 1) (h2 : b ^ (2 ^ s * u) % p = 1) : b ^ (2 ^ i * u) % p = 1 := by
  refine pow_one_dvd hp (pow_one_gcd hp _ _ h1 h2) ?_
  have h3 : Nat.gcd (2 ^ i * d) (2 ^ s * u) ∣ (2 ^ i * u) * d := Nat.dvd_trans (Nat.gcd_dvd_left _ _) ⟨u, by grind⟩
  have h4 : Nat.gcd (2 ^ i * d) (2 ^ s * u) ∣ (2 ^ i * u) * 2 ^ s := Nat.dvd_trans (Nat.gcd_dvd_right _ _) ⟨2 ^ i, by grind⟩
  have h5 := Nat.dvd_gcd h3 h4
  rw [Nat.gcd_mul_left, odd_cop hd s, Nat.mul_one] at h5
  exact h5
theorem neg_odd {p : Nat} (hp : 2 ≤ p) {a u : Nat} (h : a % p = p - 1) (hu : u % 2 = 1) : a ^ u % p = p - 1 := by
  obtain ⟨v, rfl⟩ : ∃ v, u = 2 * v + 1 := ⟨u / 2, by omega⟩
  have h2 := neg_sq hp h
  rw [Nat.mod_eq_of_lt (show 1 < p by omega)] at h2
  rw [Nat.pow_succ, one_mul_mod (pow_one_mul (by omega) h2 v), h]
/-- All prime divisors have one type. -/
theorem types {b n : Nat} (hlt : n ≤ 2147483647) (hn : 2 < n) (h : Ps b n) : ∃ T, ∀ p, IsPr p → 2 < p → p ∣ n → b % p ≠ 0 → typ b p = T := by
  obtain ⟨s, d, e, hd, h⟩ := h
  have hs : s ≤ 32 := by
    apply Nat.le_of_not_lt
    intro hlt2
    have h1 : 2 ^ 33 ≤ 2 ^ s := Nat.pow_le_pow_right (by omega) hlt2
    have h2 : 2 ^ s * 1 ≤ 2 ^ s * d := Nat.mul_le_mul_left _ (by omega)
    omega
  have go : ∀ p, IsPr p → 2 < p → ∃ t u, p - 1 = 2 ^ t * u ∧ u % 2 = 1 ∧ t ≤ 32 ∧ oddp 32 (p - 1) = u := fun p hp h2 => by
    have := hp.small
    obtain ⟨t, u, h1, h3, h4⟩ := split2 32 (p - 1) (by omega) (by omega)
    exact ⟨t, u, h1, h3, h4, by rw [h1]; exact oddp_eq 32 t u h3 h4⟩
  rcases h with h | ⟨i, hi, h⟩
  · refine ⟨0, fun p hp h2 hpn hb => ?_⟩
    obtain ⟨t, u, h3, h4, h5, h6⟩ := go p hp h2
    have hf := fermat hp hb
    rw [h3] at hf
    have h7 := even_part (i := 0) (by omega) hd (by rw [Nat.pow_zero, Nat.one_mul]; exact one_dvd (by omega) hpn h) hf
    rw [Nat.pow_zero, Nat.one_mul] at h7
    unfold typ
    rw [h6, pw_eq, h7]
    rfl
  · refine ⟨i + 1, fun p hp h2 hpn hb => ?_⟩
    obtain ⟨t, u, h3, h4, h5, h6⟩ := go p hp h2
    have hf := fermat hp hb
    rw [h3] at hf
    have hm := neg_dvd (show 1 < p by omega) (by omega) hpn h
    have hq := neg_sq (by omega) hm
    rw [Nat.mod_eq_of_lt (show 1 < p by omega), ← Nat.pow_mul, show 2 ^ i * d * 2 = 2 ^ (i + 1) * d by rw [Nat.pow_succ]; grind] at hq
    have h7 := even_part (by omega) hd hq hf
    unfold typ
    rw [h6, pw_eq]
    refine cnt_eq p 33 _ (i + 1) (by omega) (Nat.mod_mod _ _) (by rw [← Nat.pow_mod, ← Nat.pow_mul, Nat.mul_comm]; exact h7) (fun j hj h8 => ?_)
    rw [← Nat.pow_mod, ← Nat.pow_mul] at h8
    have h9 : b ^ (2 ^ i * d * u) % p = 1 := pow_one_dvd (by omega) h8 (by
      obtain ⟨r, rfl⟩ : ∃ r, i = j + r := ⟨i - j, by omega⟩
      exact ⟨2 ^ r * d, by rw [Nat.pow_add]; grind⟩)
    rw [Nat.pow_mul, neg_odd (by omega) hm h4] at h9
    omega
def invE : Nat → Nat → Nat → Nat
  | 0, _, _ => 0
  | f + 1, a, m => bif Nat.beq (a % m) 1 then 1 else (m * (a % m - invE f m (a % m) % (a % m)) + 1) / (a % m)
def goB (P l : Nat) : Bool :=
  bif Nat.beq (Nat.gcd P l) 1 then bif Nat.beq (P * (invE 40 P l % l) % l) (1 % l) then loopA (2147483647 / (P * l) + 1) (P * (invE 40 P l % l)) (P * l) else false else true
theorem goB_of {P l n : Nat} (hP : 0 < P) (hl : 0 < l) (hn : 0 < n) (hlt : n ≤ 2147483647) (h : goB P l = true) (hd : P ∣ n) (h1 : l ∣ n - 1) : psp n = false := by
  obtain ⟨j, rfl⟩ := hd
  have hj : P * j % l = 1 % l := by
    obtain ⟨k, hk⟩ := h1
    rw [show P * j = 1 + l * k by omega, Nat.add_mul_mod_self_left]
  have hc : Nat.gcd P l = 1 := by
    have h2 : Nat.gcd P l ∣ P * j := Nat.dvd_trans (Nat.gcd_dvd_left _ _) ⟨j, rfl⟩
    have h3 : Nat.gcd P l ∣ P * j - 1 := Nat.dvd_trans (Nat.gcd_dvd_right _ _) h1
    have h4 := Nat.dvd_sub h2 h3
    rw [show P * j - (P * j - 1) = 1 by omega] at h4
    exact Nat.dvd_one.1 h4
  unfold goB at h
  rw [hc] at h
  have hvl := Nat.mod_lt (invE 40 P l) hl
  generalize invE 40 P l % l = v at h hvl
  cases hb : Nat.beq (P * v % l) (1 % l)
  · rw [hb] at h; exact nomatch h
  · rw [hb] at h
    have hv := Nat.eq_of_beq_eq_true hb
    have e1 : j * (P * v) % l = j % l := by rw [Nat.mul_mod, hv, ← Nat.mul_mod, Nat.mul_one]
    have e2 : P * j * v % l = v := by rw [Nat.mul_mod, hj, ← Nat.mul_mod, Nat.one_mul, Nat.mod_eq_of_lt hvl]
    have e3 : j % l = v := by rw [← e1, ← e2]; congr 1; grind
    have e4 : P * j = P * v + j / l * (P * l) := by
      have := Nat.div_add_mod j l
      rw [e3] at this
      rw [← this, Nat.mul_add, show (l * (j / l) + v) / l = j / l by rw [this]]
      grind
    have hk : j / l < 2147483647 / (P * l) + 1 := by
      have h5 : j / l * (P * l) ≤ 2147483647 := by omega
      have := (Nat.le_div_iff_mul_le (Nat.mul_pos hP hl)).2 h5
      omega
    rw [e4]
    exact loopA_of _ _ _ h _ hk
/-- The types of p for the four witnesses in one number. -/
def code (p : Nat) : Nat := typ 2 p + 64 * (typ 3 p + 64 * (typ 5 p + 64 * typ 7 p))
/-- Case B: two primes of one code whose test goB holds do not both divide a number that passes. -/
theorem caseB {n p q : Nat} (hn : 2 < n) (hlt : n ≤ 2147483647) (ha : All n) (hp : IsPr p) (hq : IsPr q) (h7p : 7 < p) (h7q : 7 < q) (hsp : p < 46657) (hsq : q < 46657) (hne : p ≠ q) (hdp : p ∣ n) (hdq : q ∣ n) (ho : code p = code q → goB (p * q) (Nat.lcm (lam p) (lam q)) = true) : False := by
  have hc : code p = code q := by
    obtain ⟨t2, h2⟩ := types hlt hn ha.a2
    obtain ⟨t3, h3⟩ := types hlt hn ha.a3
    obtain ⟨t5, h5⟩ := types hlt hn ha.a5
    obtain ⟨t7, h7⟩ := types hlt hn ha.a7
    have w2 : ∀ {r}, IsPr r → 7 < r → 2 % r ≠ 0 := fun h h' => not_wit h isPr2 (by omega)
    have w3 : ∀ {r}, IsPr r → 7 < r → 3 % r ≠ 0 := fun h h' => not_wit h isPr3 (by omega)
    have w5 : ∀ {r}, IsPr r → 7 < r → 5 % r ≠ 0 := fun h h' => not_wit h isPr5 (by omega)
    have w7 : ∀ {r}, IsPr r → 7 < r → 7 % r ≠ 0 := fun h h' => not_wit h isPr7 (by omega)
    unfold code
    rw [h2 p hp (by omega) hdp (w2 hp h7p), h3 p hp (by omega) hdp (w3 hp h7p), h5 p hp (by omega) hdp (w5 hp h7p), h7 p hp (by omega) hdp (w7 hp h7p),
      h2 q hq (by omega) hdq (w2 hq h7q), h3 q hq (by omega) hdq (w3 hq h7q), h5 q hq (by omega) hdq (w5 hq h7q), h7 q hq (by omega) hdq (w7 hq h7q)]
  have hb := ho hc
  have lamn : ∀ {r}, IsPr r → 7 < r → r < 46657 → r ∣ n → lam r ∣ n - 1 := fun {r} hr h7 hs hd => by
    obtain ⟨f2, f3, f5, f7⟩ := four hr h7
    obtain ⟨k, hk⟩ := cofactor hn ha hr (by omega) hd f2 f3 f5 f7
    rw [hk, show r + k * (r * lam r) - 1 = (r - 1) + lam r * (k * r) by have : k * (r * lam r) = lam r * (k * r) := (by grind); omega]
    exact Nat.dvd_add (lam_last r) ⟨_, rfl⟩
  have hpos : ∀ {r}, 7 < r → 0 < lam r := fun {r} h => Nat.pos_of_dvd_of_pos (lam_last r) (by omega)
  have hcop : Nat.Coprime p q := hq.coprime (by
    intro h
    have h1 := Nat.dvd_of_mod_eq_zero h
    rcases Nat.lt_or_ge q p with hl | hl
    · have := hp.coprime (x := q) (by rw [Nat.mod_eq_of_lt hl]; omega)
      have h2 := Nat.gcd_eq_left h1
      rw [this] at h2; omega
    · have := Nat.le_of_dvd (by omega) h1
      omega)
  have hr := goB_of (Nat.mul_pos (by omega) (by omega)) (Nat.lcm_pos (hpos h7p) (hpos h7q)) (by omega) hlt hb (hcop.mul_dvd_of_dvd_of_dvd hdp hdq) (Nat.lcm_dvd (lamn hp h7p hsp hdp) (lamn hq h7q hsq hdq))
  rw [psp_of hlt hn ha] at hr
  exact nomatch hr
end Go.Proofs.Ytfigimfdojbkeaa.Mil

namespace Go.Proofs.Ytfigimfdojbkeaa.Mil

/-- The primes from 11 to 997 with their codes. -/
def tab : List (Nat × Nat) := [(11, 262145), (13, 532482), (17, 1065219), (19, 65), (23, 266240), (29, 4226), (31, 64), (37, 8258), (41, 794818), (43, 266305), (47, 4096), (53, 270466), (59, 1), (61, 528450), (67, 266305), (71, 262144), (73, 798848), (79, 262208), (83, 4097), (89, 794816), (97, 1331460), (101, 524418), (103, 4160), (107, 266241), (109, 2), (113, 278786), (127, 266304), (131, 1), (137, 536770), (139, 65), (149, 262274), (151, 262208), (157, 532546), (163, 266305), (167, 4096), (173, 532610), (179, 262145), (181, 524290), (191, 262144), (193, 811269), (197, 270466), (199, 64), (211, 262209), (223, 4160), (227, 4097), (229, 528386), (233, 536768), (239, 262144), (241, 1061059), (251, 1), (257, 2130436), (263, 266240), (269, 524418), (271, 64), (277, 270338), (281, 532673), (283, 4161), (293, 532610), (307, 4161), (311, 0), (313, 798722), (317, 270466), (331, 262209), (337, 803008), (347, 266241), (349, 528450), (353, 1331523), (359, 262144), (367, 4160), (373, 270402), (379, 262209), (383, 4096), (389, 130), (397, 532546), (401, 786691), (409, 786562), (419, 1), (421, 266242), (431, 262144), (433, 1064963), (439, 64), (443, 266241), (449, 1053061), (457, 274562), (461, 524418), (463, 266304), (467, 4097), (479, 0), (487, 266304), (491, 262145), (499, 262209), (503, 4096), (509, 528514), (521, 790722), (523, 4161), (541, 262146), (547, 266305), (557, 270466), (563, 4097), (569, 524482), (571, 262209), (577, 1597700), (587, 4097), (593, 1065218), (599, 262144), (601, 794624), (607, 4160), (613, 8258), (617, 536769), (619, 65), (631, 262208), (641, 1597894), (643, 4161), (647, 4096), (653, 8322), (659, 262145), (661, 528450), (673, 1069252), (677, 532610), (683, 266241), (691, 65), (701, 4226), (709, 4098), (719, 0), (727, 4160), (733, 532482), (739, 262209), (743, 266240), (751, 262208), (757, 8194), (761, 790722), (769, 2126087), (773, 532610), (787, 4161), (797, 532610), (809, 8386), (811, 65), (821, 266370), (823, 266304), (827, 266241), (829, 524290), (839, 0), (853, 532546), (857, 798914), (859, 65), (863, 266240), (877, 8258), (881, 1061120), (883, 266305), (887, 4096), (907, 266305), (911, 262144), (919, 262208), (929, 1323332), (937, 798784), (941, 524418), (947, 266241), (953, 274626), (967, 266304), (971, 1), (977, 803075), (983, 4096), (991, 262208), (997, 532546)]
def noSmall (i : Nat) : Nat → Bool
  | 0 => true
  | d + 1 => bif Nat.ble ((d + 2) * (d + 2)) i then bif Nat.beq (i % (d + 2)) 0 then false else noSmall i d else noSmall i d
theorem noSmall_of {i : Nat} (h : IsPr i) : ∀ d, noSmall i d = true
  | 0 => rfl
  | d + 1 => by
    have ih := noSmall_of h d
    unfold noSmall
    cases hb : Nat.ble ((d + 2) * (d + 2)) i
    · exact ih
    · have h1 := h.div (d + 2) (by omega) (Nat.le_of_ble_eq_true hb)
      cases hc : Nat.beq (i % (d + 2)) 0
      · exact ih
      · exact absurd (Nat.eq_of_beq_eq_true hc) h1
def has (i : Nat) : List (Nat × Nat) → Bool
  | [] => false
  | x :: l => bif Nat.beq x.1 i then Nat.beq (code i) x.2 else has i l
theorem has_mem {i : Nat} : ∀ {l : List (Nat × Nat)}, has i l = true → (i, code i) ∈ l
  | [], h => nomatch h
  | (a, c) :: l, h => by
    unfold has at h
    cases hb : Nat.beq a i
    · have h : has i l = true := by simpa [hb] using h
      exact List.mem_cons_of_mem _ (has_mem h)
    · have h : Nat.beq (code i) c = true := by simpa [hb] using h
      rw [← Nat.eq_of_beq_eq_true hb, Nat.eq_of_beq_eq_true hb, Nat.eq_of_beq_eq_true h]
      exact List.mem_cons_self
/-- All primes from 8 on below 8 + f are in the table. -/
def chkT : Nat → Nat → Bool
  | 0, _ => true
  | f + 1, i => bif noSmall i 30 then bif has i tab then chkT f (i + 1) else false else chkT f (i + 1)
theorem chkT_of : ∀ f i, chkT f i = true → ∀ p, i ≤ p → p < i + f → IsPr p → (p, code p) ∈ tab
  | 0, i, _, p, _, _, _ => by omega
  | f + 1, i, h, p, h1, h2, hp => by
    unfold chkT at h
    by_cases e : p = i
    · subst e
      rw [noSmall_of hp] at h
      cases hh : has p tab
      · rw [hh] at h; exact nomatch h
      · exact has_mem hh
    · refine chkT_of f (i + 1) ?_ p (by omega) (by omega) hp
      cases hn : noSmall i 30 <;> rw [hn] at h
      · exact h
      · cases hh : has i tab <;> rw [hh] at h
        · exact nomatch h
        · exact h
def rowB (p c : Nat) : List (Nat × Nat) → Bool
  | [] => true
  | x :: l => bif Nat.beq c x.2 then bif Nat.blt p x.1 then bif goB (p * x.1) (Nat.lcm (lam p) (lam x.1)) then rowB p c l else false else rowB p c l else rowB p c l
def allB : List (Nat × Nat) → Bool
  | [] => true
  | x :: l => bif rowB x.1 x.2 tab then allB l else false
theorem rowB_of {p c q : Nat} (hlt : p < q) : ∀ {l : List (Nat × Nat)}, rowB p c l = true → (q, c) ∈ l → goB (p * q) (Nat.lcm (lam p) (lam q)) = true
  | [], _, h => nomatch h
  | x :: l, h, hm => by
    unfold rowB at h
    rcases List.mem_cons.1 hm with e | hm
    · subst e
      have h1 : Nat.beq c c = true := Nat.beq_refl c
      have h2 : Nat.blt p q = true := by simp [Nat.blt_eq]; exact hlt
      simp only [h1, h2, cond_true] at h
      cases hg : goB (p * q) (Nat.lcm (lam p) (lam q))
      · rw [hg] at h; exact nomatch h
      · rfl
    · refine rowB_of hlt (l := l) ?_ hm
      cases h1 : Nat.beq c x.2 <;> rw [h1] at h
      · exact h
      · cases h2 : Nat.blt p x.1 <;> rw [h2] at h
        · exact h
        · cases h3 : goB (p * x.1) (Nat.lcm (lam p) (lam x.1)) <;> rw [h3] at h
          · exact nomatch h
          · exact h
theorem allB_of : ∀ {l : List (Nat × Nat)}, allB l = true → ∀ x, x ∈ l → rowB x.1 x.2 tab = true
  | [], _, _, h => nomatch h
  | y :: l, h, x, hm => by
    unfold allB at h
    cases h1 : rowB y.1 y.2 tab <;> rw [h1] at h
    · exact nomatch h
    · rcases List.mem_cons.1 hm with e | hm
      · rw [e]; exact h1
      · exact allB_of h x hm
/-- No square of a prime below 1001 divides. -/
def chkW : Nat → Nat → Bool
  | 0, _ => true
  | f + 1, p => bif Nat.beq (pw 2 (p - 1) (p * p)) 1 then false else chkW f (p + 1)
theorem chkW_of : ∀ f i, chkW f i = true → ∀ p, i ≤ p → p < i + f → 2 ^ (p - 1) % (p * p) ≠ 1
  | 0, i, _, p, _, _ => by omega
  | f + 1, i, h, p, h1, h2 => by
    unfold chkW at h
    cases hb : Nat.beq (pw 2 (i - 1) (i * i)) 1 <;> rw [hb] at h
    · by_cases e : p = i
      · subst e
        rw [pw_eq] at hb
        intro h3
        rw [h3] at hb
        exact nomatch hb
      · exact chkW_of f (i + 1) h p (by omega) (by omega)
    · exact nomatch h
def big (p : Nat) : Nat := Nat.gcd (2 ^ (p - 1) - 1) (Nat.gcd (3 ^ (p - 1) - 1) (Nat.gcd (5 ^ (p - 1) - 1) (7 ^ (p - 1) - 1)))
def strip (P : Nat) : Nat → Nat → Nat
  | 0, R => R
  | k + 1, R => strip P k (R / Nat.gcd R P)
theorem strip_of {P q : Nat} (hc : Nat.Coprime q P) : ∀ k R, 0 < R → q ∣ R → q ∣ strip P k R
  | 0, _, _, h => h
  | k + 1, R, h0, h => by
    refine strip_of hc k _ (Nat.div_pos (Nat.le_of_dvd h0 (Nat.gcd_dvd_left _ _)) (Nat.gcd_pos_of_pos_left _ h0)) ?_
    obtain ⟨t, ht⟩ := Nat.gcd_dvd_left R P
    have hg : 0 < Nat.gcd R P := Nat.gcd_pos_of_pos_left _ h0
    have h1 : R / Nat.gcd R P = t := by
      have := Nat.mul_div_cancel_left t hg
      rw [← ht] at this
      exact this
    rw [h1]
    rw [ht] at h
    refine (Nat.Coprime.dvd_of_dvd_mul_left ?_ h)
    exact Nat.Coprime.coprime_dvd_right (Nat.gcd_dvd_right R P) hc
def oneC (p : Nat) : Bool := bif Nat.beq (strip (fc p) 40 (big p)) 1 then true else Nat.beq p 601 
def chkC : Nat → Nat → Bool
  | 0, _ => true
  | f + 1, p => bif noSmall p 30 then bif oneC p then chkC f (p + 1) else false else chkC f (p + 1)
theorem chkC_of : ∀ f i, chkC f i = true → ∀ p, i ≤ p → p < i + f → IsPr p → oneC p = true
  | 0, i, _, p, _, _, _ => by omega
  | f + 1, i, h, p, h1, h2, hp => by
    unfold chkC at h
    by_cases e : p = i
    · subst e
      rw [noSmall_of hp] at h
      cases hh : oneC p
      · rw [hh] at h; exact nomatch h
      · rfl
    · refine chkC_of f (i + 1) ?_ p (by omega) (by omega) hp
      cases hn : noSmall i 30 <;> rw [hn] at h
      · exact h
      · cases hh : oneC i <;> rw [hh] at h
        · exact nomatch h
        · exact h
theorem ctT : chkT 993 8 = true := by decide +kernel
theorem ctW : chkW 993 8 = true := by decide +kernel
theorem ctC : chkC 993 8 = true := by decide +kernel
theorem ctB : allB tab = true := by decide +kernel
theorem c601 : strip (fc 601) 40 (big 601) = 1201 := by decide +kernel
theorem p601 : psp (601 * 1201) = false := by decide +kernel
theorem s1201 : noSmall 1201 40 = true := by decide +kernel
theorem noSmall_div {i : Nat} : ∀ f, noSmall i f = true → ∀ d, 2 ≤ d → d < 2 + f → d * d ≤ i → i % d ≠ 0
  | 0, _, d, h1, h2, _ => by omega
  | f + 1, h, d, h1, h2, h3 => by
    unfold noSmall at h
    by_cases e : d = f + 2
    · subst e
      have h4 : Nat.ble ((f + 2) * (f + 2)) i = true := by rw [Nat.ble_eq]; exact h3
      rw [h4] at h
      intro h5
      have h6 : Nat.beq (i % (f + 2)) 0 = true := by rw [h5]; rfl
      rw [h6] at h
      exact nomatch h
    · refine noSmall_div f ?_ d h1 (by omega) h3
      cases h4 : Nat.ble ((f + 2) * (f + 2)) i <;> rw [h4] at h
      · exact h
      · cases h6 : Nat.beq (i % (f + 2)) 0 <;> rw [h6] at h
        · exact h
        · exact nomatch h
theorem isPr1201 : IsPr 1201 := ⟨by omega, by omega, fun d h1 h2 => noSmall_div 40 s1201 d h1 (by
  apply Nat.lt_of_not_le; intro h; have := Nat.mul_le_mul h h; omega) h2⟩
/-- The least divisor from 2 on. -/
theorem least_div {n : Nat} (h2 : 2 ≤ n) (hs : n ≤ 2147483647) : ∃ p, IsPr p ∧ p ∣ n ∧ ∀ d, 2 ≤ d → d ∣ n → p ≤ d := by
  have go : ∀ k, k ≤ n → (∃ p, p < k ∧ 2 ≤ p ∧ p ∣ n ∧ ∀ d, 2 ≤ d → d ∣ n → p ≤ d) ∨ ∀ d, 2 ≤ d → d < k → ¬ d ∣ n := by
    intro k
    induction k with
    | zero => intro _; exact .inr fun d _ h => by omega
    | succ k ih =>
      intro hk
      rcases ih (by omega) with ⟨p, h1, h3⟩ | h
      · exact .inl ⟨p, by omega, h3⟩
      · by_cases hd : 2 ≤ k ∧ k ∣ n
        · exact .inl ⟨k, by omega, hd.1, hd.2, fun d h3 h4 => by
            apply Nat.le_of_not_lt; intro h5; exact h d h3 h5 h4⟩
        · refine .inr fun d h3 h4 h5 => ?_
          by_cases e : d = k
          · subst e; exact hd ⟨h3, h5⟩
          · exact h d h3 (by omega) h5
  have pr : ∀ p, 2 ≤ p → p ∣ n → (∀ d, 2 ≤ d → d ∣ n → p ≤ d) → IsPr p := fun p h3 h4 h5 =>
    ⟨h3, by have := Nat.le_of_dvd (by omega) h4; omega, fun d h6 h7 h8 => by
      have h9 := h5 d h6 (Nat.dvd_trans (Nat.dvd_of_mod_eq_zero h8) h4)
      have := Nat.mul_le_mul h6 (Nat.le_refl d)
      omega⟩
  rcases go n (Nat.le_refl n) with ⟨p, _, h3, h4, h5⟩ | h
  · exact ⟨p, pr p h3 h4 h5, h4, h5⟩
  · have h5 : ∀ d, 2 ≤ d → d ∣ n → n ≤ d := fun d h6 h7 => by
      apply Nat.le_of_not_lt; intro h8; exact h d h6 h8 h7
    exact ⟨n, pr n h2 (Nat.dvd_refl n) h5, Nat.dvd_refl n, h5⟩
theorem one_add_pow (p t : Nat) : ∀ k, (1 + p * t) ^ k % (p * p) = (1 + k * (p * t)) % (p * p)
  | 0 => by simp
  | k + 1 => by
    rw [Nat.pow_succ, Nat.mul_mod, one_add_pow p t k, ← Nat.mul_mod]
    rw [show (1 + k * (p * t)) * (1 + p * t) = 1 + (k + 1) * (p * t) + (p * p) * (k * t * t) by grind, Nat.add_mul_mod_self_left]
/-- The square of a small prime divides no number that passes. -/
theorem caseW {n p : Nat} (hn : 2 < n) (ha : Ps 2 n) (hp : IsPr p) (h7 : 7 < p) (hd : p * p ∣ n) (hw : 2 ^ (p - 1) % (p * p) ≠ 1) : False := by
  have h1 := (not_wit hp isPr2 (by omega))
  have hf := fermat hp h1
  have hpp : 1 < p * p := by have := Nat.mul_le_mul (show 2 ≤ p by omega) (show 2 ≤ p by omega); omega
  have e1 : 2 ^ (p - 1) = 1 + p * (2 ^ (p - 1) / p) := by have := Nat.div_add_mod (2 ^ (p - 1)) p; omega
  have e2 : 2 ^ ((p - 1) * p) % (p * p) = 1 := by
    rw [Nat.pow_mul, e1, one_add_pow, show p * (p * (2 ^ (p - 1) / p)) = (p * p) * (2 ^ (p - 1) / p) by grind, Nat.add_mul_mod_self_left, Nat.mod_eq_of_lt hpp]
  have e3 := pow_one_gcd hpp _ _ e2 (one_dvd hpp hd (ha.fermat hn))
  refine hw (pow_one_dvd hpp e3 ?_)
  have hc : Nat.Coprime (Nat.gcd ((p - 1) * p) (n - 1)) p := by
    have h2 : Nat.gcd (Nat.gcd ((p - 1) * p) (n - 1)) p ∣ n - 1 := Nat.dvd_trans (Nat.gcd_dvd_left _ _) (Nat.gcd_dvd_right _ _)
    have h3 : Nat.gcd (Nat.gcd ((p - 1) * p) (n - 1)) p ∣ n := Nat.dvd_trans (Nat.gcd_dvd_right _ _) (Nat.dvd_trans ⟨p, rfl⟩ hd)
    have h4 := Nat.dvd_sub h3 h2
    rw [show n - (n - 1) = 1 by omega] at h4
    exact Nat.dvd_one.1 h4
  exact hc.dvd_of_dvd_mul_right (Nat.gcd_dvd_left _ _)
/-- The product of two primes, the smaller one below 1001. -/
theorem caseC {p q : Nat} (hlt : p * q ≤ 2147483647) (ha : All (p * q)) (hp : IsPr p) (hq : IsPr q) (h7 : 7 < p) (hl : p < q) (ho : oneC p = true) : False := by
  have hn : 2 < p * q := by have := Nat.mul_le_mul (show 2 ≤ p by omega) (show 2 ≤ q by omega); omega
  have h1q : 1 < q := by omega
  have one : ∀ b, Ps b (p * q) → b ^ (q - 1) % q = 1 → q ∣ b ^ (p - 1) - 1 := fun b hb hf => by
    have h1 := one_dvd h1q ⟨p, Nat.mul_comm p q⟩ (hb.fermat hn)
    have e : p * q - 1 = (q - 1) * p + (p - 1) := by
      rw [Nat.sub_mul, Nat.one_mul, Nat.mul_comm q p]
      have := Nat.mul_le_mul_left p (show 1 ≤ q by omega)
      omega
    rw [e, Nat.pow_add, one_mul_mod (pow_one_mul h1q hf p)] at h1
    exact Nat.dvd_of_mod_eq_zero (Nat.sub_mod_eq_zero_of_mod_eq (by rw [h1, Nat.mod_eq_of_lt h1q]))
  obtain ⟨f2, f3, f5, f7⟩ := four hq (by omega)
  have hb : q ∣ big p := Nat.dvd_gcd (one 2 ha.a2 f2) (Nat.dvd_gcd (one 3 ha.a3 f3) (Nat.dvd_gcd (one 5 ha.a5 f5) (one 7 ha.a7 f7)))
  have h0 : 0 < big p := by
    refine Nat.gcd_pos_of_pos_left _ ?_
    have : 2 ^ 1 ≤ 2 ^ (p - 1) := Nat.pow_le_pow_right (by omega) (by omega)
    omega
  have hs := strip_of (P := fc p) (fc_coprime hq p hl).symm 40 _ h0 hb
  unfold oneC at ho
  cases h1 : Nat.beq (strip (fc p) 40 (big p)) 1 <;> rw [h1] at ho
  · have hp6 := Nat.eq_of_beq_eq_true ho
    subst hp6
    rw [c601] at hs
    have hq1 : q = 1201 := by
      apply Classical.byContradiction
      intro hne
      exact not_wit hq isPr1201 hne (Nat.mod_eq_zero_of_dvd hs)
    subst hq1
    have := psp_of hlt hn ha
    rw [p601] at this
    exact nomatch this
  · rw [Nat.eq_of_beq_eq_true h1] at hs
    have := Nat.le_of_dvd (by omega) hs
    omega
/-- A number below 2^31 that 2, 3, 5, 7 do not divide and that passes with these witnesses is a prime. -/
theorem miller (hA : ∀ p, IsPr p → 1001 ≤ p → p < 46341 → oneA p = true) (hT : chkT 993 8 = true) (hW : chkW 993 8 = true) (hC : chkC 993 8 = true) (hB : allB tab = true)
    {n : Nat} (h2 : 2 ≤ n) (hlt : n ≤ 2147483647) (d2 : n % 2 ≠ 0) (d3 : n % 3 ≠ 0) (d5 : n % 5 ≠ 0) (d7 : n % 7 ≠ 0) (ha : All n) : IsPr n := by
  have hn : 2 < n := by omega
  apply Classical.byContradiction
  intro hnp
  have above : ∀ {r}, IsPr r → r ∣ n → 7 < r := fun {r} hr hd => by
    have := hr.two
    apply Nat.lt_of_not_le
    intro hle
    have cs : r = 2 ∨ r = 3 ∨ r = 4 ∨ r = 5 ∨ r = 6 ∨ r = 7 := by omega
    rcases cs with e | e | e | e | e | e <;> subst e
    · exact d2 (Nat.mod_eq_zero_of_dvd hd)
    · exact d3 (Nat.mod_eq_zero_of_dvd hd)
    · exact d2 (Nat.mod_eq_zero_of_dvd (Nat.dvd_trans ⟨2, rfl⟩ hd))
    · exact d5 (Nat.mod_eq_zero_of_dvd hd)
    · exact d2 (Nat.mod_eq_zero_of_dvd (Nat.dvd_trans ⟨3, rfl⟩ hd))
    · exact d7 (Nat.mod_eq_zero_of_dvd hd)
  have atA : ∀ {r}, IsPr r → r ∣ n → 1001 ≤ r → r < 46341 → False := fun {r} hr hd h1 h3 => by
    have := caseA hn hlt ha hr (by omega) (by omega) hd (hA r hr h1 h3)
    exact hnp (this ▸ hr)
  obtain ⟨p, hp, hpn, hmin⟩ := least_div h2 hlt
  have h7p := above hp hpn
  obtain ⟨d, hd2, hdd, hdn⟩ : ∃ d, 2 ≤ d ∧ d * d ≤ n ∧ n % d = 0 := by
    apply Classical.byContradiction
    intro hno
    exact hnp ⟨h2, hlt, fun d h3 h4 h5 => hno ⟨d, h3, h4, h5⟩⟩
  have hpp : p * p ≤ n := by
    have h3 := hmin d hd2 (Nat.dvd_of_mod_eq_zero hdn)
    have := Nat.mul_le_mul h3 h3
    omega
  have root : ∀ {r}, r * r ≤ n → r < 46341 := fun {r} h => by
    apply Nat.lt_of_not_le; intro h3; have := Nat.mul_le_mul h3 h3; omega
  have hps := root hpp
  rcases Nat.lt_or_ge p 1001 with hp1 | hp1
  · obtain ⟨M, hM⟩ := hpn
    have hM2 : p ≤ M := Nat.le_of_mul_le_mul_left (by rw [← hM]; exact hpp) (by omega)
    have hMn : M ∣ n := ⟨p, by rw [hM, Nat.mul_comm]⟩
    have hMle := Nat.le_of_dvd (by omega) hMn
    obtain ⟨q, hq, hqM, hqmin⟩ := least_div (n := M) (by omega) (by omega)
    have hqn := Nat.dvd_trans hqM hMn
    have h7q := above hq hqn
    have hpq := hmin q (by omega) hqn
    by_cases e : q = p
    · subst e
      refine caseW hn ha.a2 hp h7p ?_ (chkW_of 993 8 hW q (by omega) (by omega))
      rw [hM]
      exact Nat.mul_dvd_mul_left q hqM
    · by_cases hMp : IsPr M
      · have hMq : M = q := by
          have h3 := hqmin M (by omega) (Nat.dvd_refl M)
          apply Classical.byContradiction
          intro hne
          exact not_wit hq hMp (fun h => hne h.symm) (Nat.mod_eq_zero_of_dvd hqM)
        subst hMq
        rw [hM] at hlt ha
        exact caseC hlt ha hp hMp h7p (by omega) (chkC_of 993 8 hC p (by omega) (by omega) hp)
      · obtain ⟨c, hc2, hcc, hcM⟩ : ∃ c, 2 ≤ c ∧ c * c ≤ M ∧ M % c = 0 := by
          apply Classical.byContradiction
          intro hno
          exact hMp ⟨by omega, by omega, fun c h3 h4 h5 => hno ⟨c, h3, h4, h5⟩⟩
        have hqq : q * q ≤ n := by
          have h3 := hqmin c hc2 (Nat.dvd_of_mod_eq_zero hcM)
          have := Nat.mul_le_mul h3 h3
          omega
        have hqs := root hqq
        rcases Nat.lt_or_ge q 1001 with hq1 | hq1
        · have mp := chkT_of 993 8 hT p (by omega) (by omega) hp
          have mq := chkT_of 993 8 hT q (by omega) (by omega) hq
          refine caseB hn hlt ha hp hq h7p h7q (by omega) (by omega) (fun h => e h.symm) ⟨M, hM⟩ hqn (fun hc => ?_)
          exact rowB_of (by omega) (allB_of hB _ mp) (by rw [hc]; exact mq)
        · exact atA hq hqn hq1 hqs
  · exact atA hp hpn hp1 hps
end Go.Proofs.Ytfigimfdojbkeaa.Mil
