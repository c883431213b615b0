/-
  Plain facts on Lehmer's steps: rows of the Euclidean algorithm that the leading bits determine. No program is named here.
  Plain facts on window and difference: 64 bits of a number from a place on; a difference of multiples, word by word.
-/
import Derived.Test.YtpklphdhigkmmaaKnuthA
namespace Go.Proofs.Ytpklphdhigkmmaa

/-- The inequality behind Collins' condition. -/
theorem leh_lt {P Q C D S c d K T : Nat} (h : K + Q * D = P * C) (hK : T ≤ K) (hQ : Q ≤ T) (hT : 1 ≤ T) (hd : d < S) :
    Q * (D * S + d) < P * (C * S + c) := by
  have h1 : P * (C * S + c) = K * S + Q * D * S + P * c := by rw [Nat.mul_add, ← Nat.mul_assoc, ← h, Nat.add_mul]
  have h2 : Q * (D * S + d) = Q * D * S + Q * d := by rw [Nat.mul_add, Nat.mul_assoc]
  have h3 : T * S ≤ K * S := Nat.mul_le_mul_right _ hK
  have h4 : Q * d ≤ T * d := Nat.mul_le_mul_right _ hQ
  have h5 : T * d < T * S := Nat.mul_lt_mul_of_pos_left hd hT
  omega

/-- Two numbers that rows with cofactors make of a and b. -/
def Comb (ev : Bool) (a b u0 u1 v0 v1 p q : Nat) : Prop :=
  if ev = true then p + v0 * b = u0 * a ∧ q + u1 * a = v1 * b else p + u0 * a = v0 * b ∧ q + v1 * b = u1 * a
def Det (ev : Bool) (u1 u2 v1 v2 : Nat) : Prop := if ev = true then u2 * v1 = u1 * v2 + 1 else u1 * v2 = u2 * v1 + 1
def LehSt (a b : Nat) (ev : Bool) (u0 u1 u2 v0 v1 v2 : Nat) : Prop :=
  (ev = false ∧ u1 = 1 ∧ u2 = 0 ∧ v0 = 0 ∧ v1 = 0 ∧ v2 = 1) ∨
    ∃ p q k, Comb ev a b u0 u1 v0 v1 p q ∧ u2 = u0 + k * u1 ∧ v2 = v0 + k * v1 ∧ q ≤ b ∧ Nat.gcd p q = Nat.gcd a b ∧ (v0 = 0 ∨ (q < p ∧ p ≤ b))

structure Leh (a b X Y x y u0 u1 u2 v0 v1 v2 : Nat) (ev : Bool) : Prop where
  le : y ≤ x
  ex : x * v2 + y * v1 = X
  ey : x * u2 + y * u1 = Y
  uv : u2 ≤ v2
  uv1 : u1 + u2 ≤ v1 + v2
  vp : 1 ≤ v2
  b0 : u0 < 4294967296
  b1 : u1 < 4294967296
  c0 : v0 < 4294967296
  c1 : v1 < 4294967296
  det : Det ev u1 u2 v1 v2
  st : LehSt a b ev u0 u1 u2 v0 v1 v2

theorem Leh.init {a b X Y : Nat} (h : Y ≤ X) : Leh a b X Y X Y 0 1 0 0 0 1 false :=
  ⟨h, by omega, by omega, by omega, by omega, by omega, by omega, by omega, by omega, by omega, by simp [Det], .inl ⟨rfl, rfl, rfl, rfl, rfl, rfl⟩⟩

theorem small_sq {v x y X : Nat} (h1 : v ≤ y) (h2 : y ≤ x) (h3 : x * v ≤ X) (hX : X < 18446744073709551616) : v < 4294967296 := by
  rcases Nat.lt_or_ge v 4294967296 with h | h
  · exact h
  · have h4 := Nat.mul_le_mul (Nat.le_trans h (Nat.le_trans h1 h2)) h
    omega

/-- What one more step needs not to leave 64 bits. -/
theorem Leh.fits {a b X Y x y u0 u1 u2 v0 v1 v2 : Nat} {ev : Bool} (h : Leh a b X Y x y u0 u1 u2 v0 v1 v2 ev) (hX : X < 18446744073709551616) (hYX : Y ≤ X) (hc : v2 ≤ y) :
    0 < y ∧ u2 < 4294967296 ∧ v2 < 4294967296 ∧ u1 + x / y * u2 < 18446744073709551616 ∧ v1 + x / y * v2 < 18446744073709551616 := by
  have h1 := h.vp
  have h2 := h.ex
  have h3 := h.ey
  have hy : 0 < y := by omega
  have e := Nat.div_add_mod x y
  refine ⟨hy, small_sq (X := Y) (Nat.le_trans h.uv hc) h.le (by omega) (by omega), small_sq (X := X) hc h.le (by omega) hX, ?_, ?_⟩
  · have h4 : y * (u1 + x / y * u2) + x % y * u2 = Y := by
      rw [← h3]
      generalize x / y = q at *
      generalize x % y = r at *
      subst e
      grind
    have h5 := Nat.le_mul_of_pos_left (u1 + x / y * u2) hy
    omega
  · have h4 : y * (v1 + x / y * v2) + x % y * v2 = X := by
      rw [← h2]
      generalize x / y = q at *
      generalize x % y = r at *
      subst e
      grind
    have h5 := Nat.le_mul_of_pos_left (v1 + x / y * v2) hy
    omega

theorem det_false {x y u1 u2 v1 v2 X Y : Nat} (ex : x * v2 + y * v1 = X) (ey : x * u2 + y * u1 = Y) (d : u1 * v2 = u2 * v1 + 1) : x + v1 * Y = u1 * X ∧ y + u2 * X = v2 * Y := by
  subst ex ey
  constructor
  · have h1 : u1 * (x * v2 + y * v1) = x * (u1 * v2) + y * (u1 * v1) := by grind
    rw [h1, d]; grind
  · have h1 : v2 * (x * u2 + y * u1) = x * (u2 * v2) + y * (u1 * v2) := by grind
    rw [h1, d]; grind
theorem det_true {x y u1 u2 v1 v2 X Y : Nat} (ex : x * v2 + y * v1 = X) (ey : x * u2 + y * u1 = Y) (d : u2 * v1 = u1 * v2 + 1) : x + u1 * X = v1 * Y ∧ y + v2 * Y = u2 * X := by
  subst ex ey
  constructor
  · have h1 : v1 * (x * u2 + y * u1) = x * (u2 * v1) + y * (u1 * v1) := by grind
    rw [h1, d]; grind
  · have h1 : u2 * (x * v2 + y * v1) = x * (u2 * v2) + y * (u2 * v1) := by grind
    rw [h1, d]; grind

theorem gcd_row {p q r k g : Nat} (h : p = r + k * q) (e : Nat.gcd p q = g) : Nat.gcd q r = g := by
  rw [← e, h, Nat.gcd_comm q r, Nat.gcd_add_mul_right_left]

theorem Leh.step {a b X Y S a' b' x y u0 u1 u2 v0 v1 v2 : Nat} {ev : Bool} (h : Leh a b X Y x y u0 u1 u2 v0 v1 v2 ev) (hX : X < 18446744073709551616) (hYX : Y ≤ X)
    (ha : a = X * S + a') (ha' : a' < S) (hb : b = Y * S + b') (hb' : b' < S) (hc : v2 ≤ y) (hd : v1 + v2 ≤ x - y) :
    Leh a b X Y y (x % y) u1 u2 (u1 + x / y * u2) v1 v2 (v1 + x / y * v2) (!ev) := by
  obtain ⟨hy, f1, f2, _, _⟩ := h.fits hX hYX hc
  have hle := h.le
  have hq : 1 ≤ x / y := (Nat.le_div_iff_mul_le hy).2 (by omega)
  have e := Nat.div_add_mod x y
  have huv := h.uv
  have huv1 := h.uv1
  have hvp := h.vp
  have hst := h.st
  have hdet := h.det
  have hex := h.ex
  have hey := h.ey
  have g1 : u1 + x / y * u2 ≤ v1 + x / y * v2 := by
    obtain ⟨j, hj⟩ : ∃ j, x / y = j + 1 := ⟨x / y - 1, by omega⟩
    rw [hj, Nat.add_mul, Nat.add_mul, Nat.one_mul, Nat.one_mul]
    have := Nat.mul_le_mul_left j huv
    omega
  have g2 : v2 ≤ x / y * v2 := Nat.le_mul_of_pos_left v2 hq
  refine ⟨Nat.le_of_lt (Nat.mod_lt _ hy), ?_, ?_, g1, by omega, by omega, h.b1, f1, h.c1, f2, ?_, .inr ?_⟩
  · rw [← hex]
    generalize x / y = q at *
    generalize x % y = r at *
    subst e
    grind
  · rw [← hey]
    generalize x / y = q at *
    generalize x % y = r at *
    subst e
    grind
  · generalize x / y = q at *
    cases ev with
    | false =>
      simp only [Det, Bool.false_eq_true, if_false] at hdet
      simp only [Det, Bool.not_false, if_true]
      grind
    | true =>
      simp only [Det, if_true] at hdet
      simp only [Det, Bool.not_true, Bool.false_eq_true, if_false]
      grind
  · rcases hst with ⟨rfl, rfl, rfl, rfl, rfl, rfl⟩ | ⟨p, q, k, hcomb, hu, hv, hqb, hg, _⟩
    · exact ⟨a, b, x / y, by simp [Comb], rfl, rfl, Nat.le_refl _, rfl, .inl rfl⟩
    · cases ev with
      | false =>
        simp only [Det, Bool.false_eq_true, if_false] at hdet
        simp only [Comb, Bool.false_eq_true, if_false] at hcomb
        obtain ⟨k1, k2⟩ := hcomb
        obtain ⟨d1, d2⟩ := det_false hex hey hdet
        have l1 : u2 * a < v2 * b := by rw [ha, hb]; exact leh_lt d2 hc huv hvp ha'
        have l2 : (v1 + v2) * b < (u1 + u2) * a := by
          rw [ha, hb]
          exact leh_lt (K := x - y) (T := v1 + v2) (by simp only [Nat.add_mul]; omega) hd (Nat.le_refl _) (by omega) hb'
        rw [Nat.add_mul, Nat.add_mul] at l2
        refine ⟨q, v2 * b - u2 * a, x / y, ?_, rfl, rfl, by omega, ?_, .inr ⟨by omega, hqb⟩⟩
        · simp only [Comb, Bool.not_false, if_true]
          exact ⟨k2, by omega⟩
        · refine gcd_row (k := k) ?_ hg
          have h1 : v2 * b = v0 * b + k * (v1 * b) := by rw [hv]; grind
          have h2 : u2 * a = u0 * a + k * (u1 * a) := by rw [hu]; grind
          have h3 : k * (u1 * a) = k * q + k * (v1 * b) := by rw [← k2]; grind
          omega
      | true =>
        simp only [Det, if_true] at hdet
        simp only [Comb, if_true] at hcomb
        obtain ⟨k1, k2⟩ := hcomb
        obtain ⟨d1, d2⟩ := det_true hex hey hdet
        have l1 : v2 * b < u2 * a := by rw [ha, hb]; exact leh_lt d2 hc (Nat.le_refl _) hvp hb'
        have l2 : (u1 + u2) * a < (v1 + v2) * b := by
          rw [ha, hb]
          exact leh_lt (K := x - y) (T := v1 + v2) (by simp only [Nat.add_mul]; omega) hd huv1 (by omega) ha'
        rw [Nat.add_mul, Nat.add_mul] at l2
        refine ⟨q, u2 * a - v2 * b, x / y, ?_, rfl, rfl, by omega, ?_, .inr ⟨by omega, hqb⟩⟩
        · simp only [Comb, Bool.not_true, Bool.false_eq_true, if_false]
          exact ⟨k2, by omega⟩
        · refine gcd_row (k := k) ?_ hg
          have h1 : v2 * b = v0 * b + k * (v1 * b) := by rw [hv]; grind
          have h2 : u2 * a = u0 * a + k * (u1 * a) := by rw [hu]; grind
          have h3 : k * (v1 * b) = k * q + k * (u1 * a) := by rw [← k2]; grind
          omega

/-- What the steps are good for. -/
def Steps5 (a b u0 u1 v0 v1 : Nat) (ev : Bool) : Prop :=
  u0 < 4294967296 ∧ u1 < 4294967296 ∧ v0 < 4294967296 ∧ v1 < 4294967296 ∧ (v0 ≠ 0 → ∃ p q, Comb ev a b u0 u1 v0 v1 p q ∧ Nat.gcd p q = Nat.gcd a b ∧ q < p ∧ p ≤ b)
theorem Leh.done {a b X Y x y u0 u1 u2 v0 v1 v2 : Nat} {ev : Bool} (h : Leh a b X Y x y u0 u1 u2 v0 v1 v2 ev) : Steps5 a b u0 u1 v0 v1 ev := by
  refine ⟨h.b0, h.b1, h.c0, h.c1, fun hv => ?_⟩
  rcases h.st with ⟨_, _, _, e, _⟩ | ⟨p, q, k, hc, _, _, _, hg, h0 | ⟨h1, h2⟩⟩
  · exact absurd e hv
  · exact absurd h0 hv
  · exact ⟨p, q, hc, hg, h1, h2⟩
end Go.Proofs.Ytpklphdhigkmmaa

namespace Go.Proofs.Ytpklphdhigkmmaa
open Go.RowKit

theorem val_front3 (a : List Nat) : val a = gd a 0 + 4294967296 * gd a 1 + 18446744073709551616 * gd a 2 + 79228162514264337593543950336 * val (a.drop 3) := by
  match a with
  | [] => rfl
  | [x] => simp [val, gd]
  | [x, y] => simp [val, gd]
  | x :: y :: z :: r => simp [val, gd]; omega

theorem gd_drop (a : List Nat) (k i : Nat) : gd (a.drop k) i = gd a (k + i) := by rw [gd_eq, gd_eq, List.getElem?_drop]

theorem window_num {g0 g1 g2 R P Q V : Nat} (h0 : g0 < 4294967296) (h1 : g1 < 4294967296) (hP : 0 < P) (hQ : P * Q = 4294967296)
    (hV : V = g0 + 4294967296 * g1 + 18446744073709551616 * g2 + 79228162514264337593543950336 * R) :
    g0 / P < Q ∧ g0 / P + Q * g1 < Q * 4294967296 ∧ V / P % 18446744073709551616 = g0 / P + Q * g1 + Q * 4294967296 * (g2 % P) ∧ Q * 4294967296 * g2 % 18446744073709551616 = Q * 4294967296 * (g2 % P) ∧
      g0 / P + Q * g1 + Q * 4294967296 * (g2 % P) < 18446744073709551616 := by
  have e0 : g0 / P < Q := by rw [Nat.div_lt_iff_lt_mul hP, Nat.mul_comm, hQ]; exact h0
  have e1 : g0 / P + Q * g1 < Q * 4294967296 := by
    have := Nat.mul_le_mul_left Q h1
    rw [Nat.mul_succ] at this
    omega
  have eT : Q * 4294967296 * P = 18446744073709551616 := by rw [Nat.mul_right_comm, Nat.mul_comm Q P, hQ]
  have e2 : V / P = (g0 / P + Q * g1) + Q * 4294967296 * g2 + 18446744073709551616 * (Q * R) := by
    have e3 : V = g0 + P * (Q * g1 + Q * 4294967296 * g2 + 18446744073709551616 * (Q * R)) := by
      rw [hV, Nat.mul_add, Nat.mul_add, ← Nat.mul_assoc P Q g1, hQ, ← Nat.mul_assoc P (Q * 4294967296) g2, Nat.mul_comm P (Q * 4294967296), eT, Nat.mul_left_comm P, ← Nat.mul_assoc P Q R, hQ]
      omega
    rw [e3, Nat.add_mul_div_left _ _ hP]
    omega
  have hQ0 : 0 < Q := Nat.lt_of_le_of_lt (Nat.zero_le _) e0
  have hT : 0 < Q * 4294967296 := Nat.mul_pos hQ0 (by omega)
  have e4 : Q * 4294967296 * g2 % 18446744073709551616 = Q * 4294967296 * (g2 % P) := by rw [← eT, Nat.mul_mod_mul_left]
  have e5 : Q * 4294967296 * (g2 % P) + Q * 4294967296 ≤ 18446744073709551616 := by
    have h3 := Nat.mul_le_mul_left (Q * 4294967296) (Nat.mod_lt g2 hP)
    rw [Nat.mul_succ, eT] at h3
    exact h3
  refine ⟨e0, e1, ?_, e4, by omega⟩
  rw [e2, Nat.add_mul_mod_self_left]
  have e6 : (g0 / P + Q * g1 + Q * 4294967296 * g2) % (Q * 4294967296 * P) = g0 / P + Q * g1 + Q * 4294967296 * (g2 % P) := by
    rw [Nat.mod_mul, Nat.add_mul_mod_self_left, Nat.mod_eq_of_lt e1, Nat.add_mul_div_left _ _ hT, Nat.div_eq_of_lt e1, Nat.zero_add]
  rw [eT] at e6
  exact e6

theorem or_at {a b j : Nat} (hj : j ≤ 64) (ha : a < 2 ^ j) (hb : 2 ^ j * b < 18446744073709551616) : bits .or .u64 (a : Int) ((2 ^ j * b : Nat) : Int) = ((a + 2 ^ j * b : Nat) : Int) := by
  have h2 : 2 ^ j ≤ 2 ^ 64 := Nat.pow_le_pow_right (by omega) hj
  rw [bits_or_u64_nat _ _ (by omega) hb, Nat.or_comm, ← Nat.two_pow_add_eq_or_of_lt ha, Nat.add_comm]

theorem window_bits {g0 g1 g2 R b V : Nat} (h0 : g0 < 4294967296) (h1 : g1 < 4294967296) (hb : b < 32)
    (hV : V = g0 + 4294967296 * g1 + 18446744073709551616 * g2 + 79228162514264337593543950336 * R) :
    bits .or .u64 (bits .or .u64 ((g0 : Int) / 2 ^ b) (IntKind.u64.wrap ((g1 : Int) * 2 ^ (32 - b)))) (IntKind.u64.wrap ((g2 : Int) * 2 ^ (64 - b))) = ((V / 2 ^ b % 18446744073709551616 : Nat) : Int) := by
  have hP : 0 < 2 ^ b := Nat.pow_pos (by omega)
  have hQ : 2 ^ b * 2 ^ (32 - b) = 4294967296 := by rw [← Nat.pow_add, show b + (32 - b) = 32 by omega]
  have hT : 2 ^ (64 - b) = 2 ^ (32 - b) * 4294967296 := by rw [show 64 - b = 32 - b + 32 by omega, Nat.pow_add]
  obtain ⟨e0, e1, e2, e3, e4⟩ := window_num h0 h1 hP hQ hV
  have e5 : 2 ^ (32 - b) * g1 < 2 ^ (32 - b) * 4294967296 := Nat.lt_of_le_of_lt (Nat.le_add_left _ _) e1
  have e6 : 2 ^ (32 - b) * 4294967296 * (g2 % 2 ^ b) < 18446744073709551616 := Nat.lt_of_le_of_lt (Nat.le_add_left _ _) e4
  have hb2 : 2 ^ (32 - b) * 4294967296 ≤ 18446744073709551616 := by
    have := Nat.pow_le_pow_right (n := 2) (by omega) (show 32 - b ≤ 32 by omega)
    omega
  have f0 : ((g0 : Int) / 2 ^ b) = ((g0 / 2 ^ b : Nat) : Int) := by simp
  have f1 : IntKind.u64.wrap ((g1 : Int) * 2 ^ (32 - b)) = ((2 ^ (32 - b) * g1 : Nat) : Int) := by
    have : ((g1 : Int) * 2 ^ (32 - b)) = ((2 ^ (32 - b) * g1 : Nat) : Int) := by simp [Int.mul_comm]
    rw [this, IntWalk.u64_in _ ⟨Int.natCast_nonneg _, by omega⟩]
  have f2 : IntKind.u64.wrap ((g2 : Int) * 2 ^ (64 - b)) = ((2 ^ (64 - b) * (g2 % 2 ^ b) : Nat) : Int) := by
    have : ((g2 : Int) * 2 ^ (64 - b)) = ((2 ^ (64 - b) * g2 : Nat) : Int) := by simp [Int.mul_comm]
    rw [this, IntKind.wrap_u64, hT, ← e3]; simp
  rw [f0, f1, f2, or_at (by omega) e0 (by omega), or_at (by omega) (by rw [hT]; exact e1) (by rw [hT]; exact e6), e2, hT]

/-- The words of a difference of multiples, up to the word k. -/
structure DiffRel (la lb : List Nat) (x y N k add sub bo : Nat) (out : List Nat) : Prop where
  len : out.length = N
  eq : val (out.take k) + y * val (lb.take k) + pw k * add = x * val (la.take k) + pw k * sub + pw k * bo

theorem DiffRel.step {la lb : List Nat} {x y N k add sub bo : Nat} {out : List Nat} (h : DiffRel la lb x y N k add sub bo out) (hk : k < N) (hbo : bo ≤ 1) :
    DiffRel la lb x y N (k + 1) ((add + x * gd la k) / 4294967296) ((sub + y * gd lb k) / 4294967296) (bw ((add + x * gd la k) % 4294967296) ((sub + y * gd lb k) % 4294967296) bo)
      (out.set k (dw ((add + x * gd la k) % 4294967296) ((sub + y * gd lb k) % 4294967296) bo)) := by
  obtain ⟨h1, h2⟩ := h
  refine ⟨by rw [List.length_set, h1], ?_⟩
  have hd := dw_bw (Nat.mod_lt (add + x * gd la k) (show 0 < 4294967296 by omega)) (Nat.mod_lt (sub + y * gd lb k) (show 0 < 4294967296 by omega)) hbo
  rw [val_take_set _ _ _ (by omega), val_take_succ, val_take_succ, pw_succ]
  generalize hs : add + x * gd la k = s at *
  generalize ht : sub + y * gd lb k = t at *
  generalize dw (s % 4294967296) (t % 4294967296) bo = d at *
  generalize bw (s % 4294967296) (t % 4294967296) bo = b at *
  have e1 : pw k * (d + t % 4294967296 + bo) = pw k * (s % 4294967296 + 4294967296 * b) := by rw [hd]
  have e2 : pw k * s = pw k * add + x * (pw k * gd la k) := by rw [← hs, Nat.mul_add, Nat.mul_left_comm]
  have e3 : pw k * t = pw k * sub + y * (pw k * gd lb k) := by rw [← ht, Nat.mul_add, Nat.mul_left_comm]
  have e4 : pw k * s = pw k * (s % 4294967296) + 4294967296 * pw k * (s / 4294967296) := by
    rw [Nat.mul_comm 4294967296 (pw k), Nat.mul_assoc, ← Nat.mul_add]; congr 1; omega
  have e5 : pw k * t = pw k * (t % 4294967296) + 4294967296 * pw k * (t / 4294967296) := by
    rw [Nat.mul_comm 4294967296 (pw k), Nat.mul_assoc, ← Nat.mul_add]; congr 1; omega
  have e6 : pw k * (4294967296 * b) = 4294967296 * pw k * b := by rw [Nat.mul_comm 4294967296 (pw k), Nat.mul_assoc]
  simp only [Nat.mul_add] at e1 ⊢
  omega

theorem DiffRel.done {a b x y N add sub bo D : Nat} {out : List Nat} (h : DiffRel (mag a) (mag b) x y N N add sub bo out) (hw : Wds out) (ha : (mag a).length ≤ N) (hb : (mag b).length ≤ N) (hD : D + y * b = x * a) (hlt : D < pw N) : val out = D := by
  have h2 := h.eq
  have h1 := h.len
  rw [val_take_all _ _ (by omega), val_take_all _ _ ha, val_take_all _ _ hb, val_mag, val_mag] at h2
  have h3 := val_lt hw
  rw [h1] at h3
  have h4 : val out + pw N * add = D + pw N * (sub + bo) := by rw [Nat.mul_add]; omega
  have h5 := congrArg (· % pw N) h4
  simp only [Nat.add_mul_mod_self_left, Nat.mod_eq_of_lt h3, Nat.mod_eq_of_lt hlt] at h5
  exact h5
end Go.Proofs.Ytpklphdhigkmmaa
