/-
  Plain facts on Lehmer's steps: rows of the Euclidean algorithm that the leading bits determine. No program is named here. Plain facts on window and difference: 64 bits of a number from a place on; a difference of multiples, word by word.
  Contracts of window and difference. Contracts of leadingSteps and apply.
  Contracts of apply and gcd.
  Contract of Gcd.
-/
import Derived.Test.YtfigimfdojbkeaaDivide
import Derived.Test.YtfigimfdojbkeaaIntA
import Derived.Deep.RegionHeld3
import Derived.Deep.LoopGhost
import Derived.Test.YtfigimfdojbkeaaRegD
set_option linter.unusedSimpArgs false
set_option linter.unusedVariables false
namespace Go.Proofs.Ytfigimfdojbkeaa

/-- The inequality behind Collins' condition. -/
theorem leh_lt {P Q C D S c d K T : Nat} (h : K + Q * D = P * C) (hK : T ≤ K) (hQ : Q ≤ T) (hT : 1 ≤ T) (hd : d < S) :
    Q * (D * S + d) < P * (C * S + c) := by
  have h1 : P * (C * S + c) = K * S + Q * D * S + P * c := by rw [Nat.mul_add, ← Nat.mul_assoc, ← h, Nat.add_mul]
  have h2 : Q * (D * S + d) = Q * D * S + Q * d := by rw [Nat.mul_add, Nat.mul_assoc]
  have h3 : T * S ≤ K * S := Nat.mul_le_mul_right _ hK
  have h4 : Q * d ≤ T * d := Nat.mul_le_mul_right _ hQ
  have h5 : T * d < T * S := Nat.mul_lt_mul_of_pos_left hd hT
  omega

/-- Two numbers that rows with cofactors make of a and b. -/
def Comb (ev : Bool) (a b u0 u1 v0 v1 p q : Nat) : Prop :=
  if ev = true then p + v0 * b = u0 * a ∧ q + u1 * a = v1 * b else p + u0 * a = v0 * b ∧ q + v1 * b = u1 * a
def Det (ev : Bool) (u1 u2 v1 v2 : Nat) : Prop := if ev = true then u2 * v1 = u1 * v2 + 1 else u1 * v2 = u2 * v1 + 1
def LehSt (a b : Nat) (ev : Bool) (u0 u1 u2 v0 v1 v2 : Nat) : Prop :=
  (ev = false ∧ u1 = 1 ∧ u2 = 0 ∧ v0 = 0 ∧ v1 = 0 ∧ v2 = 1) ∨
    ∃ p q k, Comb ev a b u0 u1 v0 v1 p q ∧ u2 = u0 + k * u1 ∧ v2 = v0 + k * v1 ∧ q ≤ b ∧ Nat.gcd p q = Nat.gcd a b ∧ (v0 = 0 ∨ (q < p ∧ p ≤ b))

structure Leh (a b X Y x y u0 u1 u2 v0 v1 v2 : Nat) (ev : Bool) : Prop where
  le : y ≤ x
  ex : x * v2 + y * v1 = X
  ey : x * u2 + y * u1 = Y
  uv : u2 ≤ v2
  uv1 : u1 + u2 ≤ v1 + v2
  vp : 1 ≤ v2
  b0 : u0 < 4294967296
  b1 : u1 < 4294967296
  c0 : v0 < 4294967296
  c1 : v1 < 4294967296
  det : Det ev u1 u2 v1 v2
  st : LehSt a b ev u0 u1 u2 v0 v1 v2

theorem Leh.init {a b X Y : Nat} (h : Y ≤ X) : Leh a b X Y X Y 0 1 0 0 0 1 false :=
  ⟨h, by omega, by omega, by omega, by omega, by omega, by omega, by omega, by omega, by omega, by simp [Det], .inl ⟨rfl, rfl, rfl, rfl, rfl, rfl⟩⟩

theorem small_sq {v x y X : Nat} (h1 : v ≤ y) (h2 : y ≤ x) (h3 : x * v ≤ X) (hX : X < 18446744073709551616) : v < 4294967296 := by
  rcases Nat.lt_or_ge v 4294967296 with h | h
  · exact h
  · have h4 := Nat.mul_le_mul (Nat.le_trans h (Nat.le_trans h1 h2)) h
    omega

/-- What one more step needs not to leave 64 bits. -/
theorem Leh.fits {a b X Y x y u0 u1 u2 v0 v1 v2 : Nat} {ev : Bool} (h : Leh a b X Y x y u0 u1 u2 v0 v1 v2 ev) (hX : X < 18446744073709551616) (hYX : Y ≤ X) (hc : v2 ≤ y) :
    0 < y ∧ u2 < 4294967296 ∧ v2 < 4294967296 ∧ u1 + x / y * u2 < 18446744073709551616 ∧ v1 + x / y * v2 < 18446744073709551616 := by
  have h1 := h.vp
  have h2 := h.ex
  have h3 := h.ey
  have hy : 0 < y := by omega
  have e := Nat.div_add_mod x y
  refine ⟨hy, small_sq (X := Y) (Nat.le_trans h.uv hc) h.le (by omega) (by omega), small_sq (X := X) hc h.le (by omega) hX, ?_, ?_⟩
  · have h4 : y * (u1 + x / y * u2) + x % y * u2 = Y := by
      rw [← h3]
      generalize x / y = q at *
      generalize x % y = r at *
      subst e
      grind
    have h5 := Nat.le_mul_of_pos_left (u1 + x / y * u2) hy
    omega
  · have h4 : y * (v1 + x / y * v2) + x % y * v2 = X := by
      rw [← h2]
      generalize x / y = q at *
      generalize x % y = r at *
      subst e
      grind
    have h5 := Nat.le_mul_of_pos_left (v1 + x / y * v2) hy
    omega

theorem det_false {x y u1 u2 v1 v2 X Y : Nat} (ex : x * v2 + y * v1 = X) (ey : x * u2 + y * u1 = Y) (d : u1 * v2 = u2 * v1 + 1) : x + v1 * Y = u1 * X ∧ y + u2 * X = v2 * Y := by
  subst ex ey
  constructor
  · have h1 : u1 * (x * v2 + y * v1) = x * (u1 * v2) + y * (u1 * v1) := by grind
    rw [h1, d]; grind
  · have h1 : v2 * (x * u2 + y * u1) = x * (u2 * v2) + y * (u1 * v2) := by grind
    rw [h1, d]; grind
theorem det_true {x y u1 u2 v1 v2 X Y : Nat} (ex : x * v2 + y * v1 = X) (ey : x * u2 + y * u1 = Y) (d : u2 * v1 = u1 * v2 + 1) : x + u1 * X = v1 * Y ∧ y + v2 * Y = u2 * X := by
  subst ex ey
  constructor
  · have h1 : v1 * (x * u2 + y * u1) = x * (u2 * v1) + y * (u1 * v1) := by grind
    rw [h1, d]; grind
  · have h1 : u2 * (x * v2 + y * v1) = x * (u2 * v2) + y * (u2 * v1) := by grind
    rw [h1, d]; grind

theorem gcd_row {p q r k g : Nat} (h : p = r + k * q) (e : Nat.gcd p q = g) : Nat.gcd q r = g := by
  rw [← e, h, Nat.gcd_comm q r, Nat.gcd_add_mul_right_left]

theorem Leh.step {a b X Y S a' b' x y u0 u1 u2 v0 v1 v2 : Nat} {ev : Bool} (h : Leh a b X Y x y u0 u1 u2 v0 v1 v2 ev) (hX : X < 18446744073709551616) (hYX : Y ≤ X)
    (ha : a = X * S + a') (ha' : a' < S) (hb : b = Y * S + b') (hb' : b' < S) (hc : v2 ≤ y) (hd : v1 + v2 ≤ x - y) :
    Leh a b X Y y (x % y) u1 u2 (u1 + x / y * u2) v1 v2 (v1 + x / y * v2) (!ev) := by
  obtain ⟨hy, f1, f2, _, _⟩ := h.fits hX hYX hc
  have hle := h.le
  have hq : 1 ≤ x / y := (Nat.le_div_iff_mul_le hy).2 (by omega)
  have e := Nat.div_add_mod x y
  have huv := h.uv
  have huv1 := h.uv1
  have hvp := h.vp
  have hst := h.st
  have hdet := h.det
  have hex := h.ex
  have hey := h.ey
  have g1 : u1 + x / y * u2 ≤ v1 + x / y * v2 := by
    obtain ⟨j, hj⟩ : ∃ j, x / y = j + 1 := ⟨x / y - 1, by omega⟩
    rw [hj, Nat.add_mul, Nat.add_mul, Nat.one_mul, Nat.one_mul]
    have := Nat.mul_le_mul_left j huv
    omega
  have g2 : v2 ≤ x / y * v2 := Nat.le_mul_of_pos_left v2 hq
  refine ⟨Nat.le_of_lt (Nat.mod_lt _ hy), ?_, ?_, g1, by omega, by omega, h.b1, f1, h.c1, f2, ?_, .inr ?_⟩
  · rw [← hex]
    generalize x / y = q at *
    generalize x % y = r at *
    subst e
    grind
  · rw [← hey]
    generalize x / y = q at *
    generalize x % y = r at *
    subst e
    grind
  · generalize x / y = q at *
    cases ev with
    | false =>
      simp only [Det, Bool.false_eq_true, if_false] at hdet
      simp only [Det, Bool.not_false, if_true]
      grind
    | true =>
      simp only [Det, if_true] at hdet
      simp only [Det, Bool.not_true, Bool.false_eq_true, if_false]
      grind
  · rcases hst with ⟨rfl, rfl, rfl, rfl, rfl, rfl⟩ | ⟨p, q, k, hcomb, hu, hv, hqb, hg, _⟩
    · exact ⟨a, b, x / y, by simp [Comb], rfl, rfl, Nat.le_refl _, rfl, .inl rfl⟩
    · cases ev with
      | false =>
        simp only [Det, Bool.false_eq_true, if_false] at hdet
        simp only [Comb, Bool.false_eq_true, if_false] at hcomb
        obtain ⟨k1, k2⟩ := hcomb
        obtain ⟨d1, d2⟩ := det_false hex hey hdet
        have l1 : u2 * a < v2 * b := by rw [ha, hb]; exact leh_lt d2 hc huv hvp ha'
        have l2 : (v1 + v2) * b < (u1 + u2) * a := by
          rw [ha, hb]
          exact leh_lt (K := x - y) (T := v1 + v2) (by simp only [Nat.add_mul]; omega) hd (Nat.le_refl _) (by omega) hb'
        rw [Nat.add_mul, Nat.add_mul] at l2
        refine ⟨q, v2 * b - u2 * a, x / y, ?_, rfl, rfl, by omega, ?_, .inr ⟨by omega, hqb⟩⟩
        · simp only [Comb, Bool.not_false, if_true]
          exact ⟨k2, by omega⟩
        · refine gcd_row (k := k) ?_ hg
          have h1 : v2 * b = v0 * b + k * (v1 * b) := by rw [hv]; grind
          have h2 : u2 * a = u0 * a + k * (u1 * a) := by rw [hu]; grind
          have h3 : k * (u1 * a) = k * q + k * (v1 * b) := by rw [← k2]; grind
          omega
      | true =>
        simp only [Det, if_true] at hdet
        simp only [Comb, if_true] at hcomb
        obtain ⟨k1, k2⟩ := hcomb
        obtain ⟨d1, d2⟩ := det_true hex hey hdet
        have l1 : v2 * b < u2 * a := by rw [ha, hb]; exact leh_lt d2 hc (Nat.le_refl _) hvp hb'
        have l2 : (u1 + u2) * a < (v1 + v2) * b := by
          rw [ha, hb]
          exact leh_lt (K := x - y) (T := v1 + v2) (by simp only [Nat.add_mul]; omega) hd huv1 (by omega) ha'
        rw [Nat.add_mul, Nat.add_mul] at l2
        refine ⟨q, u2 * a - v2 * b, x / y, ?_, rfl, rfl, by omega, ?_, .inr ⟨by omega, hqb⟩⟩
        · simp only [Comb, Bool.not_true, Bool.false_eq_true, if_false]
          exact ⟨k2, by omega⟩
        · refine gcd_row (k := k) ?_ hg
          have h1 : v2 * b = v0 * b + k * (v1 * b) := by rw [hv]; grind
          have h2 : u2 * a = u0 * a + k * (u1 * a) := by rw [hu]; grind
          have h3 : k * (v1 * b) = k * q + k * (u1 * a) := by rw [← k2]; grind
          omega

/-- What the steps are good for. -/
def Steps5 (a b u0 u1 v0 v1 : Nat) (ev : Bool) : Prop :=
  u0 < 4294967296 ∧ u1 < 4294967296 ∧ v0 < 4294967296 ∧ v1 < 4294967296 ∧ (v0 ≠ 0 → ∃ p q, Comb ev a b u0 u1 v0 v1 p q ∧ Nat.gcd p q = Nat.gcd a b ∧ q < p ∧ p ≤ b)
theorem Leh.done {a b X Y x y u0 u1 u2 v0 v1 v2 : Nat} {ev : Bool} (h : Leh a b X Y x y u0 u1 u2 v0 v1 v2 ev) : Steps5 a b u0 u1 v0 v1 ev := by
  refine ⟨h.b0, h.b1, h.c0, h.c1, fun hv => ?_⟩
  rcases h.st with ⟨_, _, _, e, _⟩ | ⟨p, q, k, hc, _, _, _, hg, h0 | ⟨h1, h2⟩⟩
  · exact absurd e hv
  · exact absurd h0 hv
  · exact ⟨p, q, hc, hg, h1, h2⟩
end Go.Proofs.Ytfigimfdojbkeaa

namespace Go.Proofs.Ytfigimfdojbkeaa
open Go.RowKit

theorem val_front3 (a : List Nat) : val a = gd a 0 + 4294967296 * gd a 1 + 18446744073709551616 * gd a 2 + 79228162514264337593543950336 * val (a.drop 3) := by
  match a with
  | [] => rfl
  | [x] => simp [val, gd]
  | [x, y] => simp [val, gd]
  | x :: y :: z :: r => simp [val, gd]; omega

theorem gd_drop (a : List Nat) (k i : Nat) : gd (a.drop k) i = gd a (k + i) := by rw [gd_eq, gd_eq, List.getElem?_drop]

theorem window_num {g0 g1 g2 R P Q V : Nat} (h0 : g0 < 4294967296) (h1 : g1 < 4294967296) (hP : 0 < P) (hQ : P * Q = 4294967296)
    (hV : V = g0 + 4294967296 * g1 + 18446744073709551616 * g2 + 79228162514264337593543950336 * R) :
    g0 / P < Q ∧ g0 / P + Q * g1 < Q * 4294967296 ∧ V / P % 18446744073709551616 = g0 / P + Q * g1 + Q * 4294967296 * (g2 % P) ∧ Q * 4294967296 * g2 % 18446744073709551616 = Q * 4294967296 * (g2 % P) ∧
      g0 / P + Q * g1 + Q * 4294967296 * (g2 % P) < 18446744073709551616 := by
  have e0 : g0 / P < Q := by rw [Nat.div_lt_iff_lt_mul hP, Nat.mul_comm, hQ]; exact h0
  have e1 : g0 / P + Q * g1 < Q * 4294967296 := by
    have := Nat.mul_le_mul_left Q h1
    rw [Nat.mul_succ] at this
    omega
  have eT : Q * 4294967296 * P = 18446744073709551616 := by rw [Nat.mul_right_comm, Nat.mul_comm Q P, hQ]
  have e2 : V / P = (g0 / P + Q * g1) + Q * 4294967296 * g2 + 18446744073709551616 * (Q * R) := by
    have e3 : V = g0 + P * (Q * g1 + Q * 4294967296 * g2 + 18446744073709551616 * (Q * R)) := by
      rw [hV, Nat.mul_add, Nat.mul_add, ← Nat.mul_assoc P Q g1, hQ, ← Nat.mul_assoc P (Q * 4294967296) g2, Nat.mul_comm P (Q * 4294967296), eT, Nat.mul_left_comm P, ← Nat.mul_assoc P Q R, hQ]
      omega
    rw [e3, Nat.add_mul_div_left _ _ hP]
    omega
  have hQ0 : 0 < Q := Nat.lt_of_le_of_lt (Nat.zero_le _) e0
  have hT : 0 < Q * 4294967296 := Nat.mul_pos hQ0 (by omega)
  have e4 : Q * 4294967296 * g2 % 18446744073709551616 = Q * 4294967296 * (g2 % P) := by rw [← eT, Nat.mul_mod_mul_left]
  have e5 : Q * 4294967296 * (g2 % P) + Q * 4294967296 ≤ 18446744073709551616 := by
    have h3 := Nat.mul_le_mul_left (Q * 4294967296) (Nat.mod_lt g2 hP)
    rw [Nat.mul_succ, eT] at h3
    exact h3
  refine ⟨e0, e1, ?_, e4, by omega⟩
  rw [e2, Nat.add_mul_mod_self_left]
  have e6 : (g0 / P + Q * g1 + Q * 4294967296 * g2) % (Q * 4294967296 * P) = g0 / P + Q * g1 + Q * 4294967296 * (g2 % P) := by
    rw [Nat.mod_mul, Nat.add_mul_mod_self_left, Nat.mod_eq_of_lt e1, Nat.add_mul_div_left _ _ hT, Nat.div_eq_of_lt e1, Nat.zero_add]
  rw [eT] at e6
  exact e6

theorem or_at {a b j : Nat} (hj : j ≤ 64) (ha : a < 2 ^ j) (hb : 2 ^ j * b < 18446744073709551616) : bits .or .u64 (a : Int) ((2 ^ j * b : Nat) : Int) = ((a + 2 ^ j * b : Nat) : Int) := by
  have h2 : 2 ^ j ≤ 2 ^ 64 := Nat.pow_le_pow_right (by omega) hj
  rw [bits_or_u64_nat _ _ (by omega) hb, Nat.or_comm, ← Nat.two_pow_add_eq_or_of_lt ha, Nat.add_comm]

theorem window_bits {g0 g1 g2 R b V : Nat} (h0 : g0 < 4294967296) (h1 : g1 < 4294967296) (hb : b < 32)
    (hV : V = g0 + 4294967296 * g1 + 18446744073709551616 * g2 + 79228162514264337593543950336 * R) :
    bits .or .u64 (bits .or .u64 ((g0 : Int) / 2 ^ b) (IntKind.u64.wrap ((g1 : Int) * 2 ^ (32 - b)))) (IntKind.u64.wrap ((g2 : Int) * 2 ^ (64 - b))) = ((V / 2 ^ b % 18446744073709551616 : Nat) : Int) := by
  have hP : 0 < 2 ^ b := Nat.pow_pos (by omega)
  have hQ : 2 ^ b * 2 ^ (32 - b) = 4294967296 := by rw [← Nat.pow_add, show b + (32 - b) = 32 by omega]
  have hT : 2 ^ (64 - b) = 2 ^ (32 - b) * 4294967296 := by rw [show 64 - b = 32 - b + 32 by omega, Nat.pow_add]
  obtain ⟨e0, e1, e2, e3, e4⟩ := window_num h0 h1 hP hQ hV
  have e5 : 2 ^ (32 - b) * g1 < 2 ^ (32 - b) * 4294967296 := Nat.lt_of_le_of_lt (Nat.le_add_left _ _) e1
  have e6 : 2 ^ (32 - b) * 4294967296 * (g2 % 2 ^ b) < 18446744073709551616 := Nat.lt_of_le_of_lt (Nat.le_add_left _ _) e4
  have hb2 : 2 ^ (32 - b) * 4294967296 ≤ 18446744073709551616 := by
    have := Nat.pow_le_pow_right (n := 2) (by omega) (show 32 - b ≤ 32 by omega)
    omega
  have f0 : ((g0 : Int) / 2 ^ b) = ((g0 / 2 ^ b : Nat) : Int) := by simp
  have f1 : IntKind.u64.wrap ((g1 : Int) * 2 ^ (32 - b)) = ((2 ^ (32 - b) * g1 : Nat) : Int) := by
    have : ((g1 : Int) * 2 ^ (32 - b)) = ((2 ^ (32 - b) * g1 : Nat) : Int) := by simp [Int.mul_comm]
    rw [this, IntWalk.u64_in _ ⟨Int.natCast_nonneg _, by omega⟩]
  have f2 : IntKind.u64.wrap ((g2 : Int) * 2 ^ (64 - b)) = ((2 ^ (64 - b) * (g2 % 2 ^ b) : Nat) : Int) := by
    have : ((g2 : Int) * 2 ^ (64 - b)) = ((2 ^ (64 - b) * g2 : Nat) : Int) := by simp [Int.mul_comm]
    rw [this, IntKind.wrap_u64, hT, ← e3]; simp
  rw [f0, f1, f2, or_at (by omega) e0 (by omega), or_at (by omega) (by rw [hT]; exact e1) (by rw [hT]; exact e6), e2, hT]

/-- The words of a difference of multiples, up to the word k. -/
structure DiffRel (la lb : List Nat) (x y N k add sub bo : Nat) (out : List Nat) : Prop where
  len : out.length = N
  eq : val (out.take k) + y * val (lb.take k) + pw k * add = x * val (la.take k) + pw k * sub + pw k * bo

theorem DiffRel.step {la lb : List Nat} {x y N k add sub bo : Nat} {out : List Nat} (h : DiffRel la lb x y N k add sub bo out) (hk : k < N) (hbo : bo ≤ 1) :
    DiffRel la lb x y N (k + 1) ((add + x * gd la k) / 4294967296) ((sub + y * gd lb k) / 4294967296) (bw ((add + x * gd la k) % 4294967296) ((sub + y * gd lb k) % 4294967296) bo)
      (out.set k (dw ((add + x * gd la k) % 4294967296) ((sub + y * gd lb k) % 4294967296) bo)) := by
  obtain ⟨h1, h2⟩ := h
  refine ⟨by rw [List.length_set, h1], ?_⟩
  have hd := dw_bw (Nat.mod_lt (add + x * gd la k) (show 0 < 4294967296 by omega)) (Nat.mod_lt (sub + y * gd lb k) (show 0 < 4294967296 by omega)) hbo
  rw [val_take_set _ _ _ (by omega), val_take_succ, val_take_succ, pw_succ]
  generalize hs : add + x * gd la k = s at *
  generalize ht : sub + y * gd lb k = t at *
  generalize dw (s % 4294967296) (t % 4294967296) bo = d at *
  generalize bw (s % 4294967296) (t % 4294967296) bo = b at *
  have e1 : pw k * (d + t % 4294967296 + bo) = pw k * (s % 4294967296 + 4294967296 * b) := by rw [hd]
  have e2 : pw k * s = pw k * add + x * (pw k * gd la k) := by rw [← hs, Nat.mul_add, Nat.mul_left_comm]
  have e3 : pw k * t = pw k * sub + y * (pw k * gd lb k) := by rw [← ht, Nat.mul_add, Nat.mul_left_comm]
  have e4 : pw k * s = pw k * (s % 4294967296) + 4294967296 * pw k * (s / 4294967296) := by
    rw [Nat.mul_comm 4294967296 (pw k), Nat.mul_assoc, ← Nat.mul_add]; congr 1; omega
  have e5 : pw k * t = pw k * (t % 4294967296) + 4294967296 * pw k * (t / 4294967296) := by
    rw [Nat.mul_comm 4294967296 (pw k), Nat.mul_assoc, ← Nat.mul_add]; congr 1; omega
  have e6 : pw k * (4294967296 * b) = 4294967296 * pw k * b := by rw [Nat.mul_comm 4294967296 (pw k), Nat.mul_assoc]
  simp only [Nat.mul_add] at e1 ⊢
  omega

theorem DiffRel.done {a b x y N add sub bo D : Nat} {out : List Nat} (h : DiffRel (mag a) (mag b) x y N N add sub bo out) (hw : Wds out) (ha : (mag a).length ≤ N) (hb : (mag b).length ≤ N) (hD : D + y * b = x * a) (hlt : D < pw N) : val out = D := by
  have h2 := h.eq
  have h1 := h.len
  rw [val_take_all _ _ (by omega), val_take_all _ _ ha, val_take_all _ _ hb, val_mag, val_mag] at h2
  have h3 := val_lt hw
  rw [h1] at h3
  have h4 : val out + pw N * add = D + pw N * (sub + bo) := by rw [Nat.mul_add]; omega
  have h5 := congrArg (· % pw N) h4
  simp only [Nat.add_mul_mod_self_left, Nat.mod_eq_of_lt h3, Nat.mod_eq_of_lt hlt] at h5
  exact h5
end Go.Proofs.Ytfigimfdojbkeaa

section
namespace Go.Proofs.Ytfigimfdojbkeaa
open Go.RowKit

set_option maxHeartbeats 1000000 in
theorem window_any (A : Option Addr) (n c x s : Nat) (z : Int) (w : World) (ha : Wd w A n (mag x)) (hn : n ≤ 1000000000) (hs : s ≤ 100000000000) (hz : z = s) :
    Calls Try.prog 168 #[.slice A n c, .int .i64 z] w fun e w' => e = .returned (.int .u64 (x / 2 ^ s % 18446744073709551616 : Nat)) ∧ ∃ q, w' = w.drewN q := by
  have HA := Lib.hid ha
  clear ha
  obtain ⟨k, b, hb, rfl⟩ : ∃ k b, b < 32 ∧ s = 32 * k + b := ⟨s / 32, s % 32, by omega, by omega⟩
  have hz0 : 0 ≤ z := by omega
  have hz1 : z / 32 = (k : Int) := by omega
  have hz2 : z % 32 = (b : Int) := by omega
  have hmn : min b 64 = b := by omega
  have HZ := Lib.hid hz
  have hv : Hid (x / 2 ^ (32 * k + b) = val ((mag x).drop k) / 2 ^ b) := by
    show x / 2 ^ (32 * k + b) = val ((mag x).drop k) / 2 ^ b
    rw [val_drop (mag_wds x), val_mag, pw_two, Nat.pow_add, Nat.div_div_eq_div_mul]
  have hf := Lib.hid (val_front3 ((mag x).drop k))
  have h0 := (mag_wds x).getD k
  have h1 := (mag_wds x).getD (k + 1)
  have h2 := (mag_wds x).getD (k + 2)
  have t1 : ((k : Int) + 1).toNat = k + 1 := by omega
  have t2 : ((k : Int) + 2).toNat = k + 2 := by omega
  have T1 := Lib.hid t1
  have T2 := Lib.hid t2
  clear hz t1 t2
  go_enter Try.func168, Try.ntmps168
  go_wp2_with fail
  refine (word_any A n c (mag x) k w HA.out (by omega) (by omega)).mono ?_
  rintro e w' ⟨rfl, rfl⟩
  rw [Int.toNat_natCast]
  go_wp2_with fail
  refine (word_any A n c (mag x) (k + 1) w HA.out (by omega) (by omega)).mono ?_
  rintro e w' ⟨rfl, rfl⟩
  rw [T1.out]
  go_wp2_with fail
  refine (word_any A n c (mag x) (k + 2) w HA.out (by omega) (by omega)).mono ?_
  rintro e w' ⟨rfl, rfl⟩
  rw [T2.out]
  go_wp2_with fail
  go_quiet (fail)
  go_wp2
  go_ret
  refine ⟨ret_u64 ?_, nq, rfl⟩
  rw [hv.out]
  have hf := hf.out
  rw [gd_drop, gd_drop, gd_drop, Nat.add_zero] at hf
  exact window_bits h0 h1 hb hf

set_option maxHeartbeats 1000000 in
theorem difference_any (A B : Option Addr) (n m c d a b x y N D : Nat) (w : World) (ha : Wd w A n (mag a)) (hb : Wd w B m (mag b)) (hn : n ≤ N) (hm : m ≤ N) (hN : N ≤ n ∨ N ≤ m) (hN2 : N ≤ 1000000000)
    (hx : x < 4294967296) (hy : y < 4294967296) (hD : D + y * b = x * a) (hlt : D < pw N) :
    Calls Try.prog 169 #[.slice A n c, .int .u64 x, .slice B m d, .int .u64 y] w (RetMg D w) := by
  have HA := Lib.hid ha
  have HB := Lib.hid hb
  have HD := Lib.hid hD
  have HL := Lib.hid hlt
  clear ha hb hD hlt
  go_enter Try.func169, Try.ntmps169
  go_wp2_with (first
    | (refine wpList_make_blk rfl _ _ _ rfl Try.underlying22 u32_info _ _ _ _ N rfl rfl (by first | omega | (split <;> omega)) (by first | omega | (split <;> omega)) (by omega) ?_
       intro w1 hb1 hs1 hbl1
       have HB1 := Lib.hid hb1
       clear hb1 hs1))
  all_goals
    go_loopw [10, 11, 12, 23] (fun ad su bo t wr => ∃ k add sub bb : Nat, ∃ out, k ≤ N ∧ add < 4294967296 ∧ sub < 4294967296 ∧ bb ≤ 1 ∧ ad = .int .u64 add ∧ su = .int .u64 sub ∧ bo = .int .u64 bb ∧ t = .int .i64 k ∧ DiffRel (mag a) (mag b) x y N k add sub bb out ∧ Blk wr w.heap.size out ∧ Below w.heap.size w wr)
      (fun _ _ _ t _ => N - (intOf t).toNat)
    case atStart => exact ⟨0, 0, 0, 0, List.replicate N 0, Nat.zero_le _, by omega, by omega, by omega, rfl, rfl, rfl, rfl, ⟨by simp, by simp [val, pw_zero]⟩, HB1.out, hbl1⟩
    case round =>
      obtain ⟨k, add, sub, bb, out, hk, had, hsu, hbb, rfl, rfl, rfl, rfl, hrel, hblk, hbl⟩ := hrel
      have HR := Lib.hid hrel
      have HBK := Lib.hid hblk
      clear hrel hblk
      by_cases hlt : k < N
      · have h1 := (mag_wds a).getD k
        have h2 := (mag_wds b).getD k
        have m1 := mul_bound hx h1
        have m2 := mul_bound hy h2
        have hcell := HBK.out.cell (i := k) (by rw [HR.out.1]; omega)
        have hfro := HBK.out.frozen k
        have hR2 := Lib.hid (HR.out.step hlt hbb)
        have p1 : (x : Int) * (gd (mag a) k : Int) = ((x * gd (mag a) k : Nat) : Int) := by simp
        have p2 : (y : Int) * (gd (mag b) k : Int) = ((y * gd (mag b) k : Nat) : Int) := by simp
        generalize hxa : x * gd (mag a) k = xa at *
        generalize hyb : y * gd (mag b) k = yb at *
        have a1 := and_mask (add + xa) (by omega)
        have a2 := and_mask (sub + yb) (by omega)
        have d1 := Nat.mod_lt (add + xa) (show 0 < 4294967296 by omega)
        have d2 := Nat.mod_lt (sub + yb) (show 0 < 4294967296 by omega)
        have h3 : Hid (IntKind.u64.wrap (IntKind.u64.wrap ((((add + xa) % 4294967296 : Nat) : Int) - (((sub + yb) % 4294967296 : Nat) : Int)) - (bb : Int)) / 9223372036854775808 = ((bw ((add + xa) % 4294967296) ((sub + yb) % 4294967296) bb : Nat) : Int)) := sub_hi d1 d2 hbb
        have h4 : Hid (IntKind.u64.wrap (IntKind.u64.wrap ((((add + xa) % 4294967296 : Nat) : Int) - (((sub + yb) % 4294967296 : Nat) : Int)) - (bb : Int)) % 4294967296 = ((dw ((add + xa) % 4294967296) ((sub + yb) % 4294967296) bb : Nat) : Int)) := sub_lo d1 d2 hbb
        have c1 : (add : Int) + (xa : Int) = ((add + xa : Nat) : Int) := by simp
        have c2 : (sub : Int) + (yb : Int) = ((sub + yb : Nat) : Int) := by simp
        have b1 : add + xa < 18446744073709551616 := by omega
        have b2 : sub + yb < 18446744073709551616 := by omega
        generalize hs : add + xa = s at *
        generalize ht : sub + yb = t at *
        generalize hs2 : s % 4294967296 = s2 at *
        generalize ht2 : t % 4294967296 = t2 at *
        have HS2 := Lib.hid hs2
        have HT2 := Lib.hid ht2
        clear hxa hyb hs ht hs2 ht2
        go_wp2_with fail
        refine (word_any A n c (mag a) k _ (HA.out.below hbl) (by omega) (by omega)).mono ?_
        rintro e w' ⟨rfl, rfl⟩
        rw [Int.toNat_natCast]
        go_wp2_with fail
        refine (word_any B m d (mag b) k _ (HB.out.below hbl) (by omega) (by omega)).mono ?_
        rintro e w' ⟨rfl, rfl⟩
        rw [Int.toNat_natCast]
        go_wp2
        refine ⟨⟨k + 1, s / 4294967296, t / 4294967296, bw s2 t2 bb, _, by omega, by omega, by omega, bw_le _ _ _, by go_num, by go_num, by rw [h3.out], by go_num, hR2.out, HBK.out.set_i k _ h4.out (dw_lt _ _ _), hbl.setCell (Nat.le_refl _) _⟩, ?_⟩
        simp [intOf]; omega
      · obtain rfl : k = N := by omega
        have hd := Lib.hid (HR.out.done HBK.out.2 (by rw [HA.out.len]; omega) (by rw [HB.out.len]; omega) HD.out HL.out)
        have hlen := Lib.hid HR.out.1
        go_wp2_with fail
        refine (trim_any _ k k out _ (by have := HBK.out.whole; rwa [hlen.out] at this) (by omega) (by omega)).mono ?_
        rintro e w' ⟨q, hq, rfl, ht, rfl⟩
        have HT := Lib.hid ht
        clear ht
        go_wp2
        go_ret
        have h1 := HBK.out.whole.mg (c := k) hq (by rw [hlen.out]; omega) (by omega) HT.out
        rw [hd.out] at h1
        exact ⟨_, rfl, h1, hbl⟩
end Go.Proofs.Ytfigimfdojbkeaa

section
namespace Go.Proofs.Ytfigimfdojbkeaa
open Go.RowKit
attribute [local go_sem ↓] Go.wp_at_zero Go.wp_at_succ

/-- Block g is the cell of some steps. -/
def SBox (w : World) (g u0 u1 v0 v1 : Nat) (ev : Bool) : Prop := w.heap[g]? = some (.cells #[.int .u64 (u0 : Nat), .int .u64 (u1 : Nat), .int .u64 (v0 : Nat), .int .u64 (v1 : Nat), .bool ev] 158 (0, 0))
theorem SBox.new (w : World) (u0 u1 v0 v1 : Nat) (ev : Bool) : SBox (w.alloc (.cells #[.int .u64 (u0 : Nat), .int .u64 (u1 : Nat), .int .u64 (v0 : Nat), .int .u64 (v1 : Nat), .bool ev] 158)) w.heap.size u0 u1 v0 v1 ev := heap_alloc_new w _
theorem SBox.lt {w : World} {g u0 u1 v0 v1 : Nat} {ev : Bool} (h : SBox w g u0 u1 v0 v1 ev) : g < w.heap.size := by
  rcases Nat.lt_or_ge g w.heap.size with hlt | hge
  · exact hlt
  · unfold SBox at h; rw [Array.getElem?_eq_none hge] at h; cases h
theorem SBox.cells {w : World} {g u0 u1 v0 v1 : Nat} {ev : Bool} (h : SBox w g u0 u1 v0 v1 ev) :
    w.cell? ⟨g, 0, none⟩ = some (.int .u64 (u0 : Nat)) ∧ w.cell? ⟨g, 1, none⟩ = some (.int .u64 (u1 : Nat)) ∧ w.cell? ⟨g, 2, none⟩ = some (.int .u64 (v0 : Nat)) ∧ w.cell? ⟨g, 3, none⟩ = some (.int .u64 (v1 : Nat)) ∧ w.cell? ⟨g, 4, none⟩ = some (.bool ev) :=
  ⟨cell_of_row w g 0 _ _ (0, 0) h, cell_of_row w g 1 _ _ (0, 0) h, cell_of_row w g 2 _ _ (0, 0) h, cell_of_row w g 3 _ _ (0, 0) h, cell_of_row w g 4 _ _ (0, 0) h⟩
theorem SBox.frozen {w : World} {g u0 u1 v0 v1 : Nat} {ev : Bool} (h : SBox w g u0 u1 v0 v1 ev) (i : Nat) : w.frozen? ⟨g, i, none⟩ = false := by
  unfold SBox at h; simp [World.frozen?, h]
theorem SBox.drewN {w : World} {g u0 u1 v0 v1 : Nat} {ev : Bool} (h : SBox w g u0 u1 v0 v1 ev) (n : Nat) : SBox (w.drewN n) g u0 u1 v0 v1 ev := h
theorem SBox.alloc {w : World} {g u0 u1 v0 v1 : Nat} {ev : Bool} (h : SBox w g u0 u1 v0 v1 ev) (o : Obj) : SBox (w.alloc o) g u0 u1 v0 v1 ev := (Below.heap_alloc w o g h.lt).trans h
theorem SBox.next {w w1 w' : World} {g u0 u1 v0 v1 : Nat} {ev : Bool} (h : SBox w g u0 u1 v0 v1 ev) (hb : Below w1.heap.size w1 w') (e : w1.heap = w.heap) : SBox w' g u0 u1 v0 v1 ev := by
  have h1 : SBox w1 g u0 u1 v0 v1 ev := by unfold SBox; rw [e]; exact h
  exact (hb.block g h1.lt).trans h1
theorem SBox.far {w : World} {g u0 u1 v0 v1 : Nat} {ev : Bool} (h : SBox w g u0 u1 v0 v1 ev) {p : Addr} (hp : g ≠ p.block) (u : Value) : SBox (w.setCell p u) g u0 u1 v0 v1 ev := (Below.heap_setCell w p u g hp).trans h
theorem SBox.set5 {w : World} {g u0 u1 v0 v1 : Nat} {ev : Bool} (h : SBox w g u0 u1 v0 v1 ev) (a b c d : Nat) (f : Bool) :
    SBox (((((w.setCell ⟨g, 0, none⟩ (.int .u64 (a : Nat))).setCell ⟨g, 1, none⟩ (.int .u64 (b : Nat))).setCell ⟨g, 2, none⟩ (.int .u64 (c : Nat))).setCell ⟨g, 3, none⟩ (.int .u64 (d : Nat))).setCell ⟨g, 4, none⟩ (.bool f)) g a b c d f := by
  unfold SBox at h ⊢
  simp [World.setCell, Array.getElem?_modify, h]

/-- The value of some steps. -/
def stv (u0 u1 v0 v1 : Nat) (ev : Bool) : Value := .agg #[.int .u64 (u0 : Nat), .int .u64 (u1 : Nat), .int .u64 (v0 : Nat), .int .u64 (v1 : Nat), .bool ev]
def RetSteps (a b : Nat) (w : World) (e : Ending) (w' : World) : Prop := ∃ u0 u1 v0 v1 : Nat, ∃ ev, e = .returned (stv u0 u1 v0 v1 ev) ∧ Steps5 a b u0 u1 v0 v1 ev ∧ Below w.heap.size w w'

theorem bl_long {a n : Nat} (h : (mag a).length = n) (hn : 3 ≤ n) : 65 ≤ bl a := by
  have hp : 18446744073709551616 ≤ a := by
    rcases Nat.lt_or_ge a 18446744073709551616 with h1 | h1
    · have := mag_length_le (n := a) (k := 2) (by rw [show pw 2 = 18446744073709551616 from rfl]; exact h1)
      omega
    · exact h1
  rcases Nat.lt_or_ge (bl a) 65 with h1 | h1
  · have := (bl_lt a 64).1 (by omega)
    omega
  · exact h1
theorem bl_short {a n : Nat} (h : (mag a).length = n) : bl a ≤ 32 * n := (bl_lt a _).2 (by rw [← pw_two, ← h]; exact lt_pw_mag a)

set_option maxHeartbeats 2000000 in
set_option maxRecDepth 100000 in
theorem leadingSteps_any (A B : Option Addr) (n m c d a b : Nat) (w : World) (ha : Wd w A n (mag a)) (hb : Wd w B m (mag b)) (hn : 3 ≤ n) (hn2 : n ≤ 1000000000) (hm : m ≤ 1000000000) (hba : b ≤ a) :
    Calls Try.prog 147 #[.slice A n c, .slice B m d] w (RetSteps a b w) := by
  have HA := Lib.hid ha
  have HB := Lib.hid hb
  have hl1 := bl_long ha.len hn
  have hl2 := bl_short ha.len
  obtain ⟨s, hs⟩ : ∃ s, bl a = s + 64 := ⟨bl a - 64, by omega⟩
  have hX : a / 2 ^ s < 18446744073709551616 := by
    rw [Nat.div_lt_iff_lt_mul (Nat.pow_pos (by omega))]
    have := lt_bl a
    rw [hs, Nat.pow_add] at this
    omega
  have hYX : b / 2 ^ s ≤ a / 2 ^ s := Nat.div_le_div_right hba
  have da : Hid (a = a / 2 ^ s * 2 ^ s + a % 2 ^ s ∧ a % 2 ^ s < 2 ^ s) := ⟨by rw [Nat.mul_comm]; exact (Nat.div_add_mod _ _).symm, Nat.mod_lt _ (Nat.pow_pos (by omega))⟩
  have db : Hid (b = b / 2 ^ s * 2 ^ s + b % 2 ^ s ∧ b % 2 ^ s < 2 ^ s) := ⟨by rw [Nat.mul_comm]; exact (Nat.div_add_mod _ _).symm, Nat.mod_lt _ (Nat.pow_pos (by omega))⟩
  have mX : Hid (a / 2 ^ s % 18446744073709551616 = a / 2 ^ s) := Nat.mod_eq_of_lt hX
  have mY : Hid (b / 2 ^ s % 18446744073709551616 = b / 2 ^ s) := Nat.mod_eq_of_lt (by omega)
  generalize hXX : a / 2 ^ s = X at *
  generalize hYY : b / 2 ^ s = Y at *
  have HXX := Lib.hid hXX
  have HYY := Lib.hid hYY
  have HS := Lib.hid hs
  have hs2 : s ≤ 100000000000 := by omega
  have hz : (bl a : Int) - 64 = (s : Int) := by omega
  have HZ := Lib.hid hz
  have hz1 : (65 : Int) ≤ (bl a : Int) := by omega
  have hz2 : (bl a : Int) ≤ 32000000000 := by omega
  clear ha hb hXX hYY hs hz hl1 hl2
  go_enter Try.func147, Try.ntmps147
  go_wp2_with fail
  refine (bitLength_any A n c a _ (HA.out.alloc _) (by omega)).mono ?_
  rintro e w' ⟨rfl, rfl⟩
  go_wp2_with fail
  refine (window_any A n c a s _ _ (HA.out.alloc _) (by omega) hs2 HZ.out).mono ?_
  rintro e w' ⟨rfl, q1, rfl⟩
  rw [HXX.out, mX.out]
  go_wp2_with fail
  refine (window_any B m d b s _ _ ((HB.out.alloc _).drewN _) (by omega) hs2 HZ.out).mono ?_
  rintro e w' ⟨rfl, q2, rfl⟩
  rw [HYY.out, mY.out]
  go_wp2_with fail
  obtain ⟨g, hg⟩ : ∃ g, g = w.heap.size := ⟨_, rfl⟩
  have HG := Lib.hid hg
  clear hg
  go_loopw [6, 7, 9, 10] (fun tx ty tu tv wr => ∃ x y u0 u1 u2 v0 v1 v2 : Nat, ∃ ev, tx = .int .u64 x ∧ ty = .int .u64 y ∧ tu = .int .u64 u2 ∧ tv = .int .u64 v2 ∧ x < 18446744073709551616 ∧ v1 < 4294967296 ∧ y ≤ x ∧ Leh a b X Y x y u0 u1 u2 v0 v1 v2 ev ∧
      SBox wr (w.heap.size + 1) u0 u1 v0 v1 ev ∧ SBox wr w.heap.size 0 0 0 0 false ∧ Below w.heap.size w wr)
    (fun _ ty _ _ _ => (intOf ty).toNat)
  case atStart =>
    refine ⟨X, Y, 0, 1, 0, 0, 0, 1, false, rfl, rfl, rfl, rfl, hX, by omega, hYX, Leh.init hYX, ?_, ((SBox.new w 0 0 0 0 false).drewN _).alloc _, (below_drewN ((Below.refl _ _).alloc (Nat.le_refl _) _) _).alloc (by simp) _⟩
    have := SBox.new ((w.alloc (Obj.cells #[Value.int IntKind.u64 0, Value.int IntKind.u64 0, Value.int IntKind.u64 0, Value.int IntKind.u64 0, Value.bool false] 158)).drewN (q1 + q2)) 0 1 0 0 false
    simpa using this
  case round =>
    obtain ⟨x, y, u0, u1, u2, v0, v1, v2, ev, rfl, rfl, rfl, rfl, hx, hv1, hyx, hleh, hs1, hs0, hbl⟩ := hrel
    have HL := Lib.hid hleh
    have HS1 := Lib.hid hs1
    have HS0 := Lib.hid hs0
    obtain ⟨c0, c1, c2, c3, c4⟩ := hs1.cells
    have f0 := hs1.frozen 0
    have f1 := hs1.frozen 1
    have f2 := hs1.frozen 2
    have f3 := hs1.frozen 3
    have f4 := hs1.frozen 4
    clear hleh hs1 hs0
    by_cases hc1 : v2 ≤ y
    · obtain ⟨hy, hu2, hv2, hfu, hfv⟩ := HL.out.fits hX hYX hc1
      by_cases hc2 : v1 + v2 ≤ x - y
      · have hst := Lib.hid (HL.out.step hX hYX da.out.1 da.out.2 db.out.1 db.out.2 hc1 hc2)
        have k1 : (v1 : Int) + (v2 : Int) ≤ (x : Int) - (y : Int) := by omega
        have n1 : ((y : Int) == 0) = false := by simp; omega
        have n2 : (1 : Int) ≤ (y : Int) := by omega
        have n3 : (x : Int) ≤ 18446744073709551615 := by omega
        have n4 : x / y < 18446744073709551616 := Nat.lt_of_le_of_lt (Nat.div_le_self _ _) hx
        have n9 : x % y < 18446744073709551616 := Nat.lt_of_le_of_lt (Nat.mod_le _ _) hx
        have n10 : x % y < y := Nat.mod_lt _ hy
        have n5 : IntKind.u64.wrap ((x : Int) / (y : Int)) = ((x / y : Nat) : Int) := by
          rw [IntWalk.u64_in _ ⟨Int.ediv_nonneg (by omega) (by omega), by rw [← Int.natCast_ediv]; omega⟩]; rfl
        have n6 : ((x : Int) % (y : Int)) = ((x % y : Nat) : Int) := rfl
        have n7 : (x : Int).tmod (y : Int) = ((x % y : Nat) : Int) := rfl
        have n8 : IntKind.u64.wrap ((x : Int).tdiv (y : Int)) = ((x / y : Nat) : Int) := by
          rw [Int.tdiv_eq_ediv_of_nonneg (by omega)]; exact n5
        generalize hqq : x / y = qq at *
        generalize hrr : x % y = rr at *
        have p1 : (qq : Int) * (u2 : Int) = ((qq * u2 : Nat) : Int) := by simp
        have p2 : (qq : Int) * (v2 : Int) = ((qq * v2 : Nat) : Int) := by simp
        generalize hqu : qq * u2 = qu at *
        generalize hqv : qq * v2 = qv at *
        clear hqq hrr hqu hqv
        go_wp2_with fail
        go_quiet (fail)
        go_wp2
        have hfar : ∀ {ww : World} {o : Nat} {u : Value}, SBox ww w.heap.size 0 0 0 0 false → SBox (ww.setCell ⟨w.heap.size + 1, o, none⟩ u) w.heap.size 0 0 0 0 false := fun h => h.far (by simp) _
        refine ⟨⟨y, rr, u1, u2, u1 + qu, v1, v2, v1 + qv, !ev, rfl, rfl, by go_num, by go_num, by omega, hv2, by omega, ?_, ?_, ?_, ?_⟩, by simp [intOf]; omega⟩
        · exact hst.out
        · exact (HS1.out.drewN _).set5 _ _ _ _ _
        · exact hfar (hfar (hfar (hfar (hfar (HS0.out.drewN _)))))
        · exact (((((below_drewN hbl _).setCell (by simp) _).setCell (by simp) _).setCell (by simp) _).setCell (by simp) _).setCell (by simp) _
      · have k1 : ¬ ((v1 : Int) + (v2 : Int) ≤ (x : Int) - (y : Int)) := by omega
        have d0 := HS0.out.cells
        have e0 := HS0.out.frozen 0
        have e1 := HS0.out.frozen 1
        have e2 := HS0.out.frozen 2
        have e3 := HS0.out.frozen 3
        have e4 := HS0.out.frozen 4
        obtain ⟨d0, d1, d2, d3, d4⟩ := d0
        go_wp2
        exact bodyPost_ret (v := stv u0 u1 v0 v1 ev) (by simp [results, Try.results147, go_sem, d0, d1, d2, d3, d4, stv]) rfl ⟨u0, u1, v0, v1, ev, rfl, HL.out.done, ((((hbl.setCell (Nat.le_refl _) _).setCell (Nat.le_refl _) _).setCell (Nat.le_refl _) _).setCell (Nat.le_refl _) _).setCell (Nat.le_refl _) _⟩
    · have k0 : ¬ ((v2 : Int) ≤ (y : Int)) := by omega
      have d0 := HS0.out.cells
      have e0 := HS0.out.frozen 0
      have e1 := HS0.out.frozen 1
      have e2 := HS0.out.frozen 2
      have e3 := HS0.out.frozen 3
      have e4 := HS0.out.frozen 4
      obtain ⟨d0, d1, d2, d3, d4⟩ := d0
      go_wp2
      exact bodyPost_ret (v := stv u0 u1 v0 v1 ev) (by simp [results, Try.results147, go_sem, d0, d1, d2, d3, d4, stv]) rfl ⟨u0, u1, v0, v1, ev, rfl, HL.out.done, ((((hbl.setCell (Nat.le_refl _) _).setCell (Nat.le_refl _) _).setCell (Nat.le_refl _) _).setCell (Nat.le_refl _) _).setCell (Nat.le_refl _) _⟩
end Go.Proofs.Ytfigimfdojbkeaa
end
end

section
namespace Go.Proofs.Ytfigimfdojbkeaa
open Go.RowKit
attribute [local go_sem ↓] Go.wp_at_zero Go.wp_at_succ

set_option maxHeartbeats 2000000 in
theorem apply_any (A B : Option Addr) (n m c d a b N u0 u1 v0 v1 p q : Nat) (ev : Bool) (w : World) (ha : Wd w A n (mag a)) (hb : Wd w B m (mag b)) (hn : n ≤ N) (hm : m ≤ N) (hN : N ≤ n ∨ N ≤ m) (hN2 : N ≤ 1000000000)
    (h0 : u0 < 4294967296) (h1 : u1 < 4294967296) (h2 : v0 < 4294967296) (h3 : v1 < 4294967296) (hc : Comb ev a b u0 u1 v0 v1 p q) (hp : p < pw N) (hq : q < pw N) :
    Calls Try.prog 148 #[stv u0 u1 v0 v1 ev, .slice A n c, .slice B m d] w (RetMg2 p q w) := by
  have HA := Lib.hid ha
  have HB := Lib.hid hb
  have HP := Lib.hid hp
  have HQ := Lib.hid hq
  have hN3 : N ≤ m ∨ N ≤ n := hN.symm
  unfold stv
  clear ha hb hp hq
  cases ev with
  | true =>
    have hc' : p + v0 * b = u0 * a ∧ q + u1 * a = v1 * b := by simpa [Comb] using hc
    have HC := Lib.hid hc'
    clear hc hc'
    go_enter Try.func148, Try.ntmps148
    go_wp2_with fail
    obtain ⟨W, hW⟩ : ∃ W, W = w.alloc (Obj.cells #[Value.int IntKind.u64 (u0 : Nat), Value.int IntKind.u64 (u1 : Nat), Value.int IntKind.u64 (v0 : Nat), Value.int IntKind.u64 (v1 : Nat), Value.bool true] 158) := ⟨_, rfl⟩
    rw [← hW]
    have b0 : SBox W w.heap.size u0 u1 v0 v1 true := by rw [hW]; exact SBox.new _ _ _ _ _ _
    have a1 : Hid (Wd W A n (mag a)) := by rw [hW]; exact HA.out.alloc _
    have a2 : Hid (Wd W B m (mag b)) := by rw [hW]; exact HB.out.alloc _
    have hbW : Below w.heap.size w W := by rw [hW]; exact (Below.refl _ _).alloc (Nat.le_refl _) _
    have B0 := Lib.hid b0
    obtain ⟨c0, c1, c2, c3, c4⟩ := b0.cells
    clear hW b0
    have hgW := hbW.size
    generalize hg0 : w.heap.size = g at *
    go_region_held3 (fun w' => w'.cell? ⟨g, 0, none⟩ = some (.int .u64 (u0 : Nat)) ∧ w'.cell? ⟨g, 1, none⟩ = some (.int .u64 (u1 : Nat)) ∧ w'.cell? ⟨g, 2, none⟩ = some (.int .u64 (v0 : Nat)) ∧ w'.cell? ⟨g, 3, none⟩ = some (.int .u64 (v1 : Nat))) (go_keep)
      (first
        | (go_at_call_of 169 (Value.int IntKind.u64 (u0 : Nat)); refine (difference_any A B n m c d a b u0 v0 N p _ (by first | exact a1.out | exact a1.out.next hblb rfl) (by first | exact a2.out | exact a2.out.next hblb rfl) hn hm hN hN2 h0 h2 HC.out.1 HP.out).mono ?_; rintro e wa ⟨va, rfl, hva, hbla⟩
           have ka0 := (by first | exact B0.out.next hbla rfl | exact (B0.out.next hblb rfl).next hbla rfl : SBox wa g u0 u1 v0 v1 true)
           obtain ⟨p0, p1, p2, p3, p4⟩ := ka0.cells
           have HVA := Lib.hid hva; clear ka0 hva)
        | (go_at_call_of 169 (Value.int IntKind.u64 (v1 : Nat)); refine (difference_any B A m n d c b a v1 u1 N q _ (by first | exact a2.out | exact a2.out.next hbla rfl) (by first | exact a1.out | exact a1.out.next hbla rfl) hm hn hN3 hN2 h3 h1 HC.out.2 HQ.out).mono ?_; rintro e wb ⟨vb, rfl, hvb, hblb⟩
           have kb0 := (by first | exact B0.out.next hblb rfl | exact (B0.out.next hbla rfl).next hblb rfl : SBox wb g u0 u1 v0 v1 true)
           obtain ⟨q0, q1, q2, q3, q4⟩ := kb0.cells
           have HVB := Lib.hid hvb; clear kb0 hvb))
    all_goals
      go_wp2
      go_ret2
      first
        | exact ⟨_, _, rfl, HVA.out.next hblb rfl, HVB.out, by rw [hg0]; exact link_below (link_below hbW hbla hgW rfl rfl rfl rfl) hblb (Nat.le_trans hgW hbla.size) rfl rfl rfl rfl⟩
        | exact ⟨_, _, rfl, HVA.out, HVB.out.next hbla rfl, by rw [hg0]; exact link_below (link_below hbW hblb hgW rfl rfl rfl rfl) hbla (Nat.le_trans hgW hblb.size) rfl rfl rfl rfl⟩
  | false =>
    have hc' : p + u0 * a = v0 * b ∧ q + v1 * b = u1 * a := by simpa [Comb] using hc
    have HC := Lib.hid hc'
    clear hc hc'
    go_enter Try.func148, Try.ntmps148
    go_wp2_with fail
    obtain ⟨W, hW⟩ : ∃ W, W = w.alloc (Obj.cells #[Value.int IntKind.u64 (u0 : Nat), Value.int IntKind.u64 (u1 : Nat), Value.int IntKind.u64 (v0 : Nat), Value.int IntKind.u64 (v1 : Nat), Value.bool false] 158) := ⟨_, rfl⟩
    rw [← hW]
    have b0 : SBox W w.heap.size u0 u1 v0 v1 false := by rw [hW]; exact SBox.new _ _ _ _ _ _
    have a1 : Hid (Wd W A n (mag a)) := by rw [hW]; exact HA.out.alloc _
    have a2 : Hid (Wd W B m (mag b)) := by rw [hW]; exact HB.out.alloc _
    have hbW : Below w.heap.size w W := by rw [hW]; exact (Below.refl _ _).alloc (Nat.le_refl _) _
    have B0 := Lib.hid b0
    obtain ⟨c0, c1, c2, c3, c4⟩ := b0.cells
    clear hW b0
    have hgW := hbW.size
    generalize hg0 : w.heap.size = g at *
    go_region_held3 (fun w' => w'.cell? ⟨g, 0, none⟩ = some (.int .u64 (u0 : Nat)) ∧ w'.cell? ⟨g, 1, none⟩ = some (.int .u64 (u1 : Nat)) ∧ w'.cell? ⟨g, 2, none⟩ = some (.int .u64 (v0 : Nat)) ∧ w'.cell? ⟨g, 3, none⟩ = some (.int .u64 (v1 : Nat))) (go_keep)
      (first
        | (go_at_call_of 169 (Value.int IntKind.u64 (v0 : Nat)); refine (difference_any B A m n d c b a v0 u0 N p _ (by first | exact a2.out | exact a2.out.next hblb rfl) (by first | exact a1.out | exact a1.out.next hblb rfl) hm hn hN3 hN2 h2 h0 HC.out.1 HP.out).mono ?_; rintro e wa ⟨va, rfl, hva, hbla⟩
           have ka0 := (by first | exact B0.out.next hbla rfl | exact (B0.out.next hblb rfl).next hbla rfl : SBox wa g u0 u1 v0 v1 false)
           obtain ⟨p0, p1, p2, p3, p4⟩ := ka0.cells
           have HVA := Lib.hid hva; clear ka0 hva)
        | (go_at_call_of 169 (Value.int IntKind.u64 (u1 : Nat)); refine (difference_any A B n m c d a b u1 v1 N q _ (by first | exact a1.out | exact a1.out.next hbla rfl) (by first | exact a2.out | exact a2.out.next hbla rfl) hn hm hN hN2 h1 h3 HC.out.2 HQ.out).mono ?_; rintro e wb ⟨vb, rfl, hvb, hblb⟩
           have kb0 := (by first | exact B0.out.next hblb rfl | exact (B0.out.next hbla rfl).next hblb rfl : SBox wb g u0 u1 v0 v1 false)
           obtain ⟨q0, q1, q2, q3, q4⟩ := kb0.cells
           have HVB := Lib.hid hvb; clear kb0 hvb))
    all_goals
      go_wp2
      go_ret2
      first
        | exact ⟨_, _, rfl, HVA.out.next hblb rfl, HVB.out, by rw [hg0]; exact link_below (link_below hbW hbla hgW rfl rfl rfl rfl) hblb (Nat.le_trans hgW hbla.size) rfl rfl rfl rfl⟩
        | exact ⟨_, _, rfl, HVA.out, HVB.out.next hbla rfl, by rw [hg0]; exact link_below (link_below hbW hblb hgW rfl rfl rfl rfl) hbla (Nat.le_trans hgW hblb.size) rfl rfl rfl rfl⟩

/-- The greatest common divisor of p and q is that of x and y. -/
def GcdIs (p q x y : Nat) : Prop := Nat.gcd p q = Nat.gcd x y
theorem gcd_mod (x y : Nat) : Nat.gcd y (x % y) = Nat.gcd x y := by rw [Nat.gcd_comm y, ← Nat.gcd_rec, Nat.gcd_comm]

set_option maxHeartbeats 8000000 in
set_option maxRecDepth 100000 in
theorem gcd_any (A B : Option Addr) (n m c d x y : Nat) (w : World) (ha : Wd w A n (mag x)) (hb : Wd w B m (mag y)) (hnc : n ≤ c) (hmd : m ≤ d) (hc : c ≤ 9223372036854775807) (hd : d ≤ 9223372036854775807) (hn : n ≤ 10000000) (hm : m ≤ 10000000) :
    Calls Try.prog 105 #[.slice A n c, .slice B m d] w (RetMg (Nat.gcd x y) w) := by
  have HA := Lib.hid ha
  have HB := Lib.hid hb
  obtain ⟨M, hM, hxM, hyM⟩ : ∃ M, M ≤ 10000000 ∧ Hid (x < pw M) ∧ Hid (y < pw M) := by
    refine ⟨max n m, by omega, ?_, ?_⟩
    · have h := lt_pw_mag x
      rw [ha.len] at h
      exact Nat.lt_of_lt_of_le h (pw_le (by omega))
    · have h := lt_pw_mag y
      rw [hb.len] at h
      exact Nat.lt_of_lt_of_le h (pw_le (by omega))
  clear ha hb
  have hswap : x < y ∨ y ≤ x := by omega
  rcases hswap with hlt | hge
  · have hcm := Lib.hid (cmpN_lt hlt)
    have G0 : Hid (GcdIs y x x y) := Nat.gcd_comm _ _
    go_enter Try.func105, Try.ntmps105
    go_wp2_with fail
    refine (compare_any A B n m c d x y w HA.out HB.out (by omega) (by omega)).mono ?_
    rintro e w' ⟨rfl, q0, rfl⟩
    rw [hcm.out]
    go_wp2_with fail
    go_loopg [0, 1] (min x y) (fun k v u wr => ∃ a b : Nat, b ≤ k ∧ k ≤ b ∧ Mg wr v a ∧ Mg wr u b ∧ b ≤ a ∧ GcdIs a b x y ∧ a < pw M ∧ Below w.heap.size w wr)
    case atStart => exact ⟨y, x, by omega, by omega, ⟨B, m, d, rfl, hmd, hd, HB.out.drewN _⟩, ⟨A, n, c, rfl, hnc, hc, HA.out.drewN _⟩, by omega, G0.out, hyM.out, below_drewN (Below.refl _ _) _⟩
    case round =>
      obtain ⟨a, b, hk1, hk2, ⟨A1, n1, c1, rfl, h1, h2, h3⟩, ⟨B1, m1, d1, rfl, k1, k2, k3⟩, hba, hG, haM, hbl⟩ := hrel
      have hn1 : n1 ≤ 10000000 := by have := mag_length_le haM; rw [h3.len] at this; omega
      have hmn : m1 ≤ n1 := by have := mag_len_mono hba; rw [h3.len, k3.len] at this; exact this
      have H3 := Lib.hid h3
      have K3 := Lib.hid k3
      have HG := Lib.hid hG
      have HAM := Lib.hid haM
      clear h3 k3 hG haM
      by_cases hlong : 2 < m1
      · have hb0 : b ≠ 0 := by
          intro e
          have := K3.out.len
          rw [e, mag_zero] at this
          simp at this
          omega
        have hlI : (2 : Int) < (m1 : Int) := by omega
        go_wp2_with fail
        refine (leadingSteps_any A1 B1 n1 m1 c1 d1 a b _ H3.out K3.out (by omega) (by omega) (by omega) hba).mono ?_
        rintro e w2 ⟨u0, u1, v0, v1, ev, rfl, ⟨s0, s1, s2, s3, hst⟩, hbl2⟩
        have HST := Lib.hid hst
        have H4 := Lib.hid (H3.out.next hbl2 rfl)
        have K4 := Lib.hid (K3.out.next hbl2 rfl)
        have hbl3 := link_below hbl hbl2 hbl.size rfl rfl rfl rfl
        clear hst
        unfold stv
        by_cases hv0 : v0 = 0
        · subst hv0
          go_wp2_with fail
          refine (divide_any A1 B1 n1 c1 m1 d1 a b _ (H4.out.alloc _) (K4.out.alloc _) (by omega) (by omega) hb0).mono ?_
          rintro e w3 ⟨v3, u3, rfl, hm1, hm2, hbl4⟩
          have HM2 := Lib.hid hm2
          have hx := Nat.mod_lt a (show 0 < b by omega)
          have HG2 : Hid (GcdIs b (a % b) x y) := by show Nat.gcd b (a % b) = Nat.gcd x y; rw [gcd_mod]; exact HG.out
          clear hm1 hm2
          generalize hrr : a % b = rr at *
          clear hrr
          go_wp2
          go_roundg rr
          case rel => exact ⟨b, rr, Nat.le_refl _, Nat.le_refl _, ⟨B1, m1, d1, rfl, k1, k2, (K4.out.alloc _).next hbl4 rfl⟩, HM2.out, by omega, HG2.out, Nat.lt_of_le_of_lt hba HAM.out, link_below (hbl3.alloc hbl3.size _) hbl4 (by have := hbl3.size; simp; omega) rfl rfl rfl rfl⟩
          case measure => omega
        · obtain ⟨p, q, hcomb, hg, hqp, hpb⟩ := HST.out hv0
          have HC := Lib.hid hcomb
          have hv0' : ((v0 : Int) == 0) = false := by simp; omega
          have hbn : b < pw n1 := Nat.lt_of_lt_of_le (lt_pw_mag b) (pw_le (by rw [K3.out.len]; exact hmn))
          have hpn : Hid (p < pw n1 ∧ q < pw n1) := ⟨by omega, by omega⟩
          have HG2 : Hid (GcdIs p q x y) := by show Nat.gcd p q = Nat.gcd x y; rw [hg]; exact HG.out
          clear hcomb hg hbn
          go_wp2_with fail
          refine (apply_any A1 B1 n1 m1 c1 d1 a b n1 u0 u1 v0 v1 p q ev _ (H4.out.alloc _) (K4.out.alloc _) (Nat.le_refl _) hmn (.inl (Nat.le_refl _)) (by omega) s0 s1 s2 s3 HC.out hpn.out.1 hpn.out.2).mono ?_
          rintro e w3 ⟨v3, u3, rfl, hm1, hm2, hbl4⟩
          have HM1 := Lib.hid hm1
          have HM2 := Lib.hid hm2
          clear hm1 hm2
          go_wp2
          go_roundg q
          case rel => exact ⟨p, q, Nat.le_refl _, Nat.le_refl _, HM1.out, HM2.out, by omega, HG2.out, Nat.lt_of_le_of_lt (Nat.le_trans hpb hba) HAM.out, link_below (hbl3.alloc hbl3.size _) hbl4 (by have := hbl3.size; simp; omega) rfl rfl rfl rfl⟩
          case measure => omega
      · have hlI : ¬ (2 : Int) < (m1 : Int) := by omega
        have hm2 : m1 ≤ 2 := by omega
        clear hlong
        by_cases hm0 : m1 = 0
        · subst hm0
          have hb0 : b = 0 := mag_length_zero.1 K3.out.len
          subst hb0
          have e0 : Hid (a = Nat.gcd x y) := by have := HG.out; unfold GcdIs at this; rw [Nat.gcd_zero_right] at this; exact this
          go_wp2_with fail
          refine (clone_any A1 n1 c1 (mag a) _ H3.out (by omega)).mono ?_
          rintro e w2 ⟨rfl, hb2, hbl2⟩
          have HB2 := Lib.hid hb2
          clear hb2
          go_wp2
          go_ret
          exact ⟨_, rfl, Mg.blk HB2.out H3.out.len (by omega) (by rw [e0.out]), link_below hbl hbl2 hbl.size rfl rfl rfl rfl⟩
        · have hmI : ((m1 : Int) == 0) = false := by simp; omega
          by_cases hn2 : 2 < n1
          · have hnI : (2 : Int) < (n1 : Int) := by omega
            have hb0 : b ≠ 0 := by
              intro e
              have := K3.out.len
              rw [e, mag_zero] at this
              simp at this
              omega
            go_wp2_with fail
            refine (divide_any A1 B1 n1 c1 m1 d1 a b _ H3.out K3.out (by omega) (by omega) hb0).mono ?_
            rintro e w3 ⟨v3, u3, rfl, hm1, ⟨R, r, rc, rfl, r1, r2, r3⟩, hbl4⟩
            have R3 := Lib.hid r3
            have K4 := Lib.hid (K3.out.next hbl4 rfl)
            have hx := Nat.mod_lt a (show 0 < b by omega)
            have hr2 : r ≤ 2 := by have h := mag_len_mono (Nat.le_of_lt hx); rw [R3.out.len, K3.out.len] at h; omega
            have HG2 : Hid (GcdIs b (a % b) x y) := by show Nat.gcd b (a % b) = Nat.gcd x y; rw [gcd_mod]; exact HG.out
            have hbl5 := link_below hbl hbl4 hbl.size rfl rfl rfl rfl
            clear hm1 r3
            generalize hrr : a % b = rr at *
            clear hrr hmI hlI
            have hxl := Lib.hid (number_val K4.out.len hm2)
            have hyl := Lib.hid (number_val R3.out.len hr2)
            have hx64 : b < 18446744073709551616 := by
              rw [← hxl.out]
              have := (mag_wds (b)).getD 0
              have := (mag_wds (b)).getD 1
              omega
            have hy64 : rr < 18446744073709551616 := by
              rw [← hyl.out]
              have := (mag_wds (rr)).getD 0
              have := (mag_wds (rr)).getD 1
              omega
            go_wp2_with fail
            refine (number_any B1 m1 d1 (mag (b)) _ K4.out (by omega)).mono ?_
            rintro e w' ⟨rfl, rfl⟩
            rw [hxl.out]
            go_wp2_with fail
            refine (number_any R r rc (mag (rr)) _ R3.out (by omega)).mono ?_
            rintro e w' ⟨rfl, rfl⟩
            rw [hyl.out]
            go_wp2_with fail
            go_loopw [10, 11] (fun tx ty wq => ∃ p q k : Nat, tx = .int .u64 p ∧ ty = .int .u64 q ∧ wq = w3.drewN k ∧ p < 18446744073709551616 ∧ q < 18446744073709551616 ∧ GcdIs p q x y) (fun _ ty _ => (intOf ty).toNat)
            case atStart => exact ⟨_, _, 0, rfl, rfl, rfl, hx64, hy64, HG2.out⟩
            case round =>
              obtain ⟨p, q, k, rfl, rfl, rfl, hp, hq, hG⟩ := hrel
              have HG := Lib.hid hG
              clear hG
              by_cases hq0 : q = 0
              · subst hq0
                have e0 : Hid (p = Nat.gcd x y) := by have := HG.out; unfold GcdIs at this; rw [Nat.gcd_zero_right] at this; exact this
                go_wp2_with fail
                refine (wordsOf_any p _ hp).mono ?_
                rintro e w4 ⟨v4, rfl, hm4, hbl4⟩
                have HM4 := Lib.hid hm4
                clear hm4
                go_wp2
                go_ret
                exact ⟨_, rfl, by rw [← e0.out]; exact HM4.out, link_below hbl5 (undrewN hbl4) hbl5.size rfl rfl rfl rfl⟩
              · have n1' : ((q : Int) == 0) = false := by simp; omega
                have n1'' : ((q : Int) != 0) = true := by simp; omega
                have n2' : (1 : Int) ≤ (q : Int) := by omega
                have n4' : p % q < q := Nat.mod_lt _ (by omega)
                have n6' : ((p : Int) % (q : Int)) = ((p % q : Nat) : Int) := rfl
                have n7' : (p : Int).tmod (q : Int) = ((p % q : Nat) : Int) := rfl
                have hG2 : Hid (GcdIs q (p % q) x y) := by show Nat.gcd q (p % q) = Nat.gcd x y; rw [gcd_mod]; exact HG.out
                generalize hrr : p % q = rr at *
                clear hrr
                go_wp2_with fail
                go_quiet (fail)
                go_wp2
                go_roundw
                case rel => exact ⟨q, rr, _, rfl, rfl, World.drewN_drewN _ _ _, hq, by omega, hG2.out⟩
                case measure => simp [intOf]; omega
          · have hnI : ¬ (2 : Int) < (n1 : Int) := by omega
            have hn3 : n1 ≤ 2 := by omega
            clear hn2
            have hxl := Lib.hid (number_val H3.out.len hn3)
            have hyl := Lib.hid (number_val K3.out.len hm2)
            have hx64 : a < 18446744073709551616 := by
              rw [← hxl.out]
              have := (mag_wds (a)).getD 0
              have := (mag_wds (a)).getD 1
              omega
            have hy64 : b < 18446744073709551616 := by
              rw [← hyl.out]
              have := (mag_wds (b)).getD 0
              have := (mag_wds (b)).getD 1
              omega
            go_wp2_with fail
            refine (number_any A1 n1 c1 (mag (a)) _ H3.out (by omega)).mono ?_
            rintro e w' ⟨rfl, rfl⟩
            rw [hxl.out]
            go_wp2_with fail
            refine (number_any B1 m1 d1 (mag (b)) _ K3.out (by omega)).mono ?_
            rintro e w' ⟨rfl, rfl⟩
            rw [hyl.out]
            go_wp2_with fail
            go_loopw [10, 11] (fun tx ty wq => ∃ p q k : Nat, tx = .int .u64 p ∧ ty = .int .u64 q ∧ wq = wr.drewN k ∧ p < 18446744073709551616 ∧ q < 18446744073709551616 ∧ GcdIs p q x y) (fun _ ty _ => (intOf ty).toNat)
            case atStart => exact ⟨_, _, 0, rfl, rfl, rfl, hx64, hy64, HG.out⟩
            case round =>
              obtain ⟨p, q, k, rfl, rfl, rfl, hp, hq, hG⟩ := hrel
              have HG := Lib.hid hG
              clear hG
              by_cases hq0 : q = 0
              · subst hq0
                have e0 : Hid (p = Nat.gcd x y) := by have := HG.out; unfold GcdIs at this; rw [Nat.gcd_zero_right] at this; exact this
                go_wp2_with fail
                refine (wordsOf_any p _ hp).mono ?_
                rintro e w4 ⟨v4, rfl, hm4, hbl4⟩
                have HM4 := Lib.hid hm4
                clear hm4
                go_wp2
                go_ret
                exact ⟨_, rfl, by rw [← e0.out]; exact HM4.out, link_below hbl (undrewN hbl4) hbl.size rfl rfl rfl rfl⟩
              · have n1' : ((q : Int) == 0) = false := by simp; omega
                have n1'' : ((q : Int) != 0) = true := by simp; omega
                have n2' : (1 : Int) ≤ (q : Int) := by omega
                have n4' : p % q < q := Nat.mod_lt _ (by omega)
                have n6' : ((p : Int) % (q : Int)) = ((p % q : Nat) : Int) := rfl
                have n7' : (p : Int).tmod (q : Int) = ((p % q : Nat) : Int) := rfl
                have hG2 : Hid (GcdIs q (p % q) x y) := by show Nat.gcd q (p % q) = Nat.gcd x y; rw [gcd_mod]; exact HG.out
                generalize hrr : p % q = rr at *
                clear hrr
                go_wp2_with fail
                go_quiet (fail)
                go_wp2
                go_roundw
                case rel => exact ⟨q, rr, _, rfl, rfl, World.drewN_drewN _ _ _, hq, by omega, hG2.out⟩
                case measure => simp [intOf]; omega
  · have hc0 : (0 : Int) ≤ cmpN x y := by unfold cmpN; rw [if_neg (by omega)]; split <;> omega
    have G0 : Hid (GcdIs x y x y) := rfl
    generalize hcc : cmpN x y = cc at *
    have HCC := Lib.hid hcc
    clear hcc
    go_enter Try.func105, Try.ntmps105
    go_wp2_with fail
    refine (compare_any A B n m c d x y w HA.out HB.out (by omega) (by omega)).mono ?_
    rintro e w' ⟨rfl, q0, rfl⟩
    rw [HCC.out]
    go_wp2_with fail
    go_loopg [0, 1] (min x y) (fun k v u wr => ∃ a b : Nat, b ≤ k ∧ k ≤ b ∧ Mg wr v a ∧ Mg wr u b ∧ b ≤ a ∧ GcdIs a b x y ∧ a < pw M ∧ Below w.heap.size w wr)
    case atStart => exact ⟨x, y, by omega, by omega, ⟨A, n, c, rfl, hnc, hc, HA.out.drewN _⟩, ⟨B, m, d, rfl, hmd, hd, HB.out.drewN _⟩, hge, G0.out, hxM.out, below_drewN (Below.refl _ _) _⟩
    case round =>
      obtain ⟨a, b, hk1, hk2, ⟨A1, n1, c1, rfl, h1, h2, h3⟩, ⟨B1, m1, d1, rfl, k1, k2, k3⟩, hba, hG, haM, hbl⟩ := hrel
      have hn1 : n1 ≤ 10000000 := by have := mag_length_le haM; rw [h3.len] at this; omega
      have hmn : m1 ≤ n1 := by have := mag_len_mono hba; rw [h3.len, k3.len] at this; exact this
      have H3 := Lib.hid h3
      have K3 := Lib.hid k3
      have HG := Lib.hid hG
      have HAM := Lib.hid haM
      clear h3 k3 hG haM
      by_cases hlong : 2 < m1
      · have hb0 : b ≠ 0 := by
          intro e
          have := K3.out.len
          rw [e, mag_zero] at this
          simp at this
          omega
        have hlI : (2 : Int) < (m1 : Int) := by omega
        go_wp2_with fail
        refine (leadingSteps_any A1 B1 n1 m1 c1 d1 a b _ H3.out K3.out (by omega) (by omega) (by omega) hba).mono ?_
        rintro e w2 ⟨u0, u1, v0, v1, ev, rfl, ⟨s0, s1, s2, s3, hst⟩, hbl2⟩
        have HST := Lib.hid hst
        have H4 := Lib.hid (H3.out.next hbl2 rfl)
        have K4 := Lib.hid (K3.out.next hbl2 rfl)
        have hbl3 := link_below hbl hbl2 hbl.size rfl rfl rfl rfl
        clear hst
        unfold stv
        by_cases hv0 : v0 = 0
        · subst hv0
          go_wp2_with fail
          refine (divide_any A1 B1 n1 c1 m1 d1 a b _ (H4.out.alloc _) (K4.out.alloc _) (by omega) (by omega) hb0).mono ?_
          rintro e w3 ⟨v3, u3, rfl, hm1, hm2, hbl4⟩
          have HM2 := Lib.hid hm2
          have hx := Nat.mod_lt a (show 0 < b by omega)
          have HG2 : Hid (GcdIs b (a % b) x y) := by show Nat.gcd b (a % b) = Nat.gcd x y; rw [gcd_mod]; exact HG.out
          clear hm1 hm2
          generalize hrr : a % b = rr at *
          clear hrr
          go_wp2
          go_roundg rr
          case rel => exact ⟨b, rr, Nat.le_refl _, Nat.le_refl _, ⟨B1, m1, d1, rfl, k1, k2, (K4.out.alloc _).next hbl4 rfl⟩, HM2.out, by omega, HG2.out, Nat.lt_of_le_of_lt hba HAM.out, link_below (hbl3.alloc hbl3.size _) hbl4 (by have := hbl3.size; simp; omega) rfl rfl rfl rfl⟩
          case measure => omega
        · obtain ⟨p, q, hcomb, hg, hqp, hpb⟩ := HST.out hv0
          have HC := Lib.hid hcomb
          have hv0' : ((v0 : Int) == 0) = false := by simp; omega
          have hbn : b < pw n1 := Nat.lt_of_lt_of_le (lt_pw_mag b) (pw_le (by rw [K3.out.len]; exact hmn))
          have hpn : Hid (p < pw n1 ∧ q < pw n1) := ⟨by omega, by omega⟩
          have HG2 : Hid (GcdIs p q x y) := by show Nat.gcd p q = Nat.gcd x y; rw [hg]; exact HG.out
          clear hcomb hg hbn
          go_wp2_with fail
          refine (apply_any A1 B1 n1 m1 c1 d1 a b n1 u0 u1 v0 v1 p q ev _ (H4.out.alloc _) (K4.out.alloc _) (Nat.le_refl _) hmn (.inl (Nat.le_refl _)) (by omega) s0 s1 s2 s3 HC.out hpn.out.1 hpn.out.2).mono ?_
          rintro e w3 ⟨v3, u3, rfl, hm1, hm2, hbl4⟩
          have HM1 := Lib.hid hm1
          have HM2 := Lib.hid hm2
          clear hm1 hm2
          go_wp2
          go_roundg q
          case rel => exact ⟨p, q, Nat.le_refl _, Nat.le_refl _, HM1.out, HM2.out, by omega, HG2.out, Nat.lt_of_le_of_lt (Nat.le_trans hpb hba) HAM.out, link_below (hbl3.alloc hbl3.size _) hbl4 (by have := hbl3.size; simp; omega) rfl rfl rfl rfl⟩
          case measure => omega
      · have hlI : ¬ (2 : Int) < (m1 : Int) := by omega
        have hm2 : m1 ≤ 2 := by omega
        clear hlong
        by_cases hm0 : m1 = 0
        · subst hm0
          have hb0 : b = 0 := mag_length_zero.1 K3.out.len
          subst hb0
          have e0 : Hid (a = Nat.gcd x y) := by have := HG.out; unfold GcdIs at this; rw [Nat.gcd_zero_right] at this; exact this
          go_wp2_with fail
          refine (clone_any A1 n1 c1 (mag a) _ H3.out (by omega)).mono ?_
          rintro e w2 ⟨rfl, hb2, hbl2⟩
          have HB2 := Lib.hid hb2
          clear hb2
          go_wp2
          go_ret
          exact ⟨_, rfl, Mg.blk HB2.out H3.out.len (by omega) (by rw [e0.out]), link_below hbl hbl2 hbl.size rfl rfl rfl rfl⟩
        · have hmI : ((m1 : Int) == 0) = false := by simp; omega
          by_cases hn2 : 2 < n1
          · have hnI : (2 : Int) < (n1 : Int) := by omega
            have hb0 : b ≠ 0 := by
              intro e
              have := K3.out.len
              rw [e, mag_zero] at this
              simp at this
              omega
            go_wp2_with fail
            refine (divide_any A1 B1 n1 c1 m1 d1 a b _ H3.out K3.out (by omega) (by omega) hb0).mono ?_
            rintro e w3 ⟨v3, u3, rfl, hm1, ⟨R, r, rc, rfl, r1, r2, r3⟩, hbl4⟩
            have R3 := Lib.hid r3
            have K4 := Lib.hid (K3.out.next hbl4 rfl)
            have hx := Nat.mod_lt a (show 0 < b by omega)
            have hr2 : r ≤ 2 := by have h := mag_len_mono (Nat.le_of_lt hx); rw [R3.out.len, K3.out.len] at h; omega
            have HG2 : Hid (GcdIs b (a % b) x y) := by show Nat.gcd b (a % b) = Nat.gcd x y; rw [gcd_mod]; exact HG.out
            have hbl5 := link_below hbl hbl4 hbl.size rfl rfl rfl rfl
            clear hm1 r3
            generalize hrr : a % b = rr at *
            clear hrr hmI hlI
            have hxl := Lib.hid (number_val K4.out.len hm2)
            have hyl := Lib.hid (number_val R3.out.len hr2)
            have hx64 : b < 18446744073709551616 := by
              rw [← hxl.out]
              have := (mag_wds (b)).getD 0
              have := (mag_wds (b)).getD 1
              omega
            have hy64 : rr < 18446744073709551616 := by
              rw [← hyl.out]
              have := (mag_wds (rr)).getD 0
              have := (mag_wds (rr)).getD 1
              omega
            go_wp2_with fail
            refine (number_any B1 m1 d1 (mag (b)) _ K4.out (by omega)).mono ?_
            rintro e w' ⟨rfl, rfl⟩
            rw [hxl.out]
            go_wp2_with fail
            refine (number_any R r rc (mag (rr)) _ R3.out (by omega)).mono ?_
            rintro e w' ⟨rfl, rfl⟩
            rw [hyl.out]
            go_wp2_with fail
            go_loopw [10, 11] (fun tx ty wq => ∃ p q k : Nat, tx = .int .u64 p ∧ ty = .int .u64 q ∧ wq = w3.drewN k ∧ p < 18446744073709551616 ∧ q < 18446744073709551616 ∧ GcdIs p q x y) (fun _ ty _ => (intOf ty).toNat)
            case atStart => exact ⟨_, _, 0, rfl, rfl, rfl, hx64, hy64, HG2.out⟩
            case round =>
              obtain ⟨p, q, k, rfl, rfl, rfl, hp, hq, hG⟩ := hrel
              have HG := Lib.hid hG
              clear hG
              by_cases hq0 : q = 0
              · subst hq0
                have e0 : Hid (p = Nat.gcd x y) := by have := HG.out; unfold GcdIs at this; rw [Nat.gcd_zero_right] at this; exact this
                go_wp2_with fail
                refine (wordsOf_any p _ hp).mono ?_
                rintro e w4 ⟨v4, rfl, hm4, hbl4⟩
                have HM4 := Lib.hid hm4
                clear hm4
                go_wp2
                go_ret
                exact ⟨_, rfl, by rw [← e0.out]; exact HM4.out, link_below hbl5 (undrewN hbl4) hbl5.size rfl rfl rfl rfl⟩
              · have n1' : ((q : Int) == 0) = false := by simp; omega
                have n1'' : ((q : Int) != 0) = true := by simp; omega
                have n2' : (1 : Int) ≤ (q : Int) := by omega
                have n4' : p % q < q := Nat.mod_lt _ (by omega)
                have n6' : ((p : Int) % (q : Int)) = ((p % q : Nat) : Int) := rfl
                have n7' : (p : Int).tmod (q : Int) = ((p % q : Nat) : Int) := rfl
                have hG2 : Hid (GcdIs q (p % q) x y) := by show Nat.gcd q (p % q) = Nat.gcd x y; rw [gcd_mod]; exact HG.out
                generalize hrr : p % q = rr at *
                clear hrr
                go_wp2_with fail
                go_quiet (fail)
                go_wp2
                go_roundw
                case rel => exact ⟨q, rr, _, rfl, rfl, World.drewN_drewN _ _ _, hq, by omega, hG2.out⟩
                case measure => simp [intOf]; omega
          · have hnI : ¬ (2 : Int) < (n1 : Int) := by omega
            have hn3 : n1 ≤ 2 := by omega
            clear hn2
            have hxl := Lib.hid (number_val H3.out.len hn3)
            have hyl := Lib.hid (number_val K3.out.len hm2)
            have hx64 : a < 18446744073709551616 := by
              rw [← hxl.out]
              have := (mag_wds (a)).getD 0
              have := (mag_wds (a)).getD 1
              omega
            have hy64 : b < 18446744073709551616 := by
              rw [← hyl.out]
              have := (mag_wds (b)).getD 0
              have := (mag_wds (b)).getD 1
              omega
            go_wp2_with fail
            refine (number_any A1 n1 c1 (mag (a)) _ H3.out (by omega)).mono ?_
            rintro e w' ⟨rfl, rfl⟩
            rw [hxl.out]
            go_wp2_with fail
            refine (number_any B1 m1 d1 (mag (b)) _ K3.out (by omega)).mono ?_
            rintro e w' ⟨rfl, rfl⟩
            rw [hyl.out]
            go_wp2_with fail
            go_loopw [10, 11] (fun tx ty wq => ∃ p q k : Nat, tx = .int .u64 p ∧ ty = .int .u64 q ∧ wq = wr.drewN k ∧ p < 18446744073709551616 ∧ q < 18446744073709551616 ∧ GcdIs p q x y) (fun _ ty _ => (intOf ty).toNat)
            case atStart => exact ⟨_, _, 0, rfl, rfl, rfl, hx64, hy64, HG.out⟩
            case round =>
              obtain ⟨p, q, k, rfl, rfl, rfl, hp, hq, hG⟩ := hrel
              have HG := Lib.hid hG
              clear hG
              by_cases hq0 : q = 0
              · subst hq0
                have e0 : Hid (p = Nat.gcd x y) := by have := HG.out; unfold GcdIs at this; rw [Nat.gcd_zero_right] at this; exact this
                go_wp2_with fail
                refine (wordsOf_any p _ hp).mono ?_
                rintro e w4 ⟨v4, rfl, hm4, hbl4⟩
                have HM4 := Lib.hid hm4
                clear hm4
                go_wp2
                go_ret
                exact ⟨_, rfl, by rw [← e0.out]; exact HM4.out, link_below hbl (undrewN hbl4) hbl.size rfl rfl rfl rfl⟩
              · have n1' : ((q : Int) == 0) = false := by simp; omega
                have n1'' : ((q : Int) != 0) = true := by simp; omega
                have n2' : (1 : Int) ≤ (q : Int) := by omega
                have n4' : p % q < q := Nat.mod_lt _ (by omega)
                have n6' : ((p : Int) % (q : Int)) = ((p % q : Nat) : Int) := rfl
                have n7' : (p : Int).tmod (q : Int) = ((p % q : Nat) : Int) := rfl
                have hG2 : Hid (GcdIs q (p % q) x y) := by show Nat.gcd q (p % q) = Nat.gcd x y; rw [gcd_mod]; exact HG.out
                generalize hrr : p % q = rr at *
                clear hrr
                go_wp2_with fail
                go_quiet (fail)
                go_wp2
                go_roundw
                case rel => exact ⟨q, rr, _, rfl, rfl, World.drewN_drewN _ _ _, hq, by omega, hG2.out⟩
                case measure => simp [intOf]; omega
end Go.Proofs.Ytfigimfdojbkeaa
end

section
namespace Go.Proofs.Ytfigimfdojbkeaa
open Go.RowKit
attribute [local go_sem ↓] Go.wp_at_zero Go.wp_at_succ

theorem gcd_le_add (x y : Nat) : Nat.gcd x y ≤ x + y := by
  rcases Nat.eq_zero_or_pos x with e | e
  · rw [e, Nat.gcd_zero_left]; omega
  · have := Nat.gcd_le_left y e; omega

set_option maxHeartbeats 2000000 in
theorem gcdI_at (A B : Option Addr) (n c m d : Nat) (a b : Int) (w : World) (ha : Wd w A n (mag a.natAbs)) (hb : Wd w B m (mag b.natAbs)) (hn : n ≤ 1000000) (hm : m ≤ 1000000) (hnc : n ≤ c) (hmd : m ≤ d) (hcb : c ≤ 9223372036854775807) (hdb : d ≤ 9223372036854775807) (z : Int) (hz : z = (Nat.gcd a.natAbs b.natAbs : Nat)) :
    Calls Try.prog 25 #[.agg #[.bool (decide (a < 0)), .slice A n c], .agg #[.bool (decide (b < 0)), .slice B m d]] w (RetIv z w) := by
  have HA := Lib.hid ha
  have HB := Lib.hid hb
  clear ha hb
  have hsum := Lib.hid (show sgn false (Nat.gcd a.natAbs b.natAbs) = z by rw [hz]; rfl)
  clear hz
  generalize decide (a < 0) = sa at *
  generalize decide (b < 0) = sb at *
  go_enter Try.func25, Try.ntmps25
  go_wp2
  obtain ⟨W, hW⟩ : ∃ W, W = ((w.alloc (Obj.cells #[Value.bool sa, Value.slice A n c] 27)).alloc (Obj.cells #[Value.bool sb, Value.slice B m d] 27)).alloc (Obj.cells #[Value.bool false, Value.slice none 0 0] 27) := ⟨_, rfl⟩
  rw [← hW]
  obtain ⟨b0, b1, b2, a1, a2, hbW⟩ := two_boxes HA.out HB.out hW
  have c0 := b0.cell0
  have c1 := b0.cell1
  have c2 := b1.cell0
  have c3 := b1.cell1
  have B0 := Lib.hid b0
  have B1 := Lib.hid b1
  have B2 := Lib.hid b2
  have A1 := Lib.hid a1
  have A2 := Lib.hid a2
  clear hW b0 b1 b2 a1 a2
  have hgW := hbW.size
  generalize hg0 : w.heap.size = g at *
  have z1 : ¬ g + 1 + 1 = g := by omega
  have z2 : ¬ g = g + 1 + 1 := by omega
  go_region_held3 (fun w' => w'.cell? ⟨g, 0, none⟩ = some (.bool sa) ∧ w'.cell? ⟨g, 1, none⟩ = some (.slice A n c) ∧ w'.cell? ⟨g + 1, 0, none⟩ = some (.bool sb) ∧ w'.cell? ⟨g + 1, 1, none⟩ = some (.slice B m d)) (go_keep)
    (first
      | (go_at_call_of 94 (Value.slice A n c); refine (words_int sa A n c a.natAbs _ (by first | exact A1.out | exact A1.out.next hblb rfl) (by omega) hnc).mono ?_; rintro e wa ⟨rfl, hbla⟩
         have ka0 := (by first | exact B0.out.next hbla rfl | exact (B0.out.next hblb rfl).next hbla rfl : Box wa g sa (.slice A n c))
         have ka1 := (by first | exact B1.out.next hbla rfl | exact (B1.out.next hblb rfl).next hbla rfl : Box wa (g + 1) sb (.slice B m d))
         have p0 := ka0.cell0; have p1 := ka0.cell1; have p2 := ka1.cell0; have p3 := ka1.cell1
         have KA0 := Lib.hid ka0; have KA1 := Lib.hid ka1; clear ka0 ka1)
      | (go_at_call_of 94 (Value.slice B m d); refine (words_int sb B m d b.natAbs _ (by first | exact A2.out | exact A2.out.next hbla rfl) (by omega) hmd).mono ?_; rintro e wb ⟨rfl, hblb⟩
         have kb0 := (by first | exact B0.out.next hblb rfl | exact (B0.out.next hbla rfl).next hblb rfl : Box wb g sa (.slice A n c))
         have kb1 := (by first | exact B1.out.next hblb rfl | exact (B1.out.next hbla rfl).next hblb rfl : Box wb (g + 1) sb (.slice B m d))
         have q0 := kb0.cell0; have q1 := kb0.cell1; have q2 := kb1.cell0; have q3 := kb1.cell1
         have KB0 := Lib.hid kb0; have KB1 := Lib.hid kb1; clear kb0 kb1)
      | (go_at_call 105; refine (gcd_any A B n m c d a.natAbs b.natAbs _ (by exact (A1.out.next hbla rfl).next hblb rfl) (by exact (A2.out.next hbla rfl).next hblb rfl) hnc hmd hcb hdb (by omega) (by omega)).mono ?_; rintro e wt ⟨vt, rfl, ⟨At, nt, ct, rfl, t1, t2, t3⟩, hblt⟩
         have T3 := Lib.hid t3
         have hnt : nt ≤ 2000000 := by
           rw [← t3.len]
           refine Nat.le_trans (mag_len_mono (gcd_le_add _ _)) (Nat.le_trans (sum_len A1.out.len A2.out.len (show n ≤ 1000000 by omega) (by omega)) (by omega))
         have kt0 := (by exact ((B0.out.next hbla rfl).next hblb rfl).next hblt rfl : Box wt g sa (.slice A n c))
         have kt1 := (by exact ((B1.out.next hbla rfl).next hblb rfl).next hblt rfl : Box wt (g + 1) sb (.slice B m d))
         have kt2 := (by exact ((B2.out.next hbla rfl).next hblb rfl).next hblt rfl : Box wt (g + 1 + 1) false (.slice none 0 0))
         have hallt := (by exact link_below (link_below (link_below hbW hbla hgW rfl rfl rfl rfl) hblb (Nat.le_trans hgW hbla.size) rfl rfl rfl rfl) hblt (Nat.le_trans (Nat.le_trans hgW hbla.size) hblb.size) rfl rfl rfl rfl : Below g w wt)
         have u0 := kt0.cell0; have u1 := kt0.cell1; have u2 := kt1.cell0; have u3 := kt1.cell1
         have KT0 := Lib.hid kt0; have KT1 := Lib.hid kt1; have KT2 := Lib.hid kt2; clear kt0 kt1 kt2 t3)
      | (go_at_call 98; refine (signed_mg false At nt ct (Nat.gcd a.natAbs b.natAbs) _ T3.out (by omega) t1 t2).mono ?_; rintro e w3 ⟨v3, rfl, hv3, hbl3⟩
         rw [hsum.out] at hv3
         obtain ⟨A3, n3, c3, rfl, k1, k2, k3⟩ := hv3.form
         have K3 := Lib.hid k3
         have r0 := (by exact KT0.out.next hbl3 rfl : Box w3 g sa (.slice A n c))
         have r1 := (by exact KT1.out.next hbl3 rfl : Box w3 (g + 1) sb (.slice B m d))
         have r2 := (by exact KT2.out.next hbl3 rfl : Box w3 (g + 1 + 1) false (.slice none 0 0))
         have hall := (by exact link_below hallt hbl3 (Nat.le_trans (Nat.le_trans (Nat.le_trans hgW hbla.size) hblb.size) hblt.size) rfl rfl rfl rfl : Below g w w3)
         have s0 := r0.cell0; have s1 := r0.cell1; have s2 := r1.cell0; have s3 := r1.cell1; have s4 := r2.cell0; have s5 := r2.cell1; have s6 := r2.frozen 0; have s7 := r2.frozen 1
         have R2 := Lib.hid r2; clear r0 r1 r2 k3 hv3))
  go_wp2
  exact bodyPost_ret (v := .agg #[.bool (decide (z < 0)), .slice A3 n3 c3]) (by simp [results, Try.results25, go_sem, s4, s5]) rfl ⟨_, rfl, iv_store k1 k2 K3.out R2.out _, by rw [hg0]; exact (hall.setCell (by simp; omega) _).setCell (by simp; omega) _⟩

theorem gcdI_any (va vb : Value) (a b : Int) (w : World) (ha : Iv w va a) (hb : Iv w vb b) (sa : Sz a 1000000) (sb : Sz b 1000000) : Calls Try.prog 25 #[va, vb] w (RetIv (Nat.gcd a.natAbs b.natAbs : Nat) w) := by
  obtain ⟨A, n, c, rfl, h1, h2, h3⟩ := ha.form
  obtain ⟨B, m, d, rfl, k1, k2, k3⟩ := hb.form
  exact gcdI_at A B n c m d a b w h3 k3 (by rw [← h3.len]; exact sa.len) (by rw [← k3.len]; exact sb.len) h1 k1 h2 k2 _ rfl
end Go.Proofs.Ytfigimfdojbkeaa
end

