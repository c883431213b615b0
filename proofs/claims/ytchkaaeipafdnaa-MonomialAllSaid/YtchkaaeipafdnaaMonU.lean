/-
  What the laws share.
-/
import Derived.Test.YtchkaaeipafdnaaMonS
namespace Go.Proofs.Ytchkaaeipafdnaa
open Go.RowKit
theorem ldr {ops : Array Oper} {rest : List Oper} {o : Oper} {a : Act} {w : World} {Q : Exit → Act → World → Prop} (x : Operand) (g : Nat) {f : Nat → Int} (r : RowU w g f) (hgd : o.guard = none) (ho : o.op = .load 24 x)
    (hx : a.eval x = .pointer (some ⟨g, 0, none⟩)) (h : wpList Try.prog ops Q rest (a.put o.dst (.agg (ucl f))) w) : wpList Try.prog ops Q (o :: rest) a w :=
  wpList_load_row hgd 24 x ho g hx 24 (ucl f) (0, 0) _ r underRaw rfl infoRaw h
theorem neq_of {f g : Mn} (h : f = g) : (!eqa f g) = false := by rw [h, eqa_true.2 fun _ _ => rfl]; rfl
theorem dvt {f g : Mn} (h : dv f g) : decide (dv f g) = true := decide_eq_true h
/-- All eight numbers are in their range. -/
def vaB (a : Mn) : Bool := (List.range 8).all fun k => decide (0 ≤ a k ∧ a k ≤ 65535)
theorem vaB_iff {a : Mn} : vaB a = true ↔ Va a := by
  unfold vaB Va
  simp only [List.all_eq_true, List.mem_range, decide_eq_true_eq]
theorem not_va {a : Mn} (h : vaB a = false) : ∃ n, n < 8 ∧ (∀ k, k < n → 0 ≤ a k ∧ a k ≤ 65535) ∧ (a n < 0 ∨ 65535 < a n) := by
  have key : ∀ m, (∀ k, k < m → 0 ≤ a k ∧ a k ≤ 65535) ∨ ∃ n, n < m ∧ (∀ k, k < n → 0 ≤ a k ∧ a k ≤ 65535) ∧ (a n < 0 ∨ 65535 < a n) := by
    intro m
    induction m with
    | zero => exact .inl fun k hk => by omega
    | succ m ih =>
      rcases ih with h | ⟨n, h1, h2, h3⟩
      · by_cases e : 0 ≤ a m ∧ a m ≤ 65535
        · exact .inl fun k hk => by
            by_cases e2 : k = m
            · subst e2; exact e
            · exact h k (by omega)
        · exact .inr ⟨m, by omega, h, by omega⟩
      · exact .inr ⟨n, by omega, h2, h3⟩
  rcases key 8 with h1 | h1
  · rw [vaB_iff.2 h1] at h; cases h
  · exact h1
/-- The product, or 1; its code. -/
def prF (a b : Mn) : Mn := if vaB (sumF a b) = true then sumF a b else nul
def prE (a b : Mn) : Int := if vaB (sumF a b) = true then 0 else 2
theorem prF_ok {a b : Mn} (h : Va (sumF a b)) : prF a b = sumF a b := by unfold prF; rw [if_pos (vaB_iff.2 h)]
theorem prE_ok {a b : Mn} (h : Va (sumF a b)) : prE a b = 0 := by unfold prE; rw [if_pos (vaB_iff.2 h)]
theorem prF_no {a b : Mn} (h : vaB (sumF a b) = false) : prF a b = nul := by unfold prF; rw [if_neg (by rw [h]; simp)]
theorem prE_no {a b : Mn} (h : vaB (sumF a b) = false) : prE a b = 2 := by unfold prE; rw [if_neg (by rw [h]; simp)]
theorem va_nul : Va nul := fun _ _ => by unfold nul; omega
theorem va_pr (a b : Mn) : Va (prF a b) := by
  cases h : vaB (sumF a b) with
  | true => rw [prF_ok (vaB_iff.1 h)]; exact vaB_iff.1 h
  | false => rw [prF_no h]; exact va_nul
theorem mul_is (a b : Mn) (w : World) (ha : Va a) (hb : Va b) : Calls Try.prog 13 #[arr a, arr b] w fun e w' => e = .returned (.tuple #[arr (prF a b), .int .i64 (prE a b)]) ∧ Below w.heap.size w w' := by
  cases h : vaB (sumF a b) with
  | true => rw [prF_ok (vaB_iff.1 h), prE_ok (vaB_iff.1 h)]; exact mul_ok a b w ha hb (vaB_iff.1 h)
  | false =>
    rw [prF_no h, prE_no h]
    obtain ⟨n, h1, h2, h3⟩ := not_va h
    refine mul_big a b n w ha hb h1 (fun k hk => (h2 k hk).2) ?_
    have := ha n h1
    have := hb n h1
    unfold sumF at h3
    omega
theorem rmul_is (a b : Mn) (w : World) (ha : Va a) (hb : Va b) : Calls Try.prog 14 #[arr a, arr b] w fun e w' => e = .returned (.tuple #[arr (prF a b), .int .i64 (prE a b)]) ∧ Below w.heap.size w w' := by
  cases h : vaB (sumF a b) with
  | true => rw [prF_ok (vaB_iff.1 h), prE_ok (vaB_iff.1 h)]; exact rmul_ok a b w ha hb (vaB_iff.1 h)
  | false =>
    rw [prF_no h, prE_no h]
    obtain ⟨n, h1, h2, h3⟩ := not_va h
    refine rmul_big a b n w ha hb h1 (fun k hk => (h2 k hk).2) ?_
    have := ha n h1
    have := hb n h1
    unfold sumF at h3
    omega
/-- The quotient, or 1. -/
def quF (a b : Mn) : Mn := if dv b a then difF a b else nul
theorem quF_ok {a b : Mn} (h : dv b a) : quF a b = difF a b := by unfold quF; rw [if_pos h]
theorem quF_no {a b : Mn} (h : ¬ dv b a) : quF a b = nul := by unfold quF; rw [if_neg h]
theorem quo_is (a b : Mn) (w : World) (ha : Va a) (hb : Va b) : Calls Try.prog 15 #[arr a, arr b] w fun e w' => e = .returned (.tuple #[arr (quF a b), .bool (decide (dv b a))]) ∧ Below w.heap.size w w' := by
  by_cases h : dv b a
  · rw [quF_ok h, decide_eq_true h]; exact quo_ok a b w ha hb h
  · rw [quF_no h, decide_eq_false h]
    obtain ⟨n, h1, h2, h3⟩ := not_dv h
    exact quo_no a b n w h1 h2 h3
theorem rquo_is (a b : Mn) (w : World) (ha : Va a) (hb : Va b) : Calls Try.prog 16 #[arr a, arr b] w fun e w' => e = .returned (.tuple #[arr (quF a b), .bool (decide (dv b a))]) ∧ Below w.heap.size w w' := by
  by_cases h : dv b a
  · rw [quF_ok h, decide_eq_true h]; exact rquo_ok a b w ha hb h
  · rw [quF_no h, decide_eq_false h]
    obtain ⟨n, h1, h2, h3⟩ := not_dv h
    exact rquo_no a b n w h1 h2 h3
theorem lcm_comm (x y : Mn) : lcmF x y = lcmF y x := by funext k; unfold lcmF; split <;> split <;> omega
theorem gcd_comm (x y : Mn) : gcdF x y = gcdF y x := by funext k; unfold gcdF; split <;> split <;> omega
theorem dv_lcm (x y : Mn) : dv x (lcmF x y) ∧ dv y (lcmF x y) := by constructor <;> (intro k _; unfold lcmF; split <;> omega)
theorem gcd_dv (x y : Mn) : dv (gcdF x y) x ∧ dv (gcdF x y) y := by constructor <;> (intro k _; unfold gcdF; split <;> omega)
theorem lcm_le (x y z : Mn) : dv (lcmF x y) z ↔ dv x z ∧ dv y z := by
  constructor
  · intro h; exact ⟨(dv_lcm x y).1.trans h, (dv_lcm x y).2.trans h⟩
  · rintro ⟨h, k⟩ j hj; have := h j hj; have := k j hj; unfold lcmF; split <;> omega
theorem le_gcd (x y z : Mn) : dv z (gcdF x y) ↔ dv z x ∧ dv z y := by
  constructor
  · intro h; exact ⟨h.trans (gcd_dv x y).1, h.trans (gcd_dv x y).2⟩
  · rintro ⟨h, k⟩ j hj; have := h j hj; have := k j hj; unfold gcdF; split <;> omega
end Go.Proofs.Ytchkaaeipafdnaa
