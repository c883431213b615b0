/-
  What the laws' walks share.
  More steps and contracts with their values.
  Cells of any kind; powers and roots with their sizes.
  Small things for the law IntegerDivisors: divides, the reference's Sign, facts on divisors.
-/
import Derived.Test.YtfigimfdojbkeaaRefD
import Derived.Test.YtfigimfdojbkeaaIntC
import Derived.Test.YtfigimfdojbkeaaRegD
import Derived.Test.YtfigimfdojbkeaaLehF
set_option linter.unusedSimpArgs false
set_option linter.unusedVariables false
section
namespace Go.Proofs.Ytfigimfdojbkeaa
open Go.RowKit
attribute [local go_sem ↓] Go.wp_at_zero Go.wp_at_succ

theorem small_i64 (va : Value) (z : Int) (w : World) (ha : Iv w va z) (h : I64 z) : Calls Try.prog 89 #[va] w (RetV (.tuple #[.int .i64 z, .bool true]) w) := by
  have := small_any va z w ha (h.sz.mono (by omega))
  unfold smallV at this
  rw [if_pos (show _ ∧ _ from h)] at this
  exact this
theorem same_true (va vb : Value) (a b : Int) (w : World) (ha : Iv w va a) (hb : Iv w vb b) (sa : Sz a 1000000) (h : a = b) : Calls Try.prog 23 #[va, vb] w (RetV (.bool true) w) := by
  subst h
  have := same_any va vb a a w ha hb sa sa
  simpa using this
theorem bl_half {x : Nat} (h : x ≠ 0) : bl (x / 2) + 1 = bl x := by
  by_cases h1 : x / 2 = 0
  · obtain rfl : x = 1 := by omega
    rw [bl_one]; rfl
  · have := bl_shift x 1 (by simpa using h1)
    simpa using this
theorem tdiv_abs (k : Int) : (k.tdiv 2).natAbs = k.natAbs / 2 := by rw [Int.natAbs_tdiv]; rfl
theorem tmod_bd (n : Int) : -1000000007 < n.tmod 1000000007 ∧ n.tmod 1000000007 < 1000000007 := by
  have h1 := Int.tmod_lt_of_pos n (show (0 : Int) < 1000000007 by decide)
  have h2 := Int.lt_tmod_of_pos n (show (0 : Int) < 1000000007 by decide)
  exact ⟨h2, h1⟩
theorem tdiv_bd {n : Int} (h : I64 n) : -4611686018427387904 ≤ n.tdiv 2 ∧ n.tdiv 2 ≤ 4611686018427387903 := by
  have h1 := h.1
  have h2 := h.2
  have h3 : (n.tdiv 2).natAbs = n.natAbs / 2 := tdiv_abs n
  by_cases h0 : 0 ≤ n
  · rw [Int.tdiv_eq_ediv_of_nonneg h0]
    omega
  · have h4 : n.tdiv 2 ≤ 0 := by
      obtain ⟨m, rfl⟩ : ∃ m : Int, n = -m := ⟨-n, by omega⟩
      rw [Int.neg_tdiv, Int.tdiv_eq_ediv_of_nonneg (by omega)]
      omega
    omega
theorem mul_bd {x y : Int} (h1 : -1000000007 < x) (h2 : x < 1000000007) (h3 : -1000000007 < y) (h4 : y < 1000000007) : I64 (x * y) := by
  have h5 : (x * y).natAbs ≤ 1000000006 * 1000000006 := by rw [Int.natAbs_mul]; exact Nat.mul_le_mul (by omega) (by omega)
  unfold I64
  omega
end Go.Proofs.Ytfigimfdojbkeaa
end

namespace Go.Proofs.Ytfigimfdojbkeaa
open Go.RowKit

theorem cmp_is (va vb : Value) (a b o : Int) (w : World) (ha : Iv w va a) (hb : Iv w vb b) (sa : Sz a 1000000) (sb : Sz b 1000000) (h : cmpZ a b = o) : Calls Try.prog 28 #[va, vb] w (RetV (.int .i64 o) w) := by
  subst h
  exact cmp_any va vb a b w ha hb sa sb
theorem sign_is (va : Value) (a o : Int) (w : World) (ha : Iv w va a) (sa : Sz a 1000000) (h : sg a = o) : Calls Try.prog 43 #[va] w (RetV (.int .i64 o) w) := by
  subst h
  exact sign_any va a w ha sa
theorem run_leq_int {o : Oper} {w : World} {ρ : Operand → Value} {x y : Operand} {t u : TypeId} {k : IntKind} {m n : Int} (ho : o.op = .binOp .leq t x y u) (hx : ρ x = .int k m) (hy : ρ y = .int k n) : (execOp ρ o).run Try.prog w = .ok (.value (.bool (decide (m ≤ n)))) w := by
  simp [execOp, ho, hx, hy, go_sem]
theorem run_gtr_int {o : Oper} {w : World} {ρ : Operand → Value} {x y : Operand} {t u : TypeId} {k : IntKind} {m n : Int} (ho : o.op = .binOp .gtr t x y u) (hx : ρ x = .int k m) (hy : ρ y = .int k n) : (execOp ρ o).run Try.prog w = .ok (.value (.bool (decide (n < m)))) w := by
  simp [execOp, ho, hx, hy, go_sem]
theorem run_geq_int {o : Oper} {w : World} {ρ : Operand → Value} {x y : Operand} {t u : TypeId} {k : IntKind} {m n : Int} (ho : o.op = .binOp .geq t x y u) (hx : ρ x = .int k m) (hy : ρ y = .int k n) : (execOp ρ o).run Try.prog w = .ok (.value (.bool (decide (n ≤ m)))) w := by
  simp [execOp, ho, hx, hy, go_sem]
theorem run_mul_i64 {o : Oper} {w : World} {ρ : Operand → Value} {x y : Operand} {t u : TypeId} {m n r : Int} (ho : o.op = .binOp .mul t x y u) (hx : ρ x = .int .i64 m) (hy : ρ y = .int .i64 n) (hr : IntKind.i64.wrap (m * n) = r) : (execOp ρ o).run Try.prog w = .ok (.value (.int .i64 r)) w := by
  subst hr
  simp [execOp, ho, hx, hy, go_sem]
theorem run_neg_i64 {o : Oper} {w : World} {ρ : Operand → Value} {x : Operand} {t : TypeId} {m r : Int} (ho : o.op = .unOp .neg t x) (hx : ρ x = .int .i64 m) (hr : IntKind.i64.wrap (-m) = r) : (execOp ρ o).run Try.prog w = .ok (.value (.int .i64 r)) w := by
  subst hr
  simp [execOp, ho, hx, go_sem, Op.unary]
theorem cmpZ_zero (a : Int) : cmpZ a 0 = sg a := by
  unfold cmpZ sg
  split
  · rfl
  · split
    · rw [if_neg (by omega)]
    · rw [if_pos (by omega)]
theorem sg_one (c : Int) : -1 ≤ sg c ∧ sg c ≤ 1 := by
  rcases sg_cases c with ⟨_, h⟩ | ⟨_, h⟩ | ⟨_, h⟩ <;> rw [h] <;> omega
theorem cmp_mul {a b o : Int} (c : Int) (h : cmpZ a b = o) : cmpZ (a * c) (b * c) = o * sg c := by
  subst h
  rcases sg_cases c with ⟨h1, h2⟩ | ⟨h1, h2⟩ | ⟨h1, h2⟩
  · rw [h2]
    rcases Int.lt_trichotomy a b with h | h | h
    · rw [cmpZ_lt h, cmpZ_gt (Int.mul_lt_mul_of_neg_right h h1)]; rfl
    · rw [cmpZ_eq h, cmpZ_eq (by rw [h])]; rfl
    · rw [cmpZ_gt h, cmpZ_lt (Int.mul_lt_mul_of_neg_right h h1)]; rfl
  · rw [h2, h1, cmpZ_eq (by simp)]
    simp
  · rw [h2]
    rcases Int.lt_trichotomy a b with h | h | h
    · rw [cmpZ_lt h, cmpZ_lt (Int.mul_lt_mul_of_pos_right h h1)]; rfl
    · rw [cmpZ_eq h, cmpZ_eq (by rw [h])]; rfl
    · rw [cmpZ_gt h, cmpZ_gt (Int.mul_lt_mul_of_pos_right h h1)]; rfl
theorem wrap_sg {o c : Int} (h1 : -1 ≤ o) (h2 : o ≤ 1) : IntKind.i64.wrap (o * sg c) = o * sg c := by
  rcases sg_cases c with ⟨_, h⟩ | ⟨_, h⟩ | ⟨_, h⟩ <;> rw [h] <;> rcases (show o = -1 ∨ o = 0 ∨ o = 1 by omega) with rfl | rfl | rfl <;> decide
end Go.Proofs.Ytfigimfdojbkeaa

namespace Go.Proofs.Ytfigimfdojbkeaa
open Go.RowKit

/-- Block g is a row of cells. -/
def CBox (w : World) (g : Nat) (cs : Array Value) (t : TypeId) : Prop := w.heap[g]? = some (.cells cs t (0, 0))
theorem CBox.new (w : World) (cs : Array Value) (t : TypeId) : CBox (w.alloc (.cells cs t)) w.heap.size cs t := heap_alloc_new w _
theorem CBox.lt {w : World} {g : Nat} {cs : Array Value} {t : TypeId} (h : CBox w g cs t) : g < w.heap.size := by
  rcases Nat.lt_or_ge g w.heap.size with hlt | hge
  · exact hlt
  · unfold CBox at h; rw [Array.getElem?_eq_none hge] at h; cases h
theorem CBox.cell {w : World} {g : Nat} {cs : Array Value} {t : TypeId} (h : CBox w g cs t) (i : Nat) : w.cell? ⟨g, i, none⟩ = cs[i]? := cell_of_row w g i _ _ (0, 0) h
theorem CBox.next {w w1 w' : World} {g : Nat} {cs : Array Value} {t : TypeId} (h : CBox w g cs t) (hb : Below w1.heap.size w1 w') (e : w1.heap = w.heap) : CBox w' g cs t := by
  have h1 : CBox w1 g cs t := by unfold CBox; rw [e]; exact h
  exact (hb.block g h1.lt).trans h1
theorem CBox.alloc {w : World} {g : Nat} {cs : Array Value} {t : TypeId} (h : CBox w g cs t) (o : Obj) : CBox (w.alloc o) g cs t := (Below.heap_alloc w o g h.lt).trans h

theorem Sz.pow {a : Int} {N : Nat} (h : Sz a N) : ∀ n : Nat, Sz (a ^ n) (N * n + 1)
  | 0 => ⟨by simp; unfold pw; omega⟩
  | n + 1 => by
    have h1 := (Sz.pow h n).mul h
    rw [Int.pow_succ]
    exact h1.mono (by rw [Nat.mul_succ]; omega)
theorem small_mod {x : Int} (h : 0 ≤ x ∧ x ≤ 255) : ∃ m : Nat, x.tmod 20 = (m : Int) ∧ m < 20 := by
  refine ⟨(x % 20).toNat, ?_, by omega⟩
  rw [Int.tmod_eq_emod_of_nonneg h.1]
  omega
theorem pow_is (va : Value) (a : Int) (n : Nat) (w : World) (ha : Iv w va a) (sa : Sz a 2000) (hn : n ≤ 4096) : Calls Try.prog 37 #[va, .int .i64 (n : Int)] w (RetOK (a ^ n) w) := pow_any va a n _ w ha sa rfl hn
theorem mul_pow_int (a b : Int) : ∀ n : Nat, (a * b) ^ n = a ^ n * b ^ n
  | 0 => by simp
  | n + 1 => by
    rw [Int.pow_succ, Int.pow_succ, Int.pow_succ, mul_pow_int a b n]
    grind
theorem Iv.sign {w : World} {b : Bool} {A : Option Addr} {n c : Nat} {z : Int} (h : Iv w (.agg #[.bool b, .slice A n c]) z) : b = decide (z < 0) := by
  obtain ⟨A', n', c', e, _⟩ := h.form
  have e1 := congrArg (fun t : Value => match t with | .agg a => a[0]? | _ => none) e
  simp at e1
  exact e1
theorem cmp_le {a b : Int} (h : a ≤ b) : ∃ o, Hid (cmpZ a b = o) ∧ o ≤ 0 := by
  refine ⟨_, rfl, ?_⟩
  unfold cmpZ
  split
  · omega
  · rw [if_neg (by omega)]
    omega
theorem pow_cast_le {r k a : Nat} (h : r ^ k ≤ a) : (r : Int) ^ k ≤ (a : Int) := by rw [← Int.natCast_pow]; omega
theorem pow_cast_gt {r k a : Nat} (h : a < (r + 1) ^ k) : (a : Int) < ((r : Int) + (1 : Int)) ^ k := by
  have e : ((r : Int) + (1 : Int)) ^ k = (((r + 1) ^ k : Nat) : Int) := by rw [Int.natCast_pow]; simp
  rw [e]
  omega
theorem root_self_le {r k a : Nat} (hk : 1 ≤ k) (h : r ^ k ≤ a) : r ≤ a := Nat.le_trans (Nat.le_self_pow (by omega) r) h
end Go.Proofs.Ytfigimfdojbkeaa

section
namespace Go.Proofs.Ytfigimfdojbkeaa
open Go.RowKit
attribute [local go_sem ↓] Go.wp_at_zero Go.wp_at_succ

theorem mul_is (va vb : Value) (a b c : Int) (w : World) (ha : Iv w va a) (hb : Iv w vb b) (sa : Sz a 1000000) (sb : Sz b 1000000) (h : a * b = c) : Calls Try.prog 34 #[va, vb] w (RetIv c w) := by
  subst h; exact mul_any va vb a b w ha hb sa sb
theorem gcd_is (va vb : Value) (a b g : Int) (w : World) (ha : Iv w va a) (hb : Iv w vb b) (sa : Sz a 1000000) (sb : Sz b 1000000) (h : (Int.gcd a b : Int) = g) : Calls Try.prog 25 #[va, vb] w (RetIv g w) := by
  subst h; exact gcdI_any va vb a b w ha hb sa sb

set_option maxHeartbeats 1000000 in
theorem rsign_any (va : Value) (a : Int) (w : World) (ha : Iv w va a) : Calls Try.prog 67 #[va] w (RetV (.int .i64 (sg a)) w) := by
  obtain ⟨A, n, c, rfl, h1, h2, h3⟩ := ha.form
  have hl := ha.len0
  rcases sg_cases a with ⟨h, e⟩ | ⟨h, e⟩ | ⟨h, e⟩
  · rw [e, decide_eq_true h]
    clear e h h3 ha hl
    go_enter Try.func67, Try.ntmps67
    go_wp2
    go_ret
    exact ⟨rfl, (Below.refl _ _).alloc (Nat.le_refl _) _⟩
  · rw [e, decide_eq_false (show ¬ a < 0 by omega)]
    have hn : n = 0 := hl.2 h
    subst hn
    clear e h h3 ha hl
    go_enter Try.func67, Try.ntmps67
    go_wp2
    go_ret
    exact ⟨rfl, (Below.refl _ _).alloc (Nat.le_refl _) _⟩
  · rw [e, decide_eq_false (show ¬ a < 0 by omega)]
    have hn : n ≠ 0 := fun e => by have := hl.1 e; omega
    have hn1 : (1 : Int) ≤ (n : Int) := by omega
    clear e h h3 ha hl hn
    go_enter Try.func67, Try.ntmps67
    go_wp2
    all_goals
      go_ret
      exact ⟨by first | rfl | exact ret_int (by omega) | (simp; omega), (Below.refl _ _).alloc (Nat.le_refl _) _⟩

theorem sz_gcd {a b : Int} {N : Nat} (sa : Sz a N) (sb : Sz b N) : Sz (Int.gcd a b : Int) (N + 1) := by
  refine ⟨?_⟩
  rw [Int.natAbs_natCast]
  have h1 := gcd_le_add a.natAbs b.natAbs
  have h2 := sa.lt
  have h3 := sb.lt
  unfold Int.gcd
  rw [pw_succ]
  omega
theorem gcd_turn (a b : Int) : (Int.gcd b (-a) : Int) = (Int.gcd a b : Int) := by rw [Int.gcd_neg, Int.gcd_comm]
theorem dvd_gcd_mul (x y c : Int) : c ∣ (Int.gcd (x * c) (y * c) : Int) := Int.dvd_coe_gcd (Int.dvd_mul_left _ _) (Int.dvd_mul_left _ _)

theorem gcd_zero_abs {a b g : Int} (hg : (Int.gcd a b : Int) = g) (hb : b = 0) : (a.natAbs : Int) = g := by rw [← hg, hb, Int.gcd_zero_right]
theorem sg_mul_abs (a b g v : Int) (hg : (Int.gcd a b : Int) = g) (hb : b = 0) : sg a * a + v * b = g := by
  rw [← gcd_zero_abs hg hb, hb, Int.mul_zero, Int.add_zero]
  rcases sg_cases a with ⟨h, e⟩ | ⟨h, e⟩ | ⟨h, e⟩ <;> rw [e] <;> omega
section
variable {o : Oper} {a : Act} {w : World} {K : Act → World → Prop} {Q : Exit → Act → World → Prop} {ρ : Operand → Value} {x : Operand}
theorem run_loadR {g : Nat} {b : Bool} {s : Value} (ho : o.op = .load 24 x) (hx : ρ x = ptr g) (hb : RBox w g b s) : (execOp ρ o).run Try.prog w = .ok (.value (.agg #[.bool b, s])) w := by
  have h0 := hb.cell0
  have h1 := hb.cell1
  simp [execOp, ho, hx, go_sem, ptr, h0, h1]
theorem run_len {A : Option Addr} {n c : Nat} {m : Int} (ho : o.op = .call { callee := .builtin .len, args := #[x], argTypes := #[22] }) (hx : ρ x = .slice A n c) (hm : (n : Int) = m) : (execOp ρ o).run Try.prog w = .ok (.value (.int .i64 m)) w := by
  subst hm
  simp [execOp, ho, hx, go_sem, Builtin.len_, run_underlying Try.underlying22]
end
end Go.Proofs.Ytfigimfdojbkeaa
end
