/-
  Steps of regions: slices.
-/
import Derived.Test.YtchkaaeipafdnaaMonF
namespace Go.Proofs.Ytchkaaeipafdnaa
open Go.RowKit
set_option linter.unusedVariables false
/-- Block g holds the value v of a slice. -/
def SBox (w : World) (g : Nat) (v : Value) : Prop := w.heap[g]? = some (.cells #[v] 42 (0, 0))
theorem SBox.lt {w : World} {g : Nat} {v : Value} (h : SBox w g v) : g < w.heap.size := by
  rcases Nat.lt_or_ge g w.heap.size with hlt | hge
  · exact hlt
  · unfold SBox at h; rw [Array.getElem?_eq_none hge] at h; cases h
theorem SBox.below {w w' : World} {g : Nat} {v : Value} (h : SBox w g v) (hb : Below w.heap.size w w') : SBox w' g v := (hb.block g h.lt).trans h
theorem SBox.cell {w : World} {g : Nat} {v : Value} (h : SBox w g v) : w.cell? ⟨g, 0, none⟩ = some v := by
  rw [cell_of_row w g 0 _ _ (0, 0) h]; rfl
theorem SBox.new (w : World) (v : Value) : SBox (w.alloc (.cells #[v] 42)) w.heap.size v := heap_alloc_new w _
section
variable {o : Oper} {a : Act} {w : World} {K : Act → World → Prop} {Q : Exit → Act → World → Prop}
theorem underSl : Try.prog.underlying 42 = some (.slice 27) := by kernel_rfl
theorem run_at {ρ : Operand → Value} {x i : Operand} {b q n c k : Nat} (ho : o.op = .indexAddr 42 x i) (hx : ρ x = .slice (some ⟨b, q, none⟩) n c) (hi : ρ i = .int .i64 (k : Int)) (hk : k < n) :
    (execOp ρ o).run Try.prog w = .ok (.value (.pointer (some ⟨b, q + k * 8, none⟩))) w := by
  have hs : ∀ w, (sizeOf 27).run Try.prog w = .ok 8 w := fun _ => by kernel_rfl
  have h1 : (Instr.indexAt 42 (.slice (some ⟨b, q, none⟩) n c) (.int .i64 (k : Int))).run Try.prog w = .ok (.pointer (some ⟨b, q + k * 8, none⟩)) w := by
    rw [run_indexAt_slice w _ _ _ _ _ _ (by kernel_rfl), if_pos ⟨by omega, by omega⟩]
    show (((sizeOf 27).run Try.prog w).andThen _) = _
    rw [hs]
    simp [Result.andThen, Addr.add_mid]
  simp [execOp, ho, hx, hi, h1]
theorem run_len {ρ : Operand → Value} {x : Operand} {A : Option Addr} {n c : Nat} (ho : o.op = .call { callee := .builtin .len, args := #[x], argTypes := #[42] }) (hx : ρ x = .slice A n c) :
    (execOp ρ o).run Try.prog w = .ok (.value (.int .i64 (n : Int))) w := by
  simp [execOp, ho, hx, go_sem]
theorem run_lo {ρ : Operand → Value} {x i : Operand} {b q n c k : Nat} (ho : o.op = .slice 42 x (some i) none none) (hx : ρ x = .slice (some ⟨b, q, none⟩) n c) (hi : ρ i = .int .i64 (k : Int)) (hk : k ≤ n) (hc : n ≤ c) :
    (execOp ρ o).run Try.prog w = .ok (.value (.slice (if c = k then some ⟨b, q, none⟩ else some ⟨b, q + k * 8, none⟩) (n - k) (c - k))) w := by
  simp [execOp, ho, hx, hi, go_sem]
  intro h
  omega
theorem run_hi {ρ : Operand → Value} {x i : Operand} {b q n c k : Nat} (ho : o.op = .slice 42 x none (some i) none) (hx : ρ x = .slice (some ⟨b, q, none⟩) n c) (hi : ρ i = .int .i64 (k : Int)) (hk : k ≤ n) (hc : n ≤ c) :
    (execOp ρ o).run Try.prog w = .ok (.value (.slice (some ⟨b, q, none⟩) k c)) w := by
  simp [execOp, ho, hx, hi, go_sem]
  intro h
  omega
theorem run_load_sl {ρ : Operand → Value} {x : Operand} {g : Nat} {v : Value} (ho : o.op = .load 42 x) (hv : ρ x = .pointer (some ⟨g, 0, none⟩)) (hb : SBox w g v) : (execOp ρ o).run Try.prog w = .ok (.value v) w := by
  have h0 := hb.cell
  simp [execOp, ho, hv, go_sem, h0]
theorem run_eql_arr {ρ : Operand → Value} {x y : Operand} {u : TypeId} {f g : Mn} (ho : o.op = .binOp .eql 27 x y u) (hx : ρ x = .agg (cls f)) (hy : ρ y = .agg (cls g)) : (execOp ρ o).run Try.prog w = .ok (.value (.bool (eqa f g))) w := by
  have he := run_equalIn_arr f g
  simp [execOp, ho, hx, hy, go_sem, he]
theorem run_neq_arr {ρ : Operand → Value} {x y : Operand} {u : TypeId} {f g : Mn} (ho : o.op = .binOp .neq 27 x y u) (hx : ρ x = .agg (cls f)) (hy : ρ y = .agg (cls g)) : (execOp ρ o).run Try.prog w = .ok (.value (.bool (!eqa f g))) w := by
  have he := run_equalIn_arr f g
  simp [execOp, ho, hx, hy, go_sem, he]
theorem run_eql_bool {ρ : Operand → Value} {x y : Operand} {u : TypeId} {m n : Bool} (ho : o.op = .binOp .eql 4 x y u) (hx : ρ x = .bool m) (hy : ρ y = .bool n) : (execOp ρ o).run Try.prog w = .ok (.value (.bool (m == n))) w := by
  have hb : Try.prog.underlying 4 = some .bool := by kernel_rfl
  have he : (Op.equalIn 10000 4 (.bool m) (.bool n)).run Try.prog w = .ok (m == n) w := run_equalIn_bool w 9999 _ m n hb
  simp [execOp, ho, hx, hy, go_sem, binOp, Op.equal, Op.maxDepth, he]
  try (cases m <;> cases n <;> rfl)
theorem run_neq_bool {ρ : Operand → Value} {x y : Operand} {u : TypeId} {m n : Bool} (ho : o.op = .binOp .neq 4 x y u) (hx : ρ x = .bool m) (hy : ρ y = .bool n) : (execOp ρ o).run Try.prog w = .ok (.value (.bool (m != n))) w := by
  have hb : Try.prog.underlying 4 = some .bool := by kernel_rfl
  have he : (Op.equalIn 10000 4 (.bool m) (.bool n)).run Try.prog w = .ok (m == n) w := run_equalIn_bool w 9999 _ m n hb
  simp [execOp, ho, hx, hy, go_sem, binOp, Op.equal, Op.maxDepth, he]
  try (cases m <;> cases n <;> rfl)
theorem run_gtr_int {ρ : Operand → Value} {x y : Operand} {t u : TypeId} {k : IntKind} {m n : Int} (ho : o.op = .binOp .gtr t x y u) (hx : ρ x = .int k m) (hy : ρ y = .int k n) : (execOp ρ o).run Try.prog w = .ok (.value (.bool (decide (n < m)))) w := by
  simp [execOp, ho, hx, hy, go_sem]
theorem run_leq_int {ρ : Operand → Value} {x y : Operand} {t u : TypeId} {k : IntKind} {m n : Int} (ho : o.op = .binOp .leq t x y u) (hx : ρ x = .int k m) (hy : ρ y = .int k n) : (execOp ρ o).run Try.prog w = .ok (.value (.bool (decide (m ≤ n)))) w := by
  simp [execOp, ho, hx, hy, go_sem]
theorem run_add_int {ρ : Operand → Value} {x y : Operand} {t u : TypeId} {m n : Int} (ho : o.op = .binOp .add t x y u) (hx : ρ x = .int .i64 m) (hy : ρ y = .int .i64 n) (h1 : -9223372036854775808 ≤ m + n) (h2 : m + n ≤ 9223372036854775807) : (execOp ρ o).run Try.prog w = .ok (.value (.int .i64 (m + n))) w := by
  have e : IntKind.i64.wrap (m + n) = m + n := IntWalk.i64_in _ (by omega)
  simp [execOp, ho, hx, hy, go_sem, e]
theorem run_sub_int {ρ : Operand → Value} {x y : Operand} {t u : TypeId} {m n : Int} (ho : o.op = .binOp .sub t x y u) (hx : ρ x = .int .i64 m) (hy : ρ y = .int .i64 n) (h1 : -9223372036854775808 ≤ m - n) (h2 : m - n ≤ 9223372036854775807) : (execOp ρ o).run Try.prog w = .ok (.value (.int .i64 (m - n))) w := by
  have e : IntKind.i64.wrap (m - n) = m - n := IntWalk.i64_in _ (by omega)
  simp [execOp, ho, hx, hy, go_sem, e]
end
end Go.Proofs.Ytchkaaeipafdnaa
