/-
  The steps of a region by kinds of operations.
-/
import Derived.Test.YtpklphdhigkmmaaReg
import Derived.Test.YtpklphdhigkmmaaIntA
namespace Go.Proofs.Ytpklphdhigkmmaa
open Go.RowKit

section
variable {o : Oper} {a : Act} {w : World} {K : Act → World → Prop} {Q : Exit → Act → World → Prop}

theorem map_one {α β : Type} {f : α → β} {x : α} {v : β} (h : f x = v) : #[x].map f = #[v] := by simp [h]
theorem map_two {α β : Type} {f : α → β} {x y : α} {v u : β} (h : f x = v) (k : f y = u) : #[x, y].map f = #[v, u] := by simp [h, k]
theorem ev_tmp {t : Nat} {v : Value} (h : a.tmps[t]? = some v) : a.eval (.tmp t) = v := by
  simp [Act.eval, Array.getD_eq_getD_getElem?, h]
theorem wanted_none {ys : Nat → Option Bool} (h : o.guard = none) : Region.wanted o ys = true := by simp [Region.wanted, h]
theorem wanted_some {ops : Array Oper} {j : Nat} {b : Bool} {o' : Oper} {d : Nat} (h : o.guard = some (j, b)) (ho : ops[j]? = some o') (hd : o'.dst = some d) (hv : a.tmps[d]? = some (.bool b)) : Region.wanted o (yielded ops a.tmps) = true := by
  simp [Region.wanted, h, yielded, ho, hd, hv]
theorem wp_val {v : Value} (hr : (execOp a.eval o).run Try.prog w = .ok (.value v) w) (h : K (a.put o.dst v) w) : o.wp Try.prog a w K Q := by
  unfold Oper.wp
  rw [hr]
  exact h
theorem wp_enter {f : Nat} {vals : Array Value} {R : Ending → World → Prop} (hr : (execOp a.eval o).run Try.prog w = .ok (.enter f vals) w) (hc : Calls Try.prog f vals w R)
    (h : ∀ e w', R e w' → ∃ v, e = .returned v ∧ K (a.put o.dst v) w') : o.wp Try.prog a w K Q := by
  unfold Oper.wp
  rw [hr]
  refine Calls.mono hc (fun e w' he => ?_)
  obtain ⟨v, rfl, hk⟩ := h e w' he
  exact hk
theorem run_move {ρ : Operand → Value} {x : Operand} {v : Value} (ho : o.op = .move x) (hv : ρ x = v) : (execOp ρ o).run Try.prog w = .ok (.value v) w := by
  simp [execOp, ho, hv, go_sem]
theorem run_assign {ρ : Operand → Value} {x : Operand} {v : Value} (ho : o.op = .assign x) (hv : ρ x = v) : (execOp ρ o).run Try.prog w = .ok (.value v) w := by
  simp [execOp, ho, hv, go_sem]
theorem run_pick {ρ : Operand → Value} {c x y : Operand} {b : Bool} {v : Value} (ho : o.op = .pick c x y) (hc : ρ c = .bool b) (hv : (if b then ρ x else ρ y) = v) : (execOp ρ o).run Try.prog w = .ok (.value v) w := by
  subst hv
  cases b <;> simp [execOp, ho, hc, go_sem, asBool]
theorem run_not {ρ : Operand → Value} {x : Operand} {b : Bool} {t : TypeId} (ho : o.op = .unOp .not t x) (hv : ρ x = .bool b) : (execOp ρ o).run Try.prog w = .ok (.value (.bool (!b))) w := by
  simp [execOp, ho, hv, go_sem, Op.unary]
theorem run_load {ρ : Operand → Value} {x : Operand} {g : Nat} {b : Bool} {s : Value} (ho : o.op = .load 27 x) (hv : ρ x = .pointer (some ⟨g, 0, none⟩)) (hb : Box w g b s) : (execOp ρ o).run Try.prog w = .ok (.value (.agg #[.bool b, s])) w := by
  have h0 := hb.cell0
  have h1 := hb.cell1
  simp [execOp, ho, hv, go_sem, h0, h1]
theorem run_call {ρ : Operand → Value} {f : Nat} {fn : Func} {c : Code} {xs : Array Operand} {ts : Array TypeId} {vs : Array Value} (ho : o.op = .call { callee := .value (.func f), args := xs, argTypes := ts }) (hfn : Try.prog.funcs[f]? = some fn) (hname : (fn.name == "runtime.NumGoroutine") = false) (hb : fn.body = some c) (hf : ρ (.func f) = .func (.func f) #[] #[]) (hv : xs.map ρ = vs) : (execOp ρ o).run Try.prog w = .ok (.enter f vs) w := by
  subst hv
  have h1 : fn.name ≠ "runtime.NumGoroutine" := by simpa using hname
  simp [execOp, ho, hf, go_sem, callFunc, hfn, h1, hb]
theorem run_eql_int {ρ : Operand → Value} {x y : Operand} {t u : TypeId} {k : IntKind} {m n : Int} (ho : o.op = .binOp .eql t x y u) (hx : ρ x = .int k m) (hy : ρ y = .int k n) : (execOp ρ o).run Try.prog w = .ok (.value (.bool (m == n))) w := by
  simp [execOp, ho, hx, hy, go_sem]
theorem run_neq_int {ρ : Operand → Value} {x y : Operand} {t u : TypeId} {k : IntKind} {m n : Int} (ho : o.op = .binOp .neq t x y u) (hx : ρ x = .int k m) (hy : ρ y = .int k n) : (execOp ρ o).run Try.prog w = .ok (.value (.bool (m != n))) w := by
  simp [execOp, ho, hx, hy, go_sem]
theorem run_lss_int {ρ : Operand → Value} {x y : Operand} {t u : TypeId} {k : IntKind} {m n : Int} (ho : o.op = .binOp .lss t x y u) (hx : ρ x = .int k m) (hy : ρ y = .int k n) : (execOp ρ o).run Try.prog w = .ok (.value (.bool (decide (m < n)))) w := by
  simp [execOp, ho, hx, hy, go_sem]
theorem call_step {f : Nat} {fn : Func} {c : Code} {xs : Array Operand} {ts : Array TypeId} {vs : Array Value} {R : Ending → World → Prop} (ho : o.op = .call { callee := .value (.func f), args := xs, argTypes := ts }) (hfn : Try.prog.funcs[f]? = some fn) (hname : (fn.name == "runtime.NumGoroutine") = false) (hb : fn.body = some c) (hv : xs.map a.eval = vs)
    (hc : Calls Try.prog f vs w R) (h : ∀ e w', R e w' → ∃ v, e = .returned v ∧ K (a.put o.dst v) w') : o.wp Try.prog a w K Q :=
  wp_enter (run_call ho hfn hname hb rfl hv) hc h
end
end Go.Proofs.Ytpklphdhigkmmaa
