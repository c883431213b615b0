/-
  A slice of words copied by append in a region that draws its order.
-/
import Derived.Test.YtfigimfdojbkeaaGreatRatU
import Derived.Test.YtfigimfdojbkeaaGreatOwnW
import Derived.Deep.DeepCutAuto
import Derived.Handy
import Derived.ArgAppend
set_option linter.unusedSimpArgs false
set_option linter.unusedVariables false
namespace Go.Proofs.YtfigimfdojbkeaaGreat
open Go.RowKit
attribute [local go_sem ↓] Go.wp_at_zero Go.wp_at_succ

def pWd (ws : List Nat) (v : Value) (w : World) : Prop := ∃ A n c, v = .slice A n c ∧ n ≤ c ∧ c ≤ 9223372036854775807 ∧ Wd w A n ws
theorem wd_kn {w w' : World} {A : Option Addr} {n : Nat} {ws : List Nat} (h : Wd w A n ws) (hk : Rg.Kn w w') : Wd w' A n ws := h.kw (kw_of hk)
theorem pWd_keep (ws : List Nat) : Rg.KeepN (pWd ws) := fun _ _ _ ⟨A, n, c, e, h1, h2, h3⟩ hk => ⟨A, n, c, e, h1, h2, wd_kn h3 hk⟩
def pRow (v : Value) (_ : World) : Prop := ∃ g, v = .slice (some ⟨g, 0, none⟩) 0 0
theorem pRow_keep : Rg.Keeps pRow := fun _ _ _ h _ _ => h
section
variable {o : Oper} {a : Act} {w : World} {Q : Exit → Act → World → Prop} {x y : Operand} {v u : Value}
variable {ρ : Operand → Value}
theorem run_rowb (ho : o.op = .buildSlice 27 0 #[]) : (execOp ρ o).run Tryz.prog w = .ok (.value (.slice (some ⟨w.heap.size, 0, none⟩) 0 0)) (w.alloc (.cells #[] 115)) := by simp [execOp, ho, go_sem]
theorem run_appb {v' : Value} {w' : World} (ho : o.op = .call { callee := .builtin .append, args := #[x, y], argTypes := #[27, 27] }) (hx : ρ x = v) (hy : ρ y = u) (hr : (Builtin.append_ #[27, 27] o.type #[v, u]).run Tryz.prog w = .ok v' w') : (execOp ρ o).run Tryz.prog w = .ok (.value v') w' := by
  simp [execOp, ho, resolve, invoke, builtin, hx, hy, hr, Result.andThen]
theorem run_intb {b : Bool} {A : Option Addr} {n c : Nat} (ho : o.op = .build 29 #[(0, x), (1, y)]) (hx : ρ x = .bool b) (hy : ρ y = .slice A n c) : (execOp ρ o).run Tryz.prog w = .ok (.value (.agg #[.bool b, .slice A n c])) w := by simp [execOp, ho, hx, hy, go_sem]
theorem app_none (g c : Nat) (A : Option Addr) (t : TypeId) : (Builtin.append_ #[27, 27] t #[.slice (some ⟨g, 0, none⟩) 0 0, .slice A 0 c]).run Tryz.prog w = .ok (.slice (some ⟨g, 0, none⟩) 0 0) w := by
  obtain ⟨i5, hi5, hz50, hz51, hz52⟩ := info_parts u32_info
  cases A with
  | none => simp [Builtin.append_, run_underlying Tryz.underlying27, sizeOf, typeInfo, hi5, Builtin.lenOf, Builtin.firstCells, storeCells, Result.andThen, go_sem]
  | some a => exact run_append_room_cells (P := Tryz.prog) w 27 t 115 i5 Tryz.underlying27 hi5 g 0 0 0 a 0 c [] (by simp) (fun j u h => by cases h) (fun u h => by cases h) (Nat.le_refl _) (fun j h => by cases h) (fun j h => by cases h)
theorem run_ifield0 {g : Nat} (ho : o.op = .fieldAddr 29 x 0) (hx : ρ x = ptr g) : (execOp ρ o).run Tryz.prog w = .ok (.value (.pointer (some ⟨g, 0, none⟩))) w := by simp [execOp, ho, hx, go_sem, ptr]
theorem run_ifield1 {g : Nat} (ho : o.op = .fieldAddr 29 x 1) (hx : ρ x = ptr g) : (execOp ρ o).run Tryz.prog w = .ok (.value (.pointer (some ⟨g, 1, none⟩))) w := by simp [execOp, ho, hx, go_sem, ptr]
theorem run_loadb {g i : Nat} {b : Bool} (ho : o.op = .load 4 x) (hx : ρ x = .pointer (some ⟨g, i, none⟩)) (hc : w.cell? ⟨g, i, none⟩ = some (.bool b)) : (execOp ρ o).run Tryz.prog w = .ok (.value (.bool b)) w := by simp [execOp, ho, hx, go_sem, hc]
theorem run_loads {g i n c : Nat} {A : Option Addr} (ho : o.op = .load 27 x) (hx : ρ x = .pointer (some ⟨g, i, none⟩)) (hc : w.cell? ⟨g, i, none⟩ = some (.slice A n c)) : (execOp ρ o).run Tryz.prog w = .ok (.value (.slice A n c)) w := by simp [execOp, ho, hx, go_sem, hc]
theorem run_slicel {n c m : Nat} {A : Option Addr} (ho : o.op = .slice 27 x none (some y) none) (hx : ρ x = .slice A n c) (hy : ρ y = .int .i64 (m : Int)) (hm : m ≤ c) : (execOp ρ o).run Tryz.prog w = .ok (.value (.slice A m c)) w := by
  have h1 : (m : Int) ≤ c := by omega
  simp [execOp, ho, hx, hy, go_sem, h1, hm]
theorem step_row (ho : o.op = .buildSlice 27 0 #[]) :
    o.wp Tryz.prog a w (fun a' w' => ∃ v g, a' = a.put o.dst v ∧ Rg.blockOf v = some g ∧ w.heap.size ≤ g ∧ g < w'.heap.size ∧ pRow v w' ∧ Below w.heap.size w w') Q := by
  exact wp_valw (run_rowb ho) ⟨_, _, rfl, rfl, Nat.le_refl _, by simp, ⟨_, rfl⟩, (Below.refl _ _).alloc (Nat.le_refl _) _⟩
theorem step_grow {A : Option Addr} {n c : Nat} {ws : List Nat} (ho : o.op = .call { callee := .builtin .append, args := #[x, y], argTypes := #[27, 27] }) (hx : a.eval x = v) (hp : pRow v w) (hy : a.eval y = .slice A n c) (hw : Wd w A n ws) (hn : n ≤ 1000) :
    o.wp Tryz.prog a w (fun a' w' => ∃ v, a' = a.put o.dst v ∧ pWd ws v w' ∧ Below w.heap.size w w') Q := by
  obtain ⟨g, rfl⟩ := hp
  obtain ⟨i5, hi5, hz50, hz51, hz52⟩ := info_parts u32_info
  rcases Nat.eq_zero_or_pos n with rfl | hpos
  · have e : ws = [] := List.eq_nil_of_length_eq_zero hw.len
    subst e
    exact wp_valw (run_appb ho hx hy (app_none g c A _)) ⟨_, rfl, ⟨_, 0, 0, rfl, Nat.le_refl _, by omega, Wd.nil _ _⟩, Below.refl _ _⟩
  · obtain ⟨ad, rfl, _, hc⟩ := hw.2.2 hpos
    have hcells : ∀ j u, (ws.map cv)[j]? = some u → w.cell? (ad.add j) = some u := by
      intro j u hu
      rw [List.getElem?_map] at hu
      cases hj : ws[j]? with
      | none => rw [hj] at hu; cases hu
      | some x =>
        rw [hj] at hu
        cases hu
        have hlt : j < n := by
          rcases Nat.lt_or_ge j ws.length with h | h
          · rw [hw.len] at h; exact h
          · rw [List.getElem?_eq_none h] at hj; cases hj
        rw [hc j hlt, gd_eq, hj]
        rfl
    obtain ⟨v', w', hr, r1, r2⟩ := run_append_arg_grows (P := Tryz.prog) w 27 o.type 115 i5 (.int .u32 0) 1 4 Tryz.underlying27 hi5 hz50 hz51 hz52 rfl (by omega) ⟨g, 0, none⟩ 0 0 [] rfl (by intro j u h; cases h) ad n c (ws.map cv) (by rw [List.length_map, hw.len]; omega) hcells (by omega) (by unfold maxLen; omega) (by omega)
    rw [Nat.zero_add, List.nil_append] at r1
    obtain ⟨A2, c2, rfl, h1, h2, h3⟩ := own_wd r1 hw.wds
    exact wp_valw (run_appb ho hx hy hr) ⟨_, rfl, ⟨A2, n, c2, rfl, h1, h2, h3⟩, grown_below r2 (fun k hk => by cases hk) (Nat.le_refl _)⟩
theorem step_int {b : Bool} {z : Int} {ws : List Nat} (ho : o.op = .build 29 #[(0, x), (1, y)]) (hx : a.eval x = .bool b) (hy : a.eval y = v) (hp : pWd ws v w) (hm : ws = mag z.natAbs) (hb : b = decide (z < 0)) :
    o.wp Tryz.prog a w (fun a' w' => ∃ v, a' = a.put o.dst v ∧ pIv z v w' ∧ Below w.heap.size w w') Q := by
  obtain ⟨A, n, c, rfl, h1, h2, h3⟩ := hp
  subst hm hb
  exact wp_val (run_intb ho hx hy) ⟨_, rfl, Iv.made h1 h2 h3, Below.refl _ _⟩
end
theorem wd_take {w : World} {A : Option Addr} {n k : Nat} {ws : List Nat} (h : Wd w A n ws) (hk : k ≤ n) : Wd w A k (ws.take k) := by
  refine ⟨by rw [List.length_take, h.len]; omega, h.wds.take k, fun h0 => ?_⟩
  obtain ⟨ad, e, h1, h2⟩ := h.2.2 (by omega)
  refine ⟨ad, e, h1, fun j hj => ?_⟩
  rw [h2 j (by omega), gd_eq, gd_eq, List.getElem?_take_of_lt hj]

end Go.Proofs.YtfigimfdojbkeaaGreat
