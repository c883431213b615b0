/-
  Monomials as arrays of eight numbers: values, blocks, cells.
-/
import Derived.Test.YtchkaaeipafdnaaProg
import Derived.Tactics
import Derived.Tactics2
import Derived.WalkKit
import Derived.LoopTactic
import Derived.Outline
import Derived.WalkLawsBesides
import Derived.WalkSpells
import Derived.Below
import Derived.Laws.Rows
import Derived.Laws.OwnMore
import Derived.Deep.Draws
import Derived.Deep.QuietTactic
import Derived.BigQuiet
import Derived.Lib.Hide
import Derived.Deep.DeepCutAuto
import Derived.Handy
import Derived.Laws.StructEq
import Derived.Laws.BitsAllLaws
import Derived.Deep.DrawnRows
namespace Go.Proofs.Ytchkaaeipafdnaa
open Go.RowKit

/-- An array's value. -/
abbrev arr (a : Nat → Int) : Value := .agg #[.int .i64 (a 0), .int .i64 (a 1), .int .i64 (a 2), .int .i64 (a 3), .int .i64 (a 4), .int .i64 (a 5), .int .i64 (a 6), .int .i64 (a 7)]
/-- Its cells. -/
abbrev cls (a : Nat → Int) : Array Value := #[.int .i64 (a 0), .int .i64 (a 1), .int .i64 (a 2), .int .i64 (a 3), .int .i64 (a 4), .int .i64 (a 5), .int .i64 (a 6), .int .i64 (a 7)]
theorem arr_cls (a : Nat → Int) : arr a = .agg (cls a) := rfl
def up (a : Nat → Int) (k : Nat) (v : Int) : Nat → Int := fun j => if j = k then v else a j
theorem up_self (a : Nat → Int) (k : Nat) (v : Int) : up a k v k = v := by simp [up]
theorem up_ne (a : Nat → Int) {j k : Nat} (v : Int) (h : j ≠ k) : up a k v j = a j := by simp [up, h]
theorem lt8 {k : Nat} (h : k < 8) : k = 0 ∨ k = 1 ∨ k = 2 ∨ k = 3 ∨ k = 4 ∨ k = 5 ∨ k = 6 ∨ k = 7 := by omega
theorem cls_get (a : Nat → Int) {k : Nat} (h : k < 8) : (cls a)[k]? = some (.int .i64 (a k)) := by
  rcases lt8 h with rfl | rfl | rfl | rfl | rfl | rfl | rfl | rfl <;> rfl
theorem cls_size (a : Nat → Int) : (cls a).size = 8 := rfl
theorem cls_set (a : Nat → Int) {k : Nat} (v : Int) (h : k < 8) : (cls a).setIfInBounds k (.int .i64 v) = cls (up a k v) := by
  rcases lt8 h with rfl | rfl | rfl | rfl | rfl | rfl | rfl | rfl <;> rfl
theorem cls_ext {a b : Nat → Int} (h : ∀ k, k < 8 → a k = b k) : cls a = cls b := by
  simp [cls, h]
theorem arr_ext {a b : Nat → Int} (h : ∀ k, k < 8 → a k = b k) : arr a = arr b := by
  simp [h]
theorem cls_inj {a b : Nat → Int} (h : cls a = cls b) : ∀ k, k < 8 → a k = b k := by
  intro k hk
  have := congrArg (·[k]?) h
  simp only [cls_get _ hk] at this
  simpa using this

/-- Block g is the array a, and may be written. -/
def Row (w : World) (g : Nat) (a : Nat → Int) : Prop := w.heap[g]? = some (.cells (cls a) 27 (0, 0))
theorem Row.lt {w : World} {g : Nat} {a : Nat → Int} (h : Row w g a) : g < w.heap.size := by
  rcases Nat.lt_or_ge g w.heap.size with hlt | hge
  · exact hlt
  · unfold Row at h; rw [Array.getElem?_eq_none hge] at h; cases h
theorem Row.cell {w : World} {g : Nat} {a : Nat → Int} (h : Row w g a) {k : Nat} (hk : k < 8) : w.cell? ⟨g, k, none⟩ = some (.int .i64 (a k)) := by
  rw [cell_of_row w g k _ _ (0, 0) h, cls_get a hk]
theorem Row.frozen {w : World} {g : Nat} {a : Nat → Int} (h : Row w g a) (k : Nat) : w.frozen? ⟨g, k, none⟩ = false := frozen_of_row w g k _ _ h
theorem Row.set {w : World} {g : Nat} {a : Nat → Int} (h : Row w g a) {k : Nat} (v : Int) (hk : k < 8) : Row (w.setCell ⟨g, k, none⟩ (.int .i64 v)) g (up a k v) := by
  unfold Row
  rw [heap_setCell_same w g k _ _ _ h, cls_set a v hk]
theorem Row.new (w : World) (a : Nat → Int) : Row (w.alloc (.cells (cls a) 27)) w.heap.size a := heap_alloc_new w _
theorem Row.alloc {w : World} {g : Nat} {a : Nat → Int} (h : Row w g a) (o : Obj) : Row (w.alloc o) g a := (Below.heap_alloc w o g h.lt).trans h
theorem Row.drew {w : World} {g : Nat} {a : Nat → Int} (h : Row w g a) : Row w.drew g a := h
theorem Row.drewN {w : World} {g : Nat} {a : Nat → Int} (h : Row w g a) (n : Nat) : Row (w.drewN n) g a := h
theorem Row.far {w : World} {g : Nat} {a : Nat → Int} (h : Row w g a) {p : Addr} (hp : g ≠ p.block) (u : Value) : Row (w.setCell p u) g a := (Below.heap_setCell w p u g hp).trans h
theorem Row.below {w w' : World} {g B : Nat} {a : Nat → Int} (h : Row w g a) (hb : Below B w w') (hg : g < B) : Row w' g a := (hb.block g hg).trans h
theorem Row.ext {w : World} {g : Nat} {a b : Nat → Int} (h : Row w g a) (e : ∀ k, k < 8 → a k = b k) : Row w g b := by unfold Row at *; rw [← cls_ext e]; exact h
/-- The eight cells of a block. -/
theorem Row.all {w : World} {g : Nat} {a : Nat → Int} (h : Row w g a) : w.cell? ⟨g, 0, none⟩ = some (.int .i64 (a 0)) ∧ w.cell? ⟨g, 1, none⟩ = some (.int .i64 (a 1)) ∧ w.cell? ⟨g, 2, none⟩ = some (.int .i64 (a 2)) ∧ w.cell? ⟨g, 3, none⟩ = some (.int .i64 (a 3)) ∧
    w.cell? ⟨g, 4, none⟩ = some (.int .i64 (a 4)) ∧ w.cell? ⟨g, 5, none⟩ = some (.int .i64 (a 5)) ∧ w.cell? ⟨g, 6, none⟩ = some (.int .i64 (a 6)) ∧ w.cell? ⟨g, 7, none⟩ = some (.int .i64 (a 7)) :=
  ⟨h.cell (by omega), h.cell (by omega), h.cell (by omega), h.cell (by omega), h.cell (by omega), h.cell (by omega), h.cell (by omega), h.cell (by omega)⟩

theorem run_index_arr (a : Nat → Int) {k : Nat} (h : k < 8) (w : World) : (Instr.index 27 (.agg #[.int .i64 (a 0), .int .i64 (a 1), .int .i64 (a 2), .int .i64 (a 3), .int .i64 (a 4), .int .i64 (a 5), .int .i64 (a 6), .int .i64 (a 7)]) (.int .i64 (k : Int))).run Try.prog w = .ok (.int .i64 (a k)) w := by
  rcases lt8 h with rfl | rfl | rfl | rfl | rfl | rfl | rfl | rfl <;> kernel_rfl
theorem bdrew {a w : World} {n B : Nat} (h : Below B a w) : Below B a (w.drewN n) := ⟨h.os, h.tape, h.output, h.size, h.block⟩
theorem cellsMono : Try.prog.cellsOf 27 = 8 := by kernel_rfl
theorem infoMono : (Try.prog.info? 27).map (·.size) = some 8 := by kernel_rfl
/-- Two arrays' values are equal. -/
def eqa (a b : Nat → Int) : Bool := (a 0 == b 0) && ((a 1 == b 1) && ((a 2 == b 2) && ((a 3 == b 3) && ((a 4 == b 4) && ((a 5 == b 5) && ((a 6 == b 6) && (a 7 == b 7)))))))
theorem underMono : Try.prog.underlying 27 = some (.array 8 3) := by kernel_rfl
theorem run_equalIn_arr' (d : Nat) (a b : Nat → Int) (w : World) : (Op.equalIn (d + 1 + 1) 27 (.agg #[.int .i64 (a 0), .int .i64 (a 1), .int .i64 (a 2), .int .i64 (a 3), .int .i64 (a 4), .int .i64 (a 5), .int .i64 (a 6), .int .i64 (a 7)]) (.agg #[.int .i64 (b 0), .int .i64 (b 1), .int .i64 (b 2), .int .i64 (b 3), .int .i64 (b 4), .int .i64 (b 5), .int .i64 (b 6), .int .i64 (b 7)])).run Try.prog w = .ok (eqa a b) w := by
  have hs : ∀ w, (sizeOf 3).run Try.prog w = .ok 1 w := fun _ => by kernel_rfl
  have hu : Try.prog.underlying 3 = some (.int .i64) := by kernel_rfl
  have he : ∀ (x y : Int) w, (Op.equalIn (d + 1) 3 (.int .i64 x) (.int .i64 y)).run Try.prog w = .ok (x == y) w := fun x y w => run_equalIn_int w d _ .i64 .i64 x y hu
  generalize hd : d + 1 = d1 at *
  have hp : ∀ (c : Nat → Int) (i : Nat) w, i < 8 → (part 3 #[.int .i64 (c 0), .int .i64 (c 1), .int .i64 (c 2), .int .i64 (c 3), .int .i64 (c 4), .int .i64 (c 5), .int .i64 (c 6), .int .i64 (c 7)] i).run Try.prog w = .ok (.int .i64 (c i)) w := by
    intro c i w hi
    rcases lt8 hi with rfl | rfl | rfl | rfl | rfl | rfl | rfl | rfl <;> kernel_rfl
  simp only [Op.equalIn, Sem.run_bind, run_underlying underMono, Result.andThen_ok, hs]
  rw [Std.Legacy.Range.forIn_eq_forIn_range']
  have hr : List.range' 0 (Std.Legacy.Range.size [0:8]) 1 = [0, 1, 2, 3, 4, 5, 6, 7] := by decide
  have hr' : List.range' ([0:8] : Std.Legacy.Range).start ([0:8] : Std.Legacy.Range).size ([0:8] : Std.Legacy.Range).step = [0, 1, 2, 3, 4, 5, 6, 7] := by decide
  rw [hr']
  have h0 : ∀ (c : Nat → Int) w, (part 3 #[.int .i64 (c 0), .int .i64 (c 1), .int .i64 (c 2), .int .i64 (c 3), .int .i64 (c 4), .int .i64 (c 5), .int .i64 (c 6), .int .i64 (c 7)] 0).run Try.prog w = .ok (.int .i64 (c 0)) w := fun c w => hp c 0 w (by omega)
  have h1 : ∀ (c : Nat → Int) w, (part 3 #[.int .i64 (c 0), .int .i64 (c 1), .int .i64 (c 2), .int .i64 (c 3), .int .i64 (c 4), .int .i64 (c 5), .int .i64 (c 6), .int .i64 (c 7)] 1).run Try.prog w = .ok (.int .i64 (c 1)) w := fun c w => hp c 1 w (by omega)
  have h2 : ∀ (c : Nat → Int) w, (part 3 #[.int .i64 (c 0), .int .i64 (c 1), .int .i64 (c 2), .int .i64 (c 3), .int .i64 (c 4), .int .i64 (c 5), .int .i64 (c 6), .int .i64 (c 7)] 2).run Try.prog w = .ok (.int .i64 (c 2)) w := fun c w => hp c 2 w (by omega)
  have h3 : ∀ (c : Nat → Int) w, (part 3 #[.int .i64 (c 0), .int .i64 (c 1), .int .i64 (c 2), .int .i64 (c 3), .int .i64 (c 4), .int .i64 (c 5), .int .i64 (c 6), .int .i64 (c 7)] 3).run Try.prog w = .ok (.int .i64 (c 3)) w := fun c w => hp c 3 w (by omega)
  have h4 : ∀ (c : Nat → Int) w, (part 3 #[.int .i64 (c 0), .int .i64 (c 1), .int .i64 (c 2), .int .i64 (c 3), .int .i64 (c 4), .int .i64 (c 5), .int .i64 (c 6), .int .i64 (c 7)] 4).run Try.prog w = .ok (.int .i64 (c 4)) w := fun c w => hp c 4 w (by omega)
  have h5 : ∀ (c : Nat → Int) w, (part 3 #[.int .i64 (c 0), .int .i64 (c 1), .int .i64 (c 2), .int .i64 (c 3), .int .i64 (c 4), .int .i64 (c 5), .int .i64 (c 6), .int .i64 (c 7)] 5).run Try.prog w = .ok (.int .i64 (c 5)) w := fun c w => hp c 5 w (by omega)
  have h6 : ∀ (c : Nat → Int) w, (part 3 #[.int .i64 (c 0), .int .i64 (c 1), .int .i64 (c 2), .int .i64 (c 3), .int .i64 (c 4), .int .i64 (c 5), .int .i64 (c 6), .int .i64 (c 7)] 6).run Try.prog w = .ok (.int .i64 (c 6)) w := fun c w => hp c 6 w (by omega)
  have h7 : ∀ (c : Nat → Int) w, (part 3 #[.int .i64 (c 0), .int .i64 (c 1), .int .i64 (c 2), .int .i64 (c 3), .int .i64 (c 4), .int .i64 (c 5), .int .i64 (c 6), .int .i64 (c 7)] 7).run Try.prog w = .ok (.int .i64 (c 7)) w := fun c w => hp c 7 w (by omega)
  unfold eqa
  simp only [List.forIn_cons, List.forIn_nil, Sem.run_bind, Sem.run_ite, Nat.mul_one, h0, Result.andThen_ok, he, Sem.run_pure]
  cases (a 0 == b 0)
  · simp only [Result.andThen_ok, Bool.not_false, if_true, Sem.run_pure, Bool.false_and]
  simp only [Sem.run_bind, Sem.run_ite, h1, Result.andThen_ok, he, Bool.not_true, Bool.false_eq_true, if_false, Sem.run_pure, Bool.true_and]
  cases (a 1 == b 1)
  · simp only [Result.andThen_ok, Bool.not_false, if_true, Sem.run_pure, Bool.false_and]
  simp only [Sem.run_bind, Sem.run_ite, h2, Result.andThen_ok, he, Bool.not_true, Bool.false_eq_true, if_false, Sem.run_pure, Bool.true_and]
  cases (a 2 == b 2)
  · simp only [Result.andThen_ok, Bool.not_false, if_true, Sem.run_pure, Bool.false_and]
  simp only [Sem.run_bind, Sem.run_ite, h3, Result.andThen_ok, he, Bool.not_true, Bool.false_eq_true, if_false, Sem.run_pure, Bool.true_and]
  cases (a 3 == b 3)
  · simp only [Result.andThen_ok, Bool.not_false, if_true, Sem.run_pure, Bool.false_and]
  simp only [Sem.run_bind, Sem.run_ite, h4, Result.andThen_ok, he, Bool.not_true, Bool.false_eq_true, if_false, Sem.run_pure, Bool.true_and]
  cases (a 4 == b 4)
  · simp only [Result.andThen_ok, Bool.not_false, if_true, Sem.run_pure, Bool.false_and]
  simp only [Sem.run_bind, Sem.run_ite, h5, Result.andThen_ok, he, Bool.not_true, Bool.false_eq_true, if_false, Sem.run_pure, Bool.true_and]
  cases (a 5 == b 5)
  · simp only [Result.andThen_ok, Bool.not_false, if_true, Sem.run_pure, Bool.false_and]
  simp only [Sem.run_bind, Sem.run_ite, h6, Result.andThen_ok, he, Bool.not_true, Bool.false_eq_true, if_false, Sem.run_pure, Bool.true_and]
  cases (a 6 == b 6)
  · simp only [Result.andThen_ok, Bool.not_false, if_true, Sem.run_pure, Bool.false_and]
  simp only [Sem.run_bind, Sem.run_ite, h7, Result.andThen_ok, he, Bool.not_true, Bool.false_eq_true, if_false, Sem.run_pure, Bool.true_and]
  cases (a 7 == b 7) <;> simp only [Result.andThen_ok, Bool.not_false, Bool.not_true, if_true, Bool.false_eq_true, if_false, Sem.run_pure]
theorem run_equalIn_arr (a b : Nat → Int) (w : World) : (Op.equalIn 10000 27 (.agg #[.int .i64 (a 0), .int .i64 (a 1), .int .i64 (a 2), .int .i64 (a 3), .int .i64 (a 4), .int .i64 (a 5), .int .i64 (a 6), .int .i64 (a 7)]) (.agg #[.int .i64 (b 0), .int .i64 (b 1), .int .i64 (b 2), .int .i64 (b 3), .int .i64 (b 4), .int .i64 (b 5), .int .i64 (b 6), .int .i64 (b 7)])).run Try.prog w = .ok (eqa a b) w := run_equalIn_arr' 9998 a b w
theorem eqa_true {a b : Nat → Int} : eqa a b = true ↔ ∀ k, k < 8 → a k = b k := by
  unfold eqa
  simp only [Bool.and_eq_true, beq_iff_eq]
  constructor
  · rintro ⟨h0, h1, h2, h3, h4, h5, h6, h7⟩ k hk
    rcases lt8 hk with rfl | rfl | rfl | rfl | rfl | rfl | rfl | rfl <;> assumption
  · intro h
    exact ⟨h 0 (by omega), h 1 (by omega), h 2 (by omega), h 3 (by omega), h 4 (by omega), h 5 (by omega), h 6 (by omega), h 7 (by omega)⟩
theorem eqa_false {a b : Nat → Int} {n : Nat} (hn : n < 8) (h : a n ≠ b n) : eqa a b = false := by
  cases he : eqa a b with
  | false => rfl
  | true => exact absurd (eqa_true.1 he n hn) h
theorem cls_one (a : Nat → Int) : (cls a).all (·.oneCell') = true := by simp [Value.oneCell']
theorem ld {ops : Array Oper} {rest : List Oper} {o : Oper} {a : Act} {w : World} {Q : Exit → Act → World → Prop} (x : Operand) (g : Nat) {f : Nat → Int} (r : Row w g f) (hgd : o.guard = none) (ho : o.op = .load 27 x)
    (hx : a.eval x = .pointer (some ⟨g, 0, none⟩)) (h : wpList Try.prog ops Q rest (a.put o.dst (.agg (cls f))) w) : wpList Try.prog ops Q (o :: rest) a w :=
  wpList_load_row hgd 27 x ho g hx 27 (cls f) (0, 0) _ r underMono rfl infoMono h
theorem st {ops : Array Oper} {rest : List Oper} {o : Oper} {a : Act} {w : World} {Q : Exit → Act → World → Prop} (x y : Operand) (g : Nat) (f : Nat → Int) {old : Nat → Int} (r : Row w g old) (hgd : o.guard = none) (ho : o.op = .store 27 x y)
    (hx : a.eval x = .pointer (some ⟨g, 0, none⟩)) (hy : a.eval y = .agg (cls f)) (h : wpList Try.prog ops Q rest (a.put o.dst undef) (w.setRow g (cls f))) : wpList Try.prog ops Q (o :: rest) a w :=
  wpList_store_row hgd 27 x y ho g (cls f) hx hy 27 (cls old) r infoMono rfl (cls_one f) h
theorem ret_row {fn : Func} {R : Ending → World → Prop} {a : Act} {w : World} {p : Tmp} {g : Nat} {f : Nat → Int} (hr : fn.results = #[.cell p 27]) (hp : a.tmps.getD p undef = .pointer (some ⟨g, 0, none⟩)) (r : Row w g f) (hd : a.defers = []) (hR : R (.returned (arr f)) w) : bodyPost Try.prog fn R .ret a w :=
  bodyPost_ret (results_cell_row hr _ _ g 27 (cls f) (0, 0) _ hp r underMono rfl infoMono) hd hR
/-- An array and a further result. -/
theorem ret_row2 {fn : Func} {R : Ending → World → Prop} {a : Act} {w : World} {p q : Tmp} {g : Nat} {f : Nat → Int} {v : Value} (hr : fn.results = #[.cell p 27, .tmp q]) (hp : a.tmps.getD p undef = .pointer (some ⟨g, 0, none⟩)) (hq : a.tmps.getD q undef = v) (r : Row w g f) (hd : a.defers = []) (hR : R (.returned (.tuple #[arr f, v])) w) : bodyPost Try.prog fn R .ret a w := by
  refine bodyPost_ret (v := .tuple #[arr f, v]) ?_ hd hR
  have h1 := run_loadVar_row (P := Try.prog) w g 27 27 (cls f) (0, 0) _ r underMono rfl infoMono
  have hp' : a.tmps[p]?.getD undef = .pointer (some ⟨g, 0, none⟩) := by simpa using hp
  have hq' : a.tmps[q]?.getD undef = v := by simpa using hq
  simp [results, hr, hp', hq', asAddr, h1]
end Go.Proofs.Ytchkaaeipafdnaa
