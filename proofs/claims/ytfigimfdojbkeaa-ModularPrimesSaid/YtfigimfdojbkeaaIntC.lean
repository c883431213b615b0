/-
  The steps of a region by kinds of operations.
  Frames that keep every number's cell.
  Contracts of Add, Sub, Mul and Neg.
  Contracts of Of, Small, Sign, Cmp, Bits, Valid.
-/
import Derived.Test.YtfigimfdojbkeaaReg
import Derived.Test.YtfigimfdojbkeaaIntA
import Derived.Deep.RegionHeld3
set_option linter.unusedSimpArgs false
set_option linter.unusedVariables false
namespace Go.Proofs.Ytfigimfdojbkeaa
open Go.RowKit

section
variable {o : Oper} {a : Act} {w : World} {K : Act → World → Prop} {Q : Exit → Act → World → Prop}

theorem map_one {α β : Type} {f : α → β} {x : α} {v : β} (h : f x = v) : #[x].map f = #[v] := by simp [h]
theorem map_two {α β : Type} {f : α → β} {x y : α} {v u : β} (h : f x = v) (k : f y = u) : #[x, y].map f = #[v, u] := by simp [h, k]
theorem ev_tmp {t : Nat} {v : Value} (h : a.tmps[t]? = some v) : a.eval (.tmp t) = v := by
  simp [Act.eval, Array.getD_eq_getD_getElem?, h]
theorem wanted_none {ys : Nat → Option Bool} (h : o.guard = none) : Region.wanted o ys = true := by simp [Region.wanted, h]
theorem wanted_some {ops : Array Oper} {j : Nat} {b : Bool} {o' : Oper} {d : Nat} (h : o.guard = some (j, b)) (ho : ops[j]? = some o') (hd : o'.dst = some d) (hv : a.tmps[d]? = some (.bool b)) : Region.wanted o (yielded ops a.tmps) = true := by
  simp [Region.wanted, h, yielded, ho, hd, hv]
theorem wp_val {v : Value} (hr : (execOp a.eval o).run Try.prog w = .ok (.value v) w) (h : K (a.put o.dst v) w) : o.wp Try.prog a w K Q := by
  unfold Oper.wp
  rw [hr]
  exact h
theorem wp_enter {f : Nat} {vals : Array Value} {R : Ending → World → Prop} (hr : (execOp a.eval o).run Try.prog w = .ok (.enter f vals) w) (hc : Calls Try.prog f vals w R)
    (h : ∀ e w', R e w' → ∃ v, e = .returned v ∧ K (a.put o.dst v) w') : o.wp Try.prog a w K Q := by
  unfold Oper.wp
  rw [hr]
  refine Calls.mono hc (fun e w' he => ?_)
  obtain ⟨v, rfl, hk⟩ := h e w' he
  exact hk
theorem run_move {ρ : Operand → Value} {x : Operand} {v : Value} (ho : o.op = .move x) (hv : ρ x = v) : (execOp ρ o).run Try.prog w = .ok (.value v) w := by
  simp [execOp, ho, hv, go_sem]
theorem run_assign {ρ : Operand → Value} {x : Operand} {v : Value} (ho : o.op = .assign x) (hv : ρ x = v) : (execOp ρ o).run Try.prog w = .ok (.value v) w := by
  simp [execOp, ho, hv, go_sem]
theorem run_pick {ρ : Operand → Value} {c x y : Operand} {b : Bool} {v : Value} (ho : o.op = .pick c x y) (hc : ρ c = .bool b) (hv : (if b then ρ x else ρ y) = v) : (execOp ρ o).run Try.prog w = .ok (.value v) w := by
  subst hv
  cases b <;> simp [execOp, ho, hc, go_sem, asBool]
theorem run_not {ρ : Operand → Value} {x : Operand} {b : Bool} {t : TypeId} (ho : o.op = .unOp .not t x) (hv : ρ x = .bool b) : (execOp ρ o).run Try.prog w = .ok (.value (.bool (!b))) w := by
  simp [execOp, ho, hv, go_sem, Op.unary]
theorem run_load {ρ : Operand → Value} {x : Operand} {g : Nat} {b : Bool} {s : Value} (ho : o.op = .load 27 x) (hv : ρ x = .pointer (some ⟨g, 0, none⟩)) (hb : Box w g b s) : (execOp ρ o).run Try.prog w = .ok (.value (.agg #[.bool b, s])) w := by
  have h0 := hb.cell0
  have h1 := hb.cell1
  simp [execOp, ho, hv, go_sem, h0, h1]
theorem run_call {ρ : Operand → Value} {f : Nat} {fn : Func} {c : Code} {xs : Array Operand} {ts : Array TypeId} {vs : Array Value} (ho : o.op = .call { callee := .value (.func f), args := xs, argTypes := ts }) (hfn : Try.prog.funcs[f]? = some fn) (hname : (fn.name == "runtime.NumGoroutine") = false) (hb : fn.body = some c) (hf : ρ (.func f) = .func (.func f) #[] #[]) (hv : xs.map ρ = vs) : (execOp ρ o).run Try.prog w = .ok (.enter f vs) w := by
  subst hv
  have h1 : fn.name ≠ "runtime.NumGoroutine" := by simpa using hname
  simp [execOp, ho, hf, go_sem, callFunc, hfn, h1, hb]
theorem run_eql_int {ρ : Operand → Value} {x y : Operand} {t u : TypeId} {k : IntKind} {m n : Int} (ho : o.op = .binOp .eql t x y u) (hx : ρ x = .int k m) (hy : ρ y = .int k n) : (execOp ρ o).run Try.prog w = .ok (.value (.bool (m == n))) w := by
  simp [execOp, ho, hx, hy, go_sem]
theorem run_neq_int {ρ : Operand → Value} {x y : Operand} {t u : TypeId} {k : IntKind} {m n : Int} (ho : o.op = .binOp .neq t x y u) (hx : ρ x = .int k m) (hy : ρ y = .int k n) : (execOp ρ o).run Try.prog w = .ok (.value (.bool (m != n))) w := by
  simp [execOp, ho, hx, hy, go_sem]
theorem run_lss_int {ρ : Operand → Value} {x y : Operand} {t u : TypeId} {k : IntKind} {m n : Int} (ho : o.op = .binOp .lss t x y u) (hx : ρ x = .int k m) (hy : ρ y = .int k n) : (execOp ρ o).run Try.prog w = .ok (.value (.bool (decide (m < n)))) w := by
  simp [execOp, ho, hx, hy, go_sem]
theorem call_step {f : Nat} {fn : Func} {c : Code} {xs : Array Operand} {ts : Array TypeId} {vs : Array Value} {R : Ending → World → Prop} (ho : o.op = .call { callee := .value (.func f), args := xs, argTypes := ts }) (hfn : Try.prog.funcs[f]? = some fn) (hname : (fn.name == "runtime.NumGoroutine") = false) (hb : fn.body = some c) (hv : xs.map a.eval = vs)
    (hc : Calls Try.prog f vs w R) (h : ∀ e w', R e w' → ∃ v, e = .returned v ∧ K (a.put o.dst v) w') : o.wp Try.prog a w K Q :=
  wp_enter (run_call ho hfn hname hb rfl hv) hc h
end
end Go.Proofs.Ytfigimfdojbkeaa

namespace Go.Proofs.Ytfigimfdojbkeaa
open Go.RowKit

/-- Every cell of w that holds a number holds it in w' too. -/
structure Kw (w w' : World) : Prop where
  size : w.heap.size ≤ w'.heap.size
  cell : ∀ a k y, w.cell? a = some (.int k y) → w'.cell? a = some (.int k y)
theorem Kw.refl (w : World) : Kw w w := ⟨Nat.le_refl _, fun _ _ _ h => h⟩
theorem Kw.alloc {w w' : World} (h : Kw w w') (o : Obj) : Kw w (w'.alloc o) :=
  ⟨by have := h.size; simp; omega, fun a k y e => by rw [World.cell?_alloc_some _ _ _ (by rw [h.cell a k y e]; rfl)]; exact h.cell a k y e⟩
theorem Kw.old {w w' : World} {g i : Nat} {b : Bool} {X : Option Addr} {p q : Nat} (h : Kw w w') (hb : Box w g b (.slice X p q)) (hi : i < 2) (u : Value) : Kw w (w'.setCell ⟨g, i, none⟩ u) :=
  ⟨by have := h.size; simpa [World.setCell] using this, fun a k y e => by
    rw [World.cell?_setCell_other w' ⟨g, i, none⟩ a u ?_]
    · exact h.cell a k y e
    · intro e2
      rw [← e2] at e
      rcases (show i = 0 ∨ i = 1 by omega) with rfl | rfl
      · rw [hb.cell0] at e; cases e
      · rw [hb.cell1] at e; cases e⟩
theorem Kw.far {w w' : World} {p : Addr} (h : Kw w w') (hp : w.heap.size ≤ p.block) (u : Value) : Kw w (w'.setCell p u) :=
  ⟨by have := h.size; simpa [World.setCell] using this, fun a k y e => by
    have := World.block_lt_of_cell? w a e
    rw [World.cell?_setCell_far w' p a u (by omega)]
    exact h.cell a k y e⟩
theorem Wd.kw {w w' : World} {A : Option Addr} {n : Nat} {ws : List Nat} (h : Wd w A n ws) (hk : Kw w w') : Wd w' A n ws := by
  refine ⟨h.1, h.2.1, fun hn => ?_⟩
  obtain ⟨ad, e, hlt, hc⟩ := h.2.2 hn
  exact ⟨ad, e, Nat.lt_of_lt_of_le hlt hk.size, fun k hk' => hk.cell _ _ _ (hc k hk')⟩
theorem Iv.kw {w w' : World} {v : Value} {z : Int} (h : Iv w v z) (hk : Kw w w') : Iv w' v z := by
  obtain ⟨A, n, c, rfl, h1, h2, h3⟩ := h.form
  exact Iv.made h1 h2 (h3.kw hk)
end Go.Proofs.Ytfigimfdojbkeaa

section
namespace Go.Proofs.Ytfigimfdojbkeaa
open Go.RowKit
attribute [local go_sem ↓] Go.wp_at_zero Go.wp_at_succ

theorem Box.next {w w1 w' : World} {g : Nat} {b : Bool} {s : Value} (h : Box w g b s) (hb : Below w1.heap.size w1 w') (e : w1.heap = w.heap) : Box w' g b s := by
  have := h.lt
  unfold Box at h ⊢
  rw [hb.block g (by rw [e]; exact this), e]
  exact h

/-- An integer of at most N words. -/
structure Sz (z : Int) (N : Nat) : Prop where
  lt : z.natAbs < pw N
theorem Sz.len {z : Int} {N : Nat} (h : Sz z N) : (mag z.natAbs).length ≤ N := mag_length_le h.lt

theorem two_boxes {w W : World} {sa sb sc : Bool} {A B : Option Addr} {n c m d : Nat} {xs ys : List Nat} (ha : Wd w A n xs) (hb : Wd w B m ys)
    (hW : W = ((w.alloc (Obj.cells #[Value.bool sa, Value.slice A n c] 27)).alloc (Obj.cells #[Value.bool sb, Value.slice B m d] 27)).alloc (Obj.cells #[Value.bool sc, Value.slice none 0 0] 27)) :
    Box W w.heap.size sa (.slice A n c) ∧ Box W (w.heap.size + 1) sb (.slice B m d) ∧ Box W (w.heap.size + 1 + 1) sc (.slice none 0 0) ∧ Wd W A n xs ∧ Wd W B m ys ∧ Below w.heap.size w W := by
  subst hW
  refine ⟨((Box.new w _ _).alloc _).alloc _, ?_, ?_, ((ha.alloc _).alloc _).alloc _, ((hb.alloc _).alloc _).alloc _, (((Below.refl _ _).alloc (Nat.le_refl _) _).alloc (by simp) _).alloc (by simp; omega) _⟩
  · have := (Box.new (w.alloc (Obj.cells #[Value.bool sa, Value.slice A n c] 27)) sb (.slice B m d)).alloc (Obj.cells #[Value.bool sc, Value.slice none 0 0] 27)
    simpa using this
  · have := Box.new ((w.alloc (Obj.cells #[Value.bool sa, Value.slice A n c] 27)).alloc (Obj.cells #[Value.bool sb, Value.slice B m d] 27)) sc (.slice none 0 0)
    simpa using this

theorem sgn_not (b : Bool) (x : Nat) : sgn (!b) x = -sgn b x := by cases b <;> simp [sgn]
theorem sgn_mul (a b : Bool) (x y : Nat) : sgn (a != b) (x * y) = sgn a x * sgn b y := by cases a <;> cases b <;> simp [sgn, Int.neg_mul, Int.mul_neg]

set_option maxHeartbeats 2000000 in
theorem add_at (A B : Option Addr) (n c m d : Nat) (a b : Int) (w : World) (ha : Wd w A n (mag a.natAbs)) (hb : Wd w B m (mag b.natAbs)) (hn : n ≤ 1000000) (hm : m ≤ 1000000) (hnc : n ≤ c) (hmd : m ≤ d) :
    Calls Try.prog 30 #[.agg #[.bool (decide (a < 0)), .slice A n c], .agg #[.bool (decide (b < 0)), .slice B m d]] w (RetIv (a + b) w) := by
  have HA := Lib.hid ha
  have HB := Lib.hid hb
  clear ha hb
  have hsum := Lib.hid (show sgn (decide (a < 0)) a.natAbs + sgn (decide (b < 0)) b.natAbs = a + b by rw [sgn_of, sgn_of])
  generalize decide (a < 0) = sa at *
  generalize decide (b < 0) = sb at *
  go_enter Try.func30, Try.ntmps30
  go_wp2
  obtain ⟨W, hW⟩ : ∃ W, W = ((w.alloc (Obj.cells #[Value.bool sa, Value.slice A n c] 27)).alloc (Obj.cells #[Value.bool sb, Value.slice B m d] 27)).alloc (Obj.cells #[Value.bool false, Value.slice none 0 0] 27) := ⟨_, rfl⟩
  rw [← hW]
  obtain ⟨b0, b1, b2, a1, a2, hbW⟩ := two_boxes HA.out HB.out hW
  have c0 := b0.cell0
  have c1 := b0.cell1
  have c2 := b1.cell0
  have c3 := b1.cell1
  have B0 := Lib.hid b0
  have B1 := Lib.hid b1
  have B2 := Lib.hid b2
  have A1 := Lib.hid a1
  have A2 := Lib.hid a2
  clear hW b0 b1 b2 a1 a2
  have hgW := hbW.size
  generalize hg0 : w.heap.size = g at *
  have z1 : ¬ g + 1 + 1 = g := by omega
  have z2 : ¬ g = g + 1 + 1 := by omega
  go_region_held3 (fun w' => w'.cell? ⟨g, 0, none⟩ = some (.bool sa) ∧ w'.cell? ⟨g, 1, none⟩ = some (.slice A n c) ∧ w'.cell? ⟨g + 1, 0, none⟩ = some (.bool sb) ∧ w'.cell? ⟨g + 1, 1, none⟩ = some (.slice B m d)) (go_keep)
    (first
      | (go_at_call_of 94 (Value.slice A n c); refine (words_int sa A n c a.natAbs _ (by first | exact A1.out | exact A1.out.next hblb rfl) (by omega) hnc).mono ?_; rintro e wa ⟨rfl, hbla⟩
         have ka0 := (by first | exact B0.out.next hbla rfl | exact (B0.out.next hblb rfl).next hbla rfl : Box wa g sa (.slice A n c))
         have ka1 := (by first | exact B1.out.next hbla rfl | exact (B1.out.next hblb rfl).next hbla rfl : Box wa (g + 1) sb (.slice B m d))
         have p0 := ka0.cell0; have p1 := ka0.cell1; have p2 := ka1.cell0; have p3 := ka1.cell1
         have KA0 := Lib.hid ka0; have KA1 := Lib.hid ka1; clear ka0 ka1)
      | (go_at_call_of 94 (Value.slice B m d); refine (words_int sb B m d b.natAbs _ (by first | exact A2.out | exact A2.out.next hbla rfl) (by omega) hmd).mono ?_; rintro e wb ⟨rfl, hblb⟩
         have kb0 := (by first | exact B0.out.next hblb rfl | exact (B0.out.next hbla rfl).next hblb rfl : Box wb g sa (.slice A n c))
         have kb1 := (by first | exact B1.out.next hblb rfl | exact (B1.out.next hbla rfl).next hblb rfl : Box wb (g + 1) sb (.slice B m d))
         have q0 := kb0.cell0; have q1 := kb0.cell1; have q2 := kb1.cell0; have q3 := kb1.cell1
         have KB0 := Lib.hid kb0; have KB1 := Lib.hid kb1; clear kb0 kb1)
      | (go_at_call 111; refine (sum_any sa sb A B n c m d a.natAbs b.natAbs _ (by first | exact (A1.out.next hbla rfl).next hblb rfl | exact (A1.out.next hblb rfl).next hbla rfl) (by first | exact (A2.out.next hbla rfl).next hblb rfl | exact (A2.out.next hblb rfl).next hbla rfl) (by omega) (by omega)).mono ?_; rintro e w3 ⟨v3, rfl, hv3, hbl3⟩
         rw [hsum.out] at hv3
         obtain ⟨A3, n3, c3, rfl, k1, k2, k3⟩ := hv3.form
         have K3 := Lib.hid k3
         have r0 := (by first | exact ((B0.out.next hbla rfl).next hblb rfl).next hbl3 rfl | exact ((B0.out.next hblb rfl).next hbla rfl).next hbl3 rfl : Box w3 g sa (.slice A n c))
         have r1 := (by first | exact ((B1.out.next hbla rfl).next hblb rfl).next hbl3 rfl | exact ((B1.out.next hblb rfl).next hbla rfl).next hbl3 rfl : Box w3 (g + 1) sb (.slice B m d))
         have r2 := (by first | exact ((B2.out.next hbla rfl).next hblb rfl).next hbl3 rfl | exact ((B2.out.next hblb rfl).next hbla rfl).next hbl3 rfl : Box w3 (g + 1 + 1) false (.slice none 0 0))
         have hall := (by first | exact link_below (link_below (link_below hbW hbla hgW rfl rfl rfl rfl) hblb (Nat.le_trans hgW hbla.size) rfl rfl rfl rfl) hbl3 (Nat.le_trans (Nat.le_trans hgW hbla.size) hblb.size) rfl rfl rfl rfl
                                | exact link_below (link_below (link_below hbW hblb hgW rfl rfl rfl rfl) hbla (Nat.le_trans hgW hblb.size) rfl rfl rfl rfl) hbl3 (Nat.le_trans (Nat.le_trans hgW hblb.size) hbla.size) rfl rfl rfl rfl : Below g w w3)
         have s0 := r0.cell0; have s1 := r0.cell1; have s2 := r1.cell0; have s3 := r1.cell1; have s4 := r2.cell0; have s5 := r2.cell1; have s6 := r2.frozen 0; have s7 := r2.frozen 1
         have R2 := Lib.hid r2; clear r0 r1 r2 k3 hv3))
  go_wp2
  exact bodyPost_ret (v := .agg #[.bool (decide (a + b < 0)), .slice A3 n3 c3]) (by simp [results, Try.results30, go_sem, s4, s5]) rfl ⟨_, rfl, iv_store k1 k2 K3.out R2.out _, by rw [hg0]; exact (hall.setCell (by simp; omega) _).setCell (by simp; omega) _⟩
set_option maxHeartbeats 2000000 in
theorem sub_at (A B : Option Addr) (n c m d : Nat) (a b : Int) (w : World) (ha : Wd w A n (mag a.natAbs)) (hb : Wd w B m (mag b.natAbs)) (hn : n ≤ 1000000) (hm : m ≤ 1000000) (hnc : n ≤ c) (hmd : m ≤ d) :
    Calls Try.prog 32 #[.agg #[.bool (decide (a < 0)), .slice A n c], .agg #[.bool (decide (b < 0)), .slice B m d]] w (RetIv (a - b) w) := by
  have HA := Lib.hid ha
  have HB := Lib.hid hb
  clear ha hb
  have hsum := Lib.hid (show sgn (decide (a < 0)) a.natAbs + sgn (!decide (b < 0)) b.natAbs = a - b by rw [sgn_of, sgn_not, sgn_of]; omega)
  generalize decide (a < 0) = sa at *
  generalize decide (b < 0) = sb at *
  go_enter Try.func32, Try.ntmps32
  go_wp2
  obtain ⟨W, hW⟩ : ∃ W, W = ((w.alloc (Obj.cells #[Value.bool sa, Value.slice A n c] 27)).alloc (Obj.cells #[Value.bool sb, Value.slice B m d] 27)).alloc (Obj.cells #[Value.bool false, Value.slice none 0 0] 27) := ⟨_, rfl⟩
  rw [← hW]
  obtain ⟨b0, b1, b2, a1, a2, hbW⟩ := two_boxes HA.out HB.out hW
  have c0 := b0.cell0
  have c1 := b0.cell1
  have c2 := b1.cell0
  have c3 := b1.cell1
  have B0 := Lib.hid b0
  have B1 := Lib.hid b1
  have B2 := Lib.hid b2
  have A1 := Lib.hid a1
  have A2 := Lib.hid a2
  clear hW b0 b1 b2 a1 a2
  have hgW := hbW.size
  generalize hg0 : w.heap.size = g at *
  have z1 : ¬ g + 1 + 1 = g := by omega
  have z2 : ¬ g = g + 1 + 1 := by omega
  go_region_held3 (fun w' => w'.cell? ⟨g, 0, none⟩ = some (.bool sa) ∧ w'.cell? ⟨g, 1, none⟩ = some (.slice A n c) ∧ w'.cell? ⟨g + 1, 0, none⟩ = some (.bool sb) ∧ w'.cell? ⟨g + 1, 1, none⟩ = some (.slice B m d)) (go_keep)
    (first
      | (go_at_call_of 94 (Value.slice A n c); refine (words_int sa A n c a.natAbs _ (by first | exact A1.out | exact A1.out.next hblb rfl) (by omega) hnc).mono ?_; rintro e wa ⟨rfl, hbla⟩
         have ka0 := (by first | exact B0.out.next hbla rfl | exact (B0.out.next hblb rfl).next hbla rfl : Box wa g sa (.slice A n c))
         have ka1 := (by first | exact B1.out.next hbla rfl | exact (B1.out.next hblb rfl).next hbla rfl : Box wa (g + 1) sb (.slice B m d))
         have p0 := ka0.cell0; have p1 := ka0.cell1; have p2 := ka1.cell0; have p3 := ka1.cell1
         have KA0 := Lib.hid ka0; have KA1 := Lib.hid ka1; clear ka0 ka1)
      | (go_at_call_of 94 (Value.slice B m d); refine (words_int sb B m d b.natAbs _ (by first | exact A2.out | exact A2.out.next hbla rfl) (by omega) hmd).mono ?_; rintro e wb ⟨rfl, hblb⟩
         have kb0 := (by first | exact B0.out.next hblb rfl | exact (B0.out.next hbla rfl).next hblb rfl : Box wb g sa (.slice A n c))
         have kb1 := (by first | exact B1.out.next hblb rfl | exact (B1.out.next hbla rfl).next hblb rfl : Box wb (g + 1) sb (.slice B m d))
         have q0 := kb0.cell0; have q1 := kb0.cell1; have q2 := kb1.cell0; have q3 := kb1.cell1
         have KB0 := Lib.hid kb0; have KB1 := Lib.hid kb1; clear kb0 kb1)
      | (go_at_call 111; refine (sum_any sa (!sb) A B n c m d a.natAbs b.natAbs _ (by first | exact (A1.out.next hbla rfl).next hblb rfl | exact (A1.out.next hblb rfl).next hbla rfl) (by first | exact (A2.out.next hbla rfl).next hblb rfl | exact (A2.out.next hblb rfl).next hbla rfl) (by omega) (by omega)).mono ?_; rintro e w3 ⟨v3, rfl, hv3, hbl3⟩
         rw [hsum.out] at hv3
         obtain ⟨A3, n3, c3, rfl, k1, k2, k3⟩ := hv3.form
         have K3 := Lib.hid k3
         have r0 := (by first | exact ((B0.out.next hbla rfl).next hblb rfl).next hbl3 rfl | exact ((B0.out.next hblb rfl).next hbla rfl).next hbl3 rfl : Box w3 g sa (.slice A n c))
         have r1 := (by first | exact ((B1.out.next hbla rfl).next hblb rfl).next hbl3 rfl | exact ((B1.out.next hblb rfl).next hbla rfl).next hbl3 rfl : Box w3 (g + 1) sb (.slice B m d))
         have r2 := (by first | exact ((B2.out.next hbla rfl).next hblb rfl).next hbl3 rfl | exact ((B2.out.next hblb rfl).next hbla rfl).next hbl3 rfl : Box w3 (g + 1 + 1) false (.slice none 0 0))
         have hall := (by first | exact link_below (link_below (link_below hbW hbla hgW rfl rfl rfl rfl) hblb (Nat.le_trans hgW hbla.size) rfl rfl rfl rfl) hbl3 (Nat.le_trans (Nat.le_trans hgW hbla.size) hblb.size) rfl rfl rfl rfl
                                | exact link_below (link_below (link_below hbW hblb hgW rfl rfl rfl rfl) hbla (Nat.le_trans hgW hblb.size) rfl rfl rfl rfl) hbl3 (Nat.le_trans (Nat.le_trans hgW hblb.size) hbla.size) rfl rfl rfl rfl : Below g w w3)
         have s0 := r0.cell0; have s1 := r0.cell1; have s2 := r1.cell0; have s3 := r1.cell1; have s4 := r2.cell0; have s5 := r2.cell1; have s6 := r2.frozen 0; have s7 := r2.frozen 1
         have R2 := Lib.hid r2; clear r0 r1 r2 k3 hv3))
  go_wp2
  exact bodyPost_ret (v := .agg #[.bool (decide (a - b < 0)), .slice A3 n3 c3]) (by simp [results, Try.results32, go_sem, s4, s5]) rfl ⟨_, rfl, iv_store k1 k2 K3.out R2.out _, by rw [hg0]; exact (hall.setCell (by simp; omega) _).setCell (by simp; omega) _⟩
set_option maxHeartbeats 2000000 in
theorem mul_at (A B : Option Addr) (n c m d : Nat) (a b : Int) (w : World) (ha : Wd w A n (mag a.natAbs)) (hb : Wd w B m (mag b.natAbs)) (hn : n ≤ 1000000) (hm : m ≤ 1000000) (hnc : n ≤ c) (hmd : m ≤ d) :
    Calls Try.prog 34 #[.agg #[.bool (decide (a < 0)), .slice A n c], .agg #[.bool (decide (b < 0)), .slice B m d]] w (RetIv (a * b) w) := by
  have HA := Lib.hid ha
  have HB := Lib.hid hb
  clear ha hb
  have hsum := Lib.hid (show sgn (decide (a < 0) != decide (b < 0)) (a.natAbs * b.natAbs) = a * b by rw [sgn_mul, sgn_of, sgn_of])
  generalize decide (a < 0) = sa at *
  generalize decide (b < 0) = sb at *
  go_enter Try.func34, Try.ntmps34
  go_wp2
  obtain ⟨W, hW⟩ : ∃ W, W = ((w.alloc (Obj.cells #[Value.bool sa, Value.slice A n c] 27)).alloc (Obj.cells #[Value.bool sb, Value.slice B m d] 27)).alloc (Obj.cells #[Value.bool false, Value.slice none 0 0] 27) := ⟨_, rfl⟩
  rw [← hW]
  obtain ⟨b0, b1, b2, a1, a2, hbW⟩ := two_boxes HA.out HB.out hW
  have c0 := b0.cell0
  have c1 := b0.cell1
  have c2 := b1.cell0
  have c3 := b1.cell1
  have B0 := Lib.hid b0
  have B1 := Lib.hid b1
  have B2 := Lib.hid b2
  have A1 := Lib.hid a1
  have A2 := Lib.hid a2
  clear hW b0 b1 b2 a1 a2
  have hgW := hbW.size
  generalize hg0 : w.heap.size = g at *
  have z1 : ¬ g + 1 + 1 = g := by omega
  have z2 : ¬ g = g + 1 + 1 := by omega
  go_region_held3 (fun w' => w'.cell? ⟨g, 0, none⟩ = some (.bool sa) ∧ w'.cell? ⟨g, 1, none⟩ = some (.slice A n c) ∧ w'.cell? ⟨g + 1, 0, none⟩ = some (.bool sb) ∧ w'.cell? ⟨g + 1, 1, none⟩ = some (.slice B m d)) (go_keep)
    (first
      | (go_at_call_of 94 (Value.slice A n c); refine (words_int sa A n c a.natAbs _ (by first | exact A1.out | exact A1.out.next hblb rfl) (by omega) hnc).mono ?_; rintro e wa ⟨rfl, hbla⟩
         have ka0 := (by first | exact B0.out.next hbla rfl | exact (B0.out.next hblb rfl).next hbla rfl : Box wa g sa (.slice A n c))
         have ka1 := (by first | exact B1.out.next hbla rfl | exact (B1.out.next hblb rfl).next hbla rfl : Box wa (g + 1) sb (.slice B m d))
         have p0 := ka0.cell0; have p1 := ka0.cell1; have p2 := ka1.cell0; have p3 := ka1.cell1
         have KA0 := Lib.hid ka0; have KA1 := Lib.hid ka1; clear ka0 ka1)
      | (go_at_call_of 94 (Value.slice B m d); refine (words_int sb B m d b.natAbs _ (by first | exact A2.out | exact A2.out.next hbla rfl) (by omega) hmd).mono ?_; rintro e wb ⟨rfl, hblb⟩
         have kb0 := (by first | exact B0.out.next hblb rfl | exact (B0.out.next hbla rfl).next hblb rfl : Box wb g sa (.slice A n c))
         have kb1 := (by first | exact B1.out.next hblb rfl | exact (B1.out.next hbla rfl).next hblb rfl : Box wb (g + 1) sb (.slice B m d))
         have q0 := kb0.cell0; have q1 := kb0.cell1; have q2 := kb1.cell0; have q3 := kb1.cell1
         have KB0 := Lib.hid kb0; have KB1 := Lib.hid kb1; clear kb0 kb1)
      | (go_at_call 112; refine (times_any A B n m c d a.natAbs b.natAbs _ (by exact (A1.out.next hbla rfl).next hblb rfl) (by exact (A2.out.next hbla rfl).next hblb rfl) (by omega) (by omega)).mono ?_; rintro e wt ⟨vt, rfl, ⟨At, nt, ct, rfl, t1, t2, t3⟩, hblt⟩
         have T3 := Lib.hid t3
         have hnt : nt ≤ 2000000 := by
           rw [← t3.len]
           refine mag_length_le ?_
           have e1 := lt_pw_mag a.natAbs
           have e2 := lt_pw_mag b.natAbs
           rw [A1.out.len] at e1
           rw [A2.out.len] at e2
           have e3 := Nat.mul_lt_mul'' e1 e2
           rw [← pw_add] at e3
           exact Nat.lt_of_lt_of_le e3 (pw_le (by omega))
         have kt0 := (by exact ((B0.out.next hbla rfl).next hblb rfl).next hblt rfl : Box wt g sa (.slice A n c))
         have kt1 := (by exact ((B1.out.next hbla rfl).next hblb rfl).next hblt rfl : Box wt (g + 1) sb (.slice B m d))
         have kt2 := (by exact ((B2.out.next hbla rfl).next hblb rfl).next hblt rfl : Box wt (g + 1 + 1) false (.slice none 0 0))
         have hallt := (by exact link_below (link_below (link_below hbW hbla hgW rfl rfl rfl rfl) hblb (Nat.le_trans hgW hbla.size) rfl rfl rfl rfl) hblt (Nat.le_trans (Nat.le_trans hgW hbla.size) hblb.size) rfl rfl rfl rfl : Below g w wt)
         have u0 := kt0.cell0; have u1 := kt0.cell1; have u2 := kt1.cell0; have u3 := kt1.cell1
         have KT0 := Lib.hid kt0; have KT1 := Lib.hid kt1; have KT2 := Lib.hid kt2; clear kt0 kt1 kt2 t3)
      | (go_at_call 98; refine (signed_mg (sa != sb) At nt ct (a.natAbs * b.natAbs) _ T3.out (by omega) t1 t2).mono ?_; rintro e w3 ⟨v3, rfl, hv3, hbl3⟩
         rw [hsum.out] at hv3
         obtain ⟨A3, n3, c3, rfl, k1, k2, k3⟩ := hv3.form
         have K3 := Lib.hid k3
         have r0 := (by exact KT0.out.next hbl3 rfl : Box w3 g sa (.slice A n c))
         have r1 := (by exact KT1.out.next hbl3 rfl : Box w3 (g + 1) sb (.slice B m d))
         have r2 := (by exact KT2.out.next hbl3 rfl : Box w3 (g + 1 + 1) false (.slice none 0 0))
         have hall := (by exact link_below hallt hbl3 (Nat.le_trans (Nat.le_trans (Nat.le_trans hgW hbla.size) hblb.size) hblt.size) rfl rfl rfl rfl : Below g w w3)
         have s0 := r0.cell0; have s1 := r0.cell1; have s2 := r1.cell0; have s3 := r1.cell1; have s4 := r2.cell0; have s5 := r2.cell1; have s6 := r2.frozen 0; have s7 := r2.frozen 1
         have R2 := Lib.hid r2; clear r0 r1 r2 k3 hv3))
  go_wp2
  exact bodyPost_ret (v := .agg #[.bool (decide (a * b < 0)), .slice A3 n3 c3]) (by simp [results, Try.results34, go_sem, s4, s5]) rfl ⟨_, rfl, iv_store k1 k2 K3.out R2.out _, by rw [hg0]; exact (hall.setCell (by simp; omega) _).setCell (by simp; omega) _⟩
set_option maxHeartbeats 2000000 in
theorem neg_at (A : Option Addr) (n c : Nat) (a : Int) (w : World) (ha : Wd w A n (mag a.natAbs)) (hn : n ≤ 1000000) (hnc : n ≤ c) :
    Calls Try.prog 42 #[.agg #[.bool (decide (a < 0)), .slice A n c]] w (RetIv (-a) w) := by
  have HA := Lib.hid ha
  clear ha
  have hsum := Lib.hid (show sgn (!decide (a < 0)) a.natAbs = -a by rw [sgn_not, sgn_of])
  generalize decide (a < 0) = sa at *
  go_enter Try.func42, Try.ntmps42
  go_wp2
  obtain ⟨W, hW⟩ : ∃ W, W = (w.alloc (Obj.cells #[Value.bool sa, Value.slice A n c] 27)).alloc (Obj.cells #[Value.bool false, Value.slice none 0 0] 27) := ⟨_, rfl⟩
  rw [← hW]
  have b0 : Box W w.heap.size sa (.slice A n c) := by rw [hW]; exact (Box.new w _ _).alloc _
  have b2 : Box W (w.heap.size + 1) false (.slice none 0 0) := by rw [hW]; have := Box.new (w.alloc (Obj.cells #[Value.bool sa, Value.slice A n c] 27)) false (.slice none 0 0); simpa using this
  have a1 : Wd W A n (mag a.natAbs) := by rw [hW]; exact (HA.out.alloc _).alloc _
  have hbW : Below w.heap.size w W := by rw [hW]; exact ((Below.refl _ _).alloc (Nat.le_refl _) _).alloc (by simp) _
  have c0 := b0.cell0
  have c1 := b0.cell1
  have B0 := Lib.hid b0
  have B2 := Lib.hid b2
  have A1 := Lib.hid a1
  clear hW b0 b2 a1
  have hgW := hbW.size
  generalize hg0 : w.heap.size = g at *
  have z1 : ¬ g + 1 = g := by omega
  have z2 : ¬ g = g + 1 := by omega
  go_region_held3 (fun w' => w'.cell? ⟨g, 0, none⟩ = some (.bool sa) ∧ w'.cell? ⟨g, 1, none⟩ = some (.slice A n c)) (go_keep)
    (first
      | (go_at_call 94; refine (words_int sa A n c a.natAbs _ (by exact A1.out) (by omega) hnc).mono ?_; rintro e wa ⟨rfl, hbla⟩
         have ka0 := (by exact B0.out.next hbla rfl : Box wa g sa (.slice A n c))
         have p0 := ka0.cell0; have p1 := ka0.cell1
         clear ka0)
      | (go_at_call 102; refine (clone_any A n c (mag a.natAbs) _ (by exact A1.out.next hbla rfl) (by omega)).mono ?_; rintro e wc ⟨rfl, hbc, hblc⟩
         have HBC := Lib.hid hbc
         have kc0 := (by exact (B0.out.next hbla rfl).next hblc rfl : Box wc g sa (.slice A n c))
         have p2 := kc0.cell0; have p3 := kc0.cell1
         clear kc0 hbc)
      | (go_at_call 98; refine (signed_mg (!sa) _ n n a.natAbs _ (by have := HBC.out.whole; rw [A1.out.len] at this; exact this) (by omega) (Nat.le_refl _) (by omega)).mono ?_; rintro e w3 ⟨v3, rfl, hv3, hbl3⟩
         rw [hsum.out] at hv3
         obtain ⟨A3, n3, c3, rfl, k1, k2, k3⟩ := hv3.form
         have K3 := Lib.hid k3
         have r0 := (by exact ((B0.out.next hbla rfl).next hblc rfl).next hbl3 rfl : Box w3 g sa (.slice A n c))
         have r2 := (by exact ((B2.out.next hbla rfl).next hblc rfl).next hbl3 rfl : Box w3 (g + 1) false (.slice none 0 0))
         have hall := (by exact link_below (link_below (link_below hbW hbla hgW rfl rfl rfl rfl) hblc (Nat.le_trans hgW hbla.size) rfl rfl rfl rfl) hbl3 (Nat.le_trans (Nat.le_trans hgW hbla.size) hblc.size) rfl rfl rfl rfl : Below g w w3)
         have s0 := r0.cell0; have s1 := r0.cell1; have s4 := r2.cell0; have s5 := r2.cell1; have s6 := r2.frozen 0; have s7 := r2.frozen 1
         have R2 := Lib.hid r2; clear r0 r2 k3 hv3))
  go_wp2
  exact bodyPost_ret (v := .agg #[.bool (decide (-a < 0)), .slice A3 n3 c3]) (by simp [results, Try.results42, go_sem, s4, s5]) rfl ⟨_, rfl, iv_store k1 k2 K3.out R2.out _, by rw [hg0]; exact (hall.setCell (by simp) _).setCell (by simp) _⟩

theorem add_any (va vb : Value) (a b : Int) (w : World) (ha : Iv w va a) (hb : Iv w vb b) (sa : Sz a 1000000) (sb : Sz b 1000000) : Calls Try.prog 30 #[va, vb] w (RetIv (a + b) w) := by
  obtain ⟨A, n, c, rfl, h1, h2, h3⟩ := ha.form
  obtain ⟨B, m, d, rfl, k1, k2, k3⟩ := hb.form
  exact add_at A B n c m d a b w h3 k3 (by rw [← h3.len]; exact sa.len) (by rw [← k3.len]; exact sb.len) h1 k1
theorem sub_any (va vb : Value) (a b : Int) (w : World) (ha : Iv w va a) (hb : Iv w vb b) (sa : Sz a 1000000) (sb : Sz b 1000000) : Calls Try.prog 32 #[va, vb] w (RetIv (a - b) w) := by
  obtain ⟨A, n, c, rfl, h1, h2, h3⟩ := ha.form
  obtain ⟨B, m, d, rfl, k1, k2, k3⟩ := hb.form
  exact sub_at A B n c m d a b w h3 k3 (by rw [← h3.len]; exact sa.len) (by rw [← k3.len]; exact sb.len) h1 k1
theorem mul_any (va vb : Value) (a b : Int) (w : World) (ha : Iv w va a) (hb : Iv w vb b) (sa : Sz a 1000000) (sb : Sz b 1000000) : Calls Try.prog 34 #[va, vb] w (RetIv (a * b) w) := by
  obtain ⟨A, n, c, rfl, h1, h2, h3⟩ := ha.form
  obtain ⟨B, m, d, rfl, k1, k2, k3⟩ := hb.form
  exact mul_at A B n c m d a b w h3 k3 (by rw [← h3.len]; exact sa.len) (by rw [← k3.len]; exact sb.len) h1 k1
theorem neg_any (va : Value) (a : Int) (w : World) (ha : Iv w va a) (sa : Sz a 1000000) : Calls Try.prog 42 #[va] w (RetIv (-a) w) := by
  obtain ⟨A, n, c, rfl, h1, h2, h3⟩ := ha.form
  exact neg_at A n c a w h3 (by rw [← h3.len]; exact sa.len) h1
end Go.Proofs.Ytfigimfdojbkeaa
end

section
namespace Go.Proofs.Ytfigimfdojbkeaa
open Go.RowKit
attribute [local go_sem ↓] Go.wp_at_zero Go.wp_at_succ

theorem iv_next {w w1 w' : World} {v : Value} {z : Int} (h : Iv w v z) (hb : Below w1.heap.size w1 w') (e : w1.heap = w.heap) : Iv w' v z := by
  obtain ⟨m, e1, h1⟩ := h
  exact ⟨m, e1, h1.next hb e⟩
theorem Sz.mono {z : Int} {N M : Nat} (h : Sz z N) (hNM : N ≤ M) : Sz z M := ⟨Nat.lt_of_lt_of_le h.lt (pw_le hNM)⟩
theorem Sz.add {a b : Int} {N : Nat} (h : Sz a N) (k : Sz b N) : Sz (a + b) (N + 1) := by
  have h1 := h.lt
  have h2 := k.lt
  have := Int.natAbs_add_le a b
  exact ⟨by rw [pw_succ]; omega⟩
theorem Sz.neg {a : Int} {N : Nat} (h : Sz a N) : Sz (-a) N := ⟨by rw [Int.natAbs_neg]; exact h.lt⟩
theorem Sz.sub {a b : Int} {N : Nat} (h : Sz a N) (k : Sz b N) : Sz (a - b) (N + 1) := by
  have := h.add k.neg
  rwa [show a + -b = a - b by omega] at this
theorem Sz.mul {a b : Int} {N M : Nat} (h : Sz a N) (k : Sz b M) : Sz (a * b) (N + M) :=
  ⟨by rw [Int.natAbs_mul, pw_add]; exact Nat.mul_lt_mul'' h.lt k.lt⟩
theorem Sz.small {a : Int} (h1 : -9223372036854775808 ≤ a) (h2 : a ≤ 9223372036854775808) : Sz a 2 :=
  ⟨by rw [show pw 2 = 18446744073709551616 from rfl]; omega⟩

set_option maxHeartbeats 1000000 in
theorem of_any (z : Int) (w : World) (h1 : -9223372036854775808 ≤ z) (h2 : z ≤ 9223372036854775807) :
    Calls Try.prog 103 #[.int .i64 z] w (RetIv z w) := by
  by_cases h0 : z < 0
  · obtain ⟨x, rfl⟩ : ∃ x : Nat, z = -(x : Int) := ⟨z.natAbs, by omega⟩
    have e1 : IntKind.u64.wrap (-(IntKind.u64.wrap (-(x : Int)))) = (x : Int) := by rw [IntKind.wrap_u64, IntKind.wrap_u64]; omega
    have e2 : Hid (sgn true x = -(x : Int)) := rfl
    go_enter Try.func103, Try.ntmps103
    go_wp2_with fail
    refine (wordsOf_any x _ (by omega)).mono ?_
    rintro e w1 ⟨v1, rfl, ⟨A1, n1, c1, rfl, a1, a2, a3⟩, hbl1⟩
    have A3 := Lib.hid a3
    have hn1 : n1 ≤ 2 := by rw [← a3.len]; exact mag_length_le (by rw [show pw 2 = 18446744073709551616 from rfl]; omega)
    clear a3
    go_wp2_with fail
    refine (signed_mg true A1 n1 c1 x _ A3.out (by omega) a1 a2).mono ?_
    rintro e w2 ⟨v2, rfl, hv2, hbl2⟩
    rw [e2.out] at hv2
    obtain ⟨A2, n2, c2, rfl, k1, k2, k3⟩ := hv2.form
    have K3 := Lib.hid k3
    have hbx1 : Box w1 w.heap.size false (.slice none 0 0) := (Box.new w _ _).below hbl1 (by simp)
    have hbx2 := Lib.hid (hbx1.below hbl2 hbx1.lt)
    have q0 := hbx2.out.cell0
    have q1 := hbx2.out.cell1
    have q2 := hbx2.out.frozen 0
    have q3 := hbx2.out.frozen 1
    have hbl02 : Below w.heap.size w w2 := (below_new hbl1).trans (hbl2.mono (below_new hbl1).size)
    clear k3 hbx1 hv2
    go_wp2
    exact bodyPost_ret (v := .agg #[.bool (decide (-(x : Int) < 0)), .slice A2 n2 c2]) (by simp [results, Try.results103, go_sem, q0, q1]; omega) rfl ⟨_, rfl, iv_store k1 k2 K3.out hbx2.out _, (hbl02.setCell (Nat.le_refl _) _).setCell (Nat.le_refl _) _⟩
  · obtain ⟨x, rfl⟩ : ∃ x : Nat, z = (x : Int) := ⟨z.natAbs, by omega⟩
    have e2 : Hid (sgn false x = (x : Int)) := rfl
    go_enter Try.func103, Try.ntmps103
    go_wp2_with fail
    refine (wordsOf_any x _ (by omega)).mono ?_
    rintro e w1 ⟨v1, rfl, ⟨A1, n1, c1, rfl, a1, a2, a3⟩, hbl1⟩
    have A3 := Lib.hid a3
    have hn1 : n1 ≤ 2 := by rw [← a3.len]; exact mag_length_le (by rw [show pw 2 = 18446744073709551616 from rfl]; omega)
    clear a3
    go_wp2_with fail
    refine (signed_mg false A1 n1 c1 x _ A3.out (by omega) a1 a2).mono ?_
    rintro e w2 ⟨v2, rfl, hv2, hbl2⟩
    rw [e2.out] at hv2
    obtain ⟨A2, n2, c2, rfl, k1, k2, k3⟩ := hv2.form
    have K3 := Lib.hid k3
    have hbx1 : Box w1 w.heap.size false (.slice none 0 0) := (Box.new w _ _).below hbl1 (by simp)
    have hbx2 := Lib.hid (hbx1.below hbl2 hbx1.lt)
    have q0 := hbx2.out.cell0
    have q1 := hbx2.out.cell1
    have q2 := hbx2.out.frozen 0
    have q3 := hbx2.out.frozen 1
    have hbl02 : Below w.heap.size w w2 := (below_new hbl1).trans (hbl2.mono (below_new hbl1).size)
    clear k3 hbx1 hv2
    go_wp2
    exact bodyPost_ret (v := .agg #[.bool (decide ((x : Int) < 0)), .slice A2 n2 c2]) (by simp [results, Try.results103, go_sem, q0, q1]) rfl ⟨_, rfl, iv_store k1 k2 K3.out hbx2.out _, (hbl02.setCell (Nat.le_refl _) _).setCell (Nat.le_refl _) _⟩

theorem bits_int (va : Value) (a : Int) (w : World) (ha : Iv w va a) (sa : Sz a 1000000) : Calls Try.prog 92 #[va] w (RetV (.int .i64 (bl a.natAbs : Nat)) w) := by
  obtain ⟨A, n, c, rfl, h1, h2, h3⟩ := ha.form
  have H3 := Lib.hid h3
  have hn : n ≤ 1000000 := by rw [← h3.len]; exact sa.len
  clear h3 sa ha
  go_enter Try.func92, Try.ntmps92
  go_wp2_with fail
  refine (words_int _ A n c _ _ (H3.out.alloc _) (by omega) h1).mono ?_
  rintro e w1 ⟨rfl, hbl1⟩
  go_wp2_with fail
  refine (bitLength_any A n c _ _ ((H3.out.alloc _).below hbl1) (by omega)).mono ?_
  rintro e w2 ⟨rfl, rfl⟩
  go_wp2
  go_ret
  exact ⟨rfl, below_new hbl1⟩

/-- The sign of a number. -/
def sg (z : Int) : Int := if z < 0 then -1 else if z = 0 then 0 else 1
theorem Wd.pos_iff {w : World} {A : Option Addr} {n : Nat} {z : Int} (h : Wd w A n (mag z.natAbs)) : n = 0 ↔ z = 0 := by
  rw [← h.len, mag_length_zero]; omega

set_option maxHeartbeats 1000000 in
theorem sign_any (va : Value) (a : Int) (w : World) (ha : Iv w va a) (sa : Sz a 1000000) : Calls Try.prog 43 #[va] w (RetV (.int .i64 (sg a)) w) := by
  obtain ⟨A, n, c, rfl, h1, h2, h3⟩ := ha.form
  have H3 := Lib.hid h3
  have hn : n ≤ 1000000 := by rw [← h3.len]; exact sa.len
  have hz := h3.pos_iff
  clear h3 sa ha
  by_cases h0 : n = 0
  · have ha0 := hz.1 h0
    have hs : Hid (sg a = 0) := by rw [ha0]; rfl
    subst h0
    clear ha0 hz
    go_enter Try.func43, Try.ntmps43
    go_wp2_with fail
    refine (words_int _ A 0 c _ _ (H3.out.alloc _) (by omega) h1).mono ?_
    rintro e w1 ⟨rfl, hbl1⟩
    go_wp2
    go_ret
    exact ⟨by rw [hs.out]; rfl, below_new hbl1⟩
  · have hne : ¬ a = 0 := fun e => h0 (hz.2 e)
    have ht : ((n : Int) == 0) = false := by simp; omega
    clear hz
    by_cases hneg : a < 0
    · have hs : Hid (sg a = -1) := by unfold sg Hid; rw [if_pos hneg]
      rw [decide_eq_true hneg]
      clear hneg hne h0
      go_enter Try.func43, Try.ntmps43
      go_wp2_with fail
      refine (words_int _ A n c _ _ (H3.out.alloc _) (by omega) h1).mono ?_
      rintro e w1 ⟨rfl, hbl1⟩
      have hb := (Box.new w true (.slice A n c)).below hbl1 (by simp)
      have q0 := hb.cell0
      clear hb
      go_wp2
      go_ret
      exact ⟨by rw [hs.out]; rfl, below_new hbl1⟩
    · have hs : Hid (sg a = 1) := by unfold sg Hid; rw [if_neg hneg, if_neg hne]
      rw [decide_eq_false hneg]
      clear hneg hne h0
      go_enter Try.func43, Try.ntmps43
      go_wp2_with fail
      refine (words_int _ A n c _ _ (H3.out.alloc _) (by omega) h1).mono ?_
      rintro e w1 ⟨rfl, hbl1⟩
      have hb := (Box.new w false (.slice A n c)).below hbl1 (by simp)
      have q0 := hb.cell0
      clear hb
      go_wp2
      go_ret
      exact ⟨by rw [hs.out]; rfl, below_new hbl1⟩

/-- How two integers compare. -/
def cmpZ (a b : Int) : Int := if a < b then -1 else if b < a then 1 else 0
theorem sg_cases (a : Int) : (a < 0 ∧ sg a = -1) ∨ (a = 0 ∧ sg a = 0) ∨ (0 < a ∧ sg a = 1) := by
  unfold sg
  rcases Int.lt_trichotomy a 0 with h | h | h
  · left; exact ⟨h, by rw [if_pos h]⟩
  · right; left; exact ⟨h, by rw [if_neg (by omega), if_pos h]⟩
  · right; right; exact ⟨h, by rw [if_neg (by omega), if_neg (by omega)]⟩
theorem cmpZ_lt {a b : Int} (h : a < b) : cmpZ a b = -1 := by unfold cmpZ; rw [if_pos h]
theorem cmpZ_gt {a b : Int} (h : b < a) : cmpZ a b = 1 := by unfold cmpZ; rw [if_neg (by omega), if_pos h]
theorem cmpZ_eq {a b : Int} (h : a = b) : cmpZ a b = 0 := by unfold cmpZ; rw [if_neg (by omega), if_neg (by omega)]
theorem cmpZ_same {a b : Int} (h : sg a = sg b) : cmpZ a b = sg a * cmpN a.natAbs b.natAbs := by
  rcases sg_cases a with ⟨h1, e1⟩ | ⟨h1, e1⟩ | ⟨h1, e1⟩ <;> rcases sg_cases b with ⟨h2, e2⟩ | ⟨h2, e2⟩ | ⟨h2, e2⟩ <;> rw [e1, e2] at h <;> (try (exfalso; omega)) <;> rw [e1]
  · rcases Int.lt_trichotomy a b with h3 | h3 | h3
    · rw [cmpZ_lt h3, cmpN_gt (by omega)]; rfl
    · rw [cmpZ_eq h3, cmpN_eq (by omega)]; rfl
    · rw [cmpZ_gt h3, cmpN_lt (by omega)]; rfl
  · rw [cmpZ_eq (by omega)]; omega
  · rcases Int.lt_trichotomy a b with h3 | h3 | h3
    · rw [cmpZ_lt h3, cmpN_lt (by omega)]; rfl
    · rw [cmpZ_eq h3, cmpN_eq (by omega)]; rfl
    · rw [cmpZ_gt h3, cmpN_gt (by omega)]; rfl
theorem cmpZ_diff_lt {a b : Int} (h : sg a < sg b) : cmpZ a b = -1 := by
  refine cmpZ_lt ?_
  rcases sg_cases a with ⟨h1, e1⟩ | ⟨h1, e1⟩ | ⟨h1, e1⟩ <;> rcases sg_cases b with ⟨h2, e2⟩ | ⟨h2, e2⟩ | ⟨h2, e2⟩ <;> rw [e1, e2] at h <;> omega
theorem cmpZ_diff_gt {a b : Int} (h : sg b < sg a) : cmpZ a b = 1 := by
  refine cmpZ_gt ?_
  rcases sg_cases a with ⟨h1, e1⟩ | ⟨h1, e1⟩ | ⟨h1, e1⟩ <;> rcases sg_cases b with ⟨h2, e2⟩ | ⟨h2, e2⟩ | ⟨h2, e2⟩ <;> rw [e1, e2] at h <;> omega

set_option maxHeartbeats 2000000 in
theorem cmp_any (va vb : Value) (a b : Int) (w : World) (ha : Iv w va a) (hb : Iv w vb b) (sa : Sz a 1000000) (sb : Sz b 1000000) : Calls Try.prog 28 #[va, vb] w (RetV (.int .i64 (cmpZ a b)) w) := by
  obtain ⟨A, n, c, rfl, h1, h2, h3⟩ := ha.form
  obtain ⟨B, m, d, rfl, k1, k2, k3⟩ := hb.form
  have HA := Lib.hid h3
  have HB := Lib.hid k3
  have HIA := Lib.hid ha
  have HIB := Lib.hid hb
  have hn : n ≤ 1000000 := by rw [← h3.len]; exact sa.len
  have hm : m ≤ 1000000 := by rw [← k3.len]; exact sb.len
  have SA := Lib.hid sa
  have SB := Lib.hid sb
  have hsame : Hid (sg a = sg b → cmpZ a b = sg a * cmpN a.natAbs b.natAbs) := cmpZ_same
  have hd1 : Hid (sg a < sg b → cmpZ a b = -1) := cmpZ_diff_lt
  have hd2 : Hid (sg b < sg a → cmpZ a b = 1) := cmpZ_diff_gt
  have ra : -1 ≤ sg a ∧ sg a ≤ 1 := by rcases sg_cases a with ⟨_, e⟩ | ⟨_, e⟩ | ⟨_, e⟩ <;> omega
  have rb : -1 ≤ sg b ∧ sg b ≤ 1 := by rcases sg_cases b with ⟨_, e⟩ | ⟨_, e⟩ | ⟨_, e⟩ <;> omega
  obtain ⟨ra1, ra2⟩ := ra
  obtain ⟨rb1, rb2⟩ := rb
  clear h3 k3 sa sb ha hb
  generalize hsa : decide (a < 0) = na at *
  generalize hsb : decide (b < 0) = nb at *
  clear hsa hsb
  generalize hqa : sg a = qa at *
  generalize hqb : sg b = qb at *
  have HQA := Lib.hid hqa
  have HQB := Lib.hid hqb
  clear hqa hqb
  go_enter Try.func28, Try.ntmps28
  go_wp2
  obtain ⟨W, hW⟩ : ∃ W, W = (w.alloc (Obj.cells #[Value.bool na, Value.slice A n c] 27)).alloc (Obj.cells #[Value.bool nb, Value.slice B m d] 27) := ⟨_, rfl⟩
  rw [← hW]
  have b0 : Box W w.heap.size na (.slice A n c) := by rw [hW]; exact (Box.new w _ _).alloc _
  have b1 : Box W (w.heap.size + 1) nb (.slice B m d) := by rw [hW]; have := Box.new (w.alloc (Obj.cells #[Value.bool na, Value.slice A n c] 27)) nb (.slice B m d); simpa using this
  have a1 : Iv W (.agg #[.bool na, .slice A n c]) a := by rw [hW]; exact (HIA.out.alloc _).alloc _
  have a2 : Iv W (.agg #[.bool nb, .slice B m d]) b := by rw [hW]; exact (HIB.out.alloc _).alloc _
  have w1 : Wd W A n (mag a.natAbs) := by rw [hW]; exact (HA.out.alloc _).alloc _
  have w2 : Wd W B m (mag b.natAbs) := by rw [hW]; exact (HB.out.alloc _).alloc _
  have hbW : Below w.heap.size w W := by rw [hW]; exact ((Below.refl _ _).alloc (Nat.le_refl _) _).alloc (by simp) _
  have c0 := b0.cell0
  have c1 := b0.cell1
  have c2 := b1.cell0
  have c3 := b1.cell1
  have B0 := Lib.hid b0
  have B1 := Lib.hid b1
  have A1 := Lib.hid a1
  have A2 := Lib.hid a2
  have W1 := Lib.hid w1
  have W2 := Lib.hid w2
  clear hW b0 b1 a1 a2 w1 w2
  have hgW := hbW.size
  generalize hg0 : w.heap.size = g at *
  go_region_held3 (fun w' => w'.cell? ⟨g, 0, none⟩ = some (.bool na) ∧ w'.cell? ⟨g, 1, none⟩ = some (.slice A n c) ∧ w'.cell? ⟨g + 1, 0, none⟩ = some (.bool nb) ∧ w'.cell? ⟨g + 1, 1, none⟩ = some (.slice B m d)) (go_keep)
    (first
      | (go_at_call_of 43 (Value.slice A n c); refine (sign_any _ a _ (by exact A1.out) SA.out).mono ?_; rintro e wa ⟨rfl, hbla⟩
         have ka0 := (by exact B0.out.next hbla rfl : Box wa g na (.slice A n c))
         have ka1 := (by exact B1.out.next hbla rfl : Box wa (g + 1) nb (.slice B m d))
         have p0 := ka0.cell0; have p1 := ka0.cell1; have p2 := ka1.cell0; have p3 := ka1.cell1
         have KA0 := Lib.hid ka0; have KA1 := Lib.hid ka1; clear ka0 ka1)
      | (go_at_call_of 43 (Value.slice B m d); refine (sign_any _ b _ (by exact iv_next A2.out hbla rfl) SB.out).mono ?_; rintro e wb ⟨rfl, hblb⟩
         have kb0 := (by exact KA0.out.next hblb rfl : Box wb g na (.slice A n c))
         have kb1 := (by exact KA1.out.next hblb rfl : Box wb (g + 1) nb (.slice B m d))
         have hbwb := (by exact link_below (link_below hbW hbla hgW rfl rfl rfl rfl) hblb (Nat.le_trans hgW hbla.size) rfl rfl rfl rfl : Below g w wb)
         have q0 := kb0.cell0; have q1 := kb0.cell1; have q2 := kb1.cell0; have q3 := kb1.cell1
         have w1b := (by exact (W1.out.next hbla rfl).next hblb rfl : Wd wb A n (mag a.natAbs))
         have w2b := (by exact (W2.out.next hbla rfl).next hblb rfl : Wd wb B m (mag b.natAbs))
         have KB0 := Lib.hid kb0; have KB1 := Lib.hid kb1; have W1B := Lib.hid w1b; have W2B := Lib.hid w2b; clear kb0 kb1 w1b w2b))
  rw [HQA.out, HQB.out]
  by_cases hq : qa = qb
  · have hres := hsame.out hq
    subst hq
    have ht : (qa != qa) = false := by simp
    have cr := cmpN_range a.natAbs b.natAbs
    generalize hcc : cmpN a.natAbs b.natAbs = cc at *
    have HCC := Lib.hid hcc
    have HRES := Lib.hid hres
    have cc1 : -1 ≤ cc ∧ cc ≤ 1 := by omega
    have pr : -1 ≤ qa * cc ∧ qa * cc ≤ 1 := by
      rcases (show qa = -1 ∨ qa = 0 ∨ qa = 1 by omega) with e | e | e <;> rw [e] <;> omega
    obtain ⟨pr1, pr2⟩ := pr
    have hgb := hbwb.size
    rw [hg0] at hgb
    clear hcc hres cr
    go_wp2
    go_region_held3 (fun w' => w'.cell? ⟨g, 0, none⟩ = some (.bool na) ∧ w'.cell? ⟨g, 1, none⟩ = some (.slice A n c) ∧ w'.cell? ⟨g + 1, 0, none⟩ = some (.bool nb) ∧ w'.cell? ⟨g + 1, 1, none⟩ = some (.slice B m d)) (go_keep)
      (first
        | (go_at_call_of 94 (Value.slice A n c); refine (words_int na A n c a.natAbs _ (by exact W1B.out) (by omega) h1).mono ?_; rintro e wc ⟨rfl, hblc⟩
           have ka0 := (by exact KB0.out.next hblc rfl : Box wc g na (.slice A n c))
           have ka1 := (by exact KB1.out.next hblc rfl : Box wc (g + 1) nb (.slice B m d))
           have r0 := ka0.cell0; have r1 := ka0.cell1; have r2 := ka1.cell0; have r3 := ka1.cell1
           have KC0 := Lib.hid ka0; have KC1 := Lib.hid ka1; clear ka0 ka1)
        | (go_at_call_of 94 (Value.slice B m d); refine (words_int nb B m d b.natAbs _ (by exact W2B.out.next hblc rfl) (by omega) k1).mono ?_; rintro e wd ⟨rfl, hbld⟩
           have ka0 := (by exact KC0.out.next hbld rfl : Box wd g na (.slice A n c))
           have ka1 := (by exact KC1.out.next hbld rfl : Box wd (g + 1) nb (.slice B m d))
           have t0 := ka0.cell0; have t1 := ka0.cell1; have t2 := ka1.cell0; have t3 := ka1.cell1
           clear ka0 ka1)
        | (go_at_call 109; refine (compare_any A B n m c d a.natAbs b.natAbs _ (by exact (W1B.out.next hblc rfl).next hbld rfl) (by exact (W2B.out.next hblc rfl).next hbld rfl) (by omega) (by omega)).mono ?_; rintro e we ⟨rfl, q, rfl⟩; rw [HCC.out]))
    go_wp2
    go_ret
    refine ⟨ret_int (by rw [HRES.out]; exact IntWalk.i64_in _ (by omega)), ?_⟩
    rw [hg0]
    exact below_drewN (by exact link_below (link_below hbwb hblc hgb rfl rfl rfl rfl) hbld (Nat.le_trans hgb hblc.size) rfl rfl rfl rfl) _
  · have hres : Hid (cmpZ a b = if qa < qb then -1 else 1) := by
      unfold Hid
      split
      · rename_i h; exact hd1.out h
      · exact hd2.out (by omega)
    have ha3 : qa = -1 ∨ qa = 0 ∨ qa = 1 := by omega
    have hb3 : qb = -1 ∨ qb = 0 ∨ qb = 1 := by omega
    clear hsame hd1 hd2 ra1 ra2 rb1 rb2 SA SB
    rcases ha3 with rfl | rfl | rfl <;> rcases hb3 with rfl | rfl | rfl
    all_goals first
      | exact absurd rfl hq
      | (clear hq
         go_wp2
         go_ret
         exact ⟨ret_int (by rw [hres.out]; rfl), by rw [hg0]; exact hbwb⟩)
end Go.Proofs.Ytfigimfdojbkeaa
end
