/-
  Bezout: frames that keep every number's cell; the last world.
-/
import Derived.Test.YtpklphdhigkmmaaBezB
import Derived.Test.YtpklphdhigkmmaaBezM
import Derived.Deep.DeepCutAuto
import Derived.Handy
namespace Go.Proofs.Ytpklphdhigkmmaa
open Go.RowKit
attribute [local go_sem ↓] Go.wp_at_zero Go.wp_at_succ

structure BezInv (a b : Int) (w : World) (g G7 G11 G13 : Nat) (k : Nat) (wr : World) (r0 u0 u1 : Int) : Prop where
  i8 : IB wr (G7 + 1) r0
  i9 : IB wr (G7 + 1 + 1) u0
  i11 : IB wr G11 (k : Int)
  i13 : IB wr G13 u1
  i0 : IB wr g a
  i1 : IB wr (g + 1) b
  i7 : IB wr G7 (b.natAbs : Int)
  b2 : Box wr (g + 1 + 1) false (.slice none 0 0)
  b3 : Box wr (g + 1 + 1 + 1) false (.slice none 0 0)
  b4 : Box wr (g + 1 + 1 + 1 + 1) false (.slice none 0 0)
  bl : Below g w wr
  rel : BezRel a (b.natAbs : Int) r0 (k : Int) u0 u1

/-- Every cell of w that holds a number holds it in w' too. -/
structure Kw (w w' : World) : Prop where
  size : w.heap.size ≤ w'.heap.size
  cell : ∀ a k y, w.cell? a = some (.int k y) → w'.cell? a = some (.int k y)
theorem Kw.refl (w : World) : Kw w w := ⟨Nat.le_refl _, fun _ _ _ h => h⟩
theorem Kw.alloc {w w' : World} (h : Kw w w') (o : Obj) : Kw w (w'.alloc o) :=
  ⟨by have := h.size; simp; omega, fun a k y e => by rw [World.cell?_alloc_some _ _ _ (by rw [h.cell a k y e]; rfl)]; exact h.cell a k y e⟩
theorem Kw.old {w w' : World} {g i : Nat} {b : Bool} {X : Option Addr} {p q : Nat} (h : Kw w w') (hb : Box w g b (.slice X p q)) (hi : i < 2) (u : Value) : Kw w (w'.setCell ⟨g, i, none⟩ u) :=
  ⟨by have := h.size; simpa [World.setCell] using this, fun a k y e => by
    rw [World.cell?_setCell_other w' ⟨g, i, none⟩ a u ?_]
    · exact h.cell a k y e
    · intro e2
      rw [← e2] at e
      rcases (show i = 0 ∨ i = 1 by omega) with rfl | rfl
      · rw [hb.cell0] at e; cases e
      · rw [hb.cell1] at e; cases e⟩
theorem Kw.far {w w' : World} {p : Addr} (h : Kw w w') (hp : w.heap.size ≤ p.block) (u : Value) : Kw w (w'.setCell p u) :=
  ⟨by have := h.size; simpa [World.setCell] using this, fun a k y e => by
    have := World.block_lt_of_cell? w a e
    rw [World.cell?_setCell_far w' p a u (by omega)]
    exact h.cell a k y e⟩
theorem Wd.kw {w w' : World} {A : Option Addr} {n : Nat} {ws : List Nat} (h : Wd w A n ws) (hk : Kw w w') : Wd w' A n ws := by
  refine ⟨h.1, h.2.1, fun hn => ?_⟩
  obtain ⟨ad, e, hlt, hc⟩ := h.2.2 hn
  exact ⟨ad, e, Nat.lt_of_lt_of_le hlt hk.size, fun k hk' => hk.cell _ _ _ (hc k hk')⟩
theorem Iv.kw {w w' : World} {v : Value} {z : Int} (h : Iv w v z) (hk : Kw w w') : Iv w' v z := by
  obtain ⟨A, n, c, rfl, h1, h2, h3⟩ := h.form
  exact Iv.made h1 h2 (h3.kw hk)

theorem bez_post {w wc : World} {a b r0 u v : Int} {g n1 c1 n2 c2 n3 c3 : Nat} {s1 s2 s3 : Bool} {A1 A2 A3 : Option Addr} (z2 : Box wc (g + 1 + 1) false (.slice none 0 0)) (z3 : Box wc (g + 1 + 1 + 1) false (.slice none 0 0)) (z4 : Box wc (g + 1 + 1 + 1 + 1) false (.slice none 0 0))
    (h1 : Iv wc (.agg #[.bool s1, .slice A1 n1 c1]) r0) (h2 : Iv wc (.agg #[.bool s2, .slice A2 n2 c2]) u) (h3 : Iv wc (.agg #[.bool s3, .slice A3 n3 c3]) v) (hb : Below g w wc) (hg : w.heap.size = g) (hd : BezDone a b u v) (hgcd : r0 = (Int.gcd a b : Int)) :
    ∃ u v, BezDone a b u v ∧ RetBez (Int.gcd a b : Int) u v w (.returned (.tuple #[.agg #[.bool s1, .slice A1 n1 c1], .agg #[.bool s2, .slice A2 n2 c2], .agg #[.bool s3, .slice A3 n3 c3]])) ((((((wc.setCell ⟨g + 1 + 1, 0, none⟩ (.bool s1)).setCell ⟨g + 1 + 1, 1, none⟩ (.slice A1 n1 c1)).setCell ⟨g + 1 + 1 + 1, 0, none⟩ (.bool s2)).setCell ⟨g + 1 + 1 + 1, 1, none⟩ (.slice A2 n2 c2)).setCell ⟨g + 1 + 1 + 1 + 1, 0, none⟩ (.bool s3)).setCell ⟨g + 1 + 1 + 1 + 1, 1, none⟩ (.slice A3 n3 c3)).drew := by
  have e1 := (Kw.refl wc).old (i := 0) z2 (by omega) (.bool s1)
  have e2 := e1.old (i := 1) z2 (by omega) (.slice A1 n1 c1)
  have e3 := e2.old (i := 0) z3 (by omega) (.bool s2)
  have e4 := e3.old (i := 1) z3 (by omega) (.slice A2 n2 c2)
  have e5 := e4.old (i := 0) z4 (by omega) (.bool s3)
  have e6 := e5.old (i := 1) z4 (by omega) (.slice A3 n3 c3)
  have k1 := (h1.kw e6).drew
  have k2 := (h2.kw e6).drew
  have k3 := (h3.kw e6).drew
  rw [hgcd] at k1
  have kb := ((((((hb.setCell (p := ⟨g + 1 + 1, 0, none⟩) (by simp; omega) (.bool s1)).setCell (p := ⟨g + 1 + 1, 1, none⟩) (by simp; omega) (.slice A1 n1 c1)).setCell (p := ⟨g + 1 + 1 + 1, 0, none⟩) (by simp; omega) (.bool s2)).setCell (p := ⟨g + 1 + 1 + 1, 1, none⟩) (by simp; omega) (.slice A2 n2 c2)).setCell (p := ⟨g + 1 + 1 + 1 + 1, 0, none⟩) (by simp; omega) (.bool s3)).setCell (p := ⟨g + 1 + 1 + 1 + 1, 1, none⟩) (by simp; omega) (.slice A3 n3 c3)).drew
  exact ⟨u, v, hd, _, _, _, rfl, k1, k2, k3, kb.mono (Nat.le_of_eq hg)⟩
theorem bez_cells {wc : World} {g n1 c1 n2 c2 n3 c3 : Nat} {s1 s2 s3 : Bool} {A1 A2 A3 : Option Addr} (z2 : Box wc (g + 1 + 1) false (.slice none 0 0)) (z3 : Box wc (g + 1 + 1 + 1) false (.slice none 0 0)) (z4 : Box wc (g + 1 + 1 + 1 + 1) false (.slice none 0 0)) :
    ∀ W', W' = ((((((wc.setCell ⟨g + 1 + 1, 0, none⟩ (.bool s1)).setCell ⟨g + 1 + 1, 1, none⟩ (.slice A1 n1 c1)).setCell ⟨g + 1 + 1 + 1, 0, none⟩ (.bool s2)).setCell ⟨g + 1 + 1 + 1, 1, none⟩ (.slice A2 n2 c2)).setCell ⟨g + 1 + 1 + 1 + 1, 0, none⟩ (.bool s3)).setCell ⟨g + 1 + 1 + 1 + 1, 1, none⟩ (.slice A3 n3 c3)).drew → W'.cell? ⟨g + 1 + 1, 0, none⟩ = some (.bool s1) ∧ W'.cell? ⟨g + 1 + 1, 1, none⟩ = some (.slice A1 n1 c1) ∧ W'.cell? ⟨g + 1 + 1 + 1, 0, none⟩ = some (.bool s2) ∧ W'.cell? ⟨g + 1 + 1 + 1, 1, none⟩ = some (.slice A2 n2 c2) ∧ W'.cell? ⟨g + 1 + 1 + 1 + 1, 0, none⟩ = some (.bool s3) ∧ W'.cell? ⟨g + 1 + 1 + 1 + 1, 1, none⟩ = some (.slice A3 n3 c3) := by
  rintro _ rfl
  have ze0 := z2.cell0; have ze1 := z2.cell1; have ze2 := z3.cell0; have ze3 := z3.cell1; have ze4 := z4.cell0; have ze5 := z4.cell1
  simp [go_sem, ze0, ze1, ze2, ze3, ze4, ze5]

theorem new_one {W w' : World} {b : Bool} {A : Option Addr} {n c : Nat} (hb : Below (W.alloc (Obj.cells #[Value.bool b, Value.slice A n c] 27)).heap.size (W.alloc (Obj.cells #[Value.bool b, Value.slice A n c] 27)) w') : Box w' W.heap.size b (.slice A n c) :=
  (Box.new W _ _).next hb rfl
theorem new_two {W w' : World} {b : Bool} {A : Option Addr} {n c : Nat} {o : Obj} (hb : Below ((W.alloc (Obj.cells #[Value.bool b, Value.slice A n c] 27)).alloc o).heap.size ((W.alloc (Obj.cells #[Value.bool b, Value.slice A n c] 27)).alloc o) w') : Box w' W.heap.size b (.slice A n c) :=
  ((Box.new W _ _).alloc _).next hb rfl
theorem new_sec {W w' : World} {b : Bool} {A : Option Addr} {n c : Nat} {o : Obj} (hb : Below ((W.alloc o).alloc (Obj.cells #[Value.bool b, Value.slice A n c] 27)).heap.size ((W.alloc o).alloc (Obj.cells #[Value.bool b, Value.slice A n c] 27)) w') : Box w' (W.heap.size + 1) b (.slice A n c) := by
  have h := (Box.new (W.alloc o) b (.slice A n c)).next hb rfl
  simpa using h

theorem new_one_d {W w' : World} {b : Bool} {A : Option Addr} {n c : Nat} (hb : Below (W.alloc (Obj.cells #[Value.bool b, Value.slice A n c] 27)).drew.heap.size (W.alloc (Obj.cells #[Value.bool b, Value.slice A n c] 27)).drew w') : Box w' W.heap.size b (.slice A n c) :=
  (Box.new W _ _).next hb rfl
theorem new_two_d {W w' : World} {b : Bool} {A : Option Addr} {n c : Nat} {o : Obj} (hb : Below ((W.alloc (Obj.cells #[Value.bool b, Value.slice A n c] 27)).alloc o).drew.heap.size ((W.alloc (Obj.cells #[Value.bool b, Value.slice A n c] 27)).alloc o).drew w') : Box w' W.heap.size b (.slice A n c) :=
  ((Box.new W _ _).alloc _).next hb rfl
theorem new_sec_d {W w' : World} {b : Bool} {A : Option Addr} {n c : Nat} {o : Obj} (hb : Below ((W.alloc o).alloc (Obj.cells #[Value.bool b, Value.slice A n c] 27)).drew.heap.size ((W.alloc o).alloc (Obj.cells #[Value.bool b, Value.slice A n c] 27)).drew w') : Box w' (W.heap.size + 1) b (.slice A n c) := by
  have h := (Box.new (W.alloc o) b (.slice A n c)).next hb rfl
  simpa using h

theorem sz_of_le {z M : Int} {N : Nat} (h : Sz M N) (hz : z.natAbs ≤ M.natAbs) : Sz z N := ⟨Nat.lt_of_le_of_lt hz h.lt⟩

end Go.Proofs.Ytpklphdhigkmmaa
