/-
  What memory holds: words that can be read, blocks of words that are known whole, integers. No function of the program is named here.
-/
import Derived.Below
import Derived.Laws.OwnMore
import Derived.Deep.Draws
import Derived.Laws.Rows
import Derived.Lib.Hide
import Derived.Test.YtfigimfdojbkeaaMath
set_option linter.unusedSimpArgs false
set_option linter.unusedVariables false
namespace Go.Proofs.Ytfigimfdojbkeaa
open Go.RowKit

/-- The slice with the address A and the length n reads as the words ws. -/
def Wd (w : World) (A : Option Addr) (n : Nat) (ws : List Nat) : Prop :=
  ws.length = n ∧ Wds ws ∧ (0 < n → ∃ ad, A = some ad ∧ ad.block < w.heap.size ∧ ∀ k, k < n → w.cell? (ad.add k) = some (.int .u32 (gd ws k : Nat)))

theorem Wd.len {w : World} {A : Option Addr} {n : Nat} {ws : List Nat} (h : Wd w A n ws) : ws.length = n := h.1
theorem Wd.wds {w : World} {A : Option Addr} {n : Nat} {ws : List Nat} (h : Wd w A n ws) : Wds ws := h.2.1
theorem Wd.nil (w : World) (A : Option Addr) : Wd w A 0 [] := ⟨rfl, Wds.nil, fun h => absurd h (by omega)⟩
theorem Wd.empty {w : World} {A : Option Addr} {n : Nat} {ws : List Nat} (h : Wd w A n ws) (h0 : n = 0) : ws = [] := List.eq_nil_of_length_eq_zero (h.1.trans h0)
theorem Wd.cell {w : World} {A : Option Addr} {n : Nat} {ws : List Nat} (h : Wd w A n ws) {k : Nat} (hk : k < n) :
    ∃ ad, A = some ad ∧ ad.block < w.heap.size ∧ w.cell? (ad.add k) = some (.int .u32 (gd ws k : Nat)) := by
  obtain ⟨ad, e, hb, hc⟩ := h.2.2 (by omega)
  exact ⟨ad, e, hb, hc k hk⟩

theorem block_add (a : Addr) (n : Nat) : (a.add n).block = a.block := by unfold Addr.add; split <;> rfl
theorem add_add (a : Addr) (i j : Nat) : (a.add i).add j = a.add (i + j) := by
  unfold Addr.add
  by_cases hi : i = 0 <;> by_cases hj : j = 0 <;> simp [hi, hj, Nat.add_assoc]

theorem add_none (b o k : Nat) : (Addr.add ⟨b, o, none⟩ k) = ⟨b, o + k, none⟩ := by unfold Addr.add; split <;> simp_all
theorem Wd.cells {w : World} {A : Option Addr} {n : Nat} {ws : List Nat} (h : Wd w A n ws) (hn : 0 < n) :
    ∃ b o, A = some ⟨b, o, none⟩ ∧ b < w.heap.size ∧ ∀ k, k < n → w.cell? ⟨b, o + k, none⟩ = some (.int .u32 (gd ws k : Nat)) := by
  obtain ⟨ad, e, hb, hc⟩ := h.2.2 hn
  obtain ⟨b, o, sp⟩ := ad
  have h0 := hc 0 hn
  have hsp : sp = none := by
    cases sp with
    | none => rfl
    | some x =>
      exfalso
      simp only [Addr.add, if_true, World.cell?] at h0
      split at h0 <;> simp at h0
  subst hsp
  refine ⟨b, o, e, hb, fun k hk => ?_⟩
  rw [← add_none]
  exact hc k hk

theorem Wd.keep {w w' : World} {A : Option Addr} {n : Nat} {ws : List Nat} (h : Wd w A n ws) (hs : w.heap.size ≤ w'.heap.size)
    (hk : ∀ ad : Addr, A = some ad → ∀ k, w'.cell? (ad.add k) = w.cell? (ad.add k)) : Wd w' A n ws :=
  ⟨h.1, h.2.1, fun hn => by
    obtain ⟨ad, e, hb, hc⟩ := h.2.2 hn
    exact ⟨ad, e, Nat.lt_of_lt_of_le hb hs, fun k hkn => (hk ad e k).trans (hc k hkn)⟩⟩
theorem Wd.below {w w' : World} {A : Option Addr} {n : Nat} {ws : List Nat} (h : Wd w A n ws) (hb : Below w.heap.size w w') : Wd w' A n ws :=
  ⟨h.1, h.2.1, fun hn => by
    obtain ⟨ad, e, hlt, hc⟩ := h.2.2 hn
    exact ⟨ad, e, Nat.lt_of_lt_of_le hlt hb.size, fun k hkn => (hb.cell (by rw [block_add]; exact hlt)).trans (hc k hkn)⟩⟩
theorem Wd.drew {w : World} {A : Option Addr} {n : Nat} {ws : List Nat} (h : Wd w A n ws) : Wd w.drew A n ws := h
theorem Wd.drewN {w : World} {A : Option Addr} {n : Nat} {ws : List Nat} (h : Wd w A n ws) (k : Nat) : Wd (w.drewN k) A n ws := h
theorem Wd.alloc {w : World} {A : Option Addr} {n : Nat} {ws : List Nat} (h : Wd w A n ws) (o : Obj) : Wd (w.alloc o) A n ws :=
  h.below ((Below.refl _ _).alloc (Nat.le_refl _) o)
/-- A shorter part from the start. -/
theorem Wd.take {w : World} {A : Option Addr} {n : Nat} {ws : List Nat} (h : Wd w A n ws) {m : Nat} (hm : m ≤ n) : Wd w A m (ws.take m) := by
  refine ⟨by rw [List.length_take, h.1]; omega, h.2.1.take m, fun h0 => ?_⟩
  obtain ⟨ad, e, hb, hc⟩ := h.2.2 (by omega)
  refine ⟨ad, e, hb, fun k hk => ?_⟩
  rw [hc k (by omega), gd_eq, gd_eq, List.getElem?_take_of_lt hk]
/-- A part from k on. -/
theorem Wd.cut {w : World} {A : Option Addr} {n : Nat} {ws : List Nat} (h : Wd w A n ws) {k cap : Nat} (hk : k ≤ n) (hc : n ≤ cap) :
    Wd w (if cap = k then A else A.map (·.add k)) (n - k) (ws.drop k) := by
  refine ⟨by rw [List.length_drop, h.1], h.2.1.drop k, fun h0 => ?_⟩
  obtain ⟨ad, rfl, hb, hcell⟩ := h.2.2 (by omega)
  rw [if_neg (by omega)]
  refine ⟨ad.add k, rfl, by rw [block_add]; exact hb, fun j hj => ?_⟩
  rw [add_add, hcell _ (by omega), gd_eq, gd_eq, List.getElem?_drop]

/-- A word's cell. -/
def cv (x : Nat) : Value := .int .u32 (x : Nat)

/-- Block g is just the words ws, and may be written. -/
def Blk (w : World) (g : Nat) (ws : List Nat) : Prop := w.heap[g]? = some (.cells (ws.map cv).toArray 43 (0, 0)) ∧ Wds ws

theorem Blk.lt {w : World} {g : Nat} {ws : List Nat} (h : Blk w g ws) : g < w.heap.size := by
  rcases Nat.lt_or_ge g w.heap.size with hlt | hge
  · exact hlt
  · have h := h.1; rw [Array.getElem?_eq_none hge] at h; cases h
theorem Blk.cell {w : World} {g : Nat} {ws : List Nat} (h : Blk w g ws) {i : Nat} (hi : i < ws.length) : w.cell? ⟨g, i, none⟩ = some (.int .u32 (gd ws i : Nat)) := by
  rw [cell_of_row w g i _ _ (0, 0) h.1, gd_eq]
  simp [hi, cv]
theorem Blk.frozen {w : World} {g : Nat} {ws : List Nat} (h : Blk w g ws) (i : Nat) : w.frozen? ⟨g, i, none⟩ = false := by
  have h := h.1
  simp [World.frozen?, h]
theorem Blk.drew {w : World} {g : Nat} {ws : List Nat} (h : Blk w g ws) : Blk w.drew g ws := h
theorem Blk.drewN {w : World} {g : Nat} {ws : List Nat} (h : Blk w g ws) (n : Nat) : Blk (w.drewN n) g ws := h
theorem Blk.alloc {w : World} {g : Nat} {ws : List Nat} (h : Blk w g ws) (o : Obj) : Blk (w.alloc o) g ws := ⟨(Below.heap_alloc w o g h.lt).trans h.1, h.2⟩
theorem Blk.set_ {w : World} {g : Nat} {ws : List Nat} (h : Blk w g ws) (i x : Nat) (hx : x < 4294967296) : Blk (w.setCell ⟨g, i, none⟩ (.int .u32 (x : Nat))) g (ws.set i x) := by
  refine ⟨?_, h.2.set i x hx⟩
  have h := h.1
  have e : ((ws.set i x).map cv) = (ws.map cv).set i (cv x) := List.map_set
  simp [World.setCell, Array.getElem?_modify, h, e]
  rfl
theorem Blk.set_i {w : World} {g : Nat} {ws : List Nat} (h : Blk w g ws) (i x : Nat) {j : Int} (e : j = x) (hx : x < 4294967296) : Blk (w.setCell ⟨g, i, none⟩ (.int .u32 j)) g (ws.set i x) := by
  subst e
  exact h.set_ i x hx
theorem Blk.far {w : World} {g : Nat} {ws : List Nat} (h : Blk w g ws) {p : Addr} (hp : g ≠ p.block) (u : Value) : Blk (w.setCell p u) g ws := ⟨(Below.heap_setCell w p u g hp).trans h.1, h.2⟩
theorem Blk.below {w w' : World} {g B : Nat} {ws : List Nat} (h : Blk w g ws) (hb : Below B w w') (hg : g < B) : Blk w' g ws := ⟨(hb.block g hg).trans h.1, h.2⟩
theorem Blk.grown {w w' : World} {g : Nat} {row : Option Nat} {ws : List Nat} (h : Blk w g ws) (hb : w.grownBy w' row) (hg : some g ≠ row) : Blk w' g ws := ⟨(hb.block g h.lt hg).trans h.1, h.2⟩
theorem Blk.one {w : World} {a : Nat} {i : Int} (ha : a < 4294967296) (e : i = a) : Blk (w.alloc (.cells #[.int .u32 i] 43)) w.heap.size [a] := by
  subst e
  exact ⟨heap_alloc_new w _, Wds.cons ha Wds.nil⟩
theorem Blk.two {w : World} {a b : Nat} {i j : Int} (ha : a < 4294967296) (hb : b < 4294967296) (e : i = a) (e2 : j = b) : Blk (w.alloc (.cells #[.int .u32 i, .int .u32 j] 43)) w.heap.size [a, b] := by
  subst e e2
  exact ⟨heap_alloc_new w _, Wds.cons ha (Wds.cons hb Wds.nil)⟩
/-- A part of a block, as words that can be read. -/
theorem Blk.wd {w : World} {g : Nat} {ws : List Nat} (h : Blk w g ws) (o n : Nat) (hn : o + n ≤ ws.length) : Wd w (some ⟨g, o, none⟩) n ((ws.drop o).take n) := by
  refine ⟨by rw [List.length_take, List.length_drop]; omega, (h.2.drop o).take n, fun _ => ⟨_, rfl, h.lt, fun k hk => ?_⟩⟩
  have e : (Addr.add ⟨g, o, none⟩ k) = ⟨g, o + k, none⟩ := by unfold Addr.add; split <;> simp_all
  rw [e, h.cell (by omega), gd_eq, gd_eq, List.getElem?_take_of_lt hk, List.getElem?_drop]
theorem Blk.whole {w : World} {g : Nat} {ws : List Nat} (h : Blk w g ws) : Wd w (some ⟨g, 0, none⟩) ws.length ws := by
  have := h.wd 0 ws.length (by omega)
  simpa using this
theorem Blk.front {w : World} {g : Nat} {ws : List Nat} (h : Blk w g ws) {n : Nat} (hn : n ≤ ws.length) : Wd w (some ⟨g, 0, none⟩) n (ws.take n) := h.whole.take hn

/-- Only block g, and what is new, has turned. -/
def Only (g : Nat) (w w' : World) : Prop := w.grownBy w' (some g)
theorem Only.refl (g : Nat) (w : World) : Only g w w := ⟨rfl, rfl, rfl, Nat.le_refl _, fun _ _ _ => rfl⟩
theorem Only.drew {g : Nat} {a w : World} (h : Only g a w) : Only g a w.drew := ⟨h.os, h.tape, h.output, h.size, h.block⟩
theorem Only.alloc {g : Nat} {a w : World} (h : Only g a w) (o : Obj) : Only g a (w.alloc o) :=
  ⟨h.os, h.tape, h.output, Nat.le_trans h.size (by simp), fun i hi hne => (Below.heap_alloc w o i (Nat.lt_of_lt_of_le hi h.size)).trans (h.block i hi hne)⟩
theorem Only.set_ {g : Nat} {a w : World} (h : Only g a w) (o : Nat) (u : Value) : Only g a (w.setCell ⟨g, o, none⟩ u) :=
  ⟨h.os, h.tape, h.output, by simpa [World.setCell] using h.size, fun i hi hne => (Below.heap_setCell w ⟨g, o, none⟩ u i (by
    rintro rfl
    exact hne rfl)).trans (h.block i hi hne)⟩
theorem Only.then {g : Nat} {a w w' : World} (h : Only g a w) (hb : Below w.heap.size w w') : Only g a w' :=
  ⟨hb.os.trans h.os, hb.tape.trans h.tape, hb.output.trans h.output, Nat.le_trans h.size hb.size, fun i hi hn => (hb.block i (Nat.lt_of_lt_of_le hi h.size)).trans (h.block i hi hn)⟩
theorem Only.trans {g : Nat} {a w w' : World} (h : Only g a w) (k : Only g w w') : Only g a w' :=
  ⟨k.os.trans h.os, k.tape.trans h.tape, k.output.trans h.output, Nat.le_trans h.size k.size, fun i hi hn => (k.block i (Nat.lt_of_lt_of_le hi h.size) hn).trans (h.block i hi hn)⟩
theorem Only.below {g B : Nat} {a w : World} (h : Only g a w) (hB : B ≤ g) (hs : B ≤ a.heap.size) : Below B a w :=
  ⟨h.os, h.tape, h.output, h.size, fun k hk => h.block k (by omega) (fun e => by injection e; omega)⟩
theorem Only.far {g g' : Nat} {a w : World} (h : Only g a w) (hne : g' ≠ g) {ws : List Nat} (hb : Blk a g' ws) : Blk w g' ws := hb.grown h (fun e => by injection e; omega)
theorem Wd.only {w w' : World} {A : Option Addr} {n g : Nat} {ws : List Nat} (h : Wd w A n ws) (ho : Only g w w') (hne : ∀ ad, A = some ad → 0 < n → ad.block ≠ g) : Wd w' A n ws :=
  ⟨h.1, h.2.1, fun hn => by
    obtain ⟨ad, e, hlt, hc⟩ := h.2.2 hn
    refine ⟨ad, e, Nat.lt_of_lt_of_le hlt ho.size, fun k hkn => ?_⟩
    rw [← hc k hkn]
    exact World.cell?_of_block (ho.block _ (by rw [block_add]; exact hlt) (by rw [block_add]; intro e'; injection e' with e'; exact hne ad e hn e'))⟩

/-- A slice value that reads as the words of x. -/
def Mg (w : World) (v : Value) (x : Nat) : Prop := ∃ A n c, v = .slice A n c ∧ n ≤ c ∧ c ≤ 9223372036854775807 ∧ Wd w A n (mag x)
theorem Wd.mg {w : World} {A : Option Addr} {n c m : Nat} {ws : List Nat} (h : Wd w A n ws) (hm : m ≤ ws.length) (hc : n ≤ c) (hb : c ≤ 9223372036854775807) (e : ws.take m = mag (val ws)) : Mg w (.slice A m c) (val ws) := by
  have hl := h.len
  refine ⟨A, m, c, rfl, by omega, hb, ?_⟩
  rw [← e]
  exact h.take (by omega)
theorem Mg.below {w w' : World} {v : Value} {x : Nat} (h : Mg w v x) (hb : Below w.heap.size w w') : Mg w' v x := by
  obtain ⟨A, n, c, e, h1, h2, h3⟩ := h
  exact ⟨A, n, c, e, h1, h2, h3.below hb⟩
theorem Mg.drew {w : World} {v : Value} {x : Nat} (h : Mg w v x) : Mg w.drew v x := h
theorem Mg.alloc {w : World} {v : Value} {x : Nat} (h : Mg w v x) (o : Obj) : Mg (w.alloc o) v x := h.below ((Below.refl _ _).alloc (Nat.le_refl _) o)

/-- A value that is the integer z. -/
def Iv (w : World) (v : Value) (z : Int) : Prop := ∃ m, v = .agg #[.bool (decide (z < 0)), m] ∧ Mg w m z.natAbs
theorem Iv.below {w w' : World} {v : Value} {z : Int} (h : Iv w v z) (hb : Below w.heap.size w w') : Iv w' v z := by
  obtain ⟨m, e, h1⟩ := h
  exact ⟨m, e, h1.below hb⟩
theorem Iv.drew {w : World} {v : Value} {z : Int} (h : Iv w v z) : Iv w.drew v z := h
theorem Iv.alloc {w : World} {v : Value} {z : Int} (h : Iv w v z) (o : Obj) : Iv (w.alloc o) v z := h.below ((Below.refl _ _).alloc (Nat.le_refl _) o)

/-- A call that returns words of the value x, in memory that may be new; what was there is as it was. -/
def RetMg (x : Nat) (w : World) (e : Ending) (w' : World) : Prop := ∃ v, e = .returned v ∧ Mg w' v x ∧ Below w.heap.size w w'
def RetIv (z : Int) (w : World) (e : Ending) (w' : World) : Prop := ∃ v, e = .returned v ∧ Iv w' v z ∧ Below w.heap.size w w'
/-- A call that returns a value and leaves what was there as it was. -/
def RetV (v : Value) (w : World) (e : Ending) (w' : World) : Prop := e = .returned v ∧ Below w.heap.size w w'
end Go.Proofs.Ytfigimfdojbkeaa

