/-
  A region that draws its order, by what each operation's slot holds: one step for each operation, whatever the order.
-/
import Derived.Test.YtfigimfdojbkeaaGreatMem
import Derived.Deep.RegionHeld
set_option linter.unusedSimpArgs false
set_option linter.unusedVariables false
namespace Go.Proofs.YtfigimfdojbkeaaGreat
open Go.RowKit

/-- What a slot holds: a value; a value that reads as an integer; anything. -/
inductive Sk where
  | is (c : Value)
  | iv (z : Int)
  | any
def Sk.ok : Sk → Value → World → Prop
  | .is c, v, _ => v = c
  | .iv z, v, w => Iv w v z
  | .any, _, _ => True
theorem Sk.next {k : Sk} {v : Value} {w w' : World} (h : k.ok v w) (hb : Below w.heap.size w w') : k.ok v w' := by
  cases k with
  | is c => exact h
  | iv z => exact Iv.below h hb
  | any => trivial

/-- No operation writes slot k. -/
def notDst (ops : Array Oper) (k : Nat) : Bool := ops.toList.all fun o => o.dst != some k
/-- Operation o waits for number j. -/
def waitsB (o : Oper) (j : Nat) : Bool := o.after.any fun e => e.on == j && Region.binds .any e
structure Held (ops : Array Oper) (a0 a : Act) : Prop where
  defers : a.defers = a0.defers
  size : a.tmps.size = a0.tmps.size
  rest : ∀ k, notDst ops k = true → a.tmps[k]? = a0.tmps[k]?

def Has (ops : Array Oper) (sk : List Sk) (a : Act) (w : World) (j : Nat) : Prop :=
  ∀ (o : Oper) (d : Nat) (k : Sk), ops[j]? = some o → o.dst = some d → sk[j]? = some k → ∃ v, a.tmps[d]? = some v ∧ k.ok v w

def Step (P : Program) (ops : Array Oper) (sk : List Sk) (a0 : Act) (S : World → Prop) (Q : Exit → Act → World → Prop) (o : Oper) (k : Sk) : Prop :=
  ∀ a w, Held ops a0 a → S w → (∀ j, waitsB o j = true → Has ops sk a w j) →
    Region.wanted o (yielded ops a.tmps) = true ∧ o.wp P a w (fun a' w' => ∃ v, a' = a.put o.dst v ∧ k.ok v w' ∧ Below w.heap.size w w' ∧ S w') Q

def Steps (P : Program) (ops : Array Oper) (sk : List Sk) (a0 : Act) (S : World → Prop) (Q : Exit → Act → World → Prop) : List Oper → List Sk → Prop
  | o :: l, k :: ks => Step P ops sk a0 S Q o k ∧ Steps P ops sk a0 S Q l ks
  | [], [] => True
  | _, _ => False

theorem Steps.len {P : Program} {ops : Array Oper} {sk : List Sk} {a0 : Act} {S : World → Prop} {Q : Exit → Act → World → Prop} : ∀ {l : List Oper} {ks : List Sk}, Steps P ops sk a0 S Q l ks → l.length = ks.length
  | [], [], _ => rfl
  | o :: l, k :: ks, h => by simp [Steps.len h.2]
  | [], _ :: _, h => h.elim
  | _ :: _, [], h => h.elim

end Go.Proofs.YtfigimfdojbkeaaGreat

