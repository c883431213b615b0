/-
  What the laws' walks share.
  More steps and contracts with their values.
  Small things for the law IntegerDivisors: divides, the reference's Sign, facts on divisors.
  Cells of any kind; powers and roots with their sizes.
-/
import Derived.Test.YtfigimfdojbkeaaGreatSanA
import Derived.Test.YtfigimfdojbkeaaGreatIntC
import Derived.Test.YtfigimfdojbkeaaGreatLehF
import Derived.Test.YtfigimfdojbkeaaGreatRegD
set_option linter.unusedSimpArgs false
set_option linter.unusedVariables false
section
namespace Go.Proofs.YtfigimfdojbkeaaGreat
open Go.RowKit
attribute [local go_sem ↓] Go.wp_at_zero Go.wp_at_succ

end Go.Proofs.YtfigimfdojbkeaaGreat
end

namespace Go.Proofs.YtfigimfdojbkeaaGreat
open Go.RowKit

theorem cmp_is (va vb : Value) (a b o : Int) (w : World) (ha : Iv w va a) (hb : Iv w vb b) (sa : Sz a 1000000) (sb : Sz b 1000000) (h : cmpZ a b = o) : Calls Tryz.prog 35 #[va, vb] w (RetV (.int .i64 o) w) := by
  subst h
  exact cmp_any va vb a b w ha hb sa sb
end Go.Proofs.YtfigimfdojbkeaaGreat

section
namespace Go.Proofs.YtfigimfdojbkeaaGreat
open Go.RowKit
attribute [local go_sem ↓] Go.wp_at_zero Go.wp_at_succ

set_option maxHeartbeats 1000000 in
theorem rsign_any (va : Value) (a : Int) (w : World) (ha : Iv w va a) : Calls Tryz.prog 108 #[va] w (RetV (.int .i64 (sg a)) w) := by
  obtain ⟨A, n, c, rfl, h1, h2, h3⟩ := ha.form
  have hl := ha.len0
  rcases sg_cases a with ⟨h, e⟩ | ⟨h, e⟩ | ⟨h, e⟩
  · rw [e, decide_eq_true h]
    clear e h h3 ha hl
    go_enter Tryz.func108, Tryz.ntmps108
    go_wp2
    go_ret
    exact ⟨rfl, (Below.refl _ _).alloc (Nat.le_refl _) _⟩
  · rw [e, decide_eq_false (show ¬ a < 0 by omega)]
    have hn : n = 0 := hl.2 h
    subst hn
    clear e h h3 ha hl
    go_enter Tryz.func108, Tryz.ntmps108
    go_wp2
    go_ret
    exact ⟨rfl, (Below.refl _ _).alloc (Nat.le_refl _) _⟩
  · rw [e, decide_eq_false (show ¬ a < 0 by omega)]
    have hn : n ≠ 0 := fun e => by have := hl.1 e; omega
    have hn1 : (1 : Int) ≤ (n : Int) := by omega
    clear e h h3 ha hl hn
    go_enter Tryz.func108, Tryz.ntmps108
    go_wp2
    all_goals
      go_ret
      exact ⟨by first | rfl | exact ret_int (by omega) | (simp; omega), (Below.refl _ _).alloc (Nat.le_refl _) _⟩

section
variable {o : Oper} {a : Act} {w : World} {K : Act → World → Prop} {Q : Exit → Act → World → Prop} {ρ : Operand → Value} {x : Operand}
end
end Go.Proofs.YtfigimfdojbkeaaGreat
end

namespace Go.Proofs.YtfigimfdojbkeaaGreat
open Go.RowKit

/-- Block g is a row of cells. -/
def CBox (w : World) (g : Nat) (cs : Array Value) (t : TypeId) : Prop := w.heap[g]? = some (.cells cs t (0, 0))
theorem CBox.new (w : World) (cs : Array Value) (t : TypeId) : CBox (w.alloc (.cells cs t)) w.heap.size cs t := heap_alloc_new w _
theorem CBox.lt {w : World} {g : Nat} {cs : Array Value} {t : TypeId} (h : CBox w g cs t) : g < w.heap.size := by
  rcases Nat.lt_or_ge g w.heap.size with hlt | hge
  · exact hlt
  · unfold CBox at h; rw [Array.getElem?_eq_none hge] at h; cases h
theorem CBox.cell {w : World} {g : Nat} {cs : Array Value} {t : TypeId} (h : CBox w g cs t) (i : Nat) : w.cell? ⟨g, i, none⟩ = cs[i]? := cell_of_row w g i _ _ (0, 0) h
theorem CBox.next {w w1 w' : World} {g : Nat} {cs : Array Value} {t : TypeId} (h : CBox w g cs t) (hb : Below w1.heap.size w1 w') (e : w1.heap = w.heap) : CBox w' g cs t := by
  have h1 : CBox w1 g cs t := by unfold CBox; rw [e]; exact h
  exact (hb.block g h1.lt).trans h1
theorem CBox.alloc {w : World} {g : Nat} {cs : Array Value} {t : TypeId} (h : CBox w g cs t) (o : Obj) : CBox (w.alloc o) g cs t := (Below.heap_alloc w o g h.lt).trans h

end Go.Proofs.YtfigimfdojbkeaaGreat
