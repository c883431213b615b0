/-
  Cells of results; the values of the fixed examples.
-/
import Derived.Test.YtpklphdhigkmmaaSanA
namespace Go.Proofs.Ytpklphdhigkmmaa
open Go.RowKit
attribute [local go_sem ↓] Go.wp_at_zero Go.wp_at_succ

theorem one_box {w W : World} {q : Int} {s : Bool} {A : Option Addr} {n c : Nat} (hq : Iv w (.agg #[.bool s, .slice A n c]) q)
    (hW : W = w.alloc (Obj.cells #[Value.bool s, Value.slice A n c] 27)) : IB W w.heap.size q ∧ Below w.heap.size w W := by
  subst hW
  exact ⟨IB.new hq, (Below.refl _ _).alloc (Nat.le_refl _) _⟩
theorem two_box {w W : World} {q r : Int} {s t : Bool} {A B : Option Addr} {n c m d : Nat} (hq : Iv w (.agg #[.bool s, .slice A n c]) q) (hr : Iv w (.agg #[.bool t, .slice B m d]) r)
    (hW : W = (w.alloc (Obj.cells #[Value.bool s, Value.slice A n c] 27)).alloc (Obj.cells #[Value.bool t, Value.slice B m d] 27)) : IB W w.heap.size q ∧ IB W (w.heap.size + 1) r ∧ Below w.heap.size w W := by
  subst hW
  refine ⟨(IB.new hq).alloc _, ?_, ((Below.refl _ _).alloc (Nat.le_refl _) _).alloc (by simp) _⟩
  have := IB.new (hr.alloc (Obj.cells #[Value.bool s, Value.slice A n c] 27))
  simpa using this
theorem three_box {w W : World} {q r p : Int} {s t u : Bool} {A B C : Option Addr} {n c m d l e : Nat} (hq : Iv w (.agg #[.bool s, .slice A n c]) q) (hr : Iv w (.agg #[.bool t, .slice B m d]) r) (hp : Iv w (.agg #[.bool u, .slice C l e]) p)
    (hW : W = ((w.alloc (Obj.cells #[Value.bool s, Value.slice A n c] 27)).alloc (Obj.cells #[Value.bool t, Value.slice B m d] 27)).alloc (Obj.cells #[Value.bool u, Value.slice C l e] 27)) : IB W w.heap.size q ∧ IB W (w.heap.size + 1) r ∧ IB W (w.heap.size + 1 + 1) p ∧ Below w.heap.size w W := by
  obtain ⟨V, hV⟩ : ∃ V, V = (w.alloc (Obj.cells #[Value.bool s, Value.slice A n c] 27)).alloc (Obj.cells #[Value.bool t, Value.slice B m d] 27) := ⟨_, rfl⟩
  obtain ⟨h1, h2, h3⟩ := two_box hq hr hV
  have hs : V.heap.size = w.heap.size + 1 + 1 := by rw [hV]; simp
  rw [← hV] at hW
  obtain ⟨h4, h5⟩ := one_box (w := V) (q := p) (by rw [hV]; exact (hp.alloc _).alloc _) hW
  rw [hs] at h4
  refine ⟨h1.next h5 rfl, h2.next h5 rfl, h4, h3.trans (h5.mono h3.size)⟩

theorem bez_64 {u v : Int} (h : BezDone 6 4 u v) : u = 1 ∧ v = -1 := by
  have e : ((Int.gcd 6 4 : Nat) : Int) = 2 := by decide
  have h1 := h.nn
  have h2 := h.lt
  have h3 := h.eq
  rw [e] at h2 h3
  omega
theorem bez_03 {u v : Int} (h : BezDone 0 (-3) u v) : u = 0 ∧ v = -1 := by
  have e : ((Int.gcd 0 (-3) : Nat) : Int) = 3 := by decide
  have h1 := h.nn
  have h2 := h.lt
  have h3 := h.eq
  rw [e] at h2 h3
  omega
theorem txb_120 : gs (txb (-120)) = .string ⟨#[45, 49, 50, 48]⟩ := by
  have e : rd 120 = [48, 50, 49] := by
    rw [rd_pos (by decide), rd_pos (by decide), rd_pos (by decide)]
    simp [rd_zero]
  unfold txb
  rw [if_neg (by decide), if_pos (by decide), show Int.natAbs (-120) = 120 from rfl, e]
  rfl
theorem bl_8 : ((bl (Int.natAbs (-8)) : Nat) : Int) = 4 := by
  unfold bl
  rw [if_neg (by decide)]
  decide +kernel
theorem valid_bad (w : World) : Calls Try.prog 72 #[.agg #[.bool true, .slice none 0 0]] w (RetV (.bool false) w) := by
  go_enter Try.func72, Try.ntmps72
  go_wp2
  go_ret
  exact ⟨by simp, (Below.refl _ _).alloc (Nat.le_refl _) _⟩
end Go.Proofs.Ytpklphdhigkmmaa
