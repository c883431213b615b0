/-
  Made of the reference.
-/
import Derived.Test.YtchkaaeipafdnaaMonD
namespace Go.Proofs.Ytchkaaeipafdnaa
open Go.RowKit
attribute [local go_sem ↓] Go.wp_at_zero Go.wp_at_succ

abbrev ucl (x : Nat → Int) : Array Value := #[Value.int IntKind.u16 (x 0), Value.int IntKind.u16 (x 1), Value.int IntKind.u16 (x 2), Value.int IntKind.u16 (x 3), Value.int IntKind.u16 (x 4), Value.int IntKind.u16 (x 5), Value.int IntKind.u16 (x 6), Value.int IntKind.u16 (x 7)]
theorem ucl_get (a : Nat → Int) {k : Nat} (h : k < 8) : (ucl a)[k]? = some (.int .u16 (a k)) := by
  rcases lt8 h with rfl | rfl | rfl | rfl | rfl | rfl | rfl | rfl <;> rfl
/-- Block g is the raw array x. -/
def RowU (w : World) (g : Nat) (a : Nat → Int) : Prop := w.heap[g]? = some (.cells (ucl a) 24 (0, 0))
theorem RowU.cell {w : World} {g : Nat} {a : Nat → Int} (h : RowU w g a) {k : Nat} (hk : k < 8) : w.cell? ⟨g, k, none⟩ = some (.int .u16 (a k)) := by
  rw [cell_of_row w g k _ _ (0, 0) h, ucl_get a hk]
theorem RowU.lt {w : World} {g : Nat} {a : Nat → Int} (h : RowU w g a) : g < w.heap.size := by
  rcases Nat.lt_or_ge g w.heap.size with hlt | hge
  · exact hlt
  · unfold RowU at h; rw [Array.getElem?_eq_none hge] at h; cases h
theorem RowU.far {w : World} {g : Nat} {a : Nat → Int} (h : RowU w g a) {p : Addr} (hp : g ≠ p.block) (u : Value) : RowU (w.setCell p u) g a := (Below.heap_setCell w p u g hp).trans h
theorem RowU.below {w w' : World} {g B : Nat} {a : Nat → Int} (h : RowU w g a) (hb : Below B w w') (hg : g < B) : RowU w' g a := (hb.block g hg).trans h
theorem RowU.new (w : World) (a : Nat → Int) : RowU (w.alloc (.cells (ucl a) 24)) w.heap.size a := heap_alloc_new w _
theorem RowU.alloc {w : World} {g : Nat} {a : Nat → Int} (h : RowU w g a) (o : Obj) : RowU (w.alloc o) g a := (Below.heap_alloc w o g h.lt).trans h
theorem RowU.drewN {w : World} {g : Nat} {a : Nat → Int} (h : RowU w g a) (n : Nat) : RowU (w.drewN n) g a := h
theorem RowU.drew {w : World} {g : Nat} {a : Nat → Int} (h : RowU w g a) : RowU w.drew g a := h
theorem RowU.setRow_far {w : World} {g h : Nat} {a : Nat → Int} (r : RowU w g a) (hn : g ≠ h) (b : Array Value) : RowU (w.setRow h b) g a := (setRow_other w h g b hn).trans r

set_option maxHeartbeats 400000 in
theorem made_any (x : Nat → Int) (w : World) (hx : ∀ k, k < 8 → 0 ≤ x k ∧ x k ≤ 65535) : Calls Try.prog 12 #[.agg #[Value.int IntKind.u16 (x 0), Value.int IntKind.u16 (x 1), Value.int IntKind.u16 (x 2), Value.int IntKind.u16 (x 3), Value.int IntKind.u16 (x 4), Value.int IntKind.u16 (x 5), Value.int IntKind.u16 (x 6), Value.int IntKind.u16 (x 7)]] w fun e w' => e = .returned (arr x) ∧ Below w.heap.size w w' := by
  have HX := Lib.hid hx
  clear hx
  go_enter Try.func12, Try.ntmps12
  go_wp2_with fail
  obtain ⟨W, hW⟩ : ∃ W, W = ((w.alloc (Obj.cells #[Value.int IntKind.u16 (x 0), Value.int IntKind.u16 (x 1), Value.int IntKind.u16 (x 2), Value.int IntKind.u16 (x 3), Value.int IntKind.u16 (x 4), Value.int IntKind.u16 (x 5), Value.int IntKind.u16 (x 6), Value.int IntKind.u16 (x 7)] 24)).alloc (Obj.cells #[Value.int IntKind.i64 0, Value.int IntKind.i64 0, Value.int IntKind.i64 0, Value.int IntKind.i64 0, Value.int IntKind.i64 0, Value.int IntKind.i64 0, Value.int IntKind.i64 0, Value.int IntKind.i64 0] 27)).alloc (Obj.cells #[Value.int IntKind.i64 0, Value.int IntKind.i64 0, Value.int IntKind.i64 0, Value.int IntKind.i64 0, Value.int IntKind.i64 0, Value.int IntKind.i64 0, Value.int IntKind.i64 0, Value.int IntKind.i64 0] 27) := ⟨_, rfl⟩
  rw [← hW]
  have R0 : Hid (RowU W w.heap.size x) := by rw [hW]; exact ((RowU.new w x).alloc _).alloc _
  have R1 : Hid (Row W (w.heap.size + 1) nul) := by
    rw [hW]; have := (Row.new (w.alloc (Obj.cells #[Value.int IntKind.u16 (x 0), Value.int IntKind.u16 (x 1), Value.int IntKind.u16 (x 2), Value.int IntKind.u16 (x 3), Value.int IntKind.u16 (x 4), Value.int IntKind.u16 (x 5), Value.int IntKind.u16 (x 6), Value.int IntKind.u16 (x 7)] 24)) nul).alloc (Obj.cells #[Value.int IntKind.i64 0, Value.int IntKind.i64 0, Value.int IntKind.i64 0, Value.int IntKind.i64 0, Value.int IntKind.i64 0, Value.int IntKind.i64 0, Value.int IntKind.i64 0, Value.int IntKind.i64 0] 27)
    rw [show (w.alloc (Obj.cells #[Value.int IntKind.u16 (x 0), Value.int IntKind.u16 (x 1), Value.int IntKind.u16 (x 2), Value.int IntKind.u16 (x 3), Value.int IntKind.u16 (x 4), Value.int IntKind.u16 (x 5), Value.int IntKind.u16 (x 6), Value.int IntKind.u16 (x 7)] 24)).heap.size = w.heap.size + 1 by simp] at this
    exact this
  have R2 : Hid (Row W (w.heap.size + 1 + 1) nul) := by
    rw [hW]; have := Row.new ((w.alloc (Obj.cells #[Value.int IntKind.u16 (x 0), Value.int IntKind.u16 (x 1), Value.int IntKind.u16 (x 2), Value.int IntKind.u16 (x 3), Value.int IntKind.u16 (x 4), Value.int IntKind.u16 (x 5), Value.int IntKind.u16 (x 6), Value.int IntKind.u16 (x 7)] 24)).alloc (Obj.cells #[Value.int IntKind.i64 0, Value.int IntKind.i64 0, Value.int IntKind.i64 0, Value.int IntKind.i64 0, Value.int IntKind.i64 0, Value.int IntKind.i64 0, Value.int IntKind.i64 0, Value.int IntKind.i64 0] 27)) nul
    rw [show ((w.alloc (Obj.cells #[Value.int IntKind.u16 (x 0), Value.int IntKind.u16 (x 1), Value.int IntKind.u16 (x 2), Value.int IntKind.u16 (x 3), Value.int IntKind.u16 (x 4), Value.int IntKind.u16 (x 5), Value.int IntKind.u16 (x 6), Value.int IntKind.u16 (x 7)] 24)).alloc (Obj.cells #[Value.int IntKind.i64 0, Value.int IntKind.i64 0, Value.int IntKind.i64 0, Value.int IntKind.i64 0, Value.int IntKind.i64 0, Value.int IntKind.i64 0, Value.int IntKind.i64 0, Value.int IntKind.i64 0] 27)).heap.size = w.heap.size + 1 + 1 by simp] at this
    exact this
  have D : Hid (Below w.heap.size w W) := by rw [hW]; exact (((Below.refl _ _).alloc (Nat.le_refl _) _).alloc (by simp) _).alloc (by simp; omega) _
  clear hW
  go_loopw [4] (fun i wr => ∃ k : Nat, k ≤ 8 ∧ i = .int .i64 k ∧ RowU wr w.heap.size x ∧ Row wr (w.heap.size + 1) nul ∧ Row wr (w.heap.size + 1 + 1) (mix x nul k) ∧ Below w.heap.size w wr) (fun i _ => 8 - (intOf i).toNat)
  case atStart => exact ⟨0, by omega, rfl, R0.out, R1.out, by rw [mix_zero]; exact R2.out, D.out⟩
  case round =>
    obtain ⟨k, hk, rfl, q0, q1, q2, qd⟩ := hrel
    have Q0 := Lib.hid q0; have Q1 := Lib.hid q1; have Q2 := Lib.hid q2; have QD := Lib.hid qd
    by_cases hlt : k < 8
    · have c0 := q0.cell hlt
      have c2 := q2.cell hlt
      have f2 := q2.frozen k
      obtain ⟨x1, x2⟩ := HX.out k hlt
      clear q0 q1 q2 qd
      go_wp2
      go_roundw
      case rel => exact ⟨k + 1, by omega, by go_num, Q0.out.far (by simp <;> omega) _, Q1.out.far (by simp) _, by rw [← mix_up]; exact Q2.out.set _ hlt, QD.out.setCell (by simp <;> omega) _⟩
      case measure => simp [intOf]; omega
    · obtain rfl : k = 8 := by omega
      clear q0 q1 q2 qd
      go_upto_region 6 with fail
      go_wp2_with (first | (refine ld _ (w.heap.size + 1 + 1) Q2.out rfl rfl rfl ?_) | (refine st _ _ (w.heap.size + 1) _ Q1.out rfl rfl rfl rfl ?_))
      exact ret_row (p := 2) (by kernel_rfl) rfl (Q1.out.setRow _) rfl ⟨congrArg Ending.returned (arr_ext (mix_all _ _)), below_setRow QD.out (by omega) _⟩
end Go.Proofs.Ytchkaaeipafdnaa
