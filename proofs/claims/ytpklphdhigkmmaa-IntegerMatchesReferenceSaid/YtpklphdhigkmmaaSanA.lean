/-
  The law's 'three', where it is true.
-/
import Derived.Test.YtpklphdhigkmmaaBezC
import Derived.Test.YtpklphdhigkmmaaTextB
import Derived.Test.YtpklphdhigkmmaaParseA
import Derived.Test.YtpklphdhigkmmaaIntF
namespace Go.Proofs.Ytpklphdhigkmmaa
open Go.RowKit
attribute [local go_sem ↓] Go.wp_at_zero Go.wp_at_succ

def I64 (z : Int) : Prop := -9223372036854775808 ≤ z ∧ z ≤ 9223372036854775807
theorem I64.sz {z : Int} (h : I64 z) : Sz z 2 := ⟨by
  have h1 := h.1
  have h2 := h.2
  have e : pw 2 = 18446744073709551616 := by decide
  rw [e]; omega⟩

set_option maxHeartbeats 4000000 in
set_option maxRecDepth 100000 in
theorem three_true (va vb vc : Value) (p q r : Int) (w : World) (ha : Iv w va p) (hb : Iv w vb q) (hc : Iv w vc r) (hp : I64 p) (hq : I64 q) (hr : I64 r) :
    Calls Try.prog 69 #[va, vb, vc, .int .i64 p, .int .i64 q, .int .i64 r] w (RetV (.bool true) w) := by
  obtain ⟨A, n, c, rfl, _, _, _⟩ := ha.form
  obtain ⟨B, m, d, rfl, _, _, _⟩ := hb.form
  obtain ⟨C, l, e, rfl, _, _, _⟩ := hc.form
  have HA := Lib.hid ha
  have HB := Lib.hid hb
  have HC := Lib.hid hc
  have HP := Lib.hid hp
  have HQ := Lib.hid hq
  have HR := Lib.hid hr
  generalize decide (p < 0) = sp at *
  generalize decide (q < 0) = sq at *
  generalize decide (r < 0) = sr at *
  clear ha hb hc hp hq hr
  go_enter Try.func69, Try.ntmps69
  go_wp2_with fail
  obtain ⟨W, hW⟩ : ∃ W, W = ((w.alloc (Obj.cells #[Value.bool sp, Value.slice A n c] 27)).alloc (Obj.cells #[Value.bool sq, Value.slice B m d] 27)).alloc (Obj.cells #[Value.bool sr, Value.slice C l e] 27) := ⟨_, rfl⟩
  rw [← hW]
  have b0 : Box W w.heap.size sp (.slice A n c) := by rw [hW]; exact ((Box.new w _ _).alloc _).alloc _
  have b1 : Box W (w.heap.size + 1) sq (.slice B m d) := by rw [hW]; exact (new_at (by simp)).alloc _
  have b2 : Box W (w.heap.size + 1 + 1) sr (.slice C l e) := by rw [hW]; exact new_at (by simp)
  have HA2 : Hid (Iv W (.agg #[.bool sp, .slice A n c]) p) := by rw [hW]; exact ((HA.out.alloc _).alloc _).alloc _
  have HB2 : Hid (Iv W (.agg #[.bool sq, .slice B m d]) q) := by rw [hW]; exact ((HB.out.alloc _).alloc _).alloc _
  have HC2 : Hid (Iv W (.agg #[.bool sr, .slice C l e]) r) := by rw [hW]; exact ((HC.out.alloc _).alloc _).alloc _
  have hbW : Hid (Below w.heap.size w W) := by rw [hW]; exact (((Below.refl _ _).alloc (Nat.le_refl _) _).alloc (by simp) _).alloc (by simp; omega) _
  have B0 := Lib.hid b0
  have B1 := Lib.hid b1
  have B2 := Lib.hid b2
  clear hW
  have hWW := Below.refl W.heap.size W
  have c0 := b0.cell0; have c1 := b0.cell1; have c2 := b1.cell0; have c3 := b1.cell1; have c4 := b2.cell0; have c5 := b2.cell1
  clear b0 b1 b2
  have hgW := hbW.out.size
  generalize hg : w.heap.size = g at *
  go_region_held3 (fun w' => Below W.heap.size W w' ∧ w'.cell? ⟨g, 0, none⟩ = some (.bool sp) ∧ w'.cell? ⟨g, 1, none⟩ = some (.slice A n c) ∧ w'.cell? ⟨g + 1, 0, none⟩ = some (.bool sq) ∧ w'.cell? ⟨g + 1, 1, none⟩ = some (.slice B m d) ∧ w'.cell? ⟨g + 1 + 1, 0, none⟩ = some (.bool sr) ∧ w'.cell? ⟨g + 1 + 1, 1, none⟩ = some (.slice C l e))
    ((refine (fun hb => ⟨hb, (B0.out.next hb rfl).cell0, (B0.out.next hb rfl).cell1, (B1.out.next hb rfl).cell0, (B1.out.next hb rfl).cell1, (B2.out.next hb rfl).cell0, (B2.out.next hb rfl).cell1⟩) ?_; go_grown))
    (first
      | (go_at_call 19; refine (same_any _ _ r r _ (by exact iv_next HC2.out hY5 rfl) (by exact HV5.out) (HR.out.sz.mono (by omega)) (HR.out.sz.mono (by omega))).mono ?_; rintro e w6 ⟨rfl, hbl6⟩
         have hY6 : Below W.heap.size W w6 := by refine Below.trans ?_ (hbl6.mono ?_) <;> go_grown)
      | (go_at_call 40; refine (lof_any r _ HR.out.1 HR.out.2).mono ?_; rintro e w5 ⟨v5, rfl, hv5, hbl5⟩
         have hY5 : Below W.heap.size W w5 := by refine Below.trans ?_ (hbl5.mono ?_) <;> go_grown
         have hY5s := hY5.size
         have HV5 := Lib.hid hv5; clear hv5)
      | (go_at_call 19; refine (same_any _ _ q q _ (by exact iv_next HB2.out hY3 rfl) (by exact HV3.out) (HQ.out.sz.mono (by omega)) (HQ.out.sz.mono (by omega))).mono ?_; rintro e w4 ⟨rfl, hbl4⟩
         have hY4 : Below W.heap.size W w4 := by refine Below.trans ?_ (hbl4.mono ?_) <;> go_grown
         have hY4s := hY4.size)
      | (go_at_call 40; refine (lof_any q _ HQ.out.1 HQ.out.2).mono ?_; rintro e w3 ⟨v3, rfl, hv3, hbl3⟩
         have hY3 : Below W.heap.size W w3 := by refine Below.trans ?_ (hbl3.mono ?_) <;> go_grown
         have hY3s := hY3.size
         have HV3 := Lib.hid hv3; clear hv3)
      | (go_at_call 19; refine (same_any _ _ p p _ (by exact iv_next HA2.out hY1 rfl) (by exact HV1.out) (HP.out.sz.mono (by omega)) (HP.out.sz.mono (by omega))).mono ?_; rintro e w2 ⟨rfl, hbl2⟩
         have hY2 : Below W.heap.size W w2 := by refine Below.trans ?_ (hbl2.mono ?_) <;> go_grown
         have hY2s := hY2.size)
      | (go_at_call 40; refine (lof_any p _ HP.out.1 HP.out.2).mono ?_; rintro e w1 ⟨v1, rfl, hv1, hbl1⟩
         have hY1 : Below W.heap.size W w1 := by refine Below.trans ?_ (hbl1.mono ?_) <;> go_grown
         have hY1s := hY1.size
         have HV1 := Lib.hid hv1; clear hv1))
  go_wp2
  go_ret
  refine ⟨by simp, ?_⟩
  rw [hg]
  exact hbW.out.trans (hY6.mono hgW)
end Go.Proofs.Ytpklphdhigkmmaa
