/-
  Layer 3: the reference's SameInt, for equal numbers.
-/
import Derived.Test.YtfigimfdojbkeaaModU
import Derived.Test.YtfigimfdojbkeaaLawI
set_option linter.unusedSimpArgs false
set_option linter.unusedVariables false
namespace Go.Proofs.Ytfigimfdojbkeaa
open Go.RowKit
attribute [local go_sem ↓] Go.wp_at_zero Go.wp_at_succ

set_option maxHeartbeats 2000000 in
set_option maxRecDepth 100000 in
theorem esame_true (va vb : Value) (a b : Int) (w : World) (ha : Iv w va a) (hb : Iv w vb b) (sa : Sz a 1000000) (h : a = b) : Calls Try.prog 66 #[va, vb] w (RetV (.bool true) w) := by
  subst h
  obtain ⟨A, n, c, rfl, h1, h2, h3⟩ := ha.form
  obtain ⟨B, m, d, rfl, k1, k2, k3⟩ := hb.form
  have hnm : n = m := by rw [← h3.len, ← k3.len]
  subst hnm
  have hn : n ≤ 1000000 := by rw [← h3.len]; exact sa.len
  have H3 := Lib.hid h3
  have K3 := Lib.hid k3
  generalize decide (a < 0) = sz at *
  clear ha hb h3 k3 sa
  go_enter Try.func66, Try.ntmps66
  go_wp2_with fail
  obtain ⟨W, hW⟩ : ∃ W, W = (w.alloc (Obj.cells #[Value.bool sz, Value.slice A n c] 27)).alloc (Obj.cells #[Value.bool sz, Value.slice B n d] 27) := ⟨_, rfl⟩
  have e : W = W := rfl
  go_loopw [5] (fun t wr => ∃ i : Nat, i ≤ n ∧ t = .int .i64 i ∧ Box wr w.heap.size sz (.slice A n c) ∧ Box wr (w.heap.size + 1) sz (.slice B n d) ∧ Wd wr A n (mag a.natAbs) ∧ Wd wr B n (mag a.natAbs) ∧ Below w.heap.size w wr) (fun t _ => n - (intOf t).toNat)
  case atStart => exact ⟨0, Nat.zero_le _, rfl, (Box.new _ _ _).alloc _, by have := Box.new (w.alloc (Obj.cells #[Value.bool sz, Value.slice A n c] 27)) sz (.slice B n d); simpa using this, (H3.out.alloc _).alloc _, (K3.out.alloc _).alloc _, ((Below.refl _ _).alloc (Nat.le_refl _) _).alloc (by simp) _⟩
  case round =>
    clear hW e W
    obtain ⟨i, hi, rfl, b0, b1, wa, wb, hbl⟩ := hrel
    have B0 := Lib.hid b0; have B1 := Lib.hid b1; have WA := Lib.hid wa; have WB := Lib.hid wb; have HBL := Lib.hid hbl
    have c0 := b0.cell1; have c1 := b1.cell1
    clear b0 b1 wa wb hbl
    by_cases hlt : i < n
    · obtain ⟨ad, rfl, _, hca⟩ := WA.out.cell hlt
      obtain ⟨bd, rfl, _, hcb⟩ := WB.out.cell hlt
      have i1 : (i : Int) < n := by omega
      go_wp2_with fail
      go_region
      go_wp2
      go_roundw
      case rel => exact ⟨i + 1, by omega, by simp, B0.out, B1.out, WA.out, WB.out, HBL.out.drew⟩
      case measure => simp [intOf]; omega
    · obtain rfl : i = n := by omega
      go_wp2
      exact bodyPost_ret (v := .bool true) (by simp [results, Try.results66, go_sem]) rfl ⟨rfl, HBL.out⟩
end Go.Proofs.Ytfigimfdojbkeaa
