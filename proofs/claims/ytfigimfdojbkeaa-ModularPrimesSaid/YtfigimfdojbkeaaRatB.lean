/-
  Fractions: the program's small functions.
-/
import Derived.Test.YtfigimfdojbkeaaRatA
import Derived.Test.YtfigimfdojbkeaaIntE
import Derived.Test.YtfigimfdojbkeaaLehF
import Derived.Test.YtfigimfdojbkeaaOwnW
import Derived.Deep.DeepCutAuto
import Derived.Handy
set_option linter.unusedSimpArgs false
set_option linter.unusedVariables false
namespace Go.Proofs.Ytfigimfdojbkeaa
open Go.RowKit
attribute [local go_sem ↓] Go.wp_at_zero Go.wp_at_succ

set_option maxHeartbeats 2000000 in
theorem qIsOne_any (va : Value) (z : Int) (w : World) (ha : Iv w va z) (sa : Sz z 1000000) : Calls Try.prog 205 #[va] w (RetV (.bool (decide (z = 1))) w) := by
  obtain ⟨A, n, c, rfl, _, _, _⟩ := ha.form
  have HA := Lib.hid ha
  have SA := Lib.hid sa
  clear ha sa
  by_cases h : -9223372036854775808 ≤ z ∧ z ≤ 9223372036854775807
  · have hs : Hid (smallV z = .tuple #[.int .i64 z, .bool true]) := if_pos h
    have hd : Hid ((z == 1) = decide (z = 1)) := by by_cases e : z = 1 <;> simp [Hid, e]
    clear h
    generalize decide (z < 0) = s at *
    go_enter Try.func205, Try.ntmps205
    go_wp2_with fail
    refine (small_any _ z _ (HA.out.alloc _) SA.out).mono ?_
    rw [hs.out]
    rintro e w1 ⟨rfl, hb⟩
    have HB := Lib.hid hb
    clear hb
    go_wp2
    go_ret
    exact ⟨by rw [← hd.out]; rfl, below_new HB.out⟩
  · have hs : Hid (smallV z = .tuple #[.int .i64 0, .bool false]) := if_neg h
    have hd : Hid (false = decide (z = 1)) := by unfold Hid; rw [decide_eq_false]; omega
    clear h
    generalize decide (z < 0) = s at *
    go_enter Try.func205, Try.ntmps205
    go_wp2_with fail
    refine (small_any _ z _ (HA.out.alloc _) SA.out).mono ?_
    rw [hs.out]
    rintro e w1 ⟨rfl, hb⟩
    have HB := Lib.hid hb
    clear hb
    go_wp2
    go_ret
    exact ⟨by rw [← hd.out]; rfl, below_new HB.out⟩

set_option maxHeartbeats 2000000 in
theorem withSign_any (b : Bool) (va : Value) (z y : Int) (w : World) (ha : Iv w va z) (sa : Sz z 1000000) (hy : y = sgn b z.natAbs) (hz : b = true → z ≠ 0) : Calls Try.prog 204 #[.bool b, va] w (RetIv y w) := by
  obtain ⟨A, n, c, rfl, h1, h2, h3⟩ := ha.form
  have H3 := Lib.hid h3
  have hn : n ≤ 1000000 := by rw [← h3.len]; exact sa.len
  have hs : Hid (b = decide (y < 0)) := by
    unfold Hid
    rw [hy, sgn_neg]
    cases b with
    | false => rfl
    | true => have := hz rfl; simp; omega
  have hyz : Hid (y.natAbs = z.natAbs) := by unfold Hid; rw [hy, sgn_abs]
  clear ha sa h3 hy hz
  generalize decide (z < 0) = s at *
  go_enter Try.func204, Try.ntmps204
  go_wp2_with fail
  refine (clone32 A n c (mag z.natAbs) _ ((H3.out.alloc _).alloc _) (by omega)).mono ?_
  rintro e w1 ⟨A2, c2, rfl, k1, k2, k3, hbl⟩
  have hb0 : Box w1 (w.heap.size + 1) false (.slice none 0 0) := by
    have := Box.new (w.alloc (Obj.cells #[Value.bool s, Value.slice A n c] 27)) false (.slice none 0 0)
    simp at this
    exact this.below hbl (by simp)
  have c0 := hb0.cell0; have c1 := hb0.cell1; have f0 := hb0.frozen 0; have f1 := hb0.frozen 1
  have HB0 := Lib.hid hb0
  have K3 := Lib.hid k3
  have HBL : Hid (Below w.heap.size w w1) := below_new (below_new hbl)
  clear hb0 k3 hbl
  go_wp2
  refine bodyPost_ret (v := .agg #[.bool b, .slice A2 n c2]) (by simp [results, Try.results204, go_sem, c0, c1]) rfl ⟨_, rfl, ?_, (HBL.out.setCell (by simp) _).setCell (by simp) _⟩
  have h4 : Iv w1 (.agg #[.bool (decide (y < 0)), .slice A2 n c2]) y := Iv.made k1 k2 (by rw [hyz.out]; exact K3.out)
  rw [hs.out]
  exact iv_keep h4 HB0.out _

end Go.Proofs.Ytfigimfdojbkeaa

