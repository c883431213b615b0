/-
  The program's functions on fractions.
-/
import Derived.Test.YtfigimfdojbkeaaGreatRatC
import Derived.Deep.DeepCutAuto
import Derived.Handy
set_option linter.unusedSimpArgs false
set_option linter.unusedVariables false
namespace Go.Proofs.YtfigimfdojbkeaaGreat
open Go.RowKit
attribute [local go_sem ↓] Go.wp_at_zero Go.wp_at_succ

/-- The numbers of a fraction have at most N words. -/
structure Sr (q : Rat) (N : Nat) : Prop where
  num : Sz q.num N
  den : Sz (q.den : Int) N
theorem Sr.mono {q : Rat} {N M : Nat} (h : Sr q N) (k : N ≤ M) : Sr q M := ⟨h.num.mono k, h.den.mono k⟩
theorem Sr.neg {a : Rat} {N : Nat} (h : Sr a N) : Sr (-a) N := ⟨by rw [Rat.neg_num]; exact h.num.neg, h.den⟩
theorem Sz.divs {a b : Int} {N : Nat} (h : Sz a N) : Sz (a / b) N := ⟨Nat.lt_of_le_of_lt (Int.natAbs_ediv_le_natAbs a b) h.lt⟩
theorem Sr.mul {a b : Rat} {N M : Nat} (h : Sr a N) (k : Sr b M) : Sr (a * b) (N + M) := by
  refine ⟨?_, ?_⟩
  · rw [Rat.num_mul]; exact (h.num.mul k.num).divs
  · rw [Rat.den_mul, Int.natCast_ediv, Int.natCast_mul]; exact (h.den.mul k.den).divs
theorem Sr.add {a b : Rat} {N M : Nat} (h : Sr a N) (k : Sr b M) : Sr (a + b) (N + M + 1) := by
  refine ⟨?_, ?_⟩
  · rw [Rat.num_add]; exact (Sz.add (h.num.mul k.den) ((k.num.mul h.den).mono (by omega))).divs
  · rw [Rat.den_add, Int.natCast_ediv, Int.natCast_mul]; exact ((h.den.mul k.den).divs).mono (by omega)
theorem den_cast (a : Rat) : 0 < (a.den : Int) := by have := rat_pos a; omega

set_option maxHeartbeats 8000000 in
set_option maxRecDepth 100000 in
theorem qsign_any (va : Value) (a : Rat) (w : World) (ha : Qv w va a.num a.den) (sa : Sr a 1000000) : Calls Tryz.prog 37 #[va] w (RetV (.int .i64 (sg a.num)) w) := by
  obtain ⟨Xan, pan, qan, Xad, pad, qad, rfl, han, had⟩ := ha
  have Han := Lib.hid han
  have Had := Lib.hid had
  have SRa := Lib.hid sa
  clear han had sa
  generalize hs : decide (a.num < 0) = san at *
  clear hs
  generalize hs : decide ((a.den : Int) < 0) = sad at *
  clear hs

  go_enter Tryz.func37, Tryz.ntmps37
  go_wp2_with fail
  obtain ⟨W, hW⟩ : ∃ W, W = (w.alloc (Obj.cells #[Value.bool san, Value.slice Xan pan qan, Value.bool sad, Value.slice Xad pad qad] 31)) := ⟨_, rfl⟩
  rw [← hW]
  have QXa : Hid (QBox W (w.heap.size) san (.slice Xan pan qan) sad (.slice Xad pad qad)) := by rw [hW]; have := QBox.new w san (Value.slice Xan pan qan) sad (Value.slice Xad pad qad); simpa [Hid] using this
  have IVna : Hid (Iv W (.agg #[.bool san, .slice Xan pan qan]) (a.num)) := by rw [hW]; exact (Han.out).alloc _
  have IVda : Hid (Iv W (.agg #[.bool sad, .slice Xad pad qad]) ((a.den : Int))) := by rw [hW]; exact (Had.out).alloc _
  have DW : Hid (Below w.heap.size w W) := by rw [hW]; exact (Below.refl _ _).alloc (by simp <;> omega) _
  clear hW
  generalize hg : w.heap.size = g at *
  replace hg := Lib.hid hg
  go_upto_region 1 with fail
  have u1a := QXa.out.cell0; have u1b := QXa.out.cell1; have u1c := QXa.out.cell2; have u1d := QXa.out.cell3
  go_wp2_with fail
  clear u1a u1b u1c u1d
  refine (sign_any _ a.num _ IVna.out SRa.out.num).mono ?_
  rintro e y2 ⟨rfl, hb⟩
  replace QXa := nxq QXa hb rfl; replace IVna := nxv IVna hb rfl; replace IVda := nxv IVda hb rfl
  replace DW := nxd DW hg hb rfl rfl rfl rfl
  clear hb
  go_wp2
  go_ret
  exact ⟨rfl, by rw [hg.out]; exact DW.out⟩

end Go.Proofs.YtfigimfdojbkeaaGreat

