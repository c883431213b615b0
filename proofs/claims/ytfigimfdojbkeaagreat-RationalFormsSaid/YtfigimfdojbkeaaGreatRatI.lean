/-
  The program's functions on fractions.
-/
import Derived.Test.YtfigimfdojbkeaaGreatRatT
import Derived.Deep.DeepCutAuto
import Derived.Handy
set_option linter.unusedSimpArgs false
set_option linter.unusedVariables false
namespace Go.Proofs.YtfigimfdojbkeaaGreat
open Go.RowKit
attribute [local go_sem ↓] Go.wp_at_zero Go.wp_at_succ

section
variable {o : Oper} {w : World} {ρ : Operand → Value} {x y : Operand}
theorem run_add_str {t u : TypeId} {a b : ByteArray} (ho : o.op = .binOp .add t x y u) (hx : ρ x = .string a) (hy : ρ y = .string b) (h : a.size + b.size ≤ 9223372036854775807) : (execOp ρ o).run Tryz.prog w = .ok (.value (.string (a ++ b))) w := by
  have h2 : (a.size : Int) + b.size ≤ 9223372036854775807 := by omega
  simp [execOp, ho, hx, hy, go_sem, h, h2]
theorem run_add_i64 {t u : TypeId} {m n : Int} (ho : o.op = .binOp .add t x y u) (hx : ρ x = .int .i64 m) (hy : ρ y = .int .i64 n) (h : -9223372036854775808 ≤ m + n ∧ m + n ≤ 9223372036854775807) : (execOp ρ o).run Tryz.prog w = .ok (.value (.int .i64 (m + n))) w := by
  simp [execOp, ho, hx, hy, go_sem]
  exact IntWalk.i64_in _ h
end
def slash : ByteArray := ⟨#[47]⟩
theorem bl_sz {z : Int} (h : Sz z 200000) : bl z.natAbs ≤ 6400000 := Nat.le_trans (bl_short rfl) (by have := h.len; omega)
def qtx (q : Rat) : ByteArray := if (q.den : Int) = 1 then txs q.num else txs q.num ++ slash ++ txs q.den

set_option maxHeartbeats 8000000 in
set_option maxRecDepth 100000 in
theorem qtext_one (va : Value) (a : Rat) (w : World) (ha : Qv w va a.num a.den) (sa : Sr a 200000) (h1 : (a.den : Int) = 1) : Calls Tryz.prog 43 #[va] w (RetV (.string (qtx a)) w) := by
  obtain ⟨Xan, pan, qan, Xad, pad, qad, rfl, han, had⟩ := ha
  have Han := Lib.hid han
  have Had := Lib.hid had
  have SRa := Lib.hid sa
  clear han had sa
  generalize hs : decide (a.num < 0) = san at *
  clear hs
  generalize hs : decide ((a.den : Int) < 0) = sad at *
  clear hs
  have hd : Hid (decide ((a.den : Int) = 1) = true) := decide_eq_true h1
  have hq : Hid (qtx a = txs a.num) := if_pos h1
  have hz1 := txs_size SRa.out.num
  have hz2 := txs_size SRa.out.den
  have HZ1 := Lib.hid hz1
  have HZ2 := Lib.hid hz2
  clear h1 hz1 hz2
  go_enter Tryz.func43, Tryz.ntmps43
  go_wp2_with fail
  obtain ⟨W, hW⟩ : ∃ W, W = (w.alloc (Obj.cells #[Value.bool san, Value.slice Xan pan qan, Value.bool sad, Value.slice Xad pad qad] 31)) := ⟨_, rfl⟩
  rw [← hW]
  have QXa : Hid (QBox W (w.heap.size) san (.slice Xan pan qan) sad (.slice Xad pad qad)) := by rw [hW]; have := QBox.new w san (Value.slice Xan pan qan) sad (Value.slice Xad pad qad); simpa [Hid] using this
  have IVna : Hid (Iv W (.agg #[.bool san, .slice Xan pan qan]) (a.num)) := by rw [hW]; exact (Han.out).alloc _
  have IVda : Hid (Iv W (.agg #[.bool sad, .slice Xad pad qad]) ((a.den : Int))) := by rw [hW]; exact (Had.out).alloc _
  have DW : Hid (Below w.heap.size w W) := by rw [hW]; exact (Below.refl _ _).alloc (by simp <;> omega) _
  clear hW
  generalize hg : w.heap.size = g at *
  replace hg := Lib.hid hg
  go_upto_region 1 with fail
  have u1a := QXa.out.cell0; have u1b := QXa.out.cell1; have u1c := QXa.out.cell2; have u1d := QXa.out.cell3
  go_wp2_with fail
  clear u1a u1b u1c u1d
  refine (qIsOne_any _ (a.den : Int) _ IVda.out (SRa.out.den.mono (by omega))).mono ?_
  rintro e y2 ⟨rfl, hb⟩
  replace QXa := nxq QXa hb rfl; replace IVna := nxv IVna hb rfl; replace IVda := nxv IVda hb rfl
  replace DW := nxd DW hg hb rfl rfl rfl rfl
  clear hb
  rw [hd.out]
  go_upto_region 2 with fail
  have u3a := QXa.out.cell0; have u3b := QXa.out.cell1; have u3c := QXa.out.cell2; have u3d := QXa.out.cell3
  go_wp2_with fail
  clear u3a u3b u3c u3d
  refine (text_is _ a.num _ IVna.out SRa.out.num).mono ?_
  rintro e y4 ⟨rfl, hb⟩
  replace QXa := nxq QXa hb rfl; replace IVna := nxv IVna hb rfl; replace IVda := nxv IVda hb rfl
  replace DW := nxd DW hg hb rfl rfl rfl rfl
  clear hb
  go_wp2
  go_ret
  exact ⟨by rw [hq.out]; rfl, by rw [hg.out]; exact DW.out⟩

set_option maxHeartbeats 8000000 in
set_option maxRecDepth 100000 in
theorem qtext_two (va : Value) (a : Rat) (w : World) (ha : Qv w va a.num a.den) (sa : Sr a 200000) (h1 : (a.den : Int) ≠ 1) : Calls Tryz.prog 43 #[va] w (RetV (.string (qtx a)) w) := by
  obtain ⟨Xan, pan, qan, Xad, pad, qad, rfl, han, had⟩ := ha
  have Han := Lib.hid han
  have Had := Lib.hid had
  have SRa := Lib.hid sa
  clear han had sa
  generalize hs : decide (a.num < 0) = san at *
  clear hs
  generalize hs : decide ((a.den : Int) < 0) = sad at *
  clear hs
  have hd : Hid (decide ((a.den : Int) = 1) = false) := decide_eq_false h1
  have hq : Hid (qtx a = txs a.num ++ slash ++ txs a.den) := if_neg h1
  have hz1 := txs_size SRa.out.num
  have hz2 := txs_size SRa.out.den
  have HZ1 := Lib.hid hz1
  have HZ2 := Lib.hid hz2
  clear h1 hz1 hz2
  go_enter Tryz.func43, Tryz.ntmps43
  go_wp2_with fail
  obtain ⟨W, hW⟩ : ∃ W, W = (w.alloc (Obj.cells #[Value.bool san, Value.slice Xan pan qan, Value.bool sad, Value.slice Xad pad qad] 31)) := ⟨_, rfl⟩
  rw [← hW]
  have QXa : Hid (QBox W (w.heap.size) san (.slice Xan pan qan) sad (.slice Xad pad qad)) := by rw [hW]; have := QBox.new w san (Value.slice Xan pan qan) sad (Value.slice Xad pad qad); simpa [Hid] using this
  have IVna : Hid (Iv W (.agg #[.bool san, .slice Xan pan qan]) (a.num)) := by rw [hW]; exact (Han.out).alloc _
  have IVda : Hid (Iv W (.agg #[.bool sad, .slice Xad pad qad]) ((a.den : Int))) := by rw [hW]; exact (Had.out).alloc _
  have DW : Hid (Below w.heap.size w W) := by rw [hW]; exact (Below.refl _ _).alloc (by simp <;> omega) _
  clear hW
  generalize hg : w.heap.size = g at *
  replace hg := Lib.hid hg
  go_upto_region 1 with fail
  have u1a := QXa.out.cell0; have u1b := QXa.out.cell1; have u1c := QXa.out.cell2; have u1d := QXa.out.cell3
  go_wp2_with fail
  clear u1a u1b u1c u1d
  refine (qIsOne_any _ (a.den : Int) _ IVda.out (SRa.out.den.mono (by omega))).mono ?_
  rintro e y2 ⟨rfl, hb⟩
  replace QXa := nxq QXa hb rfl; replace IVna := nxv IVna hb rfl; replace IVda := nxv IVda hb rfl
  replace DW := nxd DW hg hb rfl rfl rfl rfl
  clear hb
  rw [hd.out]
  go_upto_region 3 with fail
  refine Rg.region_gg y2 [.is (.pointer (some ⟨g, 0, none⟩)), .is (.agg #[.bool san, .slice Xan pan qan]), .is (Value.string (txs a.num)), .is (Value.string (txs a.num ++ slash)), .is (.pointer (some ⟨g, 2, none⟩)), .is (.agg #[.bool sad, .slice Xad pad qad]), .is (Value.string (txs a.den)), .is (Value.string (txs a.num ++ slash ++ txs a.den)), .is (Value.string (txs a.num ++ slash ++ txs a.den))] [] [some 9, some 10, some 11, some 12, some 13, some 14, some 15, some 16, some 2] (by kernel_rfl) (by kernel_rfl) (by kernel_rfl) (by kernel_rfl) (by kernel_rfl) (by simp [Rg.stos]) (by rfl) (by rfl) (by kernel_rfl) (by simp) ((Below.refl _ _).drew) (fun Q' => ?_) (fun K hK wn hs => ?_)
  · refine ⟨?_, ?_, ?_, ?_, ?_, ?_, ?_, ?_, ?_, trivial⟩
    · intro a' w' ha hs hw hold
      have eo1 : a'.tmps[1]? = some (ptr g) := (ha.rest 1 (by kernel_rfl)).trans rfl
      exact ⟨rfl, .inl ⟨wanted_none rfl, wp_val (run_qfield0 rfl (ev_tmp eo1)) ⟨rfl, Below.refl _ _⟩⟩⟩
    · intro a' w' ha hs hw hold
      have e0 : a'.tmps[9]? = some (.pointer (some ⟨g, 0, none⟩)) := Rg.slot_get rfl rfl (hw 0 (by kernel_rfl) _ rfl)
      exact ⟨rfl, .inl ⟨wanted_none rfl, wp_val (run_qload0 rfl (ev_tmp e0) (QXa.out.bel hs (by simp))) ⟨rfl, Below.refl _ _⟩⟩⟩
    · intro a' w' ha hs hw hold
      have e1 : a'.tmps[10]? = some (.agg #[.bool san, .slice Xan pan qan]) := Rg.slot_get rfl rfl (hw 1 (by kernel_rfl) _ rfl)
      exact ⟨rfl, .inl ⟨wanted_none rfl, call_step rfl Tryz.func112 (by kernel_rfl) rfl (map_one (ev_tmp e1)) (text_is _ a.num _ (IVna.out.kn hs.kn) SRa.out.num) (fun e w2 he => by obtain ⟨rfl, hb⟩ := he; exact ⟨_, rfl, rfl, hb⟩)⟩⟩
    · intro a' w' ha hs hw hold
      have e2 : a'.tmps[11]? = some (Value.string (txs a.num)) := Rg.slot_get rfl rfl (hw 2 (by kernel_rfl) _ rfl)
      exact ⟨rfl, .inl ⟨wanted_none rfl, wp_val (run_add_str rfl (ev_tmp e2) rfl (by have := HZ1.out; show _ + 1 ≤ _; omega)) ⟨rfl, Below.refl _ _⟩⟩⟩
    · intro a' w' ha hs hw hold
      have eo1 : a'.tmps[1]? = some (ptr g) := (ha.rest 1 (by kernel_rfl)).trans rfl
      exact ⟨rfl, .inl ⟨wanted_none rfl, wp_val (run_qfield1 rfl (ev_tmp eo1)) ⟨rfl, Below.refl _ _⟩⟩⟩
    · intro a' w' ha hs hw hold
      have e4 : a'.tmps[13]? = some (.pointer (some ⟨g, 2, none⟩)) := Rg.slot_get rfl rfl (hw 4 (by kernel_rfl) _ rfl)
      exact ⟨rfl, .inl ⟨wanted_none rfl, wp_val (run_qload1 rfl (ev_tmp e4) (QXa.out.bel hs (by simp))) ⟨rfl, Below.refl _ _⟩⟩⟩
    · intro a' w' ha hs hw hold
      have e5 : a'.tmps[14]? = some (.agg #[.bool sad, .slice Xad pad qad]) := Rg.slot_get rfl rfl (hw 5 (by kernel_rfl) _ rfl)
      exact ⟨rfl, .inl ⟨wanted_none rfl, call_step rfl Tryz.func112 (by kernel_rfl) rfl (map_one (ev_tmp e5)) (text_is _ (a.den : Int) _ (IVda.out.kn hs.kn) SRa.out.den) (fun e w2 he => by obtain ⟨rfl, hb⟩ := he; exact ⟨_, rfl, rfl, hb⟩)⟩⟩
    · intro a' w' ha hs hw hold
      have e3 : a'.tmps[12]? = some (Value.string (txs a.num ++ slash)) := Rg.slot_get rfl rfl (hw 3 (by kernel_rfl) _ rfl)
      have e6 : a'.tmps[15]? = some (Value.string (txs a.den)) := Rg.slot_get rfl rfl (hw 6 (by kernel_rfl) _ rfl)
      exact ⟨rfl, .inl ⟨wanted_none rfl, wp_val (run_add_str rfl (ev_tmp e3) (ev_tmp e6) (by have := HZ1.out; have := HZ2.out; have e : (txs a.num ++ slash).size = (txs a.num).size + 1 := ByteArray.size_append; omega)) ⟨rfl, Below.refl _ _⟩⟩⟩
    · intro a' w' ha hs hw hold
      have e7 : a'.tmps[16]? = some (Value.string (txs a.num ++ slash ++ txs a.den)) := Rg.slot_get rfl rfl (hw 7 (by kernel_rfl) _ rfl)
      exact ⟨rfl, .inl ⟨wanted_none rfl, wp_val (run_assign rfl (ev_tmp e7)) ⟨rfl, Below.refl _ _⟩⟩⟩
  simp only [Rg.allG]
  simp only [setOpt, Rg.setOpt, List.set_cons_succ, List.set_cons_zero]
  refine hK _ _ ?_
  clear hK K
  replace hs := hs.below
  replace QXa := nxq QXa hs rfl; replace IVna := nxv IVna hs rfl; replace IVda := nxv IVda hs rfl
  replace DW := nxd DW hg hs rfl rfl rfl rfl
  clear hs
  go_wp2
  go_ret
  exact ⟨by rw [hq.out]; rfl, by rw [hg.out]; exact DW.out⟩

theorem qtext_any (va : Value) (a : Rat) (w : World) (ha : Qv w va a.num a.den) (sa : Sr a 200000) : Calls Tryz.prog 43 #[va] w (RetV (.string (qtx a)) w) := by
  by_cases h : (a.den : Int) = 1
  · exact qtext_one va a w ha sa h
  · exact qtext_two va a w ha sa h

set_option maxHeartbeats 8000000 in
set_option maxRecDepth 100000 in
theorem qbits_any (va : Value) (a : Rat) (w : World) (ha : Qv w va a.num a.den) (sa : Sr a 200000) : Calls Tryz.prog 41 #[va] w (RetV (.int .i64 ((bl a.num.natAbs : Nat) + (bl (a.den : Int).natAbs : Nat))) w) := by
  obtain ⟨Xan, pan, qan, Xad, pad, qad, rfl, han, had⟩ := ha
  have Han := Lib.hid han
  have Had := Lib.hid had
  have SRa := Lib.hid sa
  clear han had sa
  generalize hs : decide (a.num < 0) = san at *
  clear hs
  generalize hs : decide ((a.den : Int) < 0) = sad at *
  clear hs
  have HB : Hid (-9223372036854775808 ≤ ((bl a.num.natAbs : Nat) : Int) + (bl (a.den : Int).natAbs : Nat) ∧ ((bl a.num.natAbs : Nat) : Int) + (bl (a.den : Int).natAbs : Nat) ≤ 9223372036854775807) := by
    have h1 := bl_sz SRa.out.num
    have h2 := bl_sz SRa.out.den
    unfold Hid; omega

  go_enter Tryz.func41, Tryz.ntmps41
  go_wp2_with fail
  obtain ⟨W, hW⟩ : ∃ W, W = (w.alloc (Obj.cells #[Value.bool san, Value.slice Xan pan qan, Value.bool sad, Value.slice Xad pad qad] 31)) := ⟨_, rfl⟩
  rw [← hW]
  have QXa : Hid (QBox W (w.heap.size) san (.slice Xan pan qan) sad (.slice Xad pad qad)) := by rw [hW]; have := QBox.new w san (Value.slice Xan pan qan) sad (Value.slice Xad pad qad); simpa [Hid] using this
  have IVna : Hid (Iv W (.agg #[.bool san, .slice Xan pan qan]) (a.num)) := by rw [hW]; exact (Han.out).alloc _
  have IVda : Hid (Iv W (.agg #[.bool sad, .slice Xad pad qad]) ((a.den : Int))) := by rw [hW]; exact (Had.out).alloc _
  have DW : Hid (Below w.heap.size w W) := by rw [hW]; exact (Below.refl _ _).alloc (by simp <;> omega) _
  clear hW
  generalize hg : w.heap.size = g at *
  replace hg := Lib.hid hg
  go_upto_region 1 with fail
  refine Rg.region_gg W [.is (.pointer (some ⟨g, 0, none⟩)), .is (.agg #[.bool san, .slice Xan pan qan]), .is (Value.int IntKind.i64 (bl a.num.natAbs : Nat)), .is (.pointer (some ⟨g, 2, none⟩)), .is (.agg #[.bool sad, .slice Xad pad qad]), .is (Value.int IntKind.i64 (bl (a.den : Int).natAbs : Nat)), .is (Value.int IntKind.i64 ((bl a.num.natAbs : Nat) + (bl (a.den : Int).natAbs : Nat))), .is (Value.int IntKind.i64 ((bl a.num.natAbs : Nat) + (bl (a.den : Int).natAbs : Nat)))] [] [some 3, some 4, some 5, some 6, some 7, some 8, some 9, some 2] (by kernel_rfl) (by kernel_rfl) (by kernel_rfl) (by kernel_rfl) (by kernel_rfl) (by simp [Rg.stos]) (by rfl) (by rfl) (by kernel_rfl) (by simp) ((Below.refl _ _).drew) (fun Q' => ?_) (fun K hK wn hs => ?_)
  · refine ⟨?_, ?_, ?_, ?_, ?_, ?_, ?_, ?_, trivial⟩
    · intro a' w' ha hs hw hold
      have eo1 : a'.tmps[1]? = some (ptr g) := (ha.rest 1 (by kernel_rfl)).trans rfl
      exact ⟨rfl, .inl ⟨wanted_none rfl, wp_val (run_qfield0 rfl (ev_tmp eo1)) ⟨rfl, Below.refl _ _⟩⟩⟩
    · intro a' w' ha hs hw hold
      have e0 : a'.tmps[3]? = some (.pointer (some ⟨g, 0, none⟩)) := Rg.slot_get rfl rfl (hw 0 (by kernel_rfl) _ rfl)
      exact ⟨rfl, .inl ⟨wanted_none rfl, wp_val (run_qload0 rfl (ev_tmp e0) (QXa.out.bel hs (by simp))) ⟨rfl, Below.refl _ _⟩⟩⟩
    · intro a' w' ha hs hw hold
      have e1 : a'.tmps[4]? = some (.agg #[.bool san, .slice Xan pan qan]) := Rg.slot_get rfl rfl (hw 1 (by kernel_rfl) _ rfl)
      exact ⟨rfl, .inl ⟨wanted_none rfl, call_step rfl Tryz.func110 (by kernel_rfl) rfl (map_one (ev_tmp e1)) (bits_int _ a.num _ (IVna.out.kn hs.kn) (SRa.out.num.mono (by omega))) (fun e w2 he => by obtain ⟨rfl, hb⟩ := he; exact ⟨_, rfl, rfl, hb⟩)⟩⟩
    · intro a' w' ha hs hw hold
      have eo1 : a'.tmps[1]? = some (ptr g) := (ha.rest 1 (by kernel_rfl)).trans rfl
      exact ⟨rfl, .inl ⟨wanted_none rfl, wp_val (run_qfield1 rfl (ev_tmp eo1)) ⟨rfl, Below.refl _ _⟩⟩⟩
    · intro a' w' ha hs hw hold
      have e3 : a'.tmps[6]? = some (.pointer (some ⟨g, 2, none⟩)) := Rg.slot_get rfl rfl (hw 3 (by kernel_rfl) _ rfl)
      exact ⟨rfl, .inl ⟨wanted_none rfl, wp_val (run_qload1 rfl (ev_tmp e3) (QXa.out.bel hs (by simp))) ⟨rfl, Below.refl _ _⟩⟩⟩
    · intro a' w' ha hs hw hold
      have e4 : a'.tmps[7]? = some (.agg #[.bool sad, .slice Xad pad qad]) := Rg.slot_get rfl rfl (hw 4 (by kernel_rfl) _ rfl)
      exact ⟨rfl, .inl ⟨wanted_none rfl, call_step rfl Tryz.func110 (by kernel_rfl) rfl (map_one (ev_tmp e4)) (bits_int _ (a.den : Int) _ (IVda.out.kn hs.kn) (SRa.out.den.mono (by omega))) (fun e w2 he => by obtain ⟨rfl, hb⟩ := he; exact ⟨_, rfl, rfl, hb⟩)⟩⟩
    · intro a' w' ha hs hw hold
      have e2 : a'.tmps[5]? = some (Value.int IntKind.i64 (bl a.num.natAbs : Nat)) := Rg.slot_get rfl rfl (hw 2 (by kernel_rfl) _ rfl)
      have e5 : a'.tmps[8]? = some (Value.int IntKind.i64 (bl (a.den : Int).natAbs : Nat)) := Rg.slot_get rfl rfl (hw 5 (by kernel_rfl) _ rfl)
      exact ⟨rfl, .inl ⟨wanted_none rfl, wp_val (run_add_i64 rfl (ev_tmp e2) (ev_tmp e5) HB.out) ⟨rfl, Below.refl _ _⟩⟩⟩
    · intro a' w' ha hs hw hold
      have e6 : a'.tmps[9]? = some (Value.int IntKind.i64 ((bl a.num.natAbs : Nat) + (bl (a.den : Int).natAbs : Nat))) := Rg.slot_get rfl rfl (hw 6 (by kernel_rfl) _ rfl)
      exact ⟨rfl, .inl ⟨wanted_none rfl, wp_val (run_assign rfl (ev_tmp e6)) ⟨rfl, Below.refl _ _⟩⟩⟩
  simp only [Rg.allG]
  simp only [setOpt, Rg.setOpt, List.set_cons_succ, List.set_cons_zero]
  refine hK _ _ ?_
  clear hK K
  replace hs := hs.below
  replace QXa := nxq QXa hs rfl; replace IVna := nxv IVna hs rfl; replace IVda := nxv IVda hs rfl
  replace DW := nxd DW hg hs rfl rfl rfl rfl
  clear hs
  go_wp2
  go_ret
  exact ⟨rfl, by rw [hg.out]; exact DW.out⟩

set_option maxHeartbeats 8000000 in
set_option maxRecDepth 100000 in
theorem qvalid_pos (va : Value) (zan zad : Int) (w : World) (ha : Qv w va zan zad) (san : Sz zan 1000000) (sad : Sz zad 1000000) (hp : 0 < zad) : Calls Tryz.prog 45 #[va] w (RetV (.bool (decide (((Nat.gcd zan.natAbs zad.natAbs : Nat) : Int) = 1))) w) := by
  obtain ⟨Xan, pan, qan, Xad, pad, qad, rfl, han, had⟩ := ha
  have Han := Lib.hid han
  have Had := Lib.hid had
  have SZan := Lib.hid san
  have SZad := Lib.hid sad
  clear han had san sad
  generalize hs : decide (zan < 0) = san at *
  clear hs
  generalize hs : decide (zad < 0) = sad at *
  clear hs
  obtain ⟨SB, hSB⟩ : ∃ x, sg zad = x := ⟨_, rfl⟩
  have hle : decide (SB ≤ 0) = false := by
    rw [← hSB]
    rcases sg_cases zad with ⟨h1, e1⟩ | ⟨h1, e1⟩ | ⟨h1, e1⟩ <;> rw [e1] <;> first | rfl | omega
  replace hle := Lib.hid hle
  replace hSB := Lib.hid hSB
  clear hp
  go_enter Tryz.func45, Tryz.ntmps45
  go_wp2_with fail
  obtain ⟨W, hW⟩ : ∃ W, W = (w.alloc (Obj.cells #[Value.bool san, Value.slice Xan pan qan, Value.bool sad, Value.slice Xad pad qad] 31)) := ⟨_, rfl⟩
  rw [← hW]
  have QXa : Hid (QBox W (w.heap.size) san (.slice Xan pan qan) sad (.slice Xad pad qad)) := by rw [hW]; have := QBox.new w san (Value.slice Xan pan qan) sad (Value.slice Xad pad qad); simpa [Hid] using this
  have IVna : Hid (Iv W (.agg #[.bool san, .slice Xan pan qan]) (zan)) := by rw [hW]; exact (Han.out).alloc _
  have IVda : Hid (Iv W (.agg #[.bool sad, .slice Xad pad qad]) (zad)) := by rw [hW]; exact (Had.out).alloc _
  have DW : Hid (Below w.heap.size w W) := by rw [hW]; exact (Below.refl _ _).alloc (by simp <;> omega) _
  clear hW
  generalize hg : w.heap.size = g at *
  replace hg := Lib.hid hg
  go_upto_region 1 with fail
  have u1a := QXa.out.cell0; have u1b := QXa.out.cell1; have u1c := QXa.out.cell2; have u1d := QXa.out.cell3
  go_wp2_with fail
  clear u1a u1b u1c u1d
  refine (valid_any _ zan _ IVna.out SZan.out).mono ?_
  rintro e y2 ⟨rfl, hb⟩
  replace QXa := nxq QXa hb rfl; replace IVna := nxv IVna hb rfl; replace IVda := nxv IVda hb rfl
  replace DW := nxd DW hg hb rfl rfl rfl rfl
  clear hb
  have u3a := QXa.out.cell0; have u3b := QXa.out.cell1; have u3c := QXa.out.cell2; have u3d := QXa.out.cell3
  go_wp2_with fail
  clear u3a u3b u3c u3d
  refine (valid_any _ zad _ IVda.out SZad.out).mono ?_
  rintro e y4 ⟨rfl, hb⟩
  replace QXa := nxq QXa hb rfl; replace IVna := nxv IVna hb rfl; replace IVda := nxv IVda hb rfl
  replace DW := nxd DW hg hb rfl rfl rfl rfl
  clear hb
  have u5a := QXa.out.cell0; have u5b := QXa.out.cell1; have u5c := QXa.out.cell2; have u5d := QXa.out.cell3
  go_wp2_with fail
  clear u5a u5b u5c u5d
  refine (sign_any _ zad _ IVda.out SZad.out).mono ?_
  rintro e y6 ⟨rfl, hb⟩
  replace QXa := nxq QXa hb rfl; replace IVna := nxv IVna hb rfl; replace IVda := nxv IVda hb rfl
  replace DW := nxd DW hg hb rfl rfl rfl rfl
  clear hb
  rw [hSB.out]
  have hle2 := hle.out
  go_upto_region 3 with fail
  clear hle2
  have u7a := QXa.out.cell0; have u7b := QXa.out.cell1; have u7c := QXa.out.cell2; have u7d := QXa.out.cell3
  go_wp2_with fail
  clear u7a u7b u7c u7d
  refine (gcdI_any _ _ zan zad _ IVna.out IVda.out SZan.out SZad.out).mono ?_
  rintro e y8 ⟨_, rfl, hq, hb⟩
  obtain ⟨X9, p9, q9, rfl, _, _, _⟩ := hq.form
  replace hq := Lib.hid hq
  replace QXa := nxq QXa hb rfl; replace IVna := nxv IVna hb rfl; replace IVda := nxv IVda hb rfl
  replace DW := nxd DW hg hb rfl rfl rfl rfl
  clear hb
  have SG : Hid (Sz ((Nat.gcd zan.natAbs zad.natAbs : Nat) : Int) 1000000) := by
    refine ⟨?_⟩
    rw [Int.natAbs_natCast]
    rcases Nat.eq_zero_or_pos zad.natAbs with h0 | h0
    · rw [h0, Nat.gcd_zero_right]; exact SZan.out.lt
    · exact Nat.lt_of_le_of_lt (Nat.gcd_le_right _ h0) SZad.out.lt
  generalize hs9 : decide (((Nat.gcd zan.natAbs zad.natAbs : Nat) : Int) < 0) = s9 at *
  clear hs9
  go_wp2_with fail
  refine (qIsOne_any _ ((Nat.gcd zan.natAbs zad.natAbs : Nat) : Int) _ hq.out SG.out).mono ?_
  rintro e y99 ⟨rfl, hb⟩
  replace QXa := nxq QXa hb rfl; replace IVna := nxv IVna hb rfl; replace IVda := nxv IVda hb rfl
  replace DW := nxd DW hg hb rfl rfl rfl rfl
  clear hb
  go_wp2
  go_ret
  exact ⟨rfl, by rw [hg.out]; exact DW.out⟩

set_option maxHeartbeats 8000000 in
set_option maxRecDepth 100000 in
theorem qvalid_neg (va : Value) (zan zad : Int) (w : World) (ha : Qv w va zan zad) (san : Sz zan 1000000) (sad : Sz zad 1000000) (hp : zad ≤ 0) : Calls Tryz.prog 45 #[va] w (RetV (.bool false) w) := by
  obtain ⟨Xan, pan, qan, Xad, pad, qad, rfl, han, had⟩ := ha
  have Han := Lib.hid han
  have Had := Lib.hid had
  have SZan := Lib.hid san
  have SZad := Lib.hid sad
  clear han had san sad
  generalize hs : decide (zan < 0) = san at *
  clear hs
  generalize hs : decide (zad < 0) = sad at *
  clear hs
  obtain ⟨SB, hSB⟩ : ∃ x, sg zad = x := ⟨_, rfl⟩
  have hle : decide (SB ≤ 0) = true := by
    rw [← hSB]
    rcases sg_cases zad with ⟨h1, e1⟩ | ⟨h1, e1⟩ | ⟨h1, e1⟩ <;> rw [e1] <;> first | rfl | omega
  replace hle := Lib.hid hle
  replace hSB := Lib.hid hSB
  clear hp
  go_enter Tryz.func45, Tryz.ntmps45
  go_wp2_with fail
  obtain ⟨W, hW⟩ : ∃ W, W = (w.alloc (Obj.cells #[Value.bool san, Value.slice Xan pan qan, Value.bool sad, Value.slice Xad pad qad] 31)) := ⟨_, rfl⟩
  rw [← hW]
  have QXa : Hid (QBox W (w.heap.size) san (.slice Xan pan qan) sad (.slice Xad pad qad)) := by rw [hW]; have := QBox.new w san (Value.slice Xan pan qan) sad (Value.slice Xad pad qad); simpa [Hid] using this
  have IVna : Hid (Iv W (.agg #[.bool san, .slice Xan pan qan]) (zan)) := by rw [hW]; exact (Han.out).alloc _
  have IVda : Hid (Iv W (.agg #[.bool sad, .slice Xad pad qad]) (zad)) := by rw [hW]; exact (Had.out).alloc _
  have DW : Hid (Below w.heap.size w W) := by rw [hW]; exact (Below.refl _ _).alloc (by simp <;> omega) _
  clear hW
  generalize hg : w.heap.size = g at *
  replace hg := Lib.hid hg
  go_upto_region 1 with fail
  have u1a := QXa.out.cell0; have u1b := QXa.out.cell1; have u1c := QXa.out.cell2; have u1d := QXa.out.cell3
  go_wp2_with fail
  clear u1a u1b u1c u1d
  refine (valid_any _ zan _ IVna.out SZan.out).mono ?_
  rintro e y2 ⟨rfl, hb⟩
  replace QXa := nxq QXa hb rfl; replace IVna := nxv IVna hb rfl; replace IVda := nxv IVda hb rfl
  replace DW := nxd DW hg hb rfl rfl rfl rfl
  clear hb
  have u3a := QXa.out.cell0; have u3b := QXa.out.cell1; have u3c := QXa.out.cell2; have u3d := QXa.out.cell3
  go_wp2_with fail
  clear u3a u3b u3c u3d
  refine (valid_any _ zad _ IVda.out SZad.out).mono ?_
  rintro e y4 ⟨rfl, hb⟩
  replace QXa := nxq QXa hb rfl; replace IVna := nxv IVna hb rfl; replace IVda := nxv IVda hb rfl
  replace DW := nxd DW hg hb rfl rfl rfl rfl
  clear hb
  have u5a := QXa.out.cell0; have u5b := QXa.out.cell1; have u5c := QXa.out.cell2; have u5d := QXa.out.cell3
  go_wp2_with fail
  clear u5a u5b u5c u5d
  refine (sign_any _ zad _ IVda.out SZad.out).mono ?_
  rintro e y6 ⟨rfl, hb⟩
  replace QXa := nxq QXa hb rfl; replace IVna := nxv IVna hb rfl; replace IVda := nxv IVda hb rfl
  replace DW := nxd DW hg hb rfl rfl rfl rfl
  clear hb
  rw [hSB.out]
  have hle2 := hle.out
  go_wp2
  go_ret
  exact ⟨rfl, by rw [hg.out]; exact DW.out⟩
end Go.Proofs.YtfigimfdojbkeaaGreat
