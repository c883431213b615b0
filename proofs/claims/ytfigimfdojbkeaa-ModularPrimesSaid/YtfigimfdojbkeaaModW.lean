/-
  Layer 3: the reference's Residue.
-/
import Derived.Test.YtfigimfdojbkeaaModV
set_option linter.unusedSimpArgs false
set_option linter.unusedVariables false
namespace Go.Proofs.Ytfigimfdojbkeaa
open Go.RowKit
attribute [local go_sem ↓] Go.wp_at_zero Go.wp_at_succ

section
variable {o : Oper} {w : World} {ρ : Operand → Value} {x : Operand}
theorem run_conv_i64 {m : Int} (ho : o.op = .convert 52 2 x) (hx : ρ x = .int .u64 m) (hm : -9223372036854775808 ≤ m ∧ m ≤ 9223372036854775807) : (execOp ρ o).run Try.prog w = .ok (.value (.int .i64 m)) w := by
  simp [execOp, ho, hx, go_sem, convert, run_underlying Try.underlying52, run_underlying Try.underlying2]
  exact IntWalk.i64_in _ hm
end

set_option maxHeartbeats 4000000 in
set_option maxRecDepth 100000 in
theorem eresidue_any (va : Value) (z : Int) (p : Nat) (w : World) (ha : Iv w va z) (sa : Sz z 1000) (hp0 : 0 < p) (hp : p ≤ 2147483648) : Calls Try.prog 59 #[va, .int .u64 p] w (RetV (.int .u64 ((z % (p : Int)).toNat : Nat)) w) := by
  obtain ⟨A, n, c, rfl, h1, h2, _⟩ := ha.form
  have HA := Lib.hid ha
  obtain ⟨R, hR⟩ : ∃ R : Nat, (z % (p : Int)).toNat = R := ⟨_, rfl⟩
  have hRp : R < p := by rw [← hR]; exact res_lt hp0
  have hRz : z % (p : Int) = (R : Int) := by
    have h1 := Int.emod_nonneg z (show (p : Int) ≠ 0 by omega)
    omega
  rw [hR]
  have HRZ := Lib.hid hRz
  have hwp : Hid (-9223372036854775808 ≤ (p : Int) ∧ (p : Int) ≤ 9223372036854775807) := ⟨by omega, by omega⟩
  have SZa := Lib.hid sa
  have SZp : Hid (Sz (p : Int) 2) := I64.sz ⟨by omega, by omega⟩
  have SZq : Hid (Sz (z / (p : Int)) 1000) := SZa.out.of_le (Int.natAbs_ediv_le_natAbs _ _)
  have SZr : Hid (Sz (z % (p : Int)) 1000) := (SZp.out.mono (by omega)).of_le (by rw [hRz, Int.natAbs_natCast, Int.natAbs_natCast]; omega)
  have hpz : (p : Int) ≠ 0 := by omega
  have HPZ := Lib.hid hpz
  generalize hs : decide (z < 0) = sz at *
  clear ha hs hR hRz sa hpz
  go_enter Try.func59, Try.ntmps59
  go_wp2_with fail
  obtain ⟨W, hW⟩ : ∃ W, W = w.alloc (Obj.cells #[Value.bool sz, Value.slice A n c] 27) := ⟨_, rfl⟩
  rw [← hW]
  have BXa : Hid (Box W w.heap.size sz (.slice A n c)) := by rw [hW]; exact Box.new _ _ _
  have IVa : Hid (Iv W (.agg #[.bool sz, .slice A n c]) z) := by rw [hW]; exact HA.out.alloc _
  have DW : Hid (Below w.heap.size w W) := by rw [hW]; exact (Below.refl _ _).alloc (Nat.le_refl _) _
  clear hW
  generalize hg : w.heap.size = ga at *
  refine region_go W [.is (.agg #[.bool sz, .slice A n c]), .is (Value.int IntKind.u64 (p : Int)), .is (Value.int IntKind.i64 (p : Int)), .iv ((p : Int)), .tup [.inl (z / (p : Int)), .inl (z % (p : Int)), .inr (Value.int IntKind.i64 0)], .tup [.inl (z / (p : Int)), .inl (z % (p : Int)), .inr (Value.int IntKind.i64 0)], .iv (z / (p : Int)), .iv (z % (p : Int)), .is (Value.int IntKind.i64 0), .new, .new, .put 9 (z / (p : Int)), .put 10 (z % (p : Int)), .is (Value.int IntKind.i64 0)] [some 11, some 12, some 13, some 14, some 15, some 10, some 16, some 17, some 18, some 5, some 6, none, none, some 7] (by kernel_rfl) (by kernel_rfl) (by kernel_rfl) (by kernel_rfl) (by kernel_rfl) (by rfl) (by kernel_rfl) ((Below.refl _ _).drew) (fun Q' => ?_) (fun K hK wn hs => ?_)
  · refine ⟨?_, ?_, ?_, ?_, ?_, ?_, ?_, ?_, ?_, ?_, ?_, ?_, ?_, ?_, trivial⟩
    · intro a' w' ha hs hw
      have eo2 : a'.tmps[2]? = some (ptr ga) := (ha.rest 2 (by kernel_rfl)).trans rfl
      exact ⟨wanted_none rfl, rfl, wp_val (run_load rfl (ev_tmp eo2) (BXa.out.next hs rfl)) ⟨rfl, Below.refl _ _⟩⟩
    · intro a' w' ha hs hw
      have eo1 : a'.tmps[1]? = some (Value.int IntKind.u64 (p : Int)) := (ha.rest 1 (by kernel_rfl)).trans rfl
      exact ⟨wanted_none rfl, rfl, wp_val (run_move rfl (ev_tmp eo1)) ⟨rfl, Below.refl _ _⟩⟩
    · intro a' w' ha hs hw
      have e1 : a'.tmps[12]? = some (Value.int IntKind.u64 (p : Int)) := slot_get rfl rfl (hw 1 (by kernel_rfl) _ rfl)
      exact ⟨wanted_none rfl, rfl, wp_val (run_conv_i64 rfl (ev_tmp e1) hwp.out) ⟨rfl, Below.refl _ _⟩⟩
    · intro a' w' ha hs hw
      have e2 : a'.tmps[13]? = some (Value.int IntKind.i64 (p : Int)) := slot_get rfl rfl (hw 2 (by kernel_rfl) _ rfl)
      exact ⟨wanted_none rfl, rfl, call_step rfl Try.func64 (by kernel_rfl) rfl (map_one (ev_tmp e2)) (rof_any (p : Int) _ (by omega) (by omega)) (fun e w2 he => by obtain ⟨v, rfl, hv, hb⟩ := he; exact ⟨v, rfl, v, rfl, hv, hb⟩)⟩
    · intro a' w' ha hs hw
      have e0 : a'.tmps[11]? = some (.agg #[.bool sz, .slice A n c]) := slot_get rfl rfl (hw 0 (by kernel_rfl) _ rfl)
      obtain ⟨v3, e3, q3⟩ := hw 3 (by kernel_rfl) _ rfl
      replace e3 : a'.tmps[14]? = some v3 := slot_get rfl rfl e3
      exact ⟨wanted_none rfl, rfl, call_step rfl Try.func20 (by kernel_rfl) rfl (map_two (ev_tmp e0) (ev_tmp e3)) (rdivMod_any _ _ z (p : Int) _ (iv_next IVa.out hs rfl) q3 (SZa.out.mono (by omega)) (SZp.out.mono (by omega)) HPZ.out) (fun e w2 he => by obtain ⟨v, u, rfl, h1, h2, hb⟩ := he; exact ⟨_, rfl, [v, u, .int .i64 0], rfl, ⟨h1, h2, rfl, trivial⟩, hb⟩)⟩
    · intro a' w' ha hs hw
      obtain ⟨us4, e4, q4⟩ := hw 4 (by kernel_rfl) _ rfl
      replace e4 : a'.tmps[15]? = some (.tuple us4.toArray) := slot_get rfl rfl e4
      exact ⟨wanted_none rfl, rfl, wp_val (run_move rfl (ev_tmp e4)) ⟨_, rfl, q4, Below.refl _ _⟩⟩
    · intro a' w' ha hs hw
      obtain ⟨us5, e5, q5⟩ := hw 5 (by kernel_rfl) _ rfl
      replace e5 : a'.tmps[10]? = some (.tuple us5.toArray) := slot_get rfl rfl e5
      match us5, e5, q5 with
      | [u0, u1, u2], e5, ⟨h0, h1, h2, _⟩ =>
        exact ⟨wanted_none rfl, rfl, wp_val (run_extract rfl (ev_tmp e5) rfl) ⟨_, rfl, h0, Below.refl _ _⟩⟩
    · intro a' w' ha hs hw
      obtain ⟨us5, e5, q5⟩ := hw 5 (by kernel_rfl) _ rfl
      replace e5 : a'.tmps[10]? = some (.tuple us5.toArray) := slot_get rfl rfl e5
      match us5, e5, q5 with
      | [u0, u1, u2], e5, ⟨h0, h1, h2, _⟩ =>
        exact ⟨wanted_none rfl, rfl, wp_val (run_extract rfl (ev_tmp e5) rfl) ⟨_, rfl, h1, Below.refl _ _⟩⟩
    · intro a' w' ha hs hw
      obtain ⟨us5, e5, q5⟩ := hw 5 (by kernel_rfl) _ rfl
      replace e5 : a'.tmps[10]? = some (.tuple us5.toArray) := slot_get rfl rfl e5
      match us5, e5, q5 with
      | [u0, u1, u2], e5, ⟨h0, h1, h2, _⟩ =>
        exact ⟨wanted_none rfl, rfl, wp_val (run_extract rfl (ev_tmp e5) (by rw [h2]; rfl)) ⟨rfl, Below.refl _ _⟩⟩
    · intro a' w' ha hs hw
      exact ⟨wanted_none rfl, rfl, wp_valw (run_alloc rfl) ⟨rfl, rfl⟩⟩
    · intro a' w' ha hs hw
      exact ⟨wanted_none rfl, rfl, wp_valw (run_alloc rfl) ⟨rfl, rfl⟩⟩
    · intro a' w' ha hs hw
      obtain ⟨v6, e6, q6⟩ := hw 6 (by kernel_rfl) _ rfl
      replace e6 : a'.tmps[16]? = some v6 := slot_get rfl rfl e6
      refine ⟨wanted_none rfl, by kernel_rfl, fun g hg => ?_⟩
      obtain ⟨A, n, c, hf, _, _, _⟩ := q6.form
      subst hf
      exact ⟨_, A, n, c, q6, fun ⟨_, _, _, _, hb⟩ => wp_skipw (run_store rfl (ev_tmp (slot_get rfl rfl hg)) (ev_tmp e6) hb) rfl ⟨rfl, rfl⟩⟩
    · intro a' w' ha hs hw
      obtain ⟨v7, e7, q7⟩ := hw 7 (by kernel_rfl) _ rfl
      replace e7 : a'.tmps[17]? = some v7 := slot_get rfl rfl e7
      refine ⟨wanted_none rfl, by kernel_rfl, fun g hg => ?_⟩
      obtain ⟨A, n, c, hf, _, _, _⟩ := q7.form
      subst hf
      exact ⟨_, A, n, c, q7, fun ⟨_, _, _, _, hb⟩ => wp_skipw (run_store rfl (ev_tmp (slot_get rfl rfl hg)) (ev_tmp e7) hb) rfl ⟨rfl, rfl⟩⟩
    · intro a' w' ha hs hw
      have e8 : a'.tmps[18]? = some (Value.int IntKind.i64 0) := slot_get rfl rfl (hw 8 (by kernel_rfl) _ rfl)
      exact ⟨wanted_none rfl, rfl, wp_val (run_assign rfl (ev_tmp e8)) ⟨rfl, Below.refl _ _⟩⟩
  simp only [allQ]
  intro r1x3 _
  intro r1x4 _
  intro r1x5 _
  intro r1x6 _
  intro r1x7 _
  intro gq hGq
  intro gr hGr
  intro gg sq Xq pq qq he BXq IVq
  simp only [List.nil_append, List.cons_append, List.getElem?_cons_succ, List.getElem?_cons_zero, Option.some.injEq] at he
  obtain rfl := ptr_inj he
  clear he
  replace BXq := Lib.hid BXq; replace IVq := Lib.hid IVq
  intro gg sr Xr pr qr he BXr IVr
  simp only [List.nil_append, List.cons_append, List.getElem?_cons_succ, List.getElem?_cons_zero, Option.some.injEq] at he
  obtain rfl := ptr_inj he
  clear he
  replace BXr := Lib.hid BXr; replace IVr := Lib.hid IVr
  simp only [setOpt, List.set_cons_succ, List.set_cons_zero, ptr]
  refine hK _ _ ?_
  clear hK K
  replace BXa := Lib.hid (BXa.out.next hs rfl); replace IVa := Lib.hid (iv_next IVa.out hs rfl)
  replace DW := Lib.hid (link_below DW.out hs (by have := DW.out.size; omega) rfl rfl rfl rfl)
  clear hs
  rw [HRZ.out] at IVr SZr
  have hsm : Hid (smallV (R : Int) = .tuple #[.int .i64 (R : Int), .bool true]) := by unfold Hid smallV; rw [if_pos (by omega)]
  have u1 := BXr.out.cell0; have u2 := BXr.out.cell1
  go_wp2_with fail
  clear u1 u2
  refine (rsmall_any _ (R : Int) _ IVr.out (SZr.out.mono (by omega))).mono ?_
  rw [hsm.out]
  rintro e w2 ⟨rfl, hb⟩
  replace BXa := Lib.hid (BXa.out.next hb rfl); replace IVa := Lib.hid (iv_next IVa.out hb rfl)
  replace BXq := Lib.hid (BXq.out.next hb rfl); replace IVq := Lib.hid (iv_next IVq.out hb rfl)
  replace BXr := Lib.hid (BXr.out.next hb rfl); replace IVr := Lib.hid (iv_next IVr.out hb rfl)
  replace DW := Lib.hid (link_below DW.out hb (by have := DW.out.size; omega) rfl rfl rfl rfl)
  clear hb
  go_wp2
  go_ret
  exact ⟨rfl, by rw [hg]; exact DW.out⟩
end Go.Proofs.Ytfigimfdojbkeaa
