/-
  Contracts of Small, Valid, Pow and Root.
-/
import Derived.Test.YtfigimfdojbkeaaIntD
set_option linter.unusedSimpArgs false
set_option linter.unusedVariables false
namespace Go.Proofs.Ytfigimfdojbkeaa
open Go.RowKit
attribute [local go_sem ↓] Go.wp_at_zero Go.wp_at_succ

/-- What Small gives. -/
def smallV (z : Int) : Value := if -9223372036854775808 ≤ z ∧ z ≤ 9223372036854775807 then .tuple #[.int .i64 z, .bool true] else .tuple #[.int .i64 0, .bool false]
theorem ret_pair {a b c d : Value} (h : Value.tuple #[a, b] = .tuple #[c, d]) : Ending.returned (.tuple #[a, b]) = .returned (.tuple #[c, d]) := by rw [h]

set_option maxHeartbeats 2000000 in
set_option maxRecDepth 100000 in
theorem small_any (va : Value) (z : Int) (w : World) (ha : Iv w va z) (sa : Sz z 1000000) : Calls Try.prog 89 #[va] w (RetV (smallV z) w) := by
  obtain ⟨A, n, c, rfl, h1, h2, h3⟩ := ha.form
  have H3 := Lib.hid h3
  have hn : n ≤ 1000000 := by rw [← h3.len]; exact sa.len
  clear sa ha
  by_cases hn2 : n ≤ 2
  · have hxl := Lib.hid (number_val h3.len hn2)
    have hxb : z.natAbs < 18446744073709551616 := by
      rw [← hxl.out]
      have := (mag_wds z.natAbs).getD 0
      have := (mag_wds z.natAbs).getD 1
      omega
    clear h3
    by_cases hneg : z < 0
    · obtain ⟨x, rfl⟩ : ∃ x : Nat, z = -(x : Int) := ⟨z.natAbs, by omega⟩
      rw [decide_eq_true hneg]
      rw [show (-(x : Int)).natAbs = x by omega] at *
      by_cases hle : x ≤ 9223372036854775808
      · have hres : Hid (smallV (-(x : Int)) = .tuple #[.int .i64 (-(x : Int)), .bool true]) := by unfold smallV Hid; rw [if_pos (by omega)]
        have hw : IntKind.i64.wrap (IntKind.u64.wrap (-(x : Int))) = -(x : Int) := by rw [IntKind.wrap_u64, IntKind.wrap_i64]; omega
        clear hneg
        go_enter Try.func89, Try.ntmps89
        go_wp2_with fail
        refine (words_int _ A n c _ _ (H3.out.alloc _) (by omega) h1).mono ?_
        rintro e w1 ⟨rfl, hbl1⟩
        have hb := (Box.new w true (.slice A n c)).below hbl1 (by simp)
        have q0 := hb.cell0
        clear hb
        go_wp2_with fail
        refine (number_any A n c _ _ ((H3.out.alloc _).below hbl1) (by omega)).mono ?_
        rintro e w2 ⟨rfl, rfl⟩
        rw [hxl.out]
        go_wp2
        go_ret2
        exact ⟨by rw [hres.out, ← hw]; rfl, below_new hbl1⟩
      · have hres : Hid (smallV (-(x : Int)) = .tuple #[.int .i64 0, .bool false]) := by unfold smallV Hid; rw [if_neg (by omega)]
        clear hneg
        go_enter Try.func89, Try.ntmps89
        go_wp2_with fail
        refine (words_int _ A n c _ _ (H3.out.alloc _) (by omega) h1).mono ?_
        rintro e w1 ⟨rfl, hbl1⟩
        have hb := (Box.new w true (.slice A n c)).below hbl1 (by simp)
        have q0 := hb.cell0
        clear hb
        go_wp2_with fail
        refine (number_any A n c _ _ ((H3.out.alloc _).below hbl1) (by omega)).mono ?_
        rintro e w2 ⟨rfl, rfl⟩
        rw [hxl.out]
        go_wp2
        go_ret2
        exact ⟨by rw [hres.out]; rfl, below_new hbl1⟩
    · obtain ⟨x, rfl⟩ : ∃ x : Nat, z = (x : Int) := ⟨z.natAbs, by omega⟩
      rw [decide_eq_false hneg]
      rw [Int.natAbs_natCast] at *
      by_cases hle : x < 9223372036854775808
      · have hres : Hid (smallV (x : Int) = .tuple #[.int .i64 (x : Int), .bool true]) := by unfold smallV Hid; rw [if_pos (by omega)]
        have hd : True → decide ((x : Int) < 9223372036854775808) = true := fun _ => decide_eq_true (by omega)
        have hw : Hid (wrap64 (x : Int) = x) := IntWalk.wrap64_in _ (by omega)
        clear hneg hxb hle
        go_enter Try.func89, Try.ntmps89
        go_wp2_with fail
        refine (words_int _ A n c _ _ (H3.out.alloc _) (by omega) h1).mono ?_
        rintro e w1 ⟨rfl, hbl1⟩
        have hb := (Box.new w false (.slice A n c)).below hbl1 (by simp)
        have q0 := hb.cell0
        clear hb
        go_wp2_with fail
        refine (number_any A n c _ _ ((H3.out.alloc _).below hbl1) (by omega)).mono ?_
        rintro e w2 ⟨rfl, rfl⟩
        rw [hxl.out]
        go_wp2
        go_ret2
        exact ⟨by rw [hres.out]; exact congrArg (fun t => Ending.returned (.tuple #[.int .i64 t, .bool true])) hw.out, below_new hbl1⟩
      · have hres : Hid (smallV (x : Int) = .tuple #[.int .i64 0, .bool false]) := by unfold smallV Hid; rw [if_neg (by omega)]
        have hd : True → decide ((x : Int) < 9223372036854775808) = false := fun _ => decide_eq_false (by omega)
        clear hneg hxb hle
        go_enter Try.func89, Try.ntmps89
        go_wp2_with fail
        refine (words_int _ A n c _ _ (H3.out.alloc _) (by omega) h1).mono ?_
        rintro e w1 ⟨rfl, hbl1⟩
        have hb := (Box.new w false (.slice A n c)).below hbl1 (by simp)
        have q0 := hb.cell0
        clear hb
        go_wp2_with fail
        refine (number_any A n c _ _ ((H3.out.alloc _).below hbl1) (by omega)).mono ?_
        rintro e w2 ⟨rfl, rfl⟩
        rw [hxl.out]
        go_wp2
        go_ret2
        exact ⟨by rw [hres.out]; rfl, below_new hbl1⟩
  · have hbig : 18446744073709551616 ≤ z.natAbs := by
      rcases Nat.lt_or_ge z.natAbs 18446744073709551616 with h | h
      · have := mag_length_le (show z.natAbs < pw 2 from h)
        rw [h3.len] at this
        omega
      · exact h
    have hres : Hid (smallV z = .tuple #[.int .i64 0, .bool false]) := by unfold smallV Hid; rw [if_neg (by omega)]
    clear h3 hbig
    go_enter Try.func89, Try.ntmps89
    go_wp2_with fail
    refine (words_int _ A n c _ _ (H3.out.alloc _) (by omega) h1).mono ?_
    rintro e w1 ⟨rfl, hbl1⟩
    go_wp2
    go_ret2
    exact ⟨by rw [hres.out]; rfl, below_new hbl1⟩

set_option maxHeartbeats 1000000 in
theorem valid_any (va : Value) (z : Int) (w : World) (ha : Iv w va z) (sa : Sz z 1000000) : Calls Try.prog 41 #[va] w (RetV (.bool true) w) := by
  obtain ⟨A, n, c, rfl, h1, h2, h3⟩ := ha.form
  have hn : n ≤ 1000000 := by rw [← h3.len]; exact sa.len
  by_cases h0 : n = 0
  · have hz := h3.pos_iff.1 h0
    subst h0
    subst hz
    clear h3 sa ha
    go_enter Try.func41, Try.ntmps41
    go_wp2
    go_ret
    exact ⟨by simp, (Below.refl _ _).alloc (Nat.le_refl _) _⟩
  · have hc := (mag_can z.natAbs).2.resolve_left (fun e => h0 (by have := h3.len; rw [e] at this; simpa using this.symm))
    rw [h3.len] at hc
    obtain ⟨b, o, rfl, hlt, hcell⟩ := h3.cells (by omega)
    have c0 := hcell (n - 1) (by omega)
    have c1 : (w.alloc (.cells #[.bool (decide (z < 0)), .slice (some ⟨b, o, none⟩) n c] 27)).cell? ⟨b, o + (n - 1), none⟩ = some (.int .u32 (gd (mag z.natAbs) (n - 1) : Nat)) := by
      rw [World.cell?_alloc_past _ _ _ hlt]; exact c0
    have hne : ((gd (mag z.natAbs) (n - 1) : Nat) : Int) != 0 := by simp; exact hc
    have ht : ((n : Int) == 0) = false := by simp; omega
    have i0 : (0 : Int) ≤ (n : Int) - 1 := by omega
    have i1 : (n : Int) - 1 < n := by omega
    generalize gd (mag z.natAbs) (n - 1) = top at *
    clear h3 sa ha hc hcell c0
    go_enter Try.func41, Try.ntmps41
    go_wp2
    go_ret
    exact ⟨by rw [← hne]; rfl, (Below.refl _ _).alloc (Nat.le_refl _) _⟩
end Go.Proofs.Ytfigimfdojbkeaa

