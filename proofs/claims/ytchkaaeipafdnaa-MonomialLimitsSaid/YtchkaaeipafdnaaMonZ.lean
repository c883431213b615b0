/-
  The law MonomialLimits.
-/
import Derived.Test.YtchkaaeipafdnaaMonU
namespace Go.Proofs.Ytchkaaeipafdnaa
open Go.RowKit
attribute [local go_sem ↓] Go.wp_at_zero Go.wp_at_succ
/-- Block g holds two numbers. -/
def Two (w : World) (g : Nat) (p q : Int) : Prop := w.heap[g]? = some (.cells #[.int .i64 p, .int .i64 q] 40 (0, 0))
theorem Two.lt {w : World} {g : Nat} {p q : Int} (h : Two w g p q) : g < w.heap.size := by
  rcases Nat.lt_or_ge g w.heap.size with hlt | hge
  · exact hlt
  · unfold Two at h; rw [Array.getElem?_eq_none hge] at h; cases h
theorem Two.below {w w' : World} {g B : Nat} {p q : Int} (h : Two w g p q) (hb : Below B w w') (hg : g < B) : Two w' g p q := (hb.block g hg).trans h
theorem Two.new (w : World) (p q : Int) : Two (w.alloc (.cells #[.int .i64 p, .int .i64 q] 40)) w.heap.size p q := heap_alloc_new w _
theorem Two.cell0 {w : World} {g : Nat} {p q : Int} (h : Two w g p q) : w.cell? ⟨g, 0, none⟩ = some (.int .i64 p) := by rw [cell_of_row w g 0 _ _ (0, 0) h]; rfl
theorem Two.cell1 {w : World} {g : Nat} {p q : Int} (h : Two w g p q) : w.cell? ⟨g, 1, none⟩ = some (.int .i64 q) := by rw [cell_of_row w g 1 _ _ (0, 0) h]; rfl
/-- The first k exponents are in their range. -/
def inR (m : Mn) : Nat → Bool
  | 0 => true
  | k + 1 => inR m k && (decide (0 ≤ m k) && decide (m k ≤ 65535))
theorem inR_false {m : Mn} {k : Nat} (h : inR m k = false) : inR m (k + 1) = false := by rw [inR, h]; rfl
theorem inR_true {m : Mn} {k : Nat} (h : inR m k = true) (h0 : 0 ≤ m k) : inR m (k + 1) = decide (m k ≤ 65535) := by rw [inR, h, decide_eq_true h0]; simp
theorem inR_neg {m : Mn} {k : Nat} (h : inR m k = true) (h0 : ¬ 0 ≤ m k) : inR m (k + 1) = false := by rw [inR, h, decide_eq_false h0]; rfl
theorem inR_iff {m : Mn} : ∀ {k : Nat}, inR m k = true ↔ ∀ j, j < k → 0 ≤ m j ∧ m j ≤ 65535
  | 0 => by simp [inR]
  | k + 1 => by
    rw [inR, Bool.and_eq_true, Bool.and_eq_true, decide_eq_true_eq, decide_eq_true_eq, inR_iff]
    constructor
    · rintro ⟨h1, h2⟩ j hj
      by_cases e : j = k
      · subst e; exact h2
      · exact h1 j (by omega)
    · intro h
      exact ⟨fun j hj => h j (by omega), h k (by omega)⟩
theorem valid_in (m : Mn) (w : World) : Calls Try.prog 29 #[arr m] w fun e w' => e = .returned (.bool (inR m 8)) ∧ Below w.heap.size w w' := by
  cases h : inR m 8 with
  | true => exact valid_true m w (inR_iff.1 h)
  | false =>
    have hv : vaB m = false := by
      cases hv : vaB m with
      | false => rfl
      | true => rw [inR_iff.2 (vaB_iff.1 hv)] at h; cases h
    obtain ⟨n, h1, h2, h3⟩ := not_va hv
    exact valid_false m n w h1 h2 h3
set_option maxHeartbeats 4000000 in
set_option maxRecDepth 100000 in
theorem lawLimits_any (m : Mn) (p q : Int) (w : World) (hm : ∀ k, k < 8 → -9223372036854775808 ≤ m k ∧ m k ≤ 9223372036854775807) (hn : (-9223372036854775808 ≤ p ∧ p ≤ 9223372036854775807) ∧ (-9223372036854775808 ≤ q ∧ q ≤ 9223372036854775807)) :
    Calls Try.prog 4 #[.agg #[Value.int IntKind.i64 (m 0), Value.int IntKind.i64 (m 1), Value.int IntKind.i64 (m 2), Value.int IntKind.i64 (m 3), Value.int IntKind.i64 (m 4), Value.int IntKind.i64 (m 5), Value.int IntKind.i64 (m 6), Value.int IntKind.i64 (m 7)], .agg #[.int .i64 p, .int .i64 q]] w fun e w' => e = .returned (.bool true) ∧ Below w.heap.size w w' := by
  have HM := Lib.hid hm; have HN := Lib.hid hn
  clear hm hn
  go_enter Try.func4, Try.ntmps4
  go_wp2_with fail
  obtain ⟨W, hW⟩ : ∃ W, W = (w.alloc (Obj.cells #[Value.int IntKind.i64 (m 0), Value.int IntKind.i64 (m 1), Value.int IntKind.i64 (m 2), Value.int IntKind.i64 (m 3), Value.int IntKind.i64 (m 4), Value.int IntKind.i64 (m 5), Value.int IntKind.i64 (m 6), Value.int IntKind.i64 (m 7)] 27)).alloc (Obj.cells #[Value.int IntKind.i64 p, Value.int IntKind.i64 q] 40) := ⟨_, rfl⟩
  rw [← hW]
  have M : Hid (Row W w.heap.size m) := by (rw [hW]; exact (Row.new w m).alloc _)
  have N : Hid (Two W (w.heap.size + 1) p q) := by (rw [hW]; have h1 := Two.new (w.alloc (Obj.cells #[Value.int IntKind.i64 (m 0), Value.int IntKind.i64 (m 1), Value.int IntKind.i64 (m 2), Value.int IntKind.i64 (m 3), Value.int IntKind.i64 (m 4), Value.int IntKind.i64 (m 5), Value.int IntKind.i64 (m 6), Value.int IntKind.i64 (m 7)] 27)) p q; simp only [World.size_alloc] at h1; exact h1)
  have DW : Hid (Below w.heap.size w W) := by rw [hW]; exact ((Below.refl _ _).alloc (by simp <;> omega) _).alloc (by simp <;> omega) _
  clear hW
  refine (sanity_any _).mono ?_
  rintro e y1 ⟨rfl, hb⟩
  replace M := Lib.hid (M.out.below hb M.out.lt)
  replace N := Lib.hid (N.out.below hb N.out.lt)
  replace DW := Lib.hid (below_link DW.out hb DW.out.size)
  clear hb
  go_wp2_with fail
  go_loop [6, 7] (fun s i => ∃ j : Nat, j ≤ 8 ∧ i = .int .i64 j ∧ s = .bool (inR m j)) (fun _ i => 8 - (intOf i).toNat)
  case atStart => exact ⟨0, by omega, rfl, rfl⟩
  case round =>
    obtain ⟨j, hj, rfl, rfl⟩ := hrel
    by_cases hlt : j < 8
    · have c0 := M.out.cell hlt
      cases hin : inR m j with
      | false =>
        have HS := Lib.hid (inR_false hin)
        clear hin
        go_wp2_with fail
        go_round
        case rel => exact ⟨j + 1, by omega, by go_num, by rw [HS.out]⟩
        case measure => simp [intOf]; omega
      | true =>
        by_cases h0 : 0 ≤ m j
        · have HS := Lib.hid (inR_true hin h0)
          clear hin
          generalize hd : decide (m j ≤ 65535) = d at *
          go_wp2_with fail
          go_round
          case rel => exact ⟨j + 1, by omega, by go_num, by rw [HS.out]⟩
          case measure => simp [intOf]; omega
        · have HS := Lib.hid (inR_neg hin h0)
          clear hin
          have hd : decide (0 ≤ m j) = false := decide_eq_false h0
          go_wp2_with fail
          go_round
          case rel => exact ⟨j + 1, by omega, by go_num, by rw [HS.out]⟩
          case measure => simp [intOf]; omega
    · obtain rfl : j = 8 := by omega
      by_cases a1 : 0 ≤ p
      case neg =>
        have f1 : decide (0 ≤ p) = false := decide_eq_false a1
        have n0 := N.out.cell0; have n1 := N.out.cell1
        have hxx : (inR m 8 != inR m 8) = false := by simp
        have hyy : (inR m 8 == inR m 8) = true := by simp
        go_wp2_with (first | (refine ld _ _ M.out rfl rfl rfl ?_) | fail)
        refine (valid_in m _).mono ?_
        rintro e y2 ⟨rfl, hb⟩
        replace M := Lib.hid (M.out.below hb M.out.lt)
        replace N := Lib.hid (N.out.below hb N.out.lt)
        replace DW := Lib.hid (below_link DW.out hb DW.out.size)
        clear hb
        clear n0 n1
        have n0 := N.out.cell0; have n1 := N.out.cell1
        go_wp2_with fail
        refine (all_err p q _ (by omega)).mono ?_
        rintro e y3 ⟨rfl, hb⟩
        replace M := Lib.hid (M.out.below hb M.out.lt)
        replace N := Lib.hid (N.out.below hb N.out.lt)
        replace DW := Lib.hid (below_link DW.out hb DW.out.size)
        clear hb
        clear n0 n1
        go_wp2_with fail
        go_ret
        exact ⟨rfl, DW.out⟩
      by_cases a2 : p ≤ 8
      case neg =>
        have f2 : decide (p ≤ 8) = false := decide_eq_false a2
        have n0 := N.out.cell0; have n1 := N.out.cell1
        have hxx : (inR m 8 != inR m 8) = false := by simp
        have hyy : (inR m 8 == inR m 8) = true := by simp
        go_wp2_with (first | (refine ld _ _ M.out rfl rfl rfl ?_) | fail)
        refine (valid_in m _).mono ?_
        rintro e y2 ⟨rfl, hb⟩
        replace M := Lib.hid (M.out.below hb M.out.lt)
        replace N := Lib.hid (N.out.below hb N.out.lt)
        replace DW := Lib.hid (below_link DW.out hb DW.out.size)
        clear hb
        clear n0 n1
        have n0 := N.out.cell0; have n1 := N.out.cell1
        go_wp2_with fail
        refine (all_err p q _ (by omega)).mono ?_
        rintro e y3 ⟨rfl, hb⟩
        replace M := Lib.hid (M.out.below hb M.out.lt)
        replace N := Lib.hid (N.out.below hb N.out.lt)
        replace DW := Lib.hid (below_link DW.out hb DW.out.size)
        clear hb
        clear n0 n1
        go_wp2_with fail
        go_ret
        exact ⟨rfl, DW.out⟩
      by_cases a3 : 0 ≤ q
      case neg =>
        have f3 : decide (0 ≤ q) = false := decide_eq_false a3
        have n0 := N.out.cell0; have n1 := N.out.cell1
        have hxx : (inR m 8 != inR m 8) = false := by simp
        have hyy : (inR m 8 == inR m 8) = true := by simp
        go_wp2_with (first | (refine ld _ _ M.out rfl rfl rfl ?_) | fail)
        refine (valid_in m _).mono ?_
        rintro e y2 ⟨rfl, hb⟩
        replace M := Lib.hid (M.out.below hb M.out.lt)
        replace N := Lib.hid (N.out.below hb N.out.lt)
        replace DW := Lib.hid (below_link DW.out hb DW.out.size)
        clear hb
        clear n0 n1
        have n0 := N.out.cell0; have n1 := N.out.cell1
        go_wp2_with fail
        refine (all_err p q _ (by omega)).mono ?_
        rintro e y3 ⟨rfl, hb⟩
        replace M := Lib.hid (M.out.below hb M.out.lt)
        replace N := Lib.hid (N.out.below hb N.out.lt)
        replace DW := Lib.hid (below_link DW.out hb DW.out.size)
        clear hb
        clear n0 n1
        go_wp2_with fail
        go_ret
        exact ⟨rfl, DW.out⟩
      by_cases a4 : q ≤ 12
      case neg =>
        have f4 : decide (q ≤ 12) = false := decide_eq_false a4
        have n0 := N.out.cell0; have n1 := N.out.cell1
        have hxx : (inR m 8 != inR m 8) = false := by simp
        have hyy : (inR m 8 == inR m 8) = true := by simp
        go_wp2_with (first | (refine ld _ _ M.out rfl rfl rfl ?_) | fail)
        refine (valid_in m _).mono ?_
        rintro e y2 ⟨rfl, hb⟩
        replace M := Lib.hid (M.out.below hb M.out.lt)
        replace N := Lib.hid (N.out.below hb N.out.lt)
        replace DW := Lib.hid (below_link DW.out hb DW.out.size)
        clear hb
        clear n0 n1
        have n0 := N.out.cell0; have n1 := N.out.cell1
        go_wp2_with fail
        refine (all_err p q _ (by omega)).mono ?_
        rintro e y3 ⟨rfl, hb⟩
        replace M := Lib.hid (M.out.below hb M.out.lt)
        replace N := Lib.hid (N.out.below hb N.out.lt)
        replace DW := Lib.hid (below_link DW.out hb DW.out.size)
        clear hb
        clear n0 n1
        go_wp2_with fail
        go_ret
        exact ⟨rfl, DW.out⟩
      obtain ⟨p, rfl⟩ := Int.eq_ofNat_of_zero_le a1
      obtain ⟨q, rfl⟩ := Int.eq_ofNat_of_zero_le a3
      by_cases a5 : (p : Int) + q ≤ 14
      · skip
        have n0 := N.out.cell0; have n1 := N.out.cell1
        have hxx : (inR m 8 != inR m 8) = false := by simp
        have hyy : (inR m 8 == inR m 8) = true := by simp
        go_wp2_with (first | (refine ld _ _ M.out rfl rfl rfl ?_) | fail)
        refine (valid_in m _).mono ?_
        rintro e y2 ⟨rfl, hb⟩
        replace M := Lib.hid (M.out.below hb M.out.lt)
        replace N := Lib.hid (N.out.below hb N.out.lt)
        replace DW := Lib.hid (below_link DW.out hb DW.out.size)
        clear hb
        clear n0 n1
        have n0 := N.out.cell0; have n1 := N.out.cell1
        go_wp2_with fail
        refine (all_ok p q _ (by omega) (by omega)).mono ?_
        rintro e y3 ⟨v9, l9, rfl, s9, hl9, hb⟩
        replace M := Lib.hid (M.out.below hb M.out.lt)
        replace N := Lib.hid (N.out.below hb N.out.lt)
        replace DW := Lib.hid (below_link DW.out hb DW.out.size)
        clear hb
        clear s9 hl9 n0 n1
        go_wp2_with fail
        go_ret
        exact ⟨rfl, DW.out⟩
      · have a6 : (14 : Int) < (p : Int) + q := by omega
        have n0 := N.out.cell0; have n1 := N.out.cell1
        have hxx : (inR m 8 != inR m 8) = false := by simp
        have hyy : (inR m 8 == inR m 8) = true := by simp
        go_wp2_with (first | (refine ld _ _ M.out rfl rfl rfl ?_) | fail)
        refine (valid_in m _).mono ?_
        rintro e y2 ⟨rfl, hb⟩
        replace M := Lib.hid (M.out.below hb M.out.lt)
        replace N := Lib.hid (N.out.below hb N.out.lt)
        replace DW := Lib.hid (below_link DW.out hb DW.out.size)
        clear hb
        clear n0 n1
        have n0 := N.out.cell0; have n1 := N.out.cell1
        go_wp2_with (first | (refine ld _ _ M.out rfl rfl rfl ?_) | fail)
        refine (valid_in m _).mono ?_
        rintro e y3 ⟨rfl, hb⟩
        replace M := Lib.hid (M.out.below hb M.out.lt)
        replace N := Lib.hid (N.out.below hb N.out.lt)
        replace DW := Lib.hid (below_link DW.out hb DW.out.size)
        clear hb
        go_wp2_with fail
        go_ret
        exact ⟨rfl, DW.out⟩
end Go.Proofs.Ytchkaaeipafdnaa
