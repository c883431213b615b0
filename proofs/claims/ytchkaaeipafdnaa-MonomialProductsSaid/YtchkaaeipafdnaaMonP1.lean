/-
  The law MonomialProducts.
-/
import Derived.Test.YtchkaaeipafdnaaMonY
namespace Go.Proofs.Ytchkaaeipafdnaa
open Go.RowKit
attribute [local go_sem ↓] Go.wp_at_zero Go.wp_at_succ
/-- One of the first k sums is too great. -/
def bigB (x y : Mn) : Nat → Bool
  | 0 => false
  | k + 1 => bigB x y k || decide (65535 < x k + y k)
theorem big_true {x y : Mn} {k : Nat} (h : bigB x y k = true) : bigB x y (k + 1) = true := by unfold bigB; rw [h]; rfl
theorem big_false {x y : Mn} {k : Nat} (h : bigB x y k = false) : bigB x y (k + 1) = decide (65535 < x k + y k) := by rw [bigB, h]; rfl
theorem big_iff {x y : Mn} : ∀ {k : Nat}, bigB x y k = true ↔ ∃ i, i < k ∧ 65535 < x i + y i
  | 0 => by simp [bigB]
  | k + 1 => by
    rw [bigB, Bool.or_eq_true, big_iff, decide_eq_true_eq]
    constructor
    · rintro (⟨i, h1, h2⟩ | h)
      · exact ⟨i, by omega, h2⟩
      · exact ⟨k, by omega, h⟩
    · rintro ⟨i, h1, h2⟩
      by_cases e : i = k
      · subst e; exact .inr h2
      · exact .inl ⟨i, by omega, h2⟩
theorem big_va {x y : Mn} {b : Bool} (hx : Va x) (hy : Va y) (h : vaB (sumF x y) = b) : bigB x y 8 = !b := by
  cases b with
  | true =>
    cases hb : bigB x y 8 with
    | false => rfl
    | true =>
      obtain ⟨i, h1, h2⟩ := big_iff.1 hb
      have := (vaB_iff.1 h i h1).2
      unfold sumF at this
      omega
  | false =>
    obtain ⟨n, h1, _, h3⟩ := not_va h
    have := hx n h1
    have := hy n h1
    unfold sumF at h3
    exact big_iff.2 ⟨n, h1, by omega⟩
theorem sum_comm (x y : Mn) : sumF x y = sumF y x := by funext k; unfold sumF; omega
theorem pr_comm (x y : Mn) : prF x y = prF y x := by unfold prF; rw [sum_comm]
theorem prE_comm (x y : Mn) : prE x y = prE y x := by unfold prE; rw [sum_comm]
theorem sum_nul (x : Mn) : sumF x nul = x := by funext k; unfold sumF nul; omega
theorem dv_pr {x y : Mn} (hx : Va x) (h : prF x y = sumF x y) : dv y (prF x y) := by
  rw [h]; intro k hk; have := hx k hk; unfold sumF; omega
theorem quo_pr {x y : Mn} (hx : Va x) (h : prF x y = sumF x y) : quF (prF x y) y = x := by
  rw [quF_ok (dv_pr hx h), h]; funext k; unfold difF sumF; omega
theorem sm_sum (x y : Mn) : ∀ k, sm (sumF x y) k = sm x k + sm y k
  | 0 => by simp [sm]
  | k + 1 => by simp only [sm]; rw [sm_sum x y k]; unfold sumF; omega
theorem sp_bit (a : Mn) : ∀ k i, (sp a k).testBit i = (decide (i < k) && decide (0 < a i))
  | 0, i => by simp [sp]
  | k + 1, i => by
    have hl := sp_lt a k
    have hi := sp_bit a k i
    have h0 := sp_bit a k
    by_cases h : 0 < a k
    · rw [sp, if_pos h]
      have e : sp a k + 2 ^ k = 2 ^ k ||| sp a k := by
        have := Nat.two_pow_add_eq_or_of_lt hl 1
        rw [Nat.mul_one] at this
        rw [← this, Nat.add_comm]
      rw [e, Nat.testBit_or, hi, Nat.testBit_two_pow]
      by_cases e2 : k = i
      · subst e2; simp [h]
      · rcases Nat.lt_trichotomy i k with h3 | h3 | h3
        · simp [e2, show i < k by omega, show i < k + 1 by omega]
        · omega
        · simp [e2, show ¬ i < k by omega, show ¬ i < k + 1 by omega]
    · rw [sp, if_neg h, hi]
      by_cases e2 : i = k
      · subst e2; simp [h]
      · rcases Nat.lt_trichotomy i k with h3 | h3 | h3
        · simp [show i < k by omega, show i < k + 1 by omega]
        · omega
        · simp [show ¬ i < k by omega, show ¬ i < k + 1 by omega]
theorem sp_sum {x y : Mn} (hx : Va x) (hy : Va y) (k : Nat) (hk : k ≤ 8) : sp x k ||| sp y k = sp (sumF x y) k := by
  apply Nat.eq_of_testBit_eq
  intro i
  rw [Nat.testBit_or, sp_bit, sp_bit, sp_bit]
  by_cases h : i < k
  · have h1 := hx i (by omega)
    have h2 := hy i (by omega)
    unfold sumF
    by_cases h3 : 0 < x i <;> by_cases h4 : 0 < y i <;> simp [h, h3, h4] <;> omega
  · simp [h]
theorem sp_or {x y : Mn} (hx : Va x) (hy : Va y) (k : Nat) (hk : k ≤ 8) : bits .or .u8 ((sp x k : Nat) : Int) ((sp y k : Nat) : Int) = ((sp (sumF x y) k : Nat) : Int) := by
  have h1 := sp_lt x k
  have h2 := sp_lt y k
  have h3 : 2 ^ k ≤ 2 ^ 8 := Nat.pow_le_pow_right (by omega) hk
  rw [u8_or _ _ (by omega) (by omega) (by omega) (by omega), ← sp_sum hx hy k hk]
  simp
theorem pr_assoc {x y z : Mn} (h : prF x y = sumF x y) (k : prF y z = sumF y z) : eqa (prF (prF x y) z) (prF x (prF y z)) = true := by
  rw [h, k]
  have e : sumF (sumF x y) z = sumF x (sumF y z) := by funext j; unfold sumF; omega
  unfold prF
  rw [e]
  exact eqa_true.2 fun _ _ => rfl
theorem prE_assoc {x y z : Mn} (h : prF x y = sumF x y) (k : prF y z = sumF y z) : (prE (prF x y) z == prE x (prF y z)) = true := by
  rw [h, k]
  have e : sumF (sumF x y) z = sumF x (sumF y z) := by funext j; unfold sumF; omega
  unfold prE
  rw [e]
  simp
theorem run_at_box {o : Oper} {ρ : Operand → Value} {x i : Operand} {w : World} {g k : Nat} (ho : o.op = .indexAddr 27 x i) (hx : ρ x = .pointer (some ⟨g, 0, none⟩)) (hi : ρ i = .int .i64 (k : Int)) (hk : k < 8) :
    (execOp ρ o).run Try.prog w = .ok (.value (.pointer (some ⟨g, k, none⟩))) w := by
  have hs : ∀ w, (sizeOf 3).run Try.prog w = .ok 1 w := fun _ => by kernel_rfl
  have h8 : Try.prog.arrayLen 27 = 8 := by kernel_rfl
  have h1 : (Instr.indexAt 27 (.pointer (some ⟨g, 0, none⟩)) (.int .i64 (k : Int))).run Try.prog w = .ok (.pointer (some ⟨g, k, none⟩)) w := by
    rw [run_indexAt_array w _ _ _ _ (by kernel_rfl), h8, if_pos ⟨by omega, by omega⟩]
    show (((sizeOf 3).run Try.prog w).andThen _) = _
    rw [hs]
    simp [Result.andThen, Addr.add_mid]
  simp [execOp, ho, hx, hi, h1]
set_option maxHeartbeats 4000000 in
set_option maxRecDepth 100000 in
theorem lawProducts_any (x y z : Mn) (w : World) (hx : Va x) (hy : Va y) (hz : Va z) : Calls Try.prog 5 #[.agg #[Value.int IntKind.u16 (x 0), Value.int IntKind.u16 (x 1), Value.int IntKind.u16 (x 2), Value.int IntKind.u16 (x 3), Value.int IntKind.u16 (x 4), Value.int IntKind.u16 (x 5), Value.int IntKind.u16 (x 6), Value.int IntKind.u16 (x 7)], .agg #[Value.int IntKind.u16 (y 0), Value.int IntKind.u16 (y 1), Value.int IntKind.u16 (y 2), Value.int IntKind.u16 (y 3), Value.int IntKind.u16 (y 4), Value.int IntKind.u16 (y 5), Value.int IntKind.u16 (y 6), Value.int IntKind.u16 (y 7)], .agg #[Value.int IntKind.u16 (z 0), Value.int IntKind.u16 (z 1), Value.int IntKind.u16 (z 2), Value.int IntKind.u16 (z 3), Value.int IntKind.u16 (z 4), Value.int IntKind.u16 (z 5), Value.int IntKind.u16 (z 6), Value.int IntKind.u16 (z 7)]] w fun e w' => e = .returned (.bool true) ∧ Below w.heap.size w w' := by
  have V0 := Lib.hid hx; have V1 := Lib.hid hy; have V2 := Lib.hid hz
  clear hx hy hz
  go_enter Try.func5, Try.ntmps5
  go_wp2_with fail
  obtain ⟨W, hW⟩ : ∃ W, W = (((w.alloc (Obj.cells #[Value.int IntKind.u16 (x 0), Value.int IntKind.u16 (x 1), Value.int IntKind.u16 (x 2), Value.int IntKind.u16 (x 3), Value.int IntKind.u16 (x 4), Value.int IntKind.u16 (x 5), Value.int IntKind.u16 (x 6), Value.int IntKind.u16 (x 7)] 24)).alloc (Obj.cells #[Value.int IntKind.u16 (y 0), Value.int IntKind.u16 (y 1), Value.int IntKind.u16 (y 2), Value.int IntKind.u16 (y 3), Value.int IntKind.u16 (y 4), Value.int IntKind.u16 (y 5), Value.int IntKind.u16 (y 6), Value.int IntKind.u16 (y 7)] 24)).alloc (Obj.cells #[Value.int IntKind.u16 (z 0), Value.int IntKind.u16 (z 1), Value.int IntKind.u16 (z 2), Value.int IntKind.u16 (z 3), Value.int IntKind.u16 (z 4), Value.int IntKind.u16 (z 5), Value.int IntKind.u16 (z 6), Value.int IntKind.u16 (z 7)] 24)) := ⟨_, rfl⟩
  rw [← hW]
  have U0 : Hid (RowU W (w.heap.size) x) := by (rw [hW]; have h1 := RowU.new w x; (try simp only [World.size_alloc] at h1); exact ((h1).alloc _).alloc _)
  have U1 : Hid (RowU W (w.heap.size + 1) y) := by (rw [hW]; have h1 := RowU.new (w.alloc (Obj.cells #[Value.int IntKind.u16 (x 0), Value.int IntKind.u16 (x 1), Value.int IntKind.u16 (x 2), Value.int IntKind.u16 (x 3), Value.int IntKind.u16 (x 4), Value.int IntKind.u16 (x 5), Value.int IntKind.u16 (x 6), Value.int IntKind.u16 (x 7)] 24)) y; (try simp only [World.size_alloc] at h1); exact (h1).alloc _)
  have U2 : Hid (RowU W (w.heap.size + 1 + 1) z) := by (rw [hW]; have h1 := RowU.new ((w.alloc (Obj.cells #[Value.int IntKind.u16 (x 0), Value.int IntKind.u16 (x 1), Value.int IntKind.u16 (x 2), Value.int IntKind.u16 (x 3), Value.int IntKind.u16 (x 4), Value.int IntKind.u16 (x 5), Value.int IntKind.u16 (x 6), Value.int IntKind.u16 (x 7)] 24)).alloc (Obj.cells #[Value.int IntKind.u16 (y 0), Value.int IntKind.u16 (y 1), Value.int IntKind.u16 (y 2), Value.int IntKind.u16 (y 3), Value.int IntKind.u16 (y 4), Value.int IntKind.u16 (y 5), Value.int IntKind.u16 (y 6), Value.int IntKind.u16 (y 7)] 24)) z; (try simp only [World.size_alloc] at h1); exact h1)
  have DW : Hid (Below w.heap.size w W) := by rw [hW]; exact (((Below.refl _ _).alloc (by simp <;> omega) _).alloc (by simp <;> omega) _).alloc (by simp <;> omega) _
  clear hW
  refine (sanity_any _).mono ?_
  rintro e y1 ⟨rfl, hb⟩
  replace U0 := Lib.hid (U0.out.below hb U0.out.lt)
  replace U1 := Lib.hid (U1.out.below hb U1.out.lt)
  replace U2 := Lib.hid (U2.out.below hb U2.out.lt)
  replace DW := Lib.hid (below_link DW.out hb DW.out.size)
  clear hb
  go_wp2_with (first | (refine ldr _ _ U0.out rfl rfl rfl ?_) | fail)
  refine (made_any x _ V0.out).mono ?_
  rintro e y2 ⟨rfl, hb⟩
  replace U0 := Lib.hid (U0.out.below hb U0.out.lt)
  replace U1 := Lib.hid (U1.out.below hb U1.out.lt)
  replace U2 := Lib.hid (U2.out.below hb U2.out.lt)
  replace DW := Lib.hid (below_link DW.out hb DW.out.size)
  clear hb
  clear U0
  go_upto_region 5 with fail
  obtain ⟨w3, hW⟩ : ∃ w3, w3 = y2.alloc (Obj.cells #[Value.int IntKind.i64 ((x) 0), Value.int IntKind.i64 ((x) 1), Value.int IntKind.i64 ((x) 2), Value.int IntKind.i64 ((x) 3), Value.int IntKind.i64 ((x) 4), Value.int IntKind.i64 ((x) 5), Value.int IntKind.i64 ((x) 6), Value.int IntKind.i64 ((x) 7)] 27) := ⟨_, rfl⟩
  rw [← hW]
  have A : Hid (Row w3 y2.heap.size (x)) := by rw [hW]; exact Row.new y2 (x)
  have hb : Below y2.heap.size y2 w3 := by rw [hW]; exact (Below.refl _ _).alloc (Nat.le_refl _) _
  replace U1 := Lib.hid (U1.out.below hb U1.out.lt)
  replace U2 := Lib.hid (U2.out.below hb U2.out.lt)
  replace DW := Lib.hid (below_link DW.out hb DW.out.size)
  clear hW hb
  go_wp2_with (first | (refine ldr _ _ U1.out rfl rfl rfl ?_) | fail)
  refine (made_any y _ V1.out).mono ?_
  rintro e y4 ⟨rfl, hb⟩
  replace U1 := Lib.hid (U1.out.below hb U1.out.lt)
  replace U2 := Lib.hid (U2.out.below hb U2.out.lt)
  replace A := Lib.hid (A.out.below hb A.out.lt)
  replace DW := Lib.hid (below_link DW.out hb DW.out.size)
  clear hb
  clear U1
  go_upto_region 6 with fail
  obtain ⟨w5, hW⟩ : ∃ w5, w5 = y4.alloc (Obj.cells #[Value.int IntKind.i64 ((y) 0), Value.int IntKind.i64 ((y) 1), Value.int IntKind.i64 ((y) 2), Value.int IntKind.i64 ((y) 3), Value.int IntKind.i64 ((y) 4), Value.int IntKind.i64 ((y) 5), Value.int IntKind.i64 ((y) 6), Value.int IntKind.i64 ((y) 7)] 27) := ⟨_, rfl⟩
  rw [← hW]
  have B : Hid (Row w5 y4.heap.size (y)) := by rw [hW]; exact Row.new y4 (y)
  have hb : Below y4.heap.size y4 w5 := by rw [hW]; exact (Below.refl _ _).alloc (Nat.le_refl _) _
  replace U2 := Lib.hid (U2.out.below hb U2.out.lt)
  replace A := Lib.hid (A.out.below hb A.out.lt)
  replace DW := Lib.hid (below_link DW.out hb DW.out.size)
  clear hW hb
  go_wp2_with (first | (refine ldr _ _ U2.out rfl rfl rfl ?_) | fail)
  refine (made_any z _ V2.out).mono ?_
  rintro e y6 ⟨rfl, hb⟩
  replace U2 := Lib.hid (U2.out.below hb U2.out.lt)
  replace A := Lib.hid (A.out.below hb A.out.lt)
  replace B := Lib.hid (B.out.below hb B.out.lt)
  replace DW := Lib.hid (below_link DW.out hb DW.out.size)
  clear hb
  clear U2
  go_upto_region 7 with fail
  obtain ⟨w7, hW⟩ : ∃ w7, w7 = y6.alloc (Obj.cells #[Value.int IntKind.i64 ((z) 0), Value.int IntKind.i64 ((z) 1), Value.int IntKind.i64 ((z) 2), Value.int IntKind.i64 ((z) 3), Value.int IntKind.i64 ((z) 4), Value.int IntKind.i64 ((z) 5), Value.int IntKind.i64 ((z) 6), Value.int IntKind.i64 ((z) 7)] 27) := ⟨_, rfl⟩
  rw [← hW]
  have C : Hid (Row w7 y6.heap.size (z)) := by rw [hW]; exact Row.new y6 (z)
  have hb : Below y6.heap.size y6 w7 := by rw [hW]; exact (Below.refl _ _).alloc (Nat.le_refl _) _
  replace A := Lib.hid (A.out.below hb A.out.lt)
  replace B := Lib.hid (B.out.below hb B.out.lt)
  replace DW := Lib.hid (below_link DW.out hb DW.out.size)
  clear hW hb
  go_wp2_with (first | (refine ld _ _ A.out rfl rfl rfl ?_) | (refine ld _ _ B.out rfl rfl rfl ?_) | fail)
  refine (mul_is x y _ V0.out V1.out).mono ?_
  rintro e y8 ⟨rfl, hb⟩
  replace A := Lib.hid (A.out.below hb A.out.lt)
  replace B := Lib.hid (B.out.below hb B.out.lt)
  replace C := Lib.hid (C.out.below hb C.out.lt)
  replace DW := Lib.hid (below_link DW.out hb DW.out.size)
  clear hb
  go_upto_region 8 with fail
  obtain ⟨w9, hW⟩ : ∃ w9, w9 = y8.alloc (Obj.cells #[Value.int IntKind.i64 ((prF x y) 0), Value.int IntKind.i64 ((prF x y) 1), Value.int IntKind.i64 ((prF x y) 2), Value.int IntKind.i64 ((prF x y) 3), Value.int IntKind.i64 ((prF x y) 4), Value.int IntKind.i64 ((prF x y) 5), Value.int IntKind.i64 ((prF x y) 6), Value.int IntKind.i64 ((prF x y) 7)] 27) := ⟨_, rfl⟩
  rw [← hW]
  have P : Hid (Row w9 y8.heap.size (prF x y)) := by rw [hW]; exact Row.new y8 (prF x y)
  have hb : Below y8.heap.size y8 w9 := by rw [hW]; exact (Below.refl _ _).alloc (Nat.le_refl _) _
  replace A := Lib.hid (A.out.below hb A.out.lt)
  replace B := Lib.hid (B.out.below hb B.out.lt)
  replace C := Lib.hid (C.out.below hb C.out.lt)
  replace DW := Lib.hid (below_link DW.out hb DW.out.size)
  clear hW hb
  go_wp2_with (first | (refine ld _ _ A.out rfl rfl rfl ?_) | (refine ld _ _ B.out rfl rfl rfl ?_) | fail)
  refine (mul_is y x _ V1.out V0.out).mono ?_
  rintro e y10 ⟨rfl, hb⟩
  replace A := Lib.hid (A.out.below hb A.out.lt)
  replace B := Lib.hid (B.out.below hb B.out.lt)
  replace C := Lib.hid (C.out.below hb C.out.lt)
  replace P := Lib.hid (P.out.below hb P.out.lt)
  replace DW := Lib.hid (below_link DW.out hb DW.out.size)
  clear hb
  go_upto_region 9 with fail
  obtain ⟨w11, hW⟩ : ∃ w11, w11 = y10.alloc (Obj.cells #[Value.int IntKind.i64 ((prF y x) 0), Value.int IntKind.i64 ((prF y x) 1), Value.int IntKind.i64 ((prF y x) 2), Value.int IntKind.i64 ((prF y x) 3), Value.int IntKind.i64 ((prF y x) 4), Value.int IntKind.i64 ((prF y x) 5), Value.int IntKind.i64 ((prF y x) 6), Value.int IntKind.i64 ((prF y x) 7)] 27) := ⟨_, rfl⟩
  rw [← hW]
  have Q : Hid (Row w11 y10.heap.size (prF y x)) := by rw [hW]; exact Row.new y10 (prF y x)
  have hb : Below y10.heap.size y10 w11 := by rw [hW]; exact (Below.refl _ _).alloc (Nat.le_refl _) _
  replace A := Lib.hid (A.out.below hb A.out.lt)
  replace B := Lib.hid (B.out.below hb B.out.lt)
  replace C := Lib.hid (C.out.below hb C.out.lt)
  replace P := Lib.hid (P.out.below hb P.out.lt)
  replace DW := Lib.hid (below_link DW.out hb DW.out.size)
  clear hW hb
  go_wp2_with fail
  go_loopw [15, 16] (fun s i wr => ∃ j : Nat, j ≤ 8 ∧ i = .int .i64 j ∧ s = .bool (bigB x y j) ∧ Below w11.heap.size w11 wr) (fun _ i _ => 8 - (intOf i).toNat)
  case atStart => exact ⟨0, by omega, rfl, rfl, Below.refl _ _⟩
  case round =>
    obtain ⟨j, hj, rfl, rfl, hb⟩ := hrel
    replace A := Lib.hid (A.out.below hb A.out.lt)
    replace B := Lib.hid (B.out.below hb B.out.lt)
    replace C := Lib.hid (C.out.below hb C.out.lt)
    replace P := Lib.hid (P.out.below hb P.out.lt)
    replace Q := Lib.hid (Q.out.below hb Q.out.lt)
    replace DW := Lib.hid (below_link DW.out hb DW.out.size)
    have LB := Lib.hid hb
    clear hb
    by_cases hlt : j < 8
    · cases hbg : bigB x y j with
      | true =>
        have HB := Lib.hid hbg
        have HS := Lib.hid (show bigB x y (j + 1) = true from big_true hbg)
        clear hbg
        go_wp2_with fail
        go_quiet (fail)
        go_wp2_with fail
        go_roundw
        case rel => exact ⟨j + 1, by omega, by go_num, by rw [HS.out], bdrew LB.out⟩
        case measure => simp [intOf]; omega
      | false =>
        have HB := Lib.hid hbg; obtain ⟨a1, a2⟩ := V0.out j hlt; obtain ⟨b1, b2⟩ := V1.out j hlt
        have HS := Lib.hid (show bigB x y (j + 1) = decide (65535 < x j + y j) from big_false hbg)
        clear hbg
        go_wp2_with fail
        have cA := A.out.cell hlt; have cB := B.out.cell hlt; have hw : IntKind.i64.wrap (x j + y j) = x j + y j := IntWalk.i64_in _ (by omega); have hj8 : (j : Int) < 8 := by omega
        go_quiet (fail)
        go_wp2_with fail
        go_roundw
        case rel => exact ⟨j + 1, by omega, by go_num, by rw [HS.out], bdrew LB.out⟩
        case measure => simp [intOf]; omega
    · obtain rfl : j = 8 := by omega
      cases hva : vaB (sumF x y) with
      | false =>
        have HV := Lib.hid hva
        have e0 : bigB x y 8 = true := big_va V0.out V1.out hva
        clear hva
        rw [e0]
        clear e0 LB
        have e1 := run_equalIn_arr (prF x y) (prF y x)
        have e2 : eqa (prF x y) (prF y x) = true := by rw [pr_comm x y]; exact eqa_true.2 fun _ _ => rfl
        have e3 : prE x y = 2 := prE_no HV.out
        have e4 : prE y x = 2 := by rw [prE_comm y x]; exact e3
        rw [e3, e4]
        clear e3 e4
        go_upto_region 16 with (first | (refine ld _ _ P.out rfl rfl rfl ?_) | (refine ld _ _ Q.out rfl rfl rfl ?_) | fail)
        clear e1 e2
        have e1 : ∀ w, (Op.equalIn 10000 27 (.agg #[Value.int IntKind.i64 ((prF x y) 0), Value.int IntKind.i64 ((prF x y) 1), Value.int IntKind.i64 ((prF x y) 2), Value.int IntKind.i64 ((prF x y) 3), Value.int IntKind.i64 ((prF x y) 4), Value.int IntKind.i64 ((prF x y) 5), Value.int IntKind.i64 ((prF x y) 6), Value.int IntKind.i64 ((prF x y) 7)]) (.agg #[Value.int IntKind.i64 0, Value.int IntKind.i64 0, Value.int IntKind.i64 0, Value.int IntKind.i64 0, Value.int IntKind.i64 0, Value.int IntKind.i64 0, Value.int IntKind.i64 0, Value.int IntKind.i64 0])).run Try.prog w = .ok (eqa (prF x y) nul) w := run_equalIn_arr (prF x y) nul
        have e2 : eqa (prF x y) nul = true := by rw [prF_no HV.out]; exact eqa_true.2 fun _ _ => rfl
        obtain ⟨cP0, cP1, cP2, cP3, cP4, cP5, cP6, cP7⟩ := P.out.all
        go_wp2_with fail
        go_ret
        exact ⟨rfl, DW.out⟩
      | true =>
        have HV := Lib.hid hva
        have e0 : bigB x y 8 = false := big_va V0.out V1.out hva
        clear hva
        rw [e0]
        clear e0 LB
        have e1 := run_equalIn_arr (prF x y) (prF y x)
        have e2 : eqa (prF x y) (prF y x) = true := by rw [pr_comm x y]; exact eqa_true.2 fun _ _ => rfl
        have e3 : prE x y = 0 := prE_ok (vaB_iff.1 HV.out)
        have e4 : prE y x = 0 := by rw [prE_comm y x]; exact e3
        rw [e3, e4]
        clear e3 e4
        go_upto_region 16 with (first | (refine ld _ _ P.out rfl rfl rfl ?_) | (refine ld _ _ Q.out rfl rfl rfl ?_) | fail)
        clear e1 e2
        have HP := Lib.hid (prF_ok (vaB_iff.1 HV.out))
        go_wp2_with (first | (refine ld _ _ P.out rfl rfl rfl ?_) | (refine ld _ _ B.out rfl rfl rfl ?_) | fail)
        refine (quo_is (prF x y) y _ (va_pr x y) V1.out).mono ?_
        rintro e y12 ⟨rfl, hb⟩
        replace A := Lib.hid (A.out.below hb A.out.lt)
        replace B := Lib.hid (B.out.below hb B.out.lt)
        replace C := Lib.hid (C.out.below hb C.out.lt)
        replace P := Lib.hid (P.out.below hb P.out.lt)
        replace Q := Lib.hid (Q.out.below hb Q.out.lt)
        replace DW := Lib.hid (below_link DW.out hb DW.out.size)
        clear hb
        rw [show decide (dv y (prF x y)) = true from dvt (dv_pr V0.out HP.out)]
        go_upto_region 19 with fail
        obtain ⟨w13, hW⟩ : ∃ w13, w13 = y12.alloc (Obj.cells #[Value.int IntKind.i64 ((quF (prF x y) y) 0), Value.int IntKind.i64 ((quF (prF x y) y) 1), Value.int IntKind.i64 ((quF (prF x y) y) 2), Value.int IntKind.i64 ((quF (prF x y) y) 3), Value.int IntKind.i64 ((quF (prF x y) y) 4), Value.int IntKind.i64 ((quF (prF x y) y) 5), Value.int IntKind.i64 ((quF (prF x y) y) 6), Value.int IntKind.i64 ((quF (prF x y) y) 7)] 27) := ⟨_, rfl⟩
        rw [← hW]
        have D : Hid (Row w13 y12.heap.size (quF (prF x y) y)) := by rw [hW]; exact Row.new y12 (quF (prF x y) y)
        have hb : Below y12.heap.size y12 w13 := by rw [hW]; exact (Below.refl _ _).alloc (Nat.le_refl _) _
        replace A := Lib.hid (A.out.below hb A.out.lt)
        replace B := Lib.hid (B.out.below hb B.out.lt)
        replace C := Lib.hid (C.out.below hb C.out.lt)
        replace P := Lib.hid (P.out.below hb P.out.lt)
        replace Q := Lib.hid (Q.out.below hb Q.out.lt)
        replace DW := Lib.hid (below_link DW.out hb DW.out.size)
        clear hW hb
        have E1 := Lib.hid (neq_of (quo_pr V0.out HP.out)); have E2 := Lib.hid (show (sm (prF x y) 8 != sm x 8 + sm y 8) = false by rw [HP.out, sm_sum]; simp); have E3 := Lib.hid (sp_or V0.out V1.out 8 (by omega)); have E4 := Lib.hid (show (((sp (prF x y) 8 : Nat) : Int) != ((sp (sumF x y) 8 : Nat) : Int)) = false by rw [HP.out]; simp); have E5 := Lib.hid (sm_bd V0.out (k := 8) (by omega)); have E6 := Lib.hid (sm_bd V1.out (k := 8) (by omega))
        go_wp2_with fail
        refine region_run (fun w' => Below w13.heap.size w13 w') [.is (Value.bool true), .is (Value.bool false), .is (Value.bool false), .is (.agg (cls (quF (prF x y) y))), .is (.agg (cls x)), .is (Value.bool false), .is (Value.bool false), .is (Value.bool false), .is (.agg (cls (prF x y))), .is (Value.int IntKind.i64 (sm (prF x y) 8)), .is (.agg (cls x)), .is (Value.int IntKind.i64 (sm (x) 8)), .is (.agg (cls y)), .is (Value.int IntKind.i64 (sm (y) 8)), .is (Value.int IntKind.i64 (sm (x) 8 + sm (y) 8)), .is (Value.bool false), .is (Value.bool false), .is (Value.bool false), .is (.agg (cls (prF x y))), .is (Value.int IntKind.u8 ((sp (prF x y) 8 : Nat) : Int)), .is (.agg (cls x)), .is (Value.int IntKind.u8 ((sp (x) 8 : Nat) : Int)), .is (.agg (cls y)), .is (Value.int IntKind.u8 ((sp (y) 8 : Nat) : Int)), .is (Value.int IntKind.u8 (((sp (sumF x y) 8) : Nat) : Int)), .is (Value.bool false), .is (Value.bool false)] [98, 99, 100, 101, 102, 103, 104, 105, 106, 107, 108, 109, 110, 111, 112, 113, 114, 115, 116, 117, 118, 119, 120, 121, 122, 123, 124] (by kernel_rfl) (by kernel_rfl) (by kernel_rfl) (by rfl) (by kernel_rfl) ((Below.refl _ _).drew) (fun Q' => ?_) (fun K hK wn hs => ?_)
        · refine ⟨?_, ?_, ?_, ?_, ?_, ?_, ?_, ?_, ?_, ?_, ?_, ?_, ?_, ?_, ?_, ?_, ?_, ?_, ?_, ?_, ?_, ?_, ?_, ?_, ?_, ?_, ?_, trivial⟩
          · intro a' w' ha hs hw
            have eo18 : a'.tmps[18]? = some (Value.bool true) := (ha.rest 18 (by kernel_rfl)).trans rfl
            exact .inl ⟨wanted_none rfl, wp_val (run_move rfl (ev_tmp eo18)) ⟨_, rfl, rfl, Below.refl _ _, hs⟩⟩
          · intro a' w' ha hs hw
            obtain ⟨v0, e0, q0⟩ := hw 0 (by kernel_rfl) _ _ _ rfl rfl rfl
            obtain rfl : v0 = Value.bool true := q0
            exact .inl ⟨wanted_none rfl, wp_val (run_not rfl (ev_tmp e0)) ⟨_, rfl, rfl, Below.refl _ _, hs⟩⟩
          · intro a' w' ha hs hw
            obtain ⟨v1, e1, q1⟩ := hw 1 (by kernel_rfl) _ _ _ rfl rfl rfl
            obtain rfl : v1 = Value.bool false := q1
            exact .inl ⟨wanted_none rfl, wp_val (run_move rfl (ev_tmp e1)) ⟨_, rfl, rfl, Below.refl _ _, hs⟩⟩
          · intro a' w' ha hs hw
            obtain ⟨v2, e2, q2⟩ := hw 2 (by kernel_rfl) _ _ _ rfl rfl rfl
            obtain rfl : v2 = Value.bool false := q2
            have eo17 : a'.tmps[17]? = some (.pointer (some ⟨y12.heap.size, 0, none⟩)) := (ha.rest 17 (by kernel_rfl)).trans rfl
            exact .inl ⟨wanted_some rfl rfl rfl e2, wp_val (run_load rfl (ev_tmp eo17) (D.out.below hs D.out.lt)) ⟨_, rfl, rfl, Below.refl _ _, hs⟩⟩
          · intro a' w' ha hs hw
            obtain ⟨v2, e2, q2⟩ := hw 2 (by kernel_rfl) _ _ _ rfl rfl rfl
            obtain rfl : v2 = Value.bool false := q2
            have eo8 : a'.tmps[8]? = some (.pointer (some ⟨y2.heap.size, 0, none⟩)) := (ha.rest 8 (by kernel_rfl)).trans rfl
            exact .inl ⟨wanted_some rfl rfl rfl e2, wp_val (run_load rfl (ev_tmp eo8) (A.out.below hs A.out.lt)) ⟨_, rfl, rfl, Below.refl _ _, hs⟩⟩
          · intro a' w' ha hs hw
            obtain ⟨v2, e2, q2⟩ := hw 2 (by kernel_rfl) _ _ _ rfl rfl rfl
            obtain rfl : v2 = Value.bool false := q2
            obtain ⟨v3, e3, q3⟩ := hw 3 (by kernel_rfl) _ _ _ rfl rfl rfl
            obtain rfl : v3 = .agg (cls (quF (prF x y) y)) := q3
            obtain ⟨v4, e4, q4⟩ := hw 4 (by kernel_rfl) _ _ _ rfl rfl rfl
            obtain rfl : v4 = .agg (cls x) := q4
            exact .inl ⟨wanted_some rfl rfl rfl e2, wp_val (run_neq_arr rfl (ev_tmp e3) (ev_tmp e4)) ⟨_, rfl, congrArg Value.bool (E1.out), Below.refl _ _, hs⟩⟩
          · intro a' w' ha hs hw
            obtain ⟨v2, e2, q2⟩ := hw 2 (by kernel_rfl) _ _ _ rfl rfl rfl
            obtain rfl : v2 = Value.bool false := q2
            obtain ⟨v5, e5, q5⟩ := hw 5 (by kernel_rfl) _ _ _ rfl rfl rfl
            obtain rfl : v5 = Value.bool false := q5
            exact .inl ⟨wanted_none rfl, wp_val (run_pick (b := false) rfl (ev_tmp e2) (ev_tmp e5)) ⟨_, rfl, rfl, Below.refl _ _, hs⟩⟩
          · intro a' w' ha hs hw
            obtain ⟨v6, e6, q6⟩ := hw 6 (by kernel_rfl) _ _ _ rfl rfl rfl
            obtain rfl : v6 = Value.bool false := q6
            exact .inl ⟨wanted_none rfl, wp_val (run_move rfl (ev_tmp e6)) ⟨_, rfl, rfl, Below.refl _ _, hs⟩⟩
          · intro a' w' ha hs hw
            obtain ⟨v7, e7, q7⟩ := hw 7 (by kernel_rfl) _ _ _ rfl rfl rfl
            obtain rfl : v7 = Value.bool false := q7
            have eo11 : a'.tmps[11]? = some (.pointer (some ⟨y8.heap.size, 0, none⟩)) := (ha.rest 11 (by kernel_rfl)).trans rfl
            exact .inl ⟨wanted_some rfl rfl rfl e7, wp_val (run_load rfl (ev_tmp eo11) (P.out.below hs P.out.lt)) ⟨_, rfl, rfl, Below.refl _ _, hs⟩⟩
          · intro a' w' ha hs hw
            obtain ⟨v7, e7, q7⟩ := hw 7 (by kernel_rfl) _ _ _ rfl rfl rfl
            obtain rfl : v7 = Value.bool false := q7
            obtain ⟨v8, e8, q8⟩ := hw 8 (by kernel_rfl) _ _ _ rfl rfl rfl
            obtain rfl : v8 = .agg (cls (prF x y)) := q8
            exact .inl ⟨wanted_some rfl rfl rfl e7, call_step rfl Try.func25 (by kernel_rfl) rfl (map_one (ev_tmp e8)) (degree_any (prF x y) _ (va_pr x y)) (fun e w2 he => by obtain ⟨rfl, hb⟩ := he; exact ⟨_, rfl, _, rfl, rfl, hb, hs.trans (hb.mono hs.size)⟩)⟩
          · intro a' w' ha hs hw
            obtain ⟨v7, e7, q7⟩ := hw 7 (by kernel_rfl) _ _ _ rfl rfl rfl
            obtain rfl : v7 = Value.bool false := q7
            have eo8 : a'.tmps[8]? = some (.pointer (some ⟨y2.heap.size, 0, none⟩)) := (ha.rest 8 (by kernel_rfl)).trans rfl
            exact .inl ⟨wanted_some rfl rfl rfl e7, wp_val (run_load rfl (ev_tmp eo8) (A.out.below hs A.out.lt)) ⟨_, rfl, rfl, Below.refl _ _, hs⟩⟩
          · intro a' w' ha hs hw
            obtain ⟨v7, e7, q7⟩ := hw 7 (by kernel_rfl) _ _ _ rfl rfl rfl
            obtain rfl : v7 = Value.bool false := q7
            obtain ⟨v10, e10, q10⟩ := hw 10 (by kernel_rfl) _ _ _ rfl rfl rfl
            obtain rfl : v10 = .agg (cls x) := q10
            exact .inl ⟨wanted_some rfl rfl rfl e7, call_step rfl Try.func25 (by kernel_rfl) rfl (map_one (ev_tmp e10)) (degree_any (x) _ (V0.out)) (fun e w2 he => by obtain ⟨rfl, hb⟩ := he; exact ⟨_, rfl, _, rfl, rfl, hb, hs.trans (hb.mono hs.size)⟩)⟩
          · intro a' w' ha hs hw
            obtain ⟨v7, e7, q7⟩ := hw 7 (by kernel_rfl) _ _ _ rfl rfl rfl
            obtain rfl : v7 = Value.bool false := q7
            have eo9 : a'.tmps[9]? = some (.pointer (some ⟨y4.heap.size, 0, none⟩)) := (ha.rest 9 (by kernel_rfl)).trans rfl
            exact .inl ⟨wanted_some rfl rfl rfl e7, wp_val (run_load rfl (ev_tmp eo9) (B.out.below hs B.out.lt)) ⟨_, rfl, rfl, Below.refl _ _, hs⟩⟩
          · intro a' w' ha hs hw
            obtain ⟨v7, e7, q7⟩ := hw 7 (by kernel_rfl) _ _ _ rfl rfl rfl
            obtain rfl : v7 = Value.bool false := q7
            obtain ⟨v12, e12, q12⟩ := hw 12 (by kernel_rfl) _ _ _ rfl rfl rfl
            obtain rfl : v12 = .agg (cls y) := q12
            exact .inl ⟨wanted_some rfl rfl rfl e7, call_step rfl Try.func25 (by kernel_rfl) rfl (map_one (ev_tmp e12)) (degree_any (y) _ (V1.out)) (fun e w2 he => by obtain ⟨rfl, hb⟩ := he; exact ⟨_, rfl, _, rfl, rfl, hb, hs.trans (hb.mono hs.size)⟩)⟩
          · intro a' w' ha hs hw
            obtain ⟨v7, e7, q7⟩ := hw 7 (by kernel_rfl) _ _ _ rfl rfl rfl
            obtain rfl : v7 = Value.bool false := q7
            obtain ⟨v11, e11, q11⟩ := hw 11 (by kernel_rfl) _ _ _ rfl rfl rfl
            obtain rfl : v11 = Value.int IntKind.i64 (sm (x) 8) := q11
            obtain ⟨v13, e13, q13⟩ := hw 13 (by kernel_rfl) _ _ _ rfl rfl rfl
            obtain rfl : v13 = Value.int IntKind.i64 (sm (y) 8) := q13
            exact .inl ⟨wanted_some rfl rfl rfl e7, wp_val (run_add_int rfl (ev_tmp e11) (ev_tmp e13) (by have := E5.out; have := E6.out; omega) (by have := E5.out; have := E6.out; omega)) ⟨_, rfl, rfl, Below.refl _ _, hs⟩⟩
          · intro a' w' ha hs hw
            obtain ⟨v7, e7, q7⟩ := hw 7 (by kernel_rfl) _ _ _ rfl rfl rfl
            obtain rfl : v7 = Value.bool false := q7
            obtain ⟨v9, e9, q9⟩ := hw 9 (by kernel_rfl) _ _ _ rfl rfl rfl
            obtain rfl : v9 = Value.int IntKind.i64 (sm (prF x y) 8) := q9
            obtain ⟨v14, e14, q14⟩ := hw 14 (by kernel_rfl) _ _ _ rfl rfl rfl
            obtain rfl : v14 = Value.int IntKind.i64 (sm (x) 8 + sm (y) 8) := q14
            exact .inl ⟨wanted_some rfl rfl rfl e7, wp_val (run_neq_int rfl (ev_tmp e9) (ev_tmp e14)) ⟨_, rfl, congrArg Value.bool (E2.out), Below.refl _ _, hs⟩⟩
          · intro a' w' ha hs hw
            obtain ⟨v7, e7, q7⟩ := hw 7 (by kernel_rfl) _ _ _ rfl rfl rfl
            obtain rfl : v7 = Value.bool false := q7
            obtain ⟨v15, e15, q15⟩ := hw 15 (by kernel_rfl) _ _ _ rfl rfl rfl
            obtain rfl : v15 = Value.bool false := q15
            exact .inl ⟨wanted_none rfl, wp_val (run_pick (b := false) rfl (ev_tmp e7) (ev_tmp e15)) ⟨_, rfl, rfl, Below.refl _ _, hs⟩⟩
          · intro a' w' ha hs hw
            obtain ⟨v16, e16, q16⟩ := hw 16 (by kernel_rfl) _ _ _ rfl rfl rfl
            obtain rfl : v16 = Value.bool false := q16
            exact .inl ⟨wanted_none rfl, wp_val (run_move rfl (ev_tmp e16)) ⟨_, rfl, rfl, Below.refl _ _, hs⟩⟩
          · intro a' w' ha hs hw
            obtain ⟨v17, e17, q17⟩ := hw 17 (by kernel_rfl) _ _ _ rfl rfl rfl
            obtain rfl : v17 = Value.bool false := q17
            have eo11 : a'.tmps[11]? = some (.pointer (some ⟨y8.heap.size, 0, none⟩)) := (ha.rest 11 (by kernel_rfl)).trans rfl
            exact .inl ⟨wanted_some rfl rfl rfl e17, wp_val (run_load rfl (ev_tmp eo11) (P.out.below hs P.out.lt)) ⟨_, rfl, rfl, Below.refl _ _, hs⟩⟩
          · intro a' w' ha hs hw
            obtain ⟨v17, e17, q17⟩ := hw 17 (by kernel_rfl) _ _ _ rfl rfl rfl
            obtain rfl : v17 = Value.bool false := q17
            obtain ⟨v18, e18, q18⟩ := hw 18 (by kernel_rfl) _ _ _ rfl rfl rfl
            obtain rfl : v18 = .agg (cls (prF x y)) := q18
            exact .inl ⟨wanted_some rfl rfl rfl e17, call_step rfl Try.func27 (by kernel_rfl) rfl (map_one (ev_tmp e18)) (support_any (prF x y) _) (fun e w2 he => by obtain ⟨rfl, hb⟩ := he; exact ⟨_, rfl, _, rfl, rfl, hb, hs.trans (hb.mono hs.size)⟩)⟩
          · intro a' w' ha hs hw
            obtain ⟨v17, e17, q17⟩ := hw 17 (by kernel_rfl) _ _ _ rfl rfl rfl
            obtain rfl : v17 = Value.bool false := q17
            have eo8 : a'.tmps[8]? = some (.pointer (some ⟨y2.heap.size, 0, none⟩)) := (ha.rest 8 (by kernel_rfl)).trans rfl
            exact .inl ⟨wanted_some rfl rfl rfl e17, wp_val (run_load rfl (ev_tmp eo8) (A.out.below hs A.out.lt)) ⟨_, rfl, rfl, Below.refl _ _, hs⟩⟩
          · intro a' w' ha hs hw
            obtain ⟨v17, e17, q17⟩ := hw 17 (by kernel_rfl) _ _ _ rfl rfl rfl
            obtain rfl : v17 = Value.bool false := q17
            obtain ⟨v20, e20, q20⟩ := hw 20 (by kernel_rfl) _ _ _ rfl rfl rfl
            obtain rfl : v20 = .agg (cls x) := q20
            exact .inl ⟨wanted_some rfl rfl rfl e17, call_step rfl Try.func27 (by kernel_rfl) rfl (map_one (ev_tmp e20)) (support_any (x) _) (fun e w2 he => by obtain ⟨rfl, hb⟩ := he; exact ⟨_, rfl, _, rfl, rfl, hb, hs.trans (hb.mono hs.size)⟩)⟩
          · intro a' w' ha hs hw
            obtain ⟨v17, e17, q17⟩ := hw 17 (by kernel_rfl) _ _ _ rfl rfl rfl
            obtain rfl : v17 = Value.bool false := q17
            have eo9 : a'.tmps[9]? = some (.pointer (some ⟨y4.heap.size, 0, none⟩)) := (ha.rest 9 (by kernel_rfl)).trans rfl
            exact .inl ⟨wanted_some rfl rfl rfl e17, wp_val (run_load rfl (ev_tmp eo9) (B.out.below hs B.out.lt)) ⟨_, rfl, rfl, Below.refl _ _, hs⟩⟩
          · intro a' w' ha hs hw
            obtain ⟨v17, e17, q17⟩ := hw 17 (by kernel_rfl) _ _ _ rfl rfl rfl
            obtain rfl : v17 = Value.bool false := q17
            obtain ⟨v22, e22, q22⟩ := hw 22 (by kernel_rfl) _ _ _ rfl rfl rfl
            obtain rfl : v22 = .agg (cls y) := q22
            exact .inl ⟨wanted_some rfl rfl rfl e17, call_step rfl Try.func27 (by kernel_rfl) rfl (map_one (ev_tmp e22)) (support_any (y) _) (fun e w2 he => by obtain ⟨rfl, hb⟩ := he; exact ⟨_, rfl, _, rfl, rfl, hb, hs.trans (hb.mono hs.size)⟩)⟩
          · intro a' w' ha hs hw
            obtain ⟨v17, e17, q17⟩ := hw 17 (by kernel_rfl) _ _ _ rfl rfl rfl
            obtain rfl : v17 = Value.bool false := q17
            obtain ⟨v21, e21, q21⟩ := hw 21 (by kernel_rfl) _ _ _ rfl rfl rfl
            obtain rfl : v21 = Value.int IntKind.u8 ((sp (x) 8 : Nat) : Int) := q21
            obtain ⟨v23, e23, q23⟩ := hw 23 (by kernel_rfl) _ _ _ rfl rfl rfl
            obtain rfl : v23 = Value.int IntKind.u8 ((sp (y) 8 : Nat) : Int) := q23
            exact .inl ⟨wanted_some rfl rfl rfl e17, wp_val (run_or_u8 rfl (ev_tmp e21) (ev_tmp e23) (E3.out)) ⟨_, rfl, rfl, Below.refl _ _, hs⟩⟩
          · intro a' w' ha hs hw
            obtain ⟨v17, e17, q17⟩ := hw 17 (by kernel_rfl) _ _ _ rfl rfl rfl
            obtain rfl : v17 = Value.bool false := q17
            obtain ⟨v19, e19, q19⟩ := hw 19 (by kernel_rfl) _ _ _ rfl rfl rfl
            obtain rfl : v19 = Value.int IntKind.u8 ((sp (prF x y) 8 : Nat) : Int) := q19
            obtain ⟨v24, e24, q24⟩ := hw 24 (by kernel_rfl) _ _ _ rfl rfl rfl
            obtain rfl : v24 = Value.int IntKind.u8 (((sp (sumF x y) 8) : Nat) : Int) := q24
            exact .inl ⟨wanted_some rfl rfl rfl e17, wp_val (run_neq_int rfl (ev_tmp e19) (ev_tmp e24)) ⟨_, rfl, congrArg Value.bool (E4.out), Below.refl _ _, hs⟩⟩
          · intro a' w' ha hs hw
            obtain ⟨v17, e17, q17⟩ := hw 17 (by kernel_rfl) _ _ _ rfl rfl rfl
            obtain rfl : v17 = Value.bool false := q17
            obtain ⟨v25, e25, q25⟩ := hw 25 (by kernel_rfl) _ _ _ rfl rfl rfl
            obtain rfl : v25 = Value.bool false := q25
            exact .inl ⟨wanted_none rfl, wp_val (run_pick (b := false) rfl (ev_tmp e17) (ev_tmp e25)) ⟨_, rfl, rfl, Below.refl _ _, hs⟩⟩
        simp only [allK]
        simp only [setAll, List.set_cons_succ, List.set_cons_zero]
        refine hK _ _ ?_
        clear hK K
        replace A := Lib.hid (A.out.below hs A.out.lt)
        replace B := Lib.hid (B.out.below hs B.out.lt)
        replace C := Lib.hid (C.out.below hs C.out.lt)
        replace P := Lib.hid (P.out.below hs P.out.lt)
        replace Q := Lib.hid (Q.out.below hs Q.out.lt)
        replace D := Lib.hid (D.out.below hs D.out.lt)
        replace DW := Lib.hid (below_link DW.out hs DW.out.size)
        clear hs
        generalize wn = z14 at *
        clear E1 E2 E3 E4 E5 E6
        go_wp2_with (first | (refine ld _ _ A.out rfl rfl rfl ?_) | fail)
        refine (mul_is x nul _ V0.out va_nul).mono ?_
        rintro e y15 ⟨rfl, hb⟩
        replace A := Lib.hid (A.out.below hb A.out.lt)
        replace B := Lib.hid (B.out.below hb B.out.lt)
        replace C := Lib.hid (C.out.below hb C.out.lt)
        replace P := Lib.hid (P.out.below hb P.out.lt)
        replace Q := Lib.hid (Q.out.below hb Q.out.lt)
        replace D := Lib.hid (D.out.below hb D.out.lt)
        replace DW := Lib.hid (below_link DW.out hb DW.out.size)
        clear hb
        rw [show prE x nul = 0 from prE_ok (by rw [sum_nul]; exact V0.out)]
        go_upto_region 22 with fail
        obtain ⟨w16, hW⟩ : ∃ w16, w16 = y15.alloc (Obj.cells #[Value.int IntKind.i64 ((prF x nul) 0), Value.int IntKind.i64 ((prF x nul) 1), Value.int IntKind.i64 ((prF x nul) 2), Value.int IntKind.i64 ((prF x nul) 3), Value.int IntKind.i64 ((prF x nul) 4), Value.int IntKind.i64 ((prF x nul) 5), Value.int IntKind.i64 ((prF x nul) 6), Value.int IntKind.i64 ((prF x nul) 7)] 27) := ⟨_, rfl⟩
        rw [← hW]
        have O : Hid (Row w16 y15.heap.size (prF x nul)) := by rw [hW]; exact Row.new y15 (prF x nul)
        have hb : Below y15.heap.size y15 w16 := by rw [hW]; exact (Below.refl _ _).alloc (Nat.le_refl _) _
        replace A := Lib.hid (A.out.below hb A.out.lt)
        replace B := Lib.hid (B.out.below hb B.out.lt)
        replace C := Lib.hid (C.out.below hb C.out.lt)
        replace P := Lib.hid (P.out.below hb P.out.lt)
        replace Q := Lib.hid (Q.out.below hb Q.out.lt)
        replace D := Lib.hid (D.out.below hb D.out.lt)
        replace DW := Lib.hid (below_link DW.out hb DW.out.size)
        clear hW hb
        go_wp2_with (first | (refine ld _ _ B.out rfl rfl rfl ?_) | (refine ld _ _ C.out rfl rfl rfl ?_) | fail)
        refine (mul_is y z _ V1.out V2.out).mono ?_
        rintro e y17 ⟨rfl, hb⟩
        replace A := Lib.hid (A.out.below hb A.out.lt)
        replace B := Lib.hid (B.out.below hb B.out.lt)
        replace C := Lib.hid (C.out.below hb C.out.lt)
        replace P := Lib.hid (P.out.below hb P.out.lt)
        replace Q := Lib.hid (Q.out.below hb Q.out.lt)
        replace D := Lib.hid (D.out.below hb D.out.lt)
        replace O := Lib.hid (O.out.below hb O.out.lt)
        replace DW := Lib.hid (below_link DW.out hb DW.out.size)
        clear hb
        go_upto_region 23 with fail
        obtain ⟨w18, hW⟩ : ∃ w18, w18 = y17.alloc (Obj.cells #[Value.int IntKind.i64 ((prF y z) 0), Value.int IntKind.i64 ((prF y z) 1), Value.int IntKind.i64 ((prF y z) 2), Value.int IntKind.i64 ((prF y z) 3), Value.int IntKind.i64 ((prF y z) 4), Value.int IntKind.i64 ((prF y z) 5), Value.int IntKind.i64 ((prF y z) 6), Value.int IntKind.i64 ((prF y z) 7)] 27) := ⟨_, rfl⟩
        rw [← hW]
        have T : Hid (Row w18 y17.heap.size (prF y z)) := by rw [hW]; exact Row.new y17 (prF y z)
        have hb : Below y17.heap.size y17 w18 := by rw [hW]; exact (Below.refl _ _).alloc (Nat.le_refl _) _
        replace A := Lib.hid (A.out.below hb A.out.lt)
        replace B := Lib.hid (B.out.below hb B.out.lt)
        replace C := Lib.hid (C.out.below hb C.out.lt)
        replace P := Lib.hid (P.out.below hb P.out.lt)
        replace Q := Lib.hid (Q.out.below hb Q.out.lt)
        replace D := Lib.hid (D.out.below hb D.out.lt)
        replace O := Lib.hid (O.out.below hb O.out.lt)
        replace DW := Lib.hid (below_link DW.out hb DW.out.size)
        clear hW hb
        have e1 := run_equalIn_arr (prF x nul) x
        have e2 : eqa (prF x nul) x = true := by rw [prF_ok (by rw [sum_nul]; exact V0.out), sum_nul]; exact eqa_true.2 fun _ _ => rfl
        cases hvb : vaB (sumF y z) with
        | false =>
          have HB := Lib.hid hvb
          clear hvb
          have e3 : prE y z = 2 := prE_no HB.out
          rw [e3]
          clear e3
          obtain ⟨cO0, cO1, cO2, cO3, cO4, cO5, cO6, cO7⟩ := O.out.all
          obtain ⟨cA0, cA1, cA2, cA3, cA4, cA5, cA6, cA7⟩ := A.out.all
          go_wp2_with fail
          go_ret
          exact ⟨rfl, DW.out⟩
        | true =>
          have HB := Lib.hid hvb
          clear hvb
          have e3 : prE y z = 0 := prE_ok (vaB_iff.1 HB.out)
          rw [e3]
          clear e3
          obtain ⟨cO0, cO1, cO2, cO3, cO4, cO5, cO6, cO7⟩ := O.out.all
          obtain ⟨cA0, cA1, cA2, cA3, cA4, cA5, cA6, cA7⟩ := A.out.all
          go_upto_region 25 with fail
          clear cO0 cO1 cO2 cO3 cO4 cO5 cO6 cO7
          clear cA0 cA1 cA2 cA3 cA4 cA5 cA6 cA7
          clear e1 e2
          go_wp2_with (first | (refine ld _ _ P.out rfl rfl rfl ?_) | (refine ld _ _ C.out rfl rfl rfl ?_) | fail)
          refine (mul_is (prF x y) z _ (va_pr x y) V2.out).mono ?_
          rintro e y19 ⟨rfl, hb⟩
          replace A := Lib.hid (A.out.below hb A.out.lt)
          replace B := Lib.hid (B.out.below hb B.out.lt)
          replace C := Lib.hid (C.out.below hb C.out.lt)
          replace P := Lib.hid (P.out.below hb P.out.lt)
          replace Q := Lib.hid (Q.out.below hb Q.out.lt)
          replace D := Lib.hid (D.out.below hb D.out.lt)
          replace O := Lib.hid (O.out.below hb O.out.lt)
          replace T := Lib.hid (T.out.below hb T.out.lt)
          replace DW := Lib.hid (below_link DW.out hb DW.out.size)
          clear hb
          go_upto_region 26 with fail
          obtain ⟨w20, hW⟩ : ∃ w20, w20 = y19.alloc (Obj.cells #[Value.int IntKind.i64 ((prF (prF x y) z) 0), Value.int IntKind.i64 ((prF (prF x y) z) 1), Value.int IntKind.i64 ((prF (prF x y) z) 2), Value.int IntKind.i64 ((prF (prF x y) z) 3), Value.int IntKind.i64 ((prF (prF x y) z) 4), Value.int IntKind.i64 ((prF (prF x y) z) 5), Value.int IntKind.i64 ((prF (prF x y) z) 6), Value.int IntKind.i64 ((prF (prF x y) z) 7)] 27) := ⟨_, rfl⟩
          rw [← hW]
          have G : Hid (Row w20 y19.heap.size (prF (prF x y) z)) := by rw [hW]; exact Row.new y19 (prF (prF x y) z)
          have hb : Below y19.heap.size y19 w20 := by rw [hW]; exact (Below.refl _ _).alloc (Nat.le_refl _) _
          replace A := Lib.hid (A.out.below hb A.out.lt)
          replace B := Lib.hid (B.out.below hb B.out.lt)
          replace C := Lib.hid (C.out.below hb C.out.lt)
          replace P := Lib.hid (P.out.below hb P.out.lt)
          replace Q := Lib.hid (Q.out.below hb Q.out.lt)
          replace D := Lib.hid (D.out.below hb D.out.lt)
          replace O := Lib.hid (O.out.below hb O.out.lt)
          replace T := Lib.hid (T.out.below hb T.out.lt)
          replace DW := Lib.hid (below_link DW.out hb DW.out.size)
          clear hW hb
          go_wp2_with (first | (refine ld _ _ A.out rfl rfl rfl ?_) | (refine ld _ _ T.out rfl rfl rfl ?_) | fail)
          refine (mul_is x (prF y z) _ V0.out (va_pr y z)).mono ?_
          rintro e y21 ⟨rfl, hb⟩
          replace A := Lib.hid (A.out.below hb A.out.lt)
          replace B := Lib.hid (B.out.below hb B.out.lt)
          replace C := Lib.hid (C.out.below hb C.out.lt)
          replace P := Lib.hid (P.out.below hb P.out.lt)
          replace Q := Lib.hid (Q.out.below hb Q.out.lt)
          replace D := Lib.hid (D.out.below hb D.out.lt)
          replace O := Lib.hid (O.out.below hb O.out.lt)
          replace T := Lib.hid (T.out.below hb T.out.lt)
          replace G := Lib.hid (G.out.below hb G.out.lt)
          replace DW := Lib.hid (below_link DW.out hb DW.out.size)
          clear hb
          go_upto_region 27 with fail
          obtain ⟨w22, hW⟩ : ∃ w22, w22 = y21.alloc (Obj.cells #[Value.int IntKind.i64 ((prF x (prF y z)) 0), Value.int IntKind.i64 ((prF x (prF y z)) 1), Value.int IntKind.i64 ((prF x (prF y z)) 2), Value.int IntKind.i64 ((prF x (prF y z)) 3), Value.int IntKind.i64 ((prF x (prF y z)) 4), Value.int IntKind.i64 ((prF x (prF y z)) 5), Value.int IntKind.i64 ((prF x (prF y z)) 6), Value.int IntKind.i64 ((prF x (prF y z)) 7)] 27) := ⟨_, rfl⟩
          rw [← hW]
          have H : Hid (Row w22 y21.heap.size (prF x (prF y z))) := by rw [hW]; exact Row.new y21 (prF x (prF y z))
          have hb : Below y21.heap.size y21 w22 := by rw [hW]; exact (Below.refl _ _).alloc (Nat.le_refl _) _
          replace A := Lib.hid (A.out.below hb A.out.lt)
          replace B := Lib.hid (B.out.below hb B.out.lt)
          replace C := Lib.hid (C.out.below hb C.out.lt)
          replace P := Lib.hid (P.out.below hb P.out.lt)
          replace Q := Lib.hid (Q.out.below hb Q.out.lt)
          replace D := Lib.hid (D.out.below hb D.out.lt)
          replace O := Lib.hid (O.out.below hb O.out.lt)
          replace T := Lib.hid (T.out.below hb T.out.lt)
          replace G := Lib.hid (G.out.below hb G.out.lt)
          replace DW := Lib.hid (below_link DW.out hb DW.out.size)
          clear hW hb
          have e1 := run_equalIn_arr (prF (prF x y) z) (prF x (prF y z))
          have e2 : eqa (prF (prF x y) z) (prF x (prF y z)) = true := pr_assoc HP.out (prF_ok (vaB_iff.1 HB.out))
          have e3 : (prE (prF x y) z == prE x (prF y z)) = true := prE_assoc HP.out (prF_ok (vaB_iff.1 HB.out))
          obtain ⟨cG0, cG1, cG2, cG3, cG4, cG5, cG6, cG7⟩ := G.out.all
          obtain ⟨cH0, cH1, cH2, cH3, cH4, cH5, cH6, cH7⟩ := H.out.all
          go_wp2_with fail
          go_ret
          exact ⟨rfl, DW.out⟩
end Go.Proofs.Ytchkaaeipafdnaa
