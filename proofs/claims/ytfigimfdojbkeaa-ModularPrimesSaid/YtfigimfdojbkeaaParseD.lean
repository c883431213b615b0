/-
  Contract of isNumeral.
  Contract of Parse.
-/
import Derived.Test.YtfigimfdojbkeaaTextB
import Derived.Handy
import Derived.Test.YtfigimfdojbkeaaRefD
import Derived.Test.YtfigimfdojbkeaaIntD
set_option linter.unusedSimpArgs false
set_option linter.unusedVariables false
section
namespace Go.Proofs.Ytfigimfdojbkeaa
open Go.RowKit
attribute [local go_sem ↓] Go.wp_at_zero Go.wp_at_succ

/-- The text is a numeral: digits, at least one, and no 0 at the start unless it is 0. -/
def IsNum (l : List UInt8) : Prop := (∀ b ∈ l, 48 ≤ b.toNat ∧ b.toNat ≤ 57) ∧ l ≠ [] ∧ (l = [48] ∨ l[0]? ≠ some 48)
theorem byte_at (s : ByteArray) (i : Nat) (hi : i < s.size) : s.data.toList[i]? = some s[i] := by
  rw [Array.getElem?_toList]
  exact Array.getElem?_eq_getElem hi
theorem num_low {s : ByteArray} {i : Nat} (hi : i < s.size) (h : ((s[i].toNat : Nat) : Int) < 48) : ¬ IsNum s.data.toList := fun hn => by
  have := (hn.1 s[i] (List.mem_of_getElem? (byte_at s i hi))).1
  omega
theorem num_bad {s : ByteArray} {i : Nat} (hi : i < s.size) (h : ((s[i].toNat : Nat) : Int) < 48 ∨ 57 < ((s[i].toNat : Nat) : Int)) : ¬ IsNum s.data.toList := fun hn => by
  have := hn.1 s[i] (List.mem_of_getElem? (byte_at s i hi))
  omega
theorem num_one {s : ByteArray} (h : s.toList = [48]) : IsNum s.data.toList := by
  rw [ByteArray.toList_eq] at h
  rw [h]
  exact ⟨by simp, by simp, .inl rfl⟩
theorem num_empty {s : ByteArray} (h : ¬ 0 < s.size) : ¬ IsNum s.data.toList := fun hn => hn.2.1 (by
  apply List.eq_nil_of_length_eq_zero
  have : s.data.toList.length = s.size := by rw [Array.length_toList]; rfl
  omega)
theorem num_rest {s : ByteArray} (hall : ∀ j (hj : j < s.size), 48 ≤ s[j].toNat ∧ s[j].toNat ≤ 57) (h0 : 0 < s.size) (h1 : ¬ s.toList = [48]) : (s.toList == [48] || (((s[0].toNat : Nat) : Int) != 48)) = true ↔ IsNum s.data.toList := by
  have e1 : (s.toList == [48]) = false := by
    rw [beq_eq_false_iff_ne]; exact h1
  rw [e1, Bool.false_or]
  have h2 : s.data.toList[0]? = some s[0] := byte_at s 0 h0
  constructor
  · intro h
    refine ⟨fun b hb => ?_, fun e => by rw [e] at h2; simp at h2, .inr (fun e => ?_)⟩
    · obtain ⟨j, hj⟩ := List.getElem?_of_mem hb
      have hjs : j < s.size := by
        rcases Nat.lt_or_ge j s.data.toList.length with hl | hl
        · rw [Array.length_toList] at hl; exact hl
        · rw [List.getElem?_eq_none hl] at hj; cases hj
      rw [byte_at s j hjs] at hj
      have := hall j hjs
      rw [← Option.some.inj hj]
      exact this
    · rw [h2] at e
      have := Option.some.inj e
      rw [this] at h
      simp at h
  · intro h
    rcases h.2.2 with e | e
    · rw [ByteArray.toList_eq] at h1; exact absurd e h1
    · rw [h2] at e
      simp only [bne_iff_ne, ne_eq]
      intro e2
      apply e
      congr 1
      exact UInt8.toNat_inj.1 (by rw [show (48 : UInt8).toNat = 48 from rfl]; omega)

set_option maxHeartbeats 4000000 in
open Classical in
theorem isNumeral_any (s : ByteArray) (w : World) (hs : s.size ≤ 1099511627776) :
    Calls Try.prog 117 #[.string s] w (RetV (.bool (decide (IsNum s.data.toList))) w) := by
  go_enter Try.func117, Try.ntmps117
  go_wp2_with fail
  go_loop [3, 6] (fun _ v => ∃ i : Nat, i ≤ s.size ∧ v = .int .i64 i ∧ Hid (∀ j (hj : j < s.size), j < i → 48 ≤ s[j].toNat ∧ s[j].toNat ≤ 57)) (fun _ v => s.size - (intOf v).toNat)
  case atStart => exact ⟨0, by omega, rfl, fun j hj h => by omega⟩
  case round =>
    obtain ⟨i, hi, rfl, hd⟩ := hrel
    by_cases hin : i < s.size
    · have h1 : (i : Int) < (s.size : Int) := by omega
      go_wp2_with fail
      all_goals
        first
        | (go_round
           case rel => exact ⟨i + 1, by omega, by simp, fun j hj h => by
             rcases Nat.lt_or_ge j i with h2 | h2
             · exact hd.out j hj h2
             · obtain rfl : j = i := by omega
               have h3 : 48 ≤ ((s[j].toNat : Nat) : Int) ∧ ((s[j].toNat : Nat) : Int) ≤ 57 := by assumption
               omega⟩
           case measure => simp [intOf]; omega)
        | (go_ret
           refine ⟨?_, Below.refl _ _⟩
           rw [decide_eq_false (num_low hin (by assumption))]
           first | rfl | simp [*])
        | (go_ret
           refine ⟨?_, Below.refl _ _⟩
           rw [decide_eq_false (num_bad hin (by assumption))]
           first | rfl | simp [*])
    · have h1 : decide ((i : Int) < (s.size : Int)) = false := by simp; omega
      have hall : Hid (∀ j (hj : j < s.size), 48 ≤ s[j].toNat ∧ s[j].toNat ≤ 57) := fun j hj => hd.out j hj (by omega)
      go_wp2_with fail
      all_goals
        first
        | (go_ret
           refine ⟨?_, Below.refl _ _⟩
           rw [decide_eq_true (num_one (by assumption))]
           first | rfl | simp [*])
        | (go_ret
           refine ⟨?_, Below.refl _ _⟩
           rw [decide_eq_false (num_empty (by assumption))]
           simp [*])
        | (go_ret
           refine ⟨?_, Below.refl _ _⟩
           show Ending.returned (Value.bool _) = Ending.returned (Value.bool _)
           congr 2
           rw [Bool.eq_iff_iff, decide_eq_true_iff]
           exact num_rest hall.out (by assumption) (by assumption))
open Classical in
theorem isNumeral_yes (s : ByteArray) (w : World) (hs : s.size ≤ 1099511627776) (h : IsNum s.data.toList) : Calls Try.prog 117 #[.string s] w (RetV (.bool true) w) := by
  have := isNumeral_any s w hs
  rwa [decide_eq_true h] at this
open Classical in
theorem isNumeral_no (s : ByteArray) (w : World) (hs : s.size ≤ 1099511627776) (h : ¬ IsNum s.data.toList) : Calls Try.prog 117 #[.string s] w (RetV (.bool false) w) := by
  have := isNumeral_any s w hs
  rwa [decide_eq_false h] at this
end Go.Proofs.Ytfigimfdojbkeaa

namespace Go.Proofs.Ytfigimfdojbkeaa
open Go.RowKit
attribute [local go_sem ↓] Go.wp_at_zero Go.wp_at_succ

/-- The number with these digits. -/
def dv (l : List UInt8) : Nat := l.foldl (fun v b => 10 * v + (b.toNat - 48)) 0
theorem dv_nil : dv [] = 0 := rfl
theorem dv_snoc (l : List UInt8) (b : UInt8) : dv (l ++ [b]) = 10 * dv l + (b.toNat - 48) := by simp [dv, List.foldl_append]
theorem dv_take {s : ByteArray} {i : Nat} (hi : i < s.size) : dv (s.data.toList.take (i + 1)) = 10 * dv (s.data.toList.take i) + (s[i].toNat - 48) := by
  have hl : i < s.data.toList.length := by rw [Array.length_toList]; exact hi
  rw [List.take_succ_eq_append_getElem hl, dv_snoc]
  have : s.data.toList[i] = s[i] := Option.some.inj ((List.getElem?_eq_getElem hl).symm.trans (byte_at s i hi))
  rw [this]
theorem dv_lt : ∀ (n : Nat) (l : List UInt8), l.length = n → (∀ b ∈ l, 48 ≤ b.toNat ∧ b.toNat ≤ 57) → dv l < 10 ^ n
  | 0, l, h, _ => by rw [List.eq_nil_of_length_eq_zero h]; simp [dv]
  | n + 1, l, h, hb => by
    rcases List.eq_nil_or_concat l with rfl | ⟨l', b, rfl⟩
    · simp at h
    · simp at h
      have h1 := dv_lt n l' (by omega) (fun c hc => hb c (by simp [hc]))
      have h2 := hb b (by simp)
      simp only [List.concat_eq_append]
      rw [dv_snoc, Nat.pow_succ]
      omega

theorem mul_pw {x N : Nat} (h : x < pw N) : x * 1000000000 < pw (N + 1) := by
  have e1 : pw (N + 1) = pw N * 4294967296 := by unfold pw; exact Nat.pow_succ ..
  rw [e1]
  exact Nat.lt_of_le_of_lt (Nat.mul_le_mul_left _ (show 1000000000 ≤ 4294967296 by decide)) (Nat.mul_lt_mul_of_pos_right h (by decide))
theorem lt_pw {x k N : Nat} (h : x < 10 ^ k) (hk : k ≤ N) : x < pw N :=
  Nat.lt_of_lt_of_le h (Nat.le_trans (Nat.pow_le_pow_right (by omega) hk) (Nat.pow_le_pow_left (by omega) N))

set_option maxHeartbeats 4000000 in
set_option maxRecDepth 100000 in
theorem read_any (s : ByteArray) (w : World) (hs : s.size ≤ 4000) (hd : ∀ j (hj : j < s.size), 48 ≤ s[j].toNat ∧ s[j].toNat ≤ 57) :
    Calls Try.prog 118 #[.string s] w (RetMg (dv s.data.toList) w) := by
  have HD := Lib.hid hd
  clear hd
  go_enter Try.func118, Try.ntmps118
  go_wp2_with fail
  go_loopg [3, 4, 5, 8] s.size (fun k v3 v4 v5 v8 wr => ∃ (i x c t : Nat), i + k = s.size ∧ v8 = .int .i64 i ∧ v4 = .int .u32 c ∧ Mg wr v3 x ∧ Below w.heap.size w wr ∧ c < 10 ^ t ∧ x * 10 ^ t + c = dv (s.data.toList.take i) ∧ t + k % 9 ≤ 9 ∧ (k % 9 = 0 → t = 0) ∧ (x = 0 ∨ t + k % 9 = 9 ∨ (t = 0 ∧ k % 9 = 0)))
  case atStart => exact ⟨0, 0, 0, 0, by omega, rfl, rfl, Mg.zero _ 0 none (by omega), Below.refl _ _, by simp, by simp [dv], by omega, fun _ => rfl, .inl rfl⟩
  case round =>
    obtain ⟨i, x, c, t, hik, rfl, rfl, hm, hbl, hc, hx, ht1, ht2, ht3⟩ := hrel
    have HM := Lib.hid hm
    have HBL := Lib.hid hbl
    have HC := Lib.hid hc
    have HX := Lib.hid hx
    have HT := Lib.hid ht3
    have HT2 := Lib.hid ht2
    clear hm hbl hc hx ht3 ht2
    by_cases hgk : gk = 0
    · subst hgk
      have ht0 : t = 0 := HT2.out rfl
      have hi : i = s.size := by omega
      subst hi
      have hxe : Hid (x = dv s.data.toList) := by
        have h1 := HX.out
        have h2 := HC.out
        rw [ht0] at h1 h2
        rw [List.take_of_length_le (by rw [Array.length_toList]; exact Nat.le_refl _)] at h1
        unfold Hid
        simp at h1 h2
        omega
      have hns : decide ((s.size : Int) < (s.size : Int)) = false := by simp
      go_wp2_with fail
      go_ret
      exact ⟨_, rfl, by rw [← hxe.out]; exact HM.out, HBL.out⟩
    · obtain ⟨m, rfl⟩ : ∃ m, gk = m + 1 := ⟨gk - 1, by omega⟩
      have hin : i < s.size := by omega
      have h1 : (i : Int) < (s.size : Int) := by omega
      have hb := HD.out i hin
      have hb1 : (48 : Int) ≤ ((s[i].toNat : Nat) : Int) := by omega
      have hb2 : ((s[i].toNat : Nat) : Int) ≤ 57 := by omega
      have ht8 : t ≤ 8 := by
        rcases Nat.eq_zero_or_pos ((m + 1) % 9) with h | h
        · have := HT2.out h; omega
        · omega
      have hc8 : c < 100000000 := Nat.lt_of_lt_of_le HC.out (Nat.pow_le_pow_right (by omega) ht8)
      have hmr : (s.size : Int) - 1 - (i : Int) = (m : Int) := by omega
      have hmt : (m : Int).tmod 9 = ((m % 9 : Nat) : Int) := by rw [Int.tmod_eq_emod_of_nonneg (by omega)]; omega
      have hdx := Lib.hid (dv_take hin)
      clear hb
      by_cases h9 : m % 9 = 0
      · have hq : (((m % 9 : Nat) : Int) == 0) = true := by rw [h9]; rfl
        obtain ⟨A, n, cc, hu, q1, q2, q3⟩ := HM.out
        subst hu
        have HXL : Hid (x < pw 4000) := by
          have e1 : dv (s.data.toList.take i) < 10 ^ i := dv_lt i _ (by rw [List.length_take, Array.length_toList]; show min i s.size = i; omega) (fun b hb => by
            obtain ⟨j, hj⟩ := List.getElem?_of_mem (List.mem_of_mem_take hb)
            have hjs : j < s.size := by
              rcases Nat.lt_or_ge j s.data.toList.length with hl | hl
              · rw [Array.length_toList] at hl; exact hl
              · rw [List.getElem?_eq_none hl] at hj; cases hj
            rw [byte_at s j hjs] at hj
            rw [← Option.some.inj hj]
            exact HD.out j hjs)
          have e3 := HX.out
          have e4 : x ≤ x * 10 ^ t := Nat.le_mul_of_pos_right _ (Nat.pow_pos (by omega))
          exact lt_pw (Nat.lt_of_le_of_lt (Nat.le_trans e4 (Nat.le.intro e3)) e1) (by omega)
        have hnl : n ≤ 4000 := by
          rw [← q3.len]
          exact mag_length_le HXL.out
        have hcv : 10 * (c : Int) + (((s[i].toNat : Nat) : Int) - 48) = ((10 * c + (s[i].toNat - 48) : Nat) : Int) := by omega
        have Q3 := Lib.hid q3
        have HCV := Lib.hid hcv
        clear q3 hcv
        go_wp2_with fail
        refine (times_any _ _ n 1 cc 1 x 1000000000 _ (Q3.out.alloc _) (by
          have := (Blk.one (w := wr) (a := 1000000000) (i := 1000000000) (by omega) rfl).whole
          have e : mag 1000000000 = [1000000000] := by
            have e1 : mag (val [1000000000]) = [1000000000] := mag_val ⟨fun y hy => by simp at hy; omega, .inr (by simp [gd])⟩
            simpa [val] using e1
          rw [e]
          exact this) (by omega) (by omega)).mono ?_
        rintro e w1 ⟨v1, rfl, hv1, hb1⟩
        have HV1 := Lib.hid hv1; have HB1 := Lib.hid hb1; clear hv1 hb1
        go_wp2_with fail
        rw [HCV.out]
        refine (wordsOf_any (10 * c + (s[i].toNat - 48)) _ (by omega)).mono ?_
        rintro e w2 ⟨v2, rfl, hv2, hb2⟩
        obtain ⟨A1, n1, cc1, hu1, p1, p2, p3⟩ := HV1.out.below hb2
        obtain ⟨A2, n2, cc2, hu2, r1, r2, r3⟩ := hv2
        subst hu1 hu2
        have P3 := Lib.hid p3; have R3 := Lib.hid r3; have HB2 := Lib.hid hb2
        have hn1 : n1 ≤ 4001 := by
          rw [← p3.len]
          exact mag_length_le (mul_pw HXL.out)
        have hn2 : n2 ≤ 2 := by rw [← r3.len]; exact mag_length_le (by rw [show pw 2 = 18446744073709551616 from rfl]; omega)
        clear p3 r3 hb2
        go_wp2_with fail
        refine (plus_any A1 A2 n1 n2 cc1 cc2 _ _ _ P3.out R3.out (by omega) (by omega)).mono ?_
        rintro e w3 ⟨v3, rfl, hv3, hb3⟩
        have HV3 := Lib.hid hv3; have HB3 := Lib.hid hb3; clear hv3 hb3
        go_wp2_with fail
        go_roundg m
        case measure => omega
        case rel =>
          have e1 := hdx.out
          have e2 := HX.out
          have e3 := HC.out
          have e5 := HT2.out
          have d1 : Below w.heap.size w w1 := link_below (HBL.out.alloc HBL.out.size _) HB1.out (HBL.out.alloc HBL.out.size _).size rfl rfl rfl rfl
          have d2 := link_below d1 HB2.out d1.size rfl rfl rfl rfl
          have d3 := link_below d2 HB3.out d2.size rfl rfl rfl rfl
          refine ⟨i + 1, x * 1000000000 + (10 * c + (s[i].toNat - 48)), 0, 0, by omega, by simp, by simp, HV3.out, d3, by simp, ?_, by omega, fun _ => rfl, .inr (.inr ⟨rfl, h9⟩)⟩
          rw [e1, ← e2]
          rcases HT.out with h | h | h
          · rw [h]; simp
          · have h8 : t = 8 := by omega
            rw [h8]
            omega
          · omega
      · have hq : (((m % 9 : Nat) : Int) == 0) = false := by simp; omega
        go_wp2_with fail
        go_roundg m
        case measure => omega
        case rel =>
          have e1 := hdx.out
          have e2 := HX.out
          have e3 := HC.out
          have e5 := HT2.out
          have hp : 10 ^ (t + 1) = 10 ^ t * 10 := Nat.pow_succ ..
          refine ⟨i + 1, x, 10 * c + (s[i].toNat - 48), t + 1, by omega, by simp, by congr 1; omega, HM.out, HBL.out, ?_, ?_, ?_, ?_, ?_⟩
          · rw [hp]; omega
          · rw [e1, ← e2, hp, ← Nat.mul_assoc]; omega
          · omega
          · omega
          · rcases HT.out with h | h | h
            · exact .inl h
            · exact .inr (.inl (by omega))
            · exact .inr (.inl (by omega))
end Go.Proofs.Ytfigimfdojbkeaa
end

section
namespace Go.Proofs.Ytfigimfdojbkeaa
open Go.RowKit
attribute [local go_sem ↓] Go.wp_at_zero Go.wp_at_succ

/-- A result with an error's number. -/
def RetE (z c : Int) (w : World) (e : Ending) (w' : World) : Prop := ∃ v, e = .returned (.tuple #[v, .int .i64 c]) ∧ Iv w' v z ∧ Below w.heap.size w w'
theorem num_digits {D : ByteArray} (h : IsNum D.data.toList) : ∀ j (hj : j < D.size), 48 ≤ D[j].toNat ∧ D[j].toNat ≤ 57 := fun j hj => h.1 D[j] (List.mem_of_getElem? (byte_at D j hj))

set_option maxHeartbeats 4000000 in
theorem parse_big (s : ByteArray) (w : World) (hs : 4000 < s.size) : Calls Try.prog 45 #[.string s] w (RetE 0 2 w) := by
  have h1 : (4000 : Int) < (s.size : Int) := by omega
  go_enter Try.func45, Try.ntmps45
  go_wp2
  refine bodyPost_ret (v := .tuple #[zeroI, .int .i64 2]) (by simp [results, Try.results45, go_sem, zeroI]) rfl ⟨_, rfl, Iv.zero _, ?_⟩
  exact (Below.refl _ _).alloc (Nat.le_refl _) _

set_option maxHeartbeats 4000000 in
theorem parseNeg_bad (s : ByteArray) (w : World) (hs : s.size ≤ 4000) (h0 : 0 < s.size) (hm : s[0].toNat = 45) (hb : ¬ IsNum (s.extract 1 s.size).data.toList) : Calls Try.prog 45 #[.string s] w (RetE 0 3 w) := by
  have h1 : decide ((4000 : Int) < (s.size : Int)) = false := by simp; omega
  have h2 : (0 : Int) < (s.size : Int) := by omega
  have h3 : (((s[0].toNat : Nat) : Int) == 45) = true := by rw [hm]; rfl
  go_enter Try.func45, Try.ntmps45
  go_wp2_with fail
  have hsz : (s.extract 1 s.size).size ≤ 4000 := by have e : (s.extract 1 s.size).size = min s.size s.size - 1 := ByteArray.size_extract ..; omega
  refine (isNumeral_no (s.extract 1 s.size) _ (by omega) hb).mono ?_
  rintro e w1 ⟨rfl, hb1⟩
  have hbx := Lib.hid ((Box.new w false (.slice none 0 0)).below hb1 (by simp))
  have q0 := hbx.out.cell0
  have q1 := hbx.out.cell1
  have q2 := hbx.out.frozen 0
  have q3 := hbx.out.frozen 1
  have hbl := below_new hb1
  clear hb hb1
  go_wp2
  refine bodyPost_ret (v := .tuple #[zeroI, .int .i64 3]) (by simp [results, Try.results45, go_sem, zeroI, q0, q1]) rfl ⟨_, rfl, Iv.zero _, ?_⟩
  exact (hbl.setCell (Nat.le_refl _) _).setCell (Nat.le_refl _) _

set_option maxHeartbeats 4000000 in
theorem parseNeg_mz (s : ByteArray) (w : World) (hs : s.size ≤ 4000) (h0 : 0 < s.size) (hm : s[0].toNat = 45) (hb : IsNum (s.extract 1 s.size).data.toList) (hz : s.toList = [45, 48]) : Calls Try.prog 45 #[.string s] w (RetE 0 3 w) := by
  have h1 : decide ((4000 : Int) < (s.size : Int)) = false := by simp; omega
  have h2 : (0 : Int) < (s.size : Int) := by omega
  have h3 : (((s[0].toNat : Nat) : Int) == 45) = true := by rw [hm]; rfl
  go_enter Try.func45, Try.ntmps45
  go_wp2_with fail
  have hsz : (s.extract 1 s.size).size ≤ 4000 := by have e : (s.extract 1 s.size).size = min s.size s.size - 1 := ByteArray.size_extract ..; omega
  refine (isNumeral_yes (s.extract 1 s.size) _ (by omega) hb).mono ?_
  rintro e w1 ⟨rfl, hb1⟩
  have hbx := Lib.hid ((Box.new w false (.slice none 0 0)).below hb1 (by simp))
  have q0 := hbx.out.cell0
  have q1 := hbx.out.cell1
  have q2 := hbx.out.frozen 0
  have q3 := hbx.out.frozen 1
  have hbl := below_new hb1
  have hzz : (s.toList == [45, 48]) = true := by rw [hz]; rfl
  clear hb hb1 hz
  go_wp2
  refine bodyPost_ret (v := .tuple #[zeroI, .int .i64 3]) (by simp [results, Try.results45, go_sem, zeroI, q0, q1]) rfl ⟨_, rfl, Iv.zero _, ?_⟩
  exact (hbl.setCell (Nat.le_refl _) _).setCell (Nat.le_refl _) _

set_option maxHeartbeats 4000000 in
theorem parseNeg_ok (s : ByteArray) (w : World) (hs : s.size ≤ 4000) (h0 : 0 < s.size) (hm : s[0].toNat = 45) (hb : IsNum (s.extract 1 s.size).data.toList) (hz : s.toList ≠ [45, 48]) : Calls Try.prog 45 #[.string s] w (RetE (sgn true (dv (s.extract 1 s.size).data.toList)) 0 w) := by
  have HB := Lib.hid hb
  have hzz : (s.toList == [45, 48]) = false := by rw [beq_eq_false_iff_ne]; exact hz
  clear hz
  have h1 : decide ((4000 : Int) < (s.size : Int)) = false := by simp; omega
  have h2 : (0 : Int) < (s.size : Int) := by omega
  have h3 : (((s[0].toNat : Nat) : Int) == 45) = true := by rw [hm]; rfl
  go_enter Try.func45, Try.ntmps45
  go_wp2_with fail
  have hsz : (s.extract 1 s.size).size ≤ 4000 := by have e : (s.extract 1 s.size).size = min s.size s.size - 1 := ByteArray.size_extract ..; omega
  refine (isNumeral_yes (s.extract 1 s.size) _ (by omega) hb).mono ?_
  rintro e w1 ⟨rfl, hb1⟩
  clear hb
  go_wp2_with fail
  refine (read_any (s.extract 1 s.size) _ hsz (num_digits HB.out)).mono ?_
  rintro e w2 ⟨v2, rfl, ⟨A2, n2, c2, rfl, a1, a2, a3⟩, hb2⟩
  have A3 := Lib.hid a3
  have hn2 : n2 ≤ 4000 := by
    rw [← a3.len]
    have e1 : (s.extract 1 s.size).data.toList.length = (s.extract 1 s.size).size := by rw [Array.length_toList]; rfl
    exact mag_length_le (lt_pw (dv_lt _ _ rfl HB.out.1) (by omega))
  clear a3
  go_wp2_with fail
  refine (signed_mg true A2 n2 c2 _ _ A3.out (by omega) a1 a2).mono ?_
  rintro e w3 ⟨v3, rfl, hv3, hb3⟩
  obtain ⟨A4, n4, c4, rfl, k1, k2, k3⟩ := hv3.form
  have HV := Lib.hid hv3
  have hl1 := below_new hb1
  have hl2 := link_below hl1 hb2 hl1.size rfl rfl rfl rfl
  have hl3 := link_below hl2 hb3 hl2.size rfl rfl rfl rfl
  have hbx := Lib.hid ((((Box.new w false (.slice none 0 0)).below hb1 (by simp)).next hb2 rfl).next hb3 rfl)
  have q0 := hbx.out.cell0
  have q1 := hbx.out.cell1
  have q2 := hbx.out.frozen 0
  have q3 := hbx.out.frozen 1
  clear k3 hv3 hb1 hb2 hb3
  generalize sgn true (dv (s.extract 1 s.size).data.toList) = z at *
  generalize hdz : decide (z < 0) = dz at *
  go_wp2
  refine bodyPost_ret (v := .tuple #[.agg #[.bool dz, .slice A4 n4 c4], .int .i64 0]) (by simp [results, Try.results45, go_sem, q0, q1]) rfl ⟨_, rfl, ?_, (hl3.setCell (Nat.le_refl _) _).setCell (Nat.le_refl _) _⟩
  rw [← hdz] at HV ⊢
  exact iv_keep HV.out hbx.out _

set_option maxHeartbeats 4000000 in
theorem parsePos_bad (s : ByteArray) (w : World) (hs : s.size ≤ 4000) (h0 : 0 < s.size) (hm : s[0].toNat ≠ 45) (hb : ¬ IsNum s.data.toList) : Calls Try.prog 45 #[.string s] w (RetE 0 3 w) := by
  have h1 : decide ((4000 : Int) < (s.size : Int)) = false := by simp; omega
  have h2 : (0 : Int) < (s.size : Int) := by omega
  have h3 : (((s[0].toNat : Nat) : Int) == 45) = false := by simp; omega
  go_enter Try.func45, Try.ntmps45
  go_wp2_with fail
  have hsz : s.size ≤ 4000 := by omega
  refine (isNumeral_no s _ (by omega) hb).mono ?_
  rintro e w1 ⟨rfl, hb1⟩
  have hbx := Lib.hid ((Box.new w false (.slice none 0 0)).below hb1 (by simp))
  have q0 := hbx.out.cell0
  have q1 := hbx.out.cell1
  have q2 := hbx.out.frozen 0
  have q3 := hbx.out.frozen 1
  have hbl := below_new hb1
  clear hb hb1
  go_wp2
  refine bodyPost_ret (v := .tuple #[zeroI, .int .i64 3]) (by simp [results, Try.results45, go_sem, zeroI, q0, q1]) rfl ⟨_, rfl, Iv.zero _, ?_⟩
  exact (hbl.setCell (Nat.le_refl _) _).setCell (Nat.le_refl _) _

set_option maxHeartbeats 4000000 in
theorem parsePos_ok (s : ByteArray) (w : World) (hs : s.size ≤ 4000) (h0 : 0 < s.size) (hm : s[0].toNat ≠ 45) (hb : IsNum s.data.toList) (hz : s.toList ≠ [45, 48]) : Calls Try.prog 45 #[.string s] w (RetE (sgn false (dv s.data.toList)) 0 w) := by
  have HB := Lib.hid hb
  have hzz : (s.toList == [45, 48]) = false := by rw [beq_eq_false_iff_ne]; exact hz
  clear hz
  have h1 : decide ((4000 : Int) < (s.size : Int)) = false := by simp; omega
  have h2 : (0 : Int) < (s.size : Int) := by omega
  have h3 : (((s[0].toNat : Nat) : Int) == 45) = false := by simp; omega
  go_enter Try.func45, Try.ntmps45
  go_wp2_with fail
  have hsz : s.size ≤ 4000 := by omega
  refine (isNumeral_yes s _ (by omega) hb).mono ?_
  rintro e w1 ⟨rfl, hb1⟩
  clear hb
  go_wp2_with fail
  refine (read_any s _ hsz (num_digits HB.out)).mono ?_
  rintro e w2 ⟨v2, rfl, ⟨A2, n2, c2, rfl, a1, a2, a3⟩, hb2⟩
  have A3 := Lib.hid a3
  have hn2 : n2 ≤ 4000 := by
    rw [← a3.len]
    have e1 : s.data.toList.length = s.size := by rw [Array.length_toList]; rfl
    exact mag_length_le (lt_pw (dv_lt _ _ rfl HB.out.1) (by omega))
  clear a3
  go_wp2_with fail
  refine (signed_mg false A2 n2 c2 _ _ A3.out (by omega) a1 a2).mono ?_
  rintro e w3 ⟨v3, rfl, hv3, hb3⟩
  obtain ⟨A4, n4, c4, rfl, k1, k2, k3⟩ := hv3.form
  have HV := Lib.hid hv3
  have hl1 := below_new hb1
  have hl2 := link_below hl1 hb2 hl1.size rfl rfl rfl rfl
  have hl3 := link_below hl2 hb3 hl2.size rfl rfl rfl rfl
  have hbx := Lib.hid ((((Box.new w false (.slice none 0 0)).below hb1 (by simp)).next hb2 rfl).next hb3 rfl)
  have q0 := hbx.out.cell0
  have q1 := hbx.out.cell1
  have q2 := hbx.out.frozen 0
  have q3 := hbx.out.frozen 1
  clear k3 hv3 hb1 hb2 hb3
  generalize sgn false (dv s.data.toList) = z at *
  generalize hdz : decide (z < 0) = dz at *
  go_wp2
  refine bodyPost_ret (v := .tuple #[.agg #[.bool dz, .slice A4 n4 c4], .int .i64 0]) (by simp [results, Try.results45, go_sem, q0, q1]) rfl ⟨_, rfl, ?_, (hl3.setCell (Nat.le_refl _) _).setCell (Nat.le_refl _) _⟩
  rw [← hdz] at HV ⊢
  exact iv_keep HV.out hbx.out _

set_option maxHeartbeats 4000000 in
theorem parseNil_bad (s : ByteArray) (w : World) (hs : s.size ≤ 4000) (h0 : s.size = 0) (hb : ¬ IsNum s.data.toList) : Calls Try.prog 45 #[.string s] w (RetE 0 3 w) := by
  have h1 : decide ((4000 : Int) < (s.size : Int)) = false := by simp; omega
  have h2 : decide ((0 : Int) < (s.size : Int)) = false := by rw [decide_eq_false_iff_not]; omega
  go_enter Try.func45, Try.ntmps45
  go_wp2_with fail
  have hsz : s.size ≤ 4000 := by omega
  refine (isNumeral_no s _ (by omega) hb).mono ?_
  rintro e w1 ⟨rfl, hb1⟩
  have hbx := Lib.hid ((Box.new w false (.slice none 0 0)).below hb1 (by simp))
  have q0 := hbx.out.cell0
  have q1 := hbx.out.cell1
  have q2 := hbx.out.frozen 0
  have q3 := hbx.out.frozen 1
  have hbl := below_new hb1
  clear hb hb1
  go_wp2
  refine bodyPost_ret (v := .tuple #[zeroI, .int .i64 3]) (by simp [results, Try.results45, go_sem, zeroI, q0, q1]) rfl ⟨_, rfl, Iv.zero _, ?_⟩
  exact (hbl.setCell (Nat.le_refl _) _).setCell (Nat.le_refl _) _

set_option maxHeartbeats 4000000 in
theorem parseNil_ok (s : ByteArray) (w : World) (hs : s.size ≤ 4000) (h0 : s.size = 0) (hb : IsNum s.data.toList) (hz : s.toList ≠ [45, 48]) : Calls Try.prog 45 #[.string s] w (RetE (sgn false (dv s.data.toList)) 0 w) := by
  have HB := Lib.hid hb
  have hzz : (s.toList == [45, 48]) = false := by rw [beq_eq_false_iff_ne]; exact hz
  clear hz
  have h1 : decide ((4000 : Int) < (s.size : Int)) = false := by simp; omega
  have h2 : decide ((0 : Int) < (s.size : Int)) = false := by rw [decide_eq_false_iff_not]; omega
  go_enter Try.func45, Try.ntmps45
  go_wp2_with fail
  have hsz : s.size ≤ 4000 := by omega
  refine (isNumeral_yes s _ (by omega) hb).mono ?_
  rintro e w1 ⟨rfl, hb1⟩
  clear hb
  go_wp2_with fail
  refine (read_any s _ hsz (num_digits HB.out)).mono ?_
  rintro e w2 ⟨v2, rfl, ⟨A2, n2, c2, rfl, a1, a2, a3⟩, hb2⟩
  have A3 := Lib.hid a3
  have hn2 : n2 ≤ 4000 := by
    rw [← a3.len]
    have e1 : s.data.toList.length = s.size := by rw [Array.length_toList]; rfl
    exact mag_length_le (lt_pw (dv_lt _ _ rfl HB.out.1) (by omega))
  clear a3
  go_wp2_with fail
  refine (signed_mg false A2 n2 c2 _ _ A3.out (by omega) a1 a2).mono ?_
  rintro e w3 ⟨v3, rfl, hv3, hb3⟩
  obtain ⟨A4, n4, c4, rfl, k1, k2, k3⟩ := hv3.form
  have HV := Lib.hid hv3
  have hl1 := below_new hb1
  have hl2 := link_below hl1 hb2 hl1.size rfl rfl rfl rfl
  have hl3 := link_below hl2 hb3 hl2.size rfl rfl rfl rfl
  have hbx := Lib.hid ((((Box.new w false (.slice none 0 0)).below hb1 (by simp)).next hb2 rfl).next hb3 rfl)
  have q0 := hbx.out.cell0
  have q1 := hbx.out.cell1
  have q2 := hbx.out.frozen 0
  have q3 := hbx.out.frozen 1
  clear k3 hv3 hb1 hb2 hb3
  generalize sgn false (dv s.data.toList) = z at *
  generalize hdz : decide (z < 0) = dz at *
  go_wp2
  refine bodyPost_ret (v := .tuple #[.agg #[.bool dz, .slice A4 n4 c4], .int .i64 0]) (by simp [results, Try.results45, go_sem, q0, q1]) rfl ⟨_, rfl, ?_, (hl3.setCell (Nat.le_refl _) _).setCell (Nat.le_refl _) _⟩
  rw [← hdz] at HV ⊢
  exact iv_keep HV.out hbx.out _
end Go.Proofs.Ytfigimfdojbkeaa
end

