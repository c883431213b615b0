/-
  Contract of subtractTimes.
  The guess of a word of a quotient: plain facts.
  Contract of divideStep.
  Contract of divideLong.
  Contract of divide.
-/
import Derived.Test.YtfigimfdojbkeaaMakeE
import Derived.Test.YtfigimfdojbkeaaMath
import Derived.Deep.RegionHeld3
import Derived.Deep.RegionWith
import Derived.Deep.DrawnRows
set_option linter.unusedSimpArgs false
set_option linter.unusedVariables false
namespace Go.Proofs.Ytfigimfdojbkeaa
open Go.RowKit

theorem and_mask (c : Nat) (hc : c < 18446744073709551616) : bits .and .u64 (c : Int) 4294967295 = ((c % 4294967296 : Nat) : Int) := by
  have h := u64_and_nat c 4294967295 hc (by omega)
  have e : ((4294967295 : Nat) : Int) = 4294967295 := rfl
  rw [e] at h
  rw [h, show 4294967295 = 2 ^ 32 - 1 from rfl, Nat.and_two_pow_sub_one_eq_mod]

structure SubRel (mid vs : List Nat) (m wd k carry bo : Nat) (dn rest : List Nat) : Prop where
  len : dn.length = k
  restlen : rest.length + k = m
  rest : rest = mid.drop k
  wds : Wds dn
  hi : pw k * carry ≤ val (vs.take k) * wd
  eq : val dn + val (vs.take k) * wd = val (mid.take k) + pw k * (carry + bo)

theorem SubRel.step {mid vs : List Nat} {m wd k carry bo : Nat} {dn rest : List Nat} (h : SubRel mid vs m wd k carry bo dn rest) (hm : mid.length = m) (hw : Wds mid) (hk : k < m) (hbo : bo ≤ 1) :
    ∃ r, rest = gd mid k :: r ∧ SubRel mid vs m wd (k + 1) ((carry + gd vs k * wd) / 4294967296) (bw (gd mid k) ((carry + gd vs k * wd) % 4294967296) bo) (dn ++ [dw (gd mid k) ((carry + gd vs k * wd) % 4294967296) bo]) r := by
  have e0 : mid.drop k = gd mid k :: mid.drop (k + 1) := by
    rw [List.drop_eq_getElem_cons (by omega), gd_eq, List.getElem?_eq_getElem (by omega)]; rfl
  have hd := dw_bw (hw.getD k) (Nat.mod_lt (carry + gd vs k * wd) (show 0 < 4294967296 by omega)) hbo
  have e4 : (val (vs.take k) + pw k * gd vs k) * wd = val (vs.take k) * wd + pw k * (gd vs k * wd) := by rw [Nat.add_mul, Nat.mul_assoc]
  have e1 := h.eq
  have e6 := h.hi
  refine ⟨mid.drop (k + 1), by rw [h.rest, e0], ⟨by rw [List.length_append, h.len]; rfl, ?_, rfl, h.wds.append (Wds.cons (dw_lt _ _ _) Wds.nil), ?_, ?_⟩⟩
  · rw [List.length_drop, hm]; omega
  · rw [pw_succ, val_take_succ, e4, Nat.mul_comm 4294967296 (pw k), Nat.mul_assoc]
    have e5 : pw k * (4294967296 * ((carry + gd vs k * wd) / 4294967296)) ≤ pw k * (carry + gd vs k * wd) := Nat.mul_le_mul_left _ (Nat.mul_div_le _ _)
    rw [Nat.mul_add] at e5
    omega
  · rw [val_snoc, h.len, pw_succ, val_take_succ, val_take_succ, e4]
    generalize hs : carry + gd vs k * wd = s at *
    generalize dw (gd mid k) (s % 4294967296) bo = d at *
    generalize bw (gd mid k) (s % 4294967296) bo = b at *
    have e2 : pw k * (d + s % 4294967296 + bo) = pw k * (gd mid k + 4294967296 * b) := by rw [hd]
    have e3 : pw k * s = pw k * carry + pw k * (gd vs k * wd) := by rw [← hs, Nat.mul_add]
    have e5 : pw k * s = pw k * (s % 4294967296) + pw k * (4294967296 * (s / 4294967296)) := by rw [← Nat.mul_add]; congr 1; omega
    have e7 : 4294967296 * pw k * (s / 4294967296 + b) = pw k * (4294967296 * (s / 4294967296)) + pw k * (4294967296 * b) := by
      rw [Nat.mul_comm 4294967296 (pw k), Nat.mul_assoc, Nat.mul_add, Nat.mul_add]
    simp only [Nat.mul_add] at e1 e2
    omega

def RetSub (g : Nat) (pre mid post vs : List Nat) (wd : Nat) (w : World) (e : Ending) (w' : World) : Prop :=
  ∃ mid' : List Nat, e = .returned (.bool (decide (val mid < val vs * wd))) ∧ mid'.length = mid.length ∧ val mid' + val vs * wd = val mid + (if val mid < val vs * wd then pw mid.length else 0) ∧
    Blk w' g (pre ++ mid' ++ post) ∧ Only g w w' ∧ w'.heap.size = w.heap.size

set_option maxHeartbeats 1000000 in
theorem subtractTimes_any (g o : Nat) (pre mid post : List Nat) (A : Option Addr) (n m c d wd : Nat) (vs : List Nat) (w : World) (hb : Blk w g (pre ++ mid ++ post)) (ho : pre.length = o) (hmid : mid.length = m)
    (ha : Wd w A n vs) (hne : ∀ ad, A = some ad → 0 < n → ad.block ≠ g) (hnm : n + 1 = m) (hm : m ≤ 1000000000) (hwd : wd < 4294967296) :
    Calls Try.prog 179 #[.slice (some ⟨g, o, none⟩) m c, .slice A n d, .int .u64 wd] w (RetSub g pre mid post vs wd w) := by
  subst ho
  have HA := Lib.hid ha
  have HB := Lib.hid hb
  have HM := Lib.hid hmid
  have HN := Lib.hid hne
  have HNM := Lib.hid hnm
  have hn : n ≤ 1000000000 := by omega
  clear ha hb hmid hne hnm
  go_enter Try.func179, Try.ntmps179
  go_wp2
  go_loopw [7, 8, 13] (fun cy bb t wr => ∃ k carry bo : Nat, ∃ dn rest, k ≤ m ∧ carry < 4294967296 ∧ bo ≤ 1 ∧ cy = .int .u64 carry ∧ bb = .int .u64 bo ∧ t = .int .i64 k ∧ SubRel mid vs m wd k carry bo dn rest ∧ Blk wr g (pre ++ dn ++ (rest ++ post)) ∧ Only g w wr ∧ wr.heap.size = w.heap.size)
      (fun _ _ t _ => m - (intOf t).toNat)
  case atStart => exact ⟨0, 0, 0, [], mid, Nat.zero_le _, by omega, by omega, rfl, rfl, rfl, ⟨rfl, by simpa using HM.out, rfl, Wds.nil, by simp, by simp [val]⟩, by simpa using HB.out, Only.refl _ _, rfl⟩
  case round =>
    obtain ⟨k, carry, bo, dn, rest, hk, hcy, hbo, rfl, rfl, rfl, hrel, hblk, hon, hsz⟩ := hrel
    have HBK := Lib.hid hblk
    have HSZ := Lib.hid hsz
    clear hblk hsz
    by_cases hlt : k < m
    · obtain ⟨r, hr, hstep⟩ := hrel.step HM.out HB.out.2.left.right hlt hbo
      subst hr
      have HL := Lib.hid hrel.len
      have HST := Lib.hid hstep
      clear hrel hstep
      have h1 := HA.out.wds.getD k
      have hmul := mul_bound h1 hwd
      have hm0 : (0 : Int) ≤ (gd vs k : Int) * (wd : Int) := Int.mul_nonneg (Int.natCast_nonneg _) (Int.natCast_nonneg _)
      have hm1 : (gd vs k : Int) * (wd : Int) ≤ 18446744065119617025 := by rw [← Int.natCast_mul]; omega
      have hcell := HBK.out.cell (i := pre.length + k) (by simp [HL.out])
      rw [List.cons_append, gd_mid pre dn _ k HL.out, show gd (gd mid k :: (r ++ post)) 0 = gd mid k from rfl] at hcell
      have h2 : gd mid k < 4294967296 := HBK.out.2 _ (by simp)
      have hfro := HBK.out.frozen (pre.length + k)
      have HA2 := Lib.hid (HA.out.only hon HN.out)
      have hc0 : carry + gd vs k * wd < 18446744073709551616 := by omega
      have hc1 : (carry : Int) + (gd vs k : Int) * (wd : Int) = ((carry + gd vs k * wd : Nat) : Int) := by rw [Int.natCast_add, Int.natCast_mul]
      have hc2 : (carry + gd vs k * wd) / 4294967296 < 4294967296 := by omega
      generalize hs : carry + gd vs k * wd = s at *
      have hand := and_mask s hc0
      have h5 := Nat.mod_lt s (show 0 < 4294967296 by omega)
      have h3 : Hid (IntKind.u64.wrap (IntKind.u64.wrap ((gd mid k : Int) - ((s % 4294967296 : Nat) : Int)) - (bo : Int)) / 9223372036854775808 = ((bw (gd mid k) (s % 4294967296) bo : Nat) : Int)) := sub_hi h2 h5 hbo
      have h4 : Hid (IntKind.u64.wrap (IntKind.u64.wrap ((gd mid k : Int) - ((s % 4294967296 : Nat) : Int)) - (bo : Int)) % 4294967296 = ((dw (gd mid k) (s % 4294967296) bo : Nat) : Int)) := sub_lo h2 h5 hbo
      have HS := Lib.hid hs
      generalize hs2 : s % 4294967296 = s2 at *
      have HS2 := Lib.hid hs2
      clear hs hs2
      go_wp2_with fail
      refine (word_any A n d vs k _ HA2.out (by omega) (by omega)).mono ?_
      rintro e w' ⟨rfl, rfl⟩
      rw [Int.toNat_natCast]
      go_wp2
      go_roundw
      case rel =>
        refine ⟨k + 1, s / 4294967296, bw (gd mid k) s2 bo, dn ++ [dw (gd mid k) s2 bo], r, by omega, hc2, bw_le _ _ _, by go_num, by rw [h3.out], by go_num, HST.out, ?_, hon.set_ _ _, by simpa [World.setCell] using HSZ.out⟩
        have hset := HBK.out.set_i (pre.length + k) (dw (gd mid k) s2 bo) h4.out (dw_lt _ _ _)
        rw [List.cons_append, set_mid pre dn (r ++ post) _ _ k HL.out] at hset
        exact hset
      case measure => simp [intOf]; omega
    · obtain rfl : k = m := by omega
      have HR := Lib.hid hrel
      clear hrel
      have hfin : Hid (val dn + val vs * wd = val mid + pw k * bo ∧ (bo = 1 ↔ val mid < val vs * wd)) := by
        have h1 := HR.out.eq
        have h2 := HR.out.hi
        have hmk : mid.length = k := HM.out
        have hnk := HNM.out
        rw [val_take_all _ _ (by rw [HA.out.len]; omega)] at h1 h2
        rw [val_take_all _ _ (by omega)] at h1
        have h3 := val_lt HA.out.wds
        rw [HA.out.len] at h3
        have h4 : val vs * wd < pw k := by
          rw [← HNM.out, pw_succ, Nat.mul_comm]
          exact Nat.lt_of_le_of_lt (Nat.mul_le_mul_right _ (Nat.le_of_lt hwd)) (Nat.mul_lt_mul_of_pos_left h3 (by omega))
        have h5 : carry = 0 := by
          rcases Nat.eq_zero_or_pos carry with e | e
          · exact e
          · have := Nat.mul_le_mul_left (pw k) e
            omega
        subst h5
        have h6 := val_lt HR.out.wds
        rw [HR.out.len] at h6
        rw [Nat.zero_add] at h1
        refine ⟨h1, ?_⟩
        rcases (show bo = 0 ∨ bo = 1 by omega) with rfl | rfl
        · simp at h1 ⊢; omega
        · simp at h1 ⊢; omega
      go_wp2
      go_ret
      obtain ⟨h1, h2⟩ := hfin.out
      have h3 : rest = [] := List.eq_nil_of_length_eq_zero (by have := HR.out.restlen; omega)
      subst h3
      refine ⟨dn, ?_, by rw [HR.out.len, HM.out], ?_, HBK.out, hon, HSZ.out⟩
      · have e : ((bo : Int) == 1) = decide (val mid < val vs * wd) := by
          rw [Bool.eq_iff_iff, beq_iff_eq, decide_eq_true_iff, ← h2]; omega
        rw [← e]; rfl
      · rw [h1, HM.out]
        split
        · rename_i h; rw [h2.2 h]; omega
        · rename_i h
          have : bo = 0 := by
            rcases (show bo = 0 ∨ bo = 1 by omega) with e | e
            · exact e
            · exact absurd (h2.1 e) h
          rw [this]; omega
end Go.Proofs.Ytfigimfdojbkeaa

namespace Go.Proofs.Ytfigimfdojbkeaa

/-- The guess is too great. -/
theorem guess_over {P v1 v0 vl u2 u1 u0 ul gs rs : Nat} (hul : ul < P) (ht : gs * v1 + rs = u1 + 4294967296 * u2) (h : u0 + 4294967296 * rs < gs * v0) :
    (u0 + 4294967296 * (u1 + 4294967296 * u2)) * P + ul < gs * ((v0 + 4294967296 * v1) * P + vl) := by
  have e1 : gs * (v0 + 4294967296 * v1) = gs * v0 + 4294967296 * (gs * v1) := by rw [Nat.mul_add, Nat.mul_left_comm]
  have e2 : u0 + 4294967296 * (u1 + 4294967296 * u2) + 1 ≤ gs * (v0 + 4294967296 * v1) := by rw [e1, ← ht]; omega
  have e3 := Nat.mul_le_mul_right P e2
  have e4 : gs * ((v0 + 4294967296 * v1) * P + vl) = gs * (v0 + 4294967296 * v1) * P + gs * vl := by rw [Nat.mul_add, Nat.mul_assoc]
  rw [Nat.add_mul] at e3
  omega

/-- The guess is too great by 1 at most. -/
theorem guess_near {P v1 v0 vl u2 u1 u0 ul g rs : Nat} (hvl : vl < P) (ht : (g + 1) * v1 + rs = u1 + 4294967296 * u2) (h : (g + 1) * v0 ≤ u0 + 4294967296 * rs) (hg : g ≤ v0 + 4294967296 * v1) :
    g * ((v0 + 4294967296 * v1) * P + vl) ≤ (u0 + 4294967296 * (u1 + 4294967296 * u2)) * P + ul := by
  have e1 : (g + 1) * (v0 + 4294967296 * v1) = (g + 1) * v0 + 4294967296 * ((g + 1) * v1) := by rw [Nat.mul_add, Nat.mul_left_comm]
  have e2 : g * (v0 + 4294967296 * v1 + 1) ≤ u0 + 4294967296 * (u1 + 4294967296 * u2) := by
    have e5 : (g + 1) * (v0 + 4294967296 * v1) ≤ u0 + 4294967296 * (u1 + 4294967296 * u2) := by rw [e1, ← ht]; omega
    rw [Nat.add_mul] at e5
    rw [Nat.mul_add]
    omega
  have e3 := Nat.mul_le_mul_right P e2
  have e4 : g * ((v0 + 4294967296 * v1) * P + vl) ≤ g * ((v0 + 4294967296 * v1 + 1) * P) := by
    refine Nat.mul_le_mul_left _ ?_
    rw [Nat.add_mul (v0 + 4294967296 * v1) 1]
    omega
  rw [← Nat.mul_assoc] at e4
  omega

theorem val_top2 (a : List Nat) (p : Nat) (h : a.length = p + 2) : val a = (gd a p + 4294967296 * gd a (p + 1)) * pw p + val (a.take p) := by
  have h1 := val_take_succ a (p + 1)
  have h2 := val_take_succ a p
  rw [val_take_all a (p + 1 + 1) (by omega), h2, pw_succ] at h1
  rw [h1]
  grind
theorem val_top3 (a : List Nat) (p : Nat) (h : a.length = p + 3) : val a = (gd a p + 4294967296 * (gd a (p + 1) + 4294967296 * gd a (p + 2))) * pw p + val (a.take p) := by
  have h1 := val_take_succ a (p + 2)
  have h2 := val_take_succ a (p + 1)
  have h3 := val_take_succ a p
  rw [val_take_all a (p + 2 + 1) (by omega), h2, h3, show pw (p + 2) = pw (p + 1 + 1) from rfl, pw_succ (p + 1), pw_succ p] at h1
  rw [h1]
  grind

/-- What is known of a guess in the loop: it is not less than the quotient. -/
structure Guess (mid vs : List Nat) (p gs rs : Nat) : Prop where
  sum : gs * gd vs (p + 1) + rs = gd mid (p + 1) + 4294967296 * gd mid (p + 2)
  ge : val mid / val vs ≤ gs

theorem div_pos_of_top {vs : List Nat} {p : Nat} (hn : vs.length = p + 2) (h : 0 < gd vs (p + 1)) : 0 < val vs := by
  rw [val_top2 vs p hn]
  have h1 := pw_pos p
  have h2 : 1 * 1 ≤ (gd vs p + 4294967296 * gd vs (p + 1)) * pw p := Nat.mul_le_mul (by omega) h1
  omega

theorem Guess.less {mid vs : List Nat} {p gs rs : Nat} (h : Guess mid vs p (gs + 1) rs) (hm : mid.length = p + 3) (hn : vs.length = p + 2) (wm : Wds mid) (hv : 0 < gd vs (p + 1)) (hq : val mid < 4294967296 * val vs)
    (hlt : 4294967295 < gs + 1 ∨ gd mid p + 4294967296 * rs < (gs + 1) * gd vs p) : Guess mid vs p gs (rs + gd vs (p + 1)) := by
  refine ⟨by have := h.sum; rw [Nat.add_mul] at this; omega, ?_⟩
  have hpos := div_pos_of_top hn hv
  rcases hlt with h1 | h1
  · have : val mid / val vs < 4294967296 := by rw [Nat.div_lt_iff_lt_mul hpos]; exact hq
    omega
  · have h2 := guess_over (P := pw p) (vl := val (vs.take p)) (val_take_lt wm p) h.sum h1
    rw [← val_top2 vs p hn, ← val_top3 mid p hm] at h2
    have : val mid / val vs < gs + 1 := by rw [Nat.div_lt_iff_lt_mul hpos]; exact h2
    omega

theorem Guess.done {mid vs : List Nat} {p gs rs : Nat} (h : Guess mid vs p gs rs) (hm : mid.length = p + 3) (hn : vs.length = p + 2) (wv : Wds vs) (hv : 0 < gd vs (p + 1)) (hg : gs ≤ 4294967295)
    (hle : gs * gd vs p ≤ gd mid p + 4294967296 * rs) : gs ≤ val mid / val vs + 1 := by
  cases gs with
  | zero => exact Nat.zero_le _
  | succ g =>
    have hpos := div_pos_of_top hn hv
    have h2 := guess_near (P := pw p) (ul := val (mid.take p)) (val_take_lt wv p) h.sum hle (by omega)
    rw [← val_top2 vs p hn, ← val_top3 mid p hm] at h2
    have := (Nat.le_div_iff_mul_le hpos).2 h2
    omega

theorem top_le {mid vs : List Nat} {p : Nat} (hm : mid.length = p + 3) (hn : vs.length = p + 2) (wv : Wds vs) (hq : val mid < 4294967296 * val vs) : gd mid (p + 2) ≤ gd vs (p + 1) := by
  rw [val_top3 mid p hm, val_top2 vs p hn] at hq
  have h1 := val_take_lt wv p
  have h2 := wv.getD p
  rcases Nat.lt_or_ge (gd vs (p + 1)) (gd mid (p + 2)) with h | h
  · exfalso
    have h3 : gd vs p + 4294967296 * gd vs (p + 1) + 1 ≤ 4294967296 * gd mid (p + 2) := by omega
    have h4 := Nat.mul_le_mul_right (pw p) h3
    have h5 : 4294967296 * (4294967296 * gd mid (p + 2) * pw p) ≤ (gd mid p + 4294967296 * (gd mid (p + 1) + 4294967296 * gd mid (p + 2))) * pw p := by
      rw [← Nat.mul_assoc]
      exact Nat.mul_le_mul_right _ (by omega)
    rw [Nat.add_mul, Nat.one_mul] at h4
    omega
  · exact h

theorem Guess.start {mid vs : List Nat} {p : Nat} (hm : mid.length = p + 3) (hn : vs.length = p + 2) (wm : Wds mid) (hv : 0 < gd vs (p + 1)) :
    Guess mid vs p ((gd mid (p + 1) + 4294967296 * gd mid (p + 2)) / gd vs (p + 1)) ((gd mid (p + 1) + 4294967296 * gd mid (p + 2)) % gd vs (p + 1)) := by
  refine ⟨by rw [Nat.mul_comm]; exact Nat.div_add_mod _ _, ?_⟩
  rw [Nat.le_div_iff_mul_le hv]
  have hpos := div_pos_of_top hn hv
  have h1 := Nat.div_mul_le_self (val mid) (val vs)
  have h2 := wm.getD p
  have h3 := val_take_lt wm p
  have h0 := pw_pos p
  generalize val mid / val vs = q at *
  rw [val_top2 vs p hn, val_top3 mid p hm] at h1
  generalize gd mid (p + 1) + 4294967296 * gd mid (p + 2) = t at *
  have h4 : q * (4294967296 * gd vs (p + 1) * pw p) ≤ q * ((gd vs p + 4294967296 * gd vs (p + 1)) * pw p + val (vs.take p)) := by
    refine Nat.mul_le_mul_left _ (Nat.le_trans (Nat.mul_le_mul_right _ ?_) (Nat.le_add_right _ _))
    omega
  have h5 : (gd mid p + 4294967296 * t) * pw p + val (mid.take p) < 4294967296 * (t + 1) * pw p := by
    have : (gd mid p + 4294967296 * t + 1) * pw p ≤ 4294967296 * (t + 1) * pw p := Nat.mul_le_mul_right _ (by omega)
    rw [Nat.add_mul _ 1] at this
    omega
  have h6 : 4294967296 * (q * gd vs (p + 1)) * pw p < 4294967296 * (t + 1) * pw p := by
    have e : q * (4294967296 * gd vs (p + 1) * pw p) = 4294967296 * (q * gd vs (p + 1)) * pw p := by grind
    omega
  have h7 := Nat.lt_of_mul_lt_mul_right h6
  omega

theorem Guess.le {mid vs : List Nat} {p gs rs : Nat} (h : Guess mid vs p gs rs) (wm : Wds mid) (hu : gd mid (p + 2) ≤ gd vs (p + 1)) (hv : 2147483648 ≤ gd vs (p + 1)) : gs ≤ 4294967297 := by
  have h1 := h.sum
  have h2 := wm.getD (p + 1)
  rcases Nat.lt_or_ge 4294967297 gs with hl | hl
  · exfalso
    have : 4294967298 * gd vs (p + 1) ≤ gs * gd vs (p + 1) := Nat.mul_le_mul_right _ hl
    omega
  · exact hl
theorem Guess.brk {mid vs : List Nat} {p gs rs : Nat} (h : Guess mid vs p gs rs) (wm : Wds mid) (hu : gd mid (p + 2) ≤ gd vs (p + 1)) (hr : 4294967295 < rs) : gs ≤ 4294967295 := by
  have h1 := h.sum
  have h2 := wm.getD (p + 1)
  rcases Nat.lt_or_ge 4294967295 gs with hl | hl
  · exfalso
    have : 4294967296 * gd vs (p + 1) ≤ gs * gd vs (p + 1) := Nat.mul_le_mul_right _ hl
    omega
  · exact hl
theorem Guess.out {mid vs : List Nat} {p gs rs : Nat} (h : Guess mid vs p gs rs) (hm : mid.length = p + 3) (hn : vs.length = p + 2) (wv : Wds vs) (hv : 0 < gd vs (p + 1)) (hg : gs ≤ 4294967295)
    (hx : gs * gd vs p ≤ gd mid p + 4294967296 * rs ∨ 4294967295 < rs) : val mid / val vs ≤ gs ∧ gs ≤ val mid / val vs + 1 := by
  refine ⟨h.ge, h.done hm hn wv hv hg ?_⟩
  rcases hx with hx | hx
  · exact hx
  · have h1 := wv.getD p
    have : gs * gd vs p ≤ 4294967295 * 4294967295 := Nat.mul_le_mul hg (by omega)
    omega

/-- After the subtraction: the remainder, if the guess was the quotient. -/
theorem step_exact {U V gs r q : Nat} (hq : q = U / V) (h1 : q ≤ gs) (h2 : gs ≤ q + 1) (hV : 0 < V) (hnn : ¬ U < V * gs) (he : r + V * gs = U) : gs = q ∧ r = U % V := by
  have hd := Nat.div_add_mod U V
  have hm := Nat.mod_lt U hV
  subst hq
  rcases (show gs = U / V ∨ gs = U / V + 1 by omega) with e | e
  · refine ⟨e, ?_⟩
    rw [e] at he
    omega
  · exfalso
    rw [e, Nat.mul_add] at hnn
    omega
/-- .. and if it was too great by 1. -/
theorem step_over {U V gs q lo x lo2 cy P : Nat} (hq : q = U / V) (h1 : q ≤ gs) (h2 : gs ≤ q + 1) (hV : 0 < V) (_ : V < P) (hneg : U < V * gs)
    (he : lo + P * x + V * gs = U + 4294967296 * P) (ha : lo2 + P * cy = lo + V * 1) (hlo : lo2 < P) (hx : x < 4294967296) (hcy : cy < 4294967296) :
    gs = q + 1 ∧ lo2 + P * ((x + cy) % 4294967296) = U % V := by
  have hd := Nat.div_add_mod U V
  have hm := Nat.mod_lt U hV
  subst hq
  have hgs : gs = U / V + 1 := by
    rcases (show gs = U / V ∨ gs = U / V + 1 by omega) with e | e
    · rw [e] at hneg; omega
    · exact e
  refine ⟨hgs, ?_⟩
  rw [hgs, Nat.mul_add] at he
  have e1 : lo2 + P * (x + cy) = U % V + 4294967296 * P := by rw [Nat.mul_add]; omega
  have e2 : 4294967296 ≤ x + cy := by
    rcases Nat.lt_or_ge (x + cy) 4294967296 with h | h
    · exfalso
      have h3 : P * (x + cy + 1) ≤ P * 4294967296 := Nat.mul_le_mul_left _ h
      rw [Nat.mul_add, Nat.mul_comm P 4294967296] at h3
      omega
    · exact h
  obtain ⟨y, hy⟩ : ∃ y, x + cy = y + 4294967296 := ⟨x + cy - 4294967296, by omega⟩
  rw [hy, Nat.add_mod_right, Nat.mod_eq_of_lt (by omega)]
  rw [hy, Nat.mul_add, Nat.mul_comm P 4294967296] at e1
  omega
end Go.Proofs.Ytfigimfdojbkeaa

section
namespace Go.Proofs.Ytfigimfdojbkeaa
open Go.RowKit
attribute [local go_sem ↓] Go.wp_at_zero Go.wp_at_succ

def RetStep (g : Nat) (pre mid post vs : List Nat) (w : World) (e : Ending) (w' : World) : Prop :=
  ∃ mid' : List Nat, e = .returned (.int .u32 (val mid / val vs : Nat)) ∧ mid'.length = mid.length ∧ val mid' = val mid % val vs ∧
    Blk w' g (pre ++ mid' ++ post) ∧ Only g w w' ∧ w'.heap.size = w.heap.size

theorem only_undrewN {g n : Nat} {a w : World} (h : Only g (a.drewN n) w) : Only g a w := ⟨h.os, h.tape, h.output, h.size, h.block⟩
theorem Only.drew_of {g : Nat} {a w : World} (h : Only g a.drew w) : Only g a w := ⟨h.os, h.tape, h.output, h.size, h.block⟩
theorem top_cell {w : World} {g n x : Nat} {pre lo post : List Nat} (h : Blk w g (pre ++ lo ++ ([x] ++ post))) (hl : lo.length = n) : w.cell? ⟨g, pre.length + n, none⟩ = some (.int .u32 (x : Nat)) := by
  have hc := h.cell (i := pre.length + n) (by simp; omega)
  rw [← hl, gd_mid pre lo _ _ rfl, hl] at hc
  exact hc
theorem gd_at (pre mid post : List Nat) (k : Nat) (h : k < mid.length) : gd (pre ++ mid ++ post) (pre.length + k) = gd mid k := by
  rw [gd_eq, gd_eq, List.append_assoc, List.getElem?_append_right (by omega), Nat.add_sub_cancel_left, List.getElem?_append_left h]

set_option maxHeartbeats 2000000 in
set_option maxRecDepth 100000 in
theorem divideStep_any (g o : Nat) (pre mid post : List Nat) (A : Option Addr) (p c d : Nat) (vs : List Nat) (w : World) (hb : Blk w g (pre ++ mid ++ post)) (ho : pre.length = o) (hmid : mid.length = p + 3)
    (ha : Wd w A (p + 2) vs) (hne : ∀ ad, A = some ad → 0 < p + 2 → ad.block ≠ g) (hm : p ≤ 100000000) (hc : p + 3 ≤ c) (htop : 2147483648 ≤ gd vs (p + 1)) (hq : val mid < 4294967296 * val vs) :
    Calls Try.prog 167 #[.slice (some ⟨g, o, none⟩) (p + 3) c, .slice A (p + 2) d] w (RetStep g pre mid post vs w) := by
  subst ho
  have HA := Lib.hid ha
  have HB := Lib.hid hb
  have HM := Lib.hid hmid
  have HN := Lib.hid hne
  have HQ := Lib.hid hq
  have wv := ha.wds
  have wm : Wds mid := hb.2.left.right
  have hvl := ha.len
  obtain ⟨vb, vo, rfl, _, hca⟩ := ha.cells (by omega)
  have c1 := hca (p + 1) (by omega)
  have c0 := hca p (by omega)
  have d2 := hb.cell (i := pre.length + (p + 2)) (by simp; omega)
  have d1 := hb.cell (i := pre.length + (p + 1)) (by simp; omega)
  have d0 := hb.cell (i := pre.length + p) (by simp; omega)
  rw [gd_at _ _ _ _ (by omega)] at d2 d1 d0
  have b2 := wm.getD (p + 2)
  have b1 := wm.getD (p + 1)
  have b0 := wm.getD p
  have a1 := wv.getD (p + 1)
  have a0 := wv.getD p
  have hor1 := or_high _ _ b1 b2
  have hstart := Lib.hid (Guess.start HM.out hvl wm (by omega))
  have hu := Lib.hid (top_le HM.out hvl wv hq)
  clear hb ha hmid hne hq hca hvl
  generalize hu2 : gd mid (p + 2) = u2 at *
  generalize hu1 : gd mid (p + 1) = u1 at *
  generalize hu0 : gd mid p = u0 at *
  generalize hv1 : gd vs (p + 1) = v1 at *
  generalize hv0 : gd vs p = v0 at *
  have HU2 := Lib.hid hu2
  have HU1 := Lib.hid hu1
  have HU0 := Lib.hid hu0
  have HV1 := Lib.hid hv1
  have HV0 := Lib.hid hv0
  generalize htp : u1 + 4294967296 * u2 = tp at *
  have htb : tp < 18446744073709551616 := by omega
  have HTP := Lib.hid htp
  clear hu2 hu1 hu0 hv1 hv0 htp
  have n1 : ((v1 : Int) == 0) = false := by simp; omega
  have n2 : (1 : Int) ≤ (v1 : Int) := by omega
  have n3 : (v1 : Int) ≤ 4294967295 := by omega
  have n4 : (tp : Int) ≤ 18446744073709551615 := by omega
  have i0 : (0 : Int) ≤ (p : Int) + 1 := by omega
  have i1 : (p : Int) + 1 < (p : Int) + 2 := by omega
  have i2 : (p : Int) < (p : Int) + 2 := by omega
  have i3 : (p : Int) + 1 < (p : Int) + 3 := by omega
  have i4 : (p : Int) < (p : Int) + 3 := by omega
  have i5 : (p : Int) + 2 < (p : Int) + 3 := by omega
  have i6 : (0 : Int) ≤ (p : Int) + 2 := by omega
  have i7 : ((p : Int) + 1).toNat = p + 1 := by omega
  have i8 : ((p : Int) + 2).toNat = p + 2 := by omega
  have i9 : IntKind.i64.wrap ((p : Int) + 2 - 1) = (p : Int) + 1 := by rw [IntWalk.i64_in _ (by omega)]; omega
  have i10 : IntKind.i64.wrap ((p : Int) + 2 - 2) = (p : Int) := by rw [IntWalk.i64_in _ (by omega)]; omega
  go_enter Try.func167, Try.ntmps167
  go_wp2
  go_quiet (fail)
  go_wp2
  go_quiet (fail)
  go_wp2
  go_quiet (fail)
  go_wp2
  go_loop [9, 10] (fun a b => ∃ gs rs : Nat, rs ≤ 4294967295 ∧ gs ≤ 4294967297 ∧ a = .int .u64 gs ∧ b = .int .u64 rs ∧ Guess mid vs p gs rs) (fun a _ => (intOf a).toNat)
  case atStart =>
    have h1 := hstart.out
    have h2 := h1.le wm (by rw [HU2.out, HV1.out]; exact hu.out) (by rw [HV1.out]; exact htop)
    have h3 : tp % v1 < v1 := Nat.mod_lt _ (by omega)
    exact ⟨tp / v1, tp % v1, by omega, h2, by rw [IntWalk.u64_in _ ⟨Int.ediv_nonneg (by omega) (by omega), by rw [← Int.natCast_ediv]; omega⟩]; rfl, rfl, h1⟩
  case round =>
    obtain ⟨gs, rs, hrs, hgs, rfl, rfl, hG⟩ := hrel
    have HG := Lib.hid hG
    clear hG
    have hP : ∃ P : Nat, P ≤ 18446744073709551615 ∧ Hid (P = gs * v0) ∧ (gs : Int) * (v0 : Int) = (P : Int) := ⟨gs * v0, by
      have : gs * v0 ≤ 4294967297 * 4294967295 := Nat.mul_le_mul hgs (by omega)
      omega, rfl, by rw [Int.natCast_mul]⟩
    obtain ⟨P, hP1, HP, hP2⟩ := hP
    have hR : ∃ R : Nat, Hid (R = u0 + 4294967296 * rs) ∧ bits .or .u64 ((rs : Int) * 4294967296) (u0 : Int) = (R : Int) := ⟨_, rfl, or_high _ _ b0 (by omega)⟩
    obtain ⟨R, HR, hR2⟩ := hR
    by_cases hdec : 4294967295 < gs ∨ R < P
    · obtain ⟨g1, hg1⟩ : ∃ g1, gs = g1 + 1 := ⟨gs - 1, by
        rcases hdec with h | h
        · omega
        · rcases Nat.eq_zero_or_pos gs with e | e
          · rw [HP.out, e] at h; omega
          · omega⟩
      have hg1e : (gs : Int) - 1 = (g1 : Int) := by omega
      have hge : 1 ≤ gs := by omega
      have hG2 := Lib.hid ((show Guess mid vs p (g1 + 1) rs by rw [← hg1]; exact HG.out).less HM.out HA.out.len wm (by rw [HV1.out]; omega) HQ.out (by rw [HV0.out, HU0.out, ← hg1, ← HP.out, ← HR.out]; exact hdec))
      rw [HV1.out] at hG2
      have HG1 := Lib.hid hg1
      have hg1b : g1 ≤ 4294967296 := by omega
      clear hg1
      by_cases hbrk : 4294967295 < rs + v1
      · have hg1 := hG2.out.brk wm (by rw [HU2.out, HV1.out]; exact hu.out) hbrk
        have hout := hG2.out.out HM.out HA.out.len wv (by rw [HV1.out]; omega) hg1 (.inr hbrk)
        have hd : 4294967295 < gs ∨ gs ≤ 4294967295 ∧ R < P := by omega
        clear hdec
        rcases hd with hd | ⟨hle, hd⟩
        · go_wp2_with fail
          refine (subtractTimes_any g pre.length pre mid post _ (p + 2) (p + 3) c d g1 vs _ (HB.out.drewN _) rfl HM.out (HA.out.drewN _) HN.out (by omega) (by omega) (by omega)).mono ?_
          rintro e w2 ⟨mid', rfl, hml, hmv, hb2, hon, hs2⟩
          by_cases hneg : val mid < val vs * g1
          · rw [decide_eq_true hneg]
            have HNEG := Lib.hid hneg
            have HMV := Lib.hid hmv
            have HON := Lib.hid hon
            have HSZ := Lib.hid hs2
            obtain ⟨lo, x, hlo, hmx⟩ : ∃ lo x, lo.length = p + 2 ∧ mid' = lo ++ [x] := ⟨mid'.take (p + 2), gd mid' (p + 2), by rw [List.length_take, hml, HM.out]; omega, by rw [← take_snoc _ _ (by rw [hml, HM.out]; omega), List.take_of_length_le (by rw [hml, HM.out]; omega)]⟩
            subst hmx
            have hb3 : Blk w2 g (pre ++ lo ++ ([x] ++ post)) := by simpa using hb2
            have hx : x < 4294967296 := hb3.2 x (by simp)
            have hcx := hb3.cell (i := pre.length + (p + 2)) (by simp; omega)
            rw [← hlo, gd_mid pre lo _ _ rfl, hlo, show gd ([x] ++ post) 0 = x from rfl] at hcx
            have hfx := hb3.frozen (pre.length + (p + 2))
            have HB3 := Lib.hid hb3
            have HLO := Lib.hid hlo
            have HOUT := Lib.hid hout
            clear hneg hmv hon hs2 hml hb2 hb3 hlo hout
            have hcxs : (0 : Int) ≤ (p : Int) + 2 := by omega
            have hcxc : (p : Int) + 2 ≤ (c : Int) := by omega
            have HA2 := Lib.hid (HA.out.only (only_undrewN HON.out) HN.out)
            have hge1 : 1 ≤ g1 := by
              have := HNEG.out
              rcases Nat.eq_zero_or_pos g1 with e | e
              · rw [e] at this; omega
              · exact e
            go_wp2
            go_region_with ((go_at_call 151; refine (addTimes_any g pre.length pre lo ([x] ++ post) _ (p + 2) (p + 2) _ _ 1 vs _ (by exact HB3.out) rfl HLO.out (by exact HA2.out) HN.out (by omega) (by omega) (by omega) (by omega)).mono ?_; rintro e w3 ⟨cy, lo2, rfl, hcy, hl2, hw2, he2, hb4, hon2, hs3⟩; have hcx3 := top_cell hb4 (hl2.trans HLO.out); have hfx3 := hb4.frozen (pre.length + (p + 2)); have HHH := Lib.hid (And.intro hl2 (And.intro hw2 (And.intro he2 (And.intro hb4 (And.intro hon2 hs3))))); clear hl2 hw2 he2 hb4 hon2 hs3))
            all_goals
              go_wp2
              go_ret
              obtain ⟨hl2, hw2, he2, hb4, hon2, hs3⟩ := HHH.out
              have hmv2 := HMV.out
              rw [if_pos HNEG.out, val_snoc, HLO.out, HM.out, show pw (p + 3) = pw (p + 2 + 1) from rfl, pw_succ (p + 2)] at hmv2
              rw [HLO.out] at he2 hl2
              have hV1 := val_lt HA.out.wds
              have hV2 := val_lt hw2
              rw [HA.out.len] at hV1
              rw [hl2] at hV2
              have hso := step_over rfl HOUT.out.1 HOUT.out.2 (div_pos_of_top HA.out.len (by rw [HV1.out]; omega)) hV1 HNEG.out hmv2 he2 hV2 hx hcy
              refine ⟨lo2 ++ [(x + cy) % 4294967296], ret_int (by have := hso.1; generalize val mid / val vs = qq at *; omega), by rw [List.length_append, hl2, HM.out]; rfl, by rw [val_snoc, hl2]; exact hso.2, ?_, ((only_undrewN HON.out).trans (Only.drew_of hon2)).set_ _ _, ?_⟩
              · have hs := hb4.set_i (pre.length + (p + 2)) ((x + cy) % 4294967296) (j := ((x : Int) + (cy : Int)) % 4294967296) (by omega) (Nat.mod_lt _ (by omega))
                rw [show [x] ++ post = x :: post from rfl, set_mid pre lo2 post _ _ (p + 2) hl2] at hs
                exact hs
              · simp only [World.setCell]
                simp
                have e1 := HSZ.out
                have e2 := hs3
                simp at e1 e2
                omega
          · rw [decide_eq_false hneg]
            have hmv2 := hmv
            rw [if_neg hneg] at hmv2
            have hfin := Lib.hid (step_exact rfl hout.1 hout.2 (div_pos_of_top HA.out.len (by rw [HV1.out]; omega)) hneg (by omega))
            have HMM := Lib.hid hml
            have HB2 := Lib.hid hb2
            clear hmv hmv2 hneg hml hb2 hout
            go_wp2
            go_ret
            exact ⟨mid', ret_int (by rw [← hfin.out.1]), HMM.out, hfin.out.2, HB2.out, only_undrewN hon, hs2⟩
        · go_wp2_with fail
          refine (subtractTimes_any g pre.length pre mid post _ (p + 2) (p + 3) c d g1 vs _ (HB.out.drewN _) rfl HM.out (HA.out.drewN _) HN.out (by omega) (by omega) (by omega)).mono ?_
          rintro e w2 ⟨mid', rfl, hml, hmv, hb2, hon, hs2⟩
          by_cases hneg : val mid < val vs * g1
          · rw [decide_eq_true hneg]
            have HNEG := Lib.hid hneg
            have HMV := Lib.hid hmv
            have HON := Lib.hid hon
            have HSZ := Lib.hid hs2
            obtain ⟨lo, x, hlo, hmx⟩ : ∃ lo x, lo.length = p + 2 ∧ mid' = lo ++ [x] := ⟨mid'.take (p + 2), gd mid' (p + 2), by rw [List.length_take, hml, HM.out]; omega, by rw [← take_snoc _ _ (by rw [hml, HM.out]; omega), List.take_of_length_le (by rw [hml, HM.out]; omega)]⟩
            subst hmx
            have hb3 : Blk w2 g (pre ++ lo ++ ([x] ++ post)) := by simpa using hb2
            have hx : x < 4294967296 := hb3.2 x (by simp)
            have hcx := hb3.cell (i := pre.length + (p + 2)) (by simp; omega)
            rw [← hlo, gd_mid pre lo _ _ rfl, hlo, show gd ([x] ++ post) 0 = x from rfl] at hcx
            have hfx := hb3.frozen (pre.length + (p + 2))
            have HB3 := Lib.hid hb3
            have HLO := Lib.hid hlo
            have HOUT := Lib.hid hout
            clear hneg hmv hon hs2 hml hb2 hb3 hlo hout
            have hcxs : (0 : Int) ≤ (p : Int) + 2 := by omega
            have hcxc : (p : Int) + 2 ≤ (c : Int) := by omega
            have HA2 := Lib.hid (HA.out.only (only_undrewN HON.out) HN.out)
            have hge1 : 1 ≤ g1 := by
              have := HNEG.out
              rcases Nat.eq_zero_or_pos g1 with e | e
              · rw [e] at this; omega
              · exact e
            go_wp2
            go_region_with ((go_at_call 151; refine (addTimes_any g pre.length pre lo ([x] ++ post) _ (p + 2) (p + 2) _ _ 1 vs _ (by exact HB3.out) rfl HLO.out (by exact HA2.out) HN.out (by omega) (by omega) (by omega) (by omega)).mono ?_; rintro e w3 ⟨cy, lo2, rfl, hcy, hl2, hw2, he2, hb4, hon2, hs3⟩; have hcx3 := top_cell hb4 (hl2.trans HLO.out); have hfx3 := hb4.frozen (pre.length + (p + 2)); have HHH := Lib.hid (And.intro hl2 (And.intro hw2 (And.intro he2 (And.intro hb4 (And.intro hon2 hs3))))); clear hl2 hw2 he2 hb4 hon2 hs3))
            all_goals
              go_wp2
              go_ret
              obtain ⟨hl2, hw2, he2, hb4, hon2, hs3⟩ := HHH.out
              have hmv2 := HMV.out
              rw [if_pos HNEG.out, val_snoc, HLO.out, HM.out, show pw (p + 3) = pw (p + 2 + 1) from rfl, pw_succ (p + 2)] at hmv2
              rw [HLO.out] at he2 hl2
              have hV1 := val_lt HA.out.wds
              have hV2 := val_lt hw2
              rw [HA.out.len] at hV1
              rw [hl2] at hV2
              have hso := step_over rfl HOUT.out.1 HOUT.out.2 (div_pos_of_top HA.out.len (by rw [HV1.out]; omega)) hV1 HNEG.out hmv2 he2 hV2 hx hcy
              refine ⟨lo2 ++ [(x + cy) % 4294967296], ret_int (by have := hso.1; generalize val mid / val vs = qq at *; omega), by rw [List.length_append, hl2, HM.out]; rfl, by rw [val_snoc, hl2]; exact hso.2, ?_, ((only_undrewN HON.out).trans (Only.drew_of hon2)).set_ _ _, ?_⟩
              · have hs := hb4.set_i (pre.length + (p + 2)) ((x + cy) % 4294967296) (j := ((x : Int) + (cy : Int)) % 4294967296) (by omega) (Nat.mod_lt _ (by omega))
                rw [show [x] ++ post = x :: post from rfl, set_mid pre lo2 post _ _ (p + 2) hl2] at hs
                exact hs
              · simp only [World.setCell]
                simp
                have e1 := HSZ.out
                have e2 := hs3
                simp at e1 e2
                omega
          · rw [decide_eq_false hneg]
            have hmv2 := hmv
            rw [if_neg hneg] at hmv2
            have hfin := Lib.hid (step_exact rfl hout.1 hout.2 (div_pos_of_top HA.out.len (by rw [HV1.out]; omega)) hneg (by omega))
            have HMM := Lib.hid hml
            have HB2 := Lib.hid hb2
            clear hmv hmv2 hneg hml hb2 hout
            go_wp2
            go_ret
            exact ⟨mid', ret_int (by rw [← hfin.out.1]), HMM.out, hfin.out.2, HB2.out, only_undrewN hon, hs2⟩
      · have hle : gs ≤ 4294967295 ∨ 4294967295 < gs := by omega
        rcases hle with hle | hle
        · have hd : R < P := by omega
          clear hdec
          go_wp2
          go_round
          case rel => exact ⟨g1, rs + v1, by omega, by omega, rfl, by go_num, hG2.out⟩
          case measure => (have := HG1.out; simp [intOf]; omega)
        · clear hdec
          go_wp2
          go_round
          case rel => exact ⟨g1, rs + v1, by omega, by omega, rfl, by go_num, hG2.out⟩
          case measure => (have := HG1.out; simp [intOf]; omega)
    · have hle : gs ≤ 4294967295 := by omega
      have hle2 : P ≤ R := by omega
      have hout := HG.out.out HM.out HA.out.len wv (by rw [HV1.out]; omega) hle (.inl (by rw [HV0.out, HU0.out, ← HP.out, ← HR.out]; exact hle2))
      clear hdec
      go_wp2_with fail
      refine (subtractTimes_any g pre.length pre mid post _ (p + 2) (p + 3) c d gs vs _ (HB.out.drewN _) rfl HM.out (HA.out.drewN _) HN.out (by omega) (by omega) (by omega)).mono ?_
      rintro e w2 ⟨mid', rfl, hml, hmv, hb2, hon, hs2⟩
      by_cases hneg : val mid < val vs * gs
      · rw [decide_eq_true hneg]
        have HNEG := Lib.hid hneg
        have HMV := Lib.hid hmv
        have HON := Lib.hid hon
        have HSZ := Lib.hid hs2
        obtain ⟨lo, x, hlo, hmx⟩ : ∃ lo x, lo.length = p + 2 ∧ mid' = lo ++ [x] := ⟨mid'.take (p + 2), gd mid' (p + 2), by rw [List.length_take, hml, HM.out]; omega, by rw [← take_snoc _ _ (by rw [hml, HM.out]; omega), List.take_of_length_le (by rw [hml, HM.out]; omega)]⟩
        subst hmx
        have hb3 : Blk w2 g (pre ++ lo ++ ([x] ++ post)) := by simpa using hb2
        have hx : x < 4294967296 := hb3.2 x (by simp)
        have hcx := hb3.cell (i := pre.length + (p + 2)) (by simp; omega)
        rw [← hlo, gd_mid pre lo _ _ rfl, hlo, show gd ([x] ++ post) 0 = x from rfl] at hcx
        have hfx := hb3.frozen (pre.length + (p + 2))
        have HB3 := Lib.hid hb3
        have HLO := Lib.hid hlo
        have HOUT := Lib.hid hout
        clear hneg hmv hon hs2 hml hb2 hb3 hlo hout
        have hcxs : (0 : Int) ≤ (p : Int) + 2 := by omega
        have hcxc : (p : Int) + 2 ≤ (c : Int) := by omega
        have HA2 := Lib.hid (HA.out.only (only_undrewN HON.out) HN.out)
        have hge1 : 1 ≤ gs := by
          have := HNEG.out
          rcases Nat.eq_zero_or_pos gs with e | e
          · rw [e] at this; omega
          · exact e
        go_wp2
        go_region_with ((go_at_call 151; refine (addTimes_any g pre.length pre lo ([x] ++ post) _ (p + 2) (p + 2) _ _ 1 vs _ (by exact HB3.out) rfl HLO.out (by exact HA2.out) HN.out (by omega) (by omega) (by omega) (by omega)).mono ?_; rintro e w3 ⟨cy, lo2, rfl, hcy, hl2, hw2, he2, hb4, hon2, hs3⟩; have hcx3 := top_cell hb4 (hl2.trans HLO.out); have hfx3 := hb4.frozen (pre.length + (p + 2)); have HHH := Lib.hid (And.intro hl2 (And.intro hw2 (And.intro he2 (And.intro hb4 (And.intro hon2 hs3))))); clear hl2 hw2 he2 hb4 hon2 hs3))
        all_goals
          go_wp2
          go_ret
          obtain ⟨hl2, hw2, he2, hb4, hon2, hs3⟩ := HHH.out
          have hmv2 := HMV.out
          rw [if_pos HNEG.out, val_snoc, HLO.out, HM.out, show pw (p + 3) = pw (p + 2 + 1) from rfl, pw_succ (p + 2)] at hmv2
          rw [HLO.out] at he2 hl2
          have hV1 := val_lt HA.out.wds
          have hV2 := val_lt hw2
          rw [HA.out.len] at hV1
          rw [hl2] at hV2
          have hso := step_over rfl HOUT.out.1 HOUT.out.2 (div_pos_of_top HA.out.len (by rw [HV1.out]; omega)) hV1 HNEG.out hmv2 he2 hV2 hx hcy
          refine ⟨lo2 ++ [(x + cy) % 4294967296], ret_int (by have := hso.1; generalize val mid / val vs = qq at *; omega), by rw [List.length_append, hl2, HM.out]; rfl, by rw [val_snoc, hl2]; exact hso.2, ?_, ((only_undrewN HON.out).trans (Only.drew_of hon2)).set_ _ _, ?_⟩
          · have hs := hb4.set_i (pre.length + (p + 2)) ((x + cy) % 4294967296) (j := ((x : Int) + (cy : Int)) % 4294967296) (by omega) (Nat.mod_lt _ (by omega))
            rw [show [x] ++ post = x :: post from rfl, set_mid pre lo2 post _ _ (p + 2) hl2] at hs
            exact hs
          · simp only [World.setCell]
            simp
            have e1 := HSZ.out
            have e2 := hs3
            simp at e1 e2
            omega
      · rw [decide_eq_false hneg]
        have hmv2 := hmv
        rw [if_neg hneg] at hmv2
        have hfin := Lib.hid (step_exact rfl hout.1 hout.2 (div_pos_of_top HA.out.len (by rw [HV1.out]; omega)) hneg (by omega))
        have HMM := Lib.hid hml
        have HB2 := Lib.hid hb2
        clear hmv hmv2 hneg hml hb2 hout
        go_wp2
        go_ret
        exact ⟨mid', ret_int (by rw [← hfin.out.1]), HMM.out, hfin.out.2, HB2.out, only_undrewN hon, hs2⟩
end Go.Proofs.Ytfigimfdojbkeaa
end

namespace Go.Proofs.Ytfigimfdojbkeaa
open Go.RowKit

theorem bl_ge {x : Nat} (h : x ≠ 0) : 2 ^ (bl x - 1) ≤ x := by
  rcases Nat.lt_or_ge x (2 ^ (bl x - 1)) with h1 | h1
  · exfalso
    have h2 := (bl_lt x (bl x - 1)).2 h1
    have h3 : bl x ≠ 0 := by
      intro e
      have := lt_bl x
      rw [e] at this
      simp at this
      exact h this
    omega
  · exact h1

/-- The divisor after the shift: as many words as before, and the first bit is 1. -/
theorem norm_shift {y p : Nat} (h : (mag y).length = p + 2) :
    (mag (y * 2 ^ (32 - bl (gd (mag y) (p + 1))))).length = p + 2 ∧ 2147483648 ≤ gd (mag (y * 2 ^ (32 - bl (gd (mag y) (p + 1))))) (p + 1) ∧
    pw (p + 1) * 2 ^ (32 - bl (gd (mag y) (p + 1))) ≤ y * 2 ^ (32 - bl (gd (mag y) (p + 1))) ∧ 1 ≤ bl (gd (mag y) (p + 1)) ∧ bl (gd (mag y) (p + 1)) ≤ 32 := by
  have hc := (mag_can y).2.resolve_left (fun e => by rw [e] at h; simp at h)
  rw [h, show p + 2 - 1 = p + 1 from rfl] at hc
  have h1 := val_split (mag y) (p + 1) (by omega)
  rw [val_mag, List.drop_of_length_le (by omega), val, Nat.mul_zero, Nat.add_zero] at h1
  have h2 := val_take_lt (mag_wds y) (p + 1)
  have h3 := (mag_wds y).getD (p + 1)
  generalize gd (mag y) (p + 1) = t at *
  have h4 := bl_le32 h3
  have h5 := bl_ge hc
  have h6 := lt_bl t
  have h7 : 1 ≤ bl t := by
    rcases Nat.eq_zero_or_pos (bl t) with e | e
    · rw [e] at h6; simp at h6; exact absurd h6 hc
    · exact e
  have e1 : 2 ^ (bl t - 1) * 2 ^ (32 - bl t) = 2147483648 := by rw [← Nat.pow_add, show bl t - 1 + (32 - bl t) = 31 by omega]
  have e2 : 2 ^ bl t * 2 ^ (32 - bl t) = 4294967296 := by rw [← Nat.pow_add, show bl t + (32 - bl t) = 32 by omega]
  have hlow : 2147483648 * pw (p + 1) ≤ y * 2 ^ (32 - bl t) := by
    have : pw (p + 1) * 2 ^ (bl t - 1) ≤ y := Nat.le_trans (Nat.mul_le_mul_left _ h5) (by omega)
    have := Nat.mul_le_mul_right (2 ^ (32 - bl t)) this
    rw [Nat.mul_assoc, e1, Nat.mul_comm] at this
    exact this
  have hhigh : y * 2 ^ (32 - bl t) < pw (p + 2) := by
    have h8 : y < pw (p + 1) * (t + 1) := by rw [Nat.mul_add]; omega
    have h9 : y < pw (p + 1) * 2 ^ bl t := Nat.lt_of_lt_of_le h8 (Nat.mul_le_mul_left _ h6)
    have := Nat.mul_lt_mul_of_pos_right h9 (show 0 < 2 ^ (32 - bl t) from Nat.pow_pos (by omega))
    rw [Nat.mul_assoc, e2] at this
    rw [show pw (p + 2) = pw (p + 1 + 1) from rfl, pw_succ, Nat.mul_comm 4294967296]
    exact this
  have hl1 := mag_length_le hhigh
  have hpos := pw_pos (p + 1)
  have hl2 := @mag_length_lt (y * 2 ^ (32 - bl t)) (p + 1) (by omega)
  have hlen : (mag (y * 2 ^ (32 - bl t))).length = p + 2 := by omega
  refine ⟨hlen, ?_, ?_, h7, h4⟩
  · have h8 := val_split (mag (y * 2 ^ (32 - bl t))) (p + 1) (by omega)
    rw [val_mag, List.drop_of_length_le (by omega), val, Nat.mul_zero, Nat.add_zero] at h8
    have h9 := val_take_lt (mag_wds (y * 2 ^ (32 - bl t))) (p + 1)
    rcases Nat.lt_or_ge (gd (mag (y * 2 ^ (32 - bl t))) (p + 1)) 2147483648 with h10 | h10
    · exfalso
      have : pw (p + 1) * (gd (mag (y * 2 ^ (32 - bl t))) (p + 1) + 1) ≤ pw (p + 1) * 2147483648 := Nat.mul_le_mul_left _ h10
      rw [Nat.mul_add] at this
      omega
    · exact h10
  · refine Nat.mul_le_mul_right _ ?_
    have : pw (p + 1) * 1 ≤ pw (p + 1) * t := Nat.mul_le_mul_left _ (Nat.pos_of_ne_zero hc)
    omega

/-- The long division before the word with the index K - 1 of the quotient is found. -/
structure LongRel (X V N p K : Nat) (xs us qs : List Nat) : Prop where
  ulen : us.length = N + p + 2
  qlen : qs.length = N
  same : us.take K = xs.take K
  eq : val (xs.drop K) = V * val (qs.drop K) + val (us.drop K)
  lt : val (us.drop K) < V

theorem val_drop_cons (a : List Nat) (k : Nat) (h : k < a.length) : val (a.drop k) = gd a k + 4294967296 * val (a.drop (k + 1)) := by
  rw [List.drop_eq_getElem_cons h, val, gd_eq, List.getElem?_eq_getElem h]; rfl

/-- The window of the step has the value of all that is left from k on. -/
theorem LongRel.window {X V N p k : Nat} {xs us qs : List Nat} (h : LongRel X V N p (k + 1) xs us qs) (hk : k < N) (hV : V < pw (p + 2)) :
    val (us.drop (k + p + 3)) = 0 ∧ val ((us.drop k).take (p + 3)) = val (us.drop k) ∧ val (us.drop k) < 4294967296 * V ∨ ¬ Wds us := by
  by_cases hw : Wds us
  · left
    have h1 := val_append ((us.drop (k + 1)).take (p + 2)) ((us.drop (k + 1)).drop (p + 2))
    have hul := h.ulen
    have hlt := h.lt
    rw [List.take_append_drop, List.length_take, List.length_drop, Nat.min_eq_left (by omega), List.drop_drop, show k + 1 + (p + 2) = k + p + 3 by omega] at h1
    have h0 : val (us.drop (k + p + 3)) = 0 := by
      rcases Nat.eq_zero_or_pos (val (us.drop (k + p + 3))) with e | e
      · exact e
      · have := Nat.mul_le_mul_left (pw (p + 2)) e
        omega
    refine ⟨h0, ?_, ?_⟩
    · have h2 := val_append ((us.drop k).take (p + 3)) ((us.drop k).drop (p + 3))
      rw [List.take_append_drop, List.drop_drop, show k + (p + 3) = k + p + 3 by omega, h0] at h2
      omega
    · rw [val_drop_cons us k (by omega)]
      have := hw.getD k
      omega
  · exact .inr hw

theorem LongRel.step {X V N p k : Nat} {xs us qs mid' : List Nat} (h : LongRel X V N p (k + 1) xs us qs) (hk : k < N) (hxl : xs.length = N + p + 2) (h0 : val (us.drop (k + p + 3)) = 0)
    (hl : mid'.length = p + 3) (hm : val mid' = val (us.drop k) % V) : LongRel X V N p k xs (us.take k ++ mid' ++ us.drop (k + p + 3)) (qs.set k (val (us.drop k) / V)) := by
  have hul := h.ulen
  have e1 : (us.take k).length = k := by rw [List.length_take]; omega
  have e2 : (us.take k ++ mid' ++ us.drop (k + p + 3)).drop k = mid' ++ us.drop (k + p + 3) := by
    rw [List.append_assoc, List.drop_append_of_le_length (by omega), List.drop_of_length_le (by omega)]; rfl
  have hV : 0 < V := by have := h.lt; omega
  refine ⟨by rw [List.length_append, List.length_append, e1, hl, List.length_drop]; omega, by rw [List.length_set, h.qlen], ?_, ?_, ?_⟩
  · rw [List.append_assoc, List.take_append_of_le_length (by omega), List.take_take, Nat.min_self]
    have := congrArg (List.take k) h.same
    rwa [List.take_take, List.take_take, Nat.min_eq_left (by omega)] at this
  · rw [e2, val_append, h0, Nat.mul_zero, Nat.add_zero, hm, val_drop_cons xs k (by omega), h.eq]
    have e3 : gd xs k = gd us k := by
      have := congrArg (fun l => gd l k) h.same
      simp only [gd_eq] at this ⊢
      rw [List.getElem?_take_of_lt (by omega), List.getElem?_take_of_lt (by omega)] at this
      exact this.symm
    have e4 : val ((qs.set k (val (us.drop k) / V)).drop k) = val (us.drop k) / V + 4294967296 * val (qs.drop (k + 1)) := by
      rw [val_drop_cons _ k (by rw [List.length_set, h.qlen]; exact hk), List.drop_set_of_lt (by omega)]
      congr 1
      rw [gd_eq, List.getElem?_set_self (by rw [h.qlen]; exact hk)]; rfl
    rw [e3, e4]
    have e5 := val_drop_cons us k (by omega)
    have e6 := Nat.div_add_mod (val (us.drop k)) V
    rw [Nat.mul_add V, ← Nat.mul_assoc V, Nat.mul_comm V 4294967296, Nat.mul_assoc]
    rw [Nat.mul_add]
    omega
  · rw [e2, val_append, h0, Nat.mul_zero, Nat.add_zero, hm]
    exact Nat.mod_lt _ hV

def RetMg2 (x y : Nat) (w : World) (e : Ending) (w' : World) : Prop := ∃ v u, e = .returned (.tuple #[v, u]) ∧ Mg w' v x ∧ Mg w' u y ∧ Below w.heap.size w w'

theorem Blk.padded {w : World} {g : Nat} {ws : List Nat} (h : Blk w g ws) : Wd w (some ⟨g, 0, none⟩) ws.length ws := h.whole

set_option maxHeartbeats 2000000 in
set_option maxRecDepth 100000 in
theorem divideLong_any (A B : Option Addr) (n c p d x y : Nat) (w : World) (ha : Wd w A n (mag x)) (hb : Wd w B (p + 2) (mag y)) (hn : n ≤ 10000000) (hp : p ≤ 10000000) (_ : y ≤ x) (hpn : p + 2 ≤ n) :
    Calls Try.prog 140 #[.slice A n c, .slice B (p + 2) d] w (RetMg2 (x / y) (x % y) w) := by
  obtain ⟨hn1, hn2, hn3, hn4, hn5⟩ := norm_shift hb.len
  have hcb := hb.cells (by omega)
  obtain ⟨bb, bo, rfl, _, hcb⟩ := hcb
  have c1 := hcb (p + 1) (by omega)
  have b1 := (mag_wds y).getD (p + 1)
  have HA := Lib.hid ha
  have HB := Lib.hid hb
  have HN1 := Lib.hid hn1
  generalize hbeta : bl (gd (mag y) (p + 1)) = beta at *
  have HBETA := Lib.hid hbeta
  clear ha hb hcb hn1 hbeta
  have i0 : (0 : Int) ≤ (p : Int) + 1 := by omega
  have i1 : (p : Int) + 1 < (p : Int) + 2 := by omega
  have i7 : ((p : Int) + 1).toNat = p + 1 := by omega
  go_enter Try.func140, Try.ntmps140
  go_wp2_with fail
  refine (bits_any _ _ b1).mono ?_
  rintro e w' ⟨rfl, rfl⟩
  rw [HBETA.out]
  go_wp2_with fail
  refine (shiftLeft_any _ (p + 2) d y (32 - beta) _ _ HB.out (by omega) (by omega) (by omega)).mono ?_
  rintro e w1 ⟨v, rfl, ⟨Av, nv, cv, rfl, hnv, hcv, hv⟩, hbl1⟩
  obtain rfl : nv = p + 2 := by rw [← hv.len]; exact HN1.out
  have HV := Lib.hid hv
  clear hv
  go_wp2_with (first
    | (refine wpList_make_blk rfl _ _ _ rfl Try.underlying22 u32_info _ _ _ _ (n + 1) rfl rfl (by omega) (by omega) (by omega) ?_
       intro w2 hb2 hs2 hbl2
       have HB2 := Lib.hid hb2
       have HS2 := Lib.hid hs2
       clear hb2 hs2))
  refine (shiftLeft_any _ n c x (32 - beta) _ _ (((HA.out.below hbl1).below hbl2)) (by omega) (by omega) (by omega)).mono ?_
  rintro e w3 ⟨v3, rfl, ⟨A3, n3, c3, rfl, hn3c, hc3, h3⟩, hbl3⟩
  have hX := lt_pw_mag x
  rw [HA.out.len] at hX
  have hXX : x * 2 ^ (32 - beta) < pw (n + 1) := by
    have h1 : 2 ^ (32 - beta) ≤ 4294967296 := Nat.pow_le_pow_right (n := 2) (by omega) (show 32 - beta ≤ 32 by omega)
    have h2 := Nat.mul_lt_mul_of_lt_of_le hX h1 (by omega)
    rw [pw_succ, Nat.mul_comm 4294967296]
    exact h2
  have hn3le : n3 ≤ n + 1 := by rw [← h3.len]; exact mag_length_le hXX
  have HX := Lib.hid hX
  have HXX := Lib.hid hXX
  have H3 := Lib.hid h3
  have hbl13 : Below w1.heap.size w1 w3 := hbl2.trans (hbl3.mono hbl2.size)
  have hb3 : Blk w3 w1.heap.size (List.replicate (n + 1) 0) := HB2.out.below hbl3 (by rw [HS2.out]; omega)
  have HB3 := Lib.hid hb3
  clear hX hXX h3 hb3
  go_wp2_with (first
    | (refine wpList_copy_blk rfl _ _ _ _ rfl Try.underlying22 u32_size w1.heap.size 0 (n + 1) (n + 1) A3 n3 c3 rfl rfl _ _ HB3.out H3.out hn3le (by simp; omega) w1.heap.size w1 hbl13 (Nat.le_refl _) ?_
       intro w4 hb4 hbl4
       have HB4 := Lib.hid hb4
       clear hb4)
    | (refine wpList_make_blk rfl _ _ _ rfl Try.underlying22 u32_info _ _ _ _ (n - p - 1) rfl rfl (by omega) (by omega) (by omega) ?_
       intro w5 hb5 hs5 hbl5
       have HB5 := Lib.hid hb5
       have HS5 := Lib.hid hs5
       clear hb5 hs5))
  obtain ⟨N, hN⟩ : ∃ N, N = n - p - 1 := ⟨_, rfl⟩
  have hN1 : 1 ≤ N := by omega
  have hN2 : n + 1 = N + p + 2 := by omega
  obtain ⟨xs, hxs⟩ : ∃ xs, xs = splice (List.replicate (n + 1) 0) 0 (mag (x * 2 ^ (32 - beta))) := ⟨_, rfl⟩
  have hxv : Hid (val xs = x * 2 ^ (32 - beta) ∧ xs.length = n + 1) := by
    unfold Hid
    rw [hxs]
    have hle := hn3le
    rw [← H3.out.len] at hle
    refine ⟨?_, by rw [length_splice _ _ _ (by simpa using hle)]; simp⟩
    simp only [splice, List.take_zero, List.nil_append, Nat.zero_add]
    rw [val_append, val_mag, List.drop_replicate, val_replicate]
    omega
  have hb6 : Blk w5 w1.heap.size xs := by
    have h := HB4.out.below hbl5 (HB4.out.lt)
    rw [hxs]; exact h
  have HB6 := Lib.hid hb6
  have HXS := Lib.hid hxs
  have hgq : w1.heap.size < w4.heap.size := HB4.out.lt
  have hwx : Wds xs := hb6.2
  have hV : y * 2 ^ (32 - beta) < pw (p + 2) := by
    have := lt_pw_mag (y * 2 ^ (32 - beta))
    rwa [HN1.out] at this
  have HVV := Lib.hid hV
  have hst : Hid (LongRel (x * 2 ^ (32 - beta)) (y * 2 ^ (32 - beta)) N p N xs xs (List.replicate N 0)) := by
    refine ⟨by rw [hxv.out.2]; omega, by simp, rfl, by simp [val], ?_⟩
    rw [val_drop hwx, hxv.out.1, Nat.div_lt_iff_lt_mul (pw_pos N)]
    have h1 := Nat.mul_lt_mul_of_pos_right HX.out (show 0 < 2 ^ (32 - beta) from Nat.pow_pos (by omega))
    rw [show n = (p + 1) + N by omega, pw_add, Nat.mul_right_comm] at h1
    exact Nat.lt_of_lt_of_le h1 (Nat.mul_le_mul_right _ hn3)
  rw [← hN] at HB5
  rw [← hN]
  have hbl15 : Below w1.heap.size w1 w5 := hbl4.trans (hbl5.mono (by omega))
  have hNn : N + p ≤ 10000000 := by omega
  clear hb6 hxs hV hN
  rw [hN2]
  go_loopw [41] (fun t wr => ∃ i : Nat, ∃ us qs, i ≤ N ∧ t = .int .i64 i ∧ LongRel (x * 2 ^ (32 - beta)) (y * 2 ^ (32 - beta)) N p (N - i) xs us qs ∧ Blk wr w1.heap.size us ∧ Blk wr w4.heap.size qs ∧ Below w1.heap.size w1 wr)
      (fun t _ => N - (intOf t).toNat)
  case atStart => exact ⟨0, xs, List.replicate N 0, Nat.zero_le _, rfl, hst.out, HB6.out, HB5.out, hbl15⟩
  case round =>
    obtain ⟨i, us, qs, hi, rfl, hrel, hbu, hbq, hblr⟩ := hrel
    have HR := Lib.hid hrel
    have HBU := Lib.hid hbu
    have HBQ := Lib.hid hbq
    clear hrel hbu hbq
    by_cases hlt : i < N
    · obtain ⟨k, hk⟩ : ∃ k, N - i = k + 1 := ⟨N - i - 1, by omega⟩
      have hkN : k < N := by omega
      have hki : (N : Int) - 1 - (i : Int) = (k : Int) := by omega
      have hrk := HR.out
      rw [hk] at hrk
      obtain ⟨hw0, hw1, hw2⟩ := (hrk.window hkN HVV.out).resolve_right (fun h => h HBU.out.2)
      have hul := hrk.ulen
      have hsplit : us = us.take k ++ (us.drop k).take (p + 3) ++ us.drop (k + p + 3) := by
        rw [show us.drop (k + p + 3) = (us.drop k).drop (p + 3) by rw [List.drop_drop, Nat.add_assoc], List.append_assoc, List.take_append_drop, List.take_append_drop]
      have hb7 : Blk wr w1.heap.size (us.take k ++ (us.drop k).take (p + 3) ++ us.drop (k + p + 3)) := by rw [← hsplit]; exact HBU.out
      have e1 : (us.take k).length = k := by rw [List.length_take]; omega
      have e2 : ((us.drop k).take (p + 3)).length = p + 3 := by rw [List.length_take, List.length_drop]; omega
      have hvr := HV.out.below hblr
      have hne : ∀ ad, Av = some ad → 0 < p + 2 → ad.block ≠ w1.heap.size := fun ad e h0 => by
        obtain ⟨ad', e', hlt', _⟩ := HV.out.2.2 h0
        rw [e] at e'; injection e' with e'
        rw [e']; omega
      have HK := Lib.hid hk
      have HRK := Lib.hid hrk
      have HB7 := Lib.hid hb7
      have E1 := Lib.hid e1
      have E2 := Lib.hid e2
      have HVR := Lib.hid hvr
      have HNE := Lib.hid hne
      have HW0 := Lib.hid hw0
      have HW1 := Lib.hid hw1
      have HW2 := Lib.hid hw2
      clear hk hrk hsplit hb7 e1 e2 hvr hne hw0 hw1 hw2 hul
      have j0 : ¬ (N + p + 2 = k) := by omega
      have j1 : (0 : Int) ≤ (k : Int) := by omega
      have j2 : (k : Int) ≤ (k : Int) + ((p : Int) + 2) + 1 := by omega
      have j3 : (k : Int) + ((p : Int) + 2) + 1 ≤ (N : Int) + p + 2 := by omega
      have j4 : (k : Int) < N := by omega
      go_wp2_with fail
      rw [show k + (p + 2) + 1 - k = p + 3 by omega]
      refine (divideStep_any w1.heap.size k (us.take k) ((us.drop k).take (p + 3)) (us.drop (k + p + 3)) Av p (N + p + 2 - k) cv _ wr HB7.out E1.out E2.out HVR.out HNE.out (by omega) (by omega) hn2 (by rw [HW1.out, val_mag]; exact HW2.out)).mono ?_
      rintro e w6 ⟨mid', rfl, hml, hmv, hb8, hon, hs8⟩
      rw [HW1.out, val_mag] at hmv
      rw [HW1.out, val_mag]
      rw [E2.out] at hml
      have hqb : val (us.drop k) / (y * 2 ^ (32 - beta)) < 4294967296 := by
        rw [Nat.div_lt_iff_lt_mul (by have := HRK.out.lt; omega)]; exact HW2.out
      have hst2 := Lib.hid (HRK.out.step hkN (by rw [hxv.out.2]; omega) HW0.out hml hmv)
      generalize hqk : val (us.drop k) / (y * 2 ^ (32 - beta)) = qk at *
      have hbq6 : Blk w6 w4.heap.size qs := hon.far (by omega) HBQ.out
      have hcell := hbq6.cell (i := k) (by rw [HRK.out.qlen]; exact hkN)
      have hfro := hbq6.frozen k
      have HB8 := Lib.hid hb8
      have HBQ6 := Lib.hid hbq6
      have hbl6 : Below w1.heap.size w1 w6 := hblr.trans (hon.below (Nat.le_refl _) hblr.size)
      clear hml hmv hb8 hbq6 hs8 hqk
      go_wp2
      go_roundw
      case rel =>
        refine ⟨i + 1, _, qs.set k qk, by omega, by go_num, ?_, HB8.out.far (by simp; omega) _, HBQ6.out.set_ k qk hqb, hbl6.setCell (by simp; omega) _⟩
        rw [show N - (i + 1) = k by omega]
        exact hst2.out
      case measure => simp [intOf]; omega
    · obtain rfl : i = N := by omega
      have hfin := HR.out
      rw [Nat.sub_self] at hfin
      have h1 := hfin.eq
      have h2 := hfin.lt
      rw [List.drop_zero, List.drop_zero, List.drop_zero, hxv.out.1] at h1
      rw [List.drop_zero] at h2
      have hs0 : 0 < 2 ^ (32 - beta) := Nat.pow_pos (by omega)
      have hd := Nat.div_add_mod (x * 2 ^ (32 - beta)) (y * 2 ^ (32 - beta))
      have hm := Nat.mod_lt (x * 2 ^ (32 - beta)) (show 0 < y * 2 ^ (32 - beta) by omega)
      have hquo : Hid (val qs = x / y ∧ val us / 2 ^ (32 - beta) = x % y) := by
        have e1 : val qs = x * 2 ^ (32 - beta) / (y * 2 ^ (32 - beta)) := by
          rw [h1, Nat.mul_add_div (by omega), Nat.div_eq_of_lt h2, Nat.add_zero]
        have e2 : val us = x * 2 ^ (32 - beta) % (y * 2 ^ (32 - beta)) := by
          rw [h1, Nat.mul_add_mod, Nat.mod_eq_of_lt h2]
        refine ⟨by rw [e1, Nat.mul_div_mul_right _ _ hs0], ?_⟩
        rw [e2, Nat.mul_mod_mul_right, Nat.mul_div_cancel _ hs0]
      have hql := Lib.hid hfin.qlen
      have hul := Lib.hid hfin.ulen
      clear hfin h1 h2 hd hm
      go_wp2_with fail
      refine (trim_any _ i i qs _ (by have := HBQ.out.whole; rwa [hql.out] at this) (by omega) (by omega)).mono ?_
      rintro e w' ⟨q, hq, rfl, ht, rfl⟩
      have hmq := Lib.hid (HBQ.out.whole.mg (c := i) hq (by rw [hql.out]; omega) (by omega) ht)
      clear ht
      go_wp2_with fail
      refine (shiftRight_any _ (i + p + 2) (i + p + 2) (32 - beta) us _ _ (by have := HBU.out.whole; rwa [hul.out] at this) (by omega) (by omega) (by omega)).mono ?_
      rintro e w7 ⟨v7, rfl, hm7, hbl7⟩
      have hmq7 := Lib.hid (hmq.out.below hbl7)
      have HM7 := Lib.hid hm7
      clear hm7
      go_wp2
      go_ret2
      refine ⟨_, _, rfl, ?_, ?_, (hbl1.trans (hblr.mono hbl1.size)).trans (hbl7.mono (Nat.le_trans hbl1.size hblr.size))⟩
      · rw [← hquo.out.1]; exact hmq7.out
      · rw [← hquo.out.2]; exact HM7.out
end Go.Proofs.Ytfigimfdojbkeaa

section
namespace Go.Proofs.Ytfigimfdojbkeaa
open Go.RowKit
attribute [local go_sem ↓] Go.wp_at_zero Go.wp_at_succ

theorem Mg.zero (w : World) (c : Nat) (A : Option Addr) (hc : c ≤ 9223372036854775807) : Mg w (.slice A 0 c) 0 := ⟨A, 0, c, rfl, Nat.zero_le _, hc, by rw [mag_zero]; exact Wd.nil _ _⟩
theorem Mg.blk {w : World} {g n : Nat} {ws : List Nat} (h : Blk w g ws) (hl : ws.length = n) (hn : n ≤ 1000000000) {x : Nat} (hx : ws = mag x) : Mg w (.slice (some ⟨g, 0, none⟩) n n) x :=
  ⟨_, n, n, rfl, Nat.le_refl _, by omega, by have := h.whole; rw [hl] at this; rw [← hx]; exact this⟩
theorem undrewN {a w : World} {n B : Nat} (h : Below B (a.drewN n) w) : Below B a w := ⟨h.os, h.tape, h.output, h.size, h.block⟩
theorem Wd.next {w w1 w' : World} {A : Option Addr} {n : Nat} {ws : List Nat} (h : Wd w A n ws) (hb : Below w1.heap.size w1 w') (e : w1.heap = w.heap) : Wd w' A n ws := by
  refine ⟨h.1, h.2.1, fun hn => ?_⟩
  obtain ⟨ad, ha, hlt, hc⟩ := h.2.2 hn
  refine ⟨ad, ha, by have := hb.size; rw [e] at this; omega, fun k hk => ?_⟩
  rw [hb.cell (by rw [block_add, e]; exact hlt), ← hc k hk]
  unfold World.cell?
  rw [e]
theorem Mg.next {w w1 w' : World} {v : Value} {x : Nat} (h : Mg w v x) (hb : Below w1.heap.size w1 w') (e : w1.heap = w.heap) : Mg w' v x := by
  obtain ⟨A, n, c, hv, h1, h2, h3⟩ := h
  exact ⟨A, n, c, hv, h1, h2, h3.next hb e⟩
theorem link_below {B B' : Nat} {a w w1 w' : World} (h : Below B a w) (hb : Below B' w1 w') (hB : B ≤ B') (e1 : w1.os = w.os) (e2 : w1.tape = w.tape) (e3 : w1.output = w.output) (e4 : w1.heap = w.heap) : Below B a w' :=
  ⟨hb.os.trans (e1.trans h.os), hb.tape.trans (e2.trans h.tape), hb.output.trans (e3.trans h.output), by have := hb.size; have := h.size; rw [e4] at *; omega, fun k hk => (hb.block k (by omega)).trans (by rw [e4]; exact h.block k hk)⟩
theorem number_val {x n : Nat} (hl : (mag x).length = n) (hn : n ≤ 2) : gd (mag x) 0 + 4294967296 * gd (mag x) 1 = x := by
  have h := val_front (mag x)
  rw [val_mag, List.drop_of_length_le (by omega), val] at h
  omega

set_option maxHeartbeats 2000000 in
set_option maxRecDepth 100000 in
theorem divide_any (A B : Option Addr) (n c m d x y : Nat) (w : World) (ha : Wd w A n (mag x)) (hb : Wd w B m (mag y)) (hn : n ≤ 10000000) (hm : m ≤ 10000000) (hy : y ≠ 0) :
    Calls Try.prog 95 #[.slice A n c, .slice B m d] w (RetMg2 (x / y) (x % y) w) := by
  have HA := Lib.hid ha
  have HB := Lib.hid hb
  have hm0 : 1 ≤ m := by
    have := hb.len
    rcases Nat.eq_zero_or_pos m with e | e
    · rw [e] at this; exact absurd (mag_length_zero.1 this) hy
    · exact e
  clear ha hb
  by_cases hlt : x < y
  · have hc := Lib.hid (cmpN_lt hlt)
    have hq := Lib.hid (Nat.div_eq_of_lt hlt)
    have hr := Lib.hid (Nat.mod_eq_of_lt hlt)
    clear hlt
    go_enter Try.func95, Try.ntmps95
    go_wp2_with fail
    refine (compare_any A B n m c d x y _ HA.out HB.out (by omega) (by omega)).mono ?_
    rintro e w' ⟨rfl, q, rfl⟩
    rw [hc.out]
    go_wp2_with fail
    refine (clone_any A n c (mag x) _ (HA.out.drewN _) (by omega)).mono ?_
    rintro e w2 ⟨rfl, hb2, hbl2⟩
    have HB2 := Lib.hid hb2
    clear hb2
    go_wp2
    go_ret2
    exact ⟨_, _, rfl, by rw [hq.out]; exact Mg.zero _ _ _ (by omega), Mg.blk HB2.out HA.out.len (by omega) (by rw [hr.out]), undrewN hbl2⟩
  · have hc0 : (0 : Int) ≤ cmpN x y := by unfold cmpN; rw [if_neg hlt]; split <;> omega
    generalize hcc : cmpN x y = cc at *
    have HCC := Lib.hid hcc
    clear hcc
    by_cases hn2 : n ≤ 2
    · have hxl := Lib.hid (number_val HA.out.len hn2)
      have hyx : m ≤ 2 := by
        rcases Nat.lt_or_ge n m with h | h
        · have h1 := HA.out.len
          have h2 := HB.out.len
          exact absurd (mag_lt_of_length (by omega)) hlt
        · omega
      have hyl := Lib.hid (number_val HB.out.len hyx)
      have hxb : x < 18446744073709551616 := by
        rw [← hxl.out]
        have := (mag_wds x).getD 0
        have := (mag_wds x).getD 1
        omega
      have hyb : y < 18446744073709551616 := by
        rw [← hyl.out]
        have := (mag_wds y).getD 0
        have := (mag_wds y).getD 1
        omega
      have hd1 : x / y < 18446744073709551616 := Nat.lt_of_le_of_lt (Nat.div_le_self _ _) hxb
      have hd2 : x % y < 18446744073709551616 := Nat.lt_of_le_of_lt (Nat.mod_le _ _) hxb
      have n1 : ((y : Int) == 0) = false := by simp; omega
      have n2 : (1 : Int) ≤ (y : Int) := by omega
      have n3 : (x : Int) ≤ 18446744073709551615 := by omega
      have n5 : IntKind.u64.wrap ((x : Int) / (y : Int)) = ((x / y : Nat) : Int) := by
        rw [IntWalk.u64_in _ ⟨Int.ediv_nonneg (by omega) (by omega), by rw [← Int.natCast_ediv]; omega⟩]; rfl
      have n6 : ((x : Int) % (y : Int)) = ((x % y : Nat) : Int) := rfl
      have n7 : (x : Int).tmod (y : Int) = ((x % y : Nat) : Int) := rfl
      have n8 : IntKind.u64.wrap ((x : Int).tdiv (y : Int)) = ((x / y : Nat) : Int) := by
        rw [Int.tdiv_eq_ediv_of_nonneg (by omega)]; exact n5
      generalize hqq : x / y = qq at *
      generalize hrr : x % y = rr at *
      have HQQ := Lib.hid hqq
      have HRR := Lib.hid hrr
      clear hqq hrr
      go_enter Try.func95, Try.ntmps95
      go_wp2_with fail
      refine (compare_any A B n m c d x y _ HA.out HB.out (by omega) (by omega)).mono ?_
      rintro e w' ⟨rfl, q, rfl⟩
      rw [HCC.out]
      go_wp2_with fail
      refine (number_any A n c (mag x) _ (HA.out.drewN _) (by omega)).mono ?_
      rintro e w' ⟨rfl, rfl⟩
      rw [hxl.out]
      go_wp2_with fail
      refine (number_any B m d (mag y) _ (HB.out.drewN _) (by omega)).mono ?_
      rintro e w' ⟨rfl, rfl⟩
      rw [hyl.out]
      go_wp2_with fail
      go_region_with (first
        | (go_at_call_of 139 (Value.int IntKind.u64 (qq : Nat)); refine (wordsOf_any qq _ (by omega)).mono ?_; rintro e wq ⟨vq, rfl, hmq, hblq⟩; have HMQ := Lib.hid hmq; clear hmq)
        | (go_at_call_of 139 (Value.int IntKind.u64 (rr : Nat)); refine (wordsOf_any rr _ (by omega)).mono ?_; rintro e wr ⟨vr, rfl, hmr, hblr⟩; have HMR := Lib.hid hmr; clear hmr))
      all_goals
        go_wp2
        go_ret2
        first
          | exact ⟨_, _, rfl, HMQ.out.next hblr rfl, HMR.out, link_below (undrewN hblq) hblr hblq.size rfl rfl rfl rfl⟩
          | exact ⟨_, _, rfl, HMQ.out, HMR.out.next hblq rfl, link_below (undrewN hblr) hblq hblr.size rfl rfl rfl rfl⟩
    · by_cases hm1 : m = 1
      · subst hm1
        obtain ⟨bb, bo, rfl, _, hcb⟩ := HB.out.cells (by omega)
        have c0 := hcb 0 (by omega)
        rw [Nat.add_zero] at c0
        have hyl := Lib.hid (number_val HB.out.len (by omega))
        have hg1 : gd (mag y) 1 = 0 := by rw [gd_eq, List.getElem?_eq_none (by rw [HB.out.len]; omega)]; rfl
        have hg0 : gd (mag y) 0 = y := by have := hyl.out; rw [hg1] at this; omega
        rw [hg0] at c0
        have hyb : y < 4294967296 := by rw [← hg0]; exact (mag_wds y).getD 0
        have hrb : x % y < 18446744073709551616 := by have := Nat.mod_lt x (show 0 < y by omega); omega
        have hrb2 : x % y < 4294967296 := by have := Nat.mod_lt x (show 0 < y by omega); omega
        clear hcb hg1 hg0
        generalize hrr : x % y = rr at *
        have HRR := Lib.hid hrr
        clear hrr
        go_enter Try.func95, Try.ntmps95
        go_wp2_with fail
        refine (compare_any A _ n 1 c d x y _ HA.out HB.out (by omega) (by omega)).mono ?_
        rintro e w' ⟨rfl, q, rfl⟩
        rw [HCC.out]
        go_wp2_with fail
        refine (clone_any A n c (mag x) _ (HA.out.drewN _) (by omega)).mono ?_
        rintro e w2 ⟨rfl, hb2, hbl2⟩
        have hb2' : Blk w2 w.heap.size (mag x ++ []) := by rw [List.append_nil]; exact hb2
        have HB2 := Lib.hid hb2'
        have c2 := hbl2.cell (p := ⟨bb, bo, none⟩) (by simp; omega)
        have c3 : w2.cell? ⟨bb, bo, none⟩ = some (.int .u32 (y : Nat)) := c2.trans c0
        clear hb2 hb2' c2 c0
        go_wp2_with fail
        refine (divideByWord_any w.heap.size n n y (mag x) [] w2 HB2.out HA.out.len (by omega) (by omega) hyb).mono ?_
        rintro e w3 ⟨qs, rfl, hql, hqv, hb3, hon3, hs3⟩
        rw [List.append_nil] at hb3
        rw [HA.out.len] at hql
        rw [val_mag] at hqv
        rw [val_mag, HRR.out]
        have HB3 := Lib.hid hb3
        have HQV := Lib.hid hqv
        have HQL := Lib.hid hql
        clear hb3 hqv hql hs3
        go_wp2_with fail
        refine (trim_any _ n n qs _ (by have := HB3.out.whole; rwa [HQL.out] at this) (by omega) (by omega)).mono ?_
        rintro e w' ⟨k, hk, rfl, ht, rfl⟩
        have hmq := Lib.hid (HB3.out.whole.mg (c := n) hk (by rw [HQL.out]; omega) (by omega) ht)
        clear ht
        go_wp2_with fail
        refine (wordsOf_any rr _ hrb).mono ?_
        rintro e w4 ⟨v4, rfl, hm4, hbl4⟩
        have HM4 := Lib.hid hm4
        clear hm4
        go_wp2
        go_ret2
        have e3 : Below w.heap.size w w3 := (undrewN hbl2).trans (hon3.below (Nat.le_refl _) hbl2.size)
        exact ⟨_, _, rfl, by rw [← HQV.out]; exact hmq.out.below hbl4, HM4.out, e3.trans (hbl4.mono e3.size)⟩
      · obtain ⟨p, rfl⟩ : ∃ p, m = p + 2 := ⟨m - 2, by omega⟩
        have hpn : p + 2 ≤ n := by
          rcases Nat.lt_or_ge n (p + 2) with h | h
          · have h1 := HA.out.len
            have h2 := HB.out.len
            exact absurd (mag_lt_of_length (by omega)) hlt
          · exact h
        have n1 : ((p : Int) + 2 == 1) = false := by simp; omega
        go_enter Try.func95, Try.ntmps95
        go_wp2_with fail
        refine (compare_any A B n (p + 2) c d x y _ HA.out HB.out (by omega) (by omega)).mono ?_
        rintro e w' ⟨rfl, q, rfl⟩
        rw [HCC.out]
        go_wp2_with fail
        refine (divideLong_any A B n c p d x y _ (HA.out.drewN _) (HB.out.drewN _) (by omega) (by omega) (by omega) hpn).mono ?_
        rintro e w2 ⟨v, u, rfl, hm1, hm2, hbl⟩
        have H1 := Lib.hid hm1
        have H2 := Lib.hid hm2
        clear hm1 hm2
        go_wp2
        go_ret2
        exact ⟨_, _, rfl, H1.out, H2.out, undrewN hbl⟩
end Go.Proofs.Ytfigimfdojbkeaa
end
