/-
  Contract of subtractTimes.
-/
import Derived.Test.YtpklphdhigkmmaaMakeE
namespace Go.Proofs.Ytpklphdhigkmmaa
open Go.RowKit

theorem and_mask (c : Nat) (hc : c < 18446744073709551616) : bits .and .u64 (c : Int) 4294967295 = ((c % 4294967296 : Nat) : Int) := by
  have h := u64_and_nat c 4294967295 hc (by omega)
  have e : ((4294967295 : Nat) : Int) = 4294967295 := rfl
  rw [e] at h
  rw [h, show 4294967295 = 2 ^ 32 - 1 from rfl, Nat.and_two_pow_sub_one_eq_mod]

structure SubRel (mid vs : List Nat) (m wd k carry bo : Nat) (dn rest : List Nat) : Prop where
  len : dn.length = k
  restlen : rest.length + k = m
  rest : rest = mid.drop k
  wds : Wds dn
  hi : pw k * carry ≤ val (vs.take k) * wd
  eq : val dn + val (vs.take k) * wd = val (mid.take k) + pw k * (carry + bo)

theorem SubRel.step {mid vs : List Nat} {m wd k carry bo : Nat} {dn rest : List Nat} (h : SubRel mid vs m wd k carry bo dn rest) (hm : mid.length = m) (hw : Wds mid) (hk : k < m) (hbo : bo ≤ 1) :
    ∃ r, rest = gd mid k :: r ∧ SubRel mid vs m wd (k + 1) ((carry + gd vs k * wd) / 4294967296) (bw (gd mid k) ((carry + gd vs k * wd) % 4294967296) bo) (dn ++ [dw (gd mid k) ((carry + gd vs k * wd) % 4294967296) bo]) r := by
  have e0 : mid.drop k = gd mid k :: mid.drop (k + 1) := by
    rw [List.drop_eq_getElem_cons (by omega), gd_eq, List.getElem?_eq_getElem (by omega)]; rfl
  have hd := dw_bw (hw.getD k) (Nat.mod_lt (carry + gd vs k * wd) (show 0 < 4294967296 by omega)) hbo
  have e4 : (val (vs.take k) + pw k * gd vs k) * wd = val (vs.take k) * wd + pw k * (gd vs k * wd) := by rw [Nat.add_mul, Nat.mul_assoc]
  have e1 := h.eq
  have e6 := h.hi
  refine ⟨mid.drop (k + 1), by rw [h.rest, e0], ⟨by rw [List.length_append, h.len]; rfl, ?_, rfl, h.wds.append (Wds.cons (dw_lt _ _ _) Wds.nil), ?_, ?_⟩⟩
  · rw [List.length_drop, hm]; omega
  · rw [pw_succ, val_take_succ, e4, Nat.mul_comm 4294967296 (pw k), Nat.mul_assoc]
    have e5 : pw k * (4294967296 * ((carry + gd vs k * wd) / 4294967296)) ≤ pw k * (carry + gd vs k * wd) := Nat.mul_le_mul_left _ (Nat.mul_div_le _ _)
    rw [Nat.mul_add] at e5
    omega
  · rw [val_snoc, h.len, pw_succ, val_take_succ, val_take_succ, e4]
    generalize hs : carry + gd vs k * wd = s at *
    generalize dw (gd mid k) (s % 4294967296) bo = d at *
    generalize bw (gd mid k) (s % 4294967296) bo = b at *
    have e2 : pw k * (d + s % 4294967296 + bo) = pw k * (gd mid k + 4294967296 * b) := by rw [hd]
    have e3 : pw k * s = pw k * carry + pw k * (gd vs k * wd) := by rw [← hs, Nat.mul_add]
    have e5 : pw k * s = pw k * (s % 4294967296) + pw k * (4294967296 * (s / 4294967296)) := by rw [← Nat.mul_add]; congr 1; omega
    have e7 : 4294967296 * pw k * (s / 4294967296 + b) = pw k * (4294967296 * (s / 4294967296)) + pw k * (4294967296 * b) := by
      rw [Nat.mul_comm 4294967296 (pw k), Nat.mul_assoc, Nat.mul_add, Nat.mul_add]
    simp only [Nat.mul_add] at e1 e2
    omega

def RetSub (g : Nat) (pre mid post vs : List Nat) (wd : Nat) (w : World) (e : Ending) (w' : World) : Prop :=
  ∃ mid' : List Nat, e = .returned (.bool (decide (val mid < val vs * wd))) ∧ mid'.length = mid.length ∧ val mid' + val vs * wd = val mid + (if val mid < val vs * wd then pw mid.length else 0) ∧
    Blk w' g (pre ++ mid' ++ post) ∧ Only g w w' ∧ w'.heap.size = w.heap.size

set_option maxHeartbeats 1000000 in
theorem subtractTimes_any (g o : Nat) (pre mid post : List Nat) (A : Option Addr) (n m c d wd : Nat) (vs : List Nat) (w : World) (hb : Blk w g (pre ++ mid ++ post)) (ho : pre.length = o) (hmid : mid.length = m)
    (ha : Wd w A n vs) (hne : ∀ ad, A = some ad → 0 < n → ad.block ≠ g) (hnm : n + 1 = m) (hm : m ≤ 1000000000) (hwd : wd < 4294967296) :
    Calls Try.prog 137 #[.slice (some ⟨g, o, none⟩) m c, .slice A n d, .int .u64 wd] w (RetSub g pre mid post vs wd w) := by
  subst ho
  have HA := Lib.hid ha
  have HB := Lib.hid hb
  have HM := Lib.hid hmid
  have HN := Lib.hid hne
  have HNM := Lib.hid hnm
  have hn : n ≤ 1000000000 := by omega
  clear ha hb hmid hne hnm
  go_enter Try.func137, Try.ntmps137
  go_wp2
  go_loopw [7, 8, 13] (fun cy bb t wr => ∃ k carry bo : Nat, ∃ dn rest, k ≤ m ∧ carry < 4294967296 ∧ bo ≤ 1 ∧ cy = .int .u64 carry ∧ bb = .int .u64 bo ∧ t = .int .i64 k ∧ SubRel mid vs m wd k carry bo dn rest ∧ Blk wr g (pre ++ dn ++ (rest ++ post)) ∧ Only g w wr ∧ wr.heap.size = w.heap.size)
      (fun _ _ t _ => m - (intOf t).toNat)
  case atStart => exact ⟨0, 0, 0, [], mid, Nat.zero_le _, by omega, by omega, rfl, rfl, rfl, ⟨rfl, by simpa using HM.out, rfl, Wds.nil, by simp, by simp [val]⟩, by simpa using HB.out, Only.refl _ _, rfl⟩
  case round =>
    obtain ⟨k, carry, bo, dn, rest, hk, hcy, hbo, rfl, rfl, rfl, hrel, hblk, hon, hsz⟩ := hrel
    have HBK := Lib.hid hblk
    have HSZ := Lib.hid hsz
    clear hblk hsz
    by_cases hlt : k < m
    · obtain ⟨r, hr, hstep⟩ := hrel.step HM.out HB.out.2.left.right hlt hbo
      subst hr
      have HL := Lib.hid hrel.len
      have HST := Lib.hid hstep
      clear hrel hstep
      have h1 := HA.out.wds.getD k
      have hmul := mul_bound h1 hwd
      have hm0 : (0 : Int) ≤ (gd vs k : Int) * (wd : Int) := Int.mul_nonneg (Int.natCast_nonneg _) (Int.natCast_nonneg _)
      have hm1 : (gd vs k : Int) * (wd : Int) ≤ 18446744065119617025 := by rw [← Int.natCast_mul]; omega
      have hcell := HBK.out.cell (i := pre.length + k) (by simp [HL.out])
      rw [List.cons_append, gd_mid pre dn _ k HL.out, show gd (gd mid k :: (r ++ post)) 0 = gd mid k from rfl] at hcell
      have h2 : gd mid k < 4294967296 := HBK.out.2 _ (by simp)
      have hfro := HBK.out.frozen (pre.length + k)
      have HA2 := Lib.hid (HA.out.only hon HN.out)
      have hc0 : carry + gd vs k * wd < 18446744073709551616 := by omega
      have hc1 : (carry : Int) + (gd vs k : Int) * (wd : Int) = ((carry + gd vs k * wd : Nat) : Int) := by rw [Int.natCast_add, Int.natCast_mul]
      have hc2 : (carry + gd vs k * wd) / 4294967296 < 4294967296 := by omega
      generalize hs : carry + gd vs k * wd = s at *
      have hand := and_mask s hc0
      have h5 := Nat.mod_lt s (show 0 < 4294967296 by omega)
      have h3 : Hid (IntKind.u64.wrap (IntKind.u64.wrap ((gd mid k : Int) - ((s % 4294967296 : Nat) : Int)) - (bo : Int)) / 9223372036854775808 = ((bw (gd mid k) (s % 4294967296) bo : Nat) : Int)) := sub_hi h2 h5 hbo
      have h4 : Hid (IntKind.u64.wrap (IntKind.u64.wrap ((gd mid k : Int) - ((s % 4294967296 : Nat) : Int)) - (bo : Int)) % 4294967296 = ((dw (gd mid k) (s % 4294967296) bo : Nat) : Int)) := sub_lo h2 h5 hbo
      have HS := Lib.hid hs
      generalize hs2 : s % 4294967296 = s2 at *
      have HS2 := Lib.hid hs2
      clear hs hs2
      go_wp2_with fail
      refine (word_any A n d vs k _ HA2.out (by omega) (by omega)).mono ?_
      rintro e w' ⟨rfl, rfl⟩
      rw [Int.toNat_natCast]
      go_wp2
      go_roundw
      case rel =>
        refine ⟨k + 1, s / 4294967296, bw (gd mid k) s2 bo, dn ++ [dw (gd mid k) s2 bo], r, by omega, hc2, bw_le _ _ _, by go_num, by rw [h3.out], by go_num, HST.out, ?_, hon.set_ _ _, by simpa [World.setCell] using HSZ.out⟩
        have hset := HBK.out.set_i (pre.length + k) (dw (gd mid k) s2 bo) h4.out (dw_lt _ _ _)
        rw [List.cons_append, set_mid pre dn (r ++ post) _ _ k HL.out] at hset
        exact hset
      case measure => simp [intOf]; omega
    · obtain rfl : k = m := by omega
      have HR := Lib.hid hrel
      clear hrel
      have hfin : Hid (val dn + val vs * wd = val mid + pw k * bo ∧ (bo = 1 ↔ val mid < val vs * wd)) := by
        have h1 := HR.out.eq
        have h2 := HR.out.hi
        have hmk : mid.length = k := HM.out
        have hnk := HNM.out
        rw [val_take_all _ _ (by rw [HA.out.len]; omega)] at h1 h2
        rw [val_take_all _ _ (by omega)] at h1
        have h3 := val_lt HA.out.wds
        rw [HA.out.len] at h3
        have h4 : val vs * wd < pw k := by
          rw [← HNM.out, pw_succ, Nat.mul_comm]
          exact Nat.lt_of_le_of_lt (Nat.mul_le_mul_right _ (Nat.le_of_lt hwd)) (Nat.mul_lt_mul_of_pos_left h3 (by omega))
        have h5 : carry = 0 := by
          rcases Nat.eq_zero_or_pos carry with e | e
          · exact e
          · have := Nat.mul_le_mul_left (pw k) e
            omega
        subst h5
        have h6 := val_lt HR.out.wds
        rw [HR.out.len] at h6
        rw [Nat.zero_add] at h1
        refine ⟨h1, ?_⟩
        rcases (show bo = 0 ∨ bo = 1 by omega) with rfl | rfl
        · simp at h1 ⊢; omega
        · simp at h1 ⊢; omega
      go_wp2
      go_ret
      obtain ⟨h1, h2⟩ := hfin.out
      have h3 : rest = [] := List.eq_nil_of_length_eq_zero (by have := HR.out.restlen; omega)
      subst h3
      refine ⟨dn, ?_, by rw [HR.out.len, HM.out], ?_, HBK.out, hon, HSZ.out⟩
      · have e : ((bo : Int) == 1) = decide (val mid < val vs * wd) := by
          rw [Bool.eq_iff_iff, beq_iff_eq, decide_eq_true_iff, ← h2]; omega
        rw [← e]; rfl
      · rw [h1, HM.out]
        split
        · rename_i h; rw [h2.2 h]; omega
        · rename_i h
          have : bo = 0 := by
            rcases (show bo = 0 ∨ bo = 1 by omega) with e | e
            · exact e
            · exact absurd (h2.1 e) h
          rw [this]; omega
end Go.Proofs.Ytpklphdhigkmmaa
