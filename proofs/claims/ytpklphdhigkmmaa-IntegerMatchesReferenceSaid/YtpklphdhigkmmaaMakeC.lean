/-
  Contracts of addTimes and times.
-/
import Derived.Test.YtpklphdhigkmmaaMakeB
namespace Go.Proofs.Ytpklphdhigkmmaa
open Go.RowKit

theorem gd_mid (p dn r : List Nat) (k : Nat) (h : dn.length = k) : gd (p ++ dn ++ r) (p.length + k) = gd r 0 := by
  rw [gd_eq, gd_eq, List.getElem?_append_right (by simp [h]), List.length_append, h, Nat.sub_self]
theorem set_mid (p dn r : List Nat) (x v k : Nat) (h : dn.length = k) : (p ++ dn ++ (x :: r)).set (p.length + k) v = p ++ (dn ++ [v]) ++ r := by
  rw [List.set_append_right _ _ (by simp [h]), List.length_append, h, Nat.sub_self]
  simp

/-- Words as they stand after k rounds: the new words, the old ones, and what lies behind. -/
structure AddRel (mid xs : List Nat) (n wd k carry : Nat) (dn rest : List Nat) : Prop where
  len : dn.length = k
  restlen : rest.length + k = n
  rest : rest = mid.drop k
  wds : Wds dn
  eq : val dn + pw k * carry = val (mid.take k) + val (xs.take k) * wd

theorem AddRel.step {mid xs : List Nat} {n wd k carry : Nat} {dn rest : List Nat} (h : AddRel mid xs n wd k carry dn rest) (hm : mid.length = n) (hk : k < n) :
    ∃ r, rest = gd mid k :: r ∧ AddRel mid xs n wd (k + 1) ((carry + (gd xs k * wd + gd mid k)) / 4294967296) (dn ++ [(carry + (gd xs k * wd + gd mid k)) % 4294967296]) r := by
  have e0 : mid.drop k = gd mid k :: mid.drop (k + 1) := by
    rw [List.drop_eq_getElem_cons (by omega), gd_eq, List.getElem?_eq_getElem (by omega)]; rfl
  refine ⟨mid.drop (k + 1), by rw [h.rest, e0], ⟨by rw [List.length_append, h.len]; rfl, ?_, rfl, h.wds.append (Wds.cons (Nat.mod_lt _ (by omega)) Wds.nil), ?_⟩⟩
  · rw [List.length_drop, hm]; omega
  · have e1 := h.eq
    rw [val_snoc, h.len, pw_succ, val_take_succ, val_take_succ]
    generalize hs : carry + (gd xs k * wd + gd mid k) = s at *
    have e2 : pw k * (s % 4294967296) + 4294967296 * pw k * (s / 4294967296) = pw k * s := by
      rw [Nat.mul_comm 4294967296 (pw k), Nat.mul_assoc, ← Nat.mul_add]
      congr 1; omega
    have e3 : pw k * s = pw k * carry + (pw k * (gd xs k * wd) + pw k * gd mid k) := by rw [← hs, Nat.mul_add, Nat.mul_add]
    have e4 : (val (xs.take k) + pw k * gd xs k) * wd = val (xs.take k) * wd + pw k * (gd xs k * wd) := by rw [Nat.add_mul, Nat.mul_assoc]
    omega

def RetAdd (g : Nat) (pre mid post xs : List Nat) (wd : Nat) (w : World) (e : Ending) (w' : World) : Prop :=
  ∃ (carry : Nat) (mid' : List Nat), e = .returned (.int .u32 carry) ∧ carry < 4294967296 ∧ mid'.length = mid.length ∧ Wds mid' ∧ val mid' + pw mid.length * carry = val mid + val xs * wd ∧
    Blk w' g (pre ++ mid' ++ post) ∧ Only g w w' ∧ w'.heap.size = w.heap.size

theorem only_drewN {g : Nat} {a w : World} (h : Only g a w) (n : Nat) : Only g a (w.drewN n) := ⟨h.os, h.tape, h.output, h.size, h.block⟩
theorem mul_bound {a b : Nat} (ha : a < 4294967296) (hb : b < 4294967296) : a * b ≤ 18446744065119617025 :=
  Nat.mul_le_mul (show a ≤ 4294967295 by omega) (show b ≤ 4294967295 by omega)

set_option maxHeartbeats 1000000 in
theorem addTimes_any (g o : Nat) (pre mid post : List Nat) (A : Option Addr) (n m c d wd : Nat) (xs : List Nat) (w : World) (hb : Blk w g (pre ++ mid ++ post)) (ho : pre.length = o) (hmid : mid.length = n)
    (ha : Wd w A n xs) (hne : ∀ ad, A = some ad → 0 < n → ad.block ≠ g) (hn : n ≤ 1000000000) (hnm : n ≤ m) (hm : m ≤ 1000000000) (hwd : wd < 4294967296) :
    Calls Try.prog 124 #[.slice (some ⟨g, o, none⟩) m c, .slice A n d, .int .u32 wd] w (RetAdd g pre mid post xs wd w) := by
  subst ho
  have HA := Lib.hid ha
  have HB := Lib.hid hb
  have HM := Lib.hid hmid
  have HN := Lib.hid hne
  clear ha hb hmid hne
  go_enter Try.func124, Try.ntmps124
  go_wp2
  go_loopw [7, 11] (fun cy t wr => ∃ k carry : Nat, ∃ dn rest, k ≤ n ∧ carry < 4294967296 ∧ cy = .int .u64 carry ∧ t = .int .i64 k ∧ AddRel mid xs n wd k carry dn rest ∧ Blk wr g (pre ++ dn ++ (rest ++ post)) ∧ Only g w wr ∧ wr.heap.size = w.heap.size)
      (fun _ t _ => n - (intOf t).toNat)
  case atStart => exact ⟨0, 0, [], mid, Nat.zero_le _, by omega, rfl, rfl, ⟨rfl, by simpa using HM.out, rfl, Wds.nil, by simp [val]⟩, by simpa using HB.out, Only.refl _ _, rfl⟩
  case round =>
    obtain ⟨k, carry, dn, rest, hk, hcy, rfl, rfl, hrel, hblk, hon, hsz⟩ := hrel
    have HBK := Lib.hid hblk
    have HSZ := Lib.hid hsz
    clear hblk hsz
    by_cases hlt : k < n
    · obtain ⟨r, hr, hstep⟩ := hrel.step HM.out hlt
      subst hr
      have HL := Lib.hid hrel.len
      have HST := Lib.hid hstep
      clear hrel hstep
      have h1 := HA.out.wds.getD k
      have hmul := mul_bound h1 hwd
      have hm0 : (0 : Int) ≤ (gd xs k : Int) * (wd : Int) := Int.mul_nonneg (Int.natCast_nonneg _) (Int.natCast_nonneg _)
      have hm1 : (gd xs k : Int) * (wd : Int) ≤ 18446744065119617025 := by rw [← Int.natCast_mul]; omega
      have i0 : (0 : Int) ≤ (k : Int) := by omega
      have i1 : (k : Int) < n := by omega
      have i2 : (k : Int) < m := by omega
      have hcell := HBK.out.cell (i := pre.length + k) (by simp [HL.out])
      rw [List.cons_append, gd_mid pre dn _ k HL.out, show gd (gd mid k :: (r ++ post)) 0 = gd mid k from rfl] at hcell
      have h2 : gd mid k < 4294967296 := HBK.out.2 _ (by simp)
      have hfro := HBK.out.frozen (pre.length + k)
      have HA2 := HA.out.only hon HN.out
      obtain ⟨ad, rfl, _, hca⟩ := HA2.cell hlt
      clear HA2
      go_wp2
      go_quiet (fail)
      go_wp2
      go_roundw
      case rel =>
        refine ⟨k + 1, (carry + (gd xs k * wd + gd mid k)) / 4294967296, _, r, by omega, by omega, by go_num, by go_num, HST.out, ?_, (Only.set_ (g := g) (only_drewN hon _) _ _), by simpa [World.setCell] using HSZ.out⟩
        have hset := (HBK.out.drewN (by assumption)).set_i (pre.length + k) ((carry + (gd xs k * wd + gd mid k)) % 4294967296) (j := ((carry : Int) + ((gd xs k : Int) * (wd : Int) + (gd mid k : Int))) % 4294967296) (by rw [Int.natCast_emod, Int.natCast_add, Int.natCast_add, Int.natCast_mul]; rfl) (Nat.mod_lt _ (by omega))
        rw [List.cons_append, set_mid pre dn (r ++ post) _ _ k HL.out] at hset
        exact hset
      case measure => simp [intOf]; omega
    · obtain rfl : k = n := by omega
      have HR := Lib.hid hrel
      clear hrel
      go_wp2
      go_ret
      have h1 := HR.out
      have h2 : rest = [] := List.eq_nil_of_length_eq_zero (by have := h1.restlen; omega)
      subst h2
      refine ⟨carry, dn, rfl, hcy, by rw [h1.len, HM.out], h1.wds, ?_, HBK.out, hon, HSZ.out⟩
      have h3 := h1.eq
      rw [val_take_all _ _ (by rw [HM.out]; omega), val_take_all _ _ (by rw [HA.out.len]; omega)] at h3
      rw [HM.out]
      exact h3

/-- The block of a product after i rounds. -/
structure TimesRel (x y n m i : Nat) (lo hi : List Nat) : Prop where
  len : lo.length = n + i
  hilen : hi.length + i = m
  zero : hi = List.replicate hi.length 0
  eq : val lo = x * val ((mag y).take i)

theorem TimesRel.step {x y n m i carry : Nat} {lo hi mid' : List Nat} (h : TimesRel x y n m i lo hi) (hx : (mag x).length = n) (hi2 : i < m)
    (hl : mid'.length = n) (he : val mid' + pw n * carry = val (lo.drop i) + val (mag x) * gd (mag y) i) :
    ∃ r, hi = 0 :: r ∧ TimesRel x y n m (i + 1) (lo.take i ++ mid' ++ [carry]) r := by
  have h1 := h.hilen
  have hz := h.zero
  obtain ⟨q, hq⟩ : ∃ q, hi.length = q + 1 := ⟨hi.length - 1, by omega⟩
  rw [hq, List.replicate_succ] at hz
  refine ⟨List.replicate q 0, hz, ⟨?_, by simp; omega, by simp, ?_⟩⟩
  · have := h.len
    simp [hl]; omega
  · have hlen := h.len
    have e1 : (lo.take i).length = i := by rw [List.length_take]; omega
    rw [val_snoc, val_append, List.length_append, e1, hl, val_take_succ]
    have e2 := val_append (lo.take i) (lo.drop i)
    rw [List.take_append_drop, e1, h.eq] at e2
    rw [val_mag] at he
    rw [pw_add, Nat.mul_add, Nat.mul_assoc]
    have e3 : pw i * val mid' + pw i * (pw n * carry) = pw i * val (lo.drop i) + pw i * (x * gd (mag y) i) := by rw [← Nat.mul_add, he, Nat.mul_add]
    have e4 : x * (pw i * gd (mag y) i) = pw i * (x * gd (mag y) i) := by rw [← Nat.mul_assoc, Nat.mul_comm x, Nat.mul_assoc]
    omega

set_option maxHeartbeats 1000000 in
theorem times_any (A B : Option Addr) (n m c d x y : Nat) (w : World) (ha : Wd w A n (mag x)) (hb : Wd w B m (mag y)) (hn : n ≤ 100000000) (hm : m ≤ 100000000) :
    Calls Try.prog 93 #[.slice A n c, .slice B m d] w (RetMg (x * y) w) := by
  have HA := Lib.hid ha
  have HB := Lib.hid hb
  have hfar : ∀ ad, A = some ad → 0 < n → ad.block ≠ w.heap.size := fun ad e h0 => by
    obtain ⟨ad', e', hlt, _⟩ := ha.2.2 h0
    rw [e] at e'; injection e' with e'
    rw [e']; omega
  have HF := Lib.hid hfar
  clear ha hb hfar
  go_enter Try.func93, Try.ntmps93
  go_wp2_with (first
    | (refine wpList_make_blk rfl _ _ _ rfl Try.underlying22 u32_info _ _ _ _ (n + m) rfl rfl (by omega) (by omega) (by omega) ?_
       intro w1 hb1 hs1 hbl1
       have HB1 := Lib.hid hb1
       have HS1 := Lib.hid hs1
       clear hb1 hs1))
  go_loopw [16] (fun t wr => ∃ i : Nat, ∃ lo hi, i ≤ m ∧ t = .int .i64 i ∧ TimesRel x y n m i lo hi ∧ Blk wr w.heap.size (lo ++ hi) ∧ Below w.heap.size w wr)
      (fun t _ => m - (intOf t).toNat)
  case atStart => exact ⟨0, List.replicate n 0, List.replicate m 0, Nat.zero_le _, rfl, ⟨by simp, by simp, by simp, by simp [val, val_replicate]⟩, by rw [List.replicate_append_replicate]; exact HB1.out, hbl1⟩
  case round =>
    obtain ⟨i, lo, hi, hi1, rfl, hrel, hblk, hbl⟩ := hrel
    have HR := Lib.hid hrel
    have HBK := Lib.hid hblk
    clear hrel hblk
    by_cases hlt : i < m
    · have h1 := (mag_wds y).getD i
      obtain ⟨bd, rfl, _, hcb⟩ := (HB.out.below hbl).cell hlt
      have hcap : ¬ (n + m = i) := by omega
      have hlen := HR.out.len
      have e1 : (lo.take i).length = i := by rw [List.length_take]; omega
      have e2 : (lo.drop i).length = n := by rw [List.length_drop]; omega
      have hb3 : Blk wr w.heap.size (lo.take i ++ lo.drop i ++ hi) := by rw [List.take_append_drop]; exact HBK.out
      have E1 := Lib.hid e1
      have E2 := Lib.hid e2
      have HB3 := Lib.hid hb3
      clear e1 e2 hlen hb3
      go_wp2_with fail
      refine (addTimes_any w.heap.size i (lo.take i) (lo.drop i) hi A n n _ c _ (mag x) wr HB3.out E1.out E2.out (HA.out.below hbl) HF.out (by omega) (Nat.le_refl _) (by omega) h1).mono ?_
      rintro e w2 ⟨carry, mid', rfl, hc, hml, hw, he, hb4, hon, hs2⟩
      rw [E2.out] at hml he
      obtain ⟨r, hr, hstep⟩ := HR.out.step HA.out.len hlt hml he
      subst hr
      have hpl : (lo.take i ++ mid').length = i + n := by rw [List.length_append, E1.out, hml]
      have hcell := hb4.cell (i := i + n) (by rw [List.length_append, hpl]; simp)
      have hg0 : gd (lo.take i ++ mid' ++ 0 :: r) (i + n) = 0 := by rw [gd_eq, List.getElem?_append_right (by omega), hpl, Nat.sub_self]; rfl
      rw [hg0] at hcell
      have hfro := hb4.frozen (i + n)
      have HBF : Hid (Blk (w2.setCell ⟨w.heap.size, i + n, none⟩ (.int .u32 (carry : Nat))) w.heap.size (lo.take i ++ mid' ++ [carry] ++ r)) := by
        have := hb4.set_ (i + n) carry hc
        rw [List.set_append_right _ _ (by omega), hpl, Nat.sub_self] at this
        simpa [Hid] using this
      have HST := Lib.hid hstep
      have hbl2 : Below w.heap.size w w2 := hbl.trans (hon.below (Nat.le_refl _) hbl.size)
      have HE := Lib.hid hs2
      clear hb4 he hml hpl hstep hg0 hw hs2
      go_wp2
      go_roundw
      case rel => exact ⟨i + 1, _, r, by omega, by go_num, HST.out, HBF.out, hbl2.setCell (Nat.le_refl _) _⟩
      case measure => simp [intOf]; omega
    · obtain rfl : i = m := by omega
      have hz : hi = [] := List.eq_nil_of_length_eq_zero (by have := HR.out.hilen; omega)
      subst hz
      have hv : Hid (val lo = x * y) := by
        have := HR.out.eq
        rwa [val_take_all _ _ (by rw [HB.out.len]; omega), val_mag] at this
      have hlen := Lib.hid HR.out.len
      have HBL : Hid (Blk wr w.heap.size lo) := by have := HBK.out; rwa [List.append_nil] at this
      go_wp2_with fail
      refine (trim_any _ (n + i) (n + i) lo _ (by have := HBL.out.whole; rwa [hlen.out] at this) (by omega) (by omega)).mono ?_
      rintro e w' ⟨q, hq, rfl, ht, rfl⟩
      have HT := Lib.hid ht
      clear ht
      go_wp2
      go_ret
      have h1 := HBL.out.whole.mg (c := n + i) hq (by rw [hlen.out]; omega) (by omega) HT.out
      rw [hv.out] at h1
      exact ⟨_, rfl, h1, hbl⟩
end Go.Proofs.Ytpklphdhigkmmaa
