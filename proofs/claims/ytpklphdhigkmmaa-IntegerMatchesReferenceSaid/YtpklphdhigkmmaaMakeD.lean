/-
  Contracts of divideByWord, shiftLeft and shiftRight.
-/
import Derived.Test.YtpklphdhigkmmaaMakeC
import Derived.Laws.BitsAllLaws
namespace Go.Proofs.Ytpklphdhigkmmaa
open Go.RowKit

structure DbwRel (mid : List Nat) (n d i r : Nat) (q : List Nat) : Prop where
  len : q.length = i
  wds : Wds q
  lt : r < d
  eq : d * val q + r = val (mid.drop (n - i))

theorem DbwRel.step {mid : List Nat} {n d i r : Nat} {q : List Nat} (h : DbwRel mid n d i r q) (hm : mid.length = n) (hi : i < n) (hw : Wds mid) :
    (gd mid (n - 1 - i) + 4294967296 * r) / d < 4294967296 ∧ DbwRel mid n d (i + 1) ((gd mid (n - 1 - i) + 4294967296 * r) % d) ((gd mid (n - 1 - i) + 4294967296 * r) / d :: q) := by
  have h1 := hw.getD (n - 1 - i)
  have hlt := h.lt
  have h2 : (gd mid (n - 1 - i) + 4294967296 * r) / d < 4294967296 := by
    rw [Nat.div_lt_iff_lt_mul (by omega)]
    have : 4294967296 * (r + 1) ≤ 4294967296 * d := Nat.mul_le_mul_left _ hlt
    omega
  refine ⟨h2, ⟨by rw [List.length_cons, h.len], Wds.cons h2 h.wds, Nat.mod_lt _ (by omega), ?_⟩⟩
  have e : mid.drop (n - (i + 1)) = gd mid (n - 1 - i) :: mid.drop (n - i) := by
    rw [show n - (i + 1) = n - 1 - i by omega, List.drop_eq_getElem_cons (by omega), gd_eq, List.getElem?_eq_getElem (by omega), show n - 1 - i + 1 = n - i by omega]; rfl
  rw [e, val, val, ← h.eq]
  have e2 := Nat.div_add_mod (gd mid (n - 1 - i) + 4294967296 * r) d
  rw [Nat.mul_add]
  have e3 : d * (4294967296 * val q) = 4294967296 * (d * val q) := by rw [← Nat.mul_assoc, Nat.mul_comm d, Nat.mul_assoc]
  omega

def RetDbw (g : Nat) (mid post : List Nat) (d : Nat) (w : World) (e : Ending) (w' : World) : Prop :=
  ∃ q : List Nat, e = .returned (.int .u32 (val mid % d : Nat)) ∧ q.length = mid.length ∧ val q = val mid / d ∧ Blk w' g (q ++ post) ∧ Only g w w' ∧ w'.heap.size = w.heap.size

set_option maxHeartbeats 1000000 in
theorem divideByWord_any (g n c d : Nat) (mid post : List Nat) (w : World) (hb : Blk w g (mid ++ post)) (hmid : mid.length = n) (hn : n ≤ 1000000000) (hd0 : 0 < d) (hd : d < 4294967296) :
    Calls Try.prog 108 #[.slice (some ⟨g, 0, none⟩) n c, .int .u32 d] w (RetDbw g mid post d w) := by
  have HB := Lib.hid hb
  have HM := Lib.hid hmid
  clear hb hmid
  go_enter Try.func108, Try.ntmps108
  go_wp2
  go_loopw [5, 10] (fun cy t wr => ∃ i r : Nat, ∃ q, i ≤ n ∧ r < d ∧ cy = .int .u64 r ∧ t = .int .i64 i ∧ DbwRel mid n d i r q ∧ Blk wr g (mid.take (n - i) ++ q ++ post) ∧ Only g w wr ∧ wr.heap.size = w.heap.size)
      (fun _ t _ => n - (intOf t).toNat)
  case atStart => exact ⟨0, 0, [], Nat.zero_le _, hd0, rfl, rfl, ⟨rfl, Wds.nil, hd0, by rw [Nat.sub_zero, List.drop_of_length_le (by rw [HM.out]; omega)]; rfl⟩, by rw [Nat.sub_zero, ← HM.out, List.take_length, List.append_nil]; exact HB.out, Only.refl _ _, rfl⟩
  case round =>
    obtain ⟨i, r, q, hi, hr, rfl, rfl, hrel, hblk, hon, hsz⟩ := hrel
    have HBK := Lib.hid hblk
    have HSZ := Lib.hid hsz
    have HR := Lib.hid hrel
    clear hblk hsz hrel
    by_cases hlt : i < n
    · obtain ⟨hq, hstep⟩ := HR.out.step HM.out hlt HB.out.2.left
      have HST := Lib.hid hstep
      clear hstep
      have h1 : gd mid (n - 1 - i) < 4294967296 := HB.out.2.left.getD _
      have hsplit : mid.take (n - i) = mid.take (n - 1 - i) ++ [gd mid (n - 1 - i)] := by
        rw [show n - i = (n - 1 - i) + 1 by omega, take_snoc _ _ (by rw [HM.out]; omega)]
      have hpl : (mid.take (n - 1 - i)).length = n - 1 - i := by rw [List.length_take, HM.out]; omega
      have hcell := HBK.out.cell (i := n - 1 - i) (by rw [hsplit, List.length_append, List.length_append, List.length_append, hpl, List.length_singleton]; omega)
      have hg : gd (mid.take (n - i) ++ q ++ post) (n - 1 - i) = gd mid (n - 1 - i) := by
        rw [hsplit, gd_eq, List.append_assoc, List.append_assoc, List.getElem?_append_right (by omega), hpl, Nat.sub_self]; rfl
      rw [hg] at hcell
      have hfro := HBK.out.frozen (n - 1 - i)
      have hset : ∀ v : Nat, (mid.take (n - i) ++ q ++ post).set (n - 1 - i) v = mid.take (n - (i + 1)) ++ (v :: q) ++ post := by
        intro v
        rw [hsplit, List.append_assoc, List.append_assoc, List.set_append_right _ _ (by omega), hpl, Nat.sub_self, show n - (i + 1) = n - 1 - i by omega]
        simp
      have HSET := Lib.hid hset
      have hor := or_high (gd mid (n - 1 - i)) r h1 (by omega)
      clear hset hsplit hpl hg
      generalize hcur : gd mid (n - 1 - i) + 4294967296 * r = cur at *
      have hcur2 : (cur : Int) ≤ 18446744073709551615 := by omega
      have hcur3 : (cur : Int) / (d : Int) ≤ 4294967295 := by
        have h := Int.ofNat_le.2 (Nat.le_of_lt_succ hq)
        exact h
      have hcur4 : (0 : Int) ≤ (cur : Int) / (d : Int) := Int.ediv_nonneg (by omega) (by omega)
      have HC := Lib.hid hcur
      clear hcur
      go_wp2
      go_roundw
      case rel =>
        refine ⟨i + 1, cur % d, _, by omega, Nat.mod_lt _ hd0, rfl, by go_num, HST.out, ?_, hon.set_ _ _, by simpa [World.setCell] using HSZ.out⟩
        have hs := HBK.out.set_i (n - 1 - i) (cur / d) (j := (cur : Int) / (d : Int)) rfl hq
        rw [HSET.out] at hs
        exact hs
      case measure => simp [intOf]; omega
    · obtain rfl : i = n := by omega
      have hv : Hid (val mid % d = r ∧ val q = val mid / d) := by
        have := HR.out.eq
        rw [Nat.sub_self, List.drop_zero] at this
        rw [← this]
        refine ⟨by rw [Nat.mul_add_mod, Nat.mod_eq_of_lt hr], ?_⟩
        rw [Nat.mul_add_div hd0, Nat.div_eq_of_lt hr, Nat.add_zero]
      go_wp2
      go_ret
      refine ⟨q, ret_int (by rw [hv.out.1]), by rw [HR.out.len, HM.out], hv.out.2, ?_, hon, HSZ.out⟩
      have := HBK.out
      rwa [Nat.sub_self, List.take_zero, List.nil_append] at this

/-- The block of a number shifted left. -/
structure ShlRel (x n q b i top : Nat) (lo hi : List Nat) : Prop where
  len : lo.length = q + i
  hilen : hi.length + i = n
  zero : hi = List.replicate hi.length 0
  tlt : top < 2 ^ b
  eq : val lo + pw (q + i) * top = pw q * (2 ^ b * val ((mag x).take i))

theorem shl_word {w b : Nat} (hw : w < 4294967296) (hb : b < 32) : w * 2 ^ b < 9223372036854775808 ∧ w * 2 ^ b / 4294967296 < 2 ^ b := by
  have h1 : w * 2 ^ b < 4294967296 * 2 ^ b := Nat.mul_lt_mul_of_pos_right hw (Nat.pow_pos (by omega))
  have h2 : 2 ^ b ≤ 2 ^ 31 := Nat.pow_le_pow_right (by omega) (by omega)
  refine ⟨by omega, ?_⟩
  rw [Nat.div_lt_iff_lt_mul (by omega), Nat.mul_comm (2 ^ b)]
  exact h1
theorem shl_or {w b top : Nat} (hb : b < 32) (ht : top < 2 ^ b) :
    top + w * 2 ^ b % 4294967296 < 4294967296 ∧ bits .or .u32 (top : Int) ((w * 2 ^ b : Nat) % 4294967296 : Int) = ((top + w * 2 ^ b % 4294967296 : Nat) : Int) := by
  have e : 4294967296 = 2 ^ b * 2 ^ (32 - b) := by rw [← Nat.pow_add, show b + (32 - b) = 32 by omega]
  have e2 : w * 2 ^ b % 4294967296 = 2 ^ b * (w % 2 ^ (32 - b)) := by
    rw [e, Nat.mul_comm w, Nat.mul_mod_mul_left]
  have h3 : w % 2 ^ (32 - b) < 2 ^ (32 - b) := Nat.mod_lt _ (Nat.pow_pos (by omega))
  have h4 : 2 ^ b * (w % 2 ^ (32 - b) + 1) ≤ 2 ^ b * 2 ^ (32 - b) := Nat.mul_le_mul_left _ h3
  rw [← e, Nat.mul_add] at h4
  have h5 : top + w * 2 ^ b % 4294967296 < 4294967296 := by omega
  refine ⟨h5, ?_⟩
  have e3 : ((w * 2 ^ b : Nat) % 4294967296 : Int) = ((w * 2 ^ b % 4294967296 : Nat) : Int) := by rw [Int.natCast_emod]; rfl
  rw [e3, u32_or_nat _ _ (by omega) (by omega), e2, Nat.or_comm, ← Nat.two_pow_add_eq_or_of_lt ht]
  omega

theorem ShlRel.step {x n q b i top : Nat} {lo hi : List Nat} (h : ShlRel x n q b i top lo hi) (hi2 : i < n) (hb : b < 32) :
    ∃ r, hi = 0 :: r ∧ ShlRel x n q b (i + 1) (gd (mag x) i * 2 ^ b / 4294967296) (lo ++ [top + gd (mag x) i * 2 ^ b % 4294967296]) r := by
  have h1 := h.hilen
  have hz := h.zero
  obtain ⟨p, hp⟩ : ∃ p, hi.length = p + 1 := ⟨hi.length - 1, by omega⟩
  rw [hp, List.replicate_succ] at hz
  refine ⟨List.replicate p 0, hz, ⟨by rw [List.length_append, h.len]; rfl, by simp; omega, by simp, (shl_word ((mag_wds x).getD i) hb).2, ?_⟩⟩
  have e1 := h.eq
  rw [val_snoc, h.len, ← Nat.add_assoc, pw_succ, val_take_succ]
  generalize hv : gd (mag x) i * 2 ^ b = t
  have e2 : pw (q + i) * (top + t % 4294967296) + 4294967296 * pw (q + i) * (t / 4294967296) = pw (q + i) * top + pw (q + i) * t := by
    rw [Nat.mul_comm 4294967296 (pw (q + i)), Nat.mul_assoc, ← Nat.mul_add, ← Nat.mul_add]
    congr 1; omega
  have e3 : pw (q + i) * t = pw q * (2 ^ b * (pw i * gd (mag x) i)) := by
    rw [← hv, pw_add, Nat.mul_assoc, Nat.mul_left_comm (2 ^ b), Nat.mul_comm (2 ^ b) (gd (mag x) i)]
  have e4 : pw q * (2 ^ b * (val ((mag x).take i) + pw i * gd (mag x) i)) = pw q * (2 ^ b * val ((mag x).take i)) + pw q * (2 ^ b * (pw i * gd (mag x) i)) := by rw [Nat.mul_add, Nat.mul_add]
  rw [e4]
  omega

theorem pw_two (q : Nat) : pw q = 2 ^ (32 * q) := by unfold pw; rw [Nat.pow_mul]

set_option maxHeartbeats 1000000 in
theorem shiftLeft_any (A : Option Addr) (n c x s : Nat) (z : Int) (w : World) (ha : Wd w A n (mag x)) (hn : n ≤ 100000000) (hs : s ≤ 100000000) (hz : z = s) :
    Calls Try.prog 128 #[.slice A n c, .int .i64 z] w (RetMg (x * 2 ^ s) w) := by
  have HA := Lib.hid ha
  clear ha
  obtain ⟨q, b, hb, rfl⟩ : ∃ q b, b < 32 ∧ s = 32 * q + b := ⟨s / 32, s % 32, by omega, by omega⟩
  have hz0 : 0 ≤ z := by omega
  have hz1 : z / 32 = (q : Int) := by omega
  have hz2 : z % 32 = (b : Int) := by omega
  have hmn : min b 64 = b := by omega
  have HZ := Lib.hid hz
  clear hz
  go_enter Try.func128, Try.ntmps128
  go_wp2_with (first
    | (refine wpList_make_blk rfl _ _ _ rfl Try.underlying22 u32_info _ _ _ _ (n + q + 1) rfl rfl (by omega) (by omega) (by omega) ?_
       intro w1 hb1 hs1 hbl1
       have HB1 := Lib.hid hb1
       have HS1 := Lib.hid hs1
       clear hb1 hs1))
  go_loopw [23] (fun t wr => ∃ i top : Nat, ∃ lo hi, i ≤ n ∧ t = .int .i64 i ∧ ShlRel x n q b i top lo hi ∧ Blk wr w.heap.size (lo ++ top :: hi) ∧ Below w.heap.size w wr)
      (fun t _ => n - (intOf t).toNat)
  case atStart => exact ⟨0, 0, List.replicate q 0, List.replicate n 0, Nat.zero_le _, rfl, ⟨by simp, by simp, by simp, Nat.pow_pos (by omega), by simp [val, val_replicate]⟩, by have := HB1.out; rw [show n + q + 1 = q + (n + 1) by omega, ← List.replicate_append_replicate, List.replicate_succ] at this; exact this, hbl1⟩
  case round =>
    obtain ⟨i, top, lo, hi, hi1, rfl, hrel, hblk, hbl⟩ := hrel
    have HR := Lib.hid hrel
    have HBK := Lib.hid hblk
    clear hrel hblk
    by_cases hlt : i < n
    · obtain ⟨ad, rfl, _, hca⟩ := (HA.out.below hbl).cell hlt
      have h1 := (mag_wds x).getD i
      have h2 := shl_word h1 hb
      obtain ⟨h3, hor⟩ := shl_or (w := gd (mag x) i) hb HR.out.tlt
      obtain ⟨r, hr, hstep⟩ := HR.out.step hlt hb
      subst hr
      have HST := Lib.hid hstep
      have hpl : lo.length = i + q := by rw [HR.out.len]; omega
      have hlen : (lo ++ top :: 0 :: r).length = n + q + 1 := by have := HR.out.hilen; simp [hpl] at this ⊢; omega
      have hcell := HBK.out.cell (i := i + q) (by omega)
      have hg : gd (lo ++ top :: 0 :: r) (i + q) = top := by rw [gd_eq, List.getElem?_append_right (by omega), hpl, Nat.sub_self]; rfl
      rw [hg] at hcell
      have hfro := HBK.out.frozen (i + q)
      have hcell2 := HBK.out.cell (i := i + q + 1) (by omega)
      have hg2 : gd (lo ++ top :: 0 :: r) (i + q + 1) = 0 := by rw [gd_eq, List.getElem?_append_right (by omega), hpl, show i + q + 1 - (i + q) = 1 by omega]; rfl
      rw [hg2] at hcell2
      have hfro2 := HBK.out.frozen (i + q + 1)
      have ht : (gd (mag x) i : Int) * 2 ^ b = ((gd (mag x) i * 2 ^ b : Nat) : Int) := by simp
      generalize hv : gd (mag x) i * 2 ^ b = t at *
      obtain ⟨h2, h4⟩ := h2
      have HV := Lib.hid hv
      have HPL := Lib.hid hpl
      have HLEN := Lib.hid hlen
      clear hstep hpl hlen hg hg2 hv
      go_wp2
      go_roundw
      case rel =>
        refine ⟨i + 1, t / 4294967296, lo ++ [top + t % 4294967296], r, by omega, by go_num, HST.out, ?_, (hbl.setCell (Nat.le_refl _) _).setCell (Nat.le_refl _) _⟩
        have hs := (HBK.out.set_i (i + q) (top + t % 4294967296) (j := ((top + t % 4294967296 : Nat) : Int)) rfl h3).set_i (i + q + 1) (t / 4294967296) (j := (t : Int) / 4294967296) rfl (by omega)
        rw [List.set_append_right _ _ (by rw [HPL.out]; omega), HPL.out, Nat.sub_self, List.set_cons_zero, List.set_append_right _ _ (by rw [HPL.out]; omega), HPL.out, show i + q + 1 - (i + q) = 1 by omega] at hs
        simpa using hs
      case measure => simp [intOf]; omega
    · obtain rfl : i = n := by omega
      have hz : hi = [] := List.eq_nil_of_length_eq_zero (by have := HR.out.hilen; omega)
      subst hz
      have hv : Hid (val (lo ++ [top]) = x * 2 ^ (32 * q + b)) := by
        have := HR.out.eq
        rw [val_take_all _ _ (by rw [HA.out.len]; omega), val_mag] at this
        unfold Hid
        rw [val_snoc, HR.out.len, this, Nat.pow_add, pw_two, ← Nat.mul_assoc, Nat.mul_comm]
      have hlen : Hid ((lo ++ [top]).length = i + q + 1) := by unfold Hid; rw [List.length_append, HR.out.len]; simp; omega
      go_wp2_with fail
      refine (trim_any _ (i + q + 1) (i + q + 1) (lo ++ [top]) _ (by have := HBK.out.whole; rwa [hlen.out] at this) (by omega) (by omega)).mono ?_
      rintro e w' ⟨p, hp, rfl, ht, rfl⟩
      have HT := Lib.hid ht
      clear ht
      go_wp2
      go_ret
      have h1 := HBK.out.whole.mg (c := i + q + 1) hp (by rw [hlen.out]; omega) (by omega) HT.out
      rw [hv.out] at h1
      exact ⟨_, rfl, h1, hbl⟩

end Go.Proofs.Ytpklphdhigkmmaa
