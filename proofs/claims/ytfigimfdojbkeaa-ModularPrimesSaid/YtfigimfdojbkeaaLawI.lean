/-
  Contracts of the reference's taken, compared, number, euclid.
  Contracts of the reference's guess, lessen, restore.
  Contracts of the reference's divided and common.
  Contracts of the reference's Add, Sub, Mul, Neg, Abs, Cmp.
  Contracts of the reference's DivMod, Gcd, Small, Bits.
  Contracts of the reference's Small, Bits, power, Pow.
  Contracts of the reference's power, Pow, Root.
  Contract of the reference's Root.
  Contract of the reference's Text.
  The reference's Bezout for a second number 0; cofactors are unique.
  The reference's Bezout for a second number other than 0.
  The program and the reference: one contract for both.
  The law IntegerMatchesReference: numbers, same3.
-/
import Derived.Test.YtfigimfdojbkeaaRefD
import Derived.Test.YtfigimfdojbkeaaDivide
import Derived.Test.YtfigimfdojbkeaaIntA
import Derived.Test.YtfigimfdojbkeaaLawE
import Derived.Test.YtfigimfdojbkeaaTextQ
import Derived.Test.YtfigimfdojbkeaaIntC
import Derived.Test.YtfigimfdojbkeaaLehF
import Derived.Deep.LoopGhost
import Derived.Deep.DeepCutAuto
import Derived.Handy
set_option linter.unusedSimpArgs false
set_option linter.unusedVariables false
section
namespace Go.Proofs.Ytfigimfdojbkeaa
open Go.RowKit
attribute [local go_sem ↓] Go.wp_at_zero Go.wp_at_succ

theorem dn2 (w : World) (a b : Nat) : ∃ k, (w.drewN a).drewN b = w.drewN k := ⟨_, World.drewN_drewN _ _ _⟩
theorem dn3 (w : World) (a b c : Nat) : ∃ k, ((w.drewN a).drewN b).drewN c = w.drewN k := ⟨a + b + c, by simp only [World.drewN_drewN]⟩
theorem tk_hi {a b bo : Nat} (ha : a < 4294967296) (hb : b < 4294967296) (hbo : bo ≤ 1) : (1 : Int) - (4294967296 + (a : Int) - (b : Int) - (bo : Int)) / 4294967296 = ((bw a b bo : Nat) : Int) := by unfold bw; split <;> omega
theorem tk_lo {a b bo : Nat} (ha : a < 4294967296) (hb : b < 4294967296) (hbo : bo ≤ 1) : (4294967296 + (a : Int) - (b : Int) - (bo : Int)) % 4294967296 = ((dw a b bo : Nat) : Int) := by unfold dw; omega

set_option maxHeartbeats 1000000 in
theorem rtaken_any (A B : Option Addr) (n m c d x y : Nat) (w : World) (ha : Wd w A n (mag x)) (hb : Wd w B m (mag y)) (hn : n ≤ 1000000000) (hm : m ≤ 1000000000) (hxy : y ≤ x) :
    Calls Try.prog 101 #[.slice A n c, .slice B m d] w (RetMg (x - y) w) := by
  have HA := Lib.hid ha
  have HB := Lib.hid hb
  clear ha hb
  go_enter Try.func101, Try.ntmps101
  go_wp2_with (first
    | (refine wpList_make_blk rfl _ _ _ rfl Try.underlying22 u32_info _ _ _ _ n rfl rfl rfl rfl (by omega) ?_
       intro w1 hb1 hs1 hbl1
       have HB1 := Lib.hid hb1
       clear hb1 hs1))
  go_loopw [6, 7] (fun cy t wr => ∃ k bo : Nat, ∃ out, k ≤ n ∧ bo ≤ 1 ∧ cy = .int .u64 bo ∧ t = .int .i64 k ∧ MinusRel x y n k bo out ∧ Blk wr w.heap.size out ∧ Below w.heap.size w wr)
      (fun _ t _ => n - (intOf t).toNat)
  case atStart => exact ⟨0, 0, List.replicate n 0, Nat.zero_le _, by omega, rfl, rfl, ⟨by simp, by omega, by simp [val, pw_zero]⟩, HB1.out, hbl1⟩
  case round =>
    obtain ⟨k, bo, out, hk, hbo, rfl, rfl, hrel, hblk, hbl⟩ := hrel
    have HR := Lib.hid hrel
    have HBK := Lib.hid hblk
    clear hrel hblk
    by_cases hlt : k < n
    · have h1 := (mag_wds x).getD k
      have h2 := (mag_wds y).getD k
      obtain ⟨ad, rfl, _, hca⟩ := (HA.out.below hbl).cell hlt
      have i0 : (0 : Int) ≤ (k : Int) := by omega
      have i1 : (k : Int) < n := by omega
      have hcell := HBK.out.cell (i := k) (by rw [HR.out.1]; omega)
      have hfro := HBK.out.frozen k
      go_wp2
      go_quiet ((go_at_call 146; exact quiet_left (rword_any B m d (mag y) k _ ((HB.out.below hbl).drewN _) (by omega) (by omega))))
      go_wp2
      refine ⟨⟨k + 1, _, _, by omega, bw_le _ _ _, by rw [tk_hi h1 h2 hbo], by go_num, HR.out.step hlt, (HBK.out.drewN _).set_i k _ (tk_lo h1 h2 hbo) (dw_lt _ _ _), Below.setCell (p := ⟨w.heap.size, k, none⟩) (below_drewN hbl _) (Nat.le_refl _) _⟩, ?_⟩
      simp [intOf]; omega
    · obtain rfl : k = n := by omega
      have hd := Lib.hid (HR.out.done HBK.out.2 HA.out.len hxy)
      have hlen := Lib.hid HR.out.1
      go_wp2_with fail
      refine (rtrim_any _ k k out _ (by have := HBK.out.whole; rwa [hlen.out] at this) (by omega) (by omega)).mono ?_
      rintro e w' ⟨q, hq, rfl, ht, rfl⟩
      have HT := Lib.hid ht
      clear ht
      go_wp2
      go_ret
      have h1 := HBK.out.whole.mg (c := k) hq (by rw [hlen.out]; omega) (by omega) HT.out
      rw [hd.out] at h1
      exact ⟨_, rfl, h1, hbl⟩

set_option maxHeartbeats 1000000 in
theorem rcompared_any (A B : Option Addr) (n m c d x y : Nat) (w : World) (ha : Wd w A n (mag x)) (hb : Wd w B m (mag y)) (hn : n ≤ 1099511627776) (hm : m ≤ 1099511627776) :
    Calls Try.prog 110 #[.slice A n c, .slice B m d] w fun e w' => e = .returned (.int .i64 (cmpN x y)) ∧ ∃ q, w' = w.drewN q := by
  have HA := Lib.hid ha
  have HB := Lib.hid hb
  clear ha hb
  by_cases hnm : n = m
  · subst hnm
    have ht : ¬ ((n : Int) < (n : Int)) := by omega
    go_enter Try.func110, Try.ntmps110
    go_wp2
    go_loopw [5] (fun t wr => ∃ k q : Nat, k ≤ n ∧ t = .int .i64 ((n : Int) - 1 - k) ∧ wr = w.drewN q ∧ SameFrom (mag x) (mag y) n k) (fun t _ => (intOf t + 1).toNat)
    case atStart => exact ⟨0, 0, Nat.zero_le _, by simp, rfl, fun j h1 h2 => by omega⟩
    case round =>
      obtain ⟨k, q, hk, rfl, rfl, hs⟩ := hrel
      have HS := Lib.hid hs
      clear hs
      by_cases hlt : k < n
      · obtain ⟨ad, rfl, _, hca⟩ := HA.out.cell (show n - 1 - k < n by omega)
        obtain ⟨bd, rfl, _, hcb⟩ := HB.out.cell (show n - 1 - k < n by omega)
        have i0 : (0 : Int) ≤ (n : Int) - 1 - k := by omega
        have i1 : (n : Int) - 1 - k < n := by omega
        have i2 : ((n : Int) - 1 - k).toNat = n - 1 - k := by omega
        have i3 : (1 : Int) + k ≤ n := by omega
        have h3 : gd (mag x) (n - 1 - k) < gd (mag y) (n - 1 - k) → Hid (cmpN x y = -1) := fun h =>
          cmpN_lt (by
            have := less_at (mag_wds x) HA.out.len HB.out.len (show n - 1 - k < n by omega) (fun j h1 h2 => HS.out j (by omega) h2) h
            rwa [val_mag, val_mag] at this)
        have h4 : gd (mag y) (n - 1 - k) < gd (mag x) (n - 1 - k) → Hid (cmpN x y = 1) := fun h =>
          cmpN_gt (by
            have := less_at (mag_wds y) HB.out.len HA.out.len (show n - 1 - k < n by omega) (fun j h1 h2 => (HS.out j (by omega) h2).symm) h
            rwa [val_mag, val_mag] at this)
        rcases Nat.lt_trichotomy (gd (mag x) (n - 1 - k)) (gd (mag y) (n - 1 - k)) with h5 | h5 | h5
        · have h6 := h3 h5
          clear h3 h4
          go_wp2
          go_quiet (fail)
          go_wp2
          go_ret
          exact ⟨by rw [h6.out]; rfl, by first | exact dn2 _ _ _ | exact dn3 _ _ _ _⟩
        · have h7 : Hid (SameFrom (mag x) (mag y) n (k + 1)) := fun j h1 h2 => by
            by_cases e : j = n - 1 - k
            · rw [e]; exact h5
            · exact HS.out j (by omega) h2
          have h8 : ¬ gd (mag x) (n - 1 - k) < gd (mag y) (n - 1 - k) := by omega
          have h9 : ¬ gd (mag y) (n - 1 - k) < gd (mag x) (n - 1 - k) := by omega
          clear h3 h4 h5
          go_wp2
          go_quiet (fail)
          go_wp2
          go_quiet (fail)
          go_wp2
          go_roundw
          case rel => exact ⟨k + 1, _, by omega, by go_num, rfl, h7⟩
          case measure => simp [intOf]; omega
        · have h6 := h4 h5
          have h8 : ¬ gd (mag x) (n - 1 - k) < gd (mag y) (n - 1 - k) := by omega
          clear h3 h4
          go_wp2
          go_quiet (fail)
          go_wp2
          go_quiet (fail)
          go_wp2
          go_ret
          exact ⟨by rw [h6.out]; rfl, by first | exact dn2 _ _ _ | exact dn3 _ _ _ _⟩
      · have hge : (n : Int) - 1 - k ≤ -1 := by omega
        have hx : Hid (cmpN x y = 0) := cmpN_eq (by
          have := drop_same (p := 0) HA.out.len HB.out.len (fun j _ h2 => HS.out j (by omega) h2)
          exact mag_inj (by simpa using this))
        go_wp2
        go_ret
        exact ⟨by rw [hx.out]; rfl, _, rfl⟩
  · rcases Nat.lt_or_gt_of_ne hnm with h1 | h1
    · have hx : Hid (cmpN x y = -1) := cmpN_lt (mag_lt_of_length (by rw [HA.out.len, HB.out.len]; exact h1))
      have h2 : (n : Int) < m := by omega
      clear hnm h1
      go_enter Try.func110, Try.ntmps110
      go_wp2
      go_ret
      exact ⟨by rw [hx.out]; rfl, 0, rfl⟩
    · have hx : Hid (cmpN x y = 1) := cmpN_gt (mag_lt_of_length (by rw [HA.out.len, HB.out.len]; exact h1))
      have h2 : ¬ (n : Int) < m := by omega
      have h3 : (m : Int) < n := by omega
      clear hnm h1
      go_enter Try.func110, Try.ntmps110
      go_wp2
      go_ret
      exact ⟨by rw [hx.out]; rfl, 0, rfl⟩

set_option maxHeartbeats 400000 in
theorem rnumber_any (A : Option Addr) (n c : Nat) (ws : List Nat) (w : World) (h : Wd w A n ws) (hn : n ≤ 1099511627776) :
    Calls Try.prog 150 #[.slice A n c] w fun e w' => e = .returned (.int .u64 (gd ws 0 + 4294967296 * gd ws 1 : Nat)) ∧ w = w' := by
  have h0 := h.wds.getD 0
  have h1 := h.wds.getD 1
  have H := Lib.hid h
  clear h
  go_enter Try.func150, Try.ntmps150
  go_wp2_with fail
  refine (rword_any A n c ws 1 w H.out hn (by omega)).mono ?_
  rintro e w' ⟨rfl, rfl⟩
  go_wp2_with fail
  refine (rword_any A n c ws 0 w H.out hn (by omega)).mono ?_
  rintro e w' ⟨rfl, rfl⟩
  go_wp2
  go_ret
  exact ⟨ret_u64 (by show _ = ((gd ws 0 + 4294967296 * gd ws 1 : Nat) : Int); omega), rfl⟩

set_option maxHeartbeats 400000 in
theorem reuclid_any (x y : Nat) (w : World) (hx : x < 18446744073709551616) (hy : y < 18446744073709551616) :
    Calls Try.prog 149 #[.int .u64 x, .int .u64 y] w fun e w' => e = .returned (.int .u64 (Nat.gcd x y : Nat)) ∧ w = w' := by
  go_enter Try.func149, Try.ntmps149
  go_wp2
  go_loop [0, 1] (fun u v => ∃ p q : Nat, u = .int .u64 p ∧ v = .int .u64 q ∧ p < 18446744073709551616 ∧ q < 18446744073709551616 ∧ Hid (Nat.gcd p q = Nat.gcd x y)) (fun _ v => (intOf v).toNat)
  case atStart => exact ⟨x, y, rfl, rfl, hx, hy, rfl⟩
  case round =>
    obtain ⟨p, q, rfl, rfl, hp, hq, hG⟩ := hrel
    by_cases h0 : q = 0
    · subst h0
      have e : Hid (p = Nat.gcd x y) := by have := hG.out; rwa [Nat.gcd_zero_right] at this
      go_wp2
      go_ret
      exact ⟨ret_u64 (by rw [← e.out]), rfl⟩
    · have n1 : ((q : Int) == 0) = false := by simp; omega
      have n2 : (1 : Int) ≤ (q : Int) := by omega
      have n4 : p % q < q := Nat.mod_lt _ (by omega)
      have n6 : ((p : Int) % (q : Int)) = ((p % q : Nat) : Int) := rfl
      have n7 : (p : Int).tmod (q : Int) = ((p % q : Nat) : Int) := rfl
      have hG2 : Hid (Nat.gcd q (p % q) = Nat.gcd x y) := by show Nat.gcd q (p % q) = _; rw [Nat.gcd_comm q, ← Nat.gcd_rec, Nat.gcd_comm]; exact hG.out
      generalize hrr : p % q = rr at *
      clear hrr
      go_wp2
      go_round
      case rel => exact ⟨q, rr, rfl, rfl, hq, by omega, hG2⟩
      case measure => simp [intOf]; omega

/-- A division by a word, from the top, into memory of its own. -/
def RetShort (x d : Nat) (w : World) (e : Ending) (w' : World) : Prop := ∃ v, e = .returned (.tuple #[v, .int .u64 (x % d : Nat)]) ∧ Mg w' v (x / d) ∧ Below w.heap.size w w'

set_option maxHeartbeats 1000000 in
theorem rshortly_any (A : Option Addr) (n c d : Nat) (ws : List Nat) (w : World) (ha : Wd w A n ws) (hn : n ≤ 1000000000) (hd0 : 0 < d) (hd : d < 4294967296) :
    Calls Try.prog 142 #[.slice A n c, .int .u64 d] w (RetShort (val ws) d w) := by
  have HA := Lib.hid ha
  have HM := Lib.hid ha.len
  clear ha
  have hz : ((d : Int) == 0) = false := by simp; omega
  go_enter Try.func142, Try.ntmps142
  go_wp2_with (first
    | (refine wpList_make_blk rfl _ _ _ rfl Try.underlying22 u32_info _ _ _ _ n rfl rfl rfl rfl (by omega) ?_
       intro w1 hb1 hs1 hbl1
       have HB1 := Lib.hid hb1
       clear hb1 hs1))
  go_loopw [7, 8] (fun cy t wr => ∃ i r : Nat, ∃ q, i ≤ n ∧ r < d ∧ cy = .int .u64 r ∧ t = .int .i64 ((n : Int) - 1 - i) ∧ DbwRel ws n d i r q ∧ Blk wr w.heap.size (List.replicate (n - i) 0 ++ q) ∧ Below w.heap.size w wr)
      (fun _ t _ => (intOf t + 1).toNat)
  case atStart => exact ⟨0, 0, [], Nat.zero_le _, hd0, rfl, by simp, ⟨rfl, Wds.nil, hd0, by rw [Nat.sub_zero, List.drop_of_length_le (by rw [HM.out]; omega)]; rfl⟩, by rw [Nat.sub_zero, List.append_nil]; exact HB1.out, hbl1⟩
  case round =>
    obtain ⟨i, r, q, hi, hr, rfl, rfl, hrel, hblk, hbl⟩ := hrel
    have HBK := Lib.hid hblk
    have HR := Lib.hid hrel
    clear hblk hrel
    by_cases hlt : i < n
    · obtain ⟨hq, hstep⟩ := HR.out.step HM.out hlt HA.out.wds
      have HST := Lib.hid hstep
      clear hstep
      obtain ⟨ad, rfl, _, hca⟩ := (HA.out.below hbl).cell (show n - 1 - i < n by omega)
      have h1 : gd ws (n - 1 - i) < 4294967296 := HA.out.wds.getD _
      have i0 : (0 : Int) ≤ (n : Int) - 1 - i := by omega
      have i1 : (n : Int) - 1 - i < n := by omega
      have i2 : ((n : Int) - 1 - i).toNat = n - 1 - i := by omega
      have i3 : (1 : Int) + i ≤ n := by omega
      have hsplit : List.replicate (n - i) 0 = List.replicate (n - 1 - i) 0 ++ [0] := by rw [show n - i = (n - 1 - i) + 1 by omega, List.replicate_succ']
      have hcell := HBK.out.cell (i := n - 1 - i) (by simp; omega)
      have hfro := HBK.out.frozen (n - 1 - i)
      have hset : ∀ v : Nat, (List.replicate (n - i) 0 ++ q).set (n - 1 - i) v = List.replicate (n - (i + 1)) 0 ++ (v :: q) := by
        intro v
        rw [hsplit, List.append_assoc, List.set_append_right _ _ (by simp), List.length_replicate, Nat.sub_self, show n - (i + 1) = n - 1 - i by omega]
        rfl
      have HSET := Lib.hid hset
      clear hset hsplit
      have hcc : (r : Int) * 4294967296 + (gd ws (n - 1 - i) : Int) = ((gd ws (n - 1 - i) + 4294967296 * r : Nat) : Int) := by omega
      generalize hcur : gd ws (n - 1 - i) + 4294967296 * r = cur at *
      have hcur2 : (cur : Int) ≤ 18446744073709551615 := by omega
      have hcur3 : (cur : Int) / (d : Int) ≤ 4294967295 := by
        have h := Int.ofNat_le.2 (Nat.le_of_lt_succ hq)
        exact h
      have hcur4 : (0 : Int) ≤ (cur : Int) / (d : Int) := Int.ediv_nonneg (by omega) (by omega)
      have HC := Lib.hid hcur
      clear hcur
      go_wp2
      refine ⟨⟨i + 1, cur % d, _, by omega, Nat.mod_lt _ hd0, rfl, by simp only [Value.int.injEq, true_and]; omega, HST.out, ?_, hbl.setCell (Nat.le_refl _) _⟩, by simp only [intOf]; omega⟩
      have hs := HBK.out.set_i (n - 1 - i) (cur / d) (j := (cur : Int) / (d : Int)) rfl hq
      rw [HSET.out] at hs
      exact hs
    · obtain rfl : i = n := by omega
      have hge : (i : Int) - 1 - i ≤ -1 := by omega
      have hv : Hid (val ws % d = r ∧ val q = val ws / d) := by
        have := HR.out.eq
        rw [Nat.sub_self, List.drop_zero] at this
        rw [← this]
        refine ⟨by rw [Nat.mul_add_mod, Nat.mod_eq_of_lt hr], ?_⟩
        rw [Nat.mul_add_div hd0, Nat.div_eq_of_lt hr, Nat.add_zero]
      have hlen := Lib.hid HR.out.len
      have hbk2 : Blk wr w.heap.size q := by have := HBK.out; rwa [Nat.sub_self, List.replicate_zero, List.nil_append] at this
      have HB2 := Lib.hid hbk2
      clear hbk2
      go_wp2_with fail
      refine (rtrim_any _ i i q _ (by have := HB2.out.whole; rwa [hlen.out] at this) (by omega) (by omega)).mono ?_
      rintro e w' ⟨k, hk, rfl, ht, rfl⟩
      have HT := Lib.hid ht
      clear ht
      go_wp2
      go_ret2
      have h1 := HB2.out.whole.mg (c := i) hk (by rw [hlen.out]; omega) (by omega) HT.out
      rw [hv.out.2] at h1
      exact ⟨_, by rw [hv.out.1]; rfl, h1, hbl⟩
end Go.Proofs.Ytfigimfdojbkeaa
end

section
namespace Go.Proofs.Ytfigimfdojbkeaa
open Go.RowKit
attribute [local go_sem ↓] Go.wp_at_zero Go.wp_at_succ

def RetGuess (mid vs : List Nat) (w : World) (e : Ending) (w' : World) : Prop :=
  ∃ gs k : Nat, e = .returned (.int .u64 gs) ∧ val mid / val vs ≤ gs ∧ gs ≤ val mid / val vs + 1 ∧ gs ≤ 4294967295 ∧ w' = w.drewN k

set_option maxHeartbeats 2000000 in
set_option maxRecDepth 100000 in
theorem rguess_any (U A : Option Addr) (p c d : Nat) (mid vs : List Nat) (w : World) (hu : Wd w U (p + 3) mid) (ha : Wd w A (p + 2) vs) (hm : p ≤ 100000000) (htop : 2147483648 ≤ gd vs (p + 1)) (hq : val mid < 4294967296 * val vs) :
    Calls Try.prog 143 #[.slice U (p + 3) c, .slice A (p + 2) d] w (RetGuess mid vs w) := by
  have HQ := Lib.hid hq
  have wv := ha.wds
  have wm := hu.wds
  have hvl := ha.len
  have hml := hu.len
  obtain ⟨vb, vo, rfl, _, hca⟩ := ha.cells (by omega)
  obtain ⟨ub, uo, rfl, _, hcu⟩ := hu.cells (by omega)
  have c1 := hca (p + 1) (by omega)
  have c0 := hca p (by omega)
  have d2 := hcu (p + 2) (by omega)
  have d1 := hcu (p + 1) (by omega)
  have d0 := hcu p (by omega)
  have b2 := wm.getD (p + 2)
  have b1 := wm.getD (p + 1)
  have b0 := wm.getD p
  have a1 := wv.getD (p + 1)
  have a0 := wv.getD p
  have hstart := Lib.hid (Guess.start hml hvl wm (by omega))
  have hub := Lib.hid (top_le hml hvl wv hq)
  have HML := Lib.hid hml
  have HVL := Lib.hid hvl
  clear hu ha hq hca hcu hvl hml
  generalize hu2 : gd mid (p + 2) = u2 at *
  generalize hu1 : gd mid (p + 1) = u1 at *
  generalize hu0 : gd mid p = u0 at *
  generalize hv1 : gd vs (p + 1) = v1 at *
  generalize hv0 : gd vs p = v0 at *
  have HU2 := Lib.hid hu2
  have HU1 := Lib.hid hu1
  have HU0 := Lib.hid hu0
  have HV1 := Lib.hid hv1
  have HV0 := Lib.hid hv0
  have htI : (u2 : Int) * 4294967296 + (u1 : Int) = ((u1 + 4294967296 * u2 : Nat) : Int) := by omega
  generalize htp : u1 + 4294967296 * u2 = tp at *
  have htb : tp < 18446744073709551616 := by omega
  have HTP := Lib.hid htp
  clear hu2 hu1 hu0 hv1 hv0 htp
  have n1 : ((v1 : Int) == 0) = false := by simp; omega
  have n2 : (1 : Int) ≤ (v1 : Int) := by omega
  have n3 : (v1 : Int) ≤ 4294967295 := by omega
  have n4 : (tp : Int) ≤ 18446744073709551615 := by omega
  have i0 : (0 : Int) ≤ (p : Int) + 1 := by omega
  have i1 : (p : Int) + 1 < (p : Int) + 2 := by omega
  have i2 : (p : Int) < (p : Int) + 2 := by omega
  have i3 : (p : Int) + 1 < (p : Int) + 3 := by omega
  have i4 : (p : Int) < (p : Int) + 3 := by omega
  have i5 : (p : Int) + 2 < (p : Int) + 3 := by omega
  have i6 : (0 : Int) ≤ (p : Int) + 2 := by omega
  have i7 : ((p : Int) + 1).toNat = p + 1 := by omega
  have i8 : ((p : Int) + 2).toNat = p + 2 := by omega
  have i9 : IntKind.i64.wrap ((p : Int) + 2 - 1) = (p : Int) + 1 := by rw [IntWalk.i64_in _ (by omega)]; omega
  have i10 : IntKind.i64.wrap ((p : Int) + 2 - 2) = (p : Int) := by rw [IntWalk.i64_in _ (by omega)]; omega
  go_enter Try.func143, Try.ntmps143
  go_wp2
  go_quiet (fail)
  go_wp2
  go_loopw [7, 8] (fun a b wr => ∃ gs rs k : Nat, rs ≤ 4294967295 ∧ gs ≤ 4294967297 ∧ a = .int .u64 gs ∧ b = .int .u64 rs ∧ wr = w.drewN k ∧ Guess mid vs p gs rs) (fun a _ _ => (intOf a).toNat)
  case atStart =>
    have h1 := hstart.out
    have h2 := h1.le wm (by rw [HU2.out, HV1.out]; exact hub.out) (by rw [HV1.out]; exact htop)
    have h3 : tp % v1 < v1 := Nat.mod_lt _ (by omega)
    exact ⟨tp / v1, tp % v1, _, by omega, h2, by rw [IntWalk.u64_in _ ⟨Int.ediv_nonneg (by omega) (by omega), by rw [← Int.natCast_ediv]; omega⟩]; rfl, rfl, rfl, h1⟩
  case round =>
    obtain ⟨gs, rs, k, hrs, hgs, rfl, rfl, rfl, hG⟩ := hrel
    have HG := Lib.hid hG
    clear hG
    have hP : ∃ P : Nat, P ≤ 18446744073709551615 ∧ Hid (P = gs * v0) ∧ (gs : Int) * (v0 : Int) = (P : Int) := ⟨gs * v0, by
      have : gs * v0 ≤ 4294967297 * 4294967295 := Nat.mul_le_mul hgs (by omega)
      omega, rfl, by rw [Int.natCast_mul]⟩
    obtain ⟨P, hP1, HP, hP2⟩ := hP
    have hR : ∃ R : Nat, R ≤ 18446744073709551615 ∧ Hid (R = u0 + 4294967296 * rs) ∧ (rs : Int) * 4294967296 + (u0 : Int) = (R : Int) := ⟨u0 + 4294967296 * rs, by omega, rfl, by omega⟩
    obtain ⟨R, hR1, HR, hR2⟩ := hR
    have w1 : IntKind.u64.wrap (P : Int) = (P : Int) := IntWalk.u64_in _ (by omega)
    have w2 : IntKind.u64.wrap ((rs : Int) * 4294967296) = (rs : Int) * 4294967296 := IntWalk.u64_in _ (by omega)
    have w3 : IntKind.u64.wrap (R : Int) = (R : Int) := IntWalk.u64_in _ (by omega)
    by_cases hdec : 4294967295 < gs ∨ R < P
    · obtain ⟨g1, hg1⟩ : ∃ g1, gs = g1 + 1 := ⟨gs - 1, by
        rcases hdec with h | h
        · omega
        · rcases Nat.eq_zero_or_pos gs with e | e
          · rw [HP.out, e] at h; omega
          · omega⟩
      have hg1e : (gs : Int) - 1 = (g1 : Int) := by omega
      have hge : 1 ≤ gs := by omega
      have hG2 := Lib.hid ((show Guess mid vs p (g1 + 1) rs by rw [← hg1]; exact HG.out).less HML.out HVL.out wm (by rw [HV1.out]; omega) HQ.out (by rw [HV0.out, HU0.out, ← hg1, ← HP.out, ← HR.out]; exact hdec))
      rw [HV1.out] at hG2
      have HG1 := Lib.hid hg1
      have hg1b : g1 ≤ 4294967296 := by omega
      clear hg1
      by_cases hga : 4294967295 < gs
      · have hgI : (4294967296 : Int) ≤ (gs : Int) := by omega
        clear hdec
        by_cases hbrk : 4294967295 < rs + v1
        · have hg1 := hG2.out.brk wm (by rw [HU2.out, HV1.out]; exact hub.out) hbrk
          have hout := Lib.hid (hG2.out.out HML.out HVL.out wv (by rw [HV1.out]; omega) hg1 (.inr hbrk))
          have hbI : (4294967296 : Int) ≤ (rs : Int) + (v1 : Int) := by omega
          clear hbrk
          go_wp2_with fail
          go_quiet (fail)
          go_wp2
          go_ret
          exact ⟨g1, by simpa using ⟨hout.out.1, hout.out.2, hg1, ⟨_, rfl⟩⟩⟩
        · have hbI : decide ((4294967296 : Int) ≤ (rs : Int) + (v1 : Int)) = false := by rw [decide_eq_false_iff_not]; omega
          go_wp2_with fail
          go_quiet (fail)
          go_wp2
          refine ⟨⟨g1, rs + v1, _, by omega, by omega, rfl, by go_num, rfl, hG2.out⟩, ?_⟩
          have := HG1.out
          simp [intOf]; omega
      · have hRP : R < P := by omega
        have hgI : decide ((4294967296 : Int) ≤ (gs : Int)) = false := by rw [decide_eq_false_iff_not]; omega
        have hRI : (R : Int) < (P : Int) := by omega
        clear hdec
        by_cases hbrk : 4294967295 < rs + v1
        · have hg1 := hG2.out.brk wm (by rw [HU2.out, HV1.out]; exact hub.out) hbrk
          have hout := Lib.hid (hG2.out.out HML.out HVL.out wv (by rw [HV1.out]; omega) hg1 (.inr hbrk))
          have hbI : (4294967296 : Int) ≤ (rs : Int) + (v1 : Int) := by omega
          clear hbrk
          go_wp2_with fail
          go_quiet (fail)
          go_wp2
          go_ret
          exact ⟨g1, by simpa using ⟨hout.out.1, hout.out.2, hg1, ⟨_, rfl⟩⟩⟩
        · have hbI : decide ((4294967296 : Int) ≤ (rs : Int) + (v1 : Int)) = false := by rw [decide_eq_false_iff_not]; omega
          go_wp2_with fail
          go_quiet (fail)
          go_wp2
          refine ⟨⟨g1, rs + v1, _, by omega, by omega, rfl, by go_num, rfl, hG2.out⟩, ?_⟩
          have := HG1.out
          simp [intOf]; omega
    · have hle : gs ≤ 4294967295 := by omega
      have hle2 : P ≤ R := by omega
      have hout := Lib.hid (HG.out.out HML.out HVL.out wv (by rw [HV1.out]; omega) hle (.inl (by rw [HV0.out, HU0.out, ← HP.out, ← HR.out]; exact hle2)))
      have hgI : decide ((4294967296 : Int) ≤ (gs : Int)) = false := by rw [decide_eq_false_iff_not]; omega
      have hRI : decide ((R : Int) < (P : Int)) = false := by rw [decide_eq_false_iff_not]; omega
      clear hdec
      go_wp2_with fail
      go_quiet (fail)
      go_wp2
      go_ret
      exact ⟨gs, by simpa using ⟨hout.out.1, hout.out.2, hle, ⟨_, rfl⟩⟩⟩

theorem only_draws {g : Nat} {a w : World} (h : Only g a w) (n : Nat) : Only g a (w.drewN n) := ⟨h.os, h.tape, h.output, h.size, h.block⟩
theorem tk_hi' {a s bo : Nat} (ha : a < 4294967296) (hbo : bo ≤ 1) : (1 : Int) - (4294967296 + (a : Int) - (s : Int) % 4294967296 - (bo : Int)) / 4294967296 = ((bw a (s % 4294967296) bo : Nat) : Int) := by unfold bw; split <;> omega
theorem tk_lo' {a s bo : Nat} (ha : a < 4294967296) (hbo : bo ≤ 1) : (4294967296 + (a : Int) - (s : Int) % 4294967296 - (bo : Int)) % 4294967296 = ((dw a (s % 4294967296) bo : Nat) : Int) := by unfold dw; omega

set_option maxHeartbeats 1000000 in
theorem rlessen_any (g o : Nat) (pre mid post : List Nat) (A : Option Addr) (n m c d wd : Nat) (vs : List Nat) (w : World) (hb : Blk w g (pre ++ mid ++ post)) (ho : pre.length = o) (hmid : mid.length = m)
    (ha : Wd w A n vs) (hne : ∀ ad, A = some ad → 0 < n → ad.block ≠ g) (hnm : n + 1 = m) (hm : m ≤ 1000000000) (hwd : wd < 4294967296) :
    Calls Try.prog 144 #[.slice (some ⟨g, o, none⟩) m c, .slice A n d, .int .u64 wd] w (RetSub g pre mid post vs wd w) := by
  subst ho
  have HA := Lib.hid ha
  have HB := Lib.hid hb
  have HM := Lib.hid hmid
  have HN := Lib.hid hne
  have HNM := Lib.hid hnm
  have hn : n ≤ 1000000000 := by omega
  clear ha hb hmid hne hnm
  go_enter Try.func144, Try.ntmps144
  go_wp2
  go_loopw [7, 8, 9] (fun cy bb t wr => ∃ k carry bo : Nat, ∃ dn rest, k ≤ m ∧ carry < 4294967296 ∧ bo ≤ 1 ∧ cy = .int .u64 carry ∧ bb = .int .u64 bo ∧ t = .int .i64 k ∧ SubRel mid vs m wd k carry bo dn rest ∧ Blk wr g (pre ++ dn ++ (rest ++ post)) ∧ Only g w wr ∧ wr.heap.size = w.heap.size)
      (fun _ _ t _ => m - (intOf t).toNat)
  case atStart => exact ⟨0, 0, 0, [], mid, Nat.zero_le _, by omega, by omega, rfl, rfl, rfl, ⟨rfl, by simpa using HM.out, rfl, Wds.nil, by simp, by simp [val]⟩, by simpa using HB.out, Only.refl _ _, rfl⟩
  case round =>
    obtain ⟨k, carry, bo, dn, rest, hk, hcy, hbo, rfl, rfl, rfl, hrel, hblk, hon, hsz⟩ := hrel
    have HBK := Lib.hid hblk
    have HSZ := Lib.hid hsz
    clear hblk hsz
    by_cases hlt : k < m
    · obtain ⟨r, hr, hstep⟩ := hrel.step HM.out HB.out.2.left.right hlt hbo
      subst hr
      have HL := Lib.hid hrel.len
      have HST := Lib.hid hstep
      clear hrel hstep
      have h1 := HA.out.wds.getD k
      have hmul := mul_bound h1 hwd
      have hc1 : (wd : Int) * (gd vs k : Int) + (carry : Int) = ((carry + gd vs k * wd : Nat) : Int) := by rw [Int.natCast_add, Int.natCast_mul, Int.mul_comm, Int.add_comm]
      have hc3 : (wd : Int) * (gd vs k : Int) = ((gd vs k * wd : Nat) : Int) := by rw [Int.natCast_mul, Int.mul_comm]
      have hcell := HBK.out.cell (i := pre.length + k) (by simp [HL.out])
      rw [List.cons_append, gd_mid pre dn _ k HL.out, show gd (gd mid k :: (r ++ post)) 0 = gd mid k from rfl] at hcell
      have h2 : gd mid k < 4294967296 := HBK.out.2 _ (by simp)
      have hfro := HBK.out.frozen (pre.length + k)
      have HA2 := Lib.hid (HA.out.only hon HN.out)
      have hc0 : carry + gd vs k * wd < 18446744073709551616 := by omega
      have hc2 : (carry + gd vs k * wd) / 4294967296 < 4294967296 := by omega
      generalize hgw : gd vs k * wd = gw at *
      have hc4 : (gw : Int) + (carry : Int) = ((carry + gw : Nat) : Int) := by omega
      generalize hs : carry + gw = s at *
      have h3 : Hid ((1 : Int) - (4294967296 + (gd mid k : Int) - (s : Int) % 4294967296 - (bo : Int)) / 4294967296 = ((bw (gd mid k) (s % 4294967296) bo : Nat) : Int)) := tk_hi' h2 hbo
      have h4 : Hid ((4294967296 + (gd mid k : Int) - (s : Int) % 4294967296 - (bo : Int)) % 4294967296 = ((dw (gd mid k) (s % 4294967296) bo : Nat) : Int)) := tk_lo' h2 hbo
      clear hgw hs
      go_wp2_with fail
      refine (rword_any A n d vs k _ HA2.out (by omega) (by omega)).mono ?_
      rintro e w' ⟨rfl, rfl⟩
      rw [Int.toNat_natCast]
      go_wp2
      refine ⟨⟨k + 1, s / 4294967296, bw (gd mid k) (s % 4294967296) bo, dn ++ [dw (gd mid k) (s % 4294967296) bo], r, by omega, hc2, bw_le _ _ _, by go_num, by rw [h3.out], by go_num, HST.out, ?_, hon.set_ _ _, by simpa [World.setCell] using HSZ.out⟩, by simp [intOf]; omega⟩
      have hset := HBK.out.set_i (pre.length + k) (dw (gd mid k) (s % 4294967296) bo) h4.out (dw_lt _ _ _)
      rw [List.cons_append, set_mid pre dn (r ++ post) _ _ k HL.out] at hset
      exact hset
    · obtain rfl : k = m := by omega
      have HR := Lib.hid hrel
      clear hrel
      have hfin : Hid (val dn + val vs * wd = val mid + pw k * bo ∧ (bo = 1 ↔ val mid < val vs * wd)) := by
        have h1 := HR.out.eq
        have h2 := HR.out.hi
        have hmk : mid.length = k := HM.out
        have hnk := HNM.out
        rw [val_take_all _ _ (by rw [HA.out.len]; omega)] at h1 h2
        rw [val_take_all _ _ (by omega)] at h1
        have h3 := val_lt HA.out.wds
        rw [HA.out.len] at h3
        have h4 : val vs * wd < pw k := by
          rw [← HNM.out, pw_succ, Nat.mul_comm]
          exact Nat.lt_of_le_of_lt (Nat.mul_le_mul_right _ (Nat.le_of_lt hwd)) (Nat.mul_lt_mul_of_pos_left h3 (by omega))
        have h5 : carry = 0 := by
          rcases Nat.eq_zero_or_pos carry with e | e
          · exact e
          · have := Nat.mul_le_mul_left (pw k) e
            omega
        subst h5
        have h6 := val_lt HR.out.wds
        rw [HR.out.len] at h6
        rw [Nat.zero_add] at h1
        refine ⟨h1, ?_⟩
        rcases (show bo = 0 ∨ bo = 1 by omega) with rfl | rfl
        · simp at h1 ⊢; omega
        · simp at h1 ⊢; omega
      go_wp2
      go_ret
      obtain ⟨h1, h2⟩ := hfin.out
      have h3 : rest = [] := List.eq_nil_of_length_eq_zero (by have := HR.out.restlen; omega)
      subst h3
      refine ⟨dn, ?_, by rw [HR.out.len, HM.out], ?_, HBK.out, hon, HSZ.out⟩
      · have e : ((bo : Int) == 1) = decide (val mid < val vs * wd) := by
          rw [Bool.eq_iff_iff, beq_iff_eq, decide_eq_true_iff, ← h2]; omega
        rw [← e]; rfl
      · rw [h1, HM.out]
        split
        · rename_i h; rw [h2.2 h]; omega
        · rename_i h
          have : bo = 0 := by
            rcases (show bo = 0 ∨ bo = 1 by omega) with e | e
            · exact e
            · exact absurd (h2.1 e) h
          rw [this]; omega

structure RestRel (mid vs : List Nat) (m k carry : Nat) (dn rest : List Nat) : Prop where
  len : dn.length = k
  restlen : rest.length + k = m
  rest : rest = mid.drop k
  wds : Wds dn
  cy : carry ≤ 1
  eq : val dn + pw k * carry = val (mid.take k) + val (vs.take k)

theorem RestRel.step {mid vs : List Nat} {m k carry : Nat} {dn rest : List Nat} (h : RestRel mid vs m k carry dn rest) (hm : mid.length = m) (hw : Wds mid) (hv : Wds vs) (hk : k < m) :
    ∃ r, rest = gd mid k :: r ∧ RestRel mid vs m (k + 1) ((gd mid k + gd vs k + carry) / 4294967296) (dn ++ [(gd mid k + gd vs k + carry) % 4294967296]) r := by
  have e0 : mid.drop k = gd mid k :: mid.drop (k + 1) := by
    rw [List.drop_eq_getElem_cons (by omega), gd_eq, List.getElem?_eq_getElem (by omega)]; rfl
  have h1 := hw.getD k
  have h2 := hv.getD k
  have h3 := h.cy
  refine ⟨mid.drop (k + 1), by rw [h.rest, e0], ⟨by rw [List.length_append, h.len]; rfl, by rw [List.length_drop, hm]; omega, rfl, h.wds.append (Wds.cons (Nat.mod_lt _ (by omega)) Wds.nil), by omega, ?_⟩⟩
  rw [val_snoc, h.len, pw_succ, val_take_succ, val_take_succ]
  have e1 := h.eq
  generalize hs : gd mid k + gd vs k + carry = s at *
  have e2 : pw k * s = pw k * gd mid k + pw k * gd vs k + pw k * carry := by rw [← hs, Nat.mul_add, Nat.mul_add]
  have e3 : pw k * s = pw k * (s % 4294967296) + 4294967296 * pw k * (s / 4294967296) := by
    rw [Nat.mul_comm 4294967296 (pw k), Nat.mul_assoc, ← Nat.mul_add]; congr 1; omega
  omega

def RetRest (g : Nat) (pre mid post vs : List Nat) (w : World) (e : Ending) (w' : World) : Prop :=
  ∃ mid' : List Nat, e = .returned (.tuple #[]) ∧ mid'.length = mid.length ∧ val mid' = (val mid + val vs) % pw mid.length ∧ Blk w' g (pre ++ mid' ++ post) ∧ Only g w w' ∧ w'.heap.size = w.heap.size

set_option maxHeartbeats 1000000 in
theorem rrestore_any (g o : Nat) (pre mid post : List Nat) (A : Option Addr) (n m c d : Nat) (vs : List Nat) (w : World) (hb : Blk w g (pre ++ mid ++ post)) (ho : pre.length = o) (hmid : mid.length = m)
    (ha : Wd w A n vs) (hne : ∀ ad, A = some ad → 0 < n → ad.block ≠ g) (hnm : n ≤ m) (hm : m ≤ 1000000000) :
    Calls Try.prog 145 #[.slice (some ⟨g, o, none⟩) m c, .slice A n d] w (RetRest g pre mid post vs w) := by
  subst ho
  have HA := Lib.hid ha
  have HB := Lib.hid hb
  have HM := Lib.hid hmid
  have HN := Lib.hid hne
  have hn : n ≤ 1000000000 := by omega
  clear ha hb hmid hne
  go_enter Try.func145, Try.ntmps145
  go_wp2
  go_loopw [4, 5] (fun cy t wr => ∃ k carry : Nat, ∃ dn rest, k ≤ m ∧ carry ≤ 1 ∧ cy = .int .u64 carry ∧ t = .int .i64 k ∧ RestRel mid vs m k carry dn rest ∧ Blk wr g (pre ++ dn ++ (rest ++ post)) ∧ Only g w wr ∧ wr.heap.size = w.heap.size)
      (fun _ t _ => m - (intOf t).toNat)
  case atStart => exact ⟨0, 0, [], mid, Nat.zero_le _, by omega, rfl, rfl, ⟨rfl, by simpa using HM.out, rfl, Wds.nil, by omega, by simp [val, pw_zero]⟩, by simpa using HB.out, Only.refl _ _, rfl⟩
  case round =>
    obtain ⟨k, carry, dn, rest, hk, hcy, rfl, rfl, hrel, hblk, hon, hsz⟩ := hrel
    have HBK := Lib.hid hblk
    have HSZ := Lib.hid hsz
    clear hblk hsz
    by_cases hlt : k < m
    · obtain ⟨r, hr, hstep⟩ := hrel.step HM.out HB.out.2.left.right HA.out.wds hlt
      subst hr
      have HL := Lib.hid hrel.len
      have HST := Lib.hid hstep
      clear hrel hstep
      have h1 := HA.out.wds.getD k
      have hcell := HBK.out.cell (i := pre.length + k) (by simp [HL.out])
      rw [List.cons_append, gd_mid pre dn _ k HL.out, show gd (gd mid k :: (r ++ post)) 0 = gd mid k from rfl] at hcell
      have h2 : gd mid k < 4294967296 := HBK.out.2 _ (by simp)
      have hfro := HBK.out.frozen (pre.length + k)
      have HA2 := Lib.hid (HA.out.only hon HN.out)
      have i0 : (0 : Int) ≤ (k : Int) := by omega
      have i1 : (k : Int) < m := by omega
      go_wp2
      go_quiet ((go_at_call 146; exact quiet_left (rword_any A n d vs k _ (HA2.out.drewN _) (by omega) (by omega))))
      go_wp2
      refine ⟨⟨k + 1, (gd mid k + gd vs k + carry) / 4294967296, dn ++ [(gd mid k + gd vs k + carry) % 4294967296], r, by omega, by omega, by simp only [Value.int.injEq, true_and]; omega, by go_num, HST.out, ?_, (only_draws hon _).set_ _ _, by simpa [World.setCell] using HSZ.out⟩, by simp [intOf]; omega⟩
      have hset := (HBK.out.drewN nq).set_i (pre.length + k) ((gd mid k + gd vs k + carry) % 4294967296) (j := ((gd mid k : Int) + (gd vs k : Int) + (carry : Int)) % 4294967296) (by omega) (Nat.mod_lt _ (by omega))
      rw [List.cons_append, set_mid pre dn (r ++ post) _ _ k HL.out] at hset
      exact hset
    · obtain rfl : k = m := by omega
      have HR := Lib.hid hrel
      clear hrel
      have hfin : Hid (val dn = (val mid + val vs) % pw k) := by
        have h1 := HR.out.eq
        have hmk : mid.length = k := HM.out
        rw [val_take_all _ _ (by omega), val_take_all _ _ (by rw [HA.out.len]; omega)] at h1
        have h6 := val_lt HR.out.wds
        rw [HR.out.len] at h6
        show val dn = (val mid + val vs) % pw k
        rw [← h1, Nat.add_mul_mod_self_left, Nat.mod_eq_of_lt h6]
      have h3 : rest = [] := List.eq_nil_of_length_eq_zero (by have := HR.out.restlen; omega)
      subst h3
      have hlast := Lib.hid (And.intro HR.out.len (And.intro HBK.out (And.intro hon HSZ.out)))
      clear hon
      go_wp2
      obtain ⟨k1, k2, k3, k4⟩ := hlast.out
      exact bodyPost_end (v := .tuple #[]) (by simp [results, Try.results145, go_sem]) rfl ⟨dn, rfl, by rw [k1, HM.out], by rw [hfin.out, HM.out], k2, k3, k4⟩
end Go.Proofs.Ytfigimfdojbkeaa
end

section
namespace Go.Proofs.Ytfigimfdojbkeaa
open Go.RowKit
attribute [local go_sem ↓] Go.wp_at_zero Go.wp_at_succ

theorem step_back {U V gs q r P : Nat} (hq : q = U / V) (h1 : q ≤ gs) (h2 : gs ≤ q + 1) (hV : 0 < V) (hVP : V < P) (hneg : U < V * gs) (he : r + V * gs = U + P) : gs = q + 1 ∧ (r + V) % P = U % V := by
  have hd := Nat.div_add_mod U V
  have hm := Nat.mod_lt U hV
  subst hq
  have hgs : gs = U / V + 1 := by
    rcases (show gs = U / V ∨ gs = U / V + 1 by omega) with e | e
    · rw [e] at hneg; omega
    · exact e
  refine ⟨hgs, ?_⟩
  rw [hgs, Nat.mul_add] at he
  have e1 : r + V = U % V + P := by omega
  rw [e1, Nat.add_mod_right, Nat.mod_eq_of_lt (by omega)]

/-- The divisor after the multiplication: as many words as before, and the first bit is 1. -/
theorem norm_times {y p D : Nat} (h : (mag y).length = p + 2) (hD : D = 4294967296 / (gd (mag y) (p + 1) + 1)) :
    (mag (D * y)).length = p + 2 ∧ 2147483648 ≤ gd (mag (D * y)) (p + 1) ∧ 0 < D ∧ D ≤ 2147483648 ∧ pw (p + 1) * D ≤ D * y := by
  have hc := (mag_can y).2.resolve_left (fun e => by rw [e] at h; simp at h)
  rw [h, show p + 2 - 1 = p + 1 from rfl] at hc
  have h1 := val_split (mag y) (p + 1) (by omega)
  rw [val_mag, List.drop_of_length_le (by omega), val, Nat.mul_zero, Nat.add_zero] at h1
  have h2 := val_take_lt (mag_wds y) (p + 1)
  have h3 := (mag_wds y).getD (p + 1)
  generalize gd (mag y) (p + 1) = t at *
  have ht : 0 < t := Nat.pos_of_ne_zero hc
  have hD0 : 0 < D := by rw [hD]; exact Nat.div_pos (by omega) (by omega)
  have hD1 : D * (t + 1) ≤ 4294967296 := by rw [hD]; exact Nat.div_mul_le_self _ _
  have hD2 : 4294967296 < (D + 1) * (t + 1) := by
    have h8 : 4294967296 / (t + 1) < D + 1 := by omega
    exact (Nat.div_lt_iff_lt_mul (by omega)).1 h8
  have hDt : 2147483648 ≤ D * t := by
    have e1 : (D + 1) * (t + 1) = D * t + D + t + 1 := by grind
    have e2 : D + t ≤ D * t + 1 := by
      obtain ⟨a, rfl⟩ : ∃ a, D = a + 1 := ⟨D - 1, by omega⟩
      obtain ⟨b, rfl⟩ : ∃ b, t = b + 1 := ⟨t - 1, by omega⟩
      have : (a + 1) * (b + 1) = a * b + a + b + 1 := by grind
      omega
    omega
  have hlow : 2147483648 * pw (p + 1) ≤ D * y := by
    have e3 : D * (pw (p + 1) * t) ≤ D * y := Nat.mul_le_mul_left _ (by omega)
    have e4 : 2147483648 * pw (p + 1) ≤ D * t * pw (p + 1) := Nat.mul_le_mul_right _ hDt
    have e5 : D * (pw (p + 1) * t) = D * t * pw (p + 1) := by grind
    omega
  have hhigh : D * y < pw (p + 2) := by
    have h8 : y < pw (p + 1) * (t + 1) := by rw [Nat.mul_add]; omega
    have h9 : D * y < D * (pw (p + 1) * (t + 1)) := Nat.mul_lt_mul_of_pos_left h8 hD0
    have e6 : D * (pw (p + 1) * (t + 1)) = D * (t + 1) * pw (p + 1) := by grind
    have e7 := Nat.mul_le_mul_right (pw (p + 1)) hD1
    rw [show pw (p + 2) = pw (p + 1 + 1) from rfl, pw_succ]
    omega
  have hl1 := mag_length_le hhigh
  have hpos := pw_pos (p + 1)
  have hl2 := @mag_length_lt (D * y) (p + 1) (by omega)
  have hlen : (mag (D * y)).length = p + 2 := by omega
  refine ⟨hlen, ?_, hD0, ?_, ?_⟩
  · have h8 := val_split (mag (D * y)) (p + 1) (by omega)
    rw [val_mag, List.drop_of_length_le (by omega), val, Nat.mul_zero, Nat.add_zero] at h8
    have h9 := val_take_lt (mag_wds (D * y)) (p + 1)
    rcases Nat.lt_or_ge (gd (mag (D * y)) (p + 1)) 2147483648 with h10 | h10
    · exfalso
      have : pw (p + 1) * (gd (mag (D * y)) (p + 1) + 1) ≤ pw (p + 1) * 2147483648 := Nat.mul_le_mul_left _ h10
      rw [Nat.mul_add] at this
      omega
    · exact h10
  · have : D * 2 ≤ D * (t + 1) := Nat.mul_le_mul_left _ (by omega)
    omega
  · have e3 : pw (p + 1) * D ≤ D * (pw (p + 1) * t) := by
      have : D * (pw (p + 1) * 1) ≤ D * (pw (p + 1) * t) := Nat.mul_le_mul_left _ (Nat.mul_le_mul_left _ ht)
      rw [Nat.mul_one, Nat.mul_comm] at this
      exact this
    have e4 : D * (pw (p + 1) * t) ≤ D * y := Nat.mul_le_mul_left _ (by omega)
    omega

theorem Blk.mid_wd {w : World} {g : Nat} {pre mid post : List Nat} (h : Blk w g (pre ++ mid ++ post)) {o n : Nat} (ho : pre.length = o) (hn : mid.length = n) : Wd w (some ⟨g, o, none⟩) n mid := by
  subst ho hn
  have h1 := h.wd pre.length mid.length (by simp)
  rwa [List.append_assoc, List.drop_append_of_le_length (Nat.le_refl _), List.drop_length, List.nil_append, List.take_append_of_le_length (Nat.le_refl _), List.take_length] at h1

set_option maxHeartbeats 4000000 in
set_option maxRecDepth 100000 in
theorem rdivLong_any (A B : Option Addr) (n c p d x y : Nat) (w : World) (ha : Wd w A n (mag x)) (hb : Wd w B (p + 2) (mag y)) (hn : n ≤ 10000000) (hp : p ≤ 10000000) (hyx : y ≤ x) (hpn : p + 2 ≤ n) :
    Calls Try.prog 99 #[.slice A n c, .slice B (p + 2) d] w (RetMg2 (x / y) (x % y) w) := by
  obtain ⟨D, hD⟩ : ∃ D, D = 4294967296 / (gd (mag y) (p + 1) + 1) := ⟨_, rfl⟩
  obtain ⟨hn1, hn2, hn3, hn4, hn5⟩ := norm_times hb.len hD
  have hc0 : (0 : Int) ≤ cmpN x y := by unfold cmpN; rw [if_neg (by omega)]; split <;> omega
  have hcb := hb.cells (by omega)
  obtain ⟨bb, bo, rfl, _, hcb⟩ := hcb
  have c1 := hcb (p + 1) (by omega)
  have b1 := (mag_wds y).getD (p + 1)
  have HA := Lib.hid ha
  have HB := Lib.hid hb
  have HN1 := Lib.hid hn1
  generalize htop : gd (mag y) (p + 1) = top at *
  generalize hcc : cmpN x y = cc at *
  have HCC := Lib.hid hcc
  have hcd : decide (cc < 0) = false := by rw [decide_eq_false_iff_not]; omega
  have hDI : (4294967296 : Int) / ((top : Int) + 1) = (D : Int) := by rw [hD]; simp
  have hz1 : (((top : Int) + 1) == 0) = false := by simp; omega
  have HDI := Lib.hid hDI
  have w1 : IntKind.u64.wrap (D : Int) = (D : Int) := IntWalk.u64_in _ (by omega)
  have HD := Lib.hid hD
  clear ha hb hcb hn1 htop hcc hD
  have i0 : (0 : Int) ≤ (p : Int) + 1 := by omega
  have i1 : (p : Int) + 1 < (p : Int) + 2 := by omega
  have i7 : ((p : Int) + 1).toNat = p + 1 := by omega
  have n1 : ((p : Int) + 2 == 1) = false := by simp; omega
  go_enter Try.func99, Try.ntmps99
  go_wp2_with fail
  refine (rcompared_any A _ n (p + 2) c d x y w HA.out HB.out (by omega) (by omega)).mono ?_
  rintro e w' ⟨rfl, q0, rfl⟩
  rw [HCC.out]
  go_wp2_with fail
  refine (rwords_any D _ (by omega)).mono ?_
  rintro e w1 ⟨v1, rfl, ⟨A1, m1, d1, rfl, a1, a2, a3⟩, hbl1⟩
  have hm1 : m1 ≤ 1 := by rw [← a3.len]; exact mag_length_le (by rw [pw_one]; omega)
  have HA1 := Lib.hid a3
  have HBL1 := Lib.hid (undrewN hbl1)
  clear a3 hbl1
  go_wp2_with fail
  refine (rtimes_any _ A1 (p + 2) m1 d d1 y D _ (HB.out.next HBL1.out rfl) HA1.out (by omega) (by omega)).mono ?_
  rintro e w2 ⟨v2, rfl, ⟨Av, nv, cv, rfl, hnv, hcv, hv⟩, hbl2⟩
  obtain rfl : nv = p + 2 := by rw [← hv.len]; exact HN1.out
  have HV := Lib.hid hv
  have HBL2 := Lib.hid (link_below HBL1.out hbl2 HBL1.out.size rfl rfl rfl rfl)
  clear hv hbl2
  go_wp2_with (first
    | (refine wpList_make_blk rfl _ _ _ rfl Try.underlying22 u32_info _ _ _ _ (n + 1) rfl rfl (by omega) (by omega) (by omega) ?_
       intro w3 hb3 hs3 hbl3
       have HB3 := Lib.hid hb3
       have HS3 := Lib.hid hs3
       have HBL3 := Lib.hid hbl3
       clear hb3 hs3 hbl3))
  refine (rwords_any D _ (by omega)).mono ?_
  rintro e w4 ⟨v4, rfl, ⟨A4, m4, d4, rfl, e1, e2, e3⟩, hbl4⟩
  have hm4 : m4 ≤ 1 := by rw [← e3.len]; exact mag_length_le (by rw [pw_one]; omega)
  have HA4 := Lib.hid e3
  have HBL4 := Lib.hid (HBL3.out.trans (hbl4.mono HBL3.out.size))
  clear e3
  go_wp2_with fail
  refine (rtimes_any A A4 n m4 c d4 x D _ ((HA.out.below HBL2.out).below HBL4.out) HA4.out (by omega) (by omega)).mono ?_
  rintro e w5 ⟨v5, rfl, ⟨A5, n5, c5, rfl, hn5c, hc5, h5⟩, hbl5⟩
  have hX := lt_pw_mag x
  rw [HA.out.len] at hX
  have hXX : D * x < pw (n + 1) := by
    have h2 := Nat.mul_lt_mul_of_le_of_lt hn4 hX (by omega)
    rw [pw_succ]
    have := pw_pos n
    omega
  have hn5le : n5 ≤ n + 1 := by rw [← h5.len]; exact mag_length_le hXX
  have HX := Lib.hid hX
  have HXX := Lib.hid hXX
  have H5 := Lib.hid h5
  have hbl25 : Below w2.heap.size w2 w5 := HBL4.out.trans (hbl5.mono HBL4.out.size)
  have hb5 : Blk w5 w2.heap.size (List.replicate (n + 1) 0) := by
    have h := HB3.out
    have hs := HS3.out
    refine (h.below (B := w3.heap.size) ?_ (by omega))
    have h4 : Below w3.heap.size w3 w4 := by assumption
    exact h4.trans (hbl5.mono h4.size)
  have HB5 := Lib.hid hb5
  clear hX hXX h5 hb5
  go_wp2_with (first
    | (refine wpList_copy_blk rfl _ _ _ _ rfl Try.underlying22 u32_size w2.heap.size 0 (n + 1) (n + 1) A5 n5 c5 rfl rfl _ _ HB5.out H5.out hn5le (by simp; omega) w2.heap.size w2 hbl25 (Nat.le_refl _) ?_
       intro w6 hb6 hbl6
       have HB6 := Lib.hid hb6
       clear hb6)
    | (refine wpList_make_blk rfl _ _ _ rfl Try.underlying22 u32_info _ _ _ _ (n - p - 1) rfl rfl (by omega) (by omega) (by omega) ?_
       intro w7 hb7 hs7 hbl7
       have HB7 := Lib.hid hb7
       have HS7 := Lib.hid hs7
       clear hb7 hs7))
  obtain ⟨N, hN⟩ : ∃ N, N = n - p - 1 := ⟨_, rfl⟩
  have hN1 : 1 ≤ N := by omega
  have hN2 : n + 1 = N + p + 2 := by omega
  have hN3 : (n : Int) - ((p : Int) + 2) = (N : Int) - 1 := by omega
  obtain ⟨xs, hxs⟩ : ∃ xs, xs = splice (List.replicate (n + 1) 0) 0 (mag (D * x)) := ⟨_, rfl⟩
  have hxv : Hid (val xs = D * x ∧ xs.length = n + 1) := by
    unfold Hid
    rw [hxs]
    have hle := hn5le
    rw [← H5.out.len] at hle
    refine ⟨?_, by rw [length_splice _ _ _ (by simpa using hle)]; simp⟩
    simp only [splice, List.take_zero, List.nil_append, Nat.zero_add]
    rw [val_append, val_mag, List.drop_replicate, val_replicate]
    omega
  have hb8 : Blk w7 w2.heap.size xs := by
    have h := HB6.out.below hbl7 (HB6.out.lt)
    rw [hxs]; exact h
  have HB8 := Lib.hid hb8
  have HXS := Lib.hid hxs
  have hgq : w2.heap.size < w6.heap.size := HB6.out.lt
  have hwx : Wds xs := hb8.2
  have hV : D * y < pw (p + 2) := by
    have := lt_pw_mag (D * y)
    rwa [HN1.out] at this
  have HVV := Lib.hid hV
  have hst : Hid (LongRel (D * x) (D * y) N p N xs xs (List.replicate N 0)) := by
    refine ⟨by rw [hxv.out.2]; omega, by simp, rfl, by simp [val], ?_⟩
    rw [val_drop hwx, hxv.out.1, Nat.div_lt_iff_lt_mul (pw_pos N)]
    have h1 := Nat.mul_lt_mul_of_pos_left HX.out hn3
    rw [show n = (p + 1) + N by omega, pw_add, ← Nat.mul_assoc, Nat.mul_comm D (pw (p + 1))] at h1
    exact Nat.lt_of_lt_of_le h1 (Nat.mul_le_mul_right _ hn5)
  rw [← hN] at HB7
  rw [← hN]
  have hbl27 : Below w2.heap.size w2 w7 := hbl6.trans (hbl7.mono (by omega))
  have hNn : N + p ≤ 10000000 := by omega
  clear hb8 hxs hV hN
  rw [hN2]
  simp only [hN3, Int.sub_add_cancel]
  have HN2 := Lib.hid hN2
  have HN3 := Lib.hid hN3
  clear hN2 hN3 hDI
  go_loopw [13, 14, 15] (fun t _ _ wr => ∃ i : Nat, ∃ us qs, i ≤ N ∧ t = .int .i64 ((N : Int) - 1 - i) ∧ LongRel (D * x) (D * y) N p (N - i) xs us qs ∧ Blk wr w2.heap.size us ∧ Blk wr w6.heap.size qs ∧ Below w2.heap.size w2 wr)
      (fun t _ _ _ => (intOf t + 1).toNat)
  case atStart => exact ⟨0, xs, List.replicate N 0, Nat.zero_le _, by simp only [Value.int.injEq, true_and]; omega, hst.out, HB8.out, HB7.out, hbl27⟩
  case round =>
    obtain ⟨i, us, qs, hi, rfl, hrel, hbu, hbq, hblr⟩ := hrel
    have HR := Lib.hid hrel
    have HBU := Lib.hid hbu
    have HBQ := Lib.hid hbq
    clear hrel hbu hbq
    by_cases hlt : i < N
    · obtain ⟨k, hk⟩ : ∃ k, N - i = k + 1 := ⟨N - i - 1, by omega⟩
      have hkN : k < N := by omega
      have hki : (N : Int) - 1 - (i : Int) = (k : Int) := by omega
      have hrk := HR.out
      rw [hk] at hrk
      obtain ⟨hw0, hw1, hw2⟩ := (hrk.window hkN HVV.out).resolve_right (fun h => h HBU.out.2)
      have hul := hrk.ulen
      have hsplit : us = us.take k ++ (us.drop k).take (p + 3) ++ us.drop (k + p + 3) := by
        rw [show us.drop (k + p + 3) = (us.drop k).drop (p + 3) by rw [List.drop_drop, Nat.add_assoc], List.append_assoc, List.take_append_drop, List.take_append_drop]
      have hb7 : Blk wr w2.heap.size (us.take k ++ (us.drop k).take (p + 3) ++ us.drop (k + p + 3)) := by rw [← hsplit]; exact HBU.out
      have e1 : (us.take k).length = k := by rw [List.length_take]; omega
      have e2 : ((us.drop k).take (p + 3)).length = p + 3 := by rw [List.length_take, List.length_drop]; omega
      have hvr := HV.out.below hblr
      have hne : ∀ ad, Av = some ad → 0 < p + 2 → ad.block ≠ w2.heap.size := fun ad e h0 => by
        obtain ⟨ad', e', hlt', _⟩ := HV.out.2.2 h0
        rw [e] at e'; injection e' with e'
        rw [e']; omega
      have HK := Lib.hid hk
      have HRK := Lib.hid hrk
      have HB7 := Lib.hid hb7
      have E1 := Lib.hid e1
      have E2 := Lib.hid e2
      have HVR := Lib.hid hvr
      have HNE := Lib.hid hne
      have HW0 := Lib.hid hw0
      have HW1 := Lib.hid hw1
      have HW2 := Lib.hid hw2
      clear hk hrk hsplit hb7 e1 e2 hvr hne hw0 hw1 hw2 hul
      have j0 : ¬ (N + p + 2 = k) := by omega
      have j1 : (0 : Int) ≤ (k : Int) := by omega
      have j2 : (k : Int) ≤ (k : Int) + ((p : Int) + 2) + 1 := by omega
      have j3 : (k : Int) + ((p : Int) + 2) + 1 ≤ (N : Int) + p + 2 := by omega
      have j4 : (k : Int) < N := by omega
      rw [hki]
      have HKI := Lib.hid hki
      clear hki
      go_wp2_with fail
      rw [show k + (p + 2) + 1 - k = p + 3 by omega]
      refine (rguess_any _ Av p (N + p + 2 - k) cv ((us.drop k).take (p + 3)) (mag (D * y)) wr (HB7.out.mid_wd E1.out E2.out) HVR.out (by omega) hn2 (by rw [HW1.out, val_mag]; exact HW2.out)).mono ?_
      rintro e wg ⟨gs, kg, rfl, hg1, hg2, hg3, rfl⟩
      rw [HW1.out, val_mag] at hg1 hg2
      have HG1 := Lib.hid hg1
      have HG2 := Lib.hid hg2
      clear hg1 hg2
      go_wp2_with fail
      refine (rlessen_any w2.heap.size k (us.take k) ((us.drop k).take (p + 3)) (us.drop (k + p + 3)) Av (p + 2) (p + 3) (N + p + 2 - k) cv gs (mag (D * y)) _ (HB7.out.drewN _) E1.out E2.out (HVR.out.drewN _) HNE.out rfl (by omega) (by omega)).mono ?_
      rintro e wl ⟨mid', rfl, hml, hmv, hb9, hon, hsl⟩
      rw [HW1.out, val_mag] at hmv
      rw [HW1.out, val_mag]
      rw [E2.out] at hml hmv
      have hVpos : 0 < D * y := by have := HRK.out.lt; omega
      have hqb' : val (us.drop k) / (D * y) < 4294967296 := by
        rw [Nat.div_lt_iff_lt_mul hVpos]; exact HW2.out
      obtain ⟨qk, hqk⟩ : ∃ qk, val (us.drop k) / (D * y) = qk := ⟨_, rfl⟩
      have hqb : qk < 4294967296 := by rw [← hqk]; exact hqb'
      have HON := Lib.hid (only_undrewN hon)
      by_cases hneg : val (us.drop k) < D * y * gs
      · rw [decide_eq_true hneg]
        rw [if_pos hneg] at hmv
        have hsb := step_back rfl HG1.out HG2.out hVpos (show D * y < pw (p + 3) from Nat.lt_of_lt_of_le HVV.out (pw_le (by omega))) hneg hmv
        rw [hqk] at hsb
        have hgsI : (gs : Int) - 1 = (qk : Int) := by omega
        have hgs1 : 1 ≤ gs := by omega
        have HSB := Lib.hid hsb
        have HB9' := Lib.hid hb9
        have HQK0 := Lib.hid hqk
        clear hmv hneg hsb hb9 hqb' hqk
        go_wp2_with fail
        refine (rrestore_any w2.heap.size k (us.take k) mid' (us.drop (k + p + 3)) Av (p + 2) (p + 3) (N + p + 2 - k) cv (mag (D * y)) wl HB9'.out E1.out hml (HVR.out.only HON.out HNE.out) HNE.out (by omega) (by omega)).mono ?_
        rintro e wx ⟨mid2, rfl, hml2, hmv2, hb9, hon2, hsx⟩
        rw [hml] at hml2 hmv2
        have hon3 := HON.out.trans hon2
        have HFAR : Hid (∀ g' ws, g' ≠ w2.heap.size → Blk wr g' ws → Blk wx g' ws) := fun g' ws hne hb => hon3.far hne hb
        have HBLX : Hid (Below w2.heap.size w2 wx) := hblr.trans (hon3.below (Nat.le_refl _) hblr.size)
        have hmv : val mid2 = val (us.drop k) % (D * y) := by rw [hmv2, val_mag]; exact HSB.out.2
        have hqk := HQK0.out
        clear hml hmv2 hon2 hsx hon hsl hon3
        have hml := hml2
        clear hml2
        have hst2 := Lib.hid (HRK.out.step hkN (by rw [hxv.out.2]; have := HN2.out; omega) HW0.out hml hmv)
        have hbq8 : Blk wx w6.heap.size qs := HFAR.out _ _ (by omega) HBQ.out
        have hcell := hbq8.cell (i := k) (by rw [HRK.out.qlen]; exact hkN)
        have hfro := hbq8.frozen k
        have HB9 := Lib.hid hb9
        have HBQ8 := Lib.hid hbq8
        have HQK := Lib.hid hqk
        clear hml hmv hb9 hbq8 hqk
        go_wp2
        go_roundw
        case rel =>
          refine ⟨i + 1, _, qs.set k qk, by omega, by simp only [Value.int.injEq, true_and]; have := HK.out; omega, ?_, HB9.out.far (by simp; omega) _, HBQ8.out.set_ k qk hqb, HBLX.out.setCell (by simp; omega) _⟩
          rw [show N - (i + 1) = k by have := HK.out; omega]
          rw [HQK.out] at hst2
          exact hst2.out
        case measure => (have := HK.out; simp only [intOf]; omega)
      · rw [decide_eq_false hneg]
        rw [if_neg hneg] at hmv
        have hse := step_exact rfl HG1.out HG2.out hVpos hneg (by omega)
        rw [hqk] at hse
        have HFAR : Hid (∀ g' ws, g' ≠ w2.heap.size → Blk wr g' ws → Blk wl g' ws) := fun g' ws hne hb => HON.out.far hne hb
        have HBLX : Hid (Below w2.heap.size w2 wl) := hblr.trans (HON.out.below (Nat.le_refl _) hblr.size)
        have hmv' := hse.2
        have hgq : gs = qk := hse.1
        subst hgq
        clear hmv hneg hse hqb' hon hsl
        have hmv := hmv'
        clear hmv'
        have hst2 := Lib.hid (HRK.out.step hkN (by rw [hxv.out.2]; have := HN2.out; omega) HW0.out hml hmv)
        have hbq8 : Blk wl w6.heap.size qs := HFAR.out _ _ (by omega) HBQ.out
        have hcell := hbq8.cell (i := k) (by rw [HRK.out.qlen]; exact hkN)
        have hfro := hbq8.frozen k
        have HB9 := Lib.hid hb9
        have HBQ8 := Lib.hid hbq8
        have HQK := Lib.hid hqk
        clear hml hmv hb9 hbq8 hqk
        go_wp2
        go_roundw
        case rel =>
          refine ⟨i + 1, _, qs.set k gs, by omega, by simp only [Value.int.injEq, true_and]; have := HK.out; omega, ?_, HB9.out.far (by simp; omega) _, HBQ8.out.set_ k gs hqb, HBLX.out.setCell (by simp; omega) _⟩
          rw [show N - (i + 1) = k by have := HK.out; omega]
          rw [HQK.out] at hst2
          exact hst2.out
        case measure => (have := HK.out; simp only [intOf]; omega)
    · obtain rfl : i = N := by omega
      have hge : (i : Int) - 1 - i ≤ -1 := by omega
      have hfin := HR.out
      rw [Nat.sub_self] at hfin
      have h1 := hfin.eq
      have h2 := hfin.lt
      rw [List.drop_zero, List.drop_zero, List.drop_zero, hxv.out.1] at h1
      rw [List.drop_zero] at h2
      have hquo : Hid (val qs = x / y ∧ val us / D = x % y) := by
        have e1 : val qs = D * x / (D * y) := by
          rw [h1, Nat.mul_add_div (by omega), Nat.div_eq_of_lt h2, Nat.add_zero]
        have e2 : val us = D * x % (D * y) := by
          rw [h1, Nat.mul_add_mod, Nat.mod_eq_of_lt h2]
        refine ⟨by rw [e1, Nat.mul_div_mul_left _ _ hn3], ?_⟩
        rw [e2, Nat.mul_mod_mul_left, Nat.mul_div_cancel_left _ hn3]
      have hql := Lib.hid hfin.qlen
      have hul := Lib.hid hfin.ulen
      clear hfin h1 h2
      go_wp2_with fail
      refine (rtrim_any _ (i + p + 2) (i + p + 2) us _ (by have := HBU.out.whole; rwa [hul.out] at this) (by omega) (by omega)).mono ?_
      rintro e w' ⟨q, hq, rfl, ht, rfl⟩
      have HWU : Hid (Wd wr (some ⟨w2.heap.size, 0, none⟩) q (mag (val us))) := by
        have h := HBU.out.whole.take hq
        rw [ht] at h
        exact h
      have hq2 : q ≤ i + p + 2 := by rw [← hul.out]; exact hq
      clear ht hq
      go_wp2_with fail
      refine (rshortly_any _ q (i + p + 2) D (mag (val us)) _ HWU.out (by omega) hn3 (by omega)).mono ?_
      rintro e w8 ⟨v8, rfl, hm8, hbl8⟩
      rw [val_mag] at hm8
      have HM8 := Lib.hid hm8
      have hbq9 := HBQ.out.below hbl8 HBQ.out.lt
      have HBQ9 := Lib.hid hbq9
      clear hm8 hbq9
      go_wp2_with fail
      refine (rtrim_any _ i i qs _ (by have := HBQ9.out.whole; rwa [hql.out] at this) (by omega) (by omega)).mono ?_
      rintro e w' ⟨q2, hq2, rfl, ht, rfl⟩
      have hmq := Lib.hid (HBQ9.out.whole.mg (c := i) hq2 (by rw [hql.out]; omega) (by omega) ht)
      clear ht
      go_wp2
      go_ret2
      have hall : Below w2.heap.size w2 w8 := hblr.trans (hbl8.mono hblr.size)
      refine ⟨_, _, rfl, ?_, ?_, link_below HBL2.out hall HBL2.out.size rfl rfl rfl rfl⟩
      · rw [← hquo.out.1]; exact hmq.out
      · rw [← hquo.out.2]; exact HM8.out

set_option maxHeartbeats 2000000 in
theorem rdivided_any (A B : Option Addr) (n c m d x y : Nat) (w : World) (ha : Wd w A n (mag x)) (hb : Wd w B m (mag y)) (hnc : n ≤ c) (hcb : c ≤ 9223372036854775807) (hn : n ≤ 10000000) (hm : m ≤ 10000000) (hy : y ≠ 0) :
    Calls Try.prog 99 #[.slice A n c, .slice B m d] w (RetMg2 (x / y) (x % y) w) := by
  have hm0 : 1 ≤ m := by
    have := hb.len
    rcases Nat.eq_zero_or_pos m with e | e
    · rw [e] at this; exact absurd (mag_length_zero.1 this) hy
    · exact e
  by_cases hlt : x < y
  · have HA := Lib.hid ha
    have HB := Lib.hid hb
    have hc := Lib.hid (cmpN_lt hlt)
    have hq := Lib.hid (Nat.div_eq_of_lt hlt)
    have hr := Lib.hid (Nat.mod_eq_of_lt hlt)
    clear hlt ha hb
    go_enter Try.func99, Try.ntmps99
    go_wp2_with fail
    refine (rcompared_any A B n m c d x y _ HA.out HB.out (by omega) (by omega)).mono ?_
    rintro e w' ⟨rfl, q, rfl⟩
    rw [hc.out]
    go_wp2
    go_ret2
    exact ⟨_, _, rfl, by rw [hq.out]; exact Mg.zero _ _ _ (by omega), ⟨A, n, c, rfl, hnc, hcb, by rw [hr.out]; exact HA.out.drewN _⟩, below_drewN (Below.refl _ _) _⟩
  · by_cases hm1 : m = 1
    · subst hm1
      have HA := Lib.hid ha
      have HB := Lib.hid hb
      have hc0 : (0 : Int) ≤ cmpN x y := by unfold cmpN; rw [if_neg hlt]; split <;> omega
      generalize hcc : cmpN x y = cc at *
      have HCC := Lib.hid hcc
      obtain ⟨bb, bo, rfl, _, hcb1⟩ := HB.out.cells (by omega)
      have c0 := hcb1 0 (by omega)
      rw [Nat.add_zero] at c0
      have hyl := number_val HB.out.len (by omega)
      have hg1 : gd (mag y) 1 = 0 := by rw [gd_eq, List.getElem?_eq_none (by rw [HB.out.len]; omega)]; rfl
      have hg0 : gd (mag y) 0 = y := by rw [hg1] at hyl; omega
      rw [hg0] at c0
      have hyb : y < 4294967296 := by rw [← hg0]; exact (mag_wds y).getD 0
      have hrb : x % y < 18446744073709551616 := by have := Nat.mod_lt x (show 0 < y by omega); omega
      have hw1 : IntKind.u64.wrap (y : Int) = (y : Int) := IntWalk.u64_in _ (by omega)
      clear hcb1 hg1 hg0 hyl hlt ha hb hcc
      go_enter Try.func99, Try.ntmps99
      go_wp2_with fail
      refine (rcompared_any A _ n 1 c d x y _ HA.out HB.out (by omega) (by omega)).mono ?_
      rintro e w' ⟨rfl, q, rfl⟩
      rw [HCC.out]
      go_wp2_with fail
      refine (rshortly_any A n c y (mag x) _ (HA.out.drewN _) (by omega) (by omega) hyb).mono ?_
      rintro e w2 ⟨v2, rfl, hm2, hbl2⟩
      rw [val_mag] at hm2
      rw [val_mag]
      have HM2 := Lib.hid hm2
      clear hm2
      go_wp2_with fail
      refine (rwords_any (x % y) _ hrb).mono ?_
      rintro e w3 ⟨v3, rfl, hm3, hbl3⟩
      have HM3 := Lib.hid hm3
      clear hm3
      go_wp2
      go_ret2
      exact ⟨_, _, rfl, HM2.out.next hbl3 rfl, HM3.out, link_below (undrewN hbl2) hbl3 (undrewN hbl2).size rfl rfl rfl rfl⟩
    · obtain ⟨p, rfl⟩ : ∃ p, m = p + 2 := ⟨m - 2, by omega⟩
      have hpn : p + 2 ≤ n := by
        rcases Nat.lt_or_ge n (p + 2) with h | h
        · have h1 := ha.len
          have h2 := hb.len
          exact absurd (mag_lt_of_length (by omega)) hlt
        · exact h
      exact rdivLong_any A B n c p d x y w ha hb hn (by omega) (by omega) hpn

theorem gcdmod (x y : Nat) : Nat.gcd y (x % y) = Nat.gcd x y := by rw [Nat.gcd_comm y, ← Nat.gcd_rec, Nat.gcd_comm]
def GcdI (p q x y : Nat) : Prop := Nat.gcd p q = Nat.gcd x y
theorem num_lt {x : Nat} (h : gd (mag x) 0 + 4294967296 * gd (mag x) 1 = x) : x < 18446744073709551616 := by
  rw [← h]
  have := (mag_wds x).getD 0
  have := (mag_wds x).getD 1
  omega

set_option maxHeartbeats 2000000 in
theorem rcommon_any (A B : Option Addr) (n c m d x y : Nat) (w : World) (ha : Wd w A n (mag x)) (hb : Wd w B m (mag y)) (hnc : n ≤ c) (hmd : m ≤ d) (hcb : c ≤ 9223372036854775807) (hdb : d ≤ 9223372036854775807) (hn : n ≤ 10000000) (hm : m ≤ 10000000) :
    Calls Try.prog 106 #[.slice A n c, .slice B m d] w (RetMg (Nat.gcd x y) w) := by
  have HA := Lib.hid ha
  have HB := Lib.hid hb
  clear ha hb
  go_enter Try.func106, Try.ntmps106
  go_wp2_with fail
  go_loopg [0, 1] y (fun k v u wr => ∃ a b : Nat, ∃ A1 n1 c1 B1 m1 d1, b ≤ k ∧ k ≤ b ∧ v = .slice A1 n1 c1 ∧ u = .slice B1 m1 d1 ∧ n1 ≤ c1 ∧ c1 ≤ 9223372036854775807 ∧ m1 ≤ d1 ∧ d1 ≤ 9223372036854775807 ∧ n1 ≤ 10000000 ∧ m1 ≤ 10000000 ∧
      Wd wr A1 n1 (mag a) ∧ Wd wr B1 m1 (mag b) ∧ GcdI a b x y ∧ Below w.heap.size w wr)
  case atStart => exact ⟨x, y, A, n, c, B, m, d, by omega, by omega, rfl, rfl, hnc, hcb, hmd, hdb, hn, hm, HA.out, HB.out, rfl, Below.refl _ _⟩
  case round =>
    obtain ⟨a, b, A1, n1, c1, B1, m1, d1, hk1, hk2, rfl, rfl, h1, h2, k1, k2, l1, l2, h3, k3, hG, hbl⟩ := hrel
    have H3 := Lib.hid h3
    have K3 := Lib.hid k3
    have HG := Lib.hid hG
    clear h3 k3 hG
    by_cases hm0 : m1 = 0
    · subst hm0
      have hb0 : b = 0 := mag_length_zero.1 K3.out.len
      subst hb0
      have e0 : Hid (a = Nat.gcd x y) := by have := HG.out; unfold GcdI at this; rwa [Nat.gcd_zero_right] at this
      go_wp2
      go_ret
      exact ⟨_, rfl, by rw [← e0.out]; exact ⟨A1, n1, c1, rfl, h1, h2, H3.out⟩, hbl⟩
    · have hmI : (0 : Int) < (m1 : Int) := by omega
      have hb0 : b ≠ 0 := by
        intro e
        have := K3.out.len
        rw [e, mag_zero] at this
        simp at this
        omega
      by_cases hsm : n1 ≤ 2 ∧ m1 ≤ 2
      · obtain ⟨s1, s2⟩ := hsm
        have s1I : (n1 : Int) ≤ 2 := by omega
        have s2I : (m1 : Int) ≤ 2 := by omega
        have hxl := Lib.hid (number_val H3.out.len s1)
        have hyl := Lib.hid (number_val K3.out.len s2)
        have ba := num_lt hxl.out
        have bb := num_lt hyl.out
        have hgb : Nat.gcd a b < 18446744073709551616 := Nat.lt_of_le_of_lt (Nat.le_of_dvd (by omega) (Nat.gcd_dvd_right a b)) bb
        go_wp2_with fail
        refine (rnumber_any A1 n1 c1 (mag a) _ H3.out (by omega)).mono ?_
        rintro e w' ⟨rfl, rfl⟩
        rw [hxl.out]
        go_wp2_with fail
        refine (rnumber_any B1 m1 d1 (mag b) _ K3.out (by omega)).mono ?_
        rintro e w' ⟨rfl, rfl⟩
        rw [hyl.out]
        go_wp2_with fail
        refine (reuclid_any a b _ ba bb).mono ?_
        rintro e w' ⟨rfl, rfl⟩
        go_wp2_with fail
        refine (rwords_any (Nat.gcd a b) _ hgb).mono ?_
        rintro e w4 ⟨v4, rfl, hm4, hbl4⟩
        have HM4 := Lib.hid hm4
        clear hm4
        go_wp2
        go_ret
        exact ⟨_, rfl, by rw [← show Nat.gcd a b = Nat.gcd x y from HG.out]; exact HM4.out, link_below hbl hbl4 hbl.size rfl rfl rfl rfl⟩
      · have hx := Nat.mod_lt a (show 0 < b by omega)
        have HG2 : Hid (GcdI b (a % b) x y) := by show Nat.gcd b (a % b) = Nat.gcd x y; rw [gcdmod]; exact HG.out
        have hcase : (2 : Int) < (n1 : Int) ∨ ((n1 : Int) ≤ 2 ∧ (2 : Int) < (m1 : Int)) := by omega
        clear hsm
        rcases hcase with hcase | ⟨hc1, hc2⟩
        all_goals
          go_wp2_with fail
          refine (rdivided_any A1 B1 n1 c1 m1 d1 a b _ H3.out K3.out h1 h2 (by omega) (by omega) hb0).mono ?_
          rintro e w3 ⟨v3, u3, rfl, hm1, ⟨R, r, rc, rfl, r1, r2, r3⟩, hbl4⟩
          have hr : r ≤ 10000000 := by have h := mag_len_mono (Nat.le_of_lt hx); rw [r3.len, K3.out.len] at h; omega
          have R3 := Lib.hid r3
          clear hm1 r3
          generalize hrr : a % b = rr at *
          clear hrr
          go_wp2
          go_roundg rr
          case rel => exact ⟨b, rr, B1, m1, d1, R, r, rc, Nat.le_refl _, Nat.le_refl _, rfl, rfl, k1, k2, r1, r2, l2, hr, K3.out.next hbl4 rfl, R3.out, HG2.out, link_below hbl hbl4 hbl.size rfl rfl rfl rfl⟩
          case measure => omega
end Go.Proofs.Ytfigimfdojbkeaa
end

section
namespace Go.Proofs.Ytfigimfdojbkeaa
open Go.RowKit
attribute [local go_sem ↓] Go.wp_at_zero Go.wp_at_succ

theorem mul_len {x y n m N : Nat} (hx : (mag x).length = n) (hy : (mag y).length = m) (h : n + m ≤ N) : (mag (y * x)).length ≤ N := by
  refine mag_length_le ?_
  have e1 := lt_pw_mag x
  have e2 := lt_pw_mag y
  rw [hx] at e1
  rw [hy] at e2
  have e3 := Nat.mul_lt_mul'' e2 e1
  rw [← pw_add] at e3
  exact Nat.lt_of_lt_of_le e3 (pw_le (by omega))

set_option maxHeartbeats 2000000 in
theorem rmul_at (A B : Option Addr) (n c m d : Nat) (a b z : Int) (w : World) (ha : Wd w A n (mag a.natAbs)) (hb : Wd w B m (mag b.natAbs)) (hn : n ≤ 1000000) (hm : m ≤ 1000000) (_hnc : n ≤ c) (_hmd : m ≤ d) (hz : a * b = z) :
    Calls Try.prog 35 #[.agg #[.bool (decide (a < 0)), .slice A n c], .agg #[.bool (decide (b < 0)), .slice B m d]] w (RetIv z w) := by
  have HLEN : Hid ((mag (b.natAbs * a.natAbs)).length ≤ 3000000) := mul_len ha.len hb.len (by omega)
  have hsum := Lib.hid (show sgn (decide (a < 0) != decide (b < 0)) (b.natAbs * a.natAbs) = z by rw [Nat.mul_comm, sgn_mul, sgn_of, sgn_of, hz])
  clear hz
  generalize decide (a < 0) = sa at *
  generalize decide (b < 0) = sb at *
  have HA := Lib.hid ha
  have HB := Lib.hid hb
  clear ha hb
  go_enter Try.func35, Try.ntmps35
  go_wp2_with fail
  obtain ⟨W, hW⟩ : ∃ W, W = ((w.alloc (Obj.cells #[Value.bool sa, Value.slice A n c] 27)).alloc (Obj.cells #[Value.bool sb, Value.slice B m d] 27)).alloc (Obj.cells #[Value.bool false, Value.slice none 0 0] 27) := ⟨_, rfl⟩
  rw [← hW]
  obtain ⟨b0, b1, b2, a1, a2, hbW⟩ := two_boxes HA.out HB.out hW
  have c0 := b0.cell0
  have c1 := b0.cell1
  have c2 := b1.cell0
  have c3 := b1.cell1
  have B0 := Lib.hid b0
  have B1 := Lib.hid b1
  have B2 := Lib.hid b2
  have A1 := Lib.hid a1
  have A2 := Lib.hid a2
  clear hW b0 b1 b2 a1 a2
  have hgW := hbW.size
  generalize hg0 : w.heap.size = g at *
  have z1 : ¬ g + 1 + 1 = g := by omega
  have z2 : ¬ g = g + 1 + 1 := by omega
  go_region_held3 (fun w' => w'.cell? ⟨g, 0, none⟩ = some (.bool sa) ∧ w'.cell? ⟨g, 1, none⟩ = some (.slice A n c) ∧ w'.cell? ⟨g + 1, 0, none⟩ = some (.bool sb) ∧ w'.cell? ⟨g + 1, 1, none⟩ = some (.slice B m d)) (go_keep)
    (first
      | (go_at_call 113; refine (rtimes_any A B n m c d a.natAbs b.natAbs _ (by exact A1.out) (by exact A2.out) (by omega) (by omega)).mono ?_; rintro e wt ⟨vt, rfl, ⟨At, nt, ct, rfl, t1, t2, t3⟩, hblt⟩
         have T3 := Lib.hid t3
         have hnt : nt ≤ 3000000 := by rw [← t3.len]; exact HLEN.out
         have kt0 := (by exact B0.out.next hblt rfl : Box wt g sa (.slice A n c))
         have kt1 := (by exact B1.out.next hblt rfl : Box wt (g + 1) sb (.slice B m d))
         have kt2 := (by exact B2.out.next hblt rfl : Box wt (g + 1 + 1) false (.slice none 0 0))
         have hallt := (by exact link_below hbW hblt hgW rfl rfl rfl rfl : Below g w wt)
         have u0 := kt0.cell0; have u1 := kt0.cell1; have u2 := kt1.cell0; have u3 := kt1.cell1
         have KT0 := Lib.hid kt0; have KT1 := Lib.hid kt1; have KT2 := Lib.hid kt2; clear kt0 kt1 kt2 t3)
      | (go_at_call 93; refine (made_any (sa != sb) At nt ct (mag (b.natAbs * a.natAbs)) _ (by exact T3.out) (by omega) t1 t2).mono ?_; rintro e w3 ⟨v3, rfl, hv3, hbl3⟩
         rw [val_mag, hsum.out] at hv3
         obtain ⟨A3, n3, c3, rfl, k1, k2, k3⟩ := hv3.form
         have K3 := Lib.hid k3
         have r2 := (by exact KT2.out.next hbl3 rfl : Box w3 (g + 1 + 1) false (.slice none 0 0))
         have r0 := (by exact KT0.out.next hbl3 rfl : Box w3 g sa (.slice A n c))
         have r1 := (by exact KT1.out.next hbl3 rfl : Box w3 (g + 1) sb (.slice B m d))
         have hall := (by exact link_below hallt hbl3 (Nat.le_trans hgW hblt.size) rfl rfl rfl rfl : Below g w w3)
         have s0 := r0.cell0; have s1 := r0.cell1; have s2 := r1.cell0; have s3 := r1.cell1; have s4 := r2.cell0; have s5 := r2.cell1; have s6 := r2.frozen 0; have s7 := r2.frozen 1
         have R2 := Lib.hid r2; clear r0 r1 r2 k3 hv3))
  go_wp2
  exact bodyPost_ret (v := .agg #[.bool (decide (z < 0)), .slice A3 n3 c3]) (by simp [results, Try.results35, go_sem, s4, s5]) rfl ⟨_, rfl, iv_store k1 k2 K3.out R2.out _, by rw [hg0]; exact (hall.setCell (by simp; omega) _).setCell (by simp; omega) _⟩

set_option maxHeartbeats 2000000 in
theorem radd_same (A B : Option Addr) (n c m d x y : Nat) (sa : Bool) (z : Int) (w : World) (ha : Wd w A n (mag x)) (hb : Wd w B m (mag y)) (hn : n ≤ 1000000) (hm : m ≤ 1000000) (hz : sgn sa (x + y) = z) :
    Calls Try.prog 31 #[.agg #[.bool sa, .slice A n c], .agg #[.bool sa, .slice B m d]] w (RetIv z w) := by
  have HLEN : Hid ((mag (x + y)).length ≤ 3000000) := Nat.le_trans (sum_len ha.len hb.len (show n ≤ 1000000 by omega) (by omega)) (by omega)
  have hsum := Lib.hid hz
  have ht : (sa == sa) = true := by simp
  clear hz
  have HA := Lib.hid ha
  have HB := Lib.hid hb
  clear ha hb
  go_enter Try.func31, Try.ntmps31
  go_wp2_with fail
  obtain ⟨W, hW⟩ : ∃ W, W = ((w.alloc (Obj.cells #[Value.bool sa, Value.slice A n c] 27)).alloc (Obj.cells #[Value.bool sa, Value.slice B m d] 27)).alloc (Obj.cells #[Value.bool false, Value.slice none 0 0] 27) := ⟨_, rfl⟩
  rw [← hW]
  obtain ⟨b0, b1, b2, a1, a2, hbW⟩ := two_boxes HA.out HB.out hW
  have c0 := b0.cell0
  have c1 := b0.cell1
  have c2 := b1.cell0
  have c3 := b1.cell1
  have B0 := Lib.hid b0
  have B1 := Lib.hid b1
  have B2 := Lib.hid b2
  have A1 := Lib.hid a1
  have A2 := Lib.hid a2
  clear hW b0 b1 b2 a1 a2
  have hgW := hbW.size
  generalize hg0 : w.heap.size = g at *
  have z1 : ¬ g + 1 + 1 = g := by omega
  have z2 : ¬ g = g + 1 + 1 := by omega
  go_wp2_with fail
  go_region_held3 (fun w' => w'.cell? ⟨g, 0, none⟩ = some (.bool sa) ∧ w'.cell? ⟨g, 1, none⟩ = some (.slice A n c) ∧ w'.cell? ⟨g + 1, 0, none⟩ = some (.bool sa) ∧ w'.cell? ⟨g + 1, 1, none⟩ = some (.slice B m d)) (go_keep)
    (first
      | (go_at_call 100; refine (radded_any A B n m c d x y _ (by exact A1.out) (by exact A2.out) (by omega) (by omega)).mono ?_; rintro e wt ⟨vt, rfl, ⟨At, nt, ct, rfl, t1, t2, t3⟩, hblt⟩
         have T3 := Lib.hid t3
         have hnt : nt ≤ 3000000 := by rw [← t3.len]; exact HLEN.out
         have kt0 := (by exact B0.out.next hblt rfl : Box wt g sa (.slice A n c))
         have kt1 := (by exact B1.out.next hblt rfl : Box wt (g + 1) sa (.slice B m d))
         have kt2 := (by exact B2.out.next hblt rfl : Box wt (g + 1 + 1) false (.slice none 0 0))
         have hallt := (by exact link_below hbW hblt hgW rfl rfl rfl rfl : Below g w wt)
         have u0 := kt0.cell0; have u1 := kt0.cell1; have u2 := kt1.cell0; have u3 := kt1.cell1
         have KT0 := Lib.hid kt0; have KT1 := Lib.hid kt1; have KT2 := Lib.hid kt2; clear kt0 kt1 kt2 t3)
      | (go_at_call 93; refine (made_any sa At nt ct (mag (x + y)) _ (by exact T3.out) (by omega) t1 t2).mono ?_; rintro e w3 ⟨v3, rfl, hv3, hbl3⟩
         rw [val_mag, hsum.out] at hv3
         obtain ⟨A3, n3, c3, rfl, k1, k2, k3⟩ := hv3.form
         have K3 := Lib.hid k3
         have r2 := (by exact KT2.out.next hbl3 rfl : Box w3 (g + 1 + 1) false (.slice none 0 0))
         have r0 := (by exact KT0.out.next hbl3 rfl : Box w3 g sa (.slice A n c))
         have r1 := (by exact KT1.out.next hbl3 rfl : Box w3 (g + 1) sa (.slice B m d))
         have hall := (by exact link_below hallt hbl3 (Nat.le_trans hgW hblt.size) rfl rfl rfl rfl : Below g w w3)
         have s0 := r0.cell0; have s1 := r0.cell1; have s2 := r1.cell0; have s3 := r1.cell1; have s4 := r2.cell0; have s5 := r2.cell1; have s6 := r2.frozen 0; have s7 := r2.frozen 1
         have R2 := Lib.hid r2; clear r0 r1 r2 k3 hv3))
  go_wp2
  exact bodyPost_ret (v := .agg #[.bool (decide (z < 0)), .slice A3 n3 c3]) (by simp [results, Try.results31, go_sem, s4, s5]) rfl ⟨_, rfl, iv_store k1 k2 K3.out R2.out _, by rw [hg0]; exact (hall.setCell (by simp; omega) _).setCell (by simp; omega) _⟩

set_option maxHeartbeats 2000000 in
theorem radd_lt (A B : Option Addr) (n c m d x y : Nat) (sa sb : Bool) (z : Int) (w : World) (ha : Wd w A n (mag x)) (hb : Wd w B m (mag y)) (hn : n ≤ 1000000) (hm : m ≤ 1000000) (hs : (sa == sb) = false) (hl : x < y) (hz : sgn sb (y - x) = z) :
    Calls Try.prog 31 #[.agg #[.bool sa, .slice A n c], .agg #[.bool sb, .slice B m d]] w (RetIv z w) := by
  have HLEN : Hid ((mag (y - x)).length ≤ 3000000) := by
    refine Nat.le_trans (mag_len_mono (Nat.sub_le _ _)) ?_
    have h1 := ha.len
    have h2 := hb.len
    omega
  have hle : x ≤ y := by omega
  have hsum := Lib.hid hz
  have hcm := Lib.hid (cmpN_lt hl)
  clear hz hl
  have HA := Lib.hid ha
  have HB := Lib.hid hb
  clear ha hb
  go_enter Try.func31, Try.ntmps31
  go_wp2_with fail
  obtain ⟨W, hW⟩ : ∃ W, W = ((w.alloc (Obj.cells #[Value.bool sa, Value.slice A n c] 27)).alloc (Obj.cells #[Value.bool sb, Value.slice B m d] 27)).alloc (Obj.cells #[Value.bool false, Value.slice none 0 0] 27) := ⟨_, rfl⟩
  rw [← hW]
  obtain ⟨b0, b1, b2, a1, a2, hbW⟩ := two_boxes HA.out HB.out hW
  have c0 := b0.cell0
  have c1 := b0.cell1
  have c2 := b1.cell0
  have c3 := b1.cell1
  have B0 := Lib.hid b0
  have B1 := Lib.hid b1
  have B2 := Lib.hid b2
  have A1 := Lib.hid a1
  have A2 := Lib.hid a2
  clear hW b0 b1 b2 a1 a2
  have hgW := hbW.size
  generalize hg0 : w.heap.size = g at *
  have z1 : ¬ g + 1 + 1 = g := by omega
  have z2 : ¬ g = g + 1 + 1 := by omega
  go_wp2_with fail
  refine (rcompared_any A B n m c d x y _ A1.out A2.out (by omega) (by omega)).mono ?_
  rintro e w' ⟨rfl, q, rfl⟩
  rw [hcm.out]
  go_wp2_with fail
  generalize hWq : W.drewN q = Wq
  replace B0 : Hid (Box Wq g sa (.slice A n c)) := by rw [← hWq]; exact B0.out.drewN q
  replace B1 : Hid (Box Wq (g + 1) sb (.slice B m d)) := by rw [← hWq]; exact B1.out.drewN q
  replace B2 : Hid (Box Wq (g + 1 + 1) false (.slice none 0 0)) := by rw [← hWq]; exact B2.out.drewN q
  replace A1 : Hid (Wd Wq A n (mag x)) := by rw [← hWq]; exact A1.out.drewN q
  replace A2 : Hid (Wd Wq B m (mag y)) := by rw [← hWq]; exact A2.out.drewN q
  replace hbW : Below g w Wq := by rw [← hWq]; exact below_drewN hbW q
  replace hgW : g ≤ Wq.heap.size := by rw [← hWq]; exact hgW
  clear hWq c0 c1 c2 c3
  have c0 := B0.out.cell0
  have c1 := B0.out.cell1
  have c2 := B1.out.cell0
  have c3 := B1.out.cell1
  go_region_held3 (fun w' => w'.cell? ⟨g, 0, none⟩ = some (.bool sa) ∧ w'.cell? ⟨g, 1, none⟩ = some (.slice A n c) ∧ w'.cell? ⟨g + 1, 0, none⟩ = some (.bool sb) ∧ w'.cell? ⟨g + 1, 1, none⟩ = some (.slice B m d)) (go_keep)
    (first
      | (go_at_call 101; refine (rtaken_any B A m n d c y x _ (by exact A2.out) (by exact A1.out) (by omega) (by omega) hle).mono ?_; rintro e wt ⟨vt, rfl, ⟨At, nt, ct, rfl, t1, t2, t3⟩, hblt⟩
         have T3 := Lib.hid t3
         have hnt : nt ≤ 3000000 := by rw [← t3.len]; exact HLEN.out
         have kt0 := (by exact B0.out.next hblt rfl : Box wt g sa (.slice A n c))
         have kt1 := (by exact B1.out.next hblt rfl : Box wt (g + 1) sb (.slice B m d))
         have kt2 := (by exact B2.out.next hblt rfl : Box wt (g + 1 + 1) false (.slice none 0 0))
         have hallt := (by exact link_below hbW hblt hgW rfl rfl rfl rfl : Below g w wt)
         have u0 := kt0.cell0; have u1 := kt0.cell1; have u2 := kt1.cell0; have u3 := kt1.cell1
         have KT0 := Lib.hid kt0; have KT1 := Lib.hid kt1; have KT2 := Lib.hid kt2; clear kt0 kt1 kt2 t3)
      | (go_at_call 93; refine (made_any sb At nt ct (mag (y - x)) _ (by exact T3.out) (by omega) t1 t2).mono ?_; rintro e w3 ⟨v3, rfl, hv3, hbl3⟩
         rw [val_mag, hsum.out] at hv3
         obtain ⟨A3, n3, c3, rfl, k1, k2, k3⟩ := hv3.form
         have K3 := Lib.hid k3
         have r2 := (by exact KT2.out.next hbl3 rfl : Box w3 (g + 1 + 1) false (.slice none 0 0))
         have r0 := (by exact KT0.out.next hbl3 rfl : Box w3 g sa (.slice A n c))
         have r1 := (by exact KT1.out.next hbl3 rfl : Box w3 (g + 1) sb (.slice B m d))
         have hall := (by exact link_below hallt hbl3 (Nat.le_trans hgW hblt.size) rfl rfl rfl rfl : Below g w w3)
         have s0 := r0.cell0; have s1 := r0.cell1; have s2 := r1.cell0; have s3 := r1.cell1; have s4 := r2.cell0; have s5 := r2.cell1; have s6 := r2.frozen 0; have s7 := r2.frozen 1
         have R2 := Lib.hid r2; clear r0 r1 r2 k3 hv3))
  go_wp2
  exact bodyPost_ret (v := .agg #[.bool (decide (z < 0)), .slice A3 n3 c3]) (by simp [results, Try.results31, go_sem, s4, s5]) rfl ⟨_, rfl, iv_store k1 k2 K3.out R2.out _, by rw [hg0]; exact (hall.setCell (by simp; omega) _).setCell (by simp; omega) _⟩

set_option maxHeartbeats 2000000 in
theorem radd_ge (A B : Option Addr) (n c m d x y : Nat) (sa sb : Bool) (z : Int) (w : World) (ha : Wd w A n (mag x)) (hb : Wd w B m (mag y)) (hn : n ≤ 1000000) (hm : m ≤ 1000000) (hs : (sa == sb) = false) (hl : y ≤ x) (hz : sgn sa (x - y) = z) :
    Calls Try.prog 31 #[.agg #[.bool sa, .slice A n c], .agg #[.bool sb, .slice B m d]] w (RetIv z w) := by
  have HLEN : Hid ((mag (x - y)).length ≤ 3000000) := by
    refine Nat.le_trans (mag_len_mono (Nat.sub_le _ _)) ?_
    have h1 := ha.len
    have h2 := hb.len
    omega
  have hle : y ≤ x := by omega
  have hsum := Lib.hid hz
  have hc0 : decide (cmpN x y < 0) = false := by rw [decide_eq_false_iff_not]; unfold cmpN; rw [if_neg (by omega)]; split <;> omega
  generalize hcc : cmpN x y = cc at *
  have hcm := Lib.hid hcc
  clear hz hl hcc
  have HA := Lib.hid ha
  have HB := Lib.hid hb
  clear ha hb
  go_enter Try.func31, Try.ntmps31
  go_wp2_with fail
  obtain ⟨W, hW⟩ : ∃ W, W = ((w.alloc (Obj.cells #[Value.bool sa, Value.slice A n c] 27)).alloc (Obj.cells #[Value.bool sb, Value.slice B m d] 27)).alloc (Obj.cells #[Value.bool false, Value.slice none 0 0] 27) := ⟨_, rfl⟩
  rw [← hW]
  obtain ⟨b0, b1, b2, a1, a2, hbW⟩ := two_boxes HA.out HB.out hW
  have c0 := b0.cell0
  have c1 := b0.cell1
  have c2 := b1.cell0
  have c3 := b1.cell1
  have B0 := Lib.hid b0
  have B1 := Lib.hid b1
  have B2 := Lib.hid b2
  have A1 := Lib.hid a1
  have A2 := Lib.hid a2
  clear hW b0 b1 b2 a1 a2
  have hgW := hbW.size
  generalize hg0 : w.heap.size = g at *
  have z1 : ¬ g + 1 + 1 = g := by omega
  have z2 : ¬ g = g + 1 + 1 := by omega
  go_wp2_with fail
  refine (rcompared_any A B n m c d x y _ A1.out A2.out (by omega) (by omega)).mono ?_
  rintro e w' ⟨rfl, q, rfl⟩
  rw [hcm.out]
  go_wp2_with fail
  generalize hWq : W.drewN q = Wq
  replace B0 : Hid (Box Wq g sa (.slice A n c)) := by rw [← hWq]; exact B0.out.drewN q
  replace B1 : Hid (Box Wq (g + 1) sb (.slice B m d)) := by rw [← hWq]; exact B1.out.drewN q
  replace B2 : Hid (Box Wq (g + 1 + 1) false (.slice none 0 0)) := by rw [← hWq]; exact B2.out.drewN q
  replace A1 : Hid (Wd Wq A n (mag x)) := by rw [← hWq]; exact A1.out.drewN q
  replace A2 : Hid (Wd Wq B m (mag y)) := by rw [← hWq]; exact A2.out.drewN q
  replace hbW : Below g w Wq := by rw [← hWq]; exact below_drewN hbW q
  replace hgW : g ≤ Wq.heap.size := by rw [← hWq]; exact hgW
  clear hWq c0 c1 c2 c3
  have c0 := B0.out.cell0
  have c1 := B0.out.cell1
  have c2 := B1.out.cell0
  have c3 := B1.out.cell1
  go_region_held3 (fun w' => w'.cell? ⟨g, 0, none⟩ = some (.bool sa) ∧ w'.cell? ⟨g, 1, none⟩ = some (.slice A n c) ∧ w'.cell? ⟨g + 1, 0, none⟩ = some (.bool sb) ∧ w'.cell? ⟨g + 1, 1, none⟩ = some (.slice B m d)) (go_keep)
    (first
      | (go_at_call 101; refine (rtaken_any A B n m c d x y _ (by exact A1.out) (by exact A2.out) (by omega) (by omega) hle).mono ?_; rintro e wt ⟨vt, rfl, ⟨At, nt, ct, rfl, t1, t2, t3⟩, hblt⟩
         have T3 := Lib.hid t3
         have hnt : nt ≤ 3000000 := by rw [← t3.len]; exact HLEN.out
         have kt0 := (by exact B0.out.next hblt rfl : Box wt g sa (.slice A n c))
         have kt1 := (by exact B1.out.next hblt rfl : Box wt (g + 1) sb (.slice B m d))
         have kt2 := (by exact B2.out.next hblt rfl : Box wt (g + 1 + 1) false (.slice none 0 0))
         have hallt := (by exact link_below hbW hblt hgW rfl rfl rfl rfl : Below g w wt)
         have u0 := kt0.cell0; have u1 := kt0.cell1; have u2 := kt1.cell0; have u3 := kt1.cell1
         have KT0 := Lib.hid kt0; have KT1 := Lib.hid kt1; have KT2 := Lib.hid kt2; clear kt0 kt1 kt2 t3)
      | (go_at_call 93; refine (made_any sa At nt ct (mag (x - y)) _ (by exact T3.out) (by omega) t1 t2).mono ?_; rintro e w3 ⟨v3, rfl, hv3, hbl3⟩
         rw [val_mag, hsum.out] at hv3
         obtain ⟨A3, n3, c3, rfl, k1, k2, k3⟩ := hv3.form
         have K3 := Lib.hid k3
         have r2 := (by exact KT2.out.next hbl3 rfl : Box w3 (g + 1 + 1) false (.slice none 0 0))
         have r0 := (by exact KT0.out.next hbl3 rfl : Box w3 g sa (.slice A n c))
         have r1 := (by exact KT1.out.next hbl3 rfl : Box w3 (g + 1) sb (.slice B m d))
         have hall := (by exact link_below hallt hbl3 (Nat.le_trans hgW hblt.size) rfl rfl rfl rfl : Below g w w3)
         have s0 := r0.cell0; have s1 := r0.cell1; have s2 := r1.cell0; have s3 := r1.cell1; have s4 := r2.cell0; have s5 := r2.cell1; have s6 := r2.frozen 0; have s7 := r2.frozen 1
         have R2 := Lib.hid r2; clear r0 r1 r2 k3 hv3))
  go_wp2
  exact bodyPost_ret (v := .agg #[.bool (decide (z < 0)), .slice A3 n3 c3]) (by simp [results, Try.results31, go_sem, s4, s5]) rfl ⟨_, rfl, iv_store k1 k2 K3.out R2.out _, by rw [hg0]; exact (hall.setCell (by simp; omega) _).setCell (by simp; omega) _⟩

theorem radd_any (va vb : Value) (a b : Int) (w : World) (ha : Iv w va a) (hb : Iv w vb b) (sa : Sz a 1000000) (sb : Sz b 1000000) : Calls Try.prog 31 #[va, vb] w (RetIv (a + b) w) := by
  obtain ⟨A, n, c, rfl, h1, h2, h3⟩ := ha.form
  obtain ⟨B, m, d, rfl, k1, k2, k3⟩ := hb.form
  have hn : n ≤ 1000000 := by rw [← h3.len]; exact sa.len
  have hm : m ≤ 1000000 := by rw [← k3.len]; exact sb.len
  have e : sgn (decide (a < 0)) a.natAbs + sgn (decide (b < 0)) b.natAbs = a + b := by rw [sgn_of, sgn_of]
  by_cases hs : decide (a < 0) = decide (b < 0)
  · rw [← hs]
    refine radd_same A B n c m d _ _ _ _ w h3 k3 hn hm ?_
    rw [← e, ← hs, sgn_add]
  · have hs2 : (decide (a < 0) == decide (b < 0)) = false := by simpa using hs
    by_cases hl : a.natAbs < b.natAbs
    · exact radd_lt A B n c m d _ _ _ _ _ w h3 k3 hn hm hs2 hl (by rw [← e, sgn_sub_lt hs hl])
    · exact radd_ge A B n c m d _ _ _ _ _ w h3 k3 hn hm hs2 (by omega) (by rw [← e, sgn_sub_ge hs (by omega)])
theorem rmul_any (va vb : Value) (a b : Int) (w : World) (ha : Iv w va a) (hb : Iv w vb b) (sa : Sz a 1000000) (sb : Sz b 1000000) : Calls Try.prog 35 #[va, vb] w (RetIv (a * b) w) := by
  obtain ⟨A, n, c, rfl, h1, h2, h3⟩ := ha.form
  obtain ⟨B, m, d, rfl, k1, k2, k3⟩ := hb.form
  exact rmul_at A B n c m d a b _ w h3 k3 (by rw [← h3.len]; exact sa.len) (by rw [← k3.len]; exact sb.len) h1 k1 rfl

set_option maxHeartbeats 1000000 in
theorem rneg_any (va : Value) (a z : Int) (w : World) (ha : Iv w va a) (sz : Sz a 1000000) (hz : -a = z) : Calls Try.prog 70 #[va] w (RetIv z w) := by
  obtain ⟨A, n, c, rfl, h1, h2, h3⟩ := ha.form
  have hn : n ≤ 1000000 := by rw [← h3.len]; exact sz.len
  have hsum := Lib.hid (show sgn (!decide (a < 0)) a.natAbs = z by rw [← hz]; rw [sgn_not, sgn_of])
  have HA := Lib.hid h3
  clear hz h3 ha sz
  generalize decide (a < 0) = sa at *
  go_enter Try.func70, Try.ntmps70
  go_wp2_with fail
  refine (made_any (!sa) A n c (mag a.natAbs) _ ((HA.out.alloc _).alloc _) (by omega) h1 h2).mono ?_
  rintro e w3 ⟨v3, rfl, hv3, hbl3⟩
  rw [val_mag, hsum.out] at hv3
  obtain ⟨A3, n3, c3, rfl, k1, k2, k3⟩ := hv3.form
  have K3 := Lib.hid k3
  have r2 : Box w3 (w.heap.size + 1) false (.slice none 0 0) := by
    have := (Box.new (w.alloc (Obj.cells #[Value.bool sa, Value.slice A n c] 27)) false (.slice none 0 0)).next hbl3 rfl
    simpa using this
  have s4 := r2.cell0; have s5 := r2.cell1; have s6 := r2.frozen 0; have s7 := r2.frozen 1
  have R2 := Lib.hid r2
  have hall : Below w.heap.size w w3 := ((Below.refl _ _).alloc (Nat.le_refl _) _).trans ((below_new hbl3).mono (by simp))
  clear r2 k3 hv3
  go_wp2
  exact bodyPost_ret (v := .agg #[.bool (decide (z < 0)), .slice A3 n3 c3]) (by simp [results, Try.results70, go_sem, s4, s5]) rfl ⟨_, rfl, iv_store k1 k2 K3.out R2.out _, (hall.setCell (by simp) _).setCell (by simp) _⟩

set_option maxHeartbeats 1000000 in
theorem rabs_any (va : Value) (a z : Int) (w : World) (ha : Iv w va a) (sz : Sz a 1000000) (hz : (a.natAbs : Int) = z) : Calls Try.prog 104 #[va] w (RetIv z w) := by
  obtain ⟨A, n, c, rfl, h1, h2, h3⟩ := ha.form
  have hn : n ≤ 1000000 := by rw [← h3.len]; exact sz.len
  have hsum := Lib.hid (show sgn (false) a.natAbs = z by rw [← hz]; rfl)
  have HA := Lib.hid h3
  clear hz h3 ha sz
  generalize decide (a < 0) = sa at *
  go_enter Try.func104, Try.ntmps104
  go_wp2_with fail
  refine (made_any (false) A n c (mag a.natAbs) _ ((HA.out.alloc _).alloc _) (by omega) h1 h2).mono ?_
  rintro e w3 ⟨v3, rfl, hv3, hbl3⟩
  rw [val_mag, hsum.out] at hv3
  obtain ⟨A3, n3, c3, rfl, k1, k2, k3⟩ := hv3.form
  have K3 := Lib.hid k3
  have r2 : Box w3 (w.heap.size + 1) false (.slice none 0 0) := by
    have := (Box.new (w.alloc (Obj.cells #[Value.bool sa, Value.slice A n c] 27)) false (.slice none 0 0)).next hbl3 rfl
    simpa using this
  have s4 := r2.cell0; have s5 := r2.cell1; have s6 := r2.frozen 0; have s7 := r2.frozen 1
  have R2 := Lib.hid r2
  have hall : Below w.heap.size w w3 := ((Below.refl _ _).alloc (Nat.le_refl _) _).trans ((below_new hbl3).mono (by simp))
  clear r2 k3 hv3
  go_wp2
  exact bodyPost_ret (v := .agg #[.bool (decide (z < 0)), .slice A3 n3 c3]) (by simp [results, Try.results104, go_sem, s4, s5]) rfl ⟨_, rfl, iv_store k1 k2 K3.out R2.out _, (hall.setCell (by simp) _).setCell (by simp) _⟩

set_option maxHeartbeats 2000000 in
theorem rsub_any (va vb : Value) (a b : Int) (w : World) (ha : Iv w va a) (hb : Iv w vb b) (sza : Sz a 1000000) (szb : Sz b 1000000) : Calls Try.prog 33 #[va, vb] w (RetIv (a - b) w) := by
  obtain ⟨A, n, c, rfl, h1, h2, h3⟩ := ha.form
  obtain ⟨B, m, d, rfl, k1, k2, k3⟩ := hb.form
  obtain ⟨z, hz⟩ : ∃ z, a - b = z := ⟨_, rfl⟩
  rw [hz]
  have HZ := Lib.hid hz
  have HIA := Lib.hid ha
  have HIB := Lib.hid hb
  have SA := Lib.hid sza
  have SB' := Lib.hid szb
  have hae := h3
  have hbe := k3
  clear hz ha hb sza szb h3 k3
  generalize decide (a < 0) = sa at *
  generalize decide (b < 0) = sb at *
  have ha := hae
  have hb := hbe
  clear hae hbe
  have HA := Lib.hid ha
  have HB := Lib.hid hb
  clear ha hb
  go_enter Try.func33, Try.ntmps33
  go_wp2_with fail
  obtain ⟨W, hW⟩ : ∃ W, W = ((w.alloc (Obj.cells #[Value.bool sa, Value.slice A n c] 27)).alloc (Obj.cells #[Value.bool sb, Value.slice B m d] 27)).alloc (Obj.cells #[Value.bool false, Value.slice none 0 0] 27) := ⟨_, rfl⟩
  rw [← hW]
  have IA : Hid (Iv W (.agg #[.bool sa, .slice A n c]) a) := by rw [hW]; exact ((HIA.out.alloc _).alloc _).alloc _
  have IB' : Hid (Iv W (.agg #[.bool sb, .slice B m d]) b) := by rw [hW]; exact ((HIB.out.alloc _).alloc _).alloc _
  obtain ⟨b0, b1, b2, a1, a2, hbW⟩ := two_boxes HA.out HB.out hW
  have c0 := b0.cell0
  have c1 := b0.cell1
  have c2 := b1.cell0
  have c3 := b1.cell1
  have B0 := Lib.hid b0
  have B1 := Lib.hid b1
  have B2 := Lib.hid b2
  have A1 := Lib.hid a1
  have A2 := Lib.hid a2
  clear hW b0 b1 b2 a1 a2
  have hgW := hbW.size
  generalize hg0 : w.heap.size = g at *
  have z1 : ¬ g + 1 + 1 = g := by omega
  have z2 : ¬ g = g + 1 + 1 := by omega
  go_region_held3 (fun w' => w'.cell? ⟨g, 0, none⟩ = some (.bool sa) ∧ w'.cell? ⟨g, 1, none⟩ = some (.slice A n c) ∧ w'.cell? ⟨g + 1, 0, none⟩ = some (.bool sb) ∧ w'.cell? ⟨g + 1, 1, none⟩ = some (.slice B m d)) (go_keep)
    (first
      | (go_at_call 70; refine (rneg_any _ b _ _ (by exact IB'.out) SB'.out rfl).mono ?_; rintro e wt ⟨vt, rfl, hvt, hblt⟩
         have VT := Lib.hid hvt
         have kt0 := (by exact B0.out.next hblt rfl : Box wt g sa (.slice A n c))
         have kt1 := (by exact B1.out.next hblt rfl : Box wt (g + 1) sb (.slice B m d))
         have kt2 := (by exact B2.out.next hblt rfl : Box wt (g + 1 + 1) false (.slice none 0 0))
         have hallt := (by exact link_below hbW hblt hgW rfl rfl rfl rfl : Below g w wt)
         have IAT := Lib.hid (iv_next IA.out hblt rfl)
         have u0 := kt0.cell0; have u1 := kt0.cell1; have u2 := kt1.cell0; have u3 := kt1.cell1
         have KT0 := Lib.hid kt0; have KT1 := Lib.hid kt1; have KT2 := Lib.hid kt2; clear kt0 kt1 kt2 hvt)
      | (go_at_call 31; refine (radd_any _ _ a (-b) _ (by exact IAT.out) (by exact VT.out) SA.out (Sz.neg SB'.out)).mono ?_; rintro e w3 ⟨v3, rfl, hv3, hbl3⟩
         rw [← Int.sub_eq_add_neg, HZ.out] at hv3
         obtain ⟨A3, n3, c3, rfl, k1, k2, k3⟩ := hv3.form
         have K3 := Lib.hid k3
         have r2 := (by exact KT2.out.next hbl3 rfl : Box w3 (g + 1 + 1) false (.slice none 0 0))
         have r0 := (by exact KT0.out.next hbl3 rfl : Box w3 g sa (.slice A n c))
         have r1 := (by exact KT1.out.next hbl3 rfl : Box w3 (g + 1) sb (.slice B m d))
         have hall := (by exact link_below hallt hbl3 (Nat.le_trans hgW hblt.size) rfl rfl rfl rfl : Below g w w3)
         have s0 := r0.cell0; have s1 := r0.cell1; have s2 := r1.cell0; have s3 := r1.cell1; have s4 := r2.cell0; have s5 := r2.cell1; have s6 := r2.frozen 0; have s7 := r2.frozen 1
         have R2 := Lib.hid r2; clear r0 r1 r2 k3 hv3))
  go_wp2
  exact bodyPost_ret (v := .agg #[.bool (decide (z < 0)), .slice A3 n3 c3]) (by simp [results, Try.results33, go_sem, s4, s5]) rfl ⟨_, rfl, iv_store k1 k2 K3.out R2.out _, by rw [hg0]; exact (hall.setCell (by simp; omega) _).setCell (by simp; omega) _⟩

set_option maxHeartbeats 1000000 in
theorem rcmp_any (va vb : Value) (a b : Int) (w : World) (ha : Iv w va a) (hb : Iv w vb b) (sza : Sz a 1000000) (szb : Sz b 1000000) : Calls Try.prog 29 #[va, vb] w (RetV (.int .i64 (cmpZ a b)) w) := by
  obtain ⟨A, n, c, rfl, h1, h2, h3⟩ := ha.form
  obtain ⟨B, m, d, rfl, k1, k2, k3⟩ := hb.form
  have hn : n ≤ 1000000 := by rw [← h3.len]; exact sza.len
  have hm : m ≤ 1000000 := by rw [← k3.len]; exact szb.len
  have HA := Lib.hid h3
  have HB := Lib.hid k3
  clear h3 k3 ha hb sza szb
  by_cases hna : a < 0
  · by_cases hnb : b < 0
    · have e : Hid (cmpZ a b = cmpN b.natAbs a.natAbs) := by
        unfold cmpZ cmpN Hid
        split <;> split <;> (try split) <;> omega
      rw [decide_eq_true hna, decide_eq_true hnb]
      clear hna hnb
      go_enter Try.func29, Try.ntmps29
      go_wp2_with fail
      refine (rcompared_any B A m n d c _ _ _ ((HB.out.alloc _).alloc _) ((HA.out.alloc _).alloc _) (by omega) (by omega)).mono ?_
      rintro e' w' ⟨rfl, q, rfl⟩
      go_wp2
      go_ret
      exact ⟨by rw [e.out]; rfl, below_drewN (((Below.refl _ _).alloc (Nat.le_refl _) _).alloc (by simp) _) _⟩
    · have e : Hid (cmpZ a b = -1) := cmpZ_lt (by omega)
      rw [decide_eq_true hna, decide_eq_false hnb]
      clear hna hnb
      go_enter Try.func29, Try.ntmps29
      go_wp2
      go_ret
      exact ⟨by rw [e.out]; rfl, ((Below.refl _ _).alloc (Nat.le_refl _) _).alloc (by simp) _⟩
  · by_cases hnb : b < 0
    · have e : Hid (cmpZ a b = 1) := cmpZ_gt (by omega)
      rw [decide_eq_false hna, decide_eq_true hnb]
      clear hna hnb
      go_enter Try.func29, Try.ntmps29
      go_wp2
      go_ret
      exact ⟨by rw [e.out]; rfl, ((Below.refl _ _).alloc (Nat.le_refl _) _).alloc (by simp) _⟩
    · have e : Hid (cmpZ a b = cmpN a.natAbs b.natAbs) := by
        unfold cmpZ cmpN Hid
        split <;> split <;> (try split) <;> omega
      rw [decide_eq_false hna, decide_eq_false hnb]
      clear hna hnb
      go_enter Try.func29, Try.ntmps29
      go_wp2_with fail
      refine (rcompared_any A B n m c d _ _ _ ((HA.out.alloc _).alloc _) ((HB.out.alloc _).alloc _) (by omega) (by omega)).mono ?_
      rintro e' w' ⟨rfl, q, rfl⟩
      go_wp2
      go_ret
      exact ⟨by rw [e.out]; rfl, below_drewN (((Below.refl _ _).alloc (Nat.le_refl _) _).alloc (by simp) _) _⟩
end Go.Proofs.Ytfigimfdojbkeaa
end

section
namespace Go.Proofs.Ytfigimfdojbkeaa
open Go.RowKit
attribute [local go_sem ↓] Go.wp_at_zero Go.wp_at_succ

set_option maxHeartbeats 2000000 in
theorem rdivMod_zero (va vb : Value) (a : Int) (w : World) (ha : Iv w va a) (hb : Iv w vb 0) : Calls Try.prog 20 #[va, vb] w (RetV (.tuple #[zeroI, zeroI, .int .i64 10]) w) := by
  obtain ⟨A, n, c, rfl, h1, h2, h3⟩ := ha.form
  obtain ⟨B, m, d, rfl, k1, k2, k3⟩ := hb.form
  have hm : m = 0 := hb.len0.2 rfl
  subst hm
  clear h3 k3 ha hb
  generalize decide (a < 0) = na at *
  generalize decide ((0 : Int) < 0) = nb at *
  go_enter Try.func20, Try.ntmps20
  go_wp2
  exact bodyPost_ret (v := .tuple #[zeroI, zeroI, .int .i64 10]) (by simp [results, Try.results20, go_sem, zeroI]) rfl ⟨rfl, ((((Below.refl _ _).alloc (Nat.le_refl _) _).alloc (by simp) _).alloc (by simp; omega) _).alloc (by simp; omega) _⟩

theorem below2_set {g g' : Nat} {w : World} {a : World} (h : Below g a w) (h1 : g ≤ g') (b : Bool) (u : Value) : Below g a ((w.setCell ⟨g', 0, none⟩ (.bool b)).setCell ⟨g', 1, none⟩ u) := (h.setCell h1 _).setCell h1 _

theorem iv_keep2 {w : World} {v : Value} {z : Int} {g g' : Nat} {b b' : Bool} {X X' : Option Addr} {p q p' q' : Nat} {u u' : Value} (h : Iv w v z) (hb : Box w g b (.slice X p q)) (hb' : Box w g' b' (.slice X' p' q')) (hne : g' ≠ g) (cb cb' : Bool) :
    Iv ((((w.setCell ⟨g, 0, none⟩ (.bool cb)).setCell ⟨g, 1, none⟩ u).setCell ⟨g', 0, none⟩ (.bool cb')).setCell ⟨g', 1, none⟩ u') v z :=
  iv_keep (iv_keep h hb cb) ((hb'.far hne _).far hne _) cb'

set_option maxHeartbeats 4000000 in
theorem rdivMod_at (A B : Option Addr) (n c m d : Nat) (a b zq zr : Int) (w : World) (ha : Wd w A n (mag a.natAbs)) (hb : Wd w B m (mag b.natAbs)) (hn : n ≤ 1000000) (hm : m ≤ 1000000) (hnc : n ≤ c) (_hmd : m ≤ d) (hcb : c ≤ 9223372036854775807) (_hdb : d ≤ 9223372036854775807)
    (hb0 : b ≠ 0) (hq : a / b = zq) (hr : a % b = zr) :
    Calls Try.prog 20 #[.agg #[.bool (decide (a < 0)), .slice A n c], .agg #[.bool (decide (b < 0)), .slice B m d]] w (RetDM zq zr w) := by
  have HA := Lib.hid ha
  have HB := Lib.hid hb
  have hm0 : m ≠ 0 := fun e => hb0 (hb.pos_iff.1 e)
  have hy0 : b.natAbs ≠ 0 := by omega
  have hdiv := Lib.hid (div_sgn (a := a) hb0)
  have hdiv1 := Lib.hid (div_sgn1 (a := a) hb0)
  rw [hq, hr] at hdiv hdiv1
  have hna : Hid (decide (a < 0) = true ↔ a < 0) := by unfold Hid; simp
  have hmod : a.natAbs % b.natAbs < b.natAbs := Nat.mod_lt _ (by omega)
  generalize decide (a < 0) = na at *
  generalize decide (b < 0) = nb at *
  have ht : ((m : Int) == 0) = false := by simp; omega
  clear ha hb hq hr
  go_enter Try.func20, Try.ntmps20
  go_wp2_with fail
  obtain ⟨W, hW⟩ : ∃ W, W = (((w.alloc (Obj.cells #[Value.bool na, Value.slice A n c] 27)).alloc (Obj.cells #[Value.bool nb, Value.slice B m d] 27)).alloc (Obj.cells #[Value.bool false, Value.slice none 0 0] 27)).alloc (Obj.cells #[Value.bool false, Value.slice none 0 0] 27) := ⟨_, rfl⟩
  rw [← hW]
  obtain ⟨b0, b1, b2, b3, a1, a2, hbW⟩ := three_boxes HA.out HB.out hW
  have B0 := Lib.hid b0
  have B1 := Lib.hid b1
  have B2 := Lib.hid b2
  have B3 := Lib.hid b3
  have A1 := Lib.hid a1
  have A2 := Lib.hid a2
  have DW := Lib.hid hbW
  clear hW b0 b1 b2 b3 a1 a2 hbW
  generalize hg0 : w.heap.size = g at *
  refine (rdivided_any A B n c m d a.natAbs b.natAbs _ A1.out A2.out hnc hcb (by omega) (by omega) hy0).mono ?_
  rintro e w1 ⟨v1, u1, rfl, ⟨Aq, nq, cq, rfl, q1, q2, q3⟩, ⟨Ar, nr, cr, rfl, r1, r2, r3⟩, hbl1⟩
  have hnq : nq ≤ 1000000 := by rw [← q3.len]; exact Nat.le_trans (mag_len_mono (Nat.div_le_self _ _)) (by rw [HA.out.len]; exact hn)
  have hnr : nr ≤ 1000000 := by rw [← r3.len]; exact Nat.le_trans (mag_len_mono (Nat.le_of_lt hmod)) (by rw [HB.out.len]; exact hm)
  have hnr0 : (nr = 0 ↔ a.natAbs % b.natAbs = 0) := by rw [← r3.len, mag_length_zero]
  have Q3 := Lib.hid q3
  have R3 := Lib.hid r3
  replace B0 := Lib.hid (B0.out.next hbl1 rfl)
  replace B1 := Lib.hid (B1.out.next hbl1 rfl)
  replace B2 := Lib.hid (B2.out.next hbl1 rfl)
  replace B3 := Lib.hid (B3.out.next hbl1 rfl)
  replace A2 := Lib.hid (A2.out.next hbl1 rfl)
  replace DW := Lib.hid (link_below DW.out hbl1 (by have := DW.out.size; omega) rfl rfl rfl rfl)
  clear q3 r3 hbl1 A1
  have c0 := B0.out.cell0
  have c2 := B1.out.cell0
  have c3 := B1.out.cell1
  by_cases hneg : na = true ∧ 0 < nr
  · obtain ⟨rfl, hp⟩ := hneg
    have hpI : (0 : Int) < (nr : Int) := by omega
    have hrp : 0 < a.natAbs % b.natAbs := Nat.pos_of_ne_zero (fun e => by have := hnr0.2 e; omega)
    obtain ⟨hs1, hs2⟩ := hdiv1.out (hna.out.1 rfl) hrp
    rw [show (true != nb) = !nb by cases nb <;> rfl] at hs1
    have HS1 := Lib.hid hs1
    have HS2 := Lib.hid hs2
    have hle := Nat.le_of_lt hmod
    clear hs1 hs2 hp hrp hnr0
    go_wp2_with fail
    refine (radded_any Aq (some ⟨w1.heap.size, 0, none⟩) nq 1 cq 1 (a.natAbs / b.natAbs) 1 _ (Q3.out.alloc _) (by have := (Blk.one (w := w1) (a := 1) (i := 1) (by omega) rfl).whole; rw [mag_one (by omega) (by omega)]; exact this) (by omega) (by omega)).mono ?_
    rintro e w2 ⟨v2, rfl, ⟨Ap, np, cp, rfl, p1, p2, p3⟩, hbl2⟩
    have hnp : np ≤ 1000001 := by rw [← p3.len]; exact sum_len (Q3.out.len) (show (mag 1).length = 1 by rw [mag_one (by omega) (by omega)]; rfl) (by omega) (by omega)
    have P3 := Lib.hid p3
    have hbl2' := below_new hbl2
    replace B0 := Lib.hid (B0.out.next hbl2' rfl)
    replace B1 := Lib.hid (B1.out.next hbl2' rfl)
    replace B2 := Lib.hid (B2.out.next hbl2' rfl)
    replace B3 := Lib.hid (B3.out.next hbl2' rfl)
    replace A2 := Lib.hid (A2.out.next hbl2' rfl)
    replace R3 := Lib.hid (R3.out.next hbl2' rfl)
    replace DW := Lib.hid (link_below DW.out hbl2' (by have := DW.out.size; omega) rfl rfl rfl rfl)
    clear p3 hbl2 hbl2' c0 c2 c3
    have c3 := B1.out.cell1
    go_wp2_with fail
    refine (rtaken_any B Ar m nr d cr b.natAbs (a.natAbs % b.natAbs) _ A2.out R3.out (by omega) (by omega) hle).mono ?_
    rintro e w3 ⟨v3, rfl, ⟨As, ns, cs, rfl, s1, s2, s3⟩, hbl3⟩
    have hns : ns ≤ 1000000 := by rw [← s3.len]; exact Nat.le_trans (mag_len_mono (Nat.sub_le _ _)) (by rw [A2.out.len]; exact hm)
    have S3 := Lib.hid s3
    replace B0 := Lib.hid (B0.out.next hbl3 rfl)
    replace B1 := Lib.hid (B1.out.next hbl3 rfl)
    replace B2 := Lib.hid (B2.out.next hbl3 rfl)
    replace B3 := Lib.hid (B3.out.next hbl3 rfl)
    replace P3 := Lib.hid (P3.out.next hbl3 rfl)
    replace DW := Lib.hid (link_below DW.out hbl3 (by have := DW.out.size; omega) rfl rfl rfl rfl)
    clear s3 hbl3 c3
    have c0 := B0.out.cell0
    have c2 := B1.out.cell0
    go_wp2_with fail
    refine (made_any (!nb) Ap np cp (mag (a.natAbs / b.natAbs + 1)) _ P3.out (by omega) p1 p2).mono ?_
    rintro e w4 ⟨v4, rfl, hv4, hbl4⟩
    rw [val_mag, HS1.out] at hv4
    obtain ⟨A4, n4, c4, rfl, x1, x2, x3⟩ := hv4.form
    have V4 := Lib.hid hv4
    replace B2 := Lib.hid (B2.out.next hbl4 rfl)
    replace B3 := Lib.hid (B3.out.next hbl4 rfl)
    replace S3 := Lib.hid (S3.out.next hbl4 rfl)
    replace DW := Lib.hid (link_below DW.out hbl4 (by have := DW.out.size; omega) rfl rfl rfl rfl)
    clear hv4 x3 hbl4 c0 c2
    go_wp2_with fail
    refine (made_any false As ns cs (mag (b.natAbs - a.natAbs % b.natAbs)) _ S3.out (by omega) s1 s2).mono ?_
    rintro e w5 ⟨v5, rfl, hv5, hbl5⟩
    rw [val_mag, HS2.out] at hv5
    obtain ⟨A5, n5, c5, rfl, y1, y2, y3⟩ := hv5.form
    have V5 := Lib.hid hv5
    replace B2 := Lib.hid (B2.out.next hbl5 rfl)
    replace B3 := Lib.hid (B3.out.next hbl5 rfl)
    replace V4 := Lib.hid (iv_next V4.out hbl5 rfl)
    replace DW := Lib.hid (link_below DW.out hbl5 (by have := DW.out.size; omega) rfl rfl rfl rfl)
    clear hv5 y3 hbl5
    have c0 := B2.out.cell0
    have c1 := B2.out.cell1
    have c2 := B3.out.cell0
    have c3 := B3.out.cell1
    have f0 := B2.out.frozen 0
    have f1 := B2.out.frozen 1
    have f2 := B3.out.frozen 0
    have f3 := B3.out.frozen 1
    go_wp2
    exact bodyPost_ret (v := .tuple #[.agg #[.bool (decide (zq < 0)), .slice A4 n4 c4], .agg #[.bool (decide (zr < 0)), .slice A5 n5 c5], .int .i64 0]) (by simp [results, Try.results20, go_sem, c0, c1, c2, c3]) rfl
      ⟨_, _, rfl, iv_keep2 V4.out B2.out B3.out (by omega) _ _, iv_keep2 V5.out B2.out B3.out (by omega) _ _, by rw [hg0]; exact below2_set (below2_set DW.out (by omega) _ _) (by omega) _ _⟩
  · have hcond : (na && decide ((0 : Int) < (nr : Int))) = false := by
      cases na with
      | false => rfl
      | true => simp only [Bool.true_and, decide_eq_false_iff_not]; intro h; exact hneg ⟨rfl, by omega⟩
    obtain ⟨hs1, hs2⟩ := hdiv.out (fun ⟨h1, h2⟩ => hneg ⟨hna.out.2 h1, Nat.pos_of_ne_zero (fun e => by have := hnr0.1 e; omega)⟩)
    have HS1 := Lib.hid hs1
    have HS2 := Lib.hid hs2
    clear hs1 hs2 hnr0
    have hway : na = false ∨ (na = true ∧ decide ((0 : Int) < (nr : Int)) = false) := by
      cases na with
      | false => exact .inl rfl
      | true => exact .inr ⟨rfl, by simpa using hcond⟩
    clear hcond hneg
    rcases hway with rfl | ⟨rfl, hnrd⟩
    · rw [show (false != nb) = nb by cases nb <;> rfl] at HS1
      go_wp2_with fail
      refine (made_any (nb) Aq nq cq (mag (a.natAbs / b.natAbs)) _ Q3.out (by omega) q1 q2).mono ?_
      rintro e w4 ⟨v4, rfl, hv4, hbl4⟩
      rw [val_mag, HS1.out] at hv4
      obtain ⟨A4, n4, c4, rfl, x1, x2, x3⟩ := hv4.form
      have V4 := Lib.hid hv4
      replace B2 := Lib.hid (B2.out.next hbl4 rfl)
      replace B3 := Lib.hid (B3.out.next hbl4 rfl)
      replace R3 := Lib.hid (R3.out.next hbl4 rfl)
      replace DW := Lib.hid (link_below DW.out hbl4 (by have := DW.out.size; omega) rfl rfl rfl rfl)
      clear hv4 x3 hbl4 c0 c2
      go_wp2_with fail
      refine (made_any false Ar nr cr (mag (a.natAbs % b.natAbs)) _ R3.out (by omega) r1 r2).mono ?_
      rintro e w5 ⟨v5, rfl, hv5, hbl5⟩
      rw [val_mag, HS2.out] at hv5
      obtain ⟨A5, n5, c5, rfl, y1, y2, y3⟩ := hv5.form
      have V5 := Lib.hid hv5
      replace B2 := Lib.hid (B2.out.next hbl5 rfl)
      replace B3 := Lib.hid (B3.out.next hbl5 rfl)
      replace V4 := Lib.hid (iv_next V4.out hbl5 rfl)
      replace DW := Lib.hid (link_below DW.out hbl5 (by have := DW.out.size; omega) rfl rfl rfl rfl)
      clear hv5 y3 hbl5
      have c0 := B2.out.cell0
      have c1 := B2.out.cell1
      have c2 := B3.out.cell0
      have c3 := B3.out.cell1
      have f0 := B2.out.frozen 0
      have f1 := B2.out.frozen 1
      have f2 := B3.out.frozen 0
      have f3 := B3.out.frozen 1
      go_wp2
      exact bodyPost_ret (v := .tuple #[.agg #[.bool (decide (zq < 0)), .slice A4 n4 c4], .agg #[.bool (decide (zr < 0)), .slice A5 n5 c5], .int .i64 0]) (by simp [results, Try.results20, go_sem, c0, c1, c2, c3]) rfl
        ⟨_, _, rfl, iv_keep2 V4.out B2.out B3.out (by omega) _ _, iv_keep2 V5.out B2.out B3.out (by omega) _ _, by rw [hg0]; exact below2_set (below2_set DW.out (by omega) _ _) (by omega) _ _⟩
    · rw [show (true != nb) = !nb by cases nb <;> rfl] at HS1
      have hnz : nr = 0 := by simpa using hnrd
      clear hnrd
      subst hnz
      go_wp2_with fail
      refine (made_any (!nb) Aq nq cq (mag (a.natAbs / b.natAbs)) _ Q3.out (by omega) q1 q2).mono ?_
      rintro e w4 ⟨v4, rfl, hv4, hbl4⟩
      rw [val_mag, HS1.out] at hv4
      obtain ⟨A4, n4, c4, rfl, x1, x2, x3⟩ := hv4.form
      have V4 := Lib.hid hv4
      replace B2 := Lib.hid (B2.out.next hbl4 rfl)
      replace B3 := Lib.hid (B3.out.next hbl4 rfl)
      replace R3 := Lib.hid (R3.out.next hbl4 rfl)
      replace DW := Lib.hid (link_below DW.out hbl4 (by have := DW.out.size; omega) rfl rfl rfl rfl)
      clear hv4 x3 hbl4 c0 c2
      go_wp2_with fail
      refine (made_any false Ar 0 cr (mag (a.natAbs % b.natAbs)) _ R3.out (by omega) r1 r2).mono ?_
      rintro e w5 ⟨v5, rfl, hv5, hbl5⟩
      rw [val_mag, HS2.out] at hv5
      obtain ⟨A5, n5, c5, rfl, y1, y2, y3⟩ := hv5.form
      have V5 := Lib.hid hv5
      replace B2 := Lib.hid (B2.out.next hbl5 rfl)
      replace B3 := Lib.hid (B3.out.next hbl5 rfl)
      replace V4 := Lib.hid (iv_next V4.out hbl5 rfl)
      replace DW := Lib.hid (link_below DW.out hbl5 (by have := DW.out.size; omega) rfl rfl rfl rfl)
      clear hv5 y3 hbl5
      have c0 := B2.out.cell0
      have c1 := B2.out.cell1
      have c2 := B3.out.cell0
      have c3 := B3.out.cell1
      have f0 := B2.out.frozen 0
      have f1 := B2.out.frozen 1
      have f2 := B3.out.frozen 0
      have f3 := B3.out.frozen 1
      go_wp2
      exact bodyPost_ret (v := .tuple #[.agg #[.bool (decide (zq < 0)), .slice A4 n4 c4], .agg #[.bool (decide (zr < 0)), .slice A5 n5 c5], .int .i64 0]) (by simp [results, Try.results20, go_sem, c0, c1, c2, c3]) rfl
        ⟨_, _, rfl, iv_keep2 V4.out B2.out B3.out (by omega) _ _, iv_keep2 V5.out B2.out B3.out (by omega) _ _, by rw [hg0]; exact below2_set (below2_set DW.out (by omega) _ _) (by omega) _ _⟩

theorem rdivMod_any (va vb : Value) (a b : Int) (w : World) (ha : Iv w va a) (hb : Iv w vb b) (sa : Sz a 1000000) (sb : Sz b 1000000) (hb0 : b ≠ 0) : Calls Try.prog 20 #[va, vb] w (RetDM (a / b) (a % b) w) := by
  obtain ⟨A, n, c, rfl, h1, h2, h3⟩ := ha.form
  obtain ⟨B, m, d, rfl, k1, k2, k3⟩ := hb.form
  exact rdivMod_at A B n c m d a b _ _ w h3 k3 (by rw [← h3.len]; exact sa.len) (by rw [← k3.len]; exact sb.len) h1 k1 h2 k2 hb0 rfl rfl

set_option maxHeartbeats 2000000 in
theorem rgcd_any (va vb : Value) (a b z : Int) (w : World) (ha : Iv w va a) (hb : Iv w vb b) (sza : Sz a 1000000) (szb : Sz b 1000000) (hz : (Int.gcd a b : Int) = z) : Calls Try.prog 26 #[va, vb] w (RetIv z w) := by
  obtain ⟨A, n, c, rfl, h1, h2, h3⟩ := ha.form
  obtain ⟨B, m, d, rfl, k1, k2, k3⟩ := hb.form
  have hn : n ≤ 1000000 := by rw [← h3.len]; exact sza.len
  have hm : m ≤ 1000000 := by rw [← k3.len]; exact szb.len
  have hsum := Lib.hid (show sgn false (Nat.gcd a.natAbs b.natAbs) = z by rw [← hz]; rfl)
  have HLEN : Hid ((mag (Nat.gcd a.natAbs b.natAbs)).length ≤ 3000000) := Nat.le_trans (mag_len_mono (gcd_le_add _ _)) (Nat.le_trans (sum_len h3.len k3.len (show n ≤ 1000000 by omega) (by omega)) (by omega))
  have HA := Lib.hid h3
  have HB := Lib.hid k3
  clear h3 k3 ha hb sza szb hz
  generalize decide (a < 0) = sa at *
  generalize decide (b < 0) = sb at *
  go_enter Try.func26, Try.ntmps26
  go_wp2_with fail
  obtain ⟨W, hW⟩ : ∃ W, W = ((w.alloc (Obj.cells #[Value.bool sa, Value.slice A n c] 27)).alloc (Obj.cells #[Value.bool sb, Value.slice B m d] 27)).alloc (Obj.cells #[Value.bool false, Value.slice none 0 0] 27) := ⟨_, rfl⟩
  rw [← hW]
  obtain ⟨b0, b1, b2, a1, a2, hbW⟩ := two_boxes HA.out HB.out hW
  have B2 := Lib.hid b2
  have A1 := Lib.hid a1
  have A2 := Lib.hid a2
  have DW := Lib.hid hbW
  clear hW b0 b1 b2 a1 a2 hbW
  generalize hg0 : w.heap.size = g at *
  refine (rcommon_any A B n c m d a.natAbs b.natAbs _ A1.out A2.out h1 k1 h2 k2 (by omega) (by omega)).mono ?_
  rintro e w1 ⟨v1, rfl, ⟨At, nt, ct, rfl, t1, t2, t3⟩, hbl1⟩
  have hnt : nt ≤ 3000000 := by rw [← t3.len]; exact HLEN.out
  have T3 := Lib.hid t3
  replace B2 := Lib.hid (B2.out.next hbl1 rfl)
  replace DW := Lib.hid (link_below DW.out hbl1 (by have := DW.out.size; omega) rfl rfl rfl rfl)
  clear t3 hbl1
  go_wp2_with fail
  refine (made_any false At nt ct (mag (Nat.gcd a.natAbs b.natAbs)) _ T3.out (by omega) t1 t2).mono ?_
  rintro e w3 ⟨v3, rfl, hv3, hbl3⟩
  rw [val_mag, hsum.out] at hv3
  obtain ⟨A3, n3, c3, rfl, x1, x2, x3⟩ := hv3.form
  have V3 := Lib.hid hv3
  replace B2 := Lib.hid (B2.out.next hbl3 rfl)
  replace DW := Lib.hid (link_below DW.out hbl3 (by have := DW.out.size; omega) rfl rfl rfl rfl)
  clear hv3 x3 hbl3
  have s4 := B2.out.cell0; have s5 := B2.out.cell1; have s6 := B2.out.frozen 0; have s7 := B2.out.frozen 1
  go_wp2
  exact bodyPost_ret (v := .agg #[.bool (decide (z < 0)), .slice A3 n3 c3]) (by simp [results, Try.results26, go_sem, s4, s5]) rfl ⟨_, rfl, iv_keep V3.out B2.out _, by rw [hg0]; exact below2_set DW.out (by omega) _ _⟩
end Go.Proofs.Ytfigimfdojbkeaa
end

section
namespace Go.Proofs.Ytfigimfdojbkeaa
open Go.RowKit
attribute [local go_sem ↓] Go.wp_at_zero Go.wp_at_succ

set_option maxHeartbeats 2000000 in
theorem rsmall_any (va : Value) (z : Int) (w : World) (ha : Iv w va z) (sa : Sz z 1000000) : Calls Try.prog 107 #[va] w (RetV (smallV z) w) := by
  obtain ⟨A, n, c, rfl, h1, h2, h3⟩ := ha.form
  have H3 := Lib.hid h3
  have hn : n ≤ 1000000 := by rw [← h3.len]; exact sa.len
  clear sa ha
  by_cases hn2 : n ≤ 2
  · have hxl := Lib.hid (number_val h3.len hn2)
    have hxb : z.natAbs < 18446744073709551616 := by
      rw [← hxl.out]
      have := (mag_wds z.natAbs).getD 0
      have := (mag_wds z.natAbs).getD 1
      omega
    clear h3
    by_cases hneg : z < 0
    · obtain ⟨x, rfl⟩ : ∃ x : Nat, z = -(x : Int) := ⟨z.natAbs, by omega⟩
      rw [decide_eq_true hneg]
      rw [show (-(x : Int)).natAbs = x by omega] at *
      by_cases hle : x ≤ 9223372036854775808
      · have hres : Hid (smallV (-(x : Int)) = .tuple #[.int .i64 (-(x : Int)), .bool true]) := by unfold smallV Hid; rw [if_pos (by omega)]
        have hx1 : (1 : Int) ≤ (x : Int) := by omega
        have hx2 : (x : Int) ≤ 9223372036854775808 := by omega
        have hx3 : -((x : Int) - 1) - 1 = -(x : Int) := by omega
        have HX3 := Lib.hid hx3
        clear hneg hx3
        go_enter Try.func107, Try.ntmps107
        go_wp2_with fail
        refine (rnumber_any A n c _ _ (H3.out.alloc _) (by omega)).mono ?_
        rintro e w2 ⟨rfl, rfl⟩
        rw [hxl.out]
        go_wp2
        go_ret2
        exact ⟨by rw [hres.out, ← HX3.out]; rfl, (Below.refl _ _).alloc (Nat.le_refl _) _⟩
      · have hres : Hid (smallV (-(x : Int)) = .tuple #[.int .i64 0, .bool false]) := by unfold smallV Hid; rw [if_neg (by omega)]
        have hx1 : decide ((x : Int) ≤ 9223372036854775808) = false := by rw [decide_eq_false_iff_not]; omega
        clear hneg
        go_enter Try.func107, Try.ntmps107
        go_wp2_with fail
        refine (rnumber_any A n c _ _ (H3.out.alloc _) (by omega)).mono ?_
        rintro e w2 ⟨rfl, rfl⟩
        rw [hxl.out]
        go_wp2
        go_ret2
        exact ⟨by rw [hres.out]; rfl, (Below.refl _ _).alloc (Nat.le_refl _) _⟩
    · obtain ⟨x, rfl⟩ : ∃ x : Nat, z = (x : Int) := ⟨z.natAbs, by omega⟩
      rw [decide_eq_false hneg]
      rw [Int.natAbs_natCast] at *
      by_cases hle : x < 9223372036854775808
      · have hres : Hid (smallV (x : Int) = .tuple #[.int .i64 (x : Int), .bool true]) := by unfold smallV Hid; rw [if_pos (by omega)]
        have hx2 : True → decide ((x : Int) < 9223372036854775808) = true := fun _ => decide_eq_true (by omega)
        have hw : Hid (wrap64 (x : Int) = x) := IntWalk.wrap64_in _ (by omega)
        clear hneg hxb hle
        go_enter Try.func107, Try.ntmps107
        go_wp2_with fail
        refine (rnumber_any A n c _ _ (H3.out.alloc _) (by omega)).mono ?_
        rintro e w2 ⟨rfl, rfl⟩
        rw [hxl.out]
        go_wp2
        go_ret2
        exact ⟨by rw [hres.out]; exact congrArg (fun t => Ending.returned (.tuple #[.int .i64 t, .bool true])) hw.out, (Below.refl _ _).alloc (Nat.le_refl _) _⟩
      · have hres : Hid (smallV (x : Int) = .tuple #[.int .i64 0, .bool false]) := by unfold smallV Hid; rw [if_neg (by omega)]
        have hx1 : True → decide ((x : Int) < 9223372036854775808) = false := fun _ => decide_eq_false (by omega)
        clear hneg hxb hle
        go_enter Try.func107, Try.ntmps107
        go_wp2_with fail
        refine (rnumber_any A n c _ _ (H3.out.alloc _) (by omega)).mono ?_
        rintro e w2 ⟨rfl, rfl⟩
        rw [hxl.out]
        go_wp2
        go_ret2
        exact ⟨by rw [hres.out]; rfl, (Below.refl _ _).alloc (Nat.le_refl _) _⟩
  · have hxb : 18446744073709551616 ≤ z.natAbs := by
      rcases Nat.lt_or_ge z.natAbs 18446744073709551616 with h | h
      · have := mag_length_le (n := z.natAbs) (k := 2) (by rw [show pw 2 = 18446744073709551616 from rfl]; exact h)
        rw [h3.len] at this
        omega
      · exact h
    have hres : Hid (smallV z = .tuple #[.int .i64 0, .bool false]) := by unfold smallV Hid; rw [if_neg (by omega)]
    have hnI : (2 : Int) < (n : Int) := by omega
    generalize decide (z < 0) = na at *
    clear hn2 h3 hxb
    go_enter Try.func107, Try.ntmps107
    go_wp2
    go_ret2
    exact ⟨by rw [hres.out]; rfl, (Below.refl _ _).alloc (Nat.le_refl _) _⟩

set_option maxHeartbeats 2000000 in
theorem rbits_any (va : Value) (z : Int) (w : World) (ha : Iv w va z) (sa : Sz z 1000000) : Calls Try.prog 36 #[va] w (RetV (.int .i64 (bl z.natAbs : Nat)) w) := by
  obtain ⟨A, n, c, rfl, h1, h2, h3⟩ := ha.form
  have H3 := Lib.hid h3
  have hn : n ≤ 1000000 := by rw [← h3.len]; exact sa.len
  have hl := h3.len
  have hz := h3.pos_iff
  clear sa ha
  generalize decide (z < 0) = na at *
  by_cases h0 : n = 0
  · have hz0 := hz.1 h0
    subst h0
    have e : Hid (bl z.natAbs = 0) := by rw [hz0]; rfl
    clear h3 hz hz0
    go_enter Try.func36, Try.ntmps36
    go_wp2
    go_ret
    exact ⟨by rw [e.out]; rfl, (Below.refl _ _).alloc (Nat.le_refl _) _⟩
  · have hzn : z.natAbs ≠ 0 := by have := fun e => h0 (hz.2 e); omega
    have hb := bl_top z.natAbs hzn
    rw [hl] at hb
    have HB := Lib.hid hb
    obtain ⟨ab, ao, rfl, _, hca⟩ := (h3.alloc (Obj.cells #[Value.bool na, Value.slice A n c] 27)).cells (by omega)
    have c1 := hca (n - 1) (by omega)
    have hg := (mag_wds z.natAbs).getD (n - 1)
    have ht : ((n : Int) == 0) = false := by simp; omega
    have i0 : (0 : Int) ≤ (n : Int) - 1 := by omega
    have i1 : (n : Int) - 1 < n := by omega
    have i2 : ((n : Int) - 1).toNat = n - 1 := by omega
    have i3 : (1 : Int) ≤ n := by omega
    have i4 : (n : Int) ≤ 1000000 := by omega
    generalize hgt : gd (mag z.natAbs) (n - 1) = top at *
    have hbl2 : bl top ≤ 32 := bl_le32 hg
    have HGT := Lib.hid hgt
    clear hca h3 hz h0 hb hl hgt
    go_enter Try.func36, Try.ntmps36
    go_wp2
    go_loop [4, 5] (fun o t => ∃ t' b : Nat, t' < 4294967296 ∧ t = .int .u32 t' ∧ b ≤ 32 ∧ o = .int .i64 (32 * ((n : Int) - 1) + b) ∧ Hid (bl t' + b = bl top)) (fun _ t => (intOf t).toNat)
    case atStart => exact ⟨top, 0, hg, rfl, by omega, by simp, rfl⟩
    case round =>
      obtain ⟨t', b, ht', rfl, hb, rfl, hbl⟩ := hrel
      by_cases h0 : t' = 0
      · subst h0
        have hfin : Hid (32 * ((n : Int) - 1) + (b : Int) = ((bl z.natAbs : Nat) : Int)) := by
          unfold Hid
          have e1 := HB.out
          have e2 := hbl.out
          rw [bl_zero] at e2
          omega
        go_wp2
        go_ret
        exact ⟨ret_int hfin.out, (Below.refl _ _).alloc (Nat.le_refl _) _⟩
      · have hh := bl_half h0
        have hb2 : b < 32 := by have := hbl.out; omega
        have hbl3 : Hid (bl (t' / 2) + (b + 1) = bl top) := by have := hbl.out; unfold Hid; omega
        have j1 : (0 : Int) < (t' : Int) := by omega
        clear hh
        go_wp2
        go_round
        case rel => exact ⟨t' / 2, b + 1, by omega, by go_num, by omega, by simp only [Value.int.injEq, true_and]; omega, hbl3⟩
        case measure => simp [intOf]; omega
end Go.Proofs.Ytfigimfdojbkeaa
end

section
namespace Go.Proofs.Ytfigimfdojbkeaa
open Go.RowKit
attribute [local go_sem ↓] Go.wp_at_zero Go.wp_at_succ

theorem pw_gt {n N : Nat} (h : n < 32 * N) : 2 ^ n < pw N := by rw [pw_two]; exact Nat.pow_lt_pow_right (by omega) h
theorem pw_ge {n N : Nat} (h : n ≤ 32 * N) : 2 ^ n ≤ pw N := by rw [pw_two]; exact Nat.pow_le_pow_right (by omega) h
theorem bits_sz {z : Int} {N : Nat} (h : Sz z N) : bl z.natAbs ≤ 32 * N := (bl_lt _ _).2 (by have := h.lt; rwa [pw_two] at this)
theorem sz_pow {a : Int} {k : Nat} (h : bl a.natAbs * k ≤ 20000) : Sz (a ^ k) 1000 := by
  refine ⟨?_⟩
  rw [Int.natAbs_pow]
  have h1 := lt_bl a.natAbs
  have h2 : a.natAbs ^ k ≤ (2 ^ bl a.natAbs) ^ k := Nat.pow_le_pow_left (Nat.le_of_lt h1) k
  rw [← Nat.pow_mul] at h2
  exact Nat.lt_of_le_of_lt h2 (pw_gt (by omega))
theorem bits_half {b k : Nat} (h : b * k ≤ 20000) : b * (k / 2) ≤ 20000 := Nat.le_trans (Nat.mul_le_mul_left _ (Nat.div_le_self _ _)) h
theorem bits_twice {b k : Nat} (h : b * k ≤ 20000) : b * (k / 2 + k / 2) ≤ 20000 := Nat.le_trans (Nat.mul_le_mul_left _ (by omega)) h

set_option maxHeartbeats 4000000 in
theorem rpower_any : ∀ (n : Nat) (va : Value) (a zn : Int) (w : World), zn = (n : Int) → n ≤ 4096 → Iv w va a → Sz a 1000 → bl a.natAbs * n ≤ 20000 →
    Calls Try.prog 115 #[va, .int .i64 zn] w (RetIv (a ^ n) w) := by
  intro n
  induction n using Nat.strongRecOn with
  | ind n ih =>
    intro va a zn w hzn hn4 ha hsa hbits
    by_cases h0 : n = 0
    · subst h0
      obtain ⟨A, m, c, rfl, _, _, _⟩ := ha.form
      have hzn' : zn = 0 := by omega
      subst hzn'
      rw [show a ^ 0 = (1 : Int) from Int.pow_zero a]
      clear ih ha hbits hsa hzn
      generalize decide (a < 0) = sa at *
      go_enter Try.func115, Try.ntmps115
      go_wp2_with fail
      refine (rof_any 1 _ (by omega) (by omega)).mono ?_
      rintro e w2 ⟨v2, rfl, hv2, hbl2⟩
      obtain ⟨A2, n2, c2, rfl, k1, k2, k3⟩ := hv2.form
      have HV := Lib.hid hv2
      have hbx2 : Box w2 (w.heap.size + 1) false (.slice none 0 0) := by
        have := (Box.new (w.alloc (Obj.cells #[Value.bool sa, Value.slice A m c] 27)) false (.slice none 0 0)).next hbl2 rfl
        simpa using this
      have q0 := hbx2.cell0
      have q1 := hbx2.cell1
      have q2 := hbx2.frozen 0
      have q3 := hbx2.frozen 1
      have HBX := Lib.hid hbx2
      have hbl02 : Below w.heap.size w w2 := ((Below.refl _ _).alloc (Nat.le_refl _) _).trans ((below_new hbl2).mono (by simp))
      generalize hz : decide ((1 : Int) < 0) = nz at *
      clear k3 hv2 hbx2 hz
      go_wp2
      exact bodyPost_ret (v := .agg #[.bool nz, .slice A2 n2 c2]) (by simp [results, Try.results115, go_sem, q0, q1]) rfl ⟨_, rfl, iv_keep HV.out HBX.out _, below2_set hbl02 (by omega) _ _⟩
    · have hih := ih (n / 2) (by omega)
      have HIH := Lib.hid hih
      have hzd : zn / 2 = ((n / 2 : Nat) : Int) := by omega
      have HZD := Lib.hid hzd
      have hz0 : (zn == 0) = false := by simp; omega
      have hz1 : 0 ≤ zn := by omega
      have SA := Lib.hid hsa
      have SH : Hid (Sz (a ^ (n / 2)) 1000) := sz_pow (bits_half hbits)
      have SS : Hid (Sz (a ^ (n / 2) * a ^ (n / 2)) 1000) := by unfold Hid; rw [← Int.pow_add]; exact sz_pow (bits_twice hbits)
      have hbh := bits_half hbits
      obtain ⟨A, m, c, rfl, _, _, _⟩ := ha.form
      have HA := Lib.hid ha
      have hfin : Hid (if n % 2 = 1 then a ^ n = a ^ (n / 2) * a ^ (n / 2) * a else a ^ n = a ^ (n / 2) * a ^ (n / 2)) := by
        unfold Hid
        split
        · rw [← Int.pow_add, ← Int.pow_succ]; congr 1; omega
        · rw [← Int.pow_add]; congr 1; omega
      have hodd : n % 2 = 1 ∧ zn % 2 = 1 ∨ n % 2 = 0 ∧ zn % 2 = 0 := by omega
      have hn2 : n / 2 ≤ 4096 := by omega
      have hzb : zn ≤ 4096 := by omega
      clear ih hih hsa ha hbits hzn hzd h0 hn4
      generalize decide (a < 0) = sa at *
      go_enter Try.func115, Try.ntmps115
      go_wp2_with fail
      obtain ⟨W, hW⟩ : ∃ W, W = (w.alloc (Obj.cells #[Value.bool sa, Value.slice A m c] 27)).alloc (Obj.cells #[Value.bool false, Value.slice none 0 0] 27) := ⟨_, rfl⟩
      rw [← hW]
      have BX0 : Hid (Box W w.heap.size sa (.slice A m c)) := by rw [hW]; exact (Box.new _ _ _).alloc _
      have IV0 : Hid (Iv W (.agg #[.bool sa, .slice A m c]) a) := by rw [hW]; exact (HA.out.alloc _).alloc _
      have BXr : Hid (Box W (w.heap.size + 1) false (.slice none 0 0)) := by rw [hW]; have := Box.new (w.alloc (Obj.cells #[Value.bool sa, Value.slice A m c] 27)) false (.slice none 0 0); simpa [Hid] using this
      have DW : Hid (Below w.heap.size w W) := by rw [hW]; exact ((Below.refl _ _).alloc (Nat.le_refl _) _).alloc (by simp) _
      clear hW
      generalize hg : w.heap.size = g at *
      refine (HIH.out _ a (zn / 2) _ HZD.out hn2 IV0.out SA.out hbh).mono ?_
      rintro e y1 ⟨_, rfl, hq, hb⟩
      obtain ⟨X1, p1, q1, rfl, _, _, _⟩ := hq.form
      have Q := Lib.hid hq; have B := Lib.hid hb; clear hq hb
      generalize hs : decide ((a ^ (n / 2) : Int) < 0) = s1 at *
      clear hs
      go_upto_region 4 with fail
      obtain ⟨W1, hW⟩ : ∃ W1, W1 = y1.alloc (Obj.cells #[Value.bool s1, Value.slice X1 p1 q1] 27) := ⟨_, rfl⟩
      rw [← hW]
      have BX1 : Hid (Box W1 y1.heap.size s1 (.slice X1 p1 q1)) := by rw [hW]; exact Box.new _ _ _
      have IV1 : Hid (Iv W1 (.agg #[.bool s1, .slice X1 p1 q1]) (a ^ (n / 2))) := by rw [hW]; exact Q.out.alloc _
      have hd : Below W.heap.size W W1 := by rw [hW]; exact B.out.alloc B.out.size _
      clear hW Q B
      generalize hgn : y1.heap.size = g1 at *
      clear hgn
      replace BX0 := Lib.hid (BX0.out.next hd rfl); replace IV0 := Lib.hid (iv_next IV0.out hd rfl)
      replace BXr := Lib.hid (BXr.out.next hd rfl)
      replace DW := Lib.hid (link_below DW.out hd (by have := DW.out.size; omega) rfl rfl rfl rfl)
      clear hd
      have u1 := BX1.out.cell0; have u2 := BX1.out.cell1
      go_wp2_with fail
      clear u1 u2
      refine (rmul_any _ _ (a ^ (n / 2)) (a ^ (n / 2)) _ IV1.out IV1.out (SH.out.mono (by omega)) (SH.out.mono (by omega))).mono ?_
      rintro e y2 ⟨_, rfl, hq, hb⟩
      obtain ⟨X2, p2, q2, rfl, _, _, _⟩ := hq.form
      have Q := Lib.hid hq; have B := Lib.hid hb; clear hq hb
      generalize hs : decide ((a ^ (n / 2) * a ^ (n / 2) : Int) < 0) = s2 at *
      clear hs
      go_upto_region 5 with fail
      obtain ⟨W2, hW⟩ : ∃ W2, W2 = y2.alloc (Obj.cells #[Value.bool s2, Value.slice X2 p2 q2] 27) := ⟨_, rfl⟩
      rw [← hW]
      have BX2 : Hid (Box W2 y2.heap.size s2 (.slice X2 p2 q2)) := by rw [hW]; exact Box.new _ _ _
      have IV2 : Hid (Iv W2 (.agg #[.bool s2, .slice X2 p2 q2]) (a ^ (n / 2) * a ^ (n / 2))) := by rw [hW]; exact Q.out.alloc _
      have hd : Below W1.heap.size W1 W2 := by rw [hW]; exact B.out.alloc B.out.size _
      have hlt : g + 1 < y2.heap.size := by have h1 := BXr.out.lt; have h2 := B.out.size; omega
      clear hW Q B BX1 IV1
      generalize hgn : y2.heap.size = g2 at *
      clear hgn
      replace BX0 := Lib.hid (BX0.out.next hd rfl); replace IV0 := Lib.hid (iv_next IV0.out hd rfl)
      replace BXr := Lib.hid (BXr.out.next hd rfl)
      replace DW := Lib.hid (link_below DW.out hd (by have := DW.out.size; omega) rfl rfl rfl rfl)
      clear hd
      rcases hodd with ⟨ho, hoz⟩ | ⟨ho, hoz⟩
      · have hf := hfin.out
        rw [if_pos ho] at hf
        have HF := Lib.hid hf
        have hzo : (zn % 2 == 1) = true := by rw [hoz]; rfl
        clear hf ho hoz
        have u1 := BX2.out.cell0; have u2 := BX2.out.cell1; have u3 := BX0.out.cell0; have u4 := BX0.out.cell1
        go_wp2_with fail
        clear u1 u2 u3 u4
        refine (rmul_any _ _ (a ^ (n / 2) * a ^ (n / 2)) a _ IV2.out IV0.out (SS.out.mono (by omega)) (SA.out.mono (by omega))).mono ?_
        rintro e y3 ⟨_, rfl, hq, hb⟩
        rw [← HF.out] at hq
        obtain ⟨X3, p3, q3, rfl, _, _, _⟩ := hq.form
        have Q := Lib.hid hq
        replace BX2 := Lib.hid (BX2.out.next hb rfl)
        replace BXr := Lib.hid (BXr.out.next hb rfl)
        replace DW := Lib.hid (link_below DW.out hb (by have := DW.out.size; omega) rfl rfl rfl rfl)
        clear hq hb
        generalize hs : decide ((a ^ n : Int) < 0) = s3 at *
        have u1 := BX2.out.cell0; have u2 := BX2.out.cell1; have u3 := BXr.out.cell0; have u4 := BXr.out.cell1
        have f1 := BX2.out.frozen 0; have f2 := BX2.out.frozen 1; have f3 := BXr.out.frozen 0; have f4 := BXr.out.frozen 1
        have z1 : ¬ g + 1 = g2 := by omega
        have z2 : ¬ g2 = g + 1 := by omega
        go_wp2
        exact bodyPost_ret (v := .agg #[.bool s3, .slice X3 p3 q3]) (by simp [results, Try.results115, go_sem, u3, u4]) rfl ⟨_, rfl, iv_keep2 Q.out BX2.out BXr.out (by omega) _ _, by rw [hg]; exact below2_set (below2_set DW.out (by omega) _ _) (by omega) _ _⟩
      · have hf := hfin.out
        rw [if_neg (by omega)] at hf
        have HF := Lib.hid hf
        have hzo : (zn % 2 == 1) = false := by rw [hoz]; rfl
        clear hf ho hoz
        have u1 := BX2.out.cell0; have u2 := BX2.out.cell1; have u3 := BXr.out.cell0; have u4 := BXr.out.cell1
        have f3 := BXr.out.frozen 0; have f4 := BXr.out.frozen 1
        have z1 : ¬ g + 1 = g2 := by omega
        have z2 : ¬ g2 = g + 1 := by omega
        go_wp2
        exact bodyPost_ret (v := .agg #[.bool s2, .slice X2 p2 q2]) (by simp [results, Try.results115, go_sem, u3, u4]) rfl ⟨_, rfl, by rw [HF.out]; exact iv_keep IV2.out BXr.out _, by rw [hg]; exact below2_set DW.out (by omega) _ _⟩

set_option maxHeartbeats 1000000 in
theorem rpow_bad (va : Value) (a n : Int) (w : World) (ha : Iv w va a) (hn : n < 0 ∨ 4096 < n) (hn1 : -9223372036854775808 ≤ n) (hn2 : n ≤ 9223372036854775807) : Calls Try.prog 38 #[va, .int .i64 n] w (RetV (.tuple #[zeroI, .int .i64 1]) w) := by
  obtain ⟨A, m, c, rfl, _, _, _⟩ := ha.form
  clear ha
  generalize decide (a < 0) = sa at *
  rcases hn with h | h
  · clear hn1 hn2
    go_enter Try.func38, Try.ntmps38
    go_wp2
    exact bodyPost_ret (v := .tuple #[zeroI, .int .i64 1]) (by simp [results, Try.results38, go_sem, zeroI]) rfl ⟨rfl, ((Below.refl _ _).alloc (Nat.le_refl _) _).alloc (by simp) _⟩
  · have h2 : decide (n < 0) = false := by rw [decide_eq_false_iff_not]; omega
    clear hn1 hn2
    go_enter Try.func38, Try.ntmps38
    go_wp2
    exact bodyPost_ret (v := .tuple #[zeroI, .int .i64 1]) (by simp [results, Try.results38, go_sem, zeroI]) rfl ⟨rfl, ((Below.refl _ _).alloc (Nat.le_refl _) _).alloc (by simp) _⟩

set_option maxHeartbeats 1000000 in
theorem rpow_any (va : Value) (a : Int) (n : Nat) (zn : Int) (w : World) (ha : Iv w va a) (sa' : Sz a 1000) (hz : zn = (n : Int)) (hn : n ≤ 4096) (hb : bl a.natAbs * n ≤ 20000) : Calls Try.prog 38 #[va, .int .i64 zn] w (RetOK (a ^ n) w) := by
  obtain ⟨A, m, c, rfl, _, _, _⟩ := ha.form
  have HA := Lib.hid ha
  have h1 : decide (zn < 0) = false := by rw [decide_eq_false_iff_not]; omega
  have h2 : decide (4096 < zn) = false := by rw [decide_eq_false_iff_not]; omega
  have HP := Lib.hid (fun w' h => rpower_any n (.agg #[.bool (decide (a < 0)), .slice A m c]) a zn w' hz hn h sa' hb)
  clear ha hz hb
  generalize decide (a < 0) = sa at *
  go_enter Try.func38, Try.ntmps38
  go_wp2_with fail
  refine (HP.out _ ((HA.out.alloc _).alloc _)).mono ?_
  rintro e w2 ⟨v2, rfl, hv2, hbl2⟩
  obtain ⟨A2, n2, c2, rfl, k1, k2, k3⟩ := hv2.form
  have HV := Lib.hid hv2
  have hbx2 : Box w2 (w.heap.size + 1) false (.slice none 0 0) := by
    have := (Box.new (w.alloc (Obj.cells #[Value.bool sa, Value.slice A m c] 27)) false (.slice none 0 0)).next hbl2 rfl
    simpa using this
  have q0 := hbx2.cell0
  have q1 := hbx2.cell1
  have q2 := hbx2.frozen 0
  have q3 := hbx2.frozen 1
  have HBX := Lib.hid hbx2
  have hbl02 : Below w.heap.size w w2 := ((Below.refl _ _).alloc (Nat.le_refl _) _).trans ((below_new hbl2).mono (by simp))
  generalize hz : decide ((a ^ n : Int) < 0) = nz at *
  clear k3 hv2 hbx2 hz
  go_wp2
  exact bodyPost_ret (v := .tuple #[.agg #[.bool nz, .slice A2 n2 c2], .int .i64 0]) (by simp [results, Try.results38, go_sem, q0, q1]) rfl ⟨_, rfl, iv_keep HV.out HBX.out _, below2_set hbl02 (by omega) _ _⟩
end Go.Proofs.Ytfigimfdojbkeaa
end

section
namespace Go.Proofs.Ytfigimfdojbkeaa
open Go.RowKit
attribute [local go_sem ↓] Go.wp_at_zero Go.wp_at_succ

theorem root_bound {a o k n : Nat} (hk : 1 ≤ k) (ha : a < 2 ^ n) (ho : o ^ k ≤ a) : o < 2 ^ (n / k + 1) := by
  rcases Nat.lt_or_ge o (2 ^ (n / k + 1)) with h | h
  · exact h
  · exfalso
    have h1 := Nat.pow_le_pow_left h k
    rw [← Nat.pow_mul] at h1
    have h2 : n ≤ (n / k + 1) * k := by
      have := Nat.div_add_mod n k
      have h3 := Nat.mod_lt n (show 0 < k by omega)
      rw [Nat.add_mul, Nat.mul_comm (n / k)]
      omega
    have h3 : 2 ^ n ≤ 2 ^ ((n / k + 1) * k) := Nat.pow_le_pow_right (by omega) h2
    omega
theorem next_bits {a o k n i : Nat} (hk : 1 ≤ k) (hkn : k < n) (hn : n ≤ 384) (ha : a < 2 ^ n) (ho : o ^ k ≤ a) (hi : i ≤ n / k) : bl (Int.natAbs ((o : Int) + (2 : Int) ^ i)) * k ≤ 20000 ∧ Sz ((o : Int) + (2 : Int) ^ i) 1000 ∧ Sz (o : Int) 900 := by
  have h1 := root_bound hk ha ho
  have h2 : 2 ^ i ≤ 2 ^ (n / k) := Nat.pow_le_pow_right (by omega) hi
  have h3 : 2 ^ (n / k) ≤ 2 ^ (n / k + 1) := Nat.pow_le_pow_right (by omega) (by omega)
  have e : Int.natAbs ((o : Int) + (2 : Int) ^ i) = o + 2 ^ i := by
    have : ((o : Int) + (2 : Int) ^ i) = ((o + 2 ^ i : Nat) : Int) := by simp
    rw [this, Int.natAbs_natCast]
  have h4 : o + 2 ^ i < 2 ^ (n / k + 2) := by rw [show n / k + 2 = n / k + 1 + 1 from rfl, Nat.pow_succ]; omega
  have h5 : bl (o + 2 ^ i) ≤ n / k + 2 := (bl_lt _ _).2 h4
  have h6 : (n / k + 2) * k ≤ 20000 := by
    have := Nat.div_mul_le_self n k
    rw [Nat.add_mul]
    omega
  have h7 : n / k ≤ n := Nat.div_le_self _ _
  refine ⟨by rw [e]; exact Nat.le_trans (Nat.mul_le_mul_right _ h5) h6, ⟨?_⟩, ⟨?_⟩⟩
  · rw [e]
    exact Nat.lt_of_lt_of_le h4 (pw_ge (by omega))
  · rw [Int.natAbs_natCast]
    exact Nat.lt_of_lt_of_le h1 (pw_ge (by omega))
theorem two_bits {i : Nat} (hi : i ≤ 384) : bl (Int.natAbs (2 : Int)) * i ≤ 20000 := by
  have : bl (Int.natAbs (2 : Int)) = 2 := by decide +kernel
  rw [this]; omega

set_option maxHeartbeats 1000000 in
theorem rroot_bad (va : Value) (a k : Int) (w : World) (ha : Iv w va a) (hk : a < 0 ∨ k < 1) (hk1 : k ≤ 9223372036854775807) : Calls Try.prog 40 #[va, .int .i64 k] w (RetV (.tuple #[zeroI, .int .i64 1]) w) := by
  obtain ⟨A, m, c, rfl, _, _, _⟩ := ha.form
  clear ha
  by_cases h : a < 0
  · rw [decide_eq_true h]
    clear hk h hk1
    go_enter Try.func40, Try.ntmps40
    go_wp2
    exact bodyPost_ret (v := .tuple #[zeroI, .int .i64 1]) (by simp [results, Try.results40, go_sem, zeroI]) rfl ⟨rfl, ((Below.refl _ _).alloc (Nat.le_refl _) _).alloc (by simp) _⟩
  · rw [decide_eq_false h]
    have h2 : k < 1 := by omega
    clear hk h hk1
    go_enter Try.func40, Try.ntmps40
    go_wp2
    exact bodyPost_ret (v := .tuple #[zeroI, .int .i64 1]) (by simp [results, Try.results40, go_sem, zeroI]) rfl ⟨rfl, ((Below.refl _ _).alloc (Nat.le_refl _) _).alloc (by simp) _⟩

set_option maxHeartbeats 2000000 in
theorem rroot_self (va : Value) (a k r : Nat) (zk : Int) (w : World) (ha : Iv w va (a : Int)) (hz : zk = (k : Int)) (hk : 1 ≤ k) (hk1 : k = 1 ∨ a = 0) (h1 : r ^ k ≤ a) (h2 : a < (r + 1) ^ k) : Calls Try.prog 40 #[va, .int .i64 zk] w (RetOK (r : Int) w) := by
  have hr : r = a := by
    rcases hk1 with rfl | rfl
    · rw [Nat.pow_one] at h1 h2; omega
    · rcases Nat.eq_zero_or_pos r with e | e
      · exact e
      · have := Nat.pow_pos (n := k) e; omega
  subst hr
  obtain ⟨A, m, c, rfl, _, _, _⟩ := ha.form
  have HA := Lib.hid ha
  have hm : k = 1 ∨ m = 0 := by
    rcases hk1 with h | h
    · exact .inl h
    · exact .inr (ha.len0.2 (by omega))
  have hzk1 : decide (zk < 1) = false := by rw [decide_eq_false_iff_not]; omega
  rw [show decide ((r : Int) < 0) = false by simp] at *
  clear ha h1 h2 hk1
  rcases hm with h | h
  · have hz1 : zk = 1 := by omega
    subst hz1
    clear hz hzk1
    go_enter Try.func40, Try.ntmps40
    go_wp2
    exact bodyPost_ret (v := .tuple #[.agg #[.bool false, .slice A m c], .int .i64 0]) (by simp [results, Try.results40, go_sem]) rfl ⟨_, rfl, (HA.out.alloc _).alloc _, ((Below.refl _ _).alloc (Nat.le_refl _) _).alloc (by simp) _⟩
  · subst h
    by_cases hz1 : zk = 1
    · have hz2 : (zk == 1) = true := by simp [hz1]
      clear hz hz1
      go_enter Try.func40, Try.ntmps40
      go_wp2
      exact bodyPost_ret (v := .tuple #[.agg #[.bool false, .slice A 0 c], .int .i64 0]) (by simp [results, Try.results40, go_sem]) rfl ⟨_, rfl, (HA.out.alloc _).alloc _, ((Below.refl _ _).alloc (Nat.le_refl _) _).alloc (by simp) _⟩
    · have hz2 : (zk == 1) = false := by simp [hz1]
      clear hz hz1
      go_enter Try.func40, Try.ntmps40
      go_wp2
      exact bodyPost_ret (v := .tuple #[.agg #[.bool false, .slice A 0 c], .int .i64 0]) (by simp [results, Try.results40, go_sem]) rfl ⟨_, rfl, (HA.out.alloc _).alloc _, ((Below.refl _ _).alloc (Nat.le_refl _) _).alloc (by simp) _⟩

set_option maxHeartbeats 8000000 in
set_option maxRecDepth 100000 in
theorem rroot_any (va : Value) (a k r : Nat) (zk : Int) (w : World) (ha : Iv w va (a : Int)) (sa : Sz (a : Int) 12) (hz : zk = (k : Int)) (hz2 : zk ≤ 9223372036854775807) (hk : 1 ≤ k) (hr1 : r ^ k ≤ a) (hr2 : a < (r + 1) ^ k) :
    Calls Try.prog 40 #[va, .int .i64 zk] w (RetOK (r : Int) w) := by
  by_cases hk1 : k = 1 ∨ a = 0
  · exact rroot_self va a k r zk w ha hz hk hk1 hr1 hr2
  have hzk : (zk == 1) = false := by simp; omega
  have hz0 : decide (zk < 1) = false := by rw [decide_eq_false_iff_not]; omega
  obtain ⟨A, m, c, rfl, _, _, _⟩ := ha.form
  have hm0 : ((m : Int) == 0) = false := by have := ha.len0; simp; omega
  have hbl : bl a ≤ 384 := by have := bits_sz sa; rw [Int.natAbs_natCast] at this; omega
  have HZ := Lib.hid hz
  have hz1 : 1 ≤ zk := by omega
  have hz3 : (zk == 0) = false := by simp; omega
  have HA := Lib.hid ha
  have SA := Lib.hid sa
  have HR1 := Lib.hid hr1
  have HR2 := Lib.hid hr2
  have hbl2 := lt_bl a
  have HLT := Lib.hid hbl2
  rw [show decide ((a : Int) < 0) = false by simp] at *
  have hbe : bl (Int.natAbs (a : Int)) = bl a := by rw [Int.natAbs_natCast]
  have HBE := Lib.hid hbe
  clear ha sa hr1 hr2 hbe hbl2 hz
  obtain ⟨n, hn⟩ : ∃ n, bl a = n := ⟨_, rfl⟩
  have HN := Lib.hid hn
  rw [hn] at hbl HLT HBE
  clear hn
  go_enter Try.func40, Try.ntmps40
  go_wp2_with fail
  obtain ⟨W, hW⟩ : ∃ W, W = (w.alloc (Obj.cells #[Value.bool false, Value.slice A m c] 27)).alloc (Obj.cells #[Value.bool false, Value.slice none 0 0] 27) := ⟨_, rfl⟩
  rw [← hW]
  have BXa : Hid (Box W w.heap.size false (.slice A m c)) := by rw [hW]; exact (Box.new _ _ _).alloc _
  have IVa : Hid (Iv W (.agg #[.bool false, .slice A m c]) (a : Int)) := by rw [hW]; exact (HA.out.alloc _).alloc _
  have AXr : Hid (Box W (w.heap.size + 1) false (.slice none 0 0)) := by rw [hW]; have := Box.new (w.alloc (Obj.cells #[Value.bool false, Value.slice A m c] 27)) false (.slice none 0 0); simpa [Hid] using this
  have DW : Hid (Below w.heap.size w W) := by rw [hW]; exact ((Below.refl _ _).alloc (Nat.le_refl _) _).alloc (by simp) _
  clear hW
  generalize hg : w.heap.size = g at *
  refine (rbits_any _ (a : Int) _ IVa.out (SA.out.mono (by omega))).mono ?_
  rintro e w1 ⟨rfl, hb⟩
  rw [HBE.out]
  replace BXa := Lib.hid (BXa.out.next hb rfl); replace IVa := Lib.hid (iv_next IVa.out hb rfl)
  replace AXr := Lib.hid (AXr.out.next hb rfl)
  replace DW := Lib.hid (link_below DW.out hb (by have := DW.out.size; omega) rfl rfl rfl rfl)
  clear hb
  by_cases hkn : n ≤ k
  · have hkI : (n : Int) ≤ zk := by rw [HZ.out]; omega
    have hr : Hid (r = 1) := root_uniq HR1.out HR2.out (s := 1) (by rw [Nat.one_pow]; omega) (Nat.lt_of_lt_of_le HLT.out (Nat.pow_le_pow_right (by omega) hkn))
    go_wp2_with fail
    refine (rof_any 1 _ (by omega) (by omega)).mono ?_
    rintro e w2 ⟨v2, rfl, hv2, hbl2⟩
    obtain ⟨A2, n2, c2, rfl, k1, k2, k3⟩ := hv2.form
    have HV := Lib.hid hv2
    replace AXr := Lib.hid (AXr.out.next hbl2 rfl)
    replace DW := Lib.hid (link_below DW.out hbl2 (by have := DW.out.size; omega) rfl rfl rfl rfl)
    have q0 := AXr.out.cell0
    have q1 := AXr.out.cell1
    have q2 := AXr.out.frozen 0
    have q3 := AXr.out.frozen 1
    generalize hzz : decide ((1 : Int) < 0) = nz at *
    clear k3 hv2 hzz hbl2
    go_wp2
    exact bodyPost_ret (v := .tuple #[.agg #[.bool nz, .slice A2 n2 c2], .int .i64 0]) (by simp [results, Try.results40, go_sem, q0, q1]) rfl ⟨_, rfl, by rw [hr.out]; exact iv_keep HV.out AXr.out _, by rw [hg]; exact below2_set DW.out (by omega) _ _⟩
  have hkI : decide ((n : Int) ≤ zk) = false := by rw [decide_eq_false_iff_not, HZ.out]; omega
  have hq : (n : Int) / zk = ((n / k : Nat) : Int) := by rw [HZ.out]; simp
  have hqk : n / k ≤ n := Nat.div_le_self _ _
  have hkn' : k < n := by omega
  have hnI1 : (n : Int) ≤ 384 := by omega
  go_upto_region 10 with fail
  obtain ⟨W3, hW⟩ : ∃ W3, W3 = w1.alloc (Obj.cells #[Value.bool false, Value.slice none 0 0] 27) := ⟨_, rfl⟩
  rw [← hW]
  have BXo : Box W3 w1.heap.size false (.slice none 0 0) := by rw [hW]; exact Box.new _ _ _
  have IVo : Iv W3 (.agg #[.bool false, .slice none 0 0]) ((0 : Nat) : Int) := by exact Iv.zero _
  have hd : Below w1.heap.size w1 W3 := by rw [hW]; exact (Below.refl _ _).alloc (Nat.le_refl _) _
  have hgr : g + 1 < w1.heap.size := AXr.out.lt
  replace BXa := Lib.hid (BXa.out.next hd rfl); replace IVa := Lib.hid (iv_next IVa.out hd rfl)
  replace AXr := Lib.hid (AXr.out.next hd rfl)
  replace DW := Lib.hid (link_below DW.out hd (by have := DW.out.size; omega) rfl rfl rfl rfl)
  clear hd hW
  generalize hgo : w1.heap.size = go at *
  have hstart : Hid (a < (0 + 2 ^ (n / k + 1)) ^ k) := by
    unfold Hid
    rw [Nat.zero_add, ← Nat.pow_mul]
    refine Nat.lt_of_lt_of_le HLT.out (Nat.pow_le_pow_right (by omega) ?_)
    have := Nat.div_add_mod n k
    have h3 := Nat.mod_lt n (show 0 < k by omega)
    rw [Nat.add_mul, Nat.mul_comm (n / k)]
    omega
  clear hgo
  go_loopw [8, 9] (fun t _ wr => ∃ (j o : Nat) (so : Bool) (Xo : Option Addr) (po qo : Nat), j ≤ n / k + 1 ∧ t = .int .i64 ((j : Int) - 1) ∧ Hid (o ^ k ≤ a) ∧ Hid (a < (o + 2 ^ j) ^ k) ∧
      Box wr go so (.slice Xo po qo) ∧ Iv wr (.agg #[.bool so, .slice Xo po qo]) (o : Int) ∧ Box wr g false (.slice A m c) ∧ Iv wr (.agg #[.bool false, .slice A m c]) (a : Int) ∧ Box wr (g + 1) false (.slice none 0 0) ∧ Below g w wr)
    (fun t _ _ => (intOf t + 1).toNat)
  case atStart => exact ⟨n / k + 1, 0, false, none, 0, 0, by omega, by
    simp only [Value.int.injEq, true_and]
    have e1 : (n : Int) / (k : Int) = ((n / k : Nat) : Int) := by simp
    rw [e1]
    clear e1
    generalize n / k = qq at *
    rw [IntWalk.wrap64_in _ (by omega)]
    omega, by unfold Hid; rw [Nat.zero_pow (by omega)]; omega, hstart.out, BXo, IVo, BXa.out, IVa.out, AXr.out, DW.out⟩
  case round =>
    clear BXo IVo BXa IVa AXr DW
    obtain ⟨j, o, so, Xo, po, qo, hj, rfl, ho1, ho2, bxo, ivo, bxa, iva, axr, dw⟩ := hrel
    have BXo := Lib.hid bxo; have IVo := Lib.hid ivo; have BXa := Lib.hid bxa; have IVa := Lib.hid iva; have AXr := Lib.hid axr; have DW := Lib.hid dw
    clear bxo ivo bxa iva axr dw
    by_cases hj0 : 0 < j
    · obtain ⟨i, rfl⟩ : ∃ i, j = i + 1 := ⟨j - 1, by omega⟩
      have hji : ((i + 1 : Nat) : Int) - 1 = (i : Int) := by omega
      obtain ⟨hb1, hs1, hs2⟩ := next_bits hk hkn' hbl HLT.out ho1.out (show i ≤ n / k by omega)
      have HB1 := Lib.hid hb1; have HS1 := Lib.hid hs1
      have SZo := Lib.hid hs2
      have SZa := SA
      have SZ2 : Hid (Sz (2 : Int) 2) := I64.sz ⟨by omega, by omega⟩
      have SZp : Hid (Sz ((2 : Int) ^ i) 1000) := sz_pow (two_bits (by omega))
      have hi4 : i ≤ 4096 := by omega
      have hi3 : i ≤ 384 := by omega
      have hik : i ≤ n / k := by omega
      have i0 : (0 : Int) ≤ (i : Int) := by omega
      rw [hji]
      have hgw : go < wr.heap.size := BXo.out.lt
      clear hb1 hs1 hs2 hj0
      go_upto_region 12 with fail
      refine region_go wr [.is (.agg #[.bool so, .slice Xo po qo]), .iv ((2 : Int)), .is (Value.int IntKind.i64 (i : Int)), .iv ((2 : Int) ^ i), .iv ((o : Int) + (2 : Int) ^ i), .new, .put 5 ((o : Int) + (2 : Int) ^ i)] [some 40, some 41, some 42, some 43, some 44, some 9, none] (by kernel_rfl) (by kernel_rfl) (by kernel_rfl) (by kernel_rfl) (by kernel_rfl) (by rfl) (by kernel_rfl) ((Below.refl _ _).drew) (fun Q' => ?_) (fun K hK wn hs => ?_)
      · refine ⟨?_, ?_, ?_, ?_, ?_, ?_, ?_, trivial⟩
        · intro a' w' ha hs hw
          have eo7 : a'.tmps[7]? = some (ptr go) := (ha.rest 7 (by kernel_rfl)).trans rfl
          exact ⟨wanted_none rfl, rfl, wp_val (run_load rfl (ev_tmp eo7) (BXo.out.next hs rfl)) ⟨rfl, Below.refl _ _⟩⟩
        · intro a' w' ha hs hw
          exact ⟨wanted_none rfl, rfl, call_step rfl Try.func64 (by kernel_rfl) rfl (map_one rfl) (rof_any 2 _ (by omega) (by omega)) (fun e w2 he => by obtain ⟨v, rfl, hv, hb⟩ := he; exact ⟨v, rfl, v, rfl, hv, hb⟩)⟩
        · intro a' w' ha hs hw
          have eo8 : a'.tmps[8]? = some (Value.int IntKind.i64 (i : Int)) := (ha.rest 8 (by kernel_rfl)).trans rfl
          exact ⟨wanted_none rfl, rfl, wp_val (run_move rfl (ev_tmp eo8)) ⟨rfl, Below.refl _ _⟩⟩
        · intro a' w' ha hs hw
          obtain ⟨v1, e1, q1⟩ := hw 1 (by kernel_rfl) _ rfl
          replace e1 : a'.tmps[41]? = some v1 := slot_get rfl rfl e1
          have e2 : a'.tmps[42]? = some (Value.int IntKind.i64 (i : Int)) := slot_get rfl rfl (hw 2 (by kernel_rfl) _ rfl)
          exact ⟨wanted_none rfl, rfl, call_step rfl Try.func115 (by kernel_rfl) rfl (map_two (ev_tmp e1) (ev_tmp e2)) (rpower_any i _ 2 (i : Int) _ rfl hi4 q1 (SZ2.out.mono (by omega)) (two_bits hi3)) (fun e w2 he => by obtain ⟨v, rfl, hv, hb⟩ := he; exact ⟨v, rfl, v, rfl, hv, hb⟩)⟩
        · intro a' w' ha hs hw
          have e0 : a'.tmps[40]? = some (.agg #[.bool so, .slice Xo po qo]) := slot_get rfl rfl (hw 0 (by kernel_rfl) _ rfl)
          obtain ⟨v3, e3, q3⟩ := hw 3 (by kernel_rfl) _ rfl
          replace e3 : a'.tmps[43]? = some v3 := slot_get rfl rfl e3
          exact ⟨wanted_none rfl, rfl, call_step rfl Try.func31 (by kernel_rfl) rfl (map_two (ev_tmp e0) (ev_tmp e3)) (radd_any _ _ (o : Int) ((2 : Int) ^ i) _ (iv_next IVo.out hs rfl) q3 (SZo.out.mono (by omega)) (SZp.out.mono (by omega))) (fun e w2 he => by obtain ⟨v, rfl, hv, hb⟩ := he; exact ⟨v, rfl, v, rfl, hv, hb⟩)⟩
        · intro a' w' ha hs hw
          exact ⟨wanted_none rfl, rfl, wp_valw (run_alloc rfl) ⟨rfl, rfl⟩⟩
        · intro a' w' ha hs hw
          obtain ⟨v4, e4, q4⟩ := hw 4 (by kernel_rfl) _ rfl
          replace e4 : a'.tmps[44]? = some v4 := slot_get rfl rfl e4
          refine ⟨wanted_none rfl, by kernel_rfl, fun g hg => ?_⟩
          obtain ⟨A, n, c, hf, _, _, _⟩ := q4.form
          subst hf
          exact ⟨_, A, n, c, q4, fun ⟨_, _, _, _, hb⟩ => wp_skipw (run_store rfl (ev_tmp (slot_get rfl rfl hg)) (ev_tmp e4) hb) rfl ⟨rfl, rfl⟩⟩
      simp only [allQ]
      intro r1x1 _
      intro r1x3 _
      intro r1x4 _
      intro gx hGx
      intro gg sx Xx px qx he BXx IVx
      simp only [List.nil_append, List.cons_append, List.getElem?_cons_succ, List.getElem?_cons_zero, Option.some.injEq] at he
      obtain rfl := ptr_inj he
      clear he
      replace BXx := Lib.hid BXx; replace IVx := Lib.hid IVx
      simp only [setOpt, List.set_cons_succ, List.set_cons_zero, ptr]
      refine hK _ _ ?_
      clear hK K
      replace BXo := Lib.hid (BXo.out.next hs rfl); replace IVo := Lib.hid (iv_next IVo.out hs rfl)
      replace BXa := Lib.hid (BXa.out.next hs rfl); replace IVa := Lib.hid (iv_next IVa.out hs rfl)
      replace AXr := Lib.hid (AXr.out.next hs rfl)
      replace DW := Lib.hid (link_below DW.out hs (by have := DW.out.size; omega) rfl rfl rfl rfl)
      clear hs
      have SZx := HS1
      have hxn : (o : Int) + (2 : Int) ^ i = ((o + 2 ^ i : Nat) : Int) := by simp
      have hxk : ((o : Int) + (2 : Int) ^ i) ^ k = (((o + 2 ^ i) ^ k : Nat) : Int) := by rw [hxn]; simp
      have SZq : Hid (Sz (((o : Int) + (2 : Int) ^ i) ^ k) 1000) := sz_pow HB1.out
      have HXK := Lib.hid hxk; have HXN := Lib.hid hxn
      have hk4 : k ≤ 4096 := by omega
      have hgx : go < gx := by omega
      clear hxk hxn
      by_cases hle : (o + 2 ^ i) ^ k ≤ a
      · go_upto_region 13 with fail
        have HCZ : Hid (decide ((cmpZ (((o : Int) + (2 : Int) ^ i) ^ k) (a : Int)) ≤ 0) = true) := by
          rw [HXK.out]
          unfold Hid cmpZ
          rw [decide_eq_true_iff]
          split
          · omega
          · split <;> omega
        refine region_go wn [.is (.agg #[.bool sx, .slice Xx px qx]), .is (Value.int IntKind.i64 zk), .iv (((o : Int) + (2 : Int) ^ i) ^ k), .is (.agg #[.bool false, .slice A m c]), .is (Value.int IntKind.i64 (cmpZ (((o : Int) + (2 : Int) ^ i) ^ k) (a : Int))), .is (Value.bool true)] [some 45, some 46, some 47, some 48, some 49, some 50] (by kernel_rfl) (by kernel_rfl) (by kernel_rfl) (by kernel_rfl) (by kernel_rfl) (by rfl) (by kernel_rfl) ((Below.refl _ _).drew) (fun Q' => ?_) (fun K hK wn hs => ?_)
        · refine ⟨?_, ?_, ?_, ?_, ?_, ?_, trivial⟩
          · intro a' w' ha hs hw
            have eo9 : a'.tmps[9]? = some (ptr gx) := (ha.rest 9 (by kernel_rfl)).trans rfl
            exact ⟨wanted_none rfl, rfl, wp_val (run_load rfl (ev_tmp eo9) (BXx.out.next hs rfl)) ⟨rfl, Below.refl _ _⟩⟩
          · intro a' w' ha hs hw
            have eo1 : a'.tmps[1]? = some (Value.int IntKind.i64 zk) := (ha.rest 1 (by kernel_rfl)).trans rfl
            exact ⟨wanted_none rfl, rfl, wp_val (run_move rfl (ev_tmp eo1)) ⟨rfl, Below.refl _ _⟩⟩
          · intro a' w' ha hs hw
            have e0 : a'.tmps[45]? = some (.agg #[.bool sx, .slice Xx px qx]) := slot_get rfl rfl (hw 0 (by kernel_rfl) _ rfl)
            have e1 : a'.tmps[46]? = some (Value.int IntKind.i64 zk) := slot_get rfl rfl (hw 1 (by kernel_rfl) _ rfl)
            exact ⟨wanted_none rfl, rfl, call_step rfl Try.func115 (by kernel_rfl) rfl (map_two (ev_tmp e0) (ev_tmp e1)) (rpower_any k _ ((o : Int) + (2 : Int) ^ i) zk _ HZ.out hk4 (iv_next IVx.out hs rfl) (SZx.out.mono (by omega)) HB1.out) (fun e w2 he => by obtain ⟨v, rfl, hv, hb⟩ := he; exact ⟨v, rfl, v, rfl, hv, hb⟩)⟩
          · intro a' w' ha hs hw
            have eo2 : a'.tmps[2]? = some (ptr g) := (ha.rest 2 (by kernel_rfl)).trans rfl
            exact ⟨wanted_none rfl, rfl, wp_val (run_load rfl (ev_tmp eo2) (BXa.out.next hs rfl)) ⟨rfl, Below.refl _ _⟩⟩
          · intro a' w' ha hs hw
            obtain ⟨v2, e2, q2⟩ := hw 2 (by kernel_rfl) _ rfl
            replace e2 : a'.tmps[47]? = some v2 := slot_get rfl rfl e2
            have e3 : a'.tmps[48]? = some (.agg #[.bool false, .slice A m c]) := slot_get rfl rfl (hw 3 (by kernel_rfl) _ rfl)
            exact ⟨wanted_none rfl, rfl, call_step rfl Try.func29 (by kernel_rfl) rfl (map_two (ev_tmp e2) (ev_tmp e3)) (rcmp_any _ _ (((o : Int) + (2 : Int) ^ i) ^ k) (a : Int) _ q2 (iv_next IVa.out hs rfl) (SZq.out.mono (by omega)) (SZa.out.mono (by omega))) (fun e w2 he => by obtain ⟨rfl, hb⟩ := he; exact ⟨_, rfl, rfl, hb⟩)⟩
          · intro a' w' ha hs hw
            have e4 : a'.tmps[49]? = some (Value.int IntKind.i64 (cmpZ (((o : Int) + (2 : Int) ^ i) ^ k) (a : Int))) := slot_get rfl rfl (hw 4 (by kernel_rfl) _ rfl)
            exact ⟨wanted_none rfl, rfl, wp_val (show _ = _ from (run_leq_int rfl (ev_tmp e4) rfl).trans (by rw [HCZ.out])) ⟨rfl, Below.refl _ _⟩⟩
        simp only [allQ]
        intro r2x2 _
        simp only [setOpt, List.set_cons_succ, List.set_cons_zero]
        refine hK _ _ ?_
        clear hK K
        replace BXo := Lib.hid (BXo.out.next hs rfl); replace IVo := Lib.hid (iv_next IVo.out hs rfl)
        replace BXa := Lib.hid (BXa.out.next hs rfl); replace IVa := Lib.hid (iv_next IVa.out hs rfl)
        replace BXx := Lib.hid (BXx.out.next hs rfl); replace IVx := Lib.hid (iv_next IVx.out hs rfl)
        replace AXr := Lib.hid (AXr.out.next hs rfl)
        replace DW := Lib.hid (link_below DW.out hs (by have := DW.out.size; omega) rfl rfl rfl rfl)
        clear hs
        have u1 := BXx.out.cell0; have u2 := BXx.out.cell1; have u3 := BXo.out.cell0; have u4 := BXo.out.cell1
        have f1 := BXo.out.frozen 0; have f2 := BXo.out.frozen 1
        go_wp2
        go_roundw
        case rel => exact ⟨i, o + 2 ^ i, sx, Xx, px, qx, by omega, rfl, hle, by rw [Nat.add_assoc, ← Nat.two_mul, ← Nat.pow_succ']; exact ho2, Box.set1 (Box.set0 BXo.out _) _, by rw [← HXN.out]; exact iv_keep IVx.out BXo.out _, (BXa.out.far (by simp; omega) _).far (by simp; omega) _, iv_keep IVa.out BXo.out _, (AXr.out.far (by simp; omega) _).far (by simp; omega) _, below2_set DW.out (by omega) _ _⟩
        case measure => simp only [intOf]; omega
      · go_upto_region 13 with fail
        have HCZ : Hid (decide ((cmpZ (((o : Int) + (2 : Int) ^ i) ^ k) (a : Int)) ≤ 0) = false) := by
          rw [HXK.out]
          unfold Hid cmpZ
          rw [decide_eq_false_iff_not]
          split
          · omega
          · split <;> omega
        refine region_go wn [.is (.agg #[.bool sx, .slice Xx px qx]), .is (Value.int IntKind.i64 zk), .iv (((o : Int) + (2 : Int) ^ i) ^ k), .is (.agg #[.bool false, .slice A m c]), .is (Value.int IntKind.i64 (cmpZ (((o : Int) + (2 : Int) ^ i) ^ k) (a : Int))), .is (Value.bool false)] [some 45, some 46, some 47, some 48, some 49, some 50] (by kernel_rfl) (by kernel_rfl) (by kernel_rfl) (by kernel_rfl) (by kernel_rfl) (by rfl) (by kernel_rfl) ((Below.refl _ _).drew) (fun Q' => ?_) (fun K hK wn hs => ?_)
        · refine ⟨?_, ?_, ?_, ?_, ?_, ?_, trivial⟩
          · intro a' w' ha hs hw
            have eo9 : a'.tmps[9]? = some (ptr gx) := (ha.rest 9 (by kernel_rfl)).trans rfl
            exact ⟨wanted_none rfl, rfl, wp_val (run_load rfl (ev_tmp eo9) (BXx.out.next hs rfl)) ⟨rfl, Below.refl _ _⟩⟩
          · intro a' w' ha hs hw
            have eo1 : a'.tmps[1]? = some (Value.int IntKind.i64 zk) := (ha.rest 1 (by kernel_rfl)).trans rfl
            exact ⟨wanted_none rfl, rfl, wp_val (run_move rfl (ev_tmp eo1)) ⟨rfl, Below.refl _ _⟩⟩
          · intro a' w' ha hs hw
            have e0 : a'.tmps[45]? = some (.agg #[.bool sx, .slice Xx px qx]) := slot_get rfl rfl (hw 0 (by kernel_rfl) _ rfl)
            have e1 : a'.tmps[46]? = some (Value.int IntKind.i64 zk) := slot_get rfl rfl (hw 1 (by kernel_rfl) _ rfl)
            exact ⟨wanted_none rfl, rfl, call_step rfl Try.func115 (by kernel_rfl) rfl (map_two (ev_tmp e0) (ev_tmp e1)) (rpower_any k _ ((o : Int) + (2 : Int) ^ i) zk _ HZ.out hk4 (iv_next IVx.out hs rfl) (SZx.out.mono (by omega)) HB1.out) (fun e w2 he => by obtain ⟨v, rfl, hv, hb⟩ := he; exact ⟨v, rfl, v, rfl, hv, hb⟩)⟩
          · intro a' w' ha hs hw
            have eo2 : a'.tmps[2]? = some (ptr g) := (ha.rest 2 (by kernel_rfl)).trans rfl
            exact ⟨wanted_none rfl, rfl, wp_val (run_load rfl (ev_tmp eo2) (BXa.out.next hs rfl)) ⟨rfl, Below.refl _ _⟩⟩
          · intro a' w' ha hs hw
            obtain ⟨v2, e2, q2⟩ := hw 2 (by kernel_rfl) _ rfl
            replace e2 : a'.tmps[47]? = some v2 := slot_get rfl rfl e2
            have e3 : a'.tmps[48]? = some (.agg #[.bool false, .slice A m c]) := slot_get rfl rfl (hw 3 (by kernel_rfl) _ rfl)
            exact ⟨wanted_none rfl, rfl, call_step rfl Try.func29 (by kernel_rfl) rfl (map_two (ev_tmp e2) (ev_tmp e3)) (rcmp_any _ _ (((o : Int) + (2 : Int) ^ i) ^ k) (a : Int) _ q2 (iv_next IVa.out hs rfl) (SZq.out.mono (by omega)) (SZa.out.mono (by omega))) (fun e w2 he => by obtain ⟨rfl, hb⟩ := he; exact ⟨_, rfl, rfl, hb⟩)⟩
          · intro a' w' ha hs hw
            have e4 : a'.tmps[49]? = some (Value.int IntKind.i64 (cmpZ (((o : Int) + (2 : Int) ^ i) ^ k) (a : Int))) := slot_get rfl rfl (hw 4 (by kernel_rfl) _ rfl)
            exact ⟨wanted_none rfl, rfl, wp_val (show _ = _ from (run_leq_int rfl (ev_tmp e4) rfl).trans (by rw [HCZ.out])) ⟨rfl, Below.refl _ _⟩⟩
        simp only [allQ]
        intro r3x2 _
        simp only [setOpt, List.set_cons_succ, List.set_cons_zero]
        refine hK _ _ ?_
        clear hK K
        replace BXo := Lib.hid (BXo.out.next hs rfl); replace IVo := Lib.hid (iv_next IVo.out hs rfl)
        replace BXa := Lib.hid (BXa.out.next hs rfl); replace IVa := Lib.hid (iv_next IVa.out hs rfl)
        replace BXx := Lib.hid (BXx.out.next hs rfl); replace IVx := Lib.hid (iv_next IVx.out hs rfl)
        replace AXr := Lib.hid (AXr.out.next hs rfl)
        replace DW := Lib.hid (link_below DW.out hs (by have := DW.out.size; omega) rfl rfl rfl rfl)
        clear hs
        go_wp2
        go_roundw
        case rel => exact ⟨i, o, so, Xo, po, qo, by omega, rfl, ho1, Nat.lt_of_not_le hle, BXo.out, IVo.out, BXa.out, IVa.out, AXr.out, DW.out⟩
        case measure => simp only [intOf]; omega
    · have hj0' : (j : Int) - 1 ≤ -1 := by omega
      obtain rfl : j = 0 := by omega
      have hr : Hid (r = o) := root_uniq HR1.out HR2.out ho1.out (by have := ho2.out; rwa [Nat.pow_zero] at this)
      have u1 := BXo.out.cell0; have u2 := BXo.out.cell1; have u3 := AXr.out.cell0; have u4 := AXr.out.cell1
      have f3 := AXr.out.frozen 0; have f4 := AXr.out.frozen 1
      have z1 : ¬ g + 1 = go := by omega
      have z2 : ¬ go = g + 1 := by omega
      go_wp2
      exact bodyPost_ret (v := .tuple #[.agg #[.bool so, .slice Xo po qo], .int .i64 0]) (by simp [results, Try.results40, go_sem, u3, u4]) rfl ⟨_, rfl, by rw [hr.out]; exact iv_keep IVo.out AXr.out _, by rw [hg]; exact below2_set DW.out (by omega) _ _⟩
end Go.Proofs.Ytfigimfdojbkeaa
end

section
namespace Go.Proofs.Ytfigimfdojbkeaa
open Go.RowKit
attribute [local go_sem ↓] Go.wp_at_zero Go.wp_at_succ

theorem rd_small {z : Int} (h : Sz z 200000) : (rd z.natAbs).length ≤ 2000010 := by
  have h1 := txb_len h
  unfold txb at h1
  split at h1
  · rename_i e
    subst e
    rw [show Int.natAbs 0 = 0 from rfl, rd_zero]; simp
  · rw [List.length_append, List.length_reverse] at h1
    omega
theorem cat_list (b : UInt8) (B : ByteArray) : ((⟨#[b]⟩ : ByteArray) ++ B).data.toList = b :: B.data.toList := by
  rw [ByteArray.data_append, Array.toList_append]; rfl
theorem text_step {x k : Nat} {B : ByteArray} (hk : 0 < k) (h : u8 (rd k).reverse ++ B.data.toList = u8 (rd x).reverse) :
    u8 (rd (k / 10)).reverse ++ ((⟨#[UInt8.ofNat (48 + k % 10)]⟩ : ByteArray) ++ B).data.toList = u8 (rd x).reverse := by
  rw [cat_list, ← h, rd_pos hk, List.reverse_cons, u8_app, List.append_assoc]
  rfl

theorem text_step2 {x k : Nat} {B : ByteArray} (hk : 0 < k) (h : u8 (rd k).reverse ++ B.data.toList = u8 (rd x).reverse) :
    u8 (rd (k / 10)).reverse ++ ((⟨#[48 + UInt8.ofNat (k % 10)]⟩ : ByteArray) ++ B).data.toList = u8 (rd x).reverse := by
  have e : UInt8.ofNat (48 + k % 10) = 48 + UInt8.ofNat (k % 10) := by simp
  rw [← e]; exact text_step hk h
theorem bytes_ext {a b : ByteArray} (h : a.data.toList = b.data.toList) : a = b := by
  cases a; cases b; simp only [ByteArray.mk.injEq]; exact Array.toList_inj.1 h
theorem text_done {z : Int} {B : ByteArray} (hz : 0 < z.natAbs) (hs : decide (z < 0) = false) (h : B.data.toList = u8 (rd z.natAbs).reverse) : B = txs z := by
  apply bytes_ext
  rw [h, txs_list]
  unfold txb
  rw [if_neg (by omega), if_neg (by simpa using hs)]
  rfl
theorem text_minus {z : Int} {B : ByteArray} (hz : 0 < z.natAbs) (hs : decide (z < 0) = true) (h : B.data.toList = u8 (rd z.natAbs).reverse) : (⟨#[45]⟩ : ByteArray) ++ B = txs z := by
  apply bytes_ext
  rw [cat_list, h, txs_list]
  unfold txb
  rw [if_neg (by omega), if_pos (by simpa using hs)]
  rfl

set_option maxHeartbeats 2000000 in
set_option maxRecDepth 100000 in
theorem rtext_any (va : Value) (z : Int) (w : World) (ha : Iv w va z) (sa : Sz z 200000) : Calls Try.prog 108 #[va] w (RetV (.string (txs z)) w) := by
  obtain ⟨A, n, c, rfl, h1, h2, h3⟩ := ha.form
  have H3 := Lib.hid h3
  have hn : n ≤ 200000 := by rw [← h3.len]; exact sa.len
  have hz := h3.pos_iff
  have SA := Lib.hid sa
  generalize hs : decide (z < 0) = sz at *
  clear ha sa h3
  by_cases h0 : n = 0
  · have hz0 := hz.1 h0
    subst h0
    clear hz
    go_enter Try.func108, Try.ntmps108
    go_wp2
    refine bodyPost_ret (v := .string ⟨#[48]⟩) (by simp [results, Try.results108, go_sem]) rfl ⟨?_, (Below.refl _ _).alloc (Nat.le_refl _) _⟩
    have : z = 0 := by omega
    subst this
    rfl
  · have hzp := Lib.hid (show 0 < z.natAbs by have := fun e => h0 (hz.2 e); omega)
    have ht : ((n : Int) == 0) = false := by simp; omega
    have HS := Lib.hid hs
    clear hz hs
    go_enter Try.func108, Try.ntmps108
    go_wp2_with fail
    obtain ⟨W, hW⟩ : ∃ W, W = w.alloc (Obj.cells #[Value.bool sz, Value.slice A n c] 27) := ⟨_, rfl⟩
    rw [← hW]
    have BX : Hid (Box W w.heap.size sz (.slice A n c)) := by rw [hW]; exact Box.new _ _ _
    have MG : Hid (Mg W (.slice A n c) z.natAbs) := by rw [hW]; exact ⟨A, n, c, rfl, h1, h2, H3.out.alloc _⟩
    have DW : Hid (Below w.heap.size w W) := by rw [hW]; exact (Below.refl _ _).alloc (Nat.le_refl _) _
    clear hW H3 ht
    generalize hg : w.heap.size = g at *
    go_loopg [3, 4] z.natAbs (fun k v3 v4 wr => ∃ B : ByteArray, k ≤ z.natAbs ∧ v3 = .string B ∧ Hid (u8 (rd k).reverse ++ B.data.toList = u8 (rd z.natAbs).reverse) ∧ Mg wr v4 k ∧ Box wr g sz (.slice A n c) ∧ Below g w wr)
    case atStart => exact ⟨⟨#[]⟩, Nat.le_refl _, rfl, by simp [Hid], MG.out, BX.out, DW.out⟩
    case round =>
      clear MG BX DW
      obtain ⟨B, hkz, rfl, htx, hm, hb, hd⟩ := hrel
      obtain ⟨L, p, q, rfl, hp1, hp2, hp3⟩ := hm
      have HP := Lib.hid hp3
      have BX := Lib.hid hb
      have DW := Lib.hid hd
      have hpz : p = 0 ↔ gk = 0 := by
        have e := hp3.len
        have e2 := val_mag gk
        refine ⟨fun e3 => ?_, fun e3 => ?_⟩
        · rw [List.eq_nil_of_length_eq_zero (by omega : (mag gk).length = 0)] at e2
          simpa [val] using e2.symm
        · rw [e3, mag_zero] at e
          simpa using e.symm
      have hsz : B.size ≤ 2000010 := by
        have e := congrArg List.length htx.out
        have e2 := rd_small SA.out
        rw [List.length_append] at e
        simp only [u8, List.length_map, List.length_reverse] at e
        have e3 : B.size = B.data.toList.length := by rw [Array.length_toList]; rfl
        omega
      have hpl : p ≤ 100000000 := by
        rw [← hp3.len]
        exact Nat.le_trans (mag_length_le (Nat.lt_of_le_of_lt hkz SA.out.lt)) (by omega)
      clear hb hd hp3
      by_cases h0 : gk = 0
      · have hp0 := hpz.2 h0
        subst h0
        subst hp0
        have hfin : B.data.toList = u8 (rd z.natAbs).reverse := by
          have := htx.out
          rw [rd_zero] at this
          simpa [u8] using this
        have HFIN := Lib.hid hfin
        have q0 := BX.out.cell0
        clear hfin hpz
        cases sz
        · go_wp2
          refine bodyPost_ret (v := .string B) (by simp [results, Try.results108, go_sem]) rfl ⟨?_, by rw [hg]; exact DW.out⟩
          exact congrArg (fun t => Ending.returned (.string t)) (text_done hzp.out (by rw [HS.out]) HFIN.out)
        · have hsz2 : 1 + B.size ≤ 9223372036854775807 := by omega
          have hsz3 : (1 : Int) + (B.size : Int) ≤ 9223372036854775807 := by omega
          go_wp2
          refine bodyPost_ret (v := .string (⟨#[45]⟩ ++ B)) (by simp [results, Try.results108, go_sem]) rfl ⟨?_, by rw [hg]; exact DW.out⟩
          exact congrArg (fun t => Ending.returned (.string t)) (text_minus hzp.out HS.out HFIN.out)
      · have hpp : 0 < p := by have := fun e => h0 (hpz.1 e); omega
        have hpI : (0 : Int) < (p : Int) := by omega
        clear hpz
        go_wp2_with fail
        refine (rshortly_any L p q 10 (mag gk) _ HP.out (by omega) (by omega) (by omega)).mono ?_
        rintro e w2 ⟨v2, rfl, hm2, hb2⟩
        rw [val_mag] at hm2 ⊢
        have HM2 := Lib.hid hm2
        have BX2 := Lib.hid (BX.out.next hb2 rfl)
        have DW2 := Lib.hid (link_below DW.out hb2 (by have := DW.out.size; omega) rfl rfl rfl rfl)
        have hr : gk % 10 < 10 := Nat.mod_lt _ (by omega)
        obtain ⟨r, hre⟩ : ∃ r, r = gk % 10 := ⟨_, rfl⟩
        rw [← hre] at hr ⊢
        have HRE := Lib.hid hre
        clear hm2 hb2 BX DW hre
        have hsz2 : 1 + B.size ≤ 9223372036854775807 := by omega
        have hsz3 : (1 : Int) + (B.size : Int) ≤ 9223372036854775807 := by omega
        have hcv := run_convert_bytes_back (P := Try.prog) (w2.alloc (Obj.cells #[Value.int IntKind.u8 (48 + (r : Int))] 5)) 145 9 5 ⟨w2.heap.size, 0, none⟩ 1 [UInt8.ofNat (48 + r)] Try.underlying145 (by kernel_rfl) (by kernel_rfl) (fun t ht => by
          obtain rfl : t = 0 := by simp at ht; omega
          have e2 : (UInt8.ofNat (48 + r)).toNat = 48 + r := u8_back (by omega)
          show World.cell? _ ⟨w2.heap.size, 0, none⟩ = some (.int .u8 (((UInt8.ofNat (48 + r)).toNat : Nat) : Int))
          rw [e2]
          simp [go_sem])
        rw [show [UInt8.ofNat (48 + r)].length = 1 from rfl] at hcv
        have hb1 : (ByteArray.mk [UInt8.ofNat (48 + r)].toArray).size = 1 := rfl
        go_wp2
        go_roundg (gk / 10)
        case measure => exact Nat.div_lt_self (by omega) (by omega)
        case rel => exact ⟨_, Nat.le_trans (Nat.div_le_self _ _) hkz, rfl, by unfold Hid; rw [HRE.out]; exact text_step2 (by omega) htx.out, HM2.out.alloc _, BX2.out.alloc _, DW2.out.alloc (by have := DW2.out.size; omega) _⟩
end Go.Proofs.Ytfigimfdojbkeaa
end

section
namespace Go.Proofs.Ytfigimfdojbkeaa
open Go.RowKit
attribute [local go_sem ↓] Go.wp_at_zero Go.wp_at_succ

end Go.Proofs.Ytfigimfdojbkeaa
end

section
namespace Go.Proofs.Ytfigimfdojbkeaa
open Go.RowKit
attribute [local go_sem ↓] Go.wp_at_zero Go.wp_at_succ

theorem Sz.of_le {x y : Int} {N : Nat} (h : Sz y N) (hx : x.natAbs ≤ y.natAbs) : Sz x N := ⟨Nat.lt_of_le_of_lt hx h.lt⟩
theorem emod_abs {a b : Int} : a % b = a % (b.natAbs : Int) := by
  rcases Int.natAbs_eq b with h | h
  · conv => lhs; rw [h]
  · conv => lhs; rw [h]
    rw [Int.emod_neg]
theorem div_abs {b r u : Int} (hr : r ∣ b) : u % (b / r) = u % ((b.natAbs : Int) / r) := by
  rcases Int.natAbs_eq b with h | h
  · conv => lhs; rw [h]
  · obtain ⟨t, ht⟩ := hr
    conv => lhs; rw [h]
    rw [Int.neg_ediv_of_dvd (by rw [← Int.natAbs_dvd]; exact ⟨(t.natAbs : Int), by rw [ht, Int.natAbs_mul]; simp⟩), Int.emod_neg]
end Go.Proofs.Ytfigimfdojbkeaa
end

section
namespace Go.Proofs.Ytfigimfdojbkeaa
open Go.RowKit
attribute [local go_sem ↓] Go.wp_at_zero Go.wp_at_succ

theorem map_six {α β : Type} {f : α → β} {x1 x2 x3 x4 x5 x6 : α} {v1 v2 v3 v4 v5 v6 : β} (h1 : f x1 = v1) (h2 : f x2 = v2) (h3 : f x3 = v3) (h4 : f x4 = v4) (h5 : f x5 = v5) (h6 : f x6 = v6) : #[x1, x2, x3, x4, x5, x6].map f = #[v1, v2, v3, v4, v5, v6] := by
  simp [h1, h2, h3, h4, h5, h6]
section
variable {o : Oper} {w : World} {ρ : Operand → Value} {x y : Operand}
theorem run_eql_bool {u : TypeId} {a b : Bool} (ho : o.op = .binOp .eql 4 x y u) (hx : ρ x = .bool a) (hy : ρ y = .bool b) : (execOp ρ o).run Try.prog w = .ok (.value (.bool (a == b))) w := by
  simp [execOp, ho, hx, hy, go_sem, Try.underlying4]
end

def Ret3 (q r c : Int) (w : World) (e : Ending) (w' : World) : Prop := ∃ v u, e = .returned (.tuple #[v, u, .int .i64 c]) ∧ Iv w' v q ∧ Iv w' u r ∧ Below w.heap.size w w'
structure DmBoth (a b q r c : Int) : Prop where
  szq : Sz q 12
  szr : Sz r 12
  i : ∀ va vb w, Iv w va a → Iv w vb b → Calls Try.prog 19 #[va, vb] w (Ret3 q r c w)
  r : ∀ va vb w, Iv w va a → Iv w vb b → Calls Try.prog 20 #[va, vb] w (Ret3 q r c w)
theorem sz_zero {N : Nat} : Sz 0 N := ⟨pw_pos N⟩
theorem dm_both {a b : Int} (sa : Sz a 12) (sb : Sz b 12) : ∃ q r c : Int, DmBoth a b q r c := by
  by_cases h : b = 0
  · subst h
    refine ⟨0, 0, 10, sz_zero, sz_zero, fun va vb w ha hb => (divMod_zero va vb a w ha hb (sa.mono (by omega))).mono ?_, fun va vb w ha hb => (rdivMod_zero va vb a w ha hb).mono ?_⟩
    all_goals
      rintro e w' ⟨rfl, hb⟩
      exact ⟨_, _, rfl, Iv.zero _, Iv.zero _, hb⟩
  · refine ⟨a / b, a % b, 0, sa.of_le (Int.natAbs_ediv_le_natAbs _ _), sb.of_le ?_, fun va vb w ha hb => divMod_any va vb a b w ha hb (sa.mono (by omega)) (sb.mono (by omega)) h, fun va vb w ha hb => rdivMod_any va vb a b w ha hb (sa.mono (by omega)) (sb.mono (by omega)) h⟩
    have e1 := Int.emod_nonneg a h
    have e2 := Int.emod_lt a h
    omega

structure PowBoth (a n p c : Int) : Prop where
  sz : Sz p 1000000
  i : ∀ va w, Iv w va a → Calls Try.prog 37 #[va, .int .i64 n] w (RetE p c w)
  r : ∀ va w, Iv w va a → Calls Try.prog 38 #[va, .int .i64 n] w (RetE p c w)
theorem pow_both {a n : Int} (sa : Sz a 12) (hn1 : -9223372036854775808 ≤ n) (hn2 : n ≤ 9223372036854775807) (h : n < 0 ∨ 4096 < n ∨ n * (bl a.natAbs : Int) ≤ 20000) : ∃ p c : Int, PowBoth a n p c := by
  by_cases hb : n < 0 ∨ 4096 < n
  · refine ⟨0, 1, sz_zero, fun va w ha => (pow_bad va a n w ha hb hn1 hn2).mono ?_, fun va w ha => (rpow_bad va a n w ha hb hn1 hn2).mono ?_⟩
    all_goals
      rintro e w' ⟨rfl, hb⟩
      exact ⟨_, rfl, Iv.zero _, hb⟩
  · have h2 : n * (bl a.natAbs : Int) ≤ 20000 := by omega
    obtain ⟨m, rfl⟩ : ∃ m : Nat, n = (m : Int) := ⟨n.toNat, by omega⟩
    have h3 : bl a.natAbs * m ≤ 20000 := by
      rw [← Int.natCast_mul] at h2
      rw [Nat.mul_comm]; omega
    exact ⟨a ^ m, 0, (sz_pow h3).mono (by omega), fun va w ha => pow_any va a m (m : Int) w ha (sa.mono (by omega)) rfl (by omega), fun va w ha => rpow_any va a m (m : Int) w ha (sa.mono (by omega)) rfl (by omega) h3⟩

structure RootBoth (a n p c : Int) : Prop where
  sz : Sz p 1000000
  i : ∀ va w, Iv w va a → Calls Try.prog 39 #[va, .int .i64 n] w (RetE p c w)
  r : ∀ va w, Iv w va a → Calls Try.prog 40 #[va, .int .i64 n] w (RetE p c w)
theorem root_both {a n : Int} (sa : Sz a 12) (hn2 : n ≤ 9223372036854775807) : ∃ p c : Int, RootBoth a n p c := by
  by_cases hb : a < 0 ∨ n < 1
  · refine ⟨0, 1, sz_zero, fun va w ha => (root_bad va a n w ha (sa.mono (by omega)) hb).mono ?_, fun va w ha => (rroot_bad va a n w ha hb hn2).mono ?_⟩
    all_goals
      rintro e w' ⟨rfl, hb⟩
      exact ⟨_, rfl, Iv.zero _, hb⟩
  · obtain ⟨m, rfl⟩ : ∃ m : Nat, n = (m : Int) := ⟨n.toNat, by omega⟩
    obtain ⟨x, rfl⟩ : ∃ x : Nat, a = (x : Int) := ⟨a.toNat, by omega⟩
    have hm : 1 ≤ m := by omega
    obtain ⟨r, h1, h2⟩ := root_ex m hm x
    have hrx : r ≤ x := Nat.le_trans (Nat.le_self_pow (by omega) r) h1
    exact ⟨(r : Int), 0, (sa.of_le (by simpa using hrx)).mono (by omega), fun va w ha => root_int va x m r (m : Int) w ha (sa.mono (by omega)) rfl hn2 hm h1 h2, fun va w ha => rroot_any va x m r (m : Int) w ha sa rfl hn2 hm h1 h2⟩
end Go.Proofs.Ytfigimfdojbkeaa
end

section
namespace Go.Proofs.Ytfigimfdojbkeaa
open Go.RowKit
attribute [local go_sem ↓] Go.wp_at_zero Go.wp_at_succ

theorem small_parts (z : Int) : ∃ (t : Int) (f : Bool), smallV z = .tuple #[.int .i64 t, .bool f] := by
  unfold smallV
  split
  · exact ⟨_, _, rfl⟩
  · exact ⟨_, _, rfl⟩

set_option maxHeartbeats 8000000 in
set_option maxRecDepth 100000 in
theorem numbers_any (va : Value) (z : Int) (w : World) (ha : Iv w va z) (sa : Sz z 1000) : Calls Try.prog 27 #[va] w (RetV (.bool true) w) := by
  obtain ⟨A, n, c, rfl, h1, h2, _⟩ := ha.form
  have HA := Lib.hid ha
  have SZa := Lib.hid sa
  obtain ⟨t, f, hs⟩ := small_parts z
  have HS := Lib.hid hs
  generalize hsa : decide (z < 0) = sa at *
  clear ha hs hsa
  go_enter Try.func27, Try.ntmps27
  go_wp2_with fail
  obtain ⟨W, hW⟩ : ∃ W, W = w.alloc (Obj.cells #[Value.bool sa, Value.slice A n c] 27) := ⟨_, rfl⟩
  rw [← hW]
  have BXa : Hid (Box W w.heap.size sa (.slice A n c)) := by rw [hW]; exact Box.new _ _ _
  have IVa : Hid (Iv W (.agg #[.bool sa, .slice A n c]) z) := by rw [hW]; exact HA.out.alloc _
  have DW : Hid (Below w.heap.size w W) := by rw [hW]; exact (Below.refl _ _).alloc (Nat.le_refl _) _
  clear hW
  generalize hg : w.heap.size = ga at *
  refine (small_any _ z _ IVa.out (SZa.out.mono (by omega))).mono ?_
  rw [HS.out]
  rintro e w1 ⟨rfl, hb⟩
  replace BXa := Lib.hid (BXa.out.next hb rfl); replace IVa := Lib.hid (iv_next IVa.out hb rfl)
  replace DW := Lib.hid (link_below DW.out hb (by have := DW.out.size; omega) rfl rfl rfl rfl)
  clear hb
  have u1 := BXa.out.cell0; have u2 := BXa.out.cell1
  go_wp2_with fail
  clear u1 u2
  refine (rsmall_any _ z _ IVa.out (SZa.out.mono (by omega))).mono ?_
  rw [HS.out]
  rintro e w2 ⟨rfl, hb⟩
  replace BXa := Lib.hid (BXa.out.next hb rfl); replace IVa := Lib.hid (iv_next IVa.out hb rfl)
  replace DW := Lib.hid (link_below DW.out hb (by have := DW.out.size; omega) rfl rfl rfl rfl)
  clear hb
  go_upto_region 3 with fail
  have SZm : Hid (Sz (-z) 1000) := Sz.neg SZa.out
  refine region_go w2 [.is (Value.int IntKind.i64 t), .is (Value.int IntKind.i64 t), .is (Value.bool true), .is (Value.bool true), .is (Value.bool f), .is (Value.bool f), .is (Value.bool true), .is (Value.bool true), .is (Value.bool true), .is (.agg #[.bool sa, .slice A n c]), .is (Value.int IntKind.i64 (sg z)), .is (.agg #[.bool sa, .slice A n c]), .is (Value.int IntKind.i64 (sg z)), .is (Value.bool true), .is (Value.bool true), .is (Value.bool true), .is (.agg #[.bool sa, .slice A n c]), .iv (-z), .is (.agg #[.bool sa, .slice A n c]), .iv (-z), .is (Value.bool true), .is (Value.bool true), .is (Value.bool true), .is (.agg #[.bool sa, .slice A n c]), .is (Value.int IntKind.i64 ((bl z.natAbs : Nat) : Int)), .is (.agg #[.bool sa, .slice A n c]), .is (Value.int IntKind.i64 ((bl z.natAbs : Nat) : Int)), .is (Value.bool true), .is (Value.bool true), .is (Value.bool true), .is (.agg #[.bool sa, .slice A n c]), .is (Value.string (txs z)), .is (.agg #[.bool sa, .slice A n c]), .is (Value.string (txs z)), .is (Value.bool true), .is (Value.bool true), .is (Value.bool true)] [some 17, some 18, some 19, some 20, some 21, some 22, some 23, some 24, some 25, some 26, some 27, some 28, some 29, some 30, some 31, some 32, some 33, some 34, some 35, some 36, some 37, some 38, some 39, some 40, some 41, some 42, some 43, some 44, some 45, some 46, some 47, some 48, some 49, some 50, some 51, some 52, some 2] (by kernel_rfl) (by kernel_rfl) (by kernel_rfl) (by kernel_rfl) (by kernel_rfl) (by rfl) (by kernel_rfl) ((Below.refl _ _).drew) (fun Q' => ?_) (fun K hK wn hs => ?_)
  · refine ⟨?_, ?_, ?_, ?_, ?_, ?_, ?_, ?_, ?_, ?_, ?_, ?_, ?_, ?_, ?_, ?_, ?_, ?_, ?_, ?_, ?_, ?_, ?_, ?_, ?_, ?_, ?_, ?_, ?_, ?_, ?_, ?_, ?_, ?_, ?_, ?_, ?_, trivial⟩
    · intro a' w' ha hs hw
      have eo3 : a'.tmps[3]? = some (Value.int IntKind.i64 t) := (ha.rest 3 (by kernel_rfl)).trans rfl
      exact ⟨wanted_none rfl, rfl, wp_val (run_move rfl (ev_tmp eo3)) ⟨rfl, Below.refl _ _⟩⟩
    · intro a' w' ha hs hw
      have eo5 : a'.tmps[5]? = some (Value.int IntKind.i64 t) := (ha.rest 5 (by kernel_rfl)).trans rfl
      exact ⟨wanted_none rfl, rfl, wp_val (run_move rfl (ev_tmp eo5)) ⟨rfl, Below.refl _ _⟩⟩
    · intro a' w' ha hs hw
      have e0 : a'.tmps[17]? = some (Value.int IntKind.i64 t) := slot_get rfl rfl (hw 0 (by kernel_rfl) _ rfl)
      have e1 : a'.tmps[18]? = some (Value.int IntKind.i64 t) := slot_get rfl rfl (hw 1 (by kernel_rfl) _ rfl)
      exact ⟨wanted_none rfl, rfl, wp_val (show _ = _ from (run_eql_int rfl (ev_tmp e0) (ev_tmp e1)).trans (by simp)) ⟨rfl, Below.refl _ _⟩⟩
    · intro a' w' ha hs hw
      have e2 : a'.tmps[19]? = some (Value.bool true) := slot_get rfl rfl (hw 2 (by kernel_rfl) _ rfl)
      exact ⟨wanted_none rfl, rfl, wp_val (run_move rfl (ev_tmp e2)) ⟨rfl, Below.refl _ _⟩⟩
    · intro a' w' ha hs hw
      have e3 : a'.tmps[20]? = some (Value.bool true) := slot_get rfl rfl (hw 3 (by kernel_rfl) _ rfl)
      have eo4 : a'.tmps[4]? = some (Value.bool f) := (ha.rest 4 (by kernel_rfl)).trans rfl
      exact ⟨wanted_some rfl rfl rfl e3, rfl, wp_val (run_move rfl (ev_tmp eo4)) ⟨rfl, Below.refl _ _⟩⟩
    · intro a' w' ha hs hw
      have e3 : a'.tmps[20]? = some (Value.bool true) := slot_get rfl rfl (hw 3 (by kernel_rfl) _ rfl)
      have eo6 : a'.tmps[6]? = some (Value.bool f) := (ha.rest 6 (by kernel_rfl)).trans rfl
      exact ⟨wanted_some rfl rfl rfl e3, rfl, wp_val (run_move rfl (ev_tmp eo6)) ⟨rfl, Below.refl _ _⟩⟩
    · intro a' w' ha hs hw
      have e3 : a'.tmps[20]? = some (Value.bool true) := slot_get rfl rfl (hw 3 (by kernel_rfl) _ rfl)
      have e4 : a'.tmps[21]? = some (Value.bool f) := slot_get rfl rfl (hw 4 (by kernel_rfl) _ rfl)
      have e5 : a'.tmps[22]? = some (Value.bool f) := slot_get rfl rfl (hw 5 (by kernel_rfl) _ rfl)
      exact ⟨wanted_some rfl rfl rfl e3, rfl, wp_val (show _ = _ from (run_eql_bool rfl (ev_tmp e4) (ev_tmp e5)).trans (by simp)) ⟨rfl, Below.refl _ _⟩⟩
    · intro a' w' ha hs hw
      have e3 : a'.tmps[20]? = some (Value.bool true) := slot_get rfl rfl (hw 3 (by kernel_rfl) _ rfl)
      have e6 : a'.tmps[23]? = some (Value.bool true) := slot_get rfl rfl (hw 6 (by kernel_rfl) _ rfl)
      exact ⟨wanted_none rfl, rfl, wp_val (run_pick (b := true) rfl (ev_tmp e3) (ev_tmp e6)) ⟨rfl, Below.refl _ _⟩⟩
    · intro a' w' ha hs hw
      have e7 : a'.tmps[24]? = some (Value.bool true) := slot_get rfl rfl (hw 7 (by kernel_rfl) _ rfl)
      exact ⟨wanted_none rfl, rfl, wp_val (run_move rfl (ev_tmp e7)) ⟨rfl, Below.refl _ _⟩⟩
    · intro a' w' ha hs hw
      have e8 : a'.tmps[25]? = some (Value.bool true) := slot_get rfl rfl (hw 8 (by kernel_rfl) _ rfl)
      have eo1 : a'.tmps[1]? = some (ptr ga) := (ha.rest 1 (by kernel_rfl)).trans rfl
      exact ⟨wanted_some rfl rfl rfl e8, rfl, wp_val (run_load rfl (ev_tmp eo1) (BXa.out.next hs rfl)) ⟨rfl, Below.refl _ _⟩⟩
    · intro a' w' ha hs hw
      have e8 : a'.tmps[25]? = some (Value.bool true) := slot_get rfl rfl (hw 8 (by kernel_rfl) _ rfl)
      have e9 : a'.tmps[26]? = some (.agg #[.bool sa, .slice A n c]) := slot_get rfl rfl (hw 9 (by kernel_rfl) _ rfl)
      exact ⟨wanted_some rfl rfl rfl e8, rfl, call_step rfl Try.func43 (by kernel_rfl) rfl (map_one (ev_tmp e9)) (sign_any _ z _ (iv_next IVa.out hs rfl) (SZa.out.mono (by omega))) (fun e w2 he => by obtain ⟨rfl, hb⟩ := he; exact ⟨_, rfl, rfl, hb⟩)⟩
    · intro a' w' ha hs hw
      have e8 : a'.tmps[25]? = some (Value.bool true) := slot_get rfl rfl (hw 8 (by kernel_rfl) _ rfl)
      have eo1 : a'.tmps[1]? = some (ptr ga) := (ha.rest 1 (by kernel_rfl)).trans rfl
      exact ⟨wanted_some rfl rfl rfl e8, rfl, wp_val (run_load rfl (ev_tmp eo1) (BXa.out.next hs rfl)) ⟨rfl, Below.refl _ _⟩⟩
    · intro a' w' ha hs hw
      have e8 : a'.tmps[25]? = some (Value.bool true) := slot_get rfl rfl (hw 8 (by kernel_rfl) _ rfl)
      have e11 : a'.tmps[28]? = some (.agg #[.bool sa, .slice A n c]) := slot_get rfl rfl (hw 11 (by kernel_rfl) _ rfl)
      exact ⟨wanted_some rfl rfl rfl e8, rfl, call_step rfl Try.func67 (by kernel_rfl) rfl (map_one (ev_tmp e11)) (rsign_any _ z _ (iv_next IVa.out hs rfl)) (fun e w2 he => by obtain ⟨rfl, hb⟩ := he; exact ⟨_, rfl, rfl, hb⟩)⟩
    · intro a' w' ha hs hw
      have e8 : a'.tmps[25]? = some (Value.bool true) := slot_get rfl rfl (hw 8 (by kernel_rfl) _ rfl)
      have e10 : a'.tmps[27]? = some (Value.int IntKind.i64 (sg z)) := slot_get rfl rfl (hw 10 (by kernel_rfl) _ rfl)
      have e12 : a'.tmps[29]? = some (Value.int IntKind.i64 (sg z)) := slot_get rfl rfl (hw 12 (by kernel_rfl) _ rfl)
      exact ⟨wanted_some rfl rfl rfl e8, rfl, wp_val (show _ = _ from (run_eql_int rfl (ev_tmp e10) (ev_tmp e12)).trans (by simp)) ⟨rfl, Below.refl _ _⟩⟩
    · intro a' w' ha hs hw
      have e8 : a'.tmps[25]? = some (Value.bool true) := slot_get rfl rfl (hw 8 (by kernel_rfl) _ rfl)
      have e13 : a'.tmps[30]? = some (Value.bool true) := slot_get rfl rfl (hw 13 (by kernel_rfl) _ rfl)
      exact ⟨wanted_none rfl, rfl, wp_val (run_pick (b := true) rfl (ev_tmp e8) (ev_tmp e13)) ⟨rfl, Below.refl _ _⟩⟩
    · intro a' w' ha hs hw
      have e14 : a'.tmps[31]? = some (Value.bool true) := slot_get rfl rfl (hw 14 (by kernel_rfl) _ rfl)
      exact ⟨wanted_none rfl, rfl, wp_val (run_move rfl (ev_tmp e14)) ⟨rfl, Below.refl _ _⟩⟩
    · intro a' w' ha hs hw
      have e15 : a'.tmps[32]? = some (Value.bool true) := slot_get rfl rfl (hw 15 (by kernel_rfl) _ rfl)
      have eo1 : a'.tmps[1]? = some (ptr ga) := (ha.rest 1 (by kernel_rfl)).trans rfl
      exact ⟨wanted_some rfl rfl rfl e15, rfl, wp_val (run_load rfl (ev_tmp eo1) (BXa.out.next hs rfl)) ⟨rfl, Below.refl _ _⟩⟩
    · intro a' w' ha hs hw
      have e15 : a'.tmps[32]? = some (Value.bool true) := slot_get rfl rfl (hw 15 (by kernel_rfl) _ rfl)
      have e16 : a'.tmps[33]? = some (.agg #[.bool sa, .slice A n c]) := slot_get rfl rfl (hw 16 (by kernel_rfl) _ rfl)
      exact ⟨wanted_some rfl rfl rfl e15, rfl, call_step rfl Try.func42 (by kernel_rfl) rfl (map_one (ev_tmp e16)) (neg_any _ z _ (iv_next IVa.out hs rfl) (SZa.out.mono (by omega))) (fun e w2 he => by obtain ⟨v, rfl, hv, hb⟩ := he; exact ⟨v, rfl, v, rfl, hv, hb⟩)⟩
    · intro a' w' ha hs hw
      have e15 : a'.tmps[32]? = some (Value.bool true) := slot_get rfl rfl (hw 15 (by kernel_rfl) _ rfl)
      have eo1 : a'.tmps[1]? = some (ptr ga) := (ha.rest 1 (by kernel_rfl)).trans rfl
      exact ⟨wanted_some rfl rfl rfl e15, rfl, wp_val (run_load rfl (ev_tmp eo1) (BXa.out.next hs rfl)) ⟨rfl, Below.refl _ _⟩⟩
    · intro a' w' ha hs hw
      have e15 : a'.tmps[32]? = some (Value.bool true) := slot_get rfl rfl (hw 15 (by kernel_rfl) _ rfl)
      have e18 : a'.tmps[35]? = some (.agg #[.bool sa, .slice A n c]) := slot_get rfl rfl (hw 18 (by kernel_rfl) _ rfl)
      exact ⟨wanted_some rfl rfl rfl e15, rfl, call_step rfl Try.func70 (by kernel_rfl) rfl (map_one (ev_tmp e18)) (rneg_any _ z (-z) _ (iv_next IVa.out hs rfl) (SZa.out.mono (by omega)) rfl) (fun e w2 he => by obtain ⟨v, rfl, hv, hb⟩ := he; exact ⟨v, rfl, v, rfl, hv, hb⟩)⟩
    · intro a' w' ha hs hw
      have e15 : a'.tmps[32]? = some (Value.bool true) := slot_get rfl rfl (hw 15 (by kernel_rfl) _ rfl)
      obtain ⟨v17, e17, q17⟩ := hw 17 (by kernel_rfl) _ rfl
      replace e17 : a'.tmps[34]? = some v17 := slot_get rfl rfl e17
      obtain ⟨v19, e19, q19⟩ := hw 19 (by kernel_rfl) _ rfl
      replace e19 : a'.tmps[36]? = some v19 := slot_get rfl rfl e19
      exact ⟨wanted_some rfl rfl rfl e15, rfl, call_step rfl Try.func23 (by kernel_rfl) rfl (map_two (ev_tmp e17) (ev_tmp e19)) (same_true _ _ (-z) (-z) _ q17 q19 (SZm.out.mono (by omega)) (rfl)) (fun e w2 he => by obtain ⟨rfl, hb⟩ := he; exact ⟨_, rfl, rfl, hb⟩)⟩
    · intro a' w' ha hs hw
      have e15 : a'.tmps[32]? = some (Value.bool true) := slot_get rfl rfl (hw 15 (by kernel_rfl) _ rfl)
      have e20 : a'.tmps[37]? = some (Value.bool true) := slot_get rfl rfl (hw 20 (by kernel_rfl) _ rfl)
      exact ⟨wanted_none rfl, rfl, wp_val (run_pick (b := true) rfl (ev_tmp e15) (ev_tmp e20)) ⟨rfl, Below.refl _ _⟩⟩
    · intro a' w' ha hs hw
      have e21 : a'.tmps[38]? = some (Value.bool true) := slot_get rfl rfl (hw 21 (by kernel_rfl) _ rfl)
      exact ⟨wanted_none rfl, rfl, wp_val (run_move rfl (ev_tmp e21)) ⟨rfl, Below.refl _ _⟩⟩
    · intro a' w' ha hs hw
      have e22 : a'.tmps[39]? = some (Value.bool true) := slot_get rfl rfl (hw 22 (by kernel_rfl) _ rfl)
      have eo1 : a'.tmps[1]? = some (ptr ga) := (ha.rest 1 (by kernel_rfl)).trans rfl
      exact ⟨wanted_some rfl rfl rfl e22, rfl, wp_val (run_load rfl (ev_tmp eo1) (BXa.out.next hs rfl)) ⟨rfl, Below.refl _ _⟩⟩
    · intro a' w' ha hs hw
      have e22 : a'.tmps[39]? = some (Value.bool true) := slot_get rfl rfl (hw 22 (by kernel_rfl) _ rfl)
      have e23 : a'.tmps[40]? = some (.agg #[.bool sa, .slice A n c]) := slot_get rfl rfl (hw 23 (by kernel_rfl) _ rfl)
      exact ⟨wanted_some rfl rfl rfl e22, rfl, call_step rfl Try.func92 (by kernel_rfl) rfl (map_one (ev_tmp e23)) (bits_int _ z _ (iv_next IVa.out hs rfl) (SZa.out.mono (by omega))) (fun e w2 he => by obtain ⟨rfl, hb⟩ := he; exact ⟨_, rfl, rfl, hb⟩)⟩
    · intro a' w' ha hs hw
      have e22 : a'.tmps[39]? = some (Value.bool true) := slot_get rfl rfl (hw 22 (by kernel_rfl) _ rfl)
      have eo1 : a'.tmps[1]? = some (ptr ga) := (ha.rest 1 (by kernel_rfl)).trans rfl
      exact ⟨wanted_some rfl rfl rfl e22, rfl, wp_val (run_load rfl (ev_tmp eo1) (BXa.out.next hs rfl)) ⟨rfl, Below.refl _ _⟩⟩
    · intro a' w' ha hs hw
      have e22 : a'.tmps[39]? = some (Value.bool true) := slot_get rfl rfl (hw 22 (by kernel_rfl) _ rfl)
      have e25 : a'.tmps[42]? = some (.agg #[.bool sa, .slice A n c]) := slot_get rfl rfl (hw 25 (by kernel_rfl) _ rfl)
      exact ⟨wanted_some rfl rfl rfl e22, rfl, call_step rfl Try.func36 (by kernel_rfl) rfl (map_one (ev_tmp e25)) (rbits_any _ z _ (iv_next IVa.out hs rfl) (SZa.out.mono (by omega))) (fun e w2 he => by obtain ⟨rfl, hb⟩ := he; exact ⟨_, rfl, rfl, hb⟩)⟩
    · intro a' w' ha hs hw
      have e22 : a'.tmps[39]? = some (Value.bool true) := slot_get rfl rfl (hw 22 (by kernel_rfl) _ rfl)
      have e24 : a'.tmps[41]? = some (Value.int IntKind.i64 ((bl z.natAbs : Nat) : Int)) := slot_get rfl rfl (hw 24 (by kernel_rfl) _ rfl)
      have e26 : a'.tmps[43]? = some (Value.int IntKind.i64 ((bl z.natAbs : Nat) : Int)) := slot_get rfl rfl (hw 26 (by kernel_rfl) _ rfl)
      exact ⟨wanted_some rfl rfl rfl e22, rfl, wp_val (show _ = _ from (run_eql_int rfl (ev_tmp e24) (ev_tmp e26)).trans (by simp)) ⟨rfl, Below.refl _ _⟩⟩
    · intro a' w' ha hs hw
      have e22 : a'.tmps[39]? = some (Value.bool true) := slot_get rfl rfl (hw 22 (by kernel_rfl) _ rfl)
      have e27 : a'.tmps[44]? = some (Value.bool true) := slot_get rfl rfl (hw 27 (by kernel_rfl) _ rfl)
      exact ⟨wanted_none rfl, rfl, wp_val (run_pick (b := true) rfl (ev_tmp e22) (ev_tmp e27)) ⟨rfl, Below.refl _ _⟩⟩
    · intro a' w' ha hs hw
      have e28 : a'.tmps[45]? = some (Value.bool true) := slot_get rfl rfl (hw 28 (by kernel_rfl) _ rfl)
      exact ⟨wanted_none rfl, rfl, wp_val (run_move rfl (ev_tmp e28)) ⟨rfl, Below.refl _ _⟩⟩
    · intro a' w' ha hs hw
      have e29 : a'.tmps[46]? = some (Value.bool true) := slot_get rfl rfl (hw 29 (by kernel_rfl) _ rfl)
      have eo1 : a'.tmps[1]? = some (ptr ga) := (ha.rest 1 (by kernel_rfl)).trans rfl
      exact ⟨wanted_some rfl rfl rfl e29, rfl, wp_val (run_load rfl (ev_tmp eo1) (BXa.out.next hs rfl)) ⟨rfl, Below.refl _ _⟩⟩
    · intro a' w' ha hs hw
      have e29 : a'.tmps[46]? = some (Value.bool true) := slot_get rfl rfl (hw 29 (by kernel_rfl) _ rfl)
      have e30 : a'.tmps[47]? = some (.agg #[.bool sa, .slice A n c]) := slot_get rfl rfl (hw 30 (by kernel_rfl) _ rfl)
      exact ⟨wanted_some rfl rfl rfl e29, rfl, call_step rfl Try.func91 (by kernel_rfl) rfl (map_one (ev_tmp e30)) (text_is _ z _ (iv_next IVa.out hs rfl) (SZa.out.mono (by omega))) (fun e w2 he => by obtain ⟨rfl, hb⟩ := he; exact ⟨_, rfl, rfl, hb⟩)⟩
    · intro a' w' ha hs hw
      have e29 : a'.tmps[46]? = some (Value.bool true) := slot_get rfl rfl (hw 29 (by kernel_rfl) _ rfl)
      have eo1 : a'.tmps[1]? = some (ptr ga) := (ha.rest 1 (by kernel_rfl)).trans rfl
      exact ⟨wanted_some rfl rfl rfl e29, rfl, wp_val (run_load rfl (ev_tmp eo1) (BXa.out.next hs rfl)) ⟨rfl, Below.refl _ _⟩⟩
    · intro a' w' ha hs hw
      have e29 : a'.tmps[46]? = some (Value.bool true) := slot_get rfl rfl (hw 29 (by kernel_rfl) _ rfl)
      have e32 : a'.tmps[49]? = some (.agg #[.bool sa, .slice A n c]) := slot_get rfl rfl (hw 32 (by kernel_rfl) _ rfl)
      exact ⟨wanted_some rfl rfl rfl e29, rfl, call_step rfl Try.func108 (by kernel_rfl) rfl (map_one (ev_tmp e32)) (rtext_any _ z _ (iv_next IVa.out hs rfl) (SZa.out.mono (by omega))) (fun e w2 he => by obtain ⟨rfl, hb⟩ := he; exact ⟨_, rfl, rfl, hb⟩)⟩
    · intro a' w' ha hs hw
      have e29 : a'.tmps[46]? = some (Value.bool true) := slot_get rfl rfl (hw 29 (by kernel_rfl) _ rfl)
      have e31 : a'.tmps[48]? = some (Value.string (txs z)) := slot_get rfl rfl (hw 31 (by kernel_rfl) _ rfl)
      have e33 : a'.tmps[50]? = some (Value.string (txs z)) := slot_get rfl rfl (hw 33 (by kernel_rfl) _ rfl)
      exact ⟨wanted_some rfl rfl rfl e29, rfl, wp_val (show _ = _ from (run_eql_str rfl (ev_tmp e31) (ev_tmp e33)).trans (by simp)) ⟨rfl, Below.refl _ _⟩⟩
    · intro a' w' ha hs hw
      have e29 : a'.tmps[46]? = some (Value.bool true) := slot_get rfl rfl (hw 29 (by kernel_rfl) _ rfl)
      have e34 : a'.tmps[51]? = some (Value.bool true) := slot_get rfl rfl (hw 34 (by kernel_rfl) _ rfl)
      exact ⟨wanted_none rfl, rfl, wp_val (run_pick (b := true) rfl (ev_tmp e29) (ev_tmp e34)) ⟨rfl, Below.refl _ _⟩⟩
    · intro a' w' ha hs hw
      have e35 : a'.tmps[52]? = some (Value.bool true) := slot_get rfl rfl (hw 35 (by kernel_rfl) _ rfl)
      exact ⟨wanted_none rfl, rfl, wp_val (run_assign rfl (ev_tmp e35)) ⟨rfl, Below.refl _ _⟩⟩
  simp only [allQ]
  intro r1x17 _
  intro r1x19 _
  simp only [setOpt, List.set_cons_succ, List.set_cons_zero]
  refine hK _ _ ?_
  clear hK K
  replace BXa := Lib.hid (BXa.out.next hs rfl); replace IVa := Lib.hid (iv_next IVa.out hs rfl)
  replace DW := Lib.hid (link_below DW.out hs (by have := DW.out.size; omega) rfl rfl rfl rfl)
  clear hs
  go_wp2
  go_ret
  exact ⟨rfl, by rw [hg]; exact DW.out⟩

end Go.Proofs.Ytfigimfdojbkeaa
end

