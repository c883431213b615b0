/-
  Contract of divide.
-/
import Derived.Test.YtpklphdhigkmmaaKnuthD
namespace Go.Proofs.Ytpklphdhigkmmaa
open Go.RowKit
attribute [local go_sem ↓] Go.wp_at_zero Go.wp_at_succ

theorem Mg.zero (w : World) (c : Nat) (A : Option Addr) (hc : c ≤ 9223372036854775807) : Mg w (.slice A 0 c) 0 := ⟨A, 0, c, rfl, Nat.zero_le _, hc, by rw [mag_zero]; exact Wd.nil _ _⟩
theorem Mg.blk {w : World} {g n : Nat} {ws : List Nat} (h : Blk w g ws) (hl : ws.length = n) (hn : n ≤ 1000000000) {x : Nat} (hx : ws = mag x) : Mg w (.slice (some ⟨g, 0, none⟩) n n) x :=
  ⟨_, n, n, rfl, Nat.le_refl _, by omega, by have := h.whole; rw [hl] at this; rw [← hx]; exact this⟩
theorem undrewN {a w : World} {n B : Nat} (h : Below B (a.drewN n) w) : Below B a w := ⟨h.os, h.tape, h.output, h.size, h.block⟩
theorem Wd.next {w w1 w' : World} {A : Option Addr} {n : Nat} {ws : List Nat} (h : Wd w A n ws) (hb : Below w1.heap.size w1 w') (e : w1.heap = w.heap) : Wd w' A n ws := by
  refine ⟨h.1, h.2.1, fun hn => ?_⟩
  obtain ⟨ad, ha, hlt, hc⟩ := h.2.2 hn
  refine ⟨ad, ha, by have := hb.size; rw [e] at this; omega, fun k hk => ?_⟩
  rw [hb.cell (by rw [block_add, e]; exact hlt), ← hc k hk]
  unfold World.cell?
  rw [e]
theorem Mg.next {w w1 w' : World} {v : Value} {x : Nat} (h : Mg w v x) (hb : Below w1.heap.size w1 w') (e : w1.heap = w.heap) : Mg w' v x := by
  obtain ⟨A, n, c, hv, h1, h2, h3⟩ := h
  exact ⟨A, n, c, hv, h1, h2, h3.next hb e⟩
theorem link_below {B B' : Nat} {a w w1 w' : World} (h : Below B a w) (hb : Below B' w1 w') (hB : B ≤ B') (e1 : w1.os = w.os) (e2 : w1.tape = w.tape) (e3 : w1.output = w.output) (e4 : w1.heap = w.heap) : Below B a w' :=
  ⟨hb.os.trans (e1.trans h.os), hb.tape.trans (e2.trans h.tape), hb.output.trans (e3.trans h.output), by have := hb.size; have := h.size; rw [e4] at *; omega, fun k hk => (hb.block k (by omega)).trans (by rw [e4]; exact h.block k hk)⟩
theorem number_val {x n : Nat} (hl : (mag x).length = n) (hn : n ≤ 2) : gd (mag x) 0 + 4294967296 * gd (mag x) 1 = x := by
  have h := val_front (mag x)
  rw [val_mag, List.drop_of_length_le (by omega), val] at h
  omega

set_option maxHeartbeats 2000000 in
set_option maxRecDepth 100000 in
theorem divide_any (A B : Option Addr) (n c m d x y : Nat) (w : World) (ha : Wd w A n (mag x)) (hb : Wd w B m (mag y)) (hn : n ≤ 10000000) (hm : m ≤ 10000000) (hy : y ≠ 0) :
    Calls Try.prog 76 #[.slice A n c, .slice B m d] w (RetMg2 (x / y) (x % y) w) := by
  have HA := Lib.hid ha
  have HB := Lib.hid hb
  have hm0 : 1 ≤ m := by
    have := hb.len
    rcases Nat.eq_zero_or_pos m with e | e
    · rw [e] at this; exact absurd (mag_length_zero.1 this) hy
    · exact e
  clear ha hb
  by_cases hlt : x < y
  · have hc := Lib.hid (cmpN_lt hlt)
    have hq := Lib.hid (Nat.div_eq_of_lt hlt)
    have hr := Lib.hid (Nat.mod_eq_of_lt hlt)
    clear hlt
    go_enter Try.func76, Try.ntmps76
    go_wp2_with fail
    refine (compare_any A B n m c d x y _ HA.out HB.out (by omega) (by omega)).mono ?_
    rintro e w' ⟨rfl, q, rfl⟩
    rw [hc.out]
    go_wp2_with fail
    refine (clone_any A n c (mag x) _ (HA.out.drewN _) (by omega)).mono ?_
    rintro e w2 ⟨rfl, hb2, hbl2⟩
    have HB2 := Lib.hid hb2
    clear hb2
    go_wp2
    go_ret2
    exact ⟨_, _, rfl, by rw [hq.out]; exact Mg.zero _ _ _ (by omega), Mg.blk HB2.out HA.out.len (by omega) (by rw [hr.out]), undrewN hbl2⟩
  · have hc0 : (0 : Int) ≤ cmpN x y := by unfold cmpN; rw [if_neg hlt]; split <;> omega
    generalize hcc : cmpN x y = cc at *
    have HCC := Lib.hid hcc
    clear hcc
    by_cases hn2 : n ≤ 2
    · have hxl := Lib.hid (number_val HA.out.len hn2)
      have hyx : m ≤ 2 := by
        rcases Nat.lt_or_ge n m with h | h
        · have h1 := HA.out.len
          have h2 := HB.out.len
          exact absurd (mag_lt_of_length (by omega)) hlt
        · omega
      have hyl := Lib.hid (number_val HB.out.len hyx)
      have hxb : x < 18446744073709551616 := by
        rw [← hxl.out]
        have := (mag_wds x).getD 0
        have := (mag_wds x).getD 1
        omega
      have hyb : y < 18446744073709551616 := by
        rw [← hyl.out]
        have := (mag_wds y).getD 0
        have := (mag_wds y).getD 1
        omega
      have hd1 : x / y < 18446744073709551616 := Nat.lt_of_le_of_lt (Nat.div_le_self _ _) hxb
      have hd2 : x % y < 18446744073709551616 := Nat.lt_of_le_of_lt (Nat.mod_le _ _) hxb
      have n1 : ((y : Int) == 0) = false := by simp; omega
      have n2 : (1 : Int) ≤ (y : Int) := by omega
      have n3 : (x : Int) ≤ 18446744073709551615 := by omega
      have n5 : IntKind.u64.wrap ((x : Int) / (y : Int)) = ((x / y : Nat) : Int) := by
        rw [IntWalk.u64_in _ ⟨Int.ediv_nonneg (by omega) (by omega), by rw [← Int.natCast_ediv]; omega⟩]; rfl
      have n6 : ((x : Int) % (y : Int)) = ((x % y : Nat) : Int) := rfl
      have n7 : (x : Int).tmod (y : Int) = ((x % y : Nat) : Int) := rfl
      have n8 : IntKind.u64.wrap ((x : Int).tdiv (y : Int)) = ((x / y : Nat) : Int) := by
        rw [Int.tdiv_eq_ediv_of_nonneg (by omega)]; exact n5
      generalize hqq : x / y = qq at *
      generalize hrr : x % y = rr at *
      have HQQ := Lib.hid hqq
      have HRR := Lib.hid hrr
      clear hqq hrr
      go_enter Try.func76, Try.ntmps76
      go_wp2_with fail
      refine (compare_any A B n m c d x y _ HA.out HB.out (by omega) (by omega)).mono ?_
      rintro e w' ⟨rfl, q, rfl⟩
      rw [HCC.out]
      go_wp2_with fail
      refine (number_any A n c (mag x) _ (HA.out.drewN _) (by omega)).mono ?_
      rintro e w' ⟨rfl, rfl⟩
      rw [hxl.out]
      go_wp2_with fail
      refine (number_any B m d (mag y) _ (HB.out.drewN _) (by omega)).mono ?_
      rintro e w' ⟨rfl, rfl⟩
      rw [hyl.out]
      go_wp2_with fail
      go_region_with (first
        | (go_at_call_of 112 (Value.int IntKind.u64 (qq : Nat)); refine (wordsOf_any qq _ (by omega)).mono ?_; rintro e wq ⟨vq, rfl, hmq, hblq⟩; have HMQ := Lib.hid hmq; clear hmq)
        | (go_at_call_of 112 (Value.int IntKind.u64 (rr : Nat)); refine (wordsOf_any rr _ (by omega)).mono ?_; rintro e wr ⟨vr, rfl, hmr, hblr⟩; have HMR := Lib.hid hmr; clear hmr))
      all_goals
        go_wp2
        go_ret2
        first
          | exact ⟨_, _, rfl, HMQ.out.next hblr rfl, HMR.out, link_below (undrewN hblq) hblr hblq.size rfl rfl rfl rfl⟩
          | exact ⟨_, _, rfl, HMQ.out, HMR.out.next hblq rfl, link_below (undrewN hblr) hblq hblr.size rfl rfl rfl rfl⟩
    · by_cases hm1 : m = 1
      · subst hm1
        obtain ⟨bb, bo, rfl, _, hcb⟩ := HB.out.cells (by omega)
        have c0 := hcb 0 (by omega)
        rw [Nat.add_zero] at c0
        have hyl := Lib.hid (number_val HB.out.len (by omega))
        have hg1 : gd (mag y) 1 = 0 := by rw [gd_eq, List.getElem?_eq_none (by rw [HB.out.len]; omega)]; rfl
        have hg0 : gd (mag y) 0 = y := by have := hyl.out; rw [hg1] at this; omega
        rw [hg0] at c0
        have hyb : y < 4294967296 := by rw [← hg0]; exact (mag_wds y).getD 0
        have hrb : x % y < 18446744073709551616 := by have := Nat.mod_lt x (show 0 < y by omega); omega
        have hrb2 : x % y < 4294967296 := by have := Nat.mod_lt x (show 0 < y by omega); omega
        clear hcb hg1 hg0
        generalize hrr : x % y = rr at *
        have HRR := Lib.hid hrr
        clear hrr
        go_enter Try.func76, Try.ntmps76
        go_wp2_with fail
        refine (compare_any A _ n 1 c d x y _ HA.out HB.out (by omega) (by omega)).mono ?_
        rintro e w' ⟨rfl, q, rfl⟩
        rw [HCC.out]
        go_wp2_with fail
        refine (clone_any A n c (mag x) _ (HA.out.drewN _) (by omega)).mono ?_
        rintro e w2 ⟨rfl, hb2, hbl2⟩
        have hb2' : Blk w2 w.heap.size (mag x ++ []) := by rw [List.append_nil]; exact hb2
        have HB2 := Lib.hid hb2'
        have c2 := hbl2.cell (p := ⟨bb, bo, none⟩) (by simp; omega)
        have c3 : w2.cell? ⟨bb, bo, none⟩ = some (.int .u32 (y : Nat)) := c2.trans c0
        clear hb2 hb2' c2 c0
        go_wp2_with fail
        refine (divideByWord_any w.heap.size n n y (mag x) [] w2 HB2.out HA.out.len (by omega) (by omega) hyb).mono ?_
        rintro e w3 ⟨qs, rfl, hql, hqv, hb3, hon3, hs3⟩
        rw [List.append_nil] at hb3
        rw [HA.out.len] at hql
        rw [val_mag] at hqv
        rw [val_mag, HRR.out]
        have HB3 := Lib.hid hb3
        have HQV := Lib.hid hqv
        have HQL := Lib.hid hql
        clear hb3 hqv hql hs3
        go_wp2_with fail
        refine (trim_any _ n n qs _ (by have := HB3.out.whole; rwa [HQL.out] at this) (by omega) (by omega)).mono ?_
        rintro e w' ⟨k, hk, rfl, ht, rfl⟩
        have hmq := Lib.hid (HB3.out.whole.mg (c := n) hk (by rw [HQL.out]; omega) (by omega) ht)
        clear ht
        go_wp2_with fail
        refine (wordsOf_any rr _ hrb).mono ?_
        rintro e w4 ⟨v4, rfl, hm4, hbl4⟩
        have HM4 := Lib.hid hm4
        clear hm4
        go_wp2
        go_ret2
        have e3 : Below w.heap.size w w3 := (undrewN hbl2).trans (hon3.below (Nat.le_refl _) hbl2.size)
        exact ⟨_, _, rfl, by rw [← HQV.out]; exact hmq.out.below hbl4, HM4.out, e3.trans (hbl4.mono e3.size)⟩
      · obtain ⟨p, rfl⟩ : ∃ p, m = p + 2 := ⟨m - 2, by omega⟩
        have hpn : p + 2 ≤ n := by
          rcases Nat.lt_or_ge n (p + 2) with h | h
          · have h1 := HA.out.len
            have h2 := HB.out.len
            exact absurd (mag_lt_of_length (by omega)) hlt
          · exact h
        have n1 : ((p : Int) + 2 == 1) = false := by simp; omega
        go_enter Try.func76, Try.ntmps76
        go_wp2_with fail
        refine (compare_any A B n (p + 2) c d x y _ HA.out HB.out (by omega) (by omega)).mono ?_
        rintro e w' ⟨rfl, q, rfl⟩
        rw [HCC.out]
        go_wp2_with fail
        refine (divideLong_any A B n c p d x y _ (HA.out.drewN _) (HB.out.drewN _) (by omega) (by omega) (by omega) hpn).mono ?_
        rintro e w2 ⟨v, u, rfl, hm1, hm2, hbl⟩
        have H1 := Lib.hid hm1
        have H2 := Lib.hid hm2
        clear hm1 hm2
        go_wp2
        go_ret2
        exact ⟨_, _, rfl, H1.out, H2.out, undrewN hbl⟩
end Go.Proofs.Ytpklphdhigkmmaa
