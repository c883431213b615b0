/-
  Contracts of apply and gcd.
-/
import Derived.Test.YtpklphdhigkmmaaLehD
import Derived.Test.YtpklphdhigkmmaaRootB
import Derived.Deep.RegionHeld3
import Derived.Deep.LoopGhost
namespace Go.Proofs.Ytpklphdhigkmmaa
open Go.RowKit
attribute [local go_sem ↓] Go.wp_at_zero Go.wp_at_succ

set_option maxHeartbeats 2000000 in
theorem apply_any (A B : Option Addr) (n m c d a b N u0 u1 v0 v1 p q : Nat) (ev : Bool) (w : World) (ha : Wd w A n (mag a)) (hb : Wd w B m (mag b)) (hn : n ≤ N) (hm : m ≤ N) (hN : N ≤ n ∨ N ≤ m) (hN2 : N ≤ 1000000000)
    (h0 : u0 < 4294967296) (h1 : u1 < 4294967296) (h2 : v0 < 4294967296) (h3 : v1 < 4294967296) (hc : Comb ev a b u0 u1 v0 v1 p q) (hp : p < pw N) (hq : q < pw N) :
    Calls Try.prog 121 #[stv u0 u1 v0 v1 ev, .slice A n c, .slice B m d] w (RetMg2 p q w) := by
  have HA := Lib.hid ha
  have HB := Lib.hid hb
  have HP := Lib.hid hp
  have HQ := Lib.hid hq
  have hN3 : N ≤ m ∨ N ≤ n := hN.symm
  unfold stv
  clear ha hb hp hq
  cases ev with
  | true =>
    have hc' : p + v0 * b = u0 * a ∧ q + u1 * a = v1 * b := by simpa [Comb] using hc
    have HC := Lib.hid hc'
    clear hc hc'
    go_enter Try.func121, Try.ntmps121
    go_wp2_with fail
    obtain ⟨W, hW⟩ : ∃ W, W = w.alloc (Obj.cells #[Value.int IntKind.u64 (u0 : Nat), Value.int IntKind.u64 (u1 : Nat), Value.int IntKind.u64 (v0 : Nat), Value.int IntKind.u64 (v1 : Nat), Value.bool true] 119) := ⟨_, rfl⟩
    rw [← hW]
    have b0 : SBox W w.heap.size u0 u1 v0 v1 true := by rw [hW]; exact SBox.new _ _ _ _ _ _
    have a1 : Hid (Wd W A n (mag a)) := by rw [hW]; exact HA.out.alloc _
    have a2 : Hid (Wd W B m (mag b)) := by rw [hW]; exact HB.out.alloc _
    have hbW : Below w.heap.size w W := by rw [hW]; exact (Below.refl _ _).alloc (Nat.le_refl _) _
    have B0 := Lib.hid b0
    obtain ⟨c0, c1, c2, c3, c4⟩ := b0.cells
    clear hW b0
    have hgW := hbW.size
    generalize hg0 : w.heap.size = g at *
    go_region_held3 (fun w' => w'.cell? ⟨g, 0, none⟩ = some (.int .u64 (u0 : Nat)) ∧ w'.cell? ⟨g, 1, none⟩ = some (.int .u64 (u1 : Nat)) ∧ w'.cell? ⟨g, 2, none⟩ = some (.int .u64 (v0 : Nat)) ∧ w'.cell? ⟨g, 3, none⟩ = some (.int .u64 (v1 : Nat))) (go_keep)
      (first
        | (go_at_call_of 135 (Value.int IntKind.u64 (u0 : Nat)); refine (difference_any A B n m c d a b u0 v0 N p _ (by first | exact a1.out | exact a1.out.next hblb rfl) (by first | exact a2.out | exact a2.out.next hblb rfl) hn hm hN hN2 h0 h2 HC.out.1 HP.out).mono ?_; rintro e wa ⟨va, rfl, hva, hbla⟩
           have ka0 := (by first | exact B0.out.next hbla rfl | exact (B0.out.next hblb rfl).next hbla rfl : SBox wa g u0 u1 v0 v1 true)
           obtain ⟨p0, p1, p2, p3, p4⟩ := ka0.cells
           have HVA := Lib.hid hva; clear ka0 hva)
        | (go_at_call_of 135 (Value.int IntKind.u64 (v1 : Nat)); refine (difference_any B A m n d c b a v1 u1 N q _ (by first | exact a2.out | exact a2.out.next hbla rfl) (by first | exact a1.out | exact a1.out.next hbla rfl) hm hn hN3 hN2 h3 h1 HC.out.2 HQ.out).mono ?_; rintro e wb ⟨vb, rfl, hvb, hblb⟩
           have kb0 := (by first | exact B0.out.next hblb rfl | exact (B0.out.next hbla rfl).next hblb rfl : SBox wb g u0 u1 v0 v1 true)
           obtain ⟨q0, q1, q2, q3, q4⟩ := kb0.cells
           have HVB := Lib.hid hvb; clear kb0 hvb))
    all_goals
      go_wp2
      go_ret2
      first
        | exact ⟨_, _, rfl, HVA.out.next hblb rfl, HVB.out, by rw [hg0]; exact link_below (link_below hbW hbla hgW rfl rfl rfl rfl) hblb (Nat.le_trans hgW hbla.size) rfl rfl rfl rfl⟩
        | exact ⟨_, _, rfl, HVA.out, HVB.out.next hbla rfl, by rw [hg0]; exact link_below (link_below hbW hblb hgW rfl rfl rfl rfl) hbla (Nat.le_trans hgW hblb.size) rfl rfl rfl rfl⟩
  | false =>
    have hc' : p + u0 * a = v0 * b ∧ q + v1 * b = u1 * a := by simpa [Comb] using hc
    have HC := Lib.hid hc'
    clear hc hc'
    go_enter Try.func121, Try.ntmps121
    go_wp2_with fail
    obtain ⟨W, hW⟩ : ∃ W, W = w.alloc (Obj.cells #[Value.int IntKind.u64 (u0 : Nat), Value.int IntKind.u64 (u1 : Nat), Value.int IntKind.u64 (v0 : Nat), Value.int IntKind.u64 (v1 : Nat), Value.bool false] 119) := ⟨_, rfl⟩
    rw [← hW]
    have b0 : SBox W w.heap.size u0 u1 v0 v1 false := by rw [hW]; exact SBox.new _ _ _ _ _ _
    have a1 : Hid (Wd W A n (mag a)) := by rw [hW]; exact HA.out.alloc _
    have a2 : Hid (Wd W B m (mag b)) := by rw [hW]; exact HB.out.alloc _
    have hbW : Below w.heap.size w W := by rw [hW]; exact (Below.refl _ _).alloc (Nat.le_refl _) _
    have B0 := Lib.hid b0
    obtain ⟨c0, c1, c2, c3, c4⟩ := b0.cells
    clear hW b0
    have hgW := hbW.size
    generalize hg0 : w.heap.size = g at *
    go_region_held3 (fun w' => w'.cell? ⟨g, 0, none⟩ = some (.int .u64 (u0 : Nat)) ∧ w'.cell? ⟨g, 1, none⟩ = some (.int .u64 (u1 : Nat)) ∧ w'.cell? ⟨g, 2, none⟩ = some (.int .u64 (v0 : Nat)) ∧ w'.cell? ⟨g, 3, none⟩ = some (.int .u64 (v1 : Nat))) (go_keep)
      (first
        | (go_at_call_of 135 (Value.int IntKind.u64 (v0 : Nat)); refine (difference_any B A m n d c b a v0 u0 N p _ (by first | exact a2.out | exact a2.out.next hblb rfl) (by first | exact a1.out | exact a1.out.next hblb rfl) hm hn hN3 hN2 h2 h0 HC.out.1 HP.out).mono ?_; rintro e wa ⟨va, rfl, hva, hbla⟩
           have ka0 := (by first | exact B0.out.next hbla rfl | exact (B0.out.next hblb rfl).next hbla rfl : SBox wa g u0 u1 v0 v1 false)
           obtain ⟨p0, p1, p2, p3, p4⟩ := ka0.cells
           have HVA := Lib.hid hva; clear ka0 hva)
        | (go_at_call_of 135 (Value.int IntKind.u64 (u1 : Nat)); refine (difference_any A B n m c d a b u1 v1 N q _ (by first | exact a1.out | exact a1.out.next hbla rfl) (by first | exact a2.out | exact a2.out.next hbla rfl) hn hm hN hN2 h1 h3 HC.out.2 HQ.out).mono ?_; rintro e wb ⟨vb, rfl, hvb, hblb⟩
           have kb0 := (by first | exact B0.out.next hblb rfl | exact (B0.out.next hbla rfl).next hblb rfl : SBox wb g u0 u1 v0 v1 false)
           obtain ⟨q0, q1, q2, q3, q4⟩ := kb0.cells
           have HVB := Lib.hid hvb; clear kb0 hvb))
    all_goals
      go_wp2
      go_ret2
      first
        | exact ⟨_, _, rfl, HVA.out.next hblb rfl, HVB.out, by rw [hg0]; exact link_below (link_below hbW hbla hgW rfl rfl rfl rfl) hblb (Nat.le_trans hgW hbla.size) rfl rfl rfl rfl⟩
        | exact ⟨_, _, rfl, HVA.out, HVB.out.next hbla rfl, by rw [hg0]; exact link_below (link_below hbW hblb hgW rfl rfl rfl rfl) hbla (Nat.le_trans hgW hblb.size) rfl rfl rfl rfl⟩

/-- The greatest common divisor of p and q is that of x and y. -/
def GcdIs (p q x y : Nat) : Prop := Nat.gcd p q = Nat.gcd x y
theorem gcd_mod (x y : Nat) : Nat.gcd y (x % y) = Nat.gcd x y := by rw [Nat.gcd_comm y, ← Nat.gcd_rec, Nat.gcd_comm]

set_option maxHeartbeats 8000000 in
set_option maxRecDepth 100000 in
theorem gcd_any (A B : Option Addr) (n m c d x y : Nat) (w : World) (ha : Wd w A n (mag x)) (hb : Wd w B m (mag y)) (hnc : n ≤ c) (hmd : m ≤ d) (hc : c ≤ 9223372036854775807) (hd : d ≤ 9223372036854775807) (hn : n ≤ 10000000) (hm : m ≤ 10000000) :
    Calls Try.prog 86 #[.slice A n c, .slice B m d] w (RetMg (Nat.gcd x y) w) := by
  have HA := Lib.hid ha
  have HB := Lib.hid hb
  obtain ⟨M, hM, hxM, hyM⟩ : ∃ M, M ≤ 10000000 ∧ Hid (x < pw M) ∧ Hid (y < pw M) := by
    refine ⟨max n m, by omega, ?_, ?_⟩
    · have h := lt_pw_mag x
      rw [ha.len] at h
      exact Nat.lt_of_lt_of_le h (pw_le (by omega))
    · have h := lt_pw_mag y
      rw [hb.len] at h
      exact Nat.lt_of_lt_of_le h (pw_le (by omega))
  clear ha hb
  have hswap : x < y ∨ y ≤ x := by omega
  rcases hswap with hlt | hge
  · have hcm := Lib.hid (cmpN_lt hlt)
    have G0 : Hid (GcdIs y x x y) := Nat.gcd_comm _ _
    go_enter Try.func86, Try.ntmps86
    go_wp2_with fail
    refine (compare_any A B n m c d x y w HA.out HB.out (by omega) (by omega)).mono ?_
    rintro e w' ⟨rfl, q0, rfl⟩
    rw [hcm.out]
    go_wp2_with fail
    go_loopg [0, 1] (min x y) (fun k v u wr => ∃ a b : Nat, b ≤ k ∧ k ≤ b ∧ Mg wr v a ∧ Mg wr u b ∧ b ≤ a ∧ GcdIs a b x y ∧ a < pw M ∧ Below w.heap.size w wr)
    case atStart => exact ⟨y, x, by omega, by omega, ⟨B, m, d, rfl, hmd, hd, HB.out.drewN _⟩, ⟨A, n, c, rfl, hnc, hc, HA.out.drewN _⟩, by omega, G0.out, hyM.out, below_drewN (Below.refl _ _) _⟩
    case round =>
      obtain ⟨a, b, hk1, hk2, ⟨A1, n1, c1, rfl, h1, h2, h3⟩, ⟨B1, m1, d1, rfl, k1, k2, k3⟩, hba, hG, haM, hbl⟩ := hrel
      have hn1 : n1 ≤ 10000000 := by have := mag_length_le haM; rw [h3.len] at this; omega
      have hmn : m1 ≤ n1 := by have := mag_len_mono hba; rw [h3.len, k3.len] at this; exact this
      have H3 := Lib.hid h3
      have K3 := Lib.hid k3
      have HG := Lib.hid hG
      have HAM := Lib.hid haM
      clear h3 k3 hG haM
      by_cases hlong : 2 < m1
      · have hb0 : b ≠ 0 := by
          intro e
          have := K3.out.len
          rw [e, mag_zero] at this
          simp at this
          omega
        have hlI : (2 : Int) < (m1 : Int) := by omega
        go_wp2_with fail
        refine (leadingSteps_any A1 B1 n1 m1 c1 d1 a b _ H3.out K3.out (by omega) (by omega) (by omega) hba).mono ?_
        rintro e w2 ⟨u0, u1, v0, v1, ev, rfl, ⟨s0, s1, s2, s3, hst⟩, hbl2⟩
        have HST := Lib.hid hst
        have H4 := Lib.hid (H3.out.next hbl2 rfl)
        have K4 := Lib.hid (K3.out.next hbl2 rfl)
        have hbl3 := link_below hbl hbl2 hbl.size rfl rfl rfl rfl
        clear hst
        unfold stv
        by_cases hv0 : v0 = 0
        · subst hv0
          go_wp2_with fail
          refine (divide_any A1 B1 n1 c1 m1 d1 a b _ (H4.out.alloc _) (K4.out.alloc _) (by omega) (by omega) hb0).mono ?_
          rintro e w3 ⟨v3, u3, rfl, hm1, hm2, hbl4⟩
          have HM2 := Lib.hid hm2
          have hx := Nat.mod_lt a (show 0 < b by omega)
          have HG2 : Hid (GcdIs b (a % b) x y) := by show Nat.gcd b (a % b) = Nat.gcd x y; rw [gcd_mod]; exact HG.out
          clear hm1 hm2
          generalize hrr : a % b = rr at *
          clear hrr
          go_wp2
          go_roundg rr
          case rel => exact ⟨b, rr, Nat.le_refl _, Nat.le_refl _, ⟨B1, m1, d1, rfl, k1, k2, (K4.out.alloc _).next hbl4 rfl⟩, HM2.out, by omega, HG2.out, Nat.lt_of_le_of_lt hba HAM.out, link_below (hbl3.alloc hbl3.size _) hbl4 (by have := hbl3.size; simp; omega) rfl rfl rfl rfl⟩
          case measure => omega
        · obtain ⟨p, q, hcomb, hg, hqp, hpb⟩ := HST.out hv0
          have HC := Lib.hid hcomb
          have hv0' : ((v0 : Int) == 0) = false := by simp; omega
          have hbn : b < pw n1 := Nat.lt_of_lt_of_le (lt_pw_mag b) (pw_le (by rw [K3.out.len]; exact hmn))
          have hpn : Hid (p < pw n1 ∧ q < pw n1) := ⟨by omega, by omega⟩
          have HG2 : Hid (GcdIs p q x y) := by show Nat.gcd p q = Nat.gcd x y; rw [hg]; exact HG.out
          clear hcomb hg hbn
          go_wp2_with fail
          refine (apply_any A1 B1 n1 m1 c1 d1 a b n1 u0 u1 v0 v1 p q ev _ (H4.out.alloc _) (K4.out.alloc _) (Nat.le_refl _) hmn (.inl (Nat.le_refl _)) (by omega) s0 s1 s2 s3 HC.out hpn.out.1 hpn.out.2).mono ?_
          rintro e w3 ⟨v3, u3, rfl, hm1, hm2, hbl4⟩
          have HM1 := Lib.hid hm1
          have HM2 := Lib.hid hm2
          clear hm1 hm2
          go_wp2
          go_roundg q
          case rel => exact ⟨p, q, Nat.le_refl _, Nat.le_refl _, HM1.out, HM2.out, by omega, HG2.out, Nat.lt_of_le_of_lt (Nat.le_trans hpb hba) HAM.out, link_below (hbl3.alloc hbl3.size _) hbl4 (by have := hbl3.size; simp; omega) rfl rfl rfl rfl⟩
          case measure => omega
      · have hlI : ¬ (2 : Int) < (m1 : Int) := by omega
        have hm2 : m1 ≤ 2 := by omega
        clear hlong
        by_cases hm0 : m1 = 0
        · subst hm0
          have hb0 : b = 0 := mag_length_zero.1 K3.out.len
          subst hb0
          have e0 : Hid (a = Nat.gcd x y) := by have := HG.out; unfold GcdIs at this; rw [Nat.gcd_zero_right] at this; exact this
          go_wp2_with fail
          refine (clone_any A1 n1 c1 (mag a) _ H3.out (by omega)).mono ?_
          rintro e w2 ⟨rfl, hb2, hbl2⟩
          have HB2 := Lib.hid hb2
          clear hb2
          go_wp2
          go_ret
          exact ⟨_, rfl, Mg.blk HB2.out H3.out.len (by omega) (by rw [e0.out]), link_below hbl hbl2 hbl.size rfl rfl rfl rfl⟩
        · have hmI : ((m1 : Int) == 0) = false := by simp; omega
          by_cases hn2 : 2 < n1
          · have hnI : (2 : Int) < (n1 : Int) := by omega
            have hb0 : b ≠ 0 := by
              intro e
              have := K3.out.len
              rw [e, mag_zero] at this
              simp at this
              omega
            go_wp2_with fail
            refine (divide_any A1 B1 n1 c1 m1 d1 a b _ H3.out K3.out (by omega) (by omega) hb0).mono ?_
            rintro e w3 ⟨v3, u3, rfl, hm1, ⟨R, r, rc, rfl, r1, r2, r3⟩, hbl4⟩
            have R3 := Lib.hid r3
            have K4 := Lib.hid (K3.out.next hbl4 rfl)
            have hx := Nat.mod_lt a (show 0 < b by omega)
            have hr2 : r ≤ 2 := by have h := mag_len_mono (Nat.le_of_lt hx); rw [R3.out.len, K3.out.len] at h; omega
            have HG2 : Hid (GcdIs b (a % b) x y) := by show Nat.gcd b (a % b) = Nat.gcd x y; rw [gcd_mod]; exact HG.out
            have hbl5 := link_below hbl hbl4 hbl.size rfl rfl rfl rfl
            clear hm1 r3
            generalize hrr : a % b = rr at *
            clear hrr hmI hlI
            have hxl := Lib.hid (number_val K4.out.len hm2)
            have hyl := Lib.hid (number_val R3.out.len hr2)
            have hx64 : b < 18446744073709551616 := by
              rw [← hxl.out]
              have := (mag_wds (b)).getD 0
              have := (mag_wds (b)).getD 1
              omega
            have hy64 : rr < 18446744073709551616 := by
              rw [← hyl.out]
              have := (mag_wds (rr)).getD 0
              have := (mag_wds (rr)).getD 1
              omega
            go_wp2_with fail
            refine (number_any B1 m1 d1 (mag (b)) _ K4.out (by omega)).mono ?_
            rintro e w' ⟨rfl, rfl⟩
            rw [hxl.out]
            go_wp2_with fail
            refine (number_any R r rc (mag (rr)) _ R3.out (by omega)).mono ?_
            rintro e w' ⟨rfl, rfl⟩
            rw [hyl.out]
            go_wp2_with fail
            go_loopw [10, 11] (fun tx ty wq => ∃ p q k : Nat, tx = .int .u64 p ∧ ty = .int .u64 q ∧ wq = w3.drewN k ∧ p < 18446744073709551616 ∧ q < 18446744073709551616 ∧ GcdIs p q x y) (fun _ ty _ => (intOf ty).toNat)
            case atStart => exact ⟨_, _, 0, rfl, rfl, rfl, hx64, hy64, HG2.out⟩
            case round =>
              obtain ⟨p, q, k, rfl, rfl, rfl, hp, hq, hG⟩ := hrel
              have HG := Lib.hid hG
              clear hG
              by_cases hq0 : q = 0
              · subst hq0
                have e0 : Hid (p = Nat.gcd x y) := by have := HG.out; unfold GcdIs at this; rw [Nat.gcd_zero_right] at this; exact this
                go_wp2_with fail
                refine (wordsOf_any p _ hp).mono ?_
                rintro e w4 ⟨v4, rfl, hm4, hbl4⟩
                have HM4 := Lib.hid hm4
                clear hm4
                go_wp2
                go_ret
                exact ⟨_, rfl, by rw [← e0.out]; exact HM4.out, link_below hbl5 (undrewN hbl4) hbl5.size rfl rfl rfl rfl⟩
              · have n1' : ((q : Int) == 0) = false := by simp; omega
                have n1'' : ((q : Int) != 0) = true := by simp; omega
                have n2' : (1 : Int) ≤ (q : Int) := by omega
                have n4' : p % q < q := Nat.mod_lt _ (by omega)
                have n6' : ((p : Int) % (q : Int)) = ((p % q : Nat) : Int) := rfl
                have n7' : (p : Int).tmod (q : Int) = ((p % q : Nat) : Int) := rfl
                have hG2 : Hid (GcdIs q (p % q) x y) := by show Nat.gcd q (p % q) = Nat.gcd x y; rw [gcd_mod]; exact HG.out
                generalize hrr : p % q = rr at *
                clear hrr
                go_wp2_with fail
                go_quiet (fail)
                go_wp2
                go_roundw
                case rel => exact ⟨q, rr, _, rfl, rfl, World.drewN_drewN _ _ _, hq, by omega, hG2.out⟩
                case measure => simp [intOf]; omega
          · have hnI : ¬ (2 : Int) < (n1 : Int) := by omega
            have hn3 : n1 ≤ 2 := by omega
            clear hn2
            have hxl := Lib.hid (number_val H3.out.len hn3)
            have hyl := Lib.hid (number_val K3.out.len hm2)
            have hx64 : a < 18446744073709551616 := by
              rw [← hxl.out]
              have := (mag_wds (a)).getD 0
              have := (mag_wds (a)).getD 1
              omega
            have hy64 : b < 18446744073709551616 := by
              rw [← hyl.out]
              have := (mag_wds (b)).getD 0
              have := (mag_wds (b)).getD 1
              omega
            go_wp2_with fail
            refine (number_any A1 n1 c1 (mag (a)) _ H3.out (by omega)).mono ?_
            rintro e w' ⟨rfl, rfl⟩
            rw [hxl.out]
            go_wp2_with fail
            refine (number_any B1 m1 d1 (mag (b)) _ K3.out (by omega)).mono ?_
            rintro e w' ⟨rfl, rfl⟩
            rw [hyl.out]
            go_wp2_with fail
            go_loopw [10, 11] (fun tx ty wq => ∃ p q k : Nat, tx = .int .u64 p ∧ ty = .int .u64 q ∧ wq = wr.drewN k ∧ p < 18446744073709551616 ∧ q < 18446744073709551616 ∧ GcdIs p q x y) (fun _ ty _ => (intOf ty).toNat)
            case atStart => exact ⟨_, _, 0, rfl, rfl, rfl, hx64, hy64, HG.out⟩
            case round =>
              obtain ⟨p, q, k, rfl, rfl, rfl, hp, hq, hG⟩ := hrel
              have HG := Lib.hid hG
              clear hG
              by_cases hq0 : q = 0
              · subst hq0
                have e0 : Hid (p = Nat.gcd x y) := by have := HG.out; unfold GcdIs at this; rw [Nat.gcd_zero_right] at this; exact this
                go_wp2_with fail
                refine (wordsOf_any p _ hp).mono ?_
                rintro e w4 ⟨v4, rfl, hm4, hbl4⟩
                have HM4 := Lib.hid hm4
                clear hm4
                go_wp2
                go_ret
                exact ⟨_, rfl, by rw [← e0.out]; exact HM4.out, link_below hbl (undrewN hbl4) hbl.size rfl rfl rfl rfl⟩
              · have n1' : ((q : Int) == 0) = false := by simp; omega
                have n1'' : ((q : Int) != 0) = true := by simp; omega
                have n2' : (1 : Int) ≤ (q : Int) := by omega
                have n4' : p % q < q := Nat.mod_lt _ (by omega)
                have n6' : ((p : Int) % (q : Int)) = ((p % q : Nat) : Int) := rfl
                have n7' : (p : Int).tmod (q : Int) = ((p % q : Nat) : Int) := rfl
                have hG2 : Hid (GcdIs q (p % q) x y) := by show Nat.gcd q (p % q) = Nat.gcd x y; rw [gcd_mod]; exact HG.out
                generalize hrr : p % q = rr at *
                clear hrr
                go_wp2_with fail
                go_quiet (fail)
                go_wp2
                go_roundw
                case rel => exact ⟨q, rr, _, rfl, rfl, World.drewN_drewN _ _ _, hq, by omega, hG2.out⟩
                case measure => simp [intOf]; omega
  · have hc0 : (0 : Int) ≤ cmpN x y := by unfold cmpN; rw [if_neg (by omega)]; split <;> omega
    have G0 : Hid (GcdIs x y x y) := rfl
    generalize hcc : cmpN x y = cc at *
    have HCC := Lib.hid hcc
    clear hcc
    go_enter Try.func86, Try.ntmps86
    go_wp2_with fail
    refine (compare_any A B n m c d x y w HA.out HB.out (by omega) (by omega)).mono ?_
    rintro e w' ⟨rfl, q0, rfl⟩
    rw [HCC.out]
    go_wp2_with fail
    go_loopg [0, 1] (min x y) (fun k v u wr => ∃ a b : Nat, b ≤ k ∧ k ≤ b ∧ Mg wr v a ∧ Mg wr u b ∧ b ≤ a ∧ GcdIs a b x y ∧ a < pw M ∧ Below w.heap.size w wr)
    case atStart => exact ⟨x, y, by omega, by omega, ⟨A, n, c, rfl, hnc, hc, HA.out.drewN _⟩, ⟨B, m, d, rfl, hmd, hd, HB.out.drewN _⟩, hge, G0.out, hxM.out, below_drewN (Below.refl _ _) _⟩
    case round =>
      obtain ⟨a, b, hk1, hk2, ⟨A1, n1, c1, rfl, h1, h2, h3⟩, ⟨B1, m1, d1, rfl, k1, k2, k3⟩, hba, hG, haM, hbl⟩ := hrel
      have hn1 : n1 ≤ 10000000 := by have := mag_length_le haM; rw [h3.len] at this; omega
      have hmn : m1 ≤ n1 := by have := mag_len_mono hba; rw [h3.len, k3.len] at this; exact this
      have H3 := Lib.hid h3
      have K3 := Lib.hid k3
      have HG := Lib.hid hG
      have HAM := Lib.hid haM
      clear h3 k3 hG haM
      by_cases hlong : 2 < m1
      · have hb0 : b ≠ 0 := by
          intro e
          have := K3.out.len
          rw [e, mag_zero] at this
          simp at this
          omega
        have hlI : (2 : Int) < (m1 : Int) := by omega
        go_wp2_with fail
        refine (leadingSteps_any A1 B1 n1 m1 c1 d1 a b _ H3.out K3.out (by omega) (by omega) (by omega) hba).mono ?_
        rintro e w2 ⟨u0, u1, v0, v1, ev, rfl, ⟨s0, s1, s2, s3, hst⟩, hbl2⟩
        have HST := Lib.hid hst
        have H4 := Lib.hid (H3.out.next hbl2 rfl)
        have K4 := Lib.hid (K3.out.next hbl2 rfl)
        have hbl3 := link_below hbl hbl2 hbl.size rfl rfl rfl rfl
        clear hst
        unfold stv
        by_cases hv0 : v0 = 0
        · subst hv0
          go_wp2_with fail
          refine (divide_any A1 B1 n1 c1 m1 d1 a b _ (H4.out.alloc _) (K4.out.alloc _) (by omega) (by omega) hb0).mono ?_
          rintro e w3 ⟨v3, u3, rfl, hm1, hm2, hbl4⟩
          have HM2 := Lib.hid hm2
          have hx := Nat.mod_lt a (show 0 < b by omega)
          have HG2 : Hid (GcdIs b (a % b) x y) := by show Nat.gcd b (a % b) = Nat.gcd x y; rw [gcd_mod]; exact HG.out
          clear hm1 hm2
          generalize hrr : a % b = rr at *
          clear hrr
          go_wp2
          go_roundg rr
          case rel => exact ⟨b, rr, Nat.le_refl _, Nat.le_refl _, ⟨B1, m1, d1, rfl, k1, k2, (K4.out.alloc _).next hbl4 rfl⟩, HM2.out, by omega, HG2.out, Nat.lt_of_le_of_lt hba HAM.out, link_below (hbl3.alloc hbl3.size _) hbl4 (by have := hbl3.size; simp; omega) rfl rfl rfl rfl⟩
          case measure => omega
        · obtain ⟨p, q, hcomb, hg, hqp, hpb⟩ := HST.out hv0
          have HC := Lib.hid hcomb
          have hv0' : ((v0 : Int) == 0) = false := by simp; omega
          have hbn : b < pw n1 := Nat.lt_of_lt_of_le (lt_pw_mag b) (pw_le (by rw [K3.out.len]; exact hmn))
          have hpn : Hid (p < pw n1 ∧ q < pw n1) := ⟨by omega, by omega⟩
          have HG2 : Hid (GcdIs p q x y) := by show Nat.gcd p q = Nat.gcd x y; rw [hg]; exact HG.out
          clear hcomb hg hbn
          go_wp2_with fail
          refine (apply_any A1 B1 n1 m1 c1 d1 a b n1 u0 u1 v0 v1 p q ev _ (H4.out.alloc _) (K4.out.alloc _) (Nat.le_refl _) hmn (.inl (Nat.le_refl _)) (by omega) s0 s1 s2 s3 HC.out hpn.out.1 hpn.out.2).mono ?_
          rintro e w3 ⟨v3, u3, rfl, hm1, hm2, hbl4⟩
          have HM1 := Lib.hid hm1
          have HM2 := Lib.hid hm2
          clear hm1 hm2
          go_wp2
          go_roundg q
          case rel => exact ⟨p, q, Nat.le_refl _, Nat.le_refl _, HM1.out, HM2.out, by omega, HG2.out, Nat.lt_of_le_of_lt (Nat.le_trans hpb hba) HAM.out, link_below (hbl3.alloc hbl3.size _) hbl4 (by have := hbl3.size; simp; omega) rfl rfl rfl rfl⟩
          case measure => omega
      · have hlI : ¬ (2 : Int) < (m1 : Int) := by omega
        have hm2 : m1 ≤ 2 := by omega
        clear hlong
        by_cases hm0 : m1 = 0
        · subst hm0
          have hb0 : b = 0 := mag_length_zero.1 K3.out.len
          subst hb0
          have e0 : Hid (a = Nat.gcd x y) := by have := HG.out; unfold GcdIs at this; rw [Nat.gcd_zero_right] at this; exact this
          go_wp2_with fail
          refine (clone_any A1 n1 c1 (mag a) _ H3.out (by omega)).mono ?_
          rintro e w2 ⟨rfl, hb2, hbl2⟩
          have HB2 := Lib.hid hb2
          clear hb2
          go_wp2
          go_ret
          exact ⟨_, rfl, Mg.blk HB2.out H3.out.len (by omega) (by rw [e0.out]), link_below hbl hbl2 hbl.size rfl rfl rfl rfl⟩
        · have hmI : ((m1 : Int) == 0) = false := by simp; omega
          by_cases hn2 : 2 < n1
          · have hnI : (2 : Int) < (n1 : Int) := by omega
            have hb0 : b ≠ 0 := by
              intro e
              have := K3.out.len
              rw [e, mag_zero] at this
              simp at this
              omega
            go_wp2_with fail
            refine (divide_any A1 B1 n1 c1 m1 d1 a b _ H3.out K3.out (by omega) (by omega) hb0).mono ?_
            rintro e w3 ⟨v3, u3, rfl, hm1, ⟨R, r, rc, rfl, r1, r2, r3⟩, hbl4⟩
            have R3 := Lib.hid r3
            have K4 := Lib.hid (K3.out.next hbl4 rfl)
            have hx := Nat.mod_lt a (show 0 < b by omega)
            have hr2 : r ≤ 2 := by have h := mag_len_mono (Nat.le_of_lt hx); rw [R3.out.len, K3.out.len] at h; omega
            have HG2 : Hid (GcdIs b (a % b) x y) := by show Nat.gcd b (a % b) = Nat.gcd x y; rw [gcd_mod]; exact HG.out
            have hbl5 := link_below hbl hbl4 hbl.size rfl rfl rfl rfl
            clear hm1 r3
            generalize hrr : a % b = rr at *
            clear hrr hmI hlI
            have hxl := Lib.hid (number_val K4.out.len hm2)
            have hyl := Lib.hid (number_val R3.out.len hr2)
            have hx64 : b < 18446744073709551616 := by
              rw [← hxl.out]
              have := (mag_wds (b)).getD 0
              have := (mag_wds (b)).getD 1
              omega
            have hy64 : rr < 18446744073709551616 := by
              rw [← hyl.out]
              have := (mag_wds (rr)).getD 0
              have := (mag_wds (rr)).getD 1
              omega
            go_wp2_with fail
            refine (number_any B1 m1 d1 (mag (b)) _ K4.out (by omega)).mono ?_
            rintro e w' ⟨rfl, rfl⟩
            rw [hxl.out]
            go_wp2_with fail
            refine (number_any R r rc (mag (rr)) _ R3.out (by omega)).mono ?_
            rintro e w' ⟨rfl, rfl⟩
            rw [hyl.out]
            go_wp2_with fail
            go_loopw [10, 11] (fun tx ty wq => ∃ p q k : Nat, tx = .int .u64 p ∧ ty = .int .u64 q ∧ wq = w3.drewN k ∧ p < 18446744073709551616 ∧ q < 18446744073709551616 ∧ GcdIs p q x y) (fun _ ty _ => (intOf ty).toNat)
            case atStart => exact ⟨_, _, 0, rfl, rfl, rfl, hx64, hy64, HG2.out⟩
            case round =>
              obtain ⟨p, q, k, rfl, rfl, rfl, hp, hq, hG⟩ := hrel
              have HG := Lib.hid hG
              clear hG
              by_cases hq0 : q = 0
              · subst hq0
                have e0 : Hid (p = Nat.gcd x y) := by have := HG.out; unfold GcdIs at this; rw [Nat.gcd_zero_right] at this; exact this
                go_wp2_with fail
                refine (wordsOf_any p _ hp).mono ?_
                rintro e w4 ⟨v4, rfl, hm4, hbl4⟩
                have HM4 := Lib.hid hm4
                clear hm4
                go_wp2
                go_ret
                exact ⟨_, rfl, by rw [← e0.out]; exact HM4.out, link_below hbl5 (undrewN hbl4) hbl5.size rfl rfl rfl rfl⟩
              · have n1' : ((q : Int) == 0) = false := by simp; omega
                have n1'' : ((q : Int) != 0) = true := by simp; omega
                have n2' : (1 : Int) ≤ (q : Int) := by omega
                have n4' : p % q < q := Nat.mod_lt _ (by omega)
                have n6' : ((p : Int) % (q : Int)) = ((p % q : Nat) : Int) := rfl
                have n7' : (p : Int).tmod (q : Int) = ((p % q : Nat) : Int) := rfl
                have hG2 : Hid (GcdIs q (p % q) x y) := by show Nat.gcd q (p % q) = Nat.gcd x y; rw [gcd_mod]; exact HG.out
                generalize hrr : p % q = rr at *
                clear hrr
                go_wp2_with fail
                go_quiet (fail)
                go_wp2
                go_roundw
                case rel => exact ⟨q, rr, _, rfl, rfl, World.drewN_drewN _ _ _, hq, by omega, hG2.out⟩
                case measure => simp [intOf]; omega
          · have hnI : ¬ (2 : Int) < (n1 : Int) := by omega
            have hn3 : n1 ≤ 2 := by omega
            clear hn2
            have hxl := Lib.hid (number_val H3.out.len hn3)
            have hyl := Lib.hid (number_val K3.out.len hm2)
            have hx64 : a < 18446744073709551616 := by
              rw [← hxl.out]
              have := (mag_wds (a)).getD 0
              have := (mag_wds (a)).getD 1
              omega
            have hy64 : b < 18446744073709551616 := by
              rw [← hyl.out]
              have := (mag_wds (b)).getD 0
              have := (mag_wds (b)).getD 1
              omega
            go_wp2_with fail
            refine (number_any A1 n1 c1 (mag (a)) _ H3.out (by omega)).mono ?_
            rintro e w' ⟨rfl, rfl⟩
            rw [hxl.out]
            go_wp2_with fail
            refine (number_any B1 m1 d1 (mag (b)) _ K3.out (by omega)).mono ?_
            rintro e w' ⟨rfl, rfl⟩
            rw [hyl.out]
            go_wp2_with fail
            go_loopw [10, 11] (fun tx ty wq => ∃ p q k : Nat, tx = .int .u64 p ∧ ty = .int .u64 q ∧ wq = wr.drewN k ∧ p < 18446744073709551616 ∧ q < 18446744073709551616 ∧ GcdIs p q x y) (fun _ ty _ => (intOf ty).toNat)
            case atStart => exact ⟨_, _, 0, rfl, rfl, rfl, hx64, hy64, HG.out⟩
            case round =>
              obtain ⟨p, q, k, rfl, rfl, rfl, hp, hq, hG⟩ := hrel
              have HG := Lib.hid hG
              clear hG
              by_cases hq0 : q = 0
              · subst hq0
                have e0 : Hid (p = Nat.gcd x y) := by have := HG.out; unfold GcdIs at this; rw [Nat.gcd_zero_right] at this; exact this
                go_wp2_with fail
                refine (wordsOf_any p _ hp).mono ?_
                rintro e w4 ⟨v4, rfl, hm4, hbl4⟩
                have HM4 := Lib.hid hm4
                clear hm4
                go_wp2
                go_ret
                exact ⟨_, rfl, by rw [← e0.out]; exact HM4.out, link_below hbl (undrewN hbl4) hbl.size rfl rfl rfl rfl⟩
              · have n1' : ((q : Int) == 0) = false := by simp; omega
                have n1'' : ((q : Int) != 0) = true := by simp; omega
                have n2' : (1 : Int) ≤ (q : Int) := by omega
                have n4' : p % q < q := Nat.mod_lt _ (by omega)
                have n6' : ((p : Int) % (q : Int)) = ((p % q : Nat) : Int) := rfl
                have n7' : (p : Int).tmod (q : Int) = ((p % q : Nat) : Int) := rfl
                have hG2 : Hid (GcdIs q (p % q) x y) := by show Nat.gcd q (p % q) = Nat.gcd x y; rw [gcd_mod]; exact HG.out
                generalize hrr : p % q = rr at *
                clear hrr
                go_wp2_with fail
                go_quiet (fail)
                go_wp2
                go_roundw
                case rel => exact ⟨q, rr, _, rfl, rfl, World.drewN_drewN _ _ _, hq, by omega, hG2.out⟩
                case measure => simp [intOf]; omega
end Go.Proofs.Ytpklphdhigkmmaa
