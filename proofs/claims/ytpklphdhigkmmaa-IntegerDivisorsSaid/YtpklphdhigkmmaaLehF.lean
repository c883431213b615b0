/-
  Contract of Gcd.
-/
import Derived.Test.YtpklphdhigkmmaaLehE
import Derived.Test.YtpklphdhigkmmaaRegD
namespace Go.Proofs.Ytpklphdhigkmmaa
open Go.RowKit
attribute [local go_sem ↓] Go.wp_at_zero Go.wp_at_succ

theorem gcd_le_add (x y : Nat) : Nat.gcd x y ≤ x + y := by
  rcases Nat.eq_zero_or_pos x with e | e
  · rw [e, Nat.gcd_zero_left]; omega
  · have := Nat.gcd_le_left y e; omega

set_option maxHeartbeats 2000000 in
theorem gcdI_at (A B : Option Addr) (n c m d : Nat) (a b : Int) (w : World) (ha : Wd w A n (mag a.natAbs)) (hb : Wd w B m (mag b.natAbs)) (hn : n ≤ 1000000) (hm : m ≤ 1000000) (hnc : n ≤ c) (hmd : m ≤ d) (hcb : c ≤ 9223372036854775807) (hdb : d ≤ 9223372036854775807) (z : Int) (hz : z = (Nat.gcd a.natAbs b.natAbs : Nat)) :
    Calls Try.prog 21 #[.agg #[.bool (decide (a < 0)), .slice A n c], .agg #[.bool (decide (b < 0)), .slice B m d]] w (RetIv z w) := by
  have HA := Lib.hid ha
  have HB := Lib.hid hb
  clear ha hb
  have hsum := Lib.hid (show sgn false (Nat.gcd a.natAbs b.natAbs) = z by rw [hz]; rfl)
  clear hz
  generalize decide (a < 0) = sa at *
  generalize decide (b < 0) = sb at *
  go_enter Try.func21, Try.ntmps21
  go_wp2
  obtain ⟨W, hW⟩ : ∃ W, W = ((w.alloc (Obj.cells #[Value.bool sa, Value.slice A n c] 27)).alloc (Obj.cells #[Value.bool sb, Value.slice B m d] 27)).alloc (Obj.cells #[Value.bool false, Value.slice none 0 0] 27) := ⟨_, rfl⟩
  rw [← hW]
  obtain ⟨b0, b1, b2, a1, a2, hbW⟩ := two_boxes HA.out HB.out hW
  have c0 := b0.cell0
  have c1 := b0.cell1
  have c2 := b1.cell0
  have c3 := b1.cell1
  have B0 := Lib.hid b0
  have B1 := Lib.hid b1
  have B2 := Lib.hid b2
  have A1 := Lib.hid a1
  have A2 := Lib.hid a2
  clear hW b0 b1 b2 a1 a2
  have hgW := hbW.size
  generalize hg0 : w.heap.size = g at *
  have z1 : ¬ g + 1 + 1 = g := by omega
  have z2 : ¬ g = g + 1 + 1 := by omega
  go_region_held3 (fun w' => w'.cell? ⟨g, 0, none⟩ = some (.bool sa) ∧ w'.cell? ⟨g, 1, none⟩ = some (.slice A n c) ∧ w'.cell? ⟨g + 1, 0, none⟩ = some (.bool sb) ∧ w'.cell? ⟨g + 1, 1, none⟩ = some (.slice B m d)) (go_keep)
    (first
      | (go_at_call_of 75 (Value.slice A n c); refine (words_int sa A n c a.natAbs _ (by first | exact A1.out | exact A1.out.next hblb rfl) (by omega) hnc).mono ?_; rintro e wa ⟨rfl, hbla⟩
         have ka0 := (by first | exact B0.out.next hbla rfl | exact (B0.out.next hblb rfl).next hbla rfl : Box wa g sa (.slice A n c))
         have ka1 := (by first | exact B1.out.next hbla rfl | exact (B1.out.next hblb rfl).next hbla rfl : Box wa (g + 1) sb (.slice B m d))
         have p0 := ka0.cell0; have p1 := ka0.cell1; have p2 := ka1.cell0; have p3 := ka1.cell1
         have KA0 := Lib.hid ka0; have KA1 := Lib.hid ka1; clear ka0 ka1)
      | (go_at_call_of 75 (Value.slice B m d); refine (words_int sb B m d b.natAbs _ (by first | exact A2.out | exact A2.out.next hbla rfl) (by omega) hmd).mono ?_; rintro e wb ⟨rfl, hblb⟩
         have kb0 := (by first | exact B0.out.next hblb rfl | exact (B0.out.next hbla rfl).next hblb rfl : Box wb g sa (.slice A n c))
         have kb1 := (by first | exact B1.out.next hblb rfl | exact (B1.out.next hbla rfl).next hblb rfl : Box wb (g + 1) sb (.slice B m d))
         have q0 := kb0.cell0; have q1 := kb0.cell1; have q2 := kb1.cell0; have q3 := kb1.cell1
         have KB0 := Lib.hid kb0; have KB1 := Lib.hid kb1; clear kb0 kb1)
      | (go_at_call 86; refine (gcd_any A B n m c d a.natAbs b.natAbs _ (by exact (A1.out.next hbla rfl).next hblb rfl) (by exact (A2.out.next hbla rfl).next hblb rfl) hnc hmd hcb hdb (by omega) (by omega)).mono ?_; rintro e wt ⟨vt, rfl, ⟨At, nt, ct, rfl, t1, t2, t3⟩, hblt⟩
         have T3 := Lib.hid t3
         have hnt : nt ≤ 2000000 := by
           rw [← t3.len]
           refine Nat.le_trans (mag_len_mono (gcd_le_add _ _)) (Nat.le_trans (sum_len A1.out.len A2.out.len (show n ≤ 1000000 by omega) (by omega)) (by omega))
         have kt0 := (by exact ((B0.out.next hbla rfl).next hblb rfl).next hblt rfl : Box wt g sa (.slice A n c))
         have kt1 := (by exact ((B1.out.next hbla rfl).next hblb rfl).next hblt rfl : Box wt (g + 1) sb (.slice B m d))
         have kt2 := (by exact ((B2.out.next hbla rfl).next hblb rfl).next hblt rfl : Box wt (g + 1 + 1) false (.slice none 0 0))
         have hallt := (by exact link_below (link_below (link_below hbW hbla hgW rfl rfl rfl rfl) hblb (Nat.le_trans hgW hbla.size) rfl rfl rfl rfl) hblt (Nat.le_trans (Nat.le_trans hgW hbla.size) hblb.size) rfl rfl rfl rfl : Below g w wt)
         have u0 := kt0.cell0; have u1 := kt0.cell1; have u2 := kt1.cell0; have u3 := kt1.cell1
         have KT0 := Lib.hid kt0; have KT1 := Lib.hid kt1; have KT2 := Lib.hid kt2; clear kt0 kt1 kt2 t3)
      | (go_at_call 79; refine (signed_mg false At nt ct (Nat.gcd a.natAbs b.natAbs) _ T3.out (by omega) t1 t2).mono ?_; rintro e w3 ⟨v3, rfl, hv3, hbl3⟩
         rw [hsum.out] at hv3
         obtain ⟨A3, n3, c3, rfl, k1, k2, k3⟩ := hv3.form
         have K3 := Lib.hid k3
         have r0 := (by exact KT0.out.next hbl3 rfl : Box w3 g sa (.slice A n c))
         have r1 := (by exact KT1.out.next hbl3 rfl : Box w3 (g + 1) sb (.slice B m d))
         have r2 := (by exact KT2.out.next hbl3 rfl : Box w3 (g + 1 + 1) false (.slice none 0 0))
         have hall := (by exact link_below hallt hbl3 (Nat.le_trans (Nat.le_trans (Nat.le_trans hgW hbla.size) hblb.size) hblt.size) rfl rfl rfl rfl : Below g w w3)
         have s0 := r0.cell0; have s1 := r0.cell1; have s2 := r1.cell0; have s3 := r1.cell1; have s4 := r2.cell0; have s5 := r2.cell1; have s6 := r2.frozen 0; have s7 := r2.frozen 1
         have R2 := Lib.hid r2; clear r0 r1 r2 k3 hv3))
  go_wp2
  exact bodyPost_ret (v := .agg #[.bool (decide (z < 0)), .slice A3 n3 c3]) (by simp [results, Try.results21, go_sem, s4, s5]) rfl ⟨_, rfl, iv_store k1 k2 K3.out R2.out _, by rw [hg0]; exact (hall.setCell (by simp; omega) _).setCell (by simp; omega) _⟩

theorem gcdI_any (va vb : Value) (a b : Int) (w : World) (ha : Iv w va a) (hb : Iv w vb b) (sa : Sz a 1000000) (sb : Sz b 1000000) : Calls Try.prog 21 #[va, vb] w (RetIv (Nat.gcd a.natAbs b.natAbs : Nat) w) := by
  obtain ⟨A, n, c, rfl, h1, h2, h3⟩ := ha.form
  obtain ⟨B, m, d, rfl, k1, k2, k3⟩ := hb.form
  exact gcdI_at A B n c m d a b w h3 k3 (by rw [← h3.len]; exact sa.len) (by rw [← k3.len]; exact sb.len) h1 k1 h2 k2 _ rfl
end Go.Proofs.Ytpklphdhigkmmaa
