/-
  Contracts of Add, Sub, Mul and Neg.
-/
import Derived.Test.YtpklphdhigkmmaaIntA
import Derived.Deep.RegionHeld3
namespace Go.Proofs.Ytpklphdhigkmmaa
open Go.RowKit
attribute [local go_sem ↓] Go.wp_at_zero Go.wp_at_succ

theorem Box.next {w w1 w' : World} {g : Nat} {b : Bool} {s : Value} (h : Box w g b s) (hb : Below w1.heap.size w1 w') (e : w1.heap = w.heap) : Box w' g b s := by
  have := h.lt
  unfold Box at h ⊢
  rw [hb.block g (by rw [e]; exact this), e]
  exact h

/-- An integer of at most N words. -/
structure Sz (z : Int) (N : Nat) : Prop where
  lt : z.natAbs < pw N
theorem Sz.len {z : Int} {N : Nat} (h : Sz z N) : (mag z.natAbs).length ≤ N := mag_length_le h.lt

theorem two_boxes {w W : World} {sa sb sc : Bool} {A B : Option Addr} {n c m d : Nat} {xs ys : List Nat} (ha : Wd w A n xs) (hb : Wd w B m ys)
    (hW : W = ((w.alloc (Obj.cells #[Value.bool sa, Value.slice A n c] 27)).alloc (Obj.cells #[Value.bool sb, Value.slice B m d] 27)).alloc (Obj.cells #[Value.bool sc, Value.slice none 0 0] 27)) :
    Box W w.heap.size sa (.slice A n c) ∧ Box W (w.heap.size + 1) sb (.slice B m d) ∧ Box W (w.heap.size + 1 + 1) sc (.slice none 0 0) ∧ Wd W A n xs ∧ Wd W B m ys ∧ Below w.heap.size w W := by
  subst hW
  refine ⟨((Box.new w _ _).alloc _).alloc _, ?_, ?_, ((ha.alloc _).alloc _).alloc _, ((hb.alloc _).alloc _).alloc _, (((Below.refl _ _).alloc (Nat.le_refl _) _).alloc (by simp) _).alloc (by simp; omega) _⟩
  · have := (Box.new (w.alloc (Obj.cells #[Value.bool sa, Value.slice A n c] 27)) sb (.slice B m d)).alloc (Obj.cells #[Value.bool sc, Value.slice none 0 0] 27)
    simpa using this
  · have := Box.new ((w.alloc (Obj.cells #[Value.bool sa, Value.slice A n c] 27)).alloc (Obj.cells #[Value.bool sb, Value.slice B m d] 27)) sc (.slice none 0 0)
    simpa using this

theorem sgn_not (b : Bool) (x : Nat) : sgn (!b) x = -sgn b x := by cases b <;> simp [sgn]
theorem sgn_mul (a b : Bool) (x y : Nat) : sgn (a != b) (x * y) = sgn a x * sgn b y := by cases a <;> cases b <;> simp [sgn, Int.neg_mul, Int.mul_neg]

set_option maxHeartbeats 2000000 in
theorem add_at (A B : Option Addr) (n c m d : Nat) (a b : Int) (w : World) (ha : Wd w A n (mag a.natAbs)) (hb : Wd w B m (mag b.natAbs)) (hn : n ≤ 1000000) (hm : m ≤ 1000000) (hnc : n ≤ c) (hmd : m ≤ d) :
    Calls Try.prog 26 #[.agg #[.bool (decide (a < 0)), .slice A n c], .agg #[.bool (decide (b < 0)), .slice B m d]] w (RetIv (a + b) w) := by
  have HA := Lib.hid ha
  have HB := Lib.hid hb
  clear ha hb
  have hsum := Lib.hid (show sgn (decide (a < 0)) a.natAbs + sgn (decide (b < 0)) b.natAbs = a + b by rw [sgn_of, sgn_of])
  generalize decide (a < 0) = sa at *
  generalize decide (b < 0) = sb at *
  go_enter Try.func26, Try.ntmps26
  go_wp2
  obtain ⟨W, hW⟩ : ∃ W, W = ((w.alloc (Obj.cells #[Value.bool sa, Value.slice A n c] 27)).alloc (Obj.cells #[Value.bool sb, Value.slice B m d] 27)).alloc (Obj.cells #[Value.bool false, Value.slice none 0 0] 27) := ⟨_, rfl⟩
  rw [← hW]
  obtain ⟨b0, b1, b2, a1, a2, hbW⟩ := two_boxes HA.out HB.out hW
  have c0 := b0.cell0
  have c1 := b0.cell1
  have c2 := b1.cell0
  have c3 := b1.cell1
  have B0 := Lib.hid b0
  have B1 := Lib.hid b1
  have B2 := Lib.hid b2
  have A1 := Lib.hid a1
  have A2 := Lib.hid a2
  clear hW b0 b1 b2 a1 a2
  have hgW := hbW.size
  generalize hg0 : w.heap.size = g at *
  have z1 : ¬ g + 1 + 1 = g := by omega
  have z2 : ¬ g = g + 1 + 1 := by omega
  go_region_held3 (fun w' => w'.cell? ⟨g, 0, none⟩ = some (.bool sa) ∧ w'.cell? ⟨g, 1, none⟩ = some (.slice A n c) ∧ w'.cell? ⟨g + 1, 0, none⟩ = some (.bool sb) ∧ w'.cell? ⟨g + 1, 1, none⟩ = some (.slice B m d)) (go_keep)
    (first
      | (go_at_call_of 75 (Value.slice A n c); refine (words_int sa A n c a.natAbs _ (by first | exact A1.out | exact A1.out.next hblb rfl) (by omega) hnc).mono ?_; rintro e wa ⟨rfl, hbla⟩
         have ka0 := (by first | exact B0.out.next hbla rfl | exact (B0.out.next hblb rfl).next hbla rfl : Box wa g sa (.slice A n c))
         have ka1 := (by first | exact B1.out.next hbla rfl | exact (B1.out.next hblb rfl).next hbla rfl : Box wa (g + 1) sb (.slice B m d))
         have p0 := ka0.cell0; have p1 := ka0.cell1; have p2 := ka1.cell0; have p3 := ka1.cell1
         have KA0 := Lib.hid ka0; have KA1 := Lib.hid ka1; clear ka0 ka1)
      | (go_at_call_of 75 (Value.slice B m d); refine (words_int sb B m d b.natAbs _ (by first | exact A2.out | exact A2.out.next hbla rfl) (by omega) hmd).mono ?_; rintro e wb ⟨rfl, hblb⟩
         have kb0 := (by first | exact B0.out.next hblb rfl | exact (B0.out.next hbla rfl).next hblb rfl : Box wb g sa (.slice A n c))
         have kb1 := (by first | exact B1.out.next hblb rfl | exact (B1.out.next hbla rfl).next hblb rfl : Box wb (g + 1) sb (.slice B m d))
         have q0 := kb0.cell0; have q1 := kb0.cell1; have q2 := kb1.cell0; have q3 := kb1.cell1
         have KB0 := Lib.hid kb0; have KB1 := Lib.hid kb1; clear kb0 kb1)
      | (go_at_call 92; refine (sum_any sa sb A B n c m d a.natAbs b.natAbs _ (by first | exact (A1.out.next hbla rfl).next hblb rfl | exact (A1.out.next hblb rfl).next hbla rfl) (by first | exact (A2.out.next hbla rfl).next hblb rfl | exact (A2.out.next hblb rfl).next hbla rfl) (by omega) (by omega)).mono ?_; rintro e w3 ⟨v3, rfl, hv3, hbl3⟩
         rw [hsum.out] at hv3
         obtain ⟨A3, n3, c3, rfl, k1, k2, k3⟩ := hv3.form
         have K3 := Lib.hid k3
         have r0 := (by first | exact ((B0.out.next hbla rfl).next hblb rfl).next hbl3 rfl | exact ((B0.out.next hblb rfl).next hbla rfl).next hbl3 rfl : Box w3 g sa (.slice A n c))
         have r1 := (by first | exact ((B1.out.next hbla rfl).next hblb rfl).next hbl3 rfl | exact ((B1.out.next hblb rfl).next hbla rfl).next hbl3 rfl : Box w3 (g + 1) sb (.slice B m d))
         have r2 := (by first | exact ((B2.out.next hbla rfl).next hblb rfl).next hbl3 rfl | exact ((B2.out.next hblb rfl).next hbla rfl).next hbl3 rfl : Box w3 (g + 1 + 1) false (.slice none 0 0))
         have hall := (by first | exact link_below (link_below (link_below hbW hbla hgW rfl rfl rfl rfl) hblb (Nat.le_trans hgW hbla.size) rfl rfl rfl rfl) hbl3 (Nat.le_trans (Nat.le_trans hgW hbla.size) hblb.size) rfl rfl rfl rfl
                                | exact link_below (link_below (link_below hbW hblb hgW rfl rfl rfl rfl) hbla (Nat.le_trans hgW hblb.size) rfl rfl rfl rfl) hbl3 (Nat.le_trans (Nat.le_trans hgW hblb.size) hbla.size) rfl rfl rfl rfl : Below g w w3)
         have s0 := r0.cell0; have s1 := r0.cell1; have s2 := r1.cell0; have s3 := r1.cell1; have s4 := r2.cell0; have s5 := r2.cell1; have s6 := r2.frozen 0; have s7 := r2.frozen 1
         have R2 := Lib.hid r2; clear r0 r1 r2 k3 hv3))
  go_wp2
  exact bodyPost_ret (v := .agg #[.bool (decide (a + b < 0)), .slice A3 n3 c3]) (by simp [results, Try.results26, go_sem, s4, s5]) rfl ⟨_, rfl, iv_store k1 k2 K3.out R2.out _, by rw [hg0]; exact (hall.setCell (by simp; omega) _).setCell (by simp; omega) _⟩
set_option maxHeartbeats 2000000 in
theorem sub_at (A B : Option Addr) (n c m d : Nat) (a b : Int) (w : World) (ha : Wd w A n (mag a.natAbs)) (hb : Wd w B m (mag b.natAbs)) (hn : n ≤ 1000000) (hm : m ≤ 1000000) (hnc : n ≤ c) (hmd : m ≤ d) :
    Calls Try.prog 28 #[.agg #[.bool (decide (a < 0)), .slice A n c], .agg #[.bool (decide (b < 0)), .slice B m d]] w (RetIv (a - b) w) := by
  have HA := Lib.hid ha
  have HB := Lib.hid hb
  clear ha hb
  have hsum := Lib.hid (show sgn (decide (a < 0)) a.natAbs + sgn (!decide (b < 0)) b.natAbs = a - b by rw [sgn_of, sgn_not, sgn_of]; omega)
  generalize decide (a < 0) = sa at *
  generalize decide (b < 0) = sb at *
  go_enter Try.func28, Try.ntmps28
  go_wp2
  obtain ⟨W, hW⟩ : ∃ W, W = ((w.alloc (Obj.cells #[Value.bool sa, Value.slice A n c] 27)).alloc (Obj.cells #[Value.bool sb, Value.slice B m d] 27)).alloc (Obj.cells #[Value.bool false, Value.slice none 0 0] 27) := ⟨_, rfl⟩
  rw [← hW]
  obtain ⟨b0, b1, b2, a1, a2, hbW⟩ := two_boxes HA.out HB.out hW
  have c0 := b0.cell0
  have c1 := b0.cell1
  have c2 := b1.cell0
  have c3 := b1.cell1
  have B0 := Lib.hid b0
  have B1 := Lib.hid b1
  have B2 := Lib.hid b2
  have A1 := Lib.hid a1
  have A2 := Lib.hid a2
  clear hW b0 b1 b2 a1 a2
  have hgW := hbW.size
  generalize hg0 : w.heap.size = g at *
  have z1 : ¬ g + 1 + 1 = g := by omega
  have z2 : ¬ g = g + 1 + 1 := by omega
  go_region_held3 (fun w' => w'.cell? ⟨g, 0, none⟩ = some (.bool sa) ∧ w'.cell? ⟨g, 1, none⟩ = some (.slice A n c) ∧ w'.cell? ⟨g + 1, 0, none⟩ = some (.bool sb) ∧ w'.cell? ⟨g + 1, 1, none⟩ = some (.slice B m d)) (go_keep)
    (first
      | (go_at_call_of 75 (Value.slice A n c); refine (words_int sa A n c a.natAbs _ (by first | exact A1.out | exact A1.out.next hblb rfl) (by omega) hnc).mono ?_; rintro e wa ⟨rfl, hbla⟩
         have ka0 := (by first | exact B0.out.next hbla rfl | exact (B0.out.next hblb rfl).next hbla rfl : Box wa g sa (.slice A n c))
         have ka1 := (by first | exact B1.out.next hbla rfl | exact (B1.out.next hblb rfl).next hbla rfl : Box wa (g + 1) sb (.slice B m d))
         have p0 := ka0.cell0; have p1 := ka0.cell1; have p2 := ka1.cell0; have p3 := ka1.cell1
         have KA0 := Lib.hid ka0; have KA1 := Lib.hid ka1; clear ka0 ka1)
      | (go_at_call_of 75 (Value.slice B m d); refine (words_int sb B m d b.natAbs _ (by first | exact A2.out | exact A2.out.next hbla rfl) (by omega) hmd).mono ?_; rintro e wb ⟨rfl, hblb⟩
         have kb0 := (by first | exact B0.out.next hblb rfl | exact (B0.out.next hbla rfl).next hblb rfl : Box wb g sa (.slice A n c))
         have kb1 := (by first | exact B1.out.next hblb rfl | exact (B1.out.next hbla rfl).next hblb rfl : Box wb (g + 1) sb (.slice B m d))
         have q0 := kb0.cell0; have q1 := kb0.cell1; have q2 := kb1.cell0; have q3 := kb1.cell1
         have KB0 := Lib.hid kb0; have KB1 := Lib.hid kb1; clear kb0 kb1)
      | (go_at_call 92; refine (sum_any sa (!sb) A B n c m d a.natAbs b.natAbs _ (by first | exact (A1.out.next hbla rfl).next hblb rfl | exact (A1.out.next hblb rfl).next hbla rfl) (by first | exact (A2.out.next hbla rfl).next hblb rfl | exact (A2.out.next hblb rfl).next hbla rfl) (by omega) (by omega)).mono ?_; rintro e w3 ⟨v3, rfl, hv3, hbl3⟩
         rw [hsum.out] at hv3
         obtain ⟨A3, n3, c3, rfl, k1, k2, k3⟩ := hv3.form
         have K3 := Lib.hid k3
         have r0 := (by first | exact ((B0.out.next hbla rfl).next hblb rfl).next hbl3 rfl | exact ((B0.out.next hblb rfl).next hbla rfl).next hbl3 rfl : Box w3 g sa (.slice A n c))
         have r1 := (by first | exact ((B1.out.next hbla rfl).next hblb rfl).next hbl3 rfl | exact ((B1.out.next hblb rfl).next hbla rfl).next hbl3 rfl : Box w3 (g + 1) sb (.slice B m d))
         have r2 := (by first | exact ((B2.out.next hbla rfl).next hblb rfl).next hbl3 rfl | exact ((B2.out.next hblb rfl).next hbla rfl).next hbl3 rfl : Box w3 (g + 1 + 1) false (.slice none 0 0))
         have hall := (by first | exact link_below (link_below (link_below hbW hbla hgW rfl rfl rfl rfl) hblb (Nat.le_trans hgW hbla.size) rfl rfl rfl rfl) hbl3 (Nat.le_trans (Nat.le_trans hgW hbla.size) hblb.size) rfl rfl rfl rfl
                                | exact link_below (link_below (link_below hbW hblb hgW rfl rfl rfl rfl) hbla (Nat.le_trans hgW hblb.size) rfl rfl rfl rfl) hbl3 (Nat.le_trans (Nat.le_trans hgW hblb.size) hbla.size) rfl rfl rfl rfl : Below g w w3)
         have s0 := r0.cell0; have s1 := r0.cell1; have s2 := r1.cell0; have s3 := r1.cell1; have s4 := r2.cell0; have s5 := r2.cell1; have s6 := r2.frozen 0; have s7 := r2.frozen 1
         have R2 := Lib.hid r2; clear r0 r1 r2 k3 hv3))
  go_wp2
  exact bodyPost_ret (v := .agg #[.bool (decide (a - b < 0)), .slice A3 n3 c3]) (by simp [results, Try.results28, go_sem, s4, s5]) rfl ⟨_, rfl, iv_store k1 k2 K3.out R2.out _, by rw [hg0]; exact (hall.setCell (by simp; omega) _).setCell (by simp; omega) _⟩
set_option maxHeartbeats 2000000 in
theorem mul_at (A B : Option Addr) (n c m d : Nat) (a b : Int) (w : World) (ha : Wd w A n (mag a.natAbs)) (hb : Wd w B m (mag b.natAbs)) (hn : n ≤ 1000000) (hm : m ≤ 1000000) (hnc : n ≤ c) (hmd : m ≤ d) :
    Calls Try.prog 30 #[.agg #[.bool (decide (a < 0)), .slice A n c], .agg #[.bool (decide (b < 0)), .slice B m d]] w (RetIv (a * b) w) := by
  have HA := Lib.hid ha
  have HB := Lib.hid hb
  clear ha hb
  have hsum := Lib.hid (show sgn (decide (a < 0) != decide (b < 0)) (a.natAbs * b.natAbs) = a * b by rw [sgn_mul, sgn_of, sgn_of])
  generalize decide (a < 0) = sa at *
  generalize decide (b < 0) = sb at *
  go_enter Try.func30, Try.ntmps30
  go_wp2
  obtain ⟨W, hW⟩ : ∃ W, W = ((w.alloc (Obj.cells #[Value.bool sa, Value.slice A n c] 27)).alloc (Obj.cells #[Value.bool sb, Value.slice B m d] 27)).alloc (Obj.cells #[Value.bool false, Value.slice none 0 0] 27) := ⟨_, rfl⟩
  rw [← hW]
  obtain ⟨b0, b1, b2, a1, a2, hbW⟩ := two_boxes HA.out HB.out hW
  have c0 := b0.cell0
  have c1 := b0.cell1
  have c2 := b1.cell0
  have c3 := b1.cell1
  have B0 := Lib.hid b0
  have B1 := Lib.hid b1
  have B2 := Lib.hid b2
  have A1 := Lib.hid a1
  have A2 := Lib.hid a2
  clear hW b0 b1 b2 a1 a2
  have hgW := hbW.size
  generalize hg0 : w.heap.size = g at *
  have z1 : ¬ g + 1 + 1 = g := by omega
  have z2 : ¬ g = g + 1 + 1 := by omega
  go_region_held3 (fun w' => w'.cell? ⟨g, 0, none⟩ = some (.bool sa) ∧ w'.cell? ⟨g, 1, none⟩ = some (.slice A n c) ∧ w'.cell? ⟨g + 1, 0, none⟩ = some (.bool sb) ∧ w'.cell? ⟨g + 1, 1, none⟩ = some (.slice B m d)) (go_keep)
    (first
      | (go_at_call_of 75 (Value.slice A n c); refine (words_int sa A n c a.natAbs _ (by first | exact A1.out | exact A1.out.next hblb rfl) (by omega) hnc).mono ?_; rintro e wa ⟨rfl, hbla⟩
         have ka0 := (by first | exact B0.out.next hbla rfl | exact (B0.out.next hblb rfl).next hbla rfl : Box wa g sa (.slice A n c))
         have ka1 := (by first | exact B1.out.next hbla rfl | exact (B1.out.next hblb rfl).next hbla rfl : Box wa (g + 1) sb (.slice B m d))
         have p0 := ka0.cell0; have p1 := ka0.cell1; have p2 := ka1.cell0; have p3 := ka1.cell1
         have KA0 := Lib.hid ka0; have KA1 := Lib.hid ka1; clear ka0 ka1)
      | (go_at_call_of 75 (Value.slice B m d); refine (words_int sb B m d b.natAbs _ (by first | exact A2.out | exact A2.out.next hbla rfl) (by omega) hmd).mono ?_; rintro e wb ⟨rfl, hblb⟩
         have kb0 := (by first | exact B0.out.next hblb rfl | exact (B0.out.next hbla rfl).next hblb rfl : Box wb g sa (.slice A n c))
         have kb1 := (by first | exact B1.out.next hblb rfl | exact (B1.out.next hbla rfl).next hblb rfl : Box wb (g + 1) sb (.slice B m d))
         have q0 := kb0.cell0; have q1 := kb0.cell1; have q2 := kb1.cell0; have q3 := kb1.cell1
         have KB0 := Lib.hid kb0; have KB1 := Lib.hid kb1; clear kb0 kb1)
      | (go_at_call 93; refine (times_any A B n m c d a.natAbs b.natAbs _ (by exact (A1.out.next hbla rfl).next hblb rfl) (by exact (A2.out.next hbla rfl).next hblb rfl) (by omega) (by omega)).mono ?_; rintro e wt ⟨vt, rfl, ⟨At, nt, ct, rfl, t1, t2, t3⟩, hblt⟩
         have T3 := Lib.hid t3
         have hnt : nt ≤ 2000000 := by
           rw [← t3.len]
           refine mag_length_le ?_
           have e1 := lt_pw_mag a.natAbs
           have e2 := lt_pw_mag b.natAbs
           rw [A1.out.len] at e1
           rw [A2.out.len] at e2
           have e3 := Nat.mul_lt_mul'' e1 e2
           rw [← pw_add] at e3
           exact Nat.lt_of_lt_of_le e3 (pw_le (by omega))
         have kt0 := (by exact ((B0.out.next hbla rfl).next hblb rfl).next hblt rfl : Box wt g sa (.slice A n c))
         have kt1 := (by exact ((B1.out.next hbla rfl).next hblb rfl).next hblt rfl : Box wt (g + 1) sb (.slice B m d))
         have kt2 := (by exact ((B2.out.next hbla rfl).next hblb rfl).next hblt rfl : Box wt (g + 1 + 1) false (.slice none 0 0))
         have hallt := (by exact link_below (link_below (link_below hbW hbla hgW rfl rfl rfl rfl) hblb (Nat.le_trans hgW hbla.size) rfl rfl rfl rfl) hblt (Nat.le_trans (Nat.le_trans hgW hbla.size) hblb.size) rfl rfl rfl rfl : Below g w wt)
         have u0 := kt0.cell0; have u1 := kt0.cell1; have u2 := kt1.cell0; have u3 := kt1.cell1
         have KT0 := Lib.hid kt0; have KT1 := Lib.hid kt1; have KT2 := Lib.hid kt2; clear kt0 kt1 kt2 t3)
      | (go_at_call 79; refine (signed_mg (sa != sb) At nt ct (a.natAbs * b.natAbs) _ T3.out (by omega) t1 t2).mono ?_; rintro e w3 ⟨v3, rfl, hv3, hbl3⟩
         rw [hsum.out] at hv3
         obtain ⟨A3, n3, c3, rfl, k1, k2, k3⟩ := hv3.form
         have K3 := Lib.hid k3
         have r0 := (by exact KT0.out.next hbl3 rfl : Box w3 g sa (.slice A n c))
         have r1 := (by exact KT1.out.next hbl3 rfl : Box w3 (g + 1) sb (.slice B m d))
         have r2 := (by exact KT2.out.next hbl3 rfl : Box w3 (g + 1 + 1) false (.slice none 0 0))
         have hall := (by exact link_below hallt hbl3 (Nat.le_trans (Nat.le_trans (Nat.le_trans hgW hbla.size) hblb.size) hblt.size) rfl rfl rfl rfl : Below g w w3)
         have s0 := r0.cell0; have s1 := r0.cell1; have s2 := r1.cell0; have s3 := r1.cell1; have s4 := r2.cell0; have s5 := r2.cell1; have s6 := r2.frozen 0; have s7 := r2.frozen 1
         have R2 := Lib.hid r2; clear r0 r1 r2 k3 hv3))
  go_wp2
  exact bodyPost_ret (v := .agg #[.bool (decide (a * b < 0)), .slice A3 n3 c3]) (by simp [results, Try.results30, go_sem, s4, s5]) rfl ⟨_, rfl, iv_store k1 k2 K3.out R2.out _, by rw [hg0]; exact (hall.setCell (by simp; omega) _).setCell (by simp; omega) _⟩
set_option maxHeartbeats 2000000 in
theorem neg_at (A : Option Addr) (n c : Nat) (a : Int) (w : World) (ha : Wd w A n (mag a.natAbs)) (hn : n ≤ 1000000) (hnc : n ≤ c) :
    Calls Try.prog 38 #[.agg #[.bool (decide (a < 0)), .slice A n c]] w (RetIv (-a) w) := by
  have HA := Lib.hid ha
  clear ha
  have hsum := Lib.hid (show sgn (!decide (a < 0)) a.natAbs = -a by rw [sgn_not, sgn_of])
  generalize decide (a < 0) = sa at *
  go_enter Try.func38, Try.ntmps38
  go_wp2
  obtain ⟨W, hW⟩ : ∃ W, W = (w.alloc (Obj.cells #[Value.bool sa, Value.slice A n c] 27)).alloc (Obj.cells #[Value.bool false, Value.slice none 0 0] 27) := ⟨_, rfl⟩
  rw [← hW]
  have b0 : Box W w.heap.size sa (.slice A n c) := by rw [hW]; exact (Box.new w _ _).alloc _
  have b2 : Box W (w.heap.size + 1) false (.slice none 0 0) := by rw [hW]; have := Box.new (w.alloc (Obj.cells #[Value.bool sa, Value.slice A n c] 27)) false (.slice none 0 0); simpa using this
  have a1 : Wd W A n (mag a.natAbs) := by rw [hW]; exact (HA.out.alloc _).alloc _
  have hbW : Below w.heap.size w W := by rw [hW]; exact ((Below.refl _ _).alloc (Nat.le_refl _) _).alloc (by simp) _
  have c0 := b0.cell0
  have c1 := b0.cell1
  have B0 := Lib.hid b0
  have B2 := Lib.hid b2
  have A1 := Lib.hid a1
  clear hW b0 b2 a1
  have hgW := hbW.size
  generalize hg0 : w.heap.size = g at *
  have z1 : ¬ g + 1 = g := by omega
  have z2 : ¬ g = g + 1 := by omega
  go_region_held3 (fun w' => w'.cell? ⟨g, 0, none⟩ = some (.bool sa) ∧ w'.cell? ⟨g, 1, none⟩ = some (.slice A n c)) (go_keep)
    (first
      | (go_at_call 75; refine (words_int sa A n c a.natAbs _ (by exact A1.out) (by omega) hnc).mono ?_; rintro e wa ⟨rfl, hbla⟩
         have ka0 := (by exact B0.out.next hbla rfl : Box wa g sa (.slice A n c))
         have p0 := ka0.cell0; have p1 := ka0.cell1
         clear ka0)
      | (go_at_call 83; refine (clone_any A n c (mag a.natAbs) _ (by exact A1.out.next hbla rfl) (by omega)).mono ?_; rintro e wc ⟨rfl, hbc, hblc⟩
         have HBC := Lib.hid hbc
         have kc0 := (by exact (B0.out.next hbla rfl).next hblc rfl : Box wc g sa (.slice A n c))
         have p2 := kc0.cell0; have p3 := kc0.cell1
         clear kc0 hbc)
      | (go_at_call 79; refine (signed_mg (!sa) _ n n a.natAbs _ (by have := HBC.out.whole; rw [A1.out.len] at this; exact this) (by omega) (Nat.le_refl _) (by omega)).mono ?_; rintro e w3 ⟨v3, rfl, hv3, hbl3⟩
         rw [hsum.out] at hv3
         obtain ⟨A3, n3, c3, rfl, k1, k2, k3⟩ := hv3.form
         have K3 := Lib.hid k3
         have r0 := (by exact ((B0.out.next hbla rfl).next hblc rfl).next hbl3 rfl : Box w3 g sa (.slice A n c))
         have r2 := (by exact ((B2.out.next hbla rfl).next hblc rfl).next hbl3 rfl : Box w3 (g + 1) false (.slice none 0 0))
         have hall := (by exact link_below (link_below (link_below hbW hbla hgW rfl rfl rfl rfl) hblc (Nat.le_trans hgW hbla.size) rfl rfl rfl rfl) hbl3 (Nat.le_trans (Nat.le_trans hgW hbla.size) hblc.size) rfl rfl rfl rfl : Below g w w3)
         have s0 := r0.cell0; have s1 := r0.cell1; have s4 := r2.cell0; have s5 := r2.cell1; have s6 := r2.frozen 0; have s7 := r2.frozen 1
         have R2 := Lib.hid r2; clear r0 r2 k3 hv3))
  go_wp2
  exact bodyPost_ret (v := .agg #[.bool (decide (-a < 0)), .slice A3 n3 c3]) (by simp [results, Try.results38, go_sem, s4, s5]) rfl ⟨_, rfl, iv_store k1 k2 K3.out R2.out _, by rw [hg0]; exact (hall.setCell (by simp) _).setCell (by simp) _⟩

theorem add_any (va vb : Value) (a b : Int) (w : World) (ha : Iv w va a) (hb : Iv w vb b) (sa : Sz a 1000000) (sb : Sz b 1000000) : Calls Try.prog 26 #[va, vb] w (RetIv (a + b) w) := by
  obtain ⟨A, n, c, rfl, h1, h2, h3⟩ := ha.form
  obtain ⟨B, m, d, rfl, k1, k2, k3⟩ := hb.form
  exact add_at A B n c m d a b w h3 k3 (by rw [← h3.len]; exact sa.len) (by rw [← k3.len]; exact sb.len) h1 k1
theorem sub_any (va vb : Value) (a b : Int) (w : World) (ha : Iv w va a) (hb : Iv w vb b) (sa : Sz a 1000000) (sb : Sz b 1000000) : Calls Try.prog 28 #[va, vb] w (RetIv (a - b) w) := by
  obtain ⟨A, n, c, rfl, h1, h2, h3⟩ := ha.form
  obtain ⟨B, m, d, rfl, k1, k2, k3⟩ := hb.form
  exact sub_at A B n c m d a b w h3 k3 (by rw [← h3.len]; exact sa.len) (by rw [← k3.len]; exact sb.len) h1 k1
theorem mul_any (va vb : Value) (a b : Int) (w : World) (ha : Iv w va a) (hb : Iv w vb b) (sa : Sz a 1000000) (sb : Sz b 1000000) : Calls Try.prog 30 #[va, vb] w (RetIv (a * b) w) := by
  obtain ⟨A, n, c, rfl, h1, h2, h3⟩ := ha.form
  obtain ⟨B, m, d, rfl, k1, k2, k3⟩ := hb.form
  exact mul_at A B n c m d a b w h3 k3 (by rw [← h3.len]; exact sa.len) (by rw [← k3.len]; exact sb.len) h1 k1
theorem neg_any (va : Value) (a : Int) (w : World) (ha : Iv w va a) (sa : Sz a 1000000) : Calls Try.prog 38 #[va] w (RetIv (-a) w) := by
  obtain ⟨A, n, c, rfl, h1, h2, h3⟩ := ha.form
  exact neg_at A n c a w h3 (by rw [← h3.len]; exact sa.len) h1
end Go.Proofs.Ytpklphdhigkmmaa
