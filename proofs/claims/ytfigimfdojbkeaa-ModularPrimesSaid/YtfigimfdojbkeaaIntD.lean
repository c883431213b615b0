/-
  Contract of DivMod.
-/
import Derived.Test.YtfigimfdojbkeaaIntC
set_option linter.unusedSimpArgs false
set_option linter.unusedVariables false
namespace Go.Proofs.Ytfigimfdojbkeaa
open Go.RowKit
attribute [local go_sem ↓] Go.wp_at_zero Go.wp_at_succ

theorem div_uniq {a b q r : Int} (hb : b ≠ 0) (h : a = q * b + r) (h0 : 0 ≤ r) (h1 : r < b.natAbs) : a / b = q ∧ a % b = r := by
  rcases Int.lt_or_gt_of_ne hb with hneg | hpos
  · have h2 := (Int.ediv_emod_unique (a := a) (b := -b) (r := r) (q := -q) (by omega)).2 ⟨by rw [h, Int.neg_mul_neg, Int.mul_comm b q]; omega, h0, by omega⟩
    rw [Int.ediv_neg, Int.emod_neg] at h2
    exact ⟨by omega, h2.2⟩
  · exact (Int.ediv_emod_unique hpos).2 ⟨by rw [h, Int.mul_comm b q]; omega, h0, by omega⟩

theorem div_sgn {a b : Int} (hb : b ≠ 0) (h : ¬ (a < 0 ∧ 0 < a.natAbs % b.natAbs)) :
    sgn (decide (a < 0) != decide (b < 0)) (a.natAbs / b.natAbs) = a / b ∧ sgn false (a.natAbs % b.natAbs) = a % b := by
  have hd := Nat.div_add_mod a.natAbs b.natAbs
  have hm := Nat.mod_lt a.natAbs (show 0 < b.natAbs by omega)
  have e := congrArg (fun n : Nat => (n : Int)) hd
  simp only [Int.natCast_add, Int.natCast_mul] at e
  have := div_uniq (a := a) (b := b) (q := sgn (decide (a < 0) != decide (b < 0)) (a.natAbs / b.natAbs)) (r := ((a.natAbs % b.natAbs : Nat) : Int)) hb (by
    generalize a.natAbs / b.natAbs = q at *
    generalize a.natAbs % b.natAbs = r at *
    by_cases h1 : a < 0 <;> by_cases h2 : b < 0 <;> simp [h1, h2, sgn]
    · rw [show ((b.natAbs : Nat) : Int) = -b by omega, Int.neg_mul, Int.mul_comm] at e; omega
    · rw [show ((b.natAbs : Nat) : Int) = b by omega, Int.mul_comm] at e; rw [Int.neg_mul]; omega
    · rw [show ((b.natAbs : Nat) : Int) = -b by omega, Int.neg_mul, Int.mul_comm] at e; rw [Int.neg_mul]; omega
    · rw [show ((b.natAbs : Nat) : Int) = b by omega, Int.mul_comm] at e; omega) (Int.natCast_nonneg _) (by omega)
  exact ⟨this.1.symm, this.2.symm⟩

theorem div_sgn1 {a b : Int} (hb : b ≠ 0) (h1 : a < 0) (h3 : 0 < a.natAbs % b.natAbs) :
    sgn (decide (a < 0) != decide (b < 0)) (a.natAbs / b.natAbs + 1) = a / b ∧ sgn false (b.natAbs - a.natAbs % b.natAbs) = a % b := by
  have hd := Nat.div_add_mod a.natAbs b.natAbs
  have hm := Nat.mod_lt a.natAbs (show 0 < b.natAbs by omega)
  have e := congrArg (fun n : Nat => (n : Int)) hd
  simp only [Int.natCast_add, Int.natCast_mul] at e
  have := div_uniq (a := a) (b := b) (q := sgn (decide (a < 0) != decide (b < 0)) (a.natAbs / b.natAbs + 1)) (r := ((b.natAbs - a.natAbs % b.natAbs : Nat) : Int)) hb (by
    generalize a.natAbs / b.natAbs = q at *
    generalize a.natAbs % b.natAbs = r at *
    by_cases h2 : b < 0 <;> simp [h1, h2, sgn]
    · rw [show ((b.natAbs : Nat) : Int) = -b by omega, Int.neg_mul, Int.mul_comm] at e; rw [Int.add_mul]; omega
    · rw [show ((b.natAbs : Nat) : Int) = b by omega, Int.mul_comm] at e; rw [Int.neg_mul, Int.add_mul]; omega) (Int.natCast_nonneg _) (by omega)
  exact ⟨this.1.symm, this.2.symm⟩

theorem Box.far {w : World} {g : Nat} {b : Bool} {s : Value} (h : Box w g b s) {p : Addr} (hp : g ≠ p.block) (u : Value) : Box (w.setCell p u) g b s := (Below.heap_setCell w p u g hp).trans h
theorem iv_keep {w : World} {v : Value} {z : Int} {g : Nat} {b : Bool} {X : Option Addr} {p q : Nat} {u : Value} (h : Iv w v z) (hb : Box w g b (.slice X p q)) (cb : Bool) : Iv ((w.setCell ⟨g, 0, none⟩ (.bool cb)).setCell ⟨g, 1, none⟩ u) v z := by
  obtain ⟨A, n, c, rfl, h1, h2, h3⟩ := h.form
  exact iv_store h1 h2 h3 hb cb

/-- A division by a number other than 0. -/
def RetDM (q r : Int) (w : World) (e : Ending) (w' : World) : Prop := ∃ v u, e = .returned (.tuple #[v, u, .int .i64 0]) ∧ Iv w' v q ∧ Iv w' u r ∧ Below w.heap.size w w'
def zeroI : Value := .agg #[.bool false, .slice none 0 0]
theorem Iv.zero (w : World) : Iv w zeroI 0 := ⟨_, rfl, Mg.zero w 0 none (by omega)⟩

theorem three_boxes {w W : World} {sa sb sc sd : Bool} {A B : Option Addr} {n c m d : Nat} {xs ys : List Nat} (ha : Wd w A n xs) (hb : Wd w B m ys)
    (hW : W = (((w.alloc (Obj.cells #[Value.bool sa, Value.slice A n c] 27)).alloc (Obj.cells #[Value.bool sb, Value.slice B m d] 27)).alloc (Obj.cells #[Value.bool sc, Value.slice none 0 0] 27)).alloc (Obj.cells #[Value.bool sd, Value.slice none 0 0] 27)) :
    Box W w.heap.size sa (.slice A n c) ∧ Box W (w.heap.size + 1) sb (.slice B m d) ∧ Box W (w.heap.size + 1 + 1) sc (.slice none 0 0) ∧ Box W (w.heap.size + 1 + 1 + 1) sd (.slice none 0 0) ∧ Wd W A n xs ∧ Wd W B m ys ∧ Below w.heap.size w W := by
  obtain ⟨b0, b1, b2, a1, a2, hbW⟩ := two_boxes (sa := sa) (sb := sb) (sc := sc) (c := c) (d := d) ha hb rfl
  subst hW
  refine ⟨b0.alloc _, b1.alloc _, b2.alloc _, ?_, a1.alloc _, a2.alloc _, hbW.alloc hbW.size _⟩
  have := Box.new (((w.alloc (Obj.cells #[Value.bool sa, Value.slice A n c] 27)).alloc (Obj.cells #[Value.bool sb, Value.slice B m d] 27)).alloc (Obj.cells #[Value.bool sc, Value.slice none 0 0] 27)) sd (.slice none 0 0)
  simpa using this

set_option maxHeartbeats 4000000 in
theorem divMod_zero (va vb : Value) (a : Int) (w : World) (ha : Iv w va a) (hb : Iv w vb 0) (sa : Sz a 1000000) : Calls Try.prog 19 #[va, vb] w (RetV (.tuple #[zeroI, zeroI, .int .i64 10]) w) := by
  obtain ⟨A, n, c, rfl, h1, h2, h3⟩ := ha.form
  obtain ⟨B, m, d, rfl, k1, k2, k3⟩ := hb.form
  have HA := Lib.hid h3
  have HB := Lib.hid k3
  have hn : n ≤ 1000000 := by rw [← h3.len]; exact sa.len
  have hm0 : m = 0 := k3.pos_iff.2 rfl
  subst hm0
  generalize decide (a < 0) = na at *
  generalize decide ((0 : Int) < 0) = nb at *
  clear h3 k3 sa ha hb
  go_enter Try.func19, Try.ntmps19
  go_wp2
  obtain ⟨W, hW⟩ : ∃ W, W = (((w.alloc (Obj.cells #[Value.bool na, Value.slice A n c] 27)).alloc (Obj.cells #[Value.bool nb, Value.slice B 0 d] 27)).alloc (Obj.cells #[Value.bool false, Value.slice none 0 0] 27)).alloc (Obj.cells #[Value.bool false, Value.slice none 0 0] 27) := ⟨_, rfl⟩
  rw [← hW]
  obtain ⟨b0, b1, b2, b3, a1, a2, hbW⟩ := three_boxes HA.out HB.out hW
  have c0 := b0.cell0
  have c1 := b0.cell1
  have c2 := b1.cell0
  have c3 := b1.cell1
  have B0 := Lib.hid b0
  have B1 := Lib.hid b1
  have B2 := Lib.hid b2
  have B3 := Lib.hid b3
  have A1 := Lib.hid a1
  have A2 := Lib.hid a2
  clear hW b0 b1 b2 b3 a1 a2
  have hgW := hbW.size
  generalize hg0 : w.heap.size = g at *
  go_region_held3 (fun w' => w'.cell? ⟨g, 0, none⟩ = some (.bool na) ∧ w'.cell? ⟨g, 1, none⟩ = some (.slice A n c) ∧ w'.cell? ⟨g + 1, 0, none⟩ = some (.bool nb) ∧ w'.cell? ⟨g + 1, 1, none⟩ = some (.slice B 0 d)) (go_keep)
    (first
      | (go_at_call_of 94 (Value.slice A n c); refine (words_int na A n c a.natAbs _ (by exact A1.out) (by omega) h1).mono ?_; rintro e wa ⟨rfl, hbla⟩
         have ka0 := (by exact B0.out.next hbla rfl : Box wa g na (.slice A n c))
         have ka1 := (by exact B1.out.next hbla rfl : Box wa (g + 1) nb (.slice B 0 d))
         have p0 := ka0.cell0; have p1 := ka0.cell1; have p2 := ka1.cell0; have p3 := ka1.cell1
         clear ka0 ka1)
      | (go_at_call_of 94 (Value.slice B 0 d); refine (words_int nb B 0 d (0 : Int).natAbs _ (by exact A2.out.next hbla rfl) (by omega) k1).mono ?_; rintro e wb ⟨rfl, hblb⟩
         have ka0 := (by exact (B0.out.next hbla rfl).next hblb rfl : Box wb g na (.slice A n c))
         have ka1 := (by exact (B1.out.next hbla rfl).next hblb rfl : Box wb (g + 1) nb (.slice B 0 d))
         have r2 := (by exact (B2.out.next hbla rfl).next hblb rfl : Box wb (g + 1 + 1) false (.slice none 0 0))
         have r3 := (by exact (B3.out.next hbla rfl).next hblb rfl : Box wb (g + 1 + 1 + 1) false (.slice none 0 0))
         have q0 := ka0.cell0; have q1 := ka0.cell1; have q2 := ka1.cell0; have q3 := ka1.cell1
         have s0 := r2.cell0; have s1 := r2.cell1; have s2 := r3.cell0; have s3 := r3.cell1; have s4 := r2.frozen 0; have s5 := r2.frozen 1; have s6 := r3.frozen 0; have s7 := r3.frozen 1
         have hall := (by exact link_below (link_below hbW hbla hgW rfl rfl rfl rfl) hblb (Nat.le_trans hgW hbla.size) rfl rfl rfl rfl : Below g w wb)
         clear ka0 ka1 r2 r3))
  go_wp2
  exact bodyPost_ret (v := .tuple #[zeroI, zeroI, .int .i64 10]) (by simp [results, Try.results19, go_sem, zeroI, s0, s1, s2, s3]) rfl ⟨rfl, by rw [hg0]; exact (((hall.setCell (by simp; omega) _).setCell (by simp; omega) _).setCell (by simp; omega) _).setCell (by simp; omega) _⟩

set_option maxHeartbeats 4000000 in
theorem divMod_any (va vb : Value) (a b : Int) (w : World) (ha : Iv w va a) (hb : Iv w vb b) (sa : Sz a 1000000) (sb : Sz b 1000000) (hb0 : b ≠ 0) : Calls Try.prog 19 #[va, vb] w (RetDM (a / b) (a % b) w) := by
  obtain ⟨A, n, c, rfl, h1, h2, h3⟩ := ha.form
  obtain ⟨B, m, d, rfl, k1, k2, k3⟩ := hb.form
  have HA := Lib.hid h3
  have HB := Lib.hid k3
  have hn : n ≤ 1000000 := by rw [← h3.len]; exact sa.len
  have hm : m ≤ 1000000 := by rw [← k3.len]; exact sb.len
  have hm0 : m ≠ 0 := fun e => hb0 (k3.pos_iff.1 e)
  have hy0 : b.natAbs ≠ 0 := by omega
  have hdiv := Lib.hid (div_sgn (a := a) hb0)
  have hdiv1 := Lib.hid (div_sgn1 (a := a) hb0)
  have hna : Hid (decide (a < 0) = true ↔ a < 0) := by unfold Hid; simp
  generalize decide (a < 0) = na at *
  generalize decide (b < 0) = nb at *
  have ht : ((m : Int) == 0) = false := by simp; omega
  clear h3 k3 sa sb ha hb
  go_enter Try.func19, Try.ntmps19
  go_wp2
  obtain ⟨W, hW⟩ : ∃ W, W = (((w.alloc (Obj.cells #[Value.bool na, Value.slice A n c] 27)).alloc (Obj.cells #[Value.bool nb, Value.slice B m d] 27)).alloc (Obj.cells #[Value.bool false, Value.slice none 0 0] 27)).alloc (Obj.cells #[Value.bool false, Value.slice none 0 0] 27) := ⟨_, rfl⟩
  rw [← hW]
  obtain ⟨b0, b1, b2, b3, a1, a2, hbW⟩ := three_boxes HA.out HB.out hW
  have c0 := b0.cell0
  have c1 := b0.cell1
  have c2 := b1.cell0
  have c3 := b1.cell1
  have B0 := Lib.hid b0
  have B1 := Lib.hid b1
  have B2 := Lib.hid b2
  have B3 := Lib.hid b3
  have A1 := Lib.hid a1
  have A2 := Lib.hid a2
  clear hW b0 b1 b2 b3 a1 a2
  have hgW := hbW.size
  generalize hg0 : w.heap.size = g at *
  go_region_held3 (fun w' => w'.cell? ⟨g, 0, none⟩ = some (.bool na) ∧ w'.cell? ⟨g, 1, none⟩ = some (.slice A n c) ∧ w'.cell? ⟨g + 1, 0, none⟩ = some (.bool nb) ∧ w'.cell? ⟨g + 1, 1, none⟩ = some (.slice B m d)) (go_keep)
    (first
      | (go_at_call_of 94 (Value.slice A n c); refine (words_int na A n c a.natAbs _ (by exact A1.out) (by omega) h1).mono ?_; rintro e wa ⟨rfl, hbla⟩
         have ka0 := (by exact B0.out.next hbla rfl : Box wa g na (.slice A n c))
         have ka1 := (by exact B1.out.next hbla rfl : Box wa (g + 1) nb (.slice B m d))
         have p0 := ka0.cell0; have p1 := ka0.cell1; have p2 := ka1.cell0; have p3 := ka1.cell1
         clear ka0 ka1)
      | (go_at_call_of 94 (Value.slice B m d); refine (words_int nb B m d b.natAbs _ (by exact A2.out.next hbla rfl) (by omega) k1).mono ?_; rintro e wb ⟨rfl, hblb⟩
         have ka0 := (by exact (B0.out.next hbla rfl).next hblb rfl : Box wb g na (.slice A n c))
         have ka1 := (by exact (B1.out.next hbla rfl).next hblb rfl : Box wb (g + 1) nb (.slice B m d))
         have r2 := (by exact (B2.out.next hbla rfl).next hblb rfl : Box wb (g + 1 + 1) false (.slice none 0 0))
         have r3 := (by exact (B3.out.next hbla rfl).next hblb rfl : Box wb (g + 1 + 1 + 1) false (.slice none 0 0))
         have a1b := (by exact (A1.out.next hbla rfl).next hblb rfl : Wd wb A n (mag a.natAbs))
         have a2b := (by exact (A2.out.next hbla rfl).next hblb rfl : Wd wb B m (mag b.natAbs))
         have q0 := ka0.cell0; have q1 := ka0.cell1; have q2 := ka1.cell0; have q3 := ka1.cell1
         have KA0 := Lib.hid ka0; have KA1 := Lib.hid ka1; have R2 := Lib.hid r2; have R3 := Lib.hid r3; have A1B := Lib.hid a1b; have A2B := Lib.hid a2b
         have hall := (by exact link_below (link_below hbW hbla hgW rfl rfl rfl rfl) hblb (Nat.le_trans hgW hbla.size) rfl rfl rfl rfl : Below g w wb)
         clear ka0 ka1 r2 r3 a1b a2b))
  go_wp2_with fail
  refine (divide_any A B n c m d a.natAbs b.natAbs wb A1B.out A2B.out (by omega) (by omega) hy0).mono ?_
  rintro e wd ⟨v4, u4, rfl, ⟨Q1, qn, qc, rfl, q4, q5, q6⟩, ⟨R1, rn, rc, rfl, r4, r5, r6⟩, hbld⟩
  have Q6 := Lib.hid q6
  have R6 := Lib.hid r6
  have hqn : qn ≤ 1000000 := by rw [← A1B.out.len] at hn; rw [← q6.len]; exact Nat.le_trans (mag_len_mono (Nat.div_le_self _ _)) hn
  have hrn : rn ≤ 1000000 := by rw [← A1B.out.len] at hn; rw [← r6.len]; exact Nat.le_trans (mag_len_mono (Nat.mod_le _ _)) hn
  have hrpos : Hid (0 < rn ↔ 0 < a.natAbs % b.natAbs) := by
    have := len_pos R6.out
    unfold Hid
    rw [decide_eq_decide] at this
    exact this
  have kd0 := KA0.out.next hbld rfl
  have kd1 := KA1.out.next hbld rfl
  have rd2 := R2.out.next hbld rfl
  have rd3 := R3.out.next hbld rfl
  have KD0 := Lib.hid kd0
  have KD1 := Lib.hid kd1
  have RD2 := Lib.hid rd2
  have RD3 := Lib.hid rd3
  have A2D := Lib.hid (A2B.out.next hbld rfl)
  have s0 := kd0.cell0
  have s1 := kd0.cell1
  have s2 := kd1.cell0
  have s3 := kd1.cell1
  have hgb := hall.size
  rw [hg0] at hgb
  have halld := link_below hall hbld hgb rfl rfl rfl rfl
  have hgd := halld.size
  rw [hg0] at hgd
  clear kd0 kd1 rd2 rd3 q6 r6
  by_cases hcase : na = true ∧ 0 < rn
  · obtain ⟨hcna, hcr⟩ := hcase
    subst hcna
    obtain ⟨e1, e2⟩ := hdiv1.out (hna.out.1 rfl) (hrpos.out.1 hcr)
    have E1 := Lib.hid e1
    have E2 := Lib.hid e2
    have hrle : a.natAbs % b.natAbs ≤ b.natAbs := Nat.le_of_lt (Nat.mod_lt _ (by omega))
    clear e1 e2 hdiv hdiv1
    go_wp2_with fail
    have hone : Wd (wd.alloc (.cells #[.int .u32 1] 43)) (some ⟨wd.heap.size, 0, none⟩) 1 (mag 1) := by rw [mag_one1]; exact (Blk.one (a := 1) (by omega) rfl).whole
    refine (plus_any Q1 _ qn 1 qc 1 _ 1 _ (Q6.out.alloc _) hone (by omega) (by omega)).mono ?_
    rintro e wp ⟨vp, rfl, ⟨P1, pn, pc, rfl, p4, p5, p6⟩, hblp⟩
    have P6 := Lib.hid p6
    have hpn : pn ≤ 1000001 := by rw [← p6.len]; exact sum_len Q6.out.len (show (mag 1).length = 1 by rw [mag_one1]; rfl) hqn (by omega)
    clear p6 hone
    go_wp2_with fail
    refine (minus_any B R1 m rn d rc _ _ _ ((A2D.out.alloc _).next hblp rfl) ((R6.out.alloc _).next hblp rfl) (by omega) (by omega) hrle).mono ?_
    rintro e wm ⟨vm, rfl, ⟨M1, mn, mc, rfl, m4, m5, m6⟩, hblm⟩
    have M6 := Lib.hid m6
    have hmn : mn ≤ 1000000 := by rw [← A2D.out.len] at hm; rw [← m6.len]; exact Nat.le_trans (mag_len_mono (Nat.sub_le _ _)) hm
    have km0 := ((KD0.out.alloc (.cells #[.int .u32 1] 43)).next hblp rfl).next hblm rfl
    have km1 := ((KD1.out.alloc (.cells #[.int .u32 1] 43)).next hblp rfl).next hblm rfl
    have KM0 := Lib.hid km0
    have KM1 := Lib.hid km1
    have RM2 := Lib.hid (((RD2.out.alloc (.cells #[.int .u32 1] 43)).next hblp rfl).next hblm rfl)
    have RM3 := Lib.hid (((RD3.out.alloc (.cells #[.int .u32 1] 43)).next hblp rfl).next hblm rfl)
    have x0 := km0.cell0
    have x1 := km0.cell1
    have x2 := km1.cell0
    have x3 := km1.cell1
    have halla : Below g w (wd.alloc (.cells #[.int .u32 1] 43)) := halld.alloc hgd _
    have hga := halla.size
    rw [hg0] at hga
    have hallm := link_below (link_below halla hblp hga rfl rfl rfl rfl) hblm (Nat.le_trans hga hblp.size) rfl rfl rfl rfl
    have hgm := hallm.size
    rw [hg0] at hgm
    clear km0 km1 m6
    go_wp2_with fail
    refine (signed_mg _ P1 pn pc _ _ (P6.out.next hblm rfl) (by omega) p4 p5).mono ?_
    rintro e w5 ⟨v5, rfl, hv5, hbl5⟩
    have hv5' : Iv w5 v5 (a / b) := by
      have e1 := E1.out
      simp only [Bool.true_bne] at e1
      rw [← e1]; exact hv5
    have HV5 := Lib.hid hv5'
    have t0 := (KM0.out.next hbl5 rfl).cell0
    have t1 := (KM0.out.next hbl5 rfl).cell1
    have t2 := (KM1.out.next hbl5 rfl).cell0
    have t3 := (KM1.out.next hbl5 rfl).cell1
    clear hv5 hv5'
    go_wp2_with fail
    refine (signed_mg false M1 mn mc _ _ (M6.out.next hbl5 rfl) (by omega) m4 m5).mono ?_
    rintro e w6 ⟨v6, rfl, hv6, hbl6⟩
    rw [E2.out] at hv6
    have HV6 := Lib.hid hv6
    have h5 := iv_next HV5.out hbl6 rfl
    obtain ⟨A5, n5, c5, rfl, x1, x2, x3⟩ := h5.form
    obtain ⟨A6, n6, c6, rfl, y1, y2, y3⟩ := hv6.form
    have H5 := Lib.hid h5
    have r2 := (RM2.out.next hbl5 rfl).next hbl6 rfl
    have r3 := (RM3.out.next hbl5 rfl).next hbl6 rfl
    have u0 := r2.cell0
    have u1 := r2.cell1
    have u2 := r2.frozen 0
    have u3 := r2.frozen 1
    have u4 := r3.cell0
    have u5 := r3.cell1
    have u6 := r3.frozen 0
    have u7 := r3.frozen 1
    have R2F := Lib.hid r2
    have R3F := Lib.hid r3
    have hfin := link_below (link_below hallm hbl5 hgm rfl rfl rfl rfl) hbl6 (Nat.le_trans hgm hbl5.size) rfl rfl rfl rfl
    clear hv6 h5 r2 r3 x3 y3
    go_wp2
    have z1 := iv_keep (cb := decide (a / b < 0)) (u := .slice A5 n5 c5) H5.out R2F.out
    have z2 := iv_keep (cb := decide (a / b < 0)) (u := .slice A5 n5 c5) HV6.out R2F.out
    have hb3 := (R3F.out.far (p := ⟨g + 1 + 1, 0, none⟩) (by simp) (.bool (decide (a / b < 0)))).far (p := ⟨g + 1 + 1, 1, none⟩) (by simp) (.slice A5 n5 c5)
    have z3 := iv_keep (cb := decide (a % b < 0)) (u := .slice A6 n6 c6) z1 hb3
    have z4 := iv_keep (cb := decide (a % b < 0)) (u := .slice A6 n6 c6) z2 hb3
    exact bodyPost_ret (v := .tuple #[.agg #[.bool (decide (a / b < 0)), .slice A5 n5 c5], .agg #[.bool (decide (a % b < 0)), .slice A6 n6 c6], .int .i64 0]) (by simp [results, Try.results19, go_sem, u0, u1, u4, u5]) rfl ⟨_, _, rfl, z3, z4, by rw [hg0]; exact (((hfin.setCell (by simp; omega) _).setCell (by simp; omega) _).setCell (by simp; omega) _).setCell (by simp; omega) _⟩
  · have hcond : Hid (¬ (a < 0 ∧ 0 < a.natAbs % b.natAbs)) := by
      unfold Hid
      rintro ⟨e1, e2⟩
      exact hcase ⟨hna.out.2 e1, hrpos.out.2 e2⟩
    obtain ⟨e1, e2⟩ := hdiv.out hcond.out
    have E1 := Lib.hid e1
    have E2 := Lib.hid e2
    have hguard : na = false ∨ na = true ∧ rn ≤ 0 := by cases na <;> simp at hcase ⊢ <;> omega
    clear e1 e2 hcase hdiv hdiv1
    rcases hguard with rfl | ⟨rfl, hr0⟩
    all_goals
      go_wp2_with fail
      refine (signed_mg _ Q1 qn qc _ _ Q6.out (by omega) q4 q5).mono ?_
      rintro e w5 ⟨v5, rfl, hv5, hbl5⟩
      have hv5' : Iv w5 v5 (a / b) := by
        have e1 := E1.out
        simp only [Bool.false_bne, Bool.true_bne] at e1
        rw [← e1]; exact hv5
      have HV5 := Lib.hid hv5'
      have t0 := (KD0.out.next hbl5 rfl).cell0
      have t1 := (KD0.out.next hbl5 rfl).cell1
      have t2 := (KD1.out.next hbl5 rfl).cell0
      have t3 := (KD1.out.next hbl5 rfl).cell1
      clear hv5 hv5'
      go_wp2_with fail
      refine (signed_mg false R1 rn rc _ _ (R6.out.next hbl5 rfl) (by omega) r4 r5).mono ?_
      rintro e w6 ⟨v6, rfl, hv6, hbl6⟩
      rw [E2.out] at hv6
      have HV6 := Lib.hid hv6
      have h5 := iv_next HV5.out hbl6 rfl
      obtain ⟨A5, n5, c5, rfl, x1, x2, x3⟩ := h5.form
      obtain ⟨A6, n6, c6, rfl, y1, y2, y3⟩ := hv6.form
      have H5 := Lib.hid h5
      have r2 := (RD2.out.next hbl5 rfl).next hbl6 rfl
      have r3 := (RD3.out.next hbl5 rfl).next hbl6 rfl
      have u0 := r2.cell0
      have u1 := r2.cell1
      have u2 := r2.frozen 0
      have u3 := r2.frozen 1
      have u4 := r3.cell0
      have u5 := r3.cell1
      have u6 := r3.frozen 0
      have u7 := r3.frozen 1
      have R2F := Lib.hid r2
      have R3F := Lib.hid r3
      have hfin := link_below (link_below halld hbl5 hgd rfl rfl rfl rfl) hbl6 (Nat.le_trans hgd hbl5.size) rfl rfl rfl rfl
      clear hv6 h5 r2 r3 x3 y3
      go_wp2
      have z1 := iv_keep (cb := decide (a / b < 0)) (u := .slice A5 n5 c5) H5.out R2F.out
      have z2 := iv_keep (cb := decide (a / b < 0)) (u := .slice A5 n5 c5) HV6.out R2F.out
      have hb3 := (R3F.out.far (p := ⟨g + 1 + 1, 0, none⟩) (by simp) (.bool (decide (a / b < 0)))).far (p := ⟨g + 1 + 1, 1, none⟩) (by simp) (.slice A5 n5 c5)
      have z3 := iv_keep (cb := decide (a % b < 0)) (u := .slice A6 n6 c6) z1 hb3
      have z4 := iv_keep (cb := decide (a % b < 0)) (u := .slice A6 n6 c6) z2 hb3
      exact bodyPost_ret (v := .tuple #[.agg #[.bool (decide (a / b < 0)), .slice A5 n5 c5], .agg #[.bool (decide (a % b < 0)), .slice A6 n6 c6], .int .i64 0]) (by simp [results, Try.results19, go_sem, u0, u1, u4, u5]) rfl ⟨_, _, rfl, z3, z4, by rw [hg0]; exact (((hfin.setCell (by simp; omega) _).setCell (by simp; omega) _).setCell (by simp; omega) _).setCell (by simp; omega) _⟩
end Go.Proofs.Ytfigimfdojbkeaa

