/-
  Contract of power.
  Contract of shortRoot.
  Contract of newtonRoot.
  Contract of root.
  Contracts of words, signed, Sign, Bits and sum.
-/
import Derived.Test.YtfigimfdojbkeaaGreatDivide
import Derived.Deep.LoopGhost
set_option linter.unusedSimpArgs false
set_option linter.unusedVariables false
namespace Go.Proofs.YtfigimfdojbkeaaGreat
open Go.RowKit

theorem mag_one1 : mag 1 = [1] := mag_one (by omega) (by omega)

end Go.Proofs.YtfigimfdojbkeaaGreat

namespace Go.Proofs.YtfigimfdojbkeaaGreat
open Go.RowKit

/-- What is found after some bits: s bits are still to come. -/
structure BitRel (r s f : Nat) : Prop where
  dvd : f % 2 ^ s = 0
  le : f ≤ r
  lt : r < f + 2 ^ s

theorem BitRel.no {r s f : Nat} (h : BitRel r (s + 1) f) (hgt : r < f + 2 ^ s) : BitRel r s f := by
  have h2 := h.dvd
  rw [Nat.pow_succ] at h2
  refine ⟨?_, h.le, hgt⟩
  have := Nat.mod_mul_right_mod f (2 ^ s) 2
  rw [h2] at this
  rw [← this, Nat.zero_mod]
theorem BitRel.or {r s f : Nat} (h : BitRel r (s + 1) f) (hs : s < 60) (hf : f < 2 ^ 60) : bits .or .u64 (f : Int) ((2 ^ s : Nat) : Int) = ((f + 2 ^ s : Nat) : Int) := by
  have h2 : 2 ^ s < 2 ^ 60 := Nat.pow_lt_pow_right (by omega) hs
  rw [u64_or_nat _ _ (by omega) (by omega)]
  have h3 := h.dvd
  have e : f = 2 ^ (s + 1) * (f / 2 ^ (s + 1)) := by
    have := Nat.div_add_mod f (2 ^ (s + 1))
    omega
  have h4 : 2 ^ s < 2 ^ (s + 1) := Nat.pow_lt_pow_right (by omega) (by omega)
  have h5 := Nat.two_pow_add_eq_or_of_lt h4 (f / 2 ^ (s + 1))
  rw [← e] at h5
  rw [← h5]

end Go.Proofs.YtfigimfdojbkeaaGreat

namespace Go.Proofs.YtfigimfdojbkeaaGreat
open Go.RowKit

theorem mag_len_mono {x y : Nat} (h : x ≤ y) : (mag x).length ≤ (mag y).length := mag_length_le (Nat.lt_of_le_of_lt h (lt_pw_mag y))

end Go.Proofs.YtfigimfdojbkeaaGreat

namespace Go.Proofs.YtfigimfdojbkeaaGreat
open Go.RowKit

end Go.Proofs.YtfigimfdojbkeaaGreat

section
namespace Go.Proofs.YtfigimfdojbkeaaGreat
open Go.RowKit
attribute [local go_sem ↓] Go.wp_at_zero Go.wp_at_succ

theorem take_eq_len {l : List Nat} {m : Nat} (hm : m ≤ l.length) (h : l.take m = l) : m = l.length := by
  have := congrArg List.length h
  rw [List.length_take, Nat.min_eq_left hm] at this
  exact this

set_option maxHeartbeats 400000 in
theorem words_any (b : Bool) (A : Option Addr) (n c : Nat) (ws : List Nat) (w : World) (h : Wd w A n ws) (hn : n ≤ 1099511627776) (hc : n ≤ c) :
    Calls Tryz.prog 106 #[.agg #[.bool b, .slice A n c]] w fun e w' => ∃ m, m ≤ n ∧ e = .returned (.slice A m c) ∧ ws.take m = mag (val ws) ∧ Below w.heap.size w w' := by
  have H := Lib.hid h
  clear h
  go_enter Tryz.func106, Tryz.ntmps106
  go_wp2_with fail
  refine (trim_any A n c ws _ (H.out.alloc _) hn hc).mono ?_
  rintro e w' ⟨m, hm, rfl, ht, rfl⟩
  have HT := Lib.hid ht
  clear ht
  rw [H.out.len] at hm
  go_wp2
  go_ret
  exact ⟨m, hm, rfl, HT.out, (Below.refl _ _).alloc (Nat.le_refl _) _⟩

/-- .. of an integer: its words as they are. -/
theorem words_int (b : Bool) (A : Option Addr) (n c x : Nat) (w : World) (h : Wd w A n (mag x)) (hn : n ≤ 1099511627776) (hc : n ≤ c) :
    Calls Tryz.prog 106 #[.agg #[.bool b, .slice A n c]] w (RetV (.slice A n c) w) :=
  (words_any b A n c (mag x) w h hn hc).mono fun e w' ⟨m, hm, he, ht, hb⟩ => by
    rw [val_mag] at ht
    have := take_eq_len (by rw [h.len]; exact hm) ht
    rw [h.len] at this
    subst this
    exact ⟨he, hb⟩

theorem signed_any (b : Bool) (A : Option Addr) (n c : Nat) (w : World) (_ : n ≤ 1099511627776) :
    Calls Tryz.prog 120 #[.bool b, .slice A n c] w (RetV (.agg #[.bool (b && decide (0 < n)), .slice A n c]) w) := by
  cases b with
  | false =>
    go_enter Tryz.func120, Tryz.ntmps120
    go_wp2
    exact bodyPost_ret (v := .agg #[.bool false, .slice A n c]) (by simp [results, Tryz.results120, go_sem]) rfl ⟨rfl, (Below.refl _ _).alloc (Nat.le_refl _) _⟩
  | true =>
    by_cases h : 0 < n
    · go_enter Tryz.func120, Tryz.ntmps120
      go_wp2
      exact bodyPost_ret (v := .agg #[.bool true, .slice A n c]) (by simp [results, Tryz.results120, go_sem]) rfl ⟨by rw [decide_eq_true h]; rfl, (Below.refl _ _).alloc (Nat.le_refl _) _⟩
    · go_enter Tryz.func120, Tryz.ntmps120
      go_wp2
      exact bodyPost_ret (v := .agg #[.bool false, .slice A n c]) (by simp [results, Tryz.results120, go_sem]) rfl ⟨by rw [decide_eq_false h]; rfl, (Below.refl _ _).alloc (Nat.le_refl _) _⟩

/-- The integer with a sign and an absolute value. -/
def sgn (b : Bool) (x : Nat) : Int := if b then -(x : Int) else x
theorem sgn_abs (b : Bool) (x : Nat) : (sgn b x).natAbs = x := by cases b <;> simp [sgn]
theorem sgn_neg (b : Bool) (x : Nat) : decide (sgn b x < 0) = (b && decide (0 < x)) := by cases b <;> simp [sgn]
theorem sgn_of (z : Int) : sgn (decide (z < 0)) z.natAbs = z := by
  unfold sgn
  by_cases h : z < 0
  · rw [decide_eq_true h]; simp; omega
  · rw [decide_eq_false h]; simp; omega
theorem sgn_add (b : Bool) (x y : Nat) : sgn b x + sgn b y = sgn b (x + y) := by cases b <;> simp [sgn] <;> omega
theorem sgn_sub_lt {a b : Bool} (h : a ≠ b) {x y : Nat} (hl : x < y) : sgn a x + sgn b y = sgn b (y - x) := by cases a <;> cases b <;> simp [sgn] at h ⊢ <;> omega
theorem sgn_sub_ge {a b : Bool} (h : a ≠ b) {x y : Nat} (hl : y ≤ x) : sgn a x + sgn b y = sgn a (x - y) := by cases a <;> cases b <;> simp [sgn] at h ⊢ <;> omega

theorem len_pos {w : World} {A : Option Addr} {n x : Nat} (h : Wd w A n (mag x)) : decide (0 < n) = decide (0 < x) := by
  have hl := h.len
  by_cases h0 : x = 0
  · subst h0; rw [mag_zero] at hl; simp at hl; subst hl; rfl
  · have : n ≠ 0 := fun e => h0 (mag_length_zero.1 (by omega))
    rw [decide_eq_true (show 0 < n by omega), decide_eq_true (show 0 < x by omega)]

theorem signed_mg (b : Bool) (A : Option Addr) (n c x : Nat) (w : World) (h : Wd w A n (mag x)) (hn : n ≤ 1099511627776) (hc : n ≤ c) (hcb : c ≤ 9223372036854775807) :
    Calls Tryz.prog 120 #[.bool b, .slice A n c] w (RetIv (sgn b x) w) :=
  (signed_any b A n c w hn).mono fun e w' ⟨he, hb⟩ => ⟨_, he, ⟨.slice A n c, by rw [sgn_neg, len_pos h], A, n, c, rfl, hc, hcb, by rw [sgn_abs]; exact h.below hb⟩, hb⟩

/-- Block g is the cell of one integer: a sign and a slice. -/
def Box (w : World) (g : Nat) (b : Bool) (s : Value) : Prop := w.heap[g]? = some (.cells #[.bool b, s] 29 (0, 0))
theorem Box.new (w : World) (b : Bool) (s : Value) : Box (w.alloc (.cells #[.bool b, s] 29)) w.heap.size b s := heap_alloc_new w _
theorem Box.lt {w : World} {g : Nat} {b : Bool} {s : Value} (h : Box w g b s) : g < w.heap.size := by
  rcases Nat.lt_or_ge g w.heap.size with hlt | hge
  · exact hlt
  · unfold Box at h; rw [Array.getElem?_eq_none hge] at h; cases h
theorem Box.cell0 {w : World} {g : Nat} {b : Bool} {s : Value} (h : Box w g b s) : w.cell? ⟨g, 0, none⟩ = some (.bool b) := cell_of_row w g 0 _ _ (0, 0) h
theorem Box.cell1 {w : World} {g : Nat} {b : Bool} {s : Value} (h : Box w g b s) : w.cell? ⟨g, 1, none⟩ = some s := cell_of_row w g 1 _ _ (0, 0) h
theorem Box.frozen {w : World} {g : Nat} {b : Bool} {s : Value} (h : Box w g b s) (i : Nat) : w.frozen? ⟨g, i, none⟩ = false := by
  unfold Box at h; simp [World.frozen?, h]
theorem Box.drewN {w : World} {g : Nat} {b : Bool} {s : Value} (h : Box w g b s) (n : Nat) : Box (w.drewN n) g b s := h
theorem Box.alloc {w : World} {g : Nat} {b : Bool} {s : Value} (h : Box w g b s) (o : Obj) : Box (w.alloc o) g b s := (Below.heap_alloc w o g h.lt).trans h
theorem Box.below {w w' : World} {g B : Nat} {b : Bool} {s : Value} (h : Box w g b s) (hb : Below B w w') (hg : g < B) : Box w' g b s := (hb.block g hg).trans h

theorem Box.set0 {w : World} {g : Nat} {b : Bool} {s : Value} (h : Box w g b s) (c : Bool) : Box (w.setCell ⟨g, 0, none⟩ (.bool c)) g c s := by
  unfold Box at h ⊢
  simp [World.setCell, Array.getElem?_modify, h]
theorem Box.set1 {w : World} {g : Nat} {b : Bool} {s : Value} (h : Box w g b s) (t : Value) : Box (w.setCell ⟨g, 1, none⟩ t) g b t := by
  unfold Box at h ⊢
  simp [World.setCell, Array.getElem?_modify, h]
/-- Words are no integer's cell: a store there leaves them. -/
theorem Wd.box {w : World} {g i : Nat} {b : Bool} {s u : Value} {A : Option Addr} {n : Nat} {ws : List Nat} (h : Wd w A n ws) (hb : Box w g b s) (hs : ∀ k y, s ≠ .int k y) (hi : i < 2) : Wd (w.setCell ⟨g, i, none⟩ u) A n ws := by
  refine ⟨h.1, h.2.1, fun hn => ?_⟩
  obtain ⟨ad, e, hlt, hc⟩ := h.2.2 hn
  refine ⟨ad, e, by simpa [World.setCell] using hlt, fun k hk => ?_⟩
  have h1 := hc k hk
  rw [World.cell?_setCell_other w ⟨g, i, none⟩ (ad.add k) u ?_]
  · exact h1
  · intro e2
    rw [← e2] at h1
    rcases (show i = 0 ∨ i = 1 by omega) with rfl | rfl
    · rw [hb.cell0] at h1; cases h1
    · rw [hb.cell1] at h1; injection h1 with h1; exact hs _ _ h1
theorem below_new {w w1 : World} {o : Obj} (h : Below (w.alloc o).heap.size (w.alloc o) w1) : Below w.heap.size w w1 :=
  ((Below.refl _ _).alloc (Nat.le_refl _) o).trans (h.mono (by simp))

theorem Iv.form {w : World} {v : Value} {z : Int} (h : Iv w v z) : ∃ A n c, v = .agg #[.bool (decide (z < 0)), .slice A n c] ∧ n ≤ c ∧ c ≤ 9223372036854775807 ∧ Wd w A n (mag z.natAbs) := by
  obtain ⟨m, e, A, n, c, rfl, h1, h2, h3⟩ := h
  exact ⟨A, n, c, e, h1, h2, h3⟩
theorem Iv.made {w : World} {A : Option Addr} {n c : Nat} {z : Int} (h1 : n ≤ c) (h2 : c ≤ 9223372036854775807) (h3 : Wd w A n (mag z.natAbs)) : Iv w (.agg #[.bool (decide (z < 0)), .slice A n c]) z :=
  ⟨_, rfl, A, n, c, rfl, h1, h2, h3⟩
/-- An integer is stored into a cell for integers. -/
theorem iv_store {w : World} {g : Nat} {b : Bool} {X : Option Addr} {p q : Nat} {A : Option Addr} {n c : Nat} {z : Int} {u : Value} (h1 : n ≤ c) (h2 : c ≤ 9223372036854775807) (h3 : Wd w A n (mag z.natAbs)) (hb : Box w g b (.slice X p q)) (cb : Bool) :
    Iv ((w.setCell ⟨g, 0, none⟩ (.bool cb)).setCell ⟨g, 1, none⟩ u) (.agg #[.bool (decide (z < 0)), .slice A n c]) z :=
  Iv.made h1 h2 ((h3.box hb (fun _ _ => by simp) (by omega)).box (Box.set0 hb _) (fun _ _ => by simp) (by omega))

theorem sum_len {x y n m N : Nat} (hx : (mag x).length = n) (hy : (mag y).length = m) (h1 : n ≤ N) (h2 : m ≤ N) : (mag (x + y)).length ≤ N + 1 := by
  refine mag_length_le ?_
  have e1 := lt_pw_mag x
  have e2 := lt_pw_mag y
  rw [hx] at e1
  rw [hy] at e2
  have e3 := pw_le h1
  have e4 := pw_le h2
  rw [pw_succ]
  omega

set_option maxHeartbeats 1000000 in
theorem sum_any (a b : Bool) (A B : Option Addr) (n c m d x y : Nat) (w : World) (ha : Wd w A n (mag x)) (hb : Wd w B m (mag y)) (hn : n ≤ 10000000) (hm : m ≤ 10000000) :
    Calls Tryz.prog 151 #[.bool a, .slice A n c, .bool b, .slice B m d] w (RetIv (sgn a x + sgn b y) w) := by
  have HA := Lib.hid ha
  have HB := Lib.hid hb
  clear ha hb
  by_cases hab : a = b
  · subst hab
    have ht : (a == a) = true := by simp
    rw [sgn_add a x y]
    go_enter Tryz.func151, Tryz.ntmps151
    go_wp2_with fail
    refine (plus_any A B n m c d x y _ (HA.out.alloc _) (HB.out.alloc _) (by omega) (by omega)).mono ?_
    rintro e w1 ⟨v1, rfl, ⟨A1, n1, c1, rfl, h1, h2, h3⟩, hbl1⟩
    have H3 := Lib.hid h3
    have hn1 : n1 ≤ 10000001 := by rw [← h3.len]; exact sum_len HA.out.len HB.out.len hn hm
    clear h3
    go_wp2_with fail
    refine (signed_mg a A1 n1 c1 (x + y) _ H3.out (by omega) h1 h2).mono ?_
    rintro e w2 ⟨v2, rfl, hv2, hbl2⟩
    obtain ⟨A2, n2, c2, rfl, k1, k2, k3⟩ := hv2.form
    have K3 := Lib.hid k3
    have hbx1 : Box w1 w.heap.size false (.slice none 0 0) := (Box.new w _ _).below hbl1 (by simp)
    have hbx2 := Lib.hid (hbx1.below hbl2 hbx1.lt)
    have q0 := hbx2.out.cell0
    have q1 := hbx2.out.cell1
    have q2 := hbx2.out.frozen 0
    have q3 := hbx2.out.frozen 1
    have hbl02 : Below w.heap.size w w2 := (below_new hbl1).trans (hbl2.mono (below_new hbl1).size)
    clear k3 hbx1 hv2
    go_wp2
    exact bodyPost_ret (v := .agg #[.bool (decide (sgn a (x + y) < 0)), .slice A2 n2 c2]) (by simp [results, Tryz.results151, go_sem, q0, q1]) rfl ⟨_, rfl, iv_store k1 k2 K3.out hbx2.out _, (hbl02.setCell (Nat.le_refl _) _).setCell (Nat.le_refl _) _⟩
  · have ht : (a == b) = false := by simp [hab]
    by_cases hlt : x < y
    · rw [sgn_sub_lt hab hlt]
      have hc := Lib.hid (cmpN_lt hlt)
      have hle := Nat.le_of_lt hlt
      clear hlt hab
      go_enter Tryz.func151, Tryz.ntmps151
      go_wp2_with fail
      refine (compare_any A B n m c d x y _ (HA.out.alloc _) (HB.out.alloc _) (by omega) (by omega)).mono ?_
      rintro e w0 ⟨rfl, q, rfl⟩
      rw [hc.out]
      go_wp2_with fail
      refine (minus_any B A m n d c y x _ ((HB.out.alloc _).drewN _) ((HA.out.alloc _).drewN _) (by omega) (by omega) hle).mono ?_
      rintro e w1 ⟨v1, rfl, ⟨A1, n1, c1, rfl, h1, h2, h3⟩, hbl1⟩
      have H3 := Lib.hid h3
      have hn1 : n1 ≤ 10000000 := by rw [← h3.len]; refine Nat.le_trans (mag_len_mono (Nat.sub_le y x)) ?_; rw [HB.out.len]; exact hm
      clear h3
      go_wp2_with fail
      refine (signed_mg b A1 n1 c1 (y - x) _ H3.out (by omega) h1 h2).mono ?_
      rintro e w2 ⟨v2, rfl, hv2, hbl2⟩
      obtain ⟨A2, n2, c2, rfl, k1, k2, k3⟩ := hv2.form
      have K3 := Lib.hid k3
      have hbx1 : Box w1 w.heap.size false (.slice none 0 0) := ((Box.new w _ _).drewN _).below hbl1 (by simp)
      have hbx2 := Lib.hid (hbx1.below hbl2 hbx1.lt)
      have q0 := hbx2.out.cell0
      have q1 := hbx2.out.cell1
      have q2 := hbx2.out.frozen 0
      have q3 := hbx2.out.frozen 1
      have hbl01 := below_new (undrewN hbl1)
      have hbl02 : Below w.heap.size w w2 := hbl01.trans (hbl2.mono hbl01.size)
      clear k3 hbx1 hv2
      go_wp2
      exact bodyPost_ret (v := .agg #[.bool (decide (sgn b (y - x) < 0)), .slice A2 n2 c2]) (by simp [results, Tryz.results151, go_sem, q0, q1]) rfl ⟨_, rfl, iv_store k1 k2 K3.out hbx2.out _, (hbl02.setCell (Nat.le_refl _) _).setCell (Nat.le_refl _) _⟩
    · rw [sgn_sub_ge hab (Nat.le_of_not_lt hlt)]
      have hc0 : (0 : Int) ≤ cmpN x y := by unfold cmpN; rw [if_neg hlt]; split <;> omega
      have hle := Nat.le_of_not_lt hlt
      generalize hcc : cmpN x y = cc at *
      have HCC := Lib.hid hcc
      clear hlt hab hcc
      go_enter Tryz.func151, Tryz.ntmps151
      go_wp2_with fail
      refine (compare_any A B n m c d x y _ (HA.out.alloc _) (HB.out.alloc _) (by omega) (by omega)).mono ?_
      rintro e w0 ⟨rfl, q, rfl⟩
      rw [HCC.out]
      go_wp2_with fail
      refine (minus_any A B n m c d x y _ ((HA.out.alloc _).drewN _) ((HB.out.alloc _).drewN _) (by omega) (by omega) hle).mono ?_
      rintro e w1 ⟨v1, rfl, ⟨A1, n1, c1, rfl, h1, h2, h3⟩, hbl1⟩
      have H3 := Lib.hid h3
      have hn1 : n1 ≤ 10000000 := by rw [← h3.len]; refine Nat.le_trans (mag_len_mono (Nat.sub_le x y)) ?_; rw [HA.out.len]; exact hn
      clear h3
      go_wp2_with fail
      refine (signed_mg a A1 n1 c1 (x - y) _ H3.out (by omega) h1 h2).mono ?_
      rintro e w2 ⟨v2, rfl, hv2, hbl2⟩
      obtain ⟨A2, n2, c2, rfl, k1, k2, k3⟩ := hv2.form
      have K3 := Lib.hid k3
      have hbx1 : Box w1 w.heap.size false (.slice none 0 0) := ((Box.new w _ _).drewN _).below hbl1 (by simp)
      have hbx2 := Lib.hid (hbx1.below hbl2 hbx1.lt)
      have q0 := hbx2.out.cell0
      have q1 := hbx2.out.cell1
      have q2 := hbx2.out.frozen 0
      have q3 := hbx2.out.frozen 1
      have hbl01 := below_new (undrewN hbl1)
      have hbl02 : Below w.heap.size w w2 := hbl01.trans (hbl2.mono hbl01.size)
      clear k3 hbx1 hv2
      go_wp2
      exact bodyPost_ret (v := .agg #[.bool (decide (sgn a (x - y) < 0)), .slice A2 n2 c2]) (by simp [results, Tryz.results151, go_sem, q0, q1]) rfl ⟨_, rfl, iv_store k1 k2 K3.out hbx2.out _, (hbl02.setCell (Nat.le_refl _) _).setCell (Nat.le_refl _) _⟩
end Go.Proofs.YtfigimfdojbkeaaGreat
end
