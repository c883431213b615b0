/-
  Contracts of window and difference.
  Contracts of leadingSteps and apply.
-/
import Derived.Test.YtpklphdhigkmmaaLehB
import Derived.Test.YtpklphdhigkmmaaDivide
namespace Go.Proofs.Ytpklphdhigkmmaa
open Go.RowKit

set_option maxHeartbeats 1000000 in
theorem window_any (A : Option Addr) (n c x s : Nat) (z : Int) (w : World) (ha : Wd w A n (mag x)) (hn : n ≤ 1000000000) (hs : s ≤ 100000000000) (hz : z = s) :
    Calls Try.prog 134 #[.slice A n c, .int .i64 z] w fun e w' => e = .returned (.int .u64 (x / 2 ^ s % 18446744073709551616 : Nat)) ∧ ∃ q, w' = w.drewN q := by
  have HA := Lib.hid ha
  clear ha
  obtain ⟨k, b, hb, rfl⟩ : ∃ k b, b < 32 ∧ s = 32 * k + b := ⟨s / 32, s % 32, by omega, by omega⟩
  have hz0 : 0 ≤ z := by omega
  have hz1 : z / 32 = (k : Int) := by omega
  have hz2 : z % 32 = (b : Int) := by omega
  have hmn : min b 64 = b := by omega
  have HZ := Lib.hid hz
  have hv : Hid (x / 2 ^ (32 * k + b) = val ((mag x).drop k) / 2 ^ b) := by
    show x / 2 ^ (32 * k + b) = val ((mag x).drop k) / 2 ^ b
    rw [val_drop (mag_wds x), val_mag, pw_two, Nat.pow_add, Nat.div_div_eq_div_mul]
  have hf := Lib.hid (val_front3 ((mag x).drop k))
  have h0 := (mag_wds x).getD k
  have h1 := (mag_wds x).getD (k + 1)
  have h2 := (mag_wds x).getD (k + 2)
  have t1 : ((k : Int) + 1).toNat = k + 1 := by omega
  have t2 : ((k : Int) + 2).toNat = k + 2 := by omega
  have T1 := Lib.hid t1
  have T2 := Lib.hid t2
  clear hz t1 t2
  go_enter Try.func134, Try.ntmps134
  go_wp2_with fail
  refine (word_any A n c (mag x) k w HA.out (by omega) (by omega)).mono ?_
  rintro e w' ⟨rfl, rfl⟩
  rw [Int.toNat_natCast]
  go_wp2_with fail
  refine (word_any A n c (mag x) (k + 1) w HA.out (by omega) (by omega)).mono ?_
  rintro e w' ⟨rfl, rfl⟩
  rw [T1.out]
  go_wp2_with fail
  refine (word_any A n c (mag x) (k + 2) w HA.out (by omega) (by omega)).mono ?_
  rintro e w' ⟨rfl, rfl⟩
  rw [T2.out]
  go_wp2_with fail
  go_quiet (fail)
  go_wp2
  go_ret
  refine ⟨ret_u64 ?_, nq, rfl⟩
  rw [hv.out]
  have hf := hf.out
  rw [gd_drop, gd_drop, gd_drop, Nat.add_zero] at hf
  exact window_bits h0 h1 hb hf

set_option maxHeartbeats 1000000 in
theorem difference_any (A B : Option Addr) (n m c d a b x y N D : Nat) (w : World) (ha : Wd w A n (mag a)) (hb : Wd w B m (mag b)) (hn : n ≤ N) (hm : m ≤ N) (hN : N ≤ n ∨ N ≤ m) (hN2 : N ≤ 1000000000)
    (hx : x < 4294967296) (hy : y < 4294967296) (hD : D + y * b = x * a) (hlt : D < pw N) :
    Calls Try.prog 135 #[.slice A n c, .int .u64 x, .slice B m d, .int .u64 y] w (RetMg D w) := by
  have HA := Lib.hid ha
  have HB := Lib.hid hb
  have HD := Lib.hid hD
  have HL := Lib.hid hlt
  clear ha hb hD hlt
  go_enter Try.func135, Try.ntmps135
  go_wp2_with (first
    | (refine wpList_make_blk rfl _ _ _ rfl Try.underlying22 u32_info _ _ _ _ N rfl rfl (by first | omega | (split <;> omega)) (by first | omega | (split <;> omega)) (by omega) ?_
       intro w1 hb1 hs1 hbl1
       have HB1 := Lib.hid hb1
       clear hb1 hs1))
  all_goals
    go_loopw [10, 11, 12, 23] (fun ad su bo t wr => ∃ k add sub bb : Nat, ∃ out, k ≤ N ∧ add < 4294967296 ∧ sub < 4294967296 ∧ bb ≤ 1 ∧ ad = .int .u64 add ∧ su = .int .u64 sub ∧ bo = .int .u64 bb ∧ t = .int .i64 k ∧ DiffRel (mag a) (mag b) x y N k add sub bb out ∧ Blk wr w.heap.size out ∧ Below w.heap.size w wr)
      (fun _ _ _ t _ => N - (intOf t).toNat)
    case atStart => exact ⟨0, 0, 0, 0, List.replicate N 0, Nat.zero_le _, by omega, by omega, by omega, rfl, rfl, rfl, rfl, ⟨by simp, by simp [val, pw_zero]⟩, HB1.out, hbl1⟩
    case round =>
      obtain ⟨k, add, sub, bb, out, hk, had, hsu, hbb, rfl, rfl, rfl, rfl, hrel, hblk, hbl⟩ := hrel
      have HR := Lib.hid hrel
      have HBK := Lib.hid hblk
      clear hrel hblk
      by_cases hlt : k < N
      · have h1 := (mag_wds a).getD k
        have h2 := (mag_wds b).getD k
        have m1 := mul_bound hx h1
        have m2 := mul_bound hy h2
        have hcell := HBK.out.cell (i := k) (by rw [HR.out.1]; omega)
        have hfro := HBK.out.frozen k
        have hR2 := Lib.hid (HR.out.step hlt hbb)
        have p1 : (x : Int) * (gd (mag a) k : Int) = ((x * gd (mag a) k : Nat) : Int) := by simp
        have p2 : (y : Int) * (gd (mag b) k : Int) = ((y * gd (mag b) k : Nat) : Int) := by simp
        generalize hxa : x * gd (mag a) k = xa at *
        generalize hyb : y * gd (mag b) k = yb at *
        have a1 := and_mask (add + xa) (by omega)
        have a2 := and_mask (sub + yb) (by omega)
        have d1 := Nat.mod_lt (add + xa) (show 0 < 4294967296 by omega)
        have d2 := Nat.mod_lt (sub + yb) (show 0 < 4294967296 by omega)
        have h3 : Hid (IntKind.u64.wrap (IntKind.u64.wrap ((((add + xa) % 4294967296 : Nat) : Int) - (((sub + yb) % 4294967296 : Nat) : Int)) - (bb : Int)) / 9223372036854775808 = ((bw ((add + xa) % 4294967296) ((sub + yb) % 4294967296) bb : Nat) : Int)) := sub_hi d1 d2 hbb
        have h4 : Hid (IntKind.u64.wrap (IntKind.u64.wrap ((((add + xa) % 4294967296 : Nat) : Int) - (((sub + yb) % 4294967296 : Nat) : Int)) - (bb : Int)) % 4294967296 = ((dw ((add + xa) % 4294967296) ((sub + yb) % 4294967296) bb : Nat) : Int)) := sub_lo d1 d2 hbb
        have c1 : (add : Int) + (xa : Int) = ((add + xa : Nat) : Int) := by simp
        have c2 : (sub : Int) + (yb : Int) = ((sub + yb : Nat) : Int) := by simp
        have b1 : add + xa < 18446744073709551616 := by omega
        have b2 : sub + yb < 18446744073709551616 := by omega
        generalize hs : add + xa = s at *
        generalize ht : sub + yb = t at *
        generalize hs2 : s % 4294967296 = s2 at *
        generalize ht2 : t % 4294967296 = t2 at *
        have HS2 := Lib.hid hs2
        have HT2 := Lib.hid ht2
        clear hxa hyb hs ht hs2 ht2
        go_wp2_with fail
        refine (word_any A n c (mag a) k _ (HA.out.below hbl) (by omega) (by omega)).mono ?_
        rintro e w' ⟨rfl, rfl⟩
        rw [Int.toNat_natCast]
        go_wp2_with fail
        refine (word_any B m d (mag b) k _ (HB.out.below hbl) (by omega) (by omega)).mono ?_
        rintro e w' ⟨rfl, rfl⟩
        rw [Int.toNat_natCast]
        go_wp2
        refine ⟨⟨k + 1, s / 4294967296, t / 4294967296, bw s2 t2 bb, _, by omega, by omega, by omega, bw_le _ _ _, by go_num, by go_num, by rw [h3.out], by go_num, hR2.out, HBK.out.set_i k _ h4.out (dw_lt _ _ _), hbl.setCell (Nat.le_refl _) _⟩, ?_⟩
        simp [intOf]; omega
      · obtain rfl : k = N := by omega
        have hd := Lib.hid (HR.out.done HBK.out.2 (by rw [HA.out.len]; omega) (by rw [HB.out.len]; omega) HD.out HL.out)
        have hlen := Lib.hid HR.out.1
        go_wp2_with fail
        refine (trim_any _ k k out _ (by have := HBK.out.whole; rwa [hlen.out] at this) (by omega) (by omega)).mono ?_
        rintro e w' ⟨q, hq, rfl, ht, rfl⟩
        have HT := Lib.hid ht
        clear ht
        go_wp2
        go_ret
        have h1 := HBK.out.whole.mg (c := k) hq (by rw [hlen.out]; omega) (by omega) HT.out
        rw [hd.out] at h1
        exact ⟨_, rfl, h1, hbl⟩
end Go.Proofs.Ytpklphdhigkmmaa

section
namespace Go.Proofs.Ytpklphdhigkmmaa
open Go.RowKit
attribute [local go_sem ↓] Go.wp_at_zero Go.wp_at_succ

/-- Block g is the cell of some steps. -/
def SBox (w : World) (g u0 u1 v0 v1 : Nat) (ev : Bool) : Prop := w.heap[g]? = some (.cells #[.int .u64 (u0 : Nat), .int .u64 (u1 : Nat), .int .u64 (v0 : Nat), .int .u64 (v1 : Nat), .bool ev] 119 (0, 0))
theorem SBox.new (w : World) (u0 u1 v0 v1 : Nat) (ev : Bool) : SBox (w.alloc (.cells #[.int .u64 (u0 : Nat), .int .u64 (u1 : Nat), .int .u64 (v0 : Nat), .int .u64 (v1 : Nat), .bool ev] 119)) w.heap.size u0 u1 v0 v1 ev := heap_alloc_new w _
theorem SBox.lt {w : World} {g u0 u1 v0 v1 : Nat} {ev : Bool} (h : SBox w g u0 u1 v0 v1 ev) : g < w.heap.size := by
  rcases Nat.lt_or_ge g w.heap.size with hlt | hge
  · exact hlt
  · unfold SBox at h; rw [Array.getElem?_eq_none hge] at h; cases h
theorem SBox.cells {w : World} {g u0 u1 v0 v1 : Nat} {ev : Bool} (h : SBox w g u0 u1 v0 v1 ev) :
    w.cell? ⟨g, 0, none⟩ = some (.int .u64 (u0 : Nat)) ∧ w.cell? ⟨g, 1, none⟩ = some (.int .u64 (u1 : Nat)) ∧ w.cell? ⟨g, 2, none⟩ = some (.int .u64 (v0 : Nat)) ∧ w.cell? ⟨g, 3, none⟩ = some (.int .u64 (v1 : Nat)) ∧ w.cell? ⟨g, 4, none⟩ = some (.bool ev) :=
  ⟨cell_of_row w g 0 _ _ (0, 0) h, cell_of_row w g 1 _ _ (0, 0) h, cell_of_row w g 2 _ _ (0, 0) h, cell_of_row w g 3 _ _ (0, 0) h, cell_of_row w g 4 _ _ (0, 0) h⟩
theorem SBox.frozen {w : World} {g u0 u1 v0 v1 : Nat} {ev : Bool} (h : SBox w g u0 u1 v0 v1 ev) (i : Nat) : w.frozen? ⟨g, i, none⟩ = false := by
  unfold SBox at h; simp [World.frozen?, h]
theorem SBox.drewN {w : World} {g u0 u1 v0 v1 : Nat} {ev : Bool} (h : SBox w g u0 u1 v0 v1 ev) (n : Nat) : SBox (w.drewN n) g u0 u1 v0 v1 ev := h
theorem SBox.alloc {w : World} {g u0 u1 v0 v1 : Nat} {ev : Bool} (h : SBox w g u0 u1 v0 v1 ev) (o : Obj) : SBox (w.alloc o) g u0 u1 v0 v1 ev := (Below.heap_alloc w o g h.lt).trans h
theorem SBox.next {w w1 w' : World} {g u0 u1 v0 v1 : Nat} {ev : Bool} (h : SBox w g u0 u1 v0 v1 ev) (hb : Below w1.heap.size w1 w') (e : w1.heap = w.heap) : SBox w' g u0 u1 v0 v1 ev := by
  have h1 : SBox w1 g u0 u1 v0 v1 ev := by unfold SBox; rw [e]; exact h
  exact (hb.block g h1.lt).trans h1
theorem SBox.far {w : World} {g u0 u1 v0 v1 : Nat} {ev : Bool} (h : SBox w g u0 u1 v0 v1 ev) {p : Addr} (hp : g ≠ p.block) (u : Value) : SBox (w.setCell p u) g u0 u1 v0 v1 ev := (Below.heap_setCell w p u g hp).trans h
theorem SBox.set5 {w : World} {g u0 u1 v0 v1 : Nat} {ev : Bool} (h : SBox w g u0 u1 v0 v1 ev) (a b c d : Nat) (f : Bool) :
    SBox (((((w.setCell ⟨g, 0, none⟩ (.int .u64 (a : Nat))).setCell ⟨g, 1, none⟩ (.int .u64 (b : Nat))).setCell ⟨g, 2, none⟩ (.int .u64 (c : Nat))).setCell ⟨g, 3, none⟩ (.int .u64 (d : Nat))).setCell ⟨g, 4, none⟩ (.bool f)) g a b c d f := by
  unfold SBox at h ⊢
  simp [World.setCell, Array.getElem?_modify, h]

/-- The value of some steps. -/
def stv (u0 u1 v0 v1 : Nat) (ev : Bool) : Value := .agg #[.int .u64 (u0 : Nat), .int .u64 (u1 : Nat), .int .u64 (v0 : Nat), .int .u64 (v1 : Nat), .bool ev]
def RetSteps (a b : Nat) (w : World) (e : Ending) (w' : World) : Prop := ∃ u0 u1 v0 v1 : Nat, ∃ ev, e = .returned (stv u0 u1 v0 v1 ev) ∧ Steps5 a b u0 u1 v0 v1 ev ∧ Below w.heap.size w w'

theorem bl_long {a n : Nat} (h : (mag a).length = n) (hn : 3 ≤ n) : 65 ≤ bl a := by
  have hp : 18446744073709551616 ≤ a := by
    rcases Nat.lt_or_ge a 18446744073709551616 with h1 | h1
    · have := mag_length_le (n := a) (k := 2) (by rw [show pw 2 = 18446744073709551616 from rfl]; exact h1)
      omega
    · exact h1
  rcases Nat.lt_or_ge (bl a) 65 with h1 | h1
  · have := (bl_lt a 64).1 (by omega)
    omega
  · exact h1
theorem bl_short {a n : Nat} (h : (mag a).length = n) : bl a ≤ 32 * n := (bl_lt a _).2 (by rw [← pw_two, ← h]; exact lt_pw_mag a)

set_option maxHeartbeats 2000000 in
set_option maxRecDepth 100000 in
theorem leadingSteps_any (A B : Option Addr) (n m c d a b : Nat) (w : World) (ha : Wd w A n (mag a)) (hb : Wd w B m (mag b)) (hn : 3 ≤ n) (hn2 : n ≤ 1000000000) (hm : m ≤ 1000000000) (hba : b ≤ a) :
    Calls Try.prog 120 #[.slice A n c, .slice B m d] w (RetSteps a b w) := by
  have HA := Lib.hid ha
  have HB := Lib.hid hb
  have hl1 := bl_long ha.len hn
  have hl2 := bl_short ha.len
  obtain ⟨s, hs⟩ : ∃ s, bl a = s + 64 := ⟨bl a - 64, by omega⟩
  have hX : a / 2 ^ s < 18446744073709551616 := by
    rw [Nat.div_lt_iff_lt_mul (Nat.pow_pos (by omega))]
    have := lt_bl a
    rw [hs, Nat.pow_add] at this
    omega
  have hYX : b / 2 ^ s ≤ a / 2 ^ s := Nat.div_le_div_right hba
  have da : Hid (a = a / 2 ^ s * 2 ^ s + a % 2 ^ s ∧ a % 2 ^ s < 2 ^ s) := ⟨by rw [Nat.mul_comm]; exact (Nat.div_add_mod _ _).symm, Nat.mod_lt _ (Nat.pow_pos (by omega))⟩
  have db : Hid (b = b / 2 ^ s * 2 ^ s + b % 2 ^ s ∧ b % 2 ^ s < 2 ^ s) := ⟨by rw [Nat.mul_comm]; exact (Nat.div_add_mod _ _).symm, Nat.mod_lt _ (Nat.pow_pos (by omega))⟩
  have mX : Hid (a / 2 ^ s % 18446744073709551616 = a / 2 ^ s) := Nat.mod_eq_of_lt hX
  have mY : Hid (b / 2 ^ s % 18446744073709551616 = b / 2 ^ s) := Nat.mod_eq_of_lt (by omega)
  generalize hXX : a / 2 ^ s = X at *
  generalize hYY : b / 2 ^ s = Y at *
  have HXX := Lib.hid hXX
  have HYY := Lib.hid hYY
  have HS := Lib.hid hs
  have hs2 : s ≤ 100000000000 := by omega
  have hz : (bl a : Int) - 64 = (s : Int) := by omega
  have HZ := Lib.hid hz
  have hz1 : (65 : Int) ≤ (bl a : Int) := by omega
  have hz2 : (bl a : Int) ≤ 32000000000 := by omega
  clear ha hb hXX hYY hs hz hl1 hl2
  go_enter Try.func120, Try.ntmps120
  go_wp2_with fail
  refine (bitLength_any A n c a _ (HA.out.alloc _) (by omega)).mono ?_
  rintro e w' ⟨rfl, rfl⟩
  go_wp2_with fail
  refine (window_any A n c a s _ _ (HA.out.alloc _) (by omega) hs2 HZ.out).mono ?_
  rintro e w' ⟨rfl, q1, rfl⟩
  rw [HXX.out, mX.out]
  go_wp2_with fail
  refine (window_any B m d b s _ _ ((HB.out.alloc _).drewN _) (by omega) hs2 HZ.out).mono ?_
  rintro e w' ⟨rfl, q2, rfl⟩
  rw [HYY.out, mY.out]
  go_wp2_with fail
  obtain ⟨g, hg⟩ : ∃ g, g = w.heap.size := ⟨_, rfl⟩
  have HG := Lib.hid hg
  clear hg
  go_loopw [6, 7, 9, 10] (fun tx ty tu tv wr => ∃ x y u0 u1 u2 v0 v1 v2 : Nat, ∃ ev, tx = .int .u64 x ∧ ty = .int .u64 y ∧ tu = .int .u64 u2 ∧ tv = .int .u64 v2 ∧ x < 18446744073709551616 ∧ v1 < 4294967296 ∧ y ≤ x ∧ Leh a b X Y x y u0 u1 u2 v0 v1 v2 ev ∧
      SBox wr (w.heap.size + 1) u0 u1 v0 v1 ev ∧ SBox wr w.heap.size 0 0 0 0 false ∧ Below w.heap.size w wr)
    (fun _ ty _ _ _ => (intOf ty).toNat)
  case atStart =>
    refine ⟨X, Y, 0, 1, 0, 0, 0, 1, false, rfl, rfl, rfl, rfl, hX, by omega, hYX, Leh.init hYX, ?_, ((SBox.new w 0 0 0 0 false).drewN _).alloc _, (below_drewN ((Below.refl _ _).alloc (Nat.le_refl _) _) _).alloc (by simp) _⟩
    have := SBox.new ((w.alloc (Obj.cells #[Value.int IntKind.u64 0, Value.int IntKind.u64 0, Value.int IntKind.u64 0, Value.int IntKind.u64 0, Value.bool false] 119)).drewN (q1 + q2)) 0 1 0 0 false
    simpa using this
  case round =>
    obtain ⟨x, y, u0, u1, u2, v0, v1, v2, ev, rfl, rfl, rfl, rfl, hx, hv1, hyx, hleh, hs1, hs0, hbl⟩ := hrel
    have HL := Lib.hid hleh
    have HS1 := Lib.hid hs1
    have HS0 := Lib.hid hs0
    obtain ⟨c0, c1, c2, c3, c4⟩ := hs1.cells
    have f0 := hs1.frozen 0
    have f1 := hs1.frozen 1
    have f2 := hs1.frozen 2
    have f3 := hs1.frozen 3
    have f4 := hs1.frozen 4
    clear hleh hs1 hs0
    by_cases hc1 : v2 ≤ y
    · obtain ⟨hy, hu2, hv2, hfu, hfv⟩ := HL.out.fits hX hYX hc1
      by_cases hc2 : v1 + v2 ≤ x - y
      · have hst := Lib.hid (HL.out.step hX hYX da.out.1 da.out.2 db.out.1 db.out.2 hc1 hc2)
        have k1 : (v1 : Int) + (v2 : Int) ≤ (x : Int) - (y : Int) := by omega
        have n1 : ((y : Int) == 0) = false := by simp; omega
        have n2 : (1 : Int) ≤ (y : Int) := by omega
        have n3 : (x : Int) ≤ 18446744073709551615 := by omega
        have n4 : x / y < 18446744073709551616 := Nat.lt_of_le_of_lt (Nat.div_le_self _ _) hx
        have n9 : x % y < 18446744073709551616 := Nat.lt_of_le_of_lt (Nat.mod_le _ _) hx
        have n10 : x % y < y := Nat.mod_lt _ hy
        have n5 : IntKind.u64.wrap ((x : Int) / (y : Int)) = ((x / y : Nat) : Int) := by
          rw [IntWalk.u64_in _ ⟨Int.ediv_nonneg (by omega) (by omega), by rw [← Int.natCast_ediv]; omega⟩]; rfl
        have n6 : ((x : Int) % (y : Int)) = ((x % y : Nat) : Int) := rfl
        have n7 : (x : Int).tmod (y : Int) = ((x % y : Nat) : Int) := rfl
        have n8 : IntKind.u64.wrap ((x : Int).tdiv (y : Int)) = ((x / y : Nat) : Int) := by
          rw [Int.tdiv_eq_ediv_of_nonneg (by omega)]; exact n5
        generalize hqq : x / y = qq at *
        generalize hrr : x % y = rr at *
        have p1 : (qq : Int) * (u2 : Int) = ((qq * u2 : Nat) : Int) := by simp
        have p2 : (qq : Int) * (v2 : Int) = ((qq * v2 : Nat) : Int) := by simp
        generalize hqu : qq * u2 = qu at *
        generalize hqv : qq * v2 = qv at *
        clear hqq hrr hqu hqv
        go_wp2_with fail
        go_quiet (fail)
        go_wp2
        have hfar : ∀ {ww : World} {o : Nat} {u : Value}, SBox ww w.heap.size 0 0 0 0 false → SBox (ww.setCell ⟨w.heap.size + 1, o, none⟩ u) w.heap.size 0 0 0 0 false := fun h => h.far (by simp) _
        refine ⟨⟨y, rr, u1, u2, u1 + qu, v1, v2, v1 + qv, !ev, rfl, rfl, by go_num, by go_num, by omega, hv2, by omega, ?_, ?_, ?_, ?_⟩, by simp [intOf]; omega⟩
        · exact hst.out
        · exact (HS1.out.drewN _).set5 _ _ _ _ _
        · exact hfar (hfar (hfar (hfar (hfar (HS0.out.drewN _)))))
        · exact (((((below_drewN hbl _).setCell (by simp) _).setCell (by simp) _).setCell (by simp) _).setCell (by simp) _).setCell (by simp) _
      · have k1 : ¬ ((v1 : Int) + (v2 : Int) ≤ (x : Int) - (y : Int)) := by omega
        have d0 := HS0.out.cells
        have e0 := HS0.out.frozen 0
        have e1 := HS0.out.frozen 1
        have e2 := HS0.out.frozen 2
        have e3 := HS0.out.frozen 3
        have e4 := HS0.out.frozen 4
        obtain ⟨d0, d1, d2, d3, d4⟩ := d0
        go_wp2
        exact bodyPost_ret (v := stv u0 u1 v0 v1 ev) (by simp [results, Try.results120, go_sem, d0, d1, d2, d3, d4, stv]) rfl ⟨u0, u1, v0, v1, ev, rfl, HL.out.done, ((((hbl.setCell (Nat.le_refl _) _).setCell (Nat.le_refl _) _).setCell (Nat.le_refl _) _).setCell (Nat.le_refl _) _).setCell (Nat.le_refl _) _⟩
    · have k0 : ¬ ((v2 : Int) ≤ (y : Int)) := by omega
      have d0 := HS0.out.cells
      have e0 := HS0.out.frozen 0
      have e1 := HS0.out.frozen 1
      have e2 := HS0.out.frozen 2
      have e3 := HS0.out.frozen 3
      have e4 := HS0.out.frozen 4
      obtain ⟨d0, d1, d2, d3, d4⟩ := d0
      go_wp2
      exact bodyPost_ret (v := stv u0 u1 v0 v1 ev) (by simp [results, Try.results120, go_sem, d0, d1, d2, d3, d4, stv]) rfl ⟨u0, u1, v0, v1, ev, rfl, HL.out.done, ((((hbl.setCell (Nat.le_refl _) _).setCell (Nat.le_refl _) _).setCell (Nat.le_refl _) _).setCell (Nat.le_refl _) _).setCell (Nat.le_refl _) _⟩
end Go.Proofs.Ytpklphdhigkmmaa
end
