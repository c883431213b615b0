/-
  Contracts of clone, wordsOf and plus.
-/
import Derived.Test.YtpklphdhigkmmaaLeafC
import Derived.Test.YtpklphdhigkmmaaLaws
namespace Go.Proofs.Ytpklphdhigkmmaa
open Go.RowKit

theorem u32_info : (Try.prog.info? 50).map (fun i => (i.zero, i.size, i.bytes)) = some (some (.int .u32 0), 1, 4) := by kernel_rfl
theorem u32_size : (Try.prog.info? 50).map (·.size) = some 1 := by kernel_rfl

set_option maxHeartbeats 400000 in
theorem clone_any (A : Option Addr) (n c : Nat) (ws : List Nat) (w : World) (h : Wd w A n ws) (hn : n ≤ 1099511627776) :
    Calls Try.prog 83 #[.slice A n c] w fun e w' => e = .returned (.slice (some ⟨w.heap.size, 0, none⟩) n n) ∧ Blk w' w.heap.size ws ∧ Below w.heap.size w w' := by
  have H := Lib.hid h
  clear h
  go_enter Try.func83, Try.ntmps83
  go_wp2_with (first
    | (refine wpList_make_blk rfl _ _ _ rfl Try.underlying22 u32_info _ _ _ _ n rfl rfl rfl rfl (by omega) ?_
       intro w1 hb1 hs1 hbl1
       have HB1 := Lib.hid hb1
       have HS1 := Lib.hid hs1
       clear hb1 hs1)
    | (refine wpList_copy_blk rfl _ _ _ _ rfl Try.underlying22 u32_size w.heap.size 0 n n A n c rfl rfl _ ws HB1.out (H.out.below hbl1) (Nat.le_refl _) (by simp) w.heap.size w hbl1 (Nat.le_refl _) ?_
       intro w2 hb2 hbl2
       have HB2 := Lib.hid hb2
       clear hb2))
  go_ret
  refine ⟨rfl, ?_, hbl2⟩
  have := HB2.out
  rwa [splice_full _ _ (by rw [List.length_replicate, H.out.len])] at this

theorem val_two (a b : Nat) : val [a, b] = a + 4294967296 * b := by simp [val]

set_option maxHeartbeats 400000 in
theorem wordsOf_any (x : Nat) (w : World) (hx : x < 18446744073709551616) :
    Calls Try.prog 112 #[.int .u64 x] w (RetMg x w) := by
  go_enter Try.func112, Try.ntmps112
  go_wp2_with fail
  refine (trim_any _ 2 2 [x % 4294967296, x / 4294967296] _ (Blk.two (by omega) (by omega) (by omega) (by omega)).whole (by omega) (by omega)).mono ?_
  rintro e w' ⟨m, hm, rfl, ht, rfl⟩
  have HT := Lib.hid ht
  clear ht
  go_wp2
  go_ret
  have h0 := Blk.two (w := w) (a := x % 4294967296) (b := x / 4294967296) (i := (x : Int) % 4294967296) (j := (x : Int) / 4294967296) (by omega) (by omega) (by omega) (by omega)
  have h1 := h0.whole.mg (c := 2) hm (by simp) (by omega) HT.out
  rw [val_two, show x % 4294967296 + 4294967296 * (x / 4294967296) = x by omega] at h1
  exact ⟨_, rfl, h1, (Below.refl _ _).alloc (Nat.le_refl _) _⟩

def PlusRel (x y N k carry : Nat) (out : List Nat) : Prop :=
  out.length = N ∧ carry ≤ 1 ∧ val (out.take k) + pw k * carry = val ((mag x).take k) + val ((mag y).take k)

theorem PlusRel.step {x y N k carry : Nat} {out : List Nat} (h : PlusRel x y N k carry out) (hk : k < N) :
    PlusRel x y N (k + 1) ((carry + (gd (mag x) k + gd (mag y) k)) / 4294967296) (out.set k ((carry + (gd (mag x) k + gd (mag y) k)) % 4294967296)) := by
  obtain ⟨h1, h2, h3⟩ := h
  have ha := (mag_wds x).getD k
  have hb := (mag_wds y).getD k
  refine ⟨by rw [List.length_set, h1], by omega, ?_⟩
  rw [val_take_set _ _ _ (by omega), val_take_succ, val_take_succ, pw_succ]
  generalize hs : carry + (gd (mag x) k + gd (mag y) k) = s at *
  have e : pw k * (s % 4294967296) + 4294967296 * pw k * (s / 4294967296) = pw k * s := by
    rw [Nat.mul_comm 4294967296 (pw k), Nat.mul_assoc, ← Nat.mul_add]
    congr 1; omega
  have e2 : pw k * s = pw k * carry + (pw k * gd (mag x) k + pw k * gd (mag y) k) := by rw [← hs, Nat.mul_add, Nat.mul_add]
  omega

theorem PlusRel.done {x y N carry : Nat} {out : List Nat} (h : PlusRel x y N N carry out) (hx : (mag x).length + 1 ≤ N) (hy : (mag y).length + 1 ≤ N) : val out = x + y := by
  obtain ⟨h1, h2, h3⟩ := h
  rw [val_take_all _ _ (by omega), val_take_all _ _ (by omega), val_take_all _ _ (by omega), val_mag, val_mag] at h3
  obtain ⟨M, rfl⟩ : ∃ M, N = M + 1 := ⟨N - 1, by omega⟩
  have hx2 := lt_pw_mag x
  have hy2 := lt_pw_mag y
  have hx3 := pw_le (show (mag x).length ≤ M by omega)
  have hy3 := pw_le (show (mag y).length ≤ M by omega)
  have := pw_pos M
  rw [pw_succ] at h3
  have hc : carry = 0 := by
    rcases Nat.eq_zero_or_pos carry with e | e
    · exact e
    · have : 4294967296 * pw M * 1 ≤ 4294967296 * pw M * carry := Nat.mul_le_mul_left _ e
      omega
  subst hc
  omega

set_option maxHeartbeats 1000000 in
theorem plus_at (A B : Option Addr) (n m c d x y N : Nat) (w : World) (ha : Wd w A n (mag x)) (hb : Wd w B m (mag y)) (hn : n ≤ 1000000000) (hm : m ≤ 1000000000)
    (hN1 : n + 1 ≤ N) (hN2 : m + 1 ≤ N) (hN3 : N ≤ n + 1 ∨ N ≤ m + 1) :
    Calls Try.prog 77 #[.slice A n c, .slice B m d] w (RetMg (x + y) w) := by
  have HA := Lib.hid ha
  have HB := Lib.hid hb
  clear ha hb
  go_enter Try.func77, Try.ntmps77
  go_wp2_with (first
    | (refine wpList_make_blk rfl _ _ _ rfl Try.underlying22 u32_info _ _ _ _ N rfl rfl (by first | omega | (split <;> omega)) (by first | omega | (split <;> omega)) (by omega) ?_
       intro w1 hb1 hs1 hbl1
       have HB1 := Lib.hid hb1
       have HS1 := Lib.hid hs1
       clear hb1 hs1))
  all_goals
    go_loopw [6, 17] (fun cy t wr => ∃ k carry : Nat, ∃ out, k ≤ N ∧ carry ≤ 1 ∧ cy = .int .u64 carry ∧ t = .int .i64 k ∧ PlusRel x y N k carry out ∧ Blk wr w.heap.size out ∧ Below w.heap.size w wr ∧ Only w.heap.size w1 wr)
      (fun _ t _ => N - (intOf t).toNat)
    case atStart => exact ⟨0, 0, List.replicate N 0, Nat.zero_le _, by omega, rfl, rfl, ⟨by simp, by omega, by simp [val, pw_zero]⟩, HB1.out, hbl1, Only.refl _ _⟩
    case round =>
      obtain ⟨k, carry, out, hk, hcy, rfl, rfl, hrel, hblk, hbl, hon⟩ := hrel
      have HR := Lib.hid hrel
      have HBK := Lib.hid hblk
      clear hrel hblk
      by_cases hlt : k < N
      · have h1 := (mag_wds x).getD k
        have h2 := (mag_wds y).getD k
        have hcell := HBK.out.cell (i := k) (by rw [HR.out.1]; omega)
        have hfro := HBK.out.frozen k
        have hR2 := Lib.hid (HR.out.step hlt)
        go_wp2_with fail
        refine (word_any A n c (mag x) k _ (HA.out.below hbl) (by omega) (by omega)).mono ?_
        rintro e w' ⟨rfl, rfl⟩
        rw [Int.toNat_natCast]
        go_wp2_with fail
        refine (word_any B m d (mag y) k _ (HB.out.below hbl) (by omega) (by omega)).mono ?_
        rintro e w' ⟨rfl, rfl⟩
        rw [Int.toNat_natCast]
        go_wp2
        go_roundw
        case rel => exact ⟨k + 1, _, _, by omega, by omega, by go_num, by go_num, hR2.out, HBK.out.set_i k _ (by omega) (by omega), hbl.setCell (Nat.le_refl _) _, hon.set_ _ _⟩
        case measure => simp [intOf]; omega
      · obtain rfl : k = N := by omega
        have hd := Lib.hid (HR.out.done (by rw [HA.out.len]; omega) (by rw [HB.out.len]; omega))
        have hlen := Lib.hid HR.out.1
        go_wp2_with fail
        refine (trim_any _ k k out _ (by have := HBK.out.whole; rwa [hlen.out] at this) (by omega) (by omega)).mono ?_
        rintro e w' ⟨q, hq, rfl, ht, rfl⟩
        have HT := Lib.hid ht
        clear ht
        go_wp2
        go_ret
        have h1 := HBK.out.whole.mg (c := k) hq (by rw [hlen.out]; omega) (by omega) HT.out
        rw [hd.out] at h1
        exact ⟨_, rfl, h1, hbl⟩

theorem plus_any (A B : Option Addr) (n m c d x y : Nat) (w : World) (ha : Wd w A n (mag x)) (hb : Wd w B m (mag y)) (hn : n ≤ 1000000000) (hm : m ≤ 1000000000) :
    Calls Try.prog 77 #[.slice A n c, .slice B m d] w (RetMg (x + y) w) := by
  rcases Nat.le_total n m with h | h
  · exact plus_at A B n m c d x y (m + 1) w ha hb hn hm (by omega) (by omega) (.inr (by omega))
  · exact plus_at A B n m c d x y (n + 1) w ha hb hn hm (by omega) (by omega) (.inl (by omega))
end Go.Proofs.Ytpklphdhigkmmaa
