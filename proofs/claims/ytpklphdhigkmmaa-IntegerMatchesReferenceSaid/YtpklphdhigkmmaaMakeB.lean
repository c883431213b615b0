/-
  Contracts of minus, addTimes and times.
-/
import Derived.Test.YtpklphdhigkmmaaMakeA
namespace Go.Proofs.Ytpklphdhigkmmaa
open Go.RowKit

theorem below_drewN {B : Nat} {a w : World} (h : Below B a w) (n : Nat) : Below B a (w.drewN n) := ⟨h.os, h.tape, h.output, h.size, h.block⟩
theorem quiet_left {P : Program} {f : FuncId} {args : Array Value} {w : World} {n : Nat} {v : Value}
    (h : Calls P f args (w.drewN n) fun e w' => e = .returned v ∧ w.drewN n = w') : Calls P f args (w.drewN n) fun e w'' => e = .returned v ∧ ∃ m, w'' = w.drewN m :=
  h.mono fun _ _ ⟨he, hm⟩ => ⟨he, n, hm.symm⟩
theorem quiet_add_left {P : Program} {f : FuncId} {args : Array Value} {w : World} {a n : Nat} {v : Value}
    (h : Calls P f args (w.drewN (a + n)) fun e w' => e = .returned v ∧ w.drewN (a + n) = w') :
    Calls P f args (w.drewN (a + n)) fun e w'' => e = .returned v ∧ ∃ m, w'' = w.drewN (a + m) :=
  h.mono fun _ _ ⟨he, hm⟩ => ⟨he, n, hm.symm⟩

/-- A difference of words with a borrow: what is left, and the new borrow. -/
def dw (a b bo : Nat) : Nat := (a + 4294967296 - b - bo) % 4294967296
def bw (a b bo : Nat) : Nat := if a < b + bo then 1 else 0
theorem dw_lt (a b bo : Nat) : dw a b bo < 4294967296 := Nat.mod_lt _ (by omega)
theorem bw_le (a b bo : Nat) : bw a b bo ≤ 1 := by unfold bw; split <;> omega
theorem dw_bw {a b bo : Nat} (ha : a < 4294967296) (hb : b < 4294967296) (hbo : bo ≤ 1) : dw a b bo + b + bo = a + 4294967296 * bw a b bo := by
  unfold dw bw; split <;> omega
theorem sub_hi {a b bo : Nat} (ha : a < 4294967296) (hb : b < 4294967296) (hbo : bo ≤ 1) :
    IntKind.u64.wrap (IntKind.u64.wrap ((a : Int) - (b : Int)) - (bo : Int)) / 9223372036854775808 = ((bw a b bo : Nat) : Int) := by
  rw [IntKind.wrap_u64, IntKind.wrap_u64]; unfold bw; split <;> omega
theorem sub_lo {a b bo : Nat} (ha : a < 4294967296) (hb : b < 4294967296) (hbo : bo ≤ 1) :
    IntKind.u64.wrap (IntKind.u64.wrap ((a : Int) - (b : Int)) - (bo : Int)) % 4294967296 = ((dw a b bo : Nat) : Int) := by
  rw [IntKind.wrap_u64, IntKind.wrap_u64]; unfold dw; omega

def MinusRel (x y n k bo : Nat) (out : List Nat) : Prop :=
  out.length = n ∧ bo ≤ 1 ∧ val (out.take k) + val ((mag y).take k) = val ((mag x).take k) + (pw k * bo)

theorem MinusRel.step {x y n k bo : Nat} {out : List Nat} (h : MinusRel x y n k bo out) (hk : k < n) :
    MinusRel x y n (k + 1) (bw (gd (mag x) k) (gd (mag y) k) bo) (out.set k (dw (gd (mag x) k) (gd (mag y) k) bo)) := by
  obtain ⟨h1, h2, h3⟩ := h
  have e := dw_bw ((mag_wds x).getD k) ((mag_wds y).getD k) h2
  refine ⟨by rw [List.length_set, h1], bw_le _ _ _, ?_⟩
  rw [val_take_set _ _ _ (by omega), val_take_succ, val_take_succ, pw_succ]
  have e2 := congrArg (pw k * ·) e
  simp only [Nat.mul_add] at e2
  rw [← Nat.mul_assoc, Nat.mul_comm (pw k) 4294967296] at e2
  omega
theorem MinusRel.done {x y n bo : Nat} {out : List Nat} (h : MinusRel x y n n bo out) (hw : Wds out) (hx : (mag x).length = n) (hxy : y ≤ x) : val out = x - y := by
  obtain ⟨h1, h2, h3⟩ := h
  have hx2 := lt_pw_mag x
  rw [hx] at hx2
  have hy : (mag y).length ≤ n := mag_length_le (by omega)
  rw [val_take_all _ _ (by omega), val_take_all _ _ hy, val_take_all _ _ (by omega), val_mag, val_mag] at h3
  have ho := val_lt hw
  rw [h1] at ho
  rcases (show bo = 0 ∨ bo = 1 by omega) with rfl | rfl <;> omega

set_option maxHeartbeats 1000000 in
theorem minus_any (A B : Option Addr) (n m c d x y : Nat) (w : World) (ha : Wd w A n (mag x)) (hb : Wd w B m (mag y)) (hn : n ≤ 1000000000) (hm : m ≤ 1000000000) (hxy : y ≤ x) :
    Calls Try.prog 78 #[.slice A n c, .slice B m d] w (RetMg (x - y) w) := by
  have HA := Lib.hid ha
  have HB := Lib.hid hb
  clear ha hb
  go_enter Try.func78, Try.ntmps78
  go_wp2_with (first
    | (refine wpList_make_blk rfl _ _ _ rfl Try.underlying22 u32_info _ _ _ _ n rfl rfl rfl rfl (by omega) ?_
       intro w1 hb1 hs1 hbl1
       have HB1 := Lib.hid hb1
       have HS1 := Lib.hid hs1
       clear hb1 hs1))
  go_loopw [6, 14] (fun cy t wr => ∃ k bo : Nat, ∃ out, k ≤ n ∧ bo ≤ 1 ∧ cy = .int .u64 bo ∧ t = .int .i64 k ∧ MinusRel x y n k bo out ∧ Blk wr w.heap.size out ∧ Below w.heap.size w wr)
      (fun _ t _ => n - (intOf t).toNat)
  case atStart => exact ⟨0, 0, List.replicate n 0, Nat.zero_le _, by omega, rfl, rfl, ⟨by simp, by omega, by simp [val, pw_zero]⟩, HB1.out, hbl1⟩
  case round =>
    obtain ⟨k, bo, out, hk, hbo, rfl, rfl, hrel, hblk, hbl⟩ := hrel
    have HR := Lib.hid hrel
    have HBK := Lib.hid hblk
    clear hrel hblk
    by_cases hlt : k < n
    · have h1 := (mag_wds x).getD k
      have h2 := (mag_wds y).getD k
      obtain ⟨ad, rfl, _, hca⟩ := (HA.out.below hbl).cell hlt
      have i0 : (0 : Int) ≤ (k : Int) := by omega
      have i1 : (k : Int) < n := by omega
      have hcell := HBK.out.cell (i := k) (by rw [HR.out.1]; omega)
      have hfro := HBK.out.frozen k
      go_wp2
      go_quiet ((go_at_call 114; exact quiet_left (word_any B m d (mag y) k _ ((HB.out.below hbl).drewN _) (by omega) (by omega))))
      go_wp2
      go_roundw
      case rel => exact ⟨k + 1, _, _, by omega, bw_le _ _ _, by rw [sub_hi h1 h2 hbo], by go_num, HR.out.step hlt, (HBK.out.drewN _).set_i k _ (sub_lo h1 h2 hbo) (dw_lt _ _ _), Below.setCell (p := ⟨w.heap.size, k, none⟩) (below_drewN hbl _) (Nat.le_refl _) _⟩
      case measure => simp [intOf]; omega
    · obtain rfl : k = n := by omega
      have hd := Lib.hid (HR.out.done HBK.out.2 HA.out.len hxy)
      have hlen := Lib.hid HR.out.1
      go_wp2_with fail
      refine (trim_any _ k k out _ (by have := HBK.out.whole; rwa [hlen.out] at this) (by omega) (by omega)).mono ?_
      rintro e w' ⟨q, hq, rfl, ht, rfl⟩
      have HT := Lib.hid ht
      clear ht
      go_wp2
      go_ret
      have h1 := HBK.out.whole.mg (c := k) hq (by rw [hlen.out]; omega) (by omega) HT.out
      rw [hd.out] at h1
      exact ⟨_, rfl, h1, hbl⟩
end Go.Proofs.Ytpklphdhigkmmaa
