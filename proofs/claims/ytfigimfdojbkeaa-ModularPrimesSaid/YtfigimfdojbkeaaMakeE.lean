/-
  Contracts of clone, wordsOf and plus.
  Contracts of minus, addTimes and times.
  Contracts of addTimes and times.
  Contracts of divideByWord, shiftLeft and shiftRight.
  Contract of shiftRight.
-/
import Derived.Test.YtfigimfdojbkeaaLaws
import Derived.Laws.BitsAllLaws
set_option linter.unusedSimpArgs false
set_option linter.unusedVariables false
namespace Go.Proofs.Ytfigimfdojbkeaa
open Go.RowKit

theorem u32_info : (Try.prog.info? 43).map (fun i => (i.zero, i.size, i.bytes)) = some (some (.int .u32 0), 1, 4) := by kernel_rfl
theorem u32_size : (Try.prog.info? 43).map (·.size) = some 1 := by kernel_rfl

set_option maxHeartbeats 400000 in
theorem clone_any (A : Option Addr) (n c : Nat) (ws : List Nat) (w : World) (h : Wd w A n ws) (hn : n ≤ 1099511627776) :
    Calls Try.prog 102 #[.slice A n c] w fun e w' => e = .returned (.slice (some ⟨w.heap.size, 0, none⟩) n n) ∧ Blk w' w.heap.size ws ∧ Below w.heap.size w w' := by
  have H := Lib.hid h
  clear h
  go_enter Try.func102, Try.ntmps102
  go_wp2_with (first
    | (refine wpList_make_blk rfl _ _ _ rfl Try.underlying22 u32_info _ _ _ _ n rfl rfl rfl rfl (by omega) ?_
       intro w1 hb1 hs1 hbl1
       have HB1 := Lib.hid hb1
       have HS1 := Lib.hid hs1
       clear hb1 hs1)
    | (refine wpList_copy_blk rfl _ _ _ _ rfl Try.underlying22 u32_size w.heap.size 0 n n A n c rfl rfl _ ws HB1.out (H.out.below hbl1) (Nat.le_refl _) (by simp) w.heap.size w hbl1 (Nat.le_refl _) ?_
       intro w2 hb2 hbl2
       have HB2 := Lib.hid hb2
       clear hb2))
  go_ret
  refine ⟨rfl, ?_, hbl2⟩
  have := HB2.out
  rwa [splice_full _ _ (by rw [List.length_replicate, H.out.len])] at this

theorem val_two (a b : Nat) : val [a, b] = a + 4294967296 * b := by simp [val]

set_option maxHeartbeats 400000 in
theorem wordsOf_any (x : Nat) (w : World) (hx : x < 18446744073709551616) :
    Calls Try.prog 139 #[.int .u64 x] w (RetMg x w) := by
  go_enter Try.func139, Try.ntmps139
  go_wp2_with fail
  refine (trim_any _ 2 2 [x % 4294967296, x / 4294967296] _ (Blk.two (by omega) (by omega) (by omega) (by omega)).whole (by omega) (by omega)).mono ?_
  rintro e w' ⟨m, hm, rfl, ht, rfl⟩
  have HT := Lib.hid ht
  clear ht
  go_wp2
  go_ret
  have h0 := Blk.two (w := w) (a := x % 4294967296) (b := x / 4294967296) (i := (x : Int) % 4294967296) (j := (x : Int) / 4294967296) (by omega) (by omega) (by omega) (by omega)
  have h1 := h0.whole.mg (c := 2) hm (by simp) (by omega) HT.out
  rw [val_two, show x % 4294967296 + 4294967296 * (x / 4294967296) = x by omega] at h1
  exact ⟨_, rfl, h1, (Below.refl _ _).alloc (Nat.le_refl _) _⟩

def PlusRel (x y N k carry : Nat) (out : List Nat) : Prop :=
  out.length = N ∧ carry ≤ 1 ∧ val (out.take k) + pw k * carry = val ((mag x).take k) + val ((mag y).take k)

theorem PlusRel.step {x y N k carry : Nat} {out : List Nat} (h : PlusRel x y N k carry out) (hk : k < N) :
    PlusRel x y N (k + 1) ((carry + (gd (mag x) k + gd (mag y) k)) / 4294967296) (out.set k ((carry + (gd (mag x) k + gd (mag y) k)) % 4294967296)) := by
  obtain ⟨h1, h2, h3⟩ := h
  have ha := (mag_wds x).getD k
  have hb := (mag_wds y).getD k
  refine ⟨by rw [List.length_set, h1], by omega, ?_⟩
  rw [val_take_set _ _ _ (by omega), val_take_succ, val_take_succ, pw_succ]
  generalize hs : carry + (gd (mag x) k + gd (mag y) k) = s at *
  have e : pw k * (s % 4294967296) + 4294967296 * pw k * (s / 4294967296) = pw k * s := by
    rw [Nat.mul_comm 4294967296 (pw k), Nat.mul_assoc, ← Nat.mul_add]
    congr 1; omega
  have e2 : pw k * s = pw k * carry + (pw k * gd (mag x) k + pw k * gd (mag y) k) := by rw [← hs, Nat.mul_add, Nat.mul_add]
  omega

theorem PlusRel.done {x y N carry : Nat} {out : List Nat} (h : PlusRel x y N N carry out) (hx : (mag x).length + 1 ≤ N) (hy : (mag y).length + 1 ≤ N) : val out = x + y := by
  obtain ⟨h1, h2, h3⟩ := h
  rw [val_take_all _ _ (by omega), val_take_all _ _ (by omega), val_take_all _ _ (by omega), val_mag, val_mag] at h3
  obtain ⟨M, rfl⟩ : ∃ M, N = M + 1 := ⟨N - 1, by omega⟩
  have hx2 := lt_pw_mag x
  have hy2 := lt_pw_mag y
  have hx3 := pw_le (show (mag x).length ≤ M by omega)
  have hy3 := pw_le (show (mag y).length ≤ M by omega)
  have := pw_pos M
  rw [pw_succ] at h3
  have hc : carry = 0 := by
    rcases Nat.eq_zero_or_pos carry with e | e
    · exact e
    · have : 4294967296 * pw M * 1 ≤ 4294967296 * pw M * carry := Nat.mul_le_mul_left _ e
      omega
  subst hc
  omega

set_option maxHeartbeats 1000000 in
theorem plus_at (A B : Option Addr) (n m c d x y N : Nat) (w : World) (ha : Wd w A n (mag x)) (hb : Wd w B m (mag y)) (hn : n ≤ 1000000000) (hm : m ≤ 1000000000)
    (hN1 : n + 1 ≤ N) (hN2 : m + 1 ≤ N) (hN3 : N ≤ n + 1 ∨ N ≤ m + 1) :
    Calls Try.prog 96 #[.slice A n c, .slice B m d] w (RetMg (x + y) w) := by
  have HA := Lib.hid ha
  have HB := Lib.hid hb
  clear ha hb
  go_enter Try.func96, Try.ntmps96
  go_wp2_with (first
    | (refine wpList_make_blk rfl _ _ _ rfl Try.underlying22 u32_info _ _ _ _ N rfl rfl (by first | omega | (split <;> omega)) (by first | omega | (split <;> omega)) (by omega) ?_
       intro w1 hb1 hs1 hbl1
       have HB1 := Lib.hid hb1
       have HS1 := Lib.hid hs1
       clear hb1 hs1))
  all_goals
    go_loopw [6, 17] (fun cy t wr => ∃ k carry : Nat, ∃ out, k ≤ N ∧ carry ≤ 1 ∧ cy = .int .u64 carry ∧ t = .int .i64 k ∧ PlusRel x y N k carry out ∧ Blk wr w.heap.size out ∧ Below w.heap.size w wr ∧ Only w.heap.size w1 wr)
      (fun _ t _ => N - (intOf t).toNat)
    case atStart => exact ⟨0, 0, List.replicate N 0, Nat.zero_le _, by omega, rfl, rfl, ⟨by simp, by omega, by simp [val, pw_zero]⟩, HB1.out, hbl1, Only.refl _ _⟩
    case round =>
      obtain ⟨k, carry, out, hk, hcy, rfl, rfl, hrel, hblk, hbl, hon⟩ := hrel
      have HR := Lib.hid hrel
      have HBK := Lib.hid hblk
      clear hrel hblk
      by_cases hlt : k < N
      · have h1 := (mag_wds x).getD k
        have h2 := (mag_wds y).getD k
        have hcell := HBK.out.cell (i := k) (by rw [HR.out.1]; omega)
        have hfro := HBK.out.frozen k
        have hR2 := Lib.hid (HR.out.step hlt)
        go_wp2_with fail
        refine (word_any A n c (mag x) k _ (HA.out.below hbl) (by omega) (by omega)).mono ?_
        rintro e w' ⟨rfl, rfl⟩
        rw [Int.toNat_natCast]
        go_wp2_with fail
        refine (word_any B m d (mag y) k _ (HB.out.below hbl) (by omega) (by omega)).mono ?_
        rintro e w' ⟨rfl, rfl⟩
        rw [Int.toNat_natCast]
        go_wp2
        go_roundw
        case rel => exact ⟨k + 1, _, _, by omega, by omega, by go_num, by go_num, hR2.out, HBK.out.set_i k _ (by omega) (by omega), hbl.setCell (Nat.le_refl _) _, hon.set_ _ _⟩
        case measure => simp [intOf]; omega
      · obtain rfl : k = N := by omega
        have hd := Lib.hid (HR.out.done (by rw [HA.out.len]; omega) (by rw [HB.out.len]; omega))
        have hlen := Lib.hid HR.out.1
        go_wp2_with fail
        refine (trim_any _ k k out _ (by have := HBK.out.whole; rwa [hlen.out] at this) (by omega) (by omega)).mono ?_
        rintro e w' ⟨q, hq, rfl, ht, rfl⟩
        have HT := Lib.hid ht
        clear ht
        go_wp2
        go_ret
        have h1 := HBK.out.whole.mg (c := k) hq (by rw [hlen.out]; omega) (by omega) HT.out
        rw [hd.out] at h1
        exact ⟨_, rfl, h1, hbl⟩

theorem plus_any (A B : Option Addr) (n m c d x y : Nat) (w : World) (ha : Wd w A n (mag x)) (hb : Wd w B m (mag y)) (hn : n ≤ 1000000000) (hm : m ≤ 1000000000) :
    Calls Try.prog 96 #[.slice A n c, .slice B m d] w (RetMg (x + y) w) := by
  rcases Nat.le_total n m with h | h
  · exact plus_at A B n m c d x y (m + 1) w ha hb hn hm (by omega) (by omega) (.inr (by omega))
  · exact plus_at A B n m c d x y (n + 1) w ha hb hn hm (by omega) (by omega) (.inl (by omega))
end Go.Proofs.Ytfigimfdojbkeaa

namespace Go.Proofs.Ytfigimfdojbkeaa
open Go.RowKit

theorem below_drewN {B : Nat} {a w : World} (h : Below B a w) (n : Nat) : Below B a (w.drewN n) := ⟨h.os, h.tape, h.output, h.size, h.block⟩
theorem quiet_left {P : Program} {f : FuncId} {args : Array Value} {w : World} {n : Nat} {v : Value}
    (h : Calls P f args (w.drewN n) fun e w' => e = .returned v ∧ w.drewN n = w') : Calls P f args (w.drewN n) fun e w'' => e = .returned v ∧ ∃ m, w'' = w.drewN m :=
  h.mono fun _ _ ⟨he, hm⟩ => ⟨he, n, hm.symm⟩
theorem quiet_add_left {P : Program} {f : FuncId} {args : Array Value} {w : World} {a n : Nat} {v : Value}
    (h : Calls P f args (w.drewN (a + n)) fun e w' => e = .returned v ∧ w.drewN (a + n) = w') :
    Calls P f args (w.drewN (a + n)) fun e w'' => e = .returned v ∧ ∃ m, w'' = w.drewN (a + m) :=
  h.mono fun _ _ ⟨he, hm⟩ => ⟨he, n, hm.symm⟩

/-- A difference of words with a borrow: what is left, and the new borrow. -/
def dw (a b bo : Nat) : Nat := (a + 4294967296 - b - bo) % 4294967296
def bw (a b bo : Nat) : Nat := if a < b + bo then 1 else 0
theorem dw_lt (a b bo : Nat) : dw a b bo < 4294967296 := Nat.mod_lt _ (by omega)
theorem bw_le (a b bo : Nat) : bw a b bo ≤ 1 := by unfold bw; split <;> omega
theorem dw_bw {a b bo : Nat} (ha : a < 4294967296) (hb : b < 4294967296) (hbo : bo ≤ 1) : dw a b bo + b + bo = a + 4294967296 * bw a b bo := by
  unfold dw bw; split <;> omega
theorem sub_hi {a b bo : Nat} (ha : a < 4294967296) (hb : b < 4294967296) (hbo : bo ≤ 1) :
    IntKind.u64.wrap (IntKind.u64.wrap ((a : Int) - (b : Int)) - (bo : Int)) / 9223372036854775808 = ((bw a b bo : Nat) : Int) := by
  rw [IntKind.wrap_u64, IntKind.wrap_u64]; unfold bw; split <;> omega
theorem sub_lo {a b bo : Nat} (ha : a < 4294967296) (hb : b < 4294967296) (hbo : bo ≤ 1) :
    IntKind.u64.wrap (IntKind.u64.wrap ((a : Int) - (b : Int)) - (bo : Int)) % 4294967296 = ((dw a b bo : Nat) : Int) := by
  rw [IntKind.wrap_u64, IntKind.wrap_u64]; unfold dw; omega

def MinusRel (x y n k bo : Nat) (out : List Nat) : Prop :=
  out.length = n ∧ bo ≤ 1 ∧ val (out.take k) + val ((mag y).take k) = val ((mag x).take k) + (pw k * bo)

theorem MinusRel.step {x y n k bo : Nat} {out : List Nat} (h : MinusRel x y n k bo out) (hk : k < n) :
    MinusRel x y n (k + 1) (bw (gd (mag x) k) (gd (mag y) k) bo) (out.set k (dw (gd (mag x) k) (gd (mag y) k) bo)) := by
  obtain ⟨h1, h2, h3⟩ := h
  have e := dw_bw ((mag_wds x).getD k) ((mag_wds y).getD k) h2
  refine ⟨by rw [List.length_set, h1], bw_le _ _ _, ?_⟩
  rw [val_take_set _ _ _ (by omega), val_take_succ, val_take_succ, pw_succ]
  have e2 := congrArg (pw k * ·) e
  simp only [Nat.mul_add] at e2
  rw [← Nat.mul_assoc, Nat.mul_comm (pw k) 4294967296] at e2
  omega
theorem MinusRel.done {x y n bo : Nat} {out : List Nat} (h : MinusRel x y n n bo out) (hw : Wds out) (hx : (mag x).length = n) (hxy : y ≤ x) : val out = x - y := by
  obtain ⟨h1, h2, h3⟩ := h
  have hx2 := lt_pw_mag x
  rw [hx] at hx2
  have hy : (mag y).length ≤ n := mag_length_le (by omega)
  rw [val_take_all _ _ (by omega), val_take_all _ _ hy, val_take_all _ _ (by omega), val_mag, val_mag] at h3
  have ho := val_lt hw
  rw [h1] at ho
  rcases (show bo = 0 ∨ bo = 1 by omega) with rfl | rfl <;> omega

set_option maxHeartbeats 1000000 in
theorem minus_any (A B : Option Addr) (n m c d x y : Nat) (w : World) (ha : Wd w A n (mag x)) (hb : Wd w B m (mag y)) (hn : n ≤ 1000000000) (hm : m ≤ 1000000000) (hxy : y ≤ x) :
    Calls Try.prog 97 #[.slice A n c, .slice B m d] w (RetMg (x - y) w) := by
  have HA := Lib.hid ha
  have HB := Lib.hid hb
  clear ha hb
  go_enter Try.func97, Try.ntmps97
  go_wp2_with (first
    | (refine wpList_make_blk rfl _ _ _ rfl Try.underlying22 u32_info _ _ _ _ n rfl rfl rfl rfl (by omega) ?_
       intro w1 hb1 hs1 hbl1
       have HB1 := Lib.hid hb1
       have HS1 := Lib.hid hs1
       clear hb1 hs1))
  go_loopw [6, 14] (fun cy t wr => ∃ k bo : Nat, ∃ out, k ≤ n ∧ bo ≤ 1 ∧ cy = .int .u64 bo ∧ t = .int .i64 k ∧ MinusRel x y n k bo out ∧ Blk wr w.heap.size out ∧ Below w.heap.size w wr)
      (fun _ t _ => n - (intOf t).toNat)
  case atStart => exact ⟨0, 0, List.replicate n 0, Nat.zero_le _, by omega, rfl, rfl, ⟨by simp, by omega, by simp [val, pw_zero]⟩, HB1.out, hbl1⟩
  case round =>
    obtain ⟨k, bo, out, hk, hbo, rfl, rfl, hrel, hblk, hbl⟩ := hrel
    have HR := Lib.hid hrel
    have HBK := Lib.hid hblk
    clear hrel hblk
    by_cases hlt : k < n
    · have h1 := (mag_wds x).getD k
      have h2 := (mag_wds y).getD k
      obtain ⟨ad, rfl, _, hca⟩ := (HA.out.below hbl).cell hlt
      have i0 : (0 : Int) ≤ (k : Int) := by omega
      have i1 : (k : Int) < n := by omega
      have hcell := HBK.out.cell (i := k) (by rw [HR.out.1]; omega)
      have hfro := HBK.out.frozen k
      go_wp2
      go_quiet ((go_at_call 141; exact quiet_left (word_any B m d (mag y) k _ ((HB.out.below hbl).drewN _) (by omega) (by omega))))
      go_wp2
      go_roundw
      case rel => exact ⟨k + 1, _, _, by omega, bw_le _ _ _, by rw [sub_hi h1 h2 hbo], by go_num, HR.out.step hlt, (HBK.out.drewN _).set_i k _ (sub_lo h1 h2 hbo) (dw_lt _ _ _), Below.setCell (p := ⟨w.heap.size, k, none⟩) (below_drewN hbl _) (Nat.le_refl _) _⟩
      case measure => simp [intOf]; omega
    · obtain rfl : k = n := by omega
      have hd := Lib.hid (HR.out.done HBK.out.2 HA.out.len hxy)
      have hlen := Lib.hid HR.out.1
      go_wp2_with fail
      refine (trim_any _ k k out _ (by have := HBK.out.whole; rwa [hlen.out] at this) (by omega) (by omega)).mono ?_
      rintro e w' ⟨q, hq, rfl, ht, rfl⟩
      have HT := Lib.hid ht
      clear ht
      go_wp2
      go_ret
      have h1 := HBK.out.whole.mg (c := k) hq (by rw [hlen.out]; omega) (by omega) HT.out
      rw [hd.out] at h1
      exact ⟨_, rfl, h1, hbl⟩
end Go.Proofs.Ytfigimfdojbkeaa

namespace Go.Proofs.Ytfigimfdojbkeaa
open Go.RowKit

theorem gd_mid (p dn r : List Nat) (k : Nat) (h : dn.length = k) : gd (p ++ dn ++ r) (p.length + k) = gd r 0 := by
  rw [gd_eq, gd_eq, List.getElem?_append_right (by simp [h]), List.length_append, h, Nat.sub_self]
theorem set_mid (p dn r : List Nat) (x v k : Nat) (h : dn.length = k) : (p ++ dn ++ (x :: r)).set (p.length + k) v = p ++ (dn ++ [v]) ++ r := by
  rw [List.set_append_right _ _ (by simp [h]), List.length_append, h, Nat.sub_self]
  simp

/-- Words as they stand after k rounds: the new words, the old ones, and what lies behind. -/
structure AddRel (mid xs : List Nat) (n wd k carry : Nat) (dn rest : List Nat) : Prop where
  len : dn.length = k
  restlen : rest.length + k = n
  rest : rest = mid.drop k
  wds : Wds dn
  eq : val dn + pw k * carry = val (mid.take k) + val (xs.take k) * wd

theorem AddRel.step {mid xs : List Nat} {n wd k carry : Nat} {dn rest : List Nat} (h : AddRel mid xs n wd k carry dn rest) (hm : mid.length = n) (hk : k < n) :
    ∃ r, rest = gd mid k :: r ∧ AddRel mid xs n wd (k + 1) ((carry + (gd xs k * wd + gd mid k)) / 4294967296) (dn ++ [(carry + (gd xs k * wd + gd mid k)) % 4294967296]) r := by
  have e0 : mid.drop k = gd mid k :: mid.drop (k + 1) := by
    rw [List.drop_eq_getElem_cons (by omega), gd_eq, List.getElem?_eq_getElem (by omega)]; rfl
  refine ⟨mid.drop (k + 1), by rw [h.rest, e0], ⟨by rw [List.length_append, h.len]; rfl, ?_, rfl, h.wds.append (Wds.cons (Nat.mod_lt _ (by omega)) Wds.nil), ?_⟩⟩
  · rw [List.length_drop, hm]; omega
  · have e1 := h.eq
    rw [val_snoc, h.len, pw_succ, val_take_succ, val_take_succ]
    generalize hs : carry + (gd xs k * wd + gd mid k) = s at *
    have e2 : pw k * (s % 4294967296) + 4294967296 * pw k * (s / 4294967296) = pw k * s := by
      rw [Nat.mul_comm 4294967296 (pw k), Nat.mul_assoc, ← Nat.mul_add]
      congr 1; omega
    have e3 : pw k * s = pw k * carry + (pw k * (gd xs k * wd) + pw k * gd mid k) := by rw [← hs, Nat.mul_add, Nat.mul_add]
    have e4 : (val (xs.take k) + pw k * gd xs k) * wd = val (xs.take k) * wd + pw k * (gd xs k * wd) := by rw [Nat.add_mul, Nat.mul_assoc]
    omega

def RetAdd (g : Nat) (pre mid post xs : List Nat) (wd : Nat) (w : World) (e : Ending) (w' : World) : Prop :=
  ∃ (carry : Nat) (mid' : List Nat), e = .returned (.int .u32 carry) ∧ carry < 4294967296 ∧ mid'.length = mid.length ∧ Wds mid' ∧ val mid' + pw mid.length * carry = val mid + val xs * wd ∧
    Blk w' g (pre ++ mid' ++ post) ∧ Only g w w' ∧ w'.heap.size = w.heap.size

theorem only_drewN {g : Nat} {a w : World} (h : Only g a w) (n : Nat) : Only g a (w.drewN n) := ⟨h.os, h.tape, h.output, h.size, h.block⟩
theorem mul_bound {a b : Nat} (ha : a < 4294967296) (hb : b < 4294967296) : a * b ≤ 18446744065119617025 :=
  Nat.mul_le_mul (show a ≤ 4294967295 by omega) (show b ≤ 4294967295 by omega)

set_option maxHeartbeats 1000000 in
theorem addTimes_any (g o : Nat) (pre mid post : List Nat) (A : Option Addr) (n m c d wd : Nat) (xs : List Nat) (w : World) (hb : Blk w g (pre ++ mid ++ post)) (ho : pre.length = o) (hmid : mid.length = n)
    (ha : Wd w A n xs) (hne : ∀ ad, A = some ad → 0 < n → ad.block ≠ g) (hn : n ≤ 1000000000) (hnm : n ≤ m) (hm : m ≤ 1000000000) (hwd : wd < 4294967296) :
    Calls Try.prog 151 #[.slice (some ⟨g, o, none⟩) m c, .slice A n d, .int .u32 wd] w (RetAdd g pre mid post xs wd w) := by
  subst ho
  have HA := Lib.hid ha
  have HB := Lib.hid hb
  have HM := Lib.hid hmid
  have HN := Lib.hid hne
  clear ha hb hmid hne
  go_enter Try.func151, Try.ntmps151
  go_wp2
  go_loopw [7, 11] (fun cy t wr => ∃ k carry : Nat, ∃ dn rest, k ≤ n ∧ carry < 4294967296 ∧ cy = .int .u64 carry ∧ t = .int .i64 k ∧ AddRel mid xs n wd k carry dn rest ∧ Blk wr g (pre ++ dn ++ (rest ++ post)) ∧ Only g w wr ∧ wr.heap.size = w.heap.size)
      (fun _ t _ => n - (intOf t).toNat)
  case atStart => exact ⟨0, 0, [], mid, Nat.zero_le _, by omega, rfl, rfl, ⟨rfl, by simpa using HM.out, rfl, Wds.nil, by simp [val]⟩, by simpa using HB.out, Only.refl _ _, rfl⟩
  case round =>
    obtain ⟨k, carry, dn, rest, hk, hcy, rfl, rfl, hrel, hblk, hon, hsz⟩ := hrel
    have HBK := Lib.hid hblk
    have HSZ := Lib.hid hsz
    clear hblk hsz
    by_cases hlt : k < n
    · obtain ⟨r, hr, hstep⟩ := hrel.step HM.out hlt
      subst hr
      have HL := Lib.hid hrel.len
      have HST := Lib.hid hstep
      clear hrel hstep
      have h1 := HA.out.wds.getD k
      have hmul := mul_bound h1 hwd
      have hm0 : (0 : Int) ≤ (gd xs k : Int) * (wd : Int) := Int.mul_nonneg (Int.natCast_nonneg _) (Int.natCast_nonneg _)
      have hm1 : (gd xs k : Int) * (wd : Int) ≤ 18446744065119617025 := by rw [← Int.natCast_mul]; omega
      have i0 : (0 : Int) ≤ (k : Int) := by omega
      have i1 : (k : Int) < n := by omega
      have i2 : (k : Int) < m := by omega
      have hcell := HBK.out.cell (i := pre.length + k) (by simp [HL.out])
      rw [List.cons_append, gd_mid pre dn _ k HL.out, show gd (gd mid k :: (r ++ post)) 0 = gd mid k from rfl] at hcell
      have h2 : gd mid k < 4294967296 := HBK.out.2 _ (by simp)
      have hfro := HBK.out.frozen (pre.length + k)
      have HA2 := HA.out.only hon HN.out
      obtain ⟨ad, rfl, _, hca⟩ := HA2.cell hlt
      clear HA2
      go_wp2
      go_quiet (fail)
      go_wp2
      go_roundw
      case rel =>
        refine ⟨k + 1, (carry + (gd xs k * wd + gd mid k)) / 4294967296, _, r, by omega, by omega, by go_num, by go_num, HST.out, ?_, (Only.set_ (g := g) (only_drewN hon _) _ _), by simpa [World.setCell] using HSZ.out⟩
        have hset := (HBK.out.drewN (by assumption)).set_i (pre.length + k) ((carry + (gd xs k * wd + gd mid k)) % 4294967296) (j := ((carry : Int) + ((gd xs k : Int) * (wd : Int) + (gd mid k : Int))) % 4294967296) (by rw [Int.natCast_emod, Int.natCast_add, Int.natCast_add, Int.natCast_mul]; rfl) (Nat.mod_lt _ (by omega))
        rw [List.cons_append, set_mid pre dn (r ++ post) _ _ k HL.out] at hset
        exact hset
      case measure => simp [intOf]; omega
    · obtain rfl : k = n := by omega
      have HR := Lib.hid hrel
      clear hrel
      go_wp2
      go_ret
      have h1 := HR.out
      have h2 : rest = [] := List.eq_nil_of_length_eq_zero (by have := h1.restlen; omega)
      subst h2
      refine ⟨carry, dn, rfl, hcy, by rw [h1.len, HM.out], h1.wds, ?_, HBK.out, hon, HSZ.out⟩
      have h3 := h1.eq
      rw [val_take_all _ _ (by rw [HM.out]; omega), val_take_all _ _ (by rw [HA.out.len]; omega)] at h3
      rw [HM.out]
      exact h3

/-- The block of a product after i rounds. -/
structure TimesRel (x y n m i : Nat) (lo hi : List Nat) : Prop where
  len : lo.length = n + i
  hilen : hi.length + i = m
  zero : hi = List.replicate hi.length 0
  eq : val lo = x * val ((mag y).take i)

theorem TimesRel.step {x y n m i carry : Nat} {lo hi mid' : List Nat} (h : TimesRel x y n m i lo hi) (hx : (mag x).length = n) (hi2 : i < m)
    (hl : mid'.length = n) (he : val mid' + pw n * carry = val (lo.drop i) + val (mag x) * gd (mag y) i) :
    ∃ r, hi = 0 :: r ∧ TimesRel x y n m (i + 1) (lo.take i ++ mid' ++ [carry]) r := by
  have h1 := h.hilen
  have hz := h.zero
  obtain ⟨q, hq⟩ : ∃ q, hi.length = q + 1 := ⟨hi.length - 1, by omega⟩
  rw [hq, List.replicate_succ] at hz
  refine ⟨List.replicate q 0, hz, ⟨?_, by simp; omega, by simp, ?_⟩⟩
  · have := h.len
    simp [hl]; omega
  · have hlen := h.len
    have e1 : (lo.take i).length = i := by rw [List.length_take]; omega
    rw [val_snoc, val_append, List.length_append, e1, hl, val_take_succ]
    have e2 := val_append (lo.take i) (lo.drop i)
    rw [List.take_append_drop, e1, h.eq] at e2
    rw [val_mag] at he
    rw [pw_add, Nat.mul_add, Nat.mul_assoc]
    have e3 : pw i * val mid' + pw i * (pw n * carry) = pw i * val (lo.drop i) + pw i * (x * gd (mag y) i) := by rw [← Nat.mul_add, he, Nat.mul_add]
    have e4 : x * (pw i * gd (mag y) i) = pw i * (x * gd (mag y) i) := by rw [← Nat.mul_assoc, Nat.mul_comm x, Nat.mul_assoc]
    omega

set_option maxHeartbeats 1000000 in
theorem times_any (A B : Option Addr) (n m c d x y : Nat) (w : World) (ha : Wd w A n (mag x)) (hb : Wd w B m (mag y)) (hn : n ≤ 100000000) (hm : m ≤ 100000000) :
    Calls Try.prog 112 #[.slice A n c, .slice B m d] w (RetMg (x * y) w) := by
  have HA := Lib.hid ha
  have HB := Lib.hid hb
  have hfar : ∀ ad, A = some ad → 0 < n → ad.block ≠ w.heap.size := fun ad e h0 => by
    obtain ⟨ad', e', hlt, _⟩ := ha.2.2 h0
    rw [e] at e'; injection e' with e'
    rw [e']; omega
  have HF := Lib.hid hfar
  clear ha hb hfar
  go_enter Try.func112, Try.ntmps112
  go_wp2_with (first
    | (refine wpList_make_blk rfl _ _ _ rfl Try.underlying22 u32_info _ _ _ _ (n + m) rfl rfl (by omega) (by omega) (by omega) ?_
       intro w1 hb1 hs1 hbl1
       have HB1 := Lib.hid hb1
       have HS1 := Lib.hid hs1
       clear hb1 hs1))
  go_loopw [16] (fun t wr => ∃ i : Nat, ∃ lo hi, i ≤ m ∧ t = .int .i64 i ∧ TimesRel x y n m i lo hi ∧ Blk wr w.heap.size (lo ++ hi) ∧ Below w.heap.size w wr)
      (fun t _ => m - (intOf t).toNat)
  case atStart => exact ⟨0, List.replicate n 0, List.replicate m 0, Nat.zero_le _, rfl, ⟨by simp, by simp, by simp, by simp [val, val_replicate]⟩, by rw [List.replicate_append_replicate]; exact HB1.out, hbl1⟩
  case round =>
    obtain ⟨i, lo, hi, hi1, rfl, hrel, hblk, hbl⟩ := hrel
    have HR := Lib.hid hrel
    have HBK := Lib.hid hblk
    clear hrel hblk
    by_cases hlt : i < m
    · have h1 := (mag_wds y).getD i
      obtain ⟨bd, rfl, _, hcb⟩ := (HB.out.below hbl).cell hlt
      have hcap : ¬ (n + m = i) := by omega
      have hlen := HR.out.len
      have e1 : (lo.take i).length = i := by rw [List.length_take]; omega
      have e2 : (lo.drop i).length = n := by rw [List.length_drop]; omega
      have hb3 : Blk wr w.heap.size (lo.take i ++ lo.drop i ++ hi) := by rw [List.take_append_drop]; exact HBK.out
      have E1 := Lib.hid e1
      have E2 := Lib.hid e2
      have HB3 := Lib.hid hb3
      clear e1 e2 hlen hb3
      go_wp2_with fail
      refine (addTimes_any w.heap.size i (lo.take i) (lo.drop i) hi A n n _ c _ (mag x) wr HB3.out E1.out E2.out (HA.out.below hbl) HF.out (by omega) (Nat.le_refl _) (by omega) h1).mono ?_
      rintro e w2 ⟨carry, mid', rfl, hc, hml, hw, he, hb4, hon, hs2⟩
      rw [E2.out] at hml he
      obtain ⟨r, hr, hstep⟩ := HR.out.step HA.out.len hlt hml he
      subst hr
      have hpl : (lo.take i ++ mid').length = i + n := by rw [List.length_append, E1.out, hml]
      have hcell := hb4.cell (i := i + n) (by rw [List.length_append, hpl]; simp)
      have hg0 : gd (lo.take i ++ mid' ++ 0 :: r) (i + n) = 0 := by rw [gd_eq, List.getElem?_append_right (by omega), hpl, Nat.sub_self]; rfl
      rw [hg0] at hcell
      have hfro := hb4.frozen (i + n)
      have HBF : Hid (Blk (w2.setCell ⟨w.heap.size, i + n, none⟩ (.int .u32 (carry : Nat))) w.heap.size (lo.take i ++ mid' ++ [carry] ++ r)) := by
        have := hb4.set_ (i + n) carry hc
        rw [List.set_append_right _ _ (by omega), hpl, Nat.sub_self] at this
        simpa [Hid] using this
      have HST := Lib.hid hstep
      have hbl2 : Below w.heap.size w w2 := hbl.trans (hon.below (Nat.le_refl _) hbl.size)
      have HE := Lib.hid hs2
      clear hb4 he hml hpl hstep hg0 hw hs2
      go_wp2
      go_roundw
      case rel => exact ⟨i + 1, _, r, by omega, by go_num, HST.out, HBF.out, hbl2.setCell (Nat.le_refl _) _⟩
      case measure => simp [intOf]; omega
    · obtain rfl : i = m := by omega
      have hz : hi = [] := List.eq_nil_of_length_eq_zero (by have := HR.out.hilen; omega)
      subst hz
      have hv : Hid (val lo = x * y) := by
        have := HR.out.eq
        rwa [val_take_all _ _ (by rw [HB.out.len]; omega), val_mag] at this
      have hlen := Lib.hid HR.out.len
      have HBL : Hid (Blk wr w.heap.size lo) := by have := HBK.out; rwa [List.append_nil] at this
      go_wp2_with fail
      refine (trim_any _ (n + i) (n + i) lo _ (by have := HBL.out.whole; rwa [hlen.out] at this) (by omega) (by omega)).mono ?_
      rintro e w' ⟨q, hq, rfl, ht, rfl⟩
      have HT := Lib.hid ht
      clear ht
      go_wp2
      go_ret
      have h1 := HBL.out.whole.mg (c := n + i) hq (by rw [hlen.out]; omega) (by omega) HT.out
      rw [hv.out] at h1
      exact ⟨_, rfl, h1, hbl⟩
end Go.Proofs.Ytfigimfdojbkeaa

namespace Go.Proofs.Ytfigimfdojbkeaa
open Go.RowKit

structure DbwRel (mid : List Nat) (n d i r : Nat) (q : List Nat) : Prop where
  len : q.length = i
  wds : Wds q
  lt : r < d
  eq : d * val q + r = val (mid.drop (n - i))

theorem DbwRel.step {mid : List Nat} {n d i r : Nat} {q : List Nat} (h : DbwRel mid n d i r q) (hm : mid.length = n) (hi : i < n) (hw : Wds mid) :
    (gd mid (n - 1 - i) + 4294967296 * r) / d < 4294967296 ∧ DbwRel mid n d (i + 1) ((gd mid (n - 1 - i) + 4294967296 * r) % d) ((gd mid (n - 1 - i) + 4294967296 * r) / d :: q) := by
  have h1 := hw.getD (n - 1 - i)
  have hlt := h.lt
  have h2 : (gd mid (n - 1 - i) + 4294967296 * r) / d < 4294967296 := by
    rw [Nat.div_lt_iff_lt_mul (by omega)]
    have : 4294967296 * (r + 1) ≤ 4294967296 * d := Nat.mul_le_mul_left _ hlt
    omega
  refine ⟨h2, ⟨by rw [List.length_cons, h.len], Wds.cons h2 h.wds, Nat.mod_lt _ (by omega), ?_⟩⟩
  have e : mid.drop (n - (i + 1)) = gd mid (n - 1 - i) :: mid.drop (n - i) := by
    rw [show n - (i + 1) = n - 1 - i by omega, List.drop_eq_getElem_cons (by omega), gd_eq, List.getElem?_eq_getElem (by omega), show n - 1 - i + 1 = n - i by omega]; rfl
  rw [e, val, val, ← h.eq]
  have e2 := Nat.div_add_mod (gd mid (n - 1 - i) + 4294967296 * r) d
  rw [Nat.mul_add]
  have e3 : d * (4294967296 * val q) = 4294967296 * (d * val q) := by rw [← Nat.mul_assoc, Nat.mul_comm d, Nat.mul_assoc]
  omega

def RetDbw (g : Nat) (mid post : List Nat) (d : Nat) (w : World) (e : Ending) (w' : World) : Prop :=
  ∃ q : List Nat, e = .returned (.int .u32 (val mid % d : Nat)) ∧ q.length = mid.length ∧ val q = val mid / d ∧ Blk w' g (q ++ post) ∧ Only g w w' ∧ w'.heap.size = w.heap.size

set_option maxHeartbeats 1000000 in
theorem divideByWord_any (g n c d : Nat) (mid post : List Nat) (w : World) (hb : Blk w g (mid ++ post)) (hmid : mid.length = n) (hn : n ≤ 1000000000) (hd0 : 0 < d) (hd : d < 4294967296) :
    Calls Try.prog 135 #[.slice (some ⟨g, 0, none⟩) n c, .int .u32 d] w (RetDbw g mid post d w) := by
  have HB := Lib.hid hb
  have HM := Lib.hid hmid
  clear hb hmid
  go_enter Try.func135, Try.ntmps135
  go_wp2
  go_loopw [5, 10] (fun cy t wr => ∃ i r : Nat, ∃ q, i ≤ n ∧ r < d ∧ cy = .int .u64 r ∧ t = .int .i64 i ∧ DbwRel mid n d i r q ∧ Blk wr g (mid.take (n - i) ++ q ++ post) ∧ Only g w wr ∧ wr.heap.size = w.heap.size)
      (fun _ t _ => n - (intOf t).toNat)
  case atStart => exact ⟨0, 0, [], Nat.zero_le _, hd0, rfl, rfl, ⟨rfl, Wds.nil, hd0, by rw [Nat.sub_zero, List.drop_of_length_le (by rw [HM.out]; omega)]; rfl⟩, by rw [Nat.sub_zero, ← HM.out, List.take_length, List.append_nil]; exact HB.out, Only.refl _ _, rfl⟩
  case round =>
    obtain ⟨i, r, q, hi, hr, rfl, rfl, hrel, hblk, hon, hsz⟩ := hrel
    have HBK := Lib.hid hblk
    have HSZ := Lib.hid hsz
    have HR := Lib.hid hrel
    clear hblk hsz hrel
    by_cases hlt : i < n
    · obtain ⟨hq, hstep⟩ := HR.out.step HM.out hlt HB.out.2.left
      have HST := Lib.hid hstep
      clear hstep
      have h1 : gd mid (n - 1 - i) < 4294967296 := HB.out.2.left.getD _
      have hsplit : mid.take (n - i) = mid.take (n - 1 - i) ++ [gd mid (n - 1 - i)] := by
        rw [show n - i = (n - 1 - i) + 1 by omega, take_snoc _ _ (by rw [HM.out]; omega)]
      have hpl : (mid.take (n - 1 - i)).length = n - 1 - i := by rw [List.length_take, HM.out]; omega
      have hcell := HBK.out.cell (i := n - 1 - i) (by rw [hsplit, List.length_append, List.length_append, List.length_append, hpl, List.length_singleton]; omega)
      have hg : gd (mid.take (n - i) ++ q ++ post) (n - 1 - i) = gd mid (n - 1 - i) := by
        rw [hsplit, gd_eq, List.append_assoc, List.append_assoc, List.getElem?_append_right (by omega), hpl, Nat.sub_self]; rfl
      rw [hg] at hcell
      have hfro := HBK.out.frozen (n - 1 - i)
      have hset : ∀ v : Nat, (mid.take (n - i) ++ q ++ post).set (n - 1 - i) v = mid.take (n - (i + 1)) ++ (v :: q) ++ post := by
        intro v
        rw [hsplit, List.append_assoc, List.append_assoc, List.set_append_right _ _ (by omega), hpl, Nat.sub_self, show n - (i + 1) = n - 1 - i by omega]
        simp
      have HSET := Lib.hid hset
      have hor := or_high (gd mid (n - 1 - i)) r h1 (by omega)
      clear hset hsplit hpl hg
      generalize hcur : gd mid (n - 1 - i) + 4294967296 * r = cur at *
      have hcur2 : (cur : Int) ≤ 18446744073709551615 := by omega
      have hcur3 : (cur : Int) / (d : Int) ≤ 4294967295 := by
        have h := Int.ofNat_le.2 (Nat.le_of_lt_succ hq)
        exact h
      have hcur4 : (0 : Int) ≤ (cur : Int) / (d : Int) := Int.ediv_nonneg (by omega) (by omega)
      have HC := Lib.hid hcur
      clear hcur
      go_wp2
      go_roundw
      case rel =>
        refine ⟨i + 1, cur % d, _, by omega, Nat.mod_lt _ hd0, rfl, by go_num, HST.out, ?_, hon.set_ _ _, by simpa [World.setCell] using HSZ.out⟩
        have hs := HBK.out.set_i (n - 1 - i) (cur / d) (j := (cur : Int) / (d : Int)) rfl hq
        rw [HSET.out] at hs
        exact hs
      case measure => simp [intOf]; omega
    · obtain rfl : i = n := by omega
      have hv : Hid (val mid % d = r ∧ val q = val mid / d) := by
        have := HR.out.eq
        rw [Nat.sub_self, List.drop_zero] at this
        rw [← this]
        refine ⟨by rw [Nat.mul_add_mod, Nat.mod_eq_of_lt hr], ?_⟩
        rw [Nat.mul_add_div hd0, Nat.div_eq_of_lt hr, Nat.add_zero]
      go_wp2
      go_ret
      refine ⟨q, ret_int (by rw [hv.out.1]), by rw [HR.out.len, HM.out], hv.out.2, ?_, hon, HSZ.out⟩
      have := HBK.out
      rwa [Nat.sub_self, List.take_zero, List.nil_append] at this

/-- The block of a number shifted left. -/
structure ShlRel (x n q b i top : Nat) (lo hi : List Nat) : Prop where
  len : lo.length = q + i
  hilen : hi.length + i = n
  zero : hi = List.replicate hi.length 0
  tlt : top < 2 ^ b
  eq : val lo + pw (q + i) * top = pw q * (2 ^ b * val ((mag x).take i))

theorem shl_word {w b : Nat} (hw : w < 4294967296) (hb : b < 32) : w * 2 ^ b < 9223372036854775808 ∧ w * 2 ^ b / 4294967296 < 2 ^ b := by
  have h1 : w * 2 ^ b < 4294967296 * 2 ^ b := Nat.mul_lt_mul_of_pos_right hw (Nat.pow_pos (by omega))
  have h2 : 2 ^ b ≤ 2 ^ 31 := Nat.pow_le_pow_right (by omega) (by omega)
  refine ⟨by omega, ?_⟩
  rw [Nat.div_lt_iff_lt_mul (by omega), Nat.mul_comm (2 ^ b)]
  exact h1
theorem shl_or {w b top : Nat} (hb : b < 32) (ht : top < 2 ^ b) :
    top + w * 2 ^ b % 4294967296 < 4294967296 ∧ bits .or .u32 (top : Int) ((w * 2 ^ b : Nat) % 4294967296 : Int) = ((top + w * 2 ^ b % 4294967296 : Nat) : Int) := by
  have e : 4294967296 = 2 ^ b * 2 ^ (32 - b) := by rw [← Nat.pow_add, show b + (32 - b) = 32 by omega]
  have e2 : w * 2 ^ b % 4294967296 = 2 ^ b * (w % 2 ^ (32 - b)) := by
    rw [e, Nat.mul_comm w, Nat.mul_mod_mul_left]
  have h3 : w % 2 ^ (32 - b) < 2 ^ (32 - b) := Nat.mod_lt _ (Nat.pow_pos (by omega))
  have h4 : 2 ^ b * (w % 2 ^ (32 - b) + 1) ≤ 2 ^ b * 2 ^ (32 - b) := Nat.mul_le_mul_left _ h3
  rw [← e, Nat.mul_add] at h4
  have h5 : top + w * 2 ^ b % 4294967296 < 4294967296 := by omega
  refine ⟨h5, ?_⟩
  have e3 : ((w * 2 ^ b : Nat) % 4294967296 : Int) = ((w * 2 ^ b % 4294967296 : Nat) : Int) := by rw [Int.natCast_emod]; rfl
  rw [e3, u32_or_nat _ _ (by omega) (by omega), e2, Nat.or_comm, ← Nat.two_pow_add_eq_or_of_lt ht]
  omega

theorem ShlRel.step {x n q b i top : Nat} {lo hi : List Nat} (h : ShlRel x n q b i top lo hi) (hi2 : i < n) (hb : b < 32) :
    ∃ r, hi = 0 :: r ∧ ShlRel x n q b (i + 1) (gd (mag x) i * 2 ^ b / 4294967296) (lo ++ [top + gd (mag x) i * 2 ^ b % 4294967296]) r := by
  have h1 := h.hilen
  have hz := h.zero
  obtain ⟨p, hp⟩ : ∃ p, hi.length = p + 1 := ⟨hi.length - 1, by omega⟩
  rw [hp, List.replicate_succ] at hz
  refine ⟨List.replicate p 0, hz, ⟨by rw [List.length_append, h.len]; rfl, by simp; omega, by simp, (shl_word ((mag_wds x).getD i) hb).2, ?_⟩⟩
  have e1 := h.eq
  rw [val_snoc, h.len, ← Nat.add_assoc, pw_succ, val_take_succ]
  generalize hv : gd (mag x) i * 2 ^ b = t
  have e2 : pw (q + i) * (top + t % 4294967296) + 4294967296 * pw (q + i) * (t / 4294967296) = pw (q + i) * top + pw (q + i) * t := by
    rw [Nat.mul_comm 4294967296 (pw (q + i)), Nat.mul_assoc, ← Nat.mul_add, ← Nat.mul_add]
    congr 1; omega
  have e3 : pw (q + i) * t = pw q * (2 ^ b * (pw i * gd (mag x) i)) := by
    rw [← hv, pw_add, Nat.mul_assoc, Nat.mul_left_comm (2 ^ b), Nat.mul_comm (2 ^ b) (gd (mag x) i)]
  have e4 : pw q * (2 ^ b * (val ((mag x).take i) + pw i * gd (mag x) i)) = pw q * (2 ^ b * val ((mag x).take i)) + pw q * (2 ^ b * (pw i * gd (mag x) i)) := by rw [Nat.mul_add, Nat.mul_add]
  rw [e4]
  omega

theorem pw_two (q : Nat) : pw q = 2 ^ (32 * q) := by unfold pw; rw [Nat.pow_mul]

set_option maxHeartbeats 1000000 in
theorem shiftLeft_any (A : Option Addr) (n c x s : Nat) (z : Int) (w : World) (ha : Wd w A n (mag x)) (hn : n ≤ 100000000) (hs : s ≤ 100000000) (hz : z = s) :
    Calls Try.prog 155 #[.slice A n c, .int .i64 z] w (RetMg (x * 2 ^ s) w) := by
  have HA := Lib.hid ha
  clear ha
  obtain ⟨q, b, hb, rfl⟩ : ∃ q b, b < 32 ∧ s = 32 * q + b := ⟨s / 32, s % 32, by omega, by omega⟩
  have hz0 : 0 ≤ z := by omega
  have hz1 : z / 32 = (q : Int) := by omega
  have hz2 : z % 32 = (b : Int) := by omega
  have hmn : min b 64 = b := by omega
  have HZ := Lib.hid hz
  clear hz
  go_enter Try.func155, Try.ntmps155
  go_wp2_with (first
    | (refine wpList_make_blk rfl _ _ _ rfl Try.underlying22 u32_info _ _ _ _ (n + q + 1) rfl rfl (by omega) (by omega) (by omega) ?_
       intro w1 hb1 hs1 hbl1
       have HB1 := Lib.hid hb1
       have HS1 := Lib.hid hs1
       clear hb1 hs1))
  go_loopw [23] (fun t wr => ∃ i top : Nat, ∃ lo hi, i ≤ n ∧ t = .int .i64 i ∧ ShlRel x n q b i top lo hi ∧ Blk wr w.heap.size (lo ++ top :: hi) ∧ Below w.heap.size w wr)
      (fun t _ => n - (intOf t).toNat)
  case atStart => exact ⟨0, 0, List.replicate q 0, List.replicate n 0, Nat.zero_le _, rfl, ⟨by simp, by simp, by simp, Nat.pow_pos (by omega), by simp [val, val_replicate]⟩, by have := HB1.out; rw [show n + q + 1 = q + (n + 1) by omega, ← List.replicate_append_replicate, List.replicate_succ] at this; exact this, hbl1⟩
  case round =>
    obtain ⟨i, top, lo, hi, hi1, rfl, hrel, hblk, hbl⟩ := hrel
    have HR := Lib.hid hrel
    have HBK := Lib.hid hblk
    clear hrel hblk
    by_cases hlt : i < n
    · obtain ⟨ad, rfl, _, hca⟩ := (HA.out.below hbl).cell hlt
      have h1 := (mag_wds x).getD i
      have h2 := shl_word h1 hb
      obtain ⟨h3, hor⟩ := shl_or (w := gd (mag x) i) hb HR.out.tlt
      obtain ⟨r, hr, hstep⟩ := HR.out.step hlt hb
      subst hr
      have HST := Lib.hid hstep
      have hpl : lo.length = i + q := by rw [HR.out.len]; omega
      have hlen : (lo ++ top :: 0 :: r).length = n + q + 1 := by have := HR.out.hilen; simp [hpl] at this ⊢; omega
      have hcell := HBK.out.cell (i := i + q) (by omega)
      have hg : gd (lo ++ top :: 0 :: r) (i + q) = top := by rw [gd_eq, List.getElem?_append_right (by omega), hpl, Nat.sub_self]; rfl
      rw [hg] at hcell
      have hfro := HBK.out.frozen (i + q)
      have hcell2 := HBK.out.cell (i := i + q + 1) (by omega)
      have hg2 : gd (lo ++ top :: 0 :: r) (i + q + 1) = 0 := by rw [gd_eq, List.getElem?_append_right (by omega), hpl, show i + q + 1 - (i + q) = 1 by omega]; rfl
      rw [hg2] at hcell2
      have hfro2 := HBK.out.frozen (i + q + 1)
      have ht : (gd (mag x) i : Int) * 2 ^ b = ((gd (mag x) i * 2 ^ b : Nat) : Int) := by simp
      generalize hv : gd (mag x) i * 2 ^ b = t at *
      obtain ⟨h2, h4⟩ := h2
      have HV := Lib.hid hv
      have HPL := Lib.hid hpl
      have HLEN := Lib.hid hlen
      clear hstep hpl hlen hg hg2 hv
      go_wp2
      go_roundw
      case rel =>
        refine ⟨i + 1, t / 4294967296, lo ++ [top + t % 4294967296], r, by omega, by go_num, HST.out, ?_, (hbl.setCell (Nat.le_refl _) _).setCell (Nat.le_refl _) _⟩
        have hs := (HBK.out.set_i (i + q) (top + t % 4294967296) (j := ((top + t % 4294967296 : Nat) : Int)) rfl h3).set_i (i + q + 1) (t / 4294967296) (j := (t : Int) / 4294967296) rfl (by omega)
        rw [List.set_append_right _ _ (by rw [HPL.out]; omega), HPL.out, Nat.sub_self, List.set_cons_zero, List.set_append_right _ _ (by rw [HPL.out]; omega), HPL.out, show i + q + 1 - (i + q) = 1 by omega] at hs
        simpa using hs
      case measure => simp [intOf]; omega
    · obtain rfl : i = n := by omega
      have hz : hi = [] := List.eq_nil_of_length_eq_zero (by have := HR.out.hilen; omega)
      subst hz
      have hv : Hid (val (lo ++ [top]) = x * 2 ^ (32 * q + b)) := by
        have := HR.out.eq
        rw [val_take_all _ _ (by rw [HA.out.len]; omega), val_mag] at this
        unfold Hid
        rw [val_snoc, HR.out.len, this, Nat.pow_add, pw_two, ← Nat.mul_assoc, Nat.mul_comm]
      have hlen : Hid ((lo ++ [top]).length = i + q + 1) := by unfold Hid; rw [List.length_append, HR.out.len]; simp; omega
      go_wp2_with fail
      refine (trim_any _ (i + q + 1) (i + q + 1) (lo ++ [top]) _ (by have := HBK.out.whole; rwa [hlen.out] at this) (by omega) (by omega)).mono ?_
      rintro e w' ⟨p, hp, rfl, ht, rfl⟩
      have HT := Lib.hid ht
      clear ht
      go_wp2
      go_ret
      have h1 := HBK.out.whole.mg (c := i + q + 1) hp (by rw [hlen.out]; omega) (by omega) HT.out
      rw [hv.out] at h1
      exact ⟨_, rfl, h1, hbl⟩

end Go.Proofs.Ytfigimfdojbkeaa

namespace Go.Proofs.Ytfigimfdojbkeaa
open Go.RowKit

theorem val_drop {a : List Nat} (h : Wds a) (k : Nat) : val (a.drop k) = val a / pw k := by
  rcases Nat.lt_or_ge k a.length with hl | hl
  · have h1 := val_append (a.take k) (a.drop k)
    rw [List.take_append_drop, List.length_take, Nat.min_eq_left (Nat.le_of_lt hl)] at h1
    have h2 := val_take_lt h k
    rw [h1, Nat.add_comm, Nat.mul_add_div (pw_pos k), Nat.div_eq_of_lt h2]; omega
  · rw [List.drop_of_length_le hl]
    have h1 := val_lt h
    have h2 := pw_le hl
    rw [Nat.div_eq_of_lt (by omega)]; rfl

theorem val_front (a : List Nat) : val a = gd a 0 + 4294967296 * gd a 1 + 4294967296 * 4294967296 * val (a.drop 2) := by
  match a with
  | [] => rfl
  | [x] => simp [val, gd]
  | x :: y :: r => simp [val, gd]; omega

theorem shr_word (a : List Nat) {b : Nat} (hb : b < 32) : val a / 2 ^ b % 4294967296 = (gd a 0 + 4294967296 * gd a 1) / 2 ^ b % 4294967296 := by
  have e : 4294967296 = 2 ^ b * 2 ^ (32 - b) := by rw [← Nat.pow_add, show b + (32 - b) = 32 by omega]
  have e2 : 4294967296 * 4294967296 * val (a.drop 2) = 2 ^ b * (4294967296 * (2 ^ (32 - b) * val (a.drop 2))) := by
    rw [Nat.mul_left_comm (2 ^ b), ← Nat.mul_assoc (2 ^ b), ← e, ← Nat.mul_assoc]
  rw [val_front a, e2, Nat.add_mul_div_left _ _ (Nat.pow_pos (by omega)), Nat.add_mul_mod_self_left]

/-- The block of a number shifted right. -/
structure ShrRel (ws : List Nat) (q b n i : Nat) (lo hi : List Nat) : Prop where
  len : lo.length = i
  hilen : hi.length + i = n
  eq : val lo = val ws / pw q / 2 ^ b % pw i

theorem mod_pw_succ (y i : Nat) : y % pw (i + 1) = y % pw i + pw i * (y / pw i % 4294967296) := by
  rw [pw_succ, Nat.mul_comm 4294967296, Nat.mod_mul]

theorem ShrRel.step {ws : List Nat} {q b n i : Nat} {lo hi : List Nat} (hw : Wds ws) (h : ShrRel ws q b n i lo hi) (hi2 : i < n) (hb : b < 32) :
    ∃ u r, hi = u :: r ∧ ShrRel ws q b n (i + 1) (lo ++ [(gd ws (i + q) + 4294967296 * gd ws (i + q + 1)) / 2 ^ b % 4294967296]) r := by
  have h1 := h.hilen
  cases hi with
  | nil => simp at h1; omega
  | cons u r =>
    refine ⟨u, r, rfl, ⟨by rw [List.length_append, h.len]; rfl, by simp at h1; omega, ?_⟩⟩
    rw [val_snoc, h.len, h.eq, mod_pw_succ]
    congr 2
    have e1 : gd ws (i + q) = gd (ws.drop (i + q)) 0 := by rw [gd_eq, gd_eq, List.getElem?_drop, Nat.add_zero]
    have e2 : gd ws (i + q + 1) = gd (ws.drop (i + q)) 1 := by rw [gd_eq, gd_eq, List.getElem?_drop]
    rw [e1, e2, ← shr_word _ hb, val_drop hw, Nat.div_div_eq_div_mul, Nat.div_div_eq_div_mul, Nat.div_div_eq_div_mul, Nat.add_comm i q, pw_add]
    congr 2
    rw [Nat.mul_assoc, Nat.mul_comm (2 ^ b)]

set_option maxHeartbeats 1000000 in
theorem shiftRight_any (A : Option Addr) (n c s : Nat) (ws : List Nat) (z : Int) (w : World) (ha : Wd w A n ws) (hn : n ≤ 100000000) (hs : s ≤ 100000000) (hz : z = s) :
    Calls Try.prog 153 #[.slice A n c, .int .i64 z] w (RetMg (val ws / 2 ^ s) w) := by
  have HA := Lib.hid ha
  clear ha
  obtain ⟨q, b, hb, rfl⟩ : ∃ q b, b < 32 ∧ s = 32 * q + b := ⟨s / 32, s % 32, by omega, by omega⟩
  have hz0 : 0 ≤ z := by omega
  have hz1 : z / 32 = (q : Int) := by omega
  have hz2 : z % 32 = (b : Int) := by omega
  have hmn : min b 64 = b := by omega
  have HZ := Lib.hid hz
  clear hz
  have hfin : Hid (val ws / pw q / 2 ^ b = val ws / 2 ^ (32 * q + b)) := by
    unfold Hid
    rw [pw_two, Nat.div_div_eq_div_mul, ← Nat.pow_add]
  by_cases hqn : n ≤ q
  · have h0 : Hid (val ws / 2 ^ (32 * q + b) = 0) := by
      unfold Hid
      rw [← hfin.out]
      have h1 := val_lt HA.out.wds
      rw [HA.out.len] at h1
      have h2 := pw_le hqn
      have h3 : val ws / pw q = 0 := Nat.div_eq_of_lt (Nat.lt_of_lt_of_le h1 h2)
      rw [h3, Nat.zero_div]
    go_enter Try.func153, Try.ntmps153
    go_wp2
    go_ret
    exact ⟨_, rfl, ⟨none, 0, 0, rfl, Nat.le_refl _, by omega, by rw [h0.out, mag_zero]; exact Wd.nil _ _⟩, Below.refl _ _⟩
  · obtain ⟨N, hN⟩ : ∃ N, n = q + N := ⟨n - q, by omega⟩
    subst hN
    go_enter Try.func153, Try.ntmps153
    go_wp2_with (first
      | (refine wpList_make_blk rfl _ _ _ rfl Try.underlying22 u32_info _ _ _ _ N rfl rfl (by omega) (by omega) (by omega) ?_
         intro w1 hb1 hs1 hbl1
         have HB1 := Lib.hid hb1
         have HS1 := Lib.hid hs1
         clear hb1 hs1))
    go_loopw [25] (fun t wr => ∃ i : Nat, ∃ lo hi, i ≤ N ∧ t = .int .i64 i ∧ ShrRel ws q b N i lo hi ∧ Blk wr w.heap.size (lo ++ hi) ∧ Below w.heap.size w wr)
        (fun t _ => N - (intOf t).toNat)
    case atStart => exact ⟨0, [], List.replicate N 0, Nat.zero_le _, rfl, ⟨rfl, by simp, by rw [pw_zero, Nat.mod_one]; rfl⟩, HB1.out, hbl1⟩
    case round =>
      obtain ⟨i, lo, hi, hi1, rfl, hrel, hblk, hbl⟩ := hrel
      have HR := Lib.hid hrel
      have HBK := Lib.hid hblk
      clear hrel hblk
      by_cases hlt : i < N
      · obtain ⟨ad, rfl, _, hca⟩ := (HA.out.below hbl).cell (show i + q < q + N by omega)
        have h1 := HA.out.wds.getD (i + q)
        have h2 := HA.out.wds.getD (i + q + 1)
        obtain ⟨u, r, hr, hstep⟩ := HR.out.step HA.out.wds hlt hb
        subst hr
        have HST := Lib.hid hstep
        have hpl : lo.length = i := HR.out.len
        have hcell := HBK.out.cell (i := i) (by simp [hpl])
        have hfro := HBK.out.frozen i
        have hor := or_low _ _ h1 h2
        have i0 : (0 : Int) ≤ (i : Int) + q := by omega
        have i1 : (i : Int) + q < q + N := by omega
        generalize ht : gd ws (i + q) + 4294967296 * gd ws (i + q + 1) = t at *
        have HT := Lib.hid ht
        have HPL := Lib.hid hpl
        have ht0 : t < 18446744073709551616 := by omega
        have ht1 : t / 2 ^ b < 18446744073709551616 := Nat.lt_of_le_of_lt (Nat.div_le_self _ _) ht0
        have hdiv : (t : Int) / 2 ^ b = ((t / 2 ^ b : Nat) : Int) := by simp
        generalize hv : t / 2 ^ b = v at *
        have HV := Lib.hid hv
        clear ht hpl hstep hv
        go_wp2
        go_quiet ((go_at_call 141; exact quiet_left (word_any _ _ c ws (i + q + 1 : Int) _ ((HA.out.below hbl).drewN _) (by omega) (by omega))))
        go_wp2
        go_roundw
        case rel =>
          refine ⟨i + 1, lo ++ [v % 4294967296], r, by omega, by go_num, HST.out, ?_, Below.setCell (p := ⟨w.heap.size, i, none⟩) (below_drewN hbl _) (Nat.le_refl _) _⟩
          have hs := (HBK.out.drewN (by assumption)).set_i i (v % 4294967296) (j := (v : Int) % 4294967296) (by omega) (Nat.mod_lt _ (by omega))
          rw [List.set_append_right _ _ (by rw [HPL.out]; omega), HPL.out, Nat.sub_self, List.set_cons_zero] at hs
          simpa using hs
        case measure => simp [intOf]; omega
      · obtain rfl : i = N := by omega
        have hz : hi = [] := List.eq_nil_of_length_eq_zero (by have := HR.out.hilen; omega)
        subst hz
        have hv : Hid (val lo = val ws / 2 ^ (32 * q + b)) := by
          have h1 := HR.out.eq
          have h2 := val_lt HA.out.wds
          rw [HA.out.len, pw_add] at h2
          have h3 : val ws / pw q < pw i := by rwa [Nat.div_lt_iff_lt_mul (pw_pos q), Nat.mul_comm]
          have h4 : val ws / pw q / 2 ^ b < pw i := Nat.lt_of_le_of_lt (Nat.div_le_self _ _) h3
          rw [Nat.mod_eq_of_lt h4, hfin.out] at h1
          exact h1
        have hlen := Lib.hid HR.out.len
        have HBL : Hid (Blk wr w.heap.size lo) := by have := HBK.out; rwa [List.append_nil] at this
        go_wp2_with fail
        refine (trim_any _ i i lo _ (by have := HBL.out.whole; rwa [hlen.out] at this) (by omega) (by omega)).mono ?_
        rintro e w' ⟨p, hp, rfl, ht, rfl⟩
        have HT := Lib.hid ht
        clear ht
        go_wp2
        go_ret
        have h1 := HBL.out.whole.mg (c := i) hp (by rw [hlen.out]; omega) (by omega) HT.out
        rw [hv.out] at h1
        exact ⟨_, rfl, h1, hbl⟩
end Go.Proofs.Ytfigimfdojbkeaa
