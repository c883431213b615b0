/-
  Layer 3: contract of Reduce.
-/
import Derived.Test.YtfigimfdojbkeaaModS
import Derived.Test.YtfigimfdojbkeaaLawE
set_option linter.unusedSimpArgs false
set_option linter.unusedVariables false
namespace Go.Proofs.Ytfigimfdojbkeaa
open Go.RowKit
attribute [local go_sem ↓] Go.wp_at_zero Go.wp_at_succ

theorem res_lt {z : Int} {p : Nat} (hp : 0 < p) : (z % (p : Int)).toNat < p := by
  have h1 := Int.emod_nonneg z (show (p : Int) ≠ 0 by omega)
  have h2 := Int.emod_lt_of_pos z (show (0 : Int) < (p : Int) by omega)
  omega

set_option maxHeartbeats 2000000 in
set_option maxRecDepth 100000 in
theorem oreduce_den (sa sb : Bool) (A B : Option Addr) (n c m d : Nat) (b : Int) (p : Nat) (w : World) (hb : Iv w (.agg #[.bool sb, .slice B m d]) b) (zb : Sz b 1000) (hp0 : 0 < p) (hp : p ≤ 2147483648) (h : (b % (p : Int)).toNat = 0) :
    Calls Try.prog 55 #[.agg #[.bool sa, .slice A n c, .bool sb, .slice B m d], .int .u64 p] w (RetV (.tuple #[.int .u64 0, .int .i64 30]) w) := by
  have HB := Lib.hid hb
  have hz : ((p : Int) == 0) = false := by simp; omega
  have HH := Lib.hid h
  clear hb h
  go_enter Try.func55, Try.ntmps55
  go_wp2_with fail
  refine (residue_any _ b p _ (HB.out.alloc _) zb hp0 hp).mono ?_
  rw [HH.out]
  rintro e w1 ⟨rfl, hb1⟩
  go_wp2_with fail
  refine (oinv_zero 0 p _ hp0 (by omega) (Nat.zero_mod p)).mono ?_
  rintro e w2 ⟨rfl, hb2⟩
  have hbl := Lib.hid (link_below (link_below ((Below.refl w.heap.size w).alloc (Nat.le_refl _) _) hb1 (by simp) rfl rfl rfl rfl) hb2 (by have := hb1.size; simp at this; omega) rfl rfl rfl rfl)
  clear hb1 hb2
  go_wp2
  exact bodyPost_ret (v := .tuple #[.int .u64 0, .int .i64 30]) (by simp [results, Try.results55, go_sem]) rfl ⟨rfl, hbl.out⟩

set_option maxHeartbeats 2000000 in
set_option maxRecDepth 100000 in
theorem oreduce_any (sa sb : Bool) (A B : Option Addr) (n c m d : Nat) (a b : Int) (p : Nat) (w : World) (ha : Iv w (.agg #[.bool sa, .slice A n c]) a) (za : Sz a 1000) (hb : Iv w (.agg #[.bool sb, .slice B m d]) b) (zb : Sz b 1000) (hp0 : 0 < p) (hp : p ≤ 2147483648) (h : (b % (p : Int)).toNat ≠ 0) :
    Calls Try.prog 55 #[.agg #[.bool sa, .slice A n c, .bool sb, .slice B m d], .int .u64 p] w (RetV (.tuple #[.int .u64 ((a % (p : Int)).toNat * ((b % (p : Int)).toNat ^ (p - 2) % p) % p : Nat), .int .i64 0]) w) := by
  have HA := Lib.hid ha
  have HB := Lib.hid hb
  have hz : ((p : Int) == 0) = false := by simp; omega
  have hz2 : ¬ (p : Int) = 0 := by omega
  obtain ⟨x, hx⟩ : ∃ x : Nat, (a % (p : Int)).toNat = x := ⟨_, rfl⟩
  obtain ⟨y, hy⟩ : ∃ y : Nat, (b % (p : Int)).toNat = y := ⟨_, rfl⟩
  have hxp : x < p := by rw [← hx]; exact res_lt hp0
  have hyp : y < p := by rw [← hy]; exact res_lt hp0
  rw [hx, hy]
  rw [hy] at h
  have HX := Lib.hid hx; have HY := Lib.hid hy
  have hyn : y % p ≠ 0 := by rw [Nat.mod_eq_of_lt hyp]; exact h
  clear ha hb hx hy h
  go_enter Try.func55, Try.ntmps55
  go_wp2_with fail
  obtain ⟨W, hW⟩ : ∃ W, W = w.alloc (Obj.cells #[Value.bool sa, Value.slice A n c, Value.bool sb, Value.slice B m d] 60) := ⟨_, rfl⟩
  rw [← hW]
  have CB : Hid (CBox W w.heap.size #[Value.bool sa, Value.slice A n c, Value.bool sb, Value.slice B m d] 60) := by rw [hW]; exact CBox.new _ _ _
  have IA : Hid (Iv W (.agg #[.bool sa, .slice A n c]) a) := by rw [hW]; exact HA.out.alloc _
  have IB : Hid (Iv W (.agg #[.bool sb, .slice B m d]) b) := by rw [hW]; exact HB.out.alloc _
  have DW : Hid (Below w.heap.size w W) := by rw [hW]; exact (Below.refl _ _).alloc (Nat.le_refl _) _
  clear hW
  refine (residue_any _ b p _ IB.out zb hp0 hp).mono ?_
  rw [HY.out]
  rintro e w1 ⟨rfl, hb1⟩
  go_wp2_with fail
  refine (oinv_any y p _ (by omega) hp0 (by omega) hyn).mono ?_
  obtain ⟨v, hv⟩ : ∃ v : Nat, y ^ (p - 2) % p = v := ⟨_, rfl⟩
  have hvp : v < p := by rw [← hv]; exact Nat.mod_lt _ hp0
  have HV := Lib.hid hv
  rw [hv]
  rintro e w2 ⟨rfl, hb2⟩
  have hb12 : Below W.heap.size W w2 := link_below hb1 hb2 hb1.size rfl rfl rfl rfl
  clear hv
  have g0 := (CB.out.next hb12 rfl).cell 0; have g1 := (CB.out.next hb12 rfl).cell 1
  simp at g0 g1
  go_wp2_with fail
  refine (residue_any _ a p _ (iv_next IA.out hb12 rfl) za hp0 hp).mono ?_
  rw [HX.out]
  rintro e w3 ⟨rfl, hb3⟩
  have hbl := Lib.hid (link_below (link_below DW.out hb12 DW.out.size rfl rfl rfl rfl) hb3 (by have := DW.out.size; have := hb12.size; omega) rfl rfl rfl rfl)
  have h1 := mul_lt64 hxp hvp (show p ≤ 4294967296 by omega)
  have m1 : IntKind.u64.wrap ((x : Int) * (v : Int)) = ((x * v : Nat) : Int) := by rw [← Int.natCast_mul]; exact IntWalk.u64_in _ (by omega)
  clear hb1 hb2 hb3 hb12 g0 g1 h1
  go_wp2
  exact bodyPost_ret (v := .tuple #[.int .u64 (x * v % p : Nat), .int .i64 0]) (by simp [results, Try.results55, go_sem]) rfl ⟨by rw [HV.out], hbl.out⟩
end Go.Proofs.Ytfigimfdojbkeaa
