/-
  Layer 3: the iterator slices.Backward over words.
-/
import Derived.RangeFuncBox
import Derived.RangeFuncNested
import Derived.RangeFuncBound
import Derived.RangeFuncCalls
import Derived.RangeFuncLeaves
import Derived.Shelf.Abstract
import Derived.WalkKit
import Derived.OwnWalkIn
import Derived.TacticsInMore
import Derived.LoopNIn
import Derived.LoopIn
import Derived.Test.YtfigimfdojbkeaaModH
set_option linter.unusedSimpArgs false
set_option linter.unusedVariables false
namespace Go.Proofs.Ytfigimfdojbkeaa
open Go.RowKit Go.Shelf
attribute [local go_sem] Oper.semAt_some

/-- What has come when k rounds are over: the words from the last one on. -/
def bks (ws : List Nat) (k : Nat) : List (Nat × Nat) := (List.range k).map (fun j => (ws.length - 1 - j, gd ws (ws.length - 1 - j)))
theorem bks_succ (ws : List Nat) (k : Nat) : bks ws (k + 1) = bks ws k ++ [(ws.length - 1 - k, gd ws (ws.length - 1 - k))] := by simp [bks, List.range_succ]
theorem bks_len (ws : List Nat) (k : Nat) : (bks ws k).length = k := by simp [bks]

/-- What a round keeps: what lay below n₀, and the box of the slice. -/
def Kpb (n₀ Bs : Nat) (W W' : World) : Prop := Below n₀ W W' ∧ W'.cell? ⟨Bs, 0, none⟩ = W.cell? ⟨Bs, 0, none⟩

set_option maxRecDepth 100000 in
set_option maxHeartbeats 1000000 in
theorem back1_in (F : Fence) (n : Nat) (h8 : F.fn 170) (hro : F.round = none) (hn : 1 ≤ n) (l Bs len cap : Nat) (A : Option Addr) (ws : List Nat) (w0 : World) (hws : Wd w0 A len ws) (hl : len ≤ 1000000000) (J Jx : List (Nat × Nat) → World → Prop)
    (hY : ∀ pre x W, J pre W → pre.length < len → YieldAt F (n - 1) Try.prog l #[.int .i64 (x.1 : Int), .int .u32 ((x.2 % 4294967296 : Nat) : Int)] W fun e W' =>
      (e = .returned (.bool true) ∧ J (pre ++ [x]) W' ∧ Kpb w0.heap.size Bs W W') ∨ (e = .returned (.bool false) ∧ Jx (pre ++ [x]) W'))
    (W : World) (hb0 : Below w0.heap.size w0 W) (hBs : W.cell? ⟨Bs, 0, none⟩ = some (.slice A len cap)) (h0 : J [] W) :
    CallsIn F n Try.prog 170 #[.func (.yield l) #[] #[], .pointer (some ⟨Bs, 0, none⟩)] W fun e W' => (∃ v, e = .returned v) ∧
      ((∃ ys, ys = bks ws len ∧ J ys W') ∨ (∃ pre, (∃ k, k ≤ len ∧ pre = bks ws k) ∧ Jx pre W')) := by
  have hlw : ws.length = len := hws.len
  have HWS := Lib.hid hws
  have HLW := Lib.hid hlw
  clear hws hlw
  refine callsIn_of_wp Try.func170 rfl h8 ?_ hro
  simp only [Try.ntmps170, List.size_toArray, List.length_cons, List.length_nil, Nat.reduceAdd, Nat.reduceSub, Array.replicate_succ, Array.replicate_zero, List.push_toArray, List.append_toArray, List.nil_append, List.cons_append]
  gi_wp2
  gi_loopw [3] (fun i wr => ∃ k : Nat, k ≤ len ∧ i = .int .i64 ((len : Int) - 1 - k) ∧ J (bks ws k) wr ∧ Below w0.heap.size w0 wr ∧ wr.cell? ⟨Bs, 0, none⟩ = some (.slice A len cap))
    (fun i _ => (intOf i + 1).toNat)
  case atStart => exact ⟨0, Nat.zero_le _, by simp, h0, hb0, hBs⟩
  case round =>
    obtain ⟨k, hk, rfl, hJs, hnx, hbs⟩ := hrel
    by_cases hlt : k < len
    · obtain ⟨fn, tmps, assign, body, hy, hR⟩ := hY _ (len - 1 - k, gd ws (len - 1 - k)) wr hJs (by rw [bks_len]; exact hlt)
      dsimp only at hy
      have hix : ((len - 1 - k : Nat) : Int) = (len : Int) - 1 - k := by omega
      rw [hix, Nat.mod_eq_of_lt (HWS.out.wds.getD (len - 1 - k))] at hy
      obtain ⟨ad, rfl, _, hca⟩ := (HWS.out.below hnx).cell (show len - 1 - k < len by omega)
      have t1 : (0 : Int) ≤ (len : Int) - 1 - k := by omega
      have t2 : (len : Int) - 1 - k < len := by omega
      have t3 : ((len : Int) - 1 - k).toNat = len - 1 - k := by omega
      clear hix
      gi_wp2
      refine hR.mono ?_
      rintro e W3 (⟨rfl, hJ3, hk3⟩ | ⟨rfl, hJx3⟩)
      · gi_wp2
        go_roundw
        case rel => exact ⟨k + 1, by omega, by simp; omega, by rw [bks_succ, HLW.out]; exact hJ3, hnx.trans hk3.1, hk3.2.trans hbs⟩
        case measure => simp only [intOf]; omega
      · gi_wp2
        refine bodyPost_ret (results_none rfl _ _ _) rfl ?_
        exact ⟨⟨_, rfl⟩, .inr ⟨_, ⟨k + 1, by omega, by rw [bks_succ, HLW.out]⟩, hJx3⟩⟩
    · obtain rfl : k = len := by omega
      have t1 : decide ((0 : Int) ≤ (k : Int) - 1 - k) = false := decide_eq_false (by omega)
      gi_wp2
      go_end0
      exact ⟨⟨_, rfl⟩, .inl ⟨_, rfl, hJs⟩⟩
end Go.Proofs.Ytfigimfdojbkeaa
