/-
  Texts: the nine digits of a chunk.
-/
import Derived.Test.YtpklphdhigkmmaaIntC
import Derived.Handy
namespace Go.Proofs.Ytpklphdhigkmmaa
open Go.RowKit
attribute [local go_sem ↓] Go.wp_at_zero Go.wp_at_succ

/-- The bytes of k decimal digits of n, the last one first. -/
def dgs : Nat → Nat → List Nat
  | 0, _ => []
  | k + 1, n => (48 + n % 10) :: dgs k (n / 10)
/-- Bytes as cells. -/
def bv (l : List Nat) : List Value := l.map (fun x => Value.int .u8 (x : Nat))
theorem bv_len (l : List Nat) : (bv l).length = l.length := by simp [bv]
theorem dgs_len : ∀ (k n : Nat), (dgs k n).length = k
  | 0, _ => rfl
  | k + 1, n => by simp [dgs, dgs_len k]

set_option maxHeartbeats 4000000 in
theorem digitsOf_any (n : Nat) (w : World) (hn : n < 4294967296) :
    Calls Try.prog 107 #[.int .u32 (n : Nat)] w fun e w' => e = .returned (.agg (bv (dgs 9 n)).toArray) ∧ Below w.heap.size w w' := by
  go_enter Try.func107, Try.ntmps107
  go_wp2
  go_rounds 10
  refine bodyPost_ret (v := .agg (bv (dgs 9 n)).toArray) (by simp [results, Try.results107, go_sem, bv, dgs]) rfl ⟨rfl, ?_⟩
  exact ((Below.refl _ _).alloc (Nat.le_refl _) _).alloc (by simp) _
end Go.Proofs.Ytpklphdhigkmmaa
