/-
  A text cut at the first slash.
-/
import Derived.Test.YtfigimfdojbkeaaGreatRatQ
import Derived.Lib.Walk
import Derived.Lib.Strings
import Derived.Lib.Slices
import Derived.Lib.Bytealg
import Derived.BigCall
import Derived.BigGuard
import Derived.Laws.Strings3
import Derived.Shelf.RegionOpenPlain
import Derived.Deep.DeepCutAuto
import Derived.Handy
set_option linter.unusedSimpArgs false
set_option linter.unusedVariables false
namespace Go.Proofs.YtfigimfdojbkeaaGreat
open Go.RowKit
attribute [local go_sem ↓] Go.wp_at_zero Go.wp_at_succ

set_option maxHeartbeats 2000000 in
set_option maxRecDepth 100000 in
theorem ixb_any (s : ByteArray) (c : Int) (w : World) :
    Calls Tryz.prog 206 #[.string s, .int .u8 c] w fun e w' => e = .returned (.int .i64 (Lib.indexByte s.data.toList c.toNat.toUInt8)) ∧ w' = w := by
  go_enter Tryz.func206, Tryz.ntmps206
  go_wp2
  rw [run_callFunc_extern Tryz.func218 (by kernel_rfl) (by kernel_rfl) (by kernel_rfl) (e := Extern.BytealgIndexByte.indexByte) (by kernel_rfl), Lib.run_indexByteString]
  simp only [Result.andThen]
  rw [Oper.upon_value]
  go_wp2
  go_ret
  exact ⟨rfl, rfl⟩

set_option maxHeartbeats 2000000 in
set_option maxRecDepth 100000 in
theorem ix_one (s : ByteArray) (c : UInt8) (w : World) :
    Calls Tryz.prog 191 #[.string s, .string ⟨#[c]⟩] w fun e w' => e = .returned (.int .i64 (Lib.indexByte s.data.toList c)) ∧ w' = w := by
  go_enter Tryz.func191, Tryz.ntmps191
  go_wp2_with (go_at_call 206; refine (ixb_any _ _ _).mono ?_; rintro e w' ⟨rfl, rfl⟩)
  · have h : ([c] == s.toList) = true := by assumption
    go_ret
    refine ⟨?_, rfl⟩
    have e : s.data.toList = [c] := by rw [← Lib.toList_data]; exact (beq_iff_eq.1 h).symm
    rw [e]
    simp [Lib.indexByte]
  · go_ret
    exact ⟨rfl, rfl⟩

set_option maxHeartbeats 2000000 in
set_option maxRecDepth 100000 in
theorem cutl_miss (s : ByteArray) (w : World) (h : Lib.indexByte s.data.toList 47 = -1) :
    Calls Tryz.prog 164 #[.string s, .string ⟨#[47]⟩] w (RetV (.tuple #[.string s, .string ⟨#[]⟩, .bool false]) w) := by
  go_enter Tryz.func164, Tryz.ntmps164
  go_wp2_with (go_at_call 191; refine (ix_one _ _ _).mono ?_; rintro e w' ⟨rfl, rfl⟩; rw [h])
  exact bodyPost_ret (v := .tuple #[.string s, .string ⟨#[]⟩, .bool false]) (by simp [results, Tryz.results164, go_sem]) rfl ⟨rfl, Below.refl _ _⟩

set_option maxHeartbeats 2000000 in
set_option maxRecDepth 100000 in
theorem cutl_hit (s : ByteArray) (i : Nat) (w : World) (h : Lib.indexByte s.data.toList 47 = i) (hi : i < s.size) (hs : s.size ≤ 1099511627776) :
    Calls Tryz.prog 164 #[.string s, .string ⟨#[47]⟩] w (RetV (.tuple #[.string (s.extract 0 i), .string (s.extract (i + 1) s.size), .bool true]) w) := by
  have c1 : (0 : Int) ≤ ↑i := by omega
  have c2 : (↑i : Int) ≤ ↑s.size := by omega
  have c3 : (0 : Int) ≤ ↑i + 1 := by omega
  have c4 : (↑i + 1 : Int) ≤ ↑s.size := by omega
  have c5 : IntKind.i64.wrap ((i : Int) + 1) = (i : Int) + 1 := IntWalk.i64_in _ ⟨by omega, by omega⟩
  have mixed : Tryz.prog.follows .mixedOrders = true := by kernel_rfl
  go_enter Tryz.func164, Tryz.ntmps164
  go_wp2_with (go_at_call 191; refine (ix_one _ _ _).mono ?_; rintro e w' ⟨rfl, rfl⟩; rw [h])
  go_region_o
  go_wp2
  exact bodyPost_ret (v := .tuple #[.string (s.extract 0 i), .string (s.extract (i + 1) s.size), .bool true]) (by simp [results, Tryz.results164, go_sem]) rfl ⟨rfl, (Below.refl _ _).drew⟩

set_option maxHeartbeats 2000000 in
theorem cut_of (s : ByteArray) (v : Value) (a b c : Value) (w : World) (hv : v = .tuple #[a, b, c]) (hc : ∀ w, Calls Tryz.prog 164 #[.string s, .string ⟨#[47]⟩] w (RetV v w)) :
    Calls Tryz.prog 117 #[.string s, .string ⟨#[47]⟩] w (RetV v w) := by
  subst hv
  go_enter Tryz.func117, Tryz.ntmps117
  go_wp2_with (go_at_call 164; refine (hc _).mono ?_; rintro e w' ⟨rfl, hb⟩)
  have HB := Lib.hid hb
  clear hb
  go_wp2
  exact bodyPost_ret (v := .tuple #[a, b, c]) (by simp [results, Tryz.results117, go_sem]) rfl ⟨rfl, HB.out⟩
theorem cut_miss (s : ByteArray) (w : World) (h : Lib.indexByte s.data.toList 47 = -1) : Calls Tryz.prog 117 #[.string s, .string ⟨#[47]⟩] w (RetV (.tuple #[.string s, .string ⟨#[]⟩, .bool false]) w) :=
  cut_of s _ _ _ _ w rfl (fun w => cutl_miss s w h)
theorem cut_hit (s : ByteArray) (i : Nat) (w : World) (h : Lib.indexByte s.data.toList 47 = i) (hi : i < s.size) (hs : s.size ≤ 1099511627776) : Calls Tryz.prog 117 #[.string s, .string ⟨#[47]⟩] w (RetV (.tuple #[.string (s.extract 0 i), .string (s.extract (i + 1) s.size), .bool true]) w) :=
  cut_of s _ _ _ _ w rfl (fun w => cutl_hit s i w h hi hs)
end Go.Proofs.YtfigimfdojbkeaaGreat
