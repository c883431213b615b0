/-
  Contracts of the functions on words that make no memory: word, trim, number, compare, bitsOfWord, bitLength; for slices of at most 2^40 words.
-/
import Derived.Test.YtpklphdhigkmmaaProg
import Derived.Tactics
import Derived.Tactics2
import Derived.WalkKit
import Derived.LoopTactic
import Derived.Outline
import Derived.WalkLawsBesides
import Derived.WalkSpells
import Derived.Test.YtpklphdhigkmmaaMem
namespace Go.Proofs.Ytpklphdhigkmmaa
open Go.RowKit

set_option maxHeartbeats 400000 in
theorem word_any (A : Option Addr) (n c : Nat) (ws : List Nat) (k : Int) (w : World) (h : Wd w A n ws) (_ : n ≤ 1099511627776) (hk : 0 ≤ k) :
    Calls Try.prog 114 #[.slice A n c, .int .i64 k] w fun e w' => e = .returned (.int .u32 (gd ws k.toNat : Nat)) ∧ w = w' := by
  obtain ⟨k, rfl⟩ := Int.eq_ofNat_of_zero_le hk
  rw [Int.toNat_natCast]
  by_cases hlt : k < n
  · obtain ⟨ad, rfl, _, hc⟩ := h.cell hlt
    clear h
    go_enter Try.func114, Try.ntmps114
    go_wp2
    go_ret
    exact ⟨rfl, rfl⟩
  · have e : gd ws k = 0 := by rw [gd_eq, List.getElem?_eq_none (by rw [h.1]; omega)]; rfl
    rw [e]
    clear h e
    go_enter Try.func114, Try.ntmps114
    go_wp2
    go_ret
    exact ⟨rfl, rfl⟩

/-- What 'trim' leaves. -/
theorem trim_done {ws : List Nat} {n m : Nat} (hw : Wds ws) (hl : ws.length = n) (hm : m ≤ n) (hz : ∀ k, m ≤ k → k < n → gd ws k = 0) (hlast : m = 0 ∨ gd ws (m - 1) ≠ 0) :
    ws.take m = mag (val ws) := by
  rw [← val_drop_zero ws m (fun k h1 h2 => hz k h1 (by omega))]
  refine (mag_val ⟨hw.take m, ?_⟩).symm
  rcases hlast with rfl | hne
  · left; simp
  · rcases Nat.eq_zero_or_pos m with rfl | hpos
    · left; simp
    · right
      rw [List.length_take, hl, Nat.min_eq_left hm, gd_eq, List.getElem?_take_of_lt (by omega), ← gd_eq]
      exact hne

def TrimRel (n : Nat) (ws : List Nat) (m : Nat) : Prop := ∀ k, m ≤ k → k < n → gd ws k = 0
def RetTrim (A : Option Addr) (c : Nat) (ws : List Nat) (w : World) (e : Ending) (w' : World) : Prop :=
  ∃ m, m ≤ ws.length ∧ e = .returned (.slice A m c) ∧ ws.take m = mag (val ws) ∧ w = w'

set_option maxHeartbeats 400000 in
theorem trim_any (A : Option Addr) (n c : Nat) (ws : List Nat) (w : World) (h : Wd w A n ws) (hn : n ≤ 1099511627776) (hc : n ≤ c) :
    Calls Try.prog 109 #[.slice A n c] w (RetTrim A c ws w) := by
  have hl := h.1
  have hw := h.wds
  have HL := Lib.hid hl
  have H := Lib.hid h
  clear hl h
  go_enter Try.func109, Try.ntmps109
  go_wp2
  go_loop [0] (fun v => ∃ m : Nat, m ≤ n ∧ v = .slice A m c ∧ TrimRel n ws m) (fun v => match v with | .slice _ m _ => m | _ => 0)
  case atStart => exact ⟨n, Nat.le_refl _, rfl, fun k h1 h2 => by omega⟩
  case round =>
    obtain ⟨m, hm, rfl, hz⟩ := hrel
    by_cases hpos : 0 < m
    · obtain ⟨ad, rfl, _, hcell⟩ := H.out.cell (show m - 1 < n by omega)
      obtain ⟨m, rfl⟩ : ∃ m', m = m' + 1 := ⟨m - 1, by omega⟩
      rw [Nat.add_sub_cancel] at hcell
      by_cases hx : gd ws m = 0
      · rw [hx] at hcell
        have HX := Lib.hid hx
        clear hx
        go_wp2
        go_round
        case rel => exact ⟨m, by omega, rfl, fun k h1 h2 => by
          rcases Nat.eq_or_lt_of_le h1 with e | e
          · rw [← e]; exact HX.out
          · exact hz k e h2⟩
        case measure => simp
      · have hx2 : (((gd ws m : Nat) : Int) == 0) = false := by rw [beq_eq_false_iff_ne]; omega
        have HX := Lib.hid hx
        clear hx
        go_wp2
        go_ret
        exact ⟨m + 1, by rw [HL.out]; omega, rfl, trim_done hw HL.out hm hz (.inr (by simpa using HX.out)), rfl⟩
    · have hm0 : m ≤ 0 := by omega
      go_wp2
      go_ret
      exact ⟨m, by rw [HL.out]; omega, rfl, trim_done hw HL.out hm hz (.inl (by omega)), rfl⟩
end Go.Proofs.Ytpklphdhigkmmaa
