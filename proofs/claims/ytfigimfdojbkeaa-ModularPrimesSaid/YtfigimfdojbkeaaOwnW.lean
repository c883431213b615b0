/-
  Slices of words that grew by append; a copy of a slice.
-/
import Derived.Test.YtfigimfdojbkeaaIntA
import Derived.Laws.AppendOwnNone
import Derived.Deep.AppendLies
import Derived.OwnWalk
import Derived.Deep.DeepCutAuto
import Derived.Handy
import Derived.Lib.SliceRun
import Derived.Deep.DrawnRows
set_option linter.unusedSimpArgs false
set_option linter.unusedVariables false
namespace Go.Proofs.Ytfigimfdojbkeaa
open Go.RowKit
attribute [local go_sem ↓] Go.wp_at_zero Go.wp_at_succ

theorem own_wd {w : World} {base i : Nat} {v : Value} {l : List Nat} (h : w.ownsRow base 43 1 v i (l.map cv)) (hl : Wds l) :
    ∃ A c, v = .slice A i c ∧ i ≤ c ∧ c ≤ 9223372036854775807 ∧ Wd w A i l := by
  have hlen : l.length = i := by have := h.1; simpa using this
  rcases Nat.eq_zero_or_pos i with h0 | h0
  · subst h0
    have : l = [] := List.eq_nil_of_length_eq_zero hlen
    subst this
    rcases h.2 with ⟨rfl, _⟩ | ⟨g, cap, cur, hv, hb, hg, h1, h2, _⟩
    · exact ⟨none, 0, rfl, Nat.le_refl _, by omega, Wd.nil _ _⟩
    · exact ⟨_, cap, hv, h1, by unfold maxLen at h2; omega, Wd.nil _ _⟩
  · rcases h.2 with ⟨_, e⟩ | ⟨g, cap, cur, hv, hb, hg, h1, h2, h3, h4⟩
    · omega
    · refine ⟨_, cap, hv, h1, by unfold maxLen at h2; omega, hlen, hl, fun _ => ⟨_, rfl, ?_, fun k hk => ?_⟩⟩
      · rcases Nat.lt_or_ge g w.heap.size with hlt | hge
        · exact hlt
        · rw [Array.getElem?_eq_none hge] at hg; cases hg
      · exact World.ownsRow.cells h (g := g) (by rw [hv]; rfl) k (cv (gd l k)) (by rw [List.getElem?_map, gd_eq, List.getElem?_eq_getElem (by omega)]; rfl)

theorem cv_one (l : List Nat) : ∀ u ∈ l.map cv, u.oneCell' = true := by
  intro u hu
  simp only [List.mem_map] at hu
  obtain ⟨x, _, rfl⟩ := hu
  rfl

set_option maxHeartbeats 2000000 in
set_option maxRecDepth 100000 in
theorem clone32 (A : Option Addr) (n c : Nat) (ws : List Nat) (w : World) (h : Wd w A n ws) (hn : n ≤ 1000000000) :
    Calls Try.prog 208 #[.slice A n c] w fun e w' => ∃ A2 c2, e = .returned (.slice A2 n c2) ∧ n ≤ c2 ∧ c2 ≤ 9223372036854775807 ∧ Wd w' A2 n ws ∧ Below w.heap.size w w' := by
  have H := Lib.hid h
  clear h
  cases A with
  | none =>
    have h0 : n = 0 := by
      rcases Nat.eq_zero_or_pos n with h | h
      · exact h
      · obtain ⟨ad, e, _⟩ := H.out.2.2 h
        cases e
    subst h0
    have hws := H.out.empty rfl
    subst hws
    clear H
    have q22 : ∀ (w : World) (a : Option Addr) (n c n' c' : Nat), (binOp .eql 22 (.slice a n c) (.slice none n' c')).run Try.prog w = .ok (.bool a.isNone) w := fun w a n c n' c' => Lib.run_eql_slice_nil w _ _ a n c n' c' Try.underlying22
    go_enter Try.func208, Try.ntmps208
    go_wp2
    go_ret
    exact ⟨none, 0, rfl, Nat.le_refl _, by omega, Wd.nil _ _, Below.refl _ _⟩
  | some ad =>
    obtain ⟨i5, hi5, hz50, hz51, hz52⟩ := info_parts u32_info
    have hlen : (ws.map cv).length = n * 1 := by rw [List.length_map, H.out.len]; omega
    have hcells : Hid (∀ j u, (ws.map cv)[j]? = some u → w.cell? (ad.add j) = some u) := by
      intro j u hu
      rw [List.getElem?_map] at hu
      cases hj : ws[j]? with
      | none => rw [hj] at hu; cases hu
      | some x =>
        rw [hj] at hu
        cases hu
        have hlt : j < n := by
          rcases Nat.lt_or_ge j ws.length with h | h
          · rw [H.out.len] at h; exact h
          · rw [List.getElem?_eq_none h] at hj; cases hj
        obtain ⟨ad', e, _, hc⟩ := H.out.cell hlt
        cases e
        rw [hc, gd_eq, hj]
        rfl
    have q22 : ∀ (w : World) (a : Option Addr) (n c n' c' : Nat), (binOp .eql 22 (.slice a n c) (.slice none n' c')).run Try.prog w = .ok (.bool a.isNone) w := fun w a n c n' c' => Lib.run_eql_slice_nil w _ _ a n c n' c' Try.underlying22
    go_enter Try.func208, Try.ntmps208
    go_wp2_with (at_builtin; refine wpList_append_own _ rfl _ _ 22 rfl w.heap.size 43 i5 (.int .u32 0) 1 4 Try.underlying22 hi5 hz50 hz51 hz52 rfl (by omega) _ _ _ rfl (World.ownsRow_made w #[] 0 (Nat.le_refl _) (Nat.zero_le _) (by simp)) ad n c (ws.map cv) rfl ?qc1 ?qc2 ?qc3 ?qc4 ?qc5 ?qc6 ?_)
    case qc1 => exact hlen
    case qc2 =>
      intro j u hj
      exact Lib.cell?_alloc_some _ (hcells.out j u hj)
    case qc3 => exact cv_one ws
    case qc4 => unfold maxLen; omega
    case qc5 => omega
    case qc6 => simp
    intro v' w1 hown hgrow hnil
    obtain ⟨A2, c2, rfl, h1, h2, h3⟩ := own_wd (by simpa using hown : w1.ownsRow w.heap.size 43 1 v' n (ws.map cv)) H.out.wds
    have H3 := Lib.hid h3
    have HG : Hid (Below w.heap.size w w1) := ((Below.refl _ w).alloc (Nat.le_refl _) _).grown hgrow (by simp) (by intro k hk; simp [Value.ownBlock] at hk; omega)
    clear hown hgrow hnil h3 hcells
    go_wp2
    go_ret
    exact ⟨A2, c2, rfl, h1, h2, H3.out, HG.out⟩
end Go.Proofs.Ytfigimfdojbkeaa

