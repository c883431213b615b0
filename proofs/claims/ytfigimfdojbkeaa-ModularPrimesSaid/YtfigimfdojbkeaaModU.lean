/-
  Layer 3: the map of what has been seen.
-/
import Derived.Maps.OwnSet
import Derived.Test.YtfigimfdojbkeaaModT
set_option linter.unusedSimpArgs false
set_option linter.unusedVariables false
namespace Go.Proofs.Ytfigimfdojbkeaa
open Go.RowKit Go.WideAt Go.Maps
attribute [local go_sem ↓] Go.wp_at_zero Go.wp_at_succ

/-- Block b is a map that holds true just at these numbers. -/
def Seen (w : World) (b k : Nat) (seen : List Nat) : Prop :=
  ∃ D : DataW Unit, w.ownsMap Try.prog 52 (plainElem Try.prog 4) b k D ∧ IsMap D ∧ ∀ q : Nat, q < 18446744073709551616 → D.atKey (.int .u64 (q : Int)) (.lit (.bool false)) = .lit (.bool (decide (q ∈ seen)))
theorem u64_key {q : Nat} (hq : q < 18446744073709551616) : (Lit.int .u64 (q : Int)).wf = true := by
  exact Go.WalkArith.wf_u64 ⟨by omega, by omega⟩
theorem Seen.look {w : World} {b k q : Nat} {seen : List Nat} (h : Seen w b k seen) (hq : q < 18446744073709551616) : (Instr.lookup 167 (.map (some b)) (.int .u64 (q : Int)) false).run Try.prog w = .ok (.bool (decide (q ∈ seen))) w := by
  obtain ⟨D, hown, _, hat⟩ := h
  obtain ⟨v, ps, hrun, hv⟩ := hown.lookup (int_keyed Try.underlying52) Try.underlying167 (z := .bool false) (by kernel_rfl) (plainElem_bool Try.underlying4 false) (keyOf_int_mk Try.underlying52 (u64_key hq))
  rw [hat q hq] at hv
  have e : v = .bool (decide (q ∈ seen)) := by
    generalize decide (q ∈ seen) = x at *
    cases v <;> simp [plainElem, Try.underlying4] at hv
    rw [hv.1]
  rw [hrun, e]
theorem Seen.put {w : World} {b k q : Nat} {seen : List Nat} (h : Seen w b k seen) (hq : q < 18446744073709551616) (hk : k < 1000000000) : ∃ w', (Instr.mapUpdate 167 (.map (some b)) (.int .u64 (q : Int)) (.bool true)).run Try.prog w = .ok () w' ∧ Seen w' b (k + 1) (q :: seen) ∧ w.grownBy w' (some b) := by
  obtain ⟨D, hown, hm, hat⟩ := h
  obtain ⟨w', hrun, hown', hg⟩ := hown.update (int_keyed Try.underlying52) Try.underlying167 (by unfold maxLen; omega) (keyOf_int_mk Try.underlying52 (u64_key hq)) (plainElem_bool Try.underlying4 true)
  refine ⟨w', hrun, ⟨_, hown', ?_, fun q' hq' => ?_⟩, hg⟩
  · exact hm.put _ _
  · by_cases e : q' = q
    · subst e
      rw [atKey_put_same hm (by simp [IsKeyLit])]
      simp
    · rw [atKey_put_other (by simp; omega), hat q' hq']
      simp [e]

theorem Seen.kept {w w' : World} {b k : Nat} {seen : List Nat} {row : Option Nat} (h : Seen w b k seen) (hg : w.grownBy w' row) (hne : some b ≠ row) : Seen w' b k seen := by
  obtain ⟨D, h1, h2, h3⟩ := h
  exact ⟨D, h1.kept hg hne, h2, h3⟩
theorem Seen.congr {w : World} {b k : Nat} {s t : List Nat} (h : Seen w b k s) (e : ∀ x, x ∈ s ↔ x ∈ t) : Seen w b k t := by
  obtain ⟨D, h1, h2, h3⟩ := h
  refine ⟨D, h1, h2, fun q hq => ?_⟩
  rw [h3 q hq, decide_eq_decide.2 (e q)]
theorem take_new {ps : List Nat} {i q : Nat} (h : ps.Nodup) (hi : i < ps.length) (hq : ps[i] = q) : ¬ q ∈ ps.take i := by
  intro hm
  rw [← List.take_append_drop i ps, List.nodup_append] at h
  refine h.2.2 q hm q ?_ rfl
  rw [List.drop_eq_getElem_cons hi, hq]
  simp
/-- A slice of numbers of 64 bits. -/
def U64s (w : World) (A : Option Addr) (n : Nat) (ps : List Nat) : Prop :=
  ps.length = n ∧ (∀ x ∈ ps, x < 18446744073709551616) ∧ ∀ i, i < n → ∃ b off, A = some ⟨b, off, none⟩ ∧ b < w.heap.size ∧ w.cell? ⟨b, off + i, none⟩ = some (.int .u64 (gd ps i : Nat))
theorem U64s.below {w w' : World} {A : Option Addr} {n : Nat} {ps : List Nat} (h : U64s w A n ps) (hb : Below w.heap.size w w') : U64s w' A n ps :=
  ⟨h.1, h.2.1, fun i hi => by
    obtain ⟨b, off, e, hlt, hc⟩ := h.2.2 i hi
    exact ⟨b, off, e, Nat.lt_of_lt_of_le hlt hb.size, (hb.cell (p := ⟨b, off + i, none⟩) hlt).trans hc⟩⟩

set_option maxHeartbeats 2000000 in
theorem diffPrimes_true (A : Option Addr) (n c : Nat) (ps : List Nat) (w : World) (h : U64s w A n ps) (hn : n ≤ 1000000) (hp : ∀ x ∈ ps, IsPr x) (hd : ps.Nodup) : Calls Try.prog 123 #[.slice A n c] w (RetV (.bool true) w) := by
  have HU := Lib.hid h
  have HP := Lib.hid hp
  have HD := Lib.hid hd
  have hmm := @run_makeMap Try.prog
  clear h hp hd
  go_enter Try.func123, Try.ntmps123
  go_wp2_with fail
  clear hmm
  go_loopg [5, 9] n (fun k _ v9 wr => ∃ i : Nat, i + k = n ∧ v9 = .int .i64 i ∧ Seen wr w.heap.size i (ps.take i) ∧ Below w.heap.size w wr)
  case atStart =>
    refine ⟨0, by omega, rfl, ⟨_, World.ownsMap_made _ _ _ _, isMap_empty, fun q _ => ?_⟩, (Below.refl _ _).alloc (Nat.le_refl _) _⟩
    rfl
  case round =>
    obtain ⟨i, hik, rfl, hse, hbl⟩ := hrel
    have HSE := Lib.hid hse
    have HBL := Lib.hid hbl
    clear hse hbl
    by_cases h0 : gk = 0
    · obtain rfl : i = n := by omega
      subst h0
      go_wp2
      exact bodyPost_ret (v := .bool true) (by simp [results, Try.results123, go_sem]) rfl ⟨rfl, HBL.out⟩
    · have hin : i < n := by omega
      obtain ⟨b, off, rfl, hlt, hc⟩ := (HU.out.below HBL.out).2.2 i hin
      obtain ⟨q, hq⟩ : ∃ q, gd ps i = q := ⟨_, rfl⟩
      rw [hq] at hc
      have hil : i < ps.length := by rw [HU.out.1]; exact hin
      have hqm : ps[i] = q := by rw [← hq, gd_eq, List.getElem?_eq_getElem hil]; rfl
      have hmem : q ∈ ps := by rw [← hqm]; exact List.getElem_mem hil
      have hpr := Lib.hid (HP.out q hmem)
      have hq64 := HU.out.2.1 q hmem
      have hnin : ¬ q ∈ ps.take i := take_new HD.out hil hqm
      have hlk := HSE.out.look hq64
      rw [decide_eq_false hnin] at hlk
      go_wp2_with fail
      clear hlk
      refine (oprime_pr q _ hpr.out).mono ?_
      rintro e w1 ⟨rfl, hb⟩
      have hse1 : Seen w1 w.heap.size i (ps.take i) := HSE.out.kept (below_grown hb none) (by simp)
      obtain ⟨w2, hrun, hse2, hg2⟩ := hse1.put hq64 (show i < 1000000000 by omega)
      have hbl1 : Below w.heap.size w w1 := link_below HBL.out hb (by have := HBL.out.size; omega) rfl rfl rfl rfl
      have HBL2 : Hid (Below w.heap.size w w2) := hbl1.trans (grown_below hg2 (fun k e => by cases e; exact Nat.le_refl _) hbl1.size)
      have HSE2 : Hid (Seen w2 w.heap.size (i + 1) (ps.take (i + 1))) := hse2.congr (fun x => by
        rw [List.take_succ_eq_append_getElem hil, hqm]
        simp only [List.mem_cons, List.mem_append, List.not_mem_nil, or_false]
        exact Or.comm)
      clear hse1 hse2 hg2 hbl1 hb
      go_wp2
      go_roundg (gk - 1)
      case measure => omega
      case rel => exact ⟨i + 1, by omega, by simp, HSE2.out, HBL2.out⟩

set_option maxHeartbeats 2000000 in
theorem diffPrimes_false (A : Option Addr) (n c i0 : Nat) (ps : List Nat) (w : World) (h : U64s w A n ps) (hn : n ≤ 1000000) (hi0 : i0 < n) (hp : ∀ x ∈ ps.take i0, IsPr x) (hd : (ps.take i0).Nodup) (hbad : gd ps i0 ∈ ps.take i0 ∨ ∀ w, Calls Try.prog 50 #[.int .u64 (gd ps i0 : Nat)] w (RetV (.bool false) w)) : Calls Try.prog 123 #[.slice A n c] w (RetV (.bool false) w) := by
  have HU := Lib.hid h
  have HP := Lib.hid hp
  have HD := Lib.hid hd
  have HBAD := Lib.hid hbad
  clear hbad
  have hmm := @run_makeMap Try.prog
  clear h hp hd
  go_enter Try.func123, Try.ntmps123
  go_wp2_with fail
  clear hmm
  go_loopg [5, 9] n (fun k _ v9 wr => ∃ i : Nat, i + k = n ∧ i ≤ i0 ∧ v9 = .int .i64 i ∧ Seen wr w.heap.size i (ps.take i) ∧ Below w.heap.size w wr)
  case atStart =>
    refine ⟨0, by omega, by omega, rfl, ⟨_, World.ownsMap_made _ _ _ _, isMap_empty, fun q _ => ?_⟩, (Below.refl _ _).alloc (Nat.le_refl _) _⟩
    rfl
  case round =>
    obtain ⟨i, hik, hii, rfl, hse, hbl⟩ := hrel
    have HSE := Lib.hid hse
    have HBL := Lib.hid hbl
    clear hse hbl
    by_cases h0 : gk = 0
    · omega
    · have hin : i < n := by omega
      obtain ⟨b, off, rfl, hlt, hc⟩ := (HU.out.below HBL.out).2.2 i hin
      obtain ⟨q, hq⟩ : ∃ q, gd ps i = q := ⟨_, rfl⟩
      rw [hq] at hc
      have hil : i < ps.length := by rw [HU.out.1]; exact hin
      have hqm : ps[i] = q := by rw [← hq, gd_eq, List.getElem?_eq_getElem hil]; rfl
      have hmem : q ∈ ps := by rw [← hqm]; exact List.getElem_mem hil
      have hq64 := HU.out.2.1 q hmem
      have hlk := HSE.out.look hq64
      by_cases hlast : i = i0
      · subst hlast
        rw [hq] at HBAD
        by_cases hin2 : q ∈ ps.take i
        · rw [decide_eq_true hin2] at hlk
          clear hin2
          go_wp2
          exact bodyPost_ret (v := .bool false) (by simp [results, Try.results123, go_sem]) rfl ⟨rfl, HBL.out⟩
        · have hcall : Hid (∀ w, Calls Try.prog 50 #[.int .u64 (q : Int)] w (RetV (.bool false) w)) := by
            rcases HBAD.out with h | h
            · exact absurd h hin2
            · exact h
          rw [decide_eq_false hin2] at hlk
          clear hin2 HBAD
          go_wp2_with fail
          clear hlk
          refine (hcall.out _).mono ?_
          rintro e w1 ⟨rfl, hb⟩
          have hbl1 := Lib.hid (link_below HBL.out hb (by have := HBL.out.size; omega) rfl rfl rfl rfl)
          clear hb
          go_wp2
          exact bodyPost_ret (v := .bool false) (by simp [results, Try.results123, go_sem]) rfl ⟨rfl, hbl1.out⟩
      have hi1 : i < i0 := by omega
      have hqt : q ∈ ps.take i0 := by
        rw [List.mem_take_iff_getElem]
        exact ⟨i, by omega, hqm⟩
      have hpr := Lib.hid (HP.out q hqt)
      have hnin : ¬ q ∈ ps.take i := by
        have h1 := take_new (ps := ps.take i0) (i := i) (q := q) HD.out (by rw [List.length_take]; omega) (by rw [List.getElem_take]; exact hqm)
        rwa [List.take_take, Nat.min_eq_left (by omega)] at h1
      rw [decide_eq_false hnin] at hlk
      go_wp2_with fail
      clear hlk
      refine (oprime_pr q _ hpr.out).mono ?_
      rintro e w1 ⟨rfl, hb⟩
      have hse1 : Seen w1 w.heap.size i (ps.take i) := HSE.out.kept (below_grown hb none) (by simp)
      obtain ⟨w2, hrun, hse2, hg2⟩ := hse1.put hq64 (show i < 1000000000 by omega)
      have hbl1 : Below w.heap.size w w1 := link_below HBL.out hb (by have := HBL.out.size; omega) rfl rfl rfl rfl
      have HBL2 : Hid (Below w.heap.size w w2) := hbl1.trans (grown_below hg2 (fun k e => by cases e; exact Nat.le_refl _) hbl1.size)
      have HSE2 : Hid (Seen w2 w.heap.size (i + 1) (ps.take (i + 1))) := hse2.congr (fun x => by
        rw [List.take_succ_eq_append_getElem hil, hqm]
        simp only [List.mem_cons, List.mem_append, List.not_mem_nil, or_false]
        exact Or.comm)
      clear hse1 hse2 hg2 hbl1 hb
      go_wp2
      go_roundg (gk - 1)
      case measure => omega
      case rel => exact ⟨i + 1, by omega, by omega, by simp, HSE2.out, HBL2.out⟩
end Go.Proofs.Ytfigimfdojbkeaa
