/-
  decreasing, Minimal.
-/
import Derived.Test.YtchkaaeipafdnaaMonG
namespace Go.Proofs.Ytchkaaeipafdnaa
open Go.RowKit
attribute [local go_sem ↓] Go.wp_at_zero Go.wp_at_succ

/-- A slice with a property comes back. -/
def RetS (w : World) (P : List Mn → Prop) (e : Ending) (w' : World) : Prop := ∃ v l, e = .returned v ∧ Sl w' v l ∧ P l ∧ Below w.heap.size w w'
def SrtOf (l l' : List Mn) : Prop := l'.Perm l ∧ Srt l'
set_option maxHeartbeats 1000000 in
theorem decreasing_any (N : Nat) : ∀ (v : Value) (l : List Mn) (w : World), Sl w v l → l.length ≤ N ∧ l.length ≤ 1000000 →
    Calls Try.prog 39 #[v] w (RetS w (SrtOf l)) := by
  induction N with
  | zero =>
    intro v l w hl hN
    have hl0 : l = [] := List.eq_nil_of_length_eq_zero (by omega)
    subst hl0
    obtain ⟨A, n, c, rfl, h1, h2, h3, h4⟩ := hl
    obtain rfl : n = 0 := by have := h4.len; simp at this; omega
    have H4 := Lib.hid h4; have H3 := Lib.hid h3
    clear h4 h3
    go_enter Try.func39, Try.ntmps39
    go_wp2
    go_ret
    exact ⟨_, [], rfl, ⟨A, 0, c, rfl, h1, h2, H3.out, H4.out⟩, ⟨List.Perm.refl _, List.Pairwise.nil⟩, Below.refl _ _⟩
  | succ N ih =>
    intro v l w hl hN
    obtain ⟨A, n, c, rfl, h1, h2, h3, h4⟩ := hl
    have LL := Lib.hid h4.len
    by_cases hs : n < 2
    · have H4 := Lib.hid h4; have H3 := Lib.hid h3
      have HS := Lib.hid (show Srt l from by
        have := h4.len
        cases l with
        | nil => exact List.Pairwise.nil
        | cons a l =>
          have hl0 : l = [] := List.eq_nil_of_length_eq_zero (by simp at this; omega)
          subst hl0
          exact List.pairwise_singleton _ _)
      clear h4 h3
      go_enter Try.func39, Try.ntmps39
      go_wp2
      go_ret
      exact ⟨_, l, rfl, ⟨A, n, c, rfl, h1, h2, H3.out, H4.out⟩, ⟨List.Perm.refl _, HS.out⟩, Below.refl _ _⟩
    · obtain ⟨b, o, rfl, hb, _⟩ := h4.at_ (k := 0) (by omega)
      have HN := Lib.hid hN
      have HT := Lib.hid (show Sl w (.slice (some ⟨b, o, none⟩) (n / 2) c) (l.take (n / 2)) from ⟨_, _, _, rfl, by omega, h2, (fun h => by cases h), h4.take (by omega)⟩)
      have HD := Lib.hid (show Sl w (.slice (if c = n / 2 then some ⟨b, o, none⟩ else some ⟨b, o + n / 2 * 8, none⟩) (n - n / 2) (c - n / 2)) (l.drop (n / 2)) from
        ⟨_, _, _, rfl, by omega, by omega, (by split <;> simp), (by have := h4.cut (k := n / 2) (cap := c) (by omega) h1; simpa [Addr.add_mid] using this)⟩)
      clear h4 h3 hN
      generalize hWW : w = W at *
      clear hWW
      go_enter Try.func39, Try.ntmps39
      go_wp2_with fail
      refine region_run (fun w' => Below W.heap.size W w') [.is (.slice (some ⟨b, o, none⟩) n c), .is (Value.int IntKind.i64 ((n / 2 : Nat))), .is (.slice (some ⟨b, o, none⟩) (n / 2) c), .sat (fun v w => ∃ l', Sl w v l' ∧ l'.Perm (l.take (n / 2)) ∧ Srt l') (fun _ _ _ h hb => by obtain ⟨l', h1, h2, h3⟩ := h; exact ⟨l', h1.below hb, h2, h3⟩), .is (.slice (some ⟨b, o, none⟩) n c), .is (Value.int IntKind.i64 ((n / 2 : Nat))), .is (.slice (if c = n / 2 then some ⟨b, o, none⟩ else some ⟨b, o + n / 2 * 8, none⟩) (n - n / 2) (c - n / 2)), .sat (fun v w => ∃ l', Sl w v l' ∧ l'.Perm (l.drop (n / 2)) ∧ Srt l') (fun _ _ _ h hb => by obtain ⟨l', h1, h2, h3⟩ := h; exact ⟨l', h1.below hb, h2, h3⟩), .sat (fun v w => ∃ l', Sl w v l' ∧ l'.Perm (l) ∧ Srt l') (fun _ _ _ h hb => by obtain ⟨l', h1, h2, h3⟩ := h; exact ⟨l', h1.below hb, h2, h3⟩), .sat (fun v w => ∃ l', Sl w v l' ∧ l'.Perm (l) ∧ Srt l') (fun _ _ _ h hb => by obtain ⟨l', h1, h2, h3⟩ := h; exact ⟨l', h1.below hb, h2, h3⟩)] [11, 12, 13, 14, 15, 16, 17, 18, 19, 2] (by kernel_rfl) (by kernel_rfl) (by kernel_rfl) (by rfl) (by kernel_rfl) ((Below.refl _ _).drew) (fun Q' => ?_) (fun K hK wn hs => ?_)
      · refine ⟨?_, ?_, ?_, ?_, ?_, ?_, ?_, ?_, ?_, ?_, trivial⟩
        · intro a' w' ha hs hw
          have eo0 : a'.tmps[0]? = some (.slice (some ⟨b, o, none⟩) n c) := (ha.rest 0 (by kernel_rfl)).trans rfl
          exact .inl ⟨wanted_none rfl, wp_val (run_move rfl (ev_tmp eo0)) ⟨_, rfl, rfl, Below.refl _ _, hs⟩⟩
        · intro a' w' ha hs hw
          have eo3 : a'.tmps[3]? = some (Value.int IntKind.i64 ((n / 2 : Nat))) := (ha.rest 3 (by kernel_rfl)).trans rfl
          exact .inl ⟨wanted_none rfl, wp_val (run_move rfl (ev_tmp eo3)) ⟨_, rfl, rfl, Below.refl _ _, hs⟩⟩
        · intro a' w' ha hs hw
          obtain ⟨v0, e0, q0⟩ := hw 0 (by kernel_rfl) _ _ _ rfl rfl rfl
          obtain rfl : v0 = .slice (some ⟨b, o, none⟩) n c := q0
          obtain ⟨v1, e1, q1⟩ := hw 1 (by kernel_rfl) _ _ _ rfl rfl rfl
          obtain rfl : v1 = Value.int IntKind.i64 ((n / 2 : Nat)) := q1
          exact .inl ⟨wanted_none rfl, wp_val (run_hi (k := n / 2) rfl (ev_tmp e0) (ev_tmp e1) (by omega) (by omega)) ⟨_, rfl, rfl, Below.refl _ _, hs⟩⟩
        · intro a' w' ha hs hw
          obtain ⟨v2, e2, q2⟩ := hw 2 (by kernel_rfl) _ _ _ rfl rfl rfl
          obtain rfl : v2 = .slice (some ⟨b, o, none⟩) (n / 2) c := q2
          exact .inl ⟨wanted_none rfl, call_step rfl Try.func39 (by kernel_rfl) rfl (map_one (ev_tmp e2)) (ih _ (l.take (n / 2)) _ (HT.out.below hs) (by have := LL.out; have := HN.out; simp; omega)) (fun e w2 he => by obtain ⟨v, l', rfl, h1, ⟨h2, h3⟩, hb⟩ := he; exact ⟨v, rfl, v, rfl, ⟨l', h1, h2, h3⟩, hb, hs.trans (hb.mono hs.size)⟩)⟩
        · intro a' w' ha hs hw
          have eo0 : a'.tmps[0]? = some (.slice (some ⟨b, o, none⟩) n c) := (ha.rest 0 (by kernel_rfl)).trans rfl
          exact .inl ⟨wanted_none rfl, wp_val (run_move rfl (ev_tmp eo0)) ⟨_, rfl, rfl, Below.refl _ _, hs⟩⟩
        · intro a' w' ha hs hw
          have eo3 : a'.tmps[3]? = some (Value.int IntKind.i64 ((n / 2 : Nat))) := (ha.rest 3 (by kernel_rfl)).trans rfl
          exact .inl ⟨wanted_none rfl, wp_val (run_move rfl (ev_tmp eo3)) ⟨_, rfl, rfl, Below.refl _ _, hs⟩⟩
        · intro a' w' ha hs hw
          obtain ⟨v4, e4, q4⟩ := hw 4 (by kernel_rfl) _ _ _ rfl rfl rfl
          obtain rfl : v4 = .slice (some ⟨b, o, none⟩) n c := q4
          obtain ⟨v5, e5, q5⟩ := hw 5 (by kernel_rfl) _ _ _ rfl rfl rfl
          obtain rfl : v5 = Value.int IntKind.i64 ((n / 2 : Nat)) := q5
          exact .inl ⟨wanted_none rfl, wp_val (run_lo (k := n / 2) rfl (ev_tmp e4) (ev_tmp e5) (by omega) (by omega)) ⟨_, rfl, rfl, Below.refl _ _, hs⟩⟩
        · intro a' w' ha hs hw
          obtain ⟨v6, e6, q6⟩ := hw 6 (by kernel_rfl) _ _ _ rfl rfl rfl
          obtain rfl : v6 = .slice (if c = n / 2 then some ⟨b, o, none⟩ else some ⟨b, o + n / 2 * 8, none⟩) (n - n / 2) (c - n / 2) := q6
          exact .inl ⟨wanted_none rfl, call_step rfl Try.func39 (by kernel_rfl) rfl (map_one (ev_tmp e6)) (ih _ (l.drop (n / 2)) _ (HD.out.below hs) (by have := LL.out; have := HN.out; simp; omega)) (fun e w2 he => by obtain ⟨v, l', rfl, h1, ⟨h2, h3⟩, hb⟩ := he; exact ⟨v, rfl, v, rfl, ⟨l', h1, h2, h3⟩, hb, hs.trans (hb.mono hs.size)⟩)⟩
        · intro a' w' ha hs hw
          obtain ⟨v3, e3, q3⟩ := hw 3 (by kernel_rfl) _ _ _ rfl rfl rfl
          obtain ⟨v7, e7, q7⟩ := hw 7 (by kernel_rfl) _ _ _ rfl rfl rfl
          obtain ⟨l3, a3, b3, c3⟩ := q3
          obtain ⟨l7, a7, b7, c7⟩ := q7
          exact .inl ⟨wanted_none rfl, call_step rfl Try.func41 (by kernel_rfl) rfl (map_two (ev_tmp e3) (ev_tmp e7)) (merge_any v3 v7 l3 l7 _ a3 a7 c3 c7 (by rw [b3.length_eq, b7.length_eq]; have := LL.out; have := HN.out; simp; omega)) (fun e w2 he => by obtain ⟨v, l', rfl, h1, h2, h3, hb⟩ := he; exact ⟨v, rfl, v, rfl, ⟨l', h1, (h2.trans (b3.append b7)).trans (by rw [List.take_append_drop]), h3⟩, hb, hs.trans (hb.mono hs.size)⟩)⟩
        · intro a' w' ha hs hw
          obtain ⟨v8, e8, q8⟩ := hw 8 (by kernel_rfl) _ _ _ rfl rfl rfl
          exact .inl ⟨wanted_none rfl, wp_val (run_assign rfl (ev_tmp e8)) ⟨_, rfl, q8, Below.refl _ _, hs⟩⟩
      simp only [allK]
      intro s3 hs3 s7 hs7 s8 hs8 s9 hs9
      simp only [setAll, List.set_cons_succ, List.set_cons_zero]
      refine hK _ _ ?_
      clear hK K
      have HS := Lib.hid hs9; have HB := Lib.hid hs
      clear hs9 hs
      go_wp2
      go_ret
      obtain ⟨l', q1, q2, q3⟩ := HS.out
      exact ⟨s9, l', rfl, q1, ⟨q2, q3⟩, HB.out⟩

set_option maxHeartbeats 1000000 in
theorem divided_any (k n c g : Nat) (A : Option Addr) (l : List Mn) (r : Bool) (w : World) (hb : SBox w g (.slice A n c)) (hm : Ms w A n l) (hk : k < n) (hn : n ≤ 1000000) (hc : n ≤ c) (hr : anyDv (mg l k) (l.drop (k + 1)) = r) :
    Calls Try.prog 40 #[.int .i64 (k : Nat), .pointer (some ⟨g, 0, none⟩)] w fun e w' => e = .returned (.bool r) ∧ Below w.heap.size w w' := by
  obtain ⟨b, o, rfl, hbl, hrg⟩ := hm.at_ hk
  have SB := Lib.hid hb; have HR := Lib.hid hrg; have HB := Lib.hid hbl; have HA := Lib.hid hr
  have HD : Hid (Ms w (if c = k + 1 then some ⟨b, o, none⟩ else some ⟨b, o + (k + 1) * 8, none⟩) (n - (k + 1)) (l.drop (k + 1))) := by
    have := hm.cut (k := k + 1) (cap := c) (by omega) hc
    simpa [Addr.add_mid, Hid] using this
  clear hb hm hbl hrg hr
  generalize hWW : w = W at *
  clear hWW
  go_enter Try.func40, Try.ntmps40
  go_wp2_with fail
  refine region_run (fun w' => Below W.heap.size W w') [.is (.slice (some ⟨b, o, none⟩) n c), .is (Value.int IntKind.i64 ((k : Nat))), .is (.pointer (some ⟨b, o + k * 8, none⟩)), .is (.agg (cls (mg l k))), .is (.slice (some ⟨b, o, none⟩) n c), .is (Value.int IntKind.i64 ((k : Nat))), .is (Value.int IntKind.i64 ((k : Nat) + 1)), .is (.slice (if c = k + 1 then some ⟨b, o, none⟩ else some ⟨b, o + (k + 1) * 8, none⟩) (n - (k + 1)) (c - (k + 1))), .is (Value.bool r), .is (Value.bool r)] [4, 5, 6, 7, 8, 9, 10, 11, 12, 3] (by kernel_rfl) (by kernel_rfl) (by kernel_rfl) (by rfl) (by kernel_rfl) ((Below.refl _ _).drew) (fun Q' => ?_) (fun K hK wn hs => ?_)
  · refine ⟨?_, ?_, ?_, ?_, ?_, ?_, ?_, ?_, ?_, ?_, trivial⟩
    · intro a' w' ha hs hw
      have eo1 : a'.tmps[1]? = some (.pointer (some ⟨g, 0, none⟩)) := (ha.rest 1 (by kernel_rfl)).trans rfl
      exact .inl ⟨wanted_none rfl, wp_val (run_load_sl rfl (ev_tmp eo1) (SB.out.below hs)) ⟨_, rfl, rfl, Below.refl _ _, hs⟩⟩
    · intro a' w' ha hs hw
      have eo0 : a'.tmps[0]? = some (Value.int IntKind.i64 ((k : Nat))) := (ha.rest 0 (by kernel_rfl)).trans rfl
      exact .inl ⟨wanted_none rfl, wp_val (run_move rfl (ev_tmp eo0)) ⟨_, rfl, rfl, Below.refl _ _, hs⟩⟩
    · intro a' w' ha hs hw
      obtain ⟨v0, e0, q0⟩ := hw 0 (by kernel_rfl) _ _ _ rfl rfl rfl
      obtain rfl : v0 = .slice (some ⟨b, o, none⟩) n c := q0
      obtain ⟨v1, e1, q1⟩ := hw 1 (by kernel_rfl) _ _ _ rfl rfl rfl
      obtain rfl : v1 = Value.int IntKind.i64 ((k : Nat)) := q1
      exact .inl ⟨wanted_none rfl, wp_val (run_at (k := k) rfl (ev_tmp e0) (ev_tmp e1) (by omega)) ⟨_, rfl, rfl, Below.refl _ _, hs⟩⟩
    · intro a' w' ha hs hw
      obtain ⟨v2, e2, q2⟩ := hw 2 (by kernel_rfl) _ _ _ rfl rfl rfl
      obtain rfl : v2 = .pointer (some ⟨b, o + k * 8, none⟩) := q2
      exact .inl ⟨wanted_none rfl, wp_val (run_load_mid rfl (ev_tmp e2) (rangeAt_keep HR.out (hs.block _ HB.out))) ⟨_, rfl, rfl, Below.refl _ _, hs⟩⟩
    · intro a' w' ha hs hw
      have eo1 : a'.tmps[1]? = some (.pointer (some ⟨g, 0, none⟩)) := (ha.rest 1 (by kernel_rfl)).trans rfl
      exact .inl ⟨wanted_none rfl, wp_val (run_load_sl rfl (ev_tmp eo1) (SB.out.below hs)) ⟨_, rfl, rfl, Below.refl _ _, hs⟩⟩
    · intro a' w' ha hs hw
      have eo0 : a'.tmps[0]? = some (Value.int IntKind.i64 ((k : Nat))) := (ha.rest 0 (by kernel_rfl)).trans rfl
      exact .inl ⟨wanted_none rfl, wp_val (run_move rfl (ev_tmp eo0)) ⟨_, rfl, rfl, Below.refl _ _, hs⟩⟩
    · intro a' w' ha hs hw
      obtain ⟨v5, e5, q5⟩ := hw 5 (by kernel_rfl) _ _ _ rfl rfl rfl
      obtain rfl : v5 = Value.int IntKind.i64 ((k : Nat)) := q5
      exact .inl ⟨wanted_none rfl, wp_val (run_add_int rfl (ev_tmp e5) rfl (by omega) (by omega)) ⟨_, rfl, rfl, Below.refl _ _, hs⟩⟩
    · intro a' w' ha hs hw
      obtain ⟨v4, e4, q4⟩ := hw 4 (by kernel_rfl) _ _ _ rfl rfl rfl
      obtain rfl : v4 = .slice (some ⟨b, o, none⟩) n c := q4
      obtain ⟨v6, e6, q6⟩ := hw 6 (by kernel_rfl) _ _ _ rfl rfl rfl
      obtain rfl : v6 = Value.int IntKind.i64 ((k : Nat) + 1) := q6
      exact .inl ⟨wanted_none rfl, wp_val (run_lo (k := (k + 1)) rfl (ev_tmp e4) (ev_tmp e6) (by omega) (by omega)) ⟨_, rfl, rfl, Below.refl _ _, hs⟩⟩
    · intro a' w' ha hs hw
      obtain ⟨v3, e3, q3⟩ := hw 3 (by kernel_rfl) _ _ _ rfl rfl rfl
      obtain rfl : v3 = .agg (cls (mg l k)) := q3
      obtain ⟨v7, e7, q7⟩ := hw 7 (by kernel_rfl) _ _ _ rfl rfl rfl
      obtain rfl : v7 = .slice (if c = k + 1 then some ⟨b, o, none⟩ else some ⟨b, o + (k + 1) * 8, none⟩) (n - (k + 1)) (c - (k + 1)) := q7
      exact .inl ⟨wanted_none rfl, call_step rfl Try.func34 (by kernel_rfl) rfl (map_two (ev_tmp e3) (ev_tmp e7)) (in_is (mg l k) _ _ _ (l.drop (k + 1)) r _ (HD.out.below hs) (by omega) HA.out) (fun e w2 he => by obtain ⟨rfl, hb⟩ := he; exact ⟨_, rfl, _, rfl, rfl, hb, hs.trans (hb.mono hs.size)⟩)⟩
    · intro a' w' ha hs hw
      obtain ⟨v8, e8, q8⟩ := hw 8 (by kernel_rfl) _ _ _ rfl rfl rfl
      obtain rfl : v8 = Value.bool r := q8
      exact .inl ⟨wanted_none rfl, wp_val (run_assign rfl (ev_tmp e8)) ⟨_, rfl, rfl, Below.refl _ _, hs⟩⟩
  simp only [allK]
  simp only [setAll, List.set_cons_succ, List.set_cons_zero]
  refine hK _ _ ?_
  clear hK K
  have HS := Lib.hid hs
  clear hs
  go_wp2
  all_goals
    go_ret
    exact ⟨rfl, HS.out⟩
end Go.Proofs.Ytchkaaeipafdnaa
