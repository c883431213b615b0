/-
  Same and List of the reference.
-/
import Derived.Test.YtchkaaeipafdnaaMonI
namespace Go.Proofs.Ytchkaaeipafdnaa
open Go.RowKit
attribute [local go_sem ↓] Go.wp_at_zero Go.wp_at_succ
set_option maxHeartbeats 1000000 in
theorem same_true (va vb : Value) (la lb : List Mn) (w : World) (ha : Sl w va la) (hb : Sl w vb lb) (hn : la.length = lb.length) (hl : la.length ≤ 1000000) (he : ∀ k, k < la.length → Eqv (mg la k) (mg lb k)) :
    Calls Try.prog 35 #[va, vb] w fun e w' => e = .returned (.bool true) ∧ Below w.heap.size w w' := by
  obtain ⟨A, n, c, rfl, p1, p2, p3, p4⟩ := ha
  obtain ⟨B, m, d, rfl, p5, p6, p7, p8⟩ := hb
  have X := Lib.hid p4; have Y := Lib.hid p8; have HE := Lib.hid he; have LX := Lib.hid p4.len
  have hnm : m = n := by have := p4.len; have := p8.len; omega
  have hn1 : n ≤ 1000000 := by have := p4.len; omega
  subst hnm
  clear p4 p8 he hn hl p3 p7
  go_enter Try.func35, Try.ntmps35
  go_wp2
  go_loopw [5] (fun i wr => ∃ k : Nat, k ≤ m ∧ i = .int .i64 k ∧ Below w.heap.size w wr) (fun i _ => m - (intOf i).toNat)
  case atStart => exact ⟨0, by omega, rfl, Below.refl _ _⟩
  case round =>
    obtain ⟨k, hk, rfl, hd⟩ := hrel
    have DD := Lib.hid hd
    clear hd
    by_cases hlt : k < m
    · obtain ⟨b1, o1, rfl, l1, r1⟩ := X.out.at_ hlt
      obtain ⟨b2, o2, rfl, l2, r2⟩ := Y.out.at_ hlt
      have R1 := Lib.hid (rangeAt_keep r1 (DD.out.block _ l1)); have R2 := Lib.hid (rangeAt_keep r2 (DD.out.block _ l2))
      have L1 := Lib.hid (show b1 < wr.heap.size by have := DD.out.size; omega); have L2 := Lib.hid (show b2 < wr.heap.size by have := DD.out.size; omega)
      have EQ := Lib.hid (show (!eqa (mg la k) (mg lb k)) = false by rw [eqa_true.2 (HE.out k (by rw [LX.out]; exact hlt))]; rfl)
      clear r1 r2 l1 l2
      go_wp2_with fail
      refine region_run (fun w' => Below wr.heap.size wr w') [.is (.slice (some ⟨b1, o1, none⟩) m c), .is (Value.int IntKind.i64 ((k : Nat))), .is (.pointer (some ⟨b1, o1 + k * 8, none⟩)), .is (.agg (cls (mg la k))), .is (.slice (some ⟨b2, o2, none⟩) m d), .is (Value.int IntKind.i64 ((k : Nat))), .is (.pointer (some ⟨b2, o2 + k * 8, none⟩)), .is (.agg (cls (mg lb k))), .is (Value.bool false)] [17, 18, 19, 20, 21, 22, 23, 24, 25] (by kernel_rfl) (by kernel_rfl) (by kernel_rfl) (by rfl) (by kernel_rfl) ((Below.refl _ _).drew) (fun Q' => ?_) (fun K hK wn hs => ?_)
      · refine ⟨?_, ?_, ?_, ?_, ?_, ?_, ?_, ?_, ?_, trivial⟩
        · intro a' w' ha hs hw
          have eo0 : a'.tmps[0]? = some (.slice (some ⟨b1, o1, none⟩) m c) := (ha.rest 0 (by kernel_rfl)).trans rfl
          exact .inl ⟨wanted_none rfl, wp_val (run_move rfl (ev_tmp eo0)) ⟨_, rfl, rfl, Below.refl _ _, hs⟩⟩
        · intro a' w' ha hs hw
          have eo5 : a'.tmps[5]? = some (Value.int IntKind.i64 ((k : Nat))) := (ha.rest 5 (by kernel_rfl)).trans rfl
          exact .inl ⟨wanted_none rfl, wp_val (run_move rfl (ev_tmp eo5)) ⟨_, rfl, rfl, Below.refl _ _, hs⟩⟩
        · intro a' w' ha hs hw
          obtain ⟨v0, e0, q0⟩ := hw 0 (by kernel_rfl) _ _ _ rfl rfl rfl
          obtain rfl : v0 = .slice (some ⟨b1, o1, none⟩) m c := q0
          obtain ⟨v1, e1, q1⟩ := hw 1 (by kernel_rfl) _ _ _ rfl rfl rfl
          obtain rfl : v1 = Value.int IntKind.i64 ((k : Nat)) := q1
          exact .inl ⟨wanted_none rfl, wp_val (run_at (k := k) rfl (ev_tmp e0) (ev_tmp e1) (by omega)) ⟨_, rfl, rfl, Below.refl _ _, hs⟩⟩
        · intro a' w' ha hs hw
          obtain ⟨v2, e2, q2⟩ := hw 2 (by kernel_rfl) _ _ _ rfl rfl rfl
          obtain rfl : v2 = .pointer (some ⟨b1, o1 + k * 8, none⟩) := q2
          exact .inl ⟨wanted_none rfl, wp_val (run_load_mid rfl (ev_tmp e2) (rangeAt_keep R1.out (hs.block _ L1.out))) ⟨_, rfl, rfl, Below.refl _ _, hs⟩⟩
        · intro a' w' ha hs hw
          have eo1 : a'.tmps[1]? = some (.slice (some ⟨b2, o2, none⟩) m d) := (ha.rest 1 (by kernel_rfl)).trans rfl
          exact .inl ⟨wanted_none rfl, wp_val (run_move rfl (ev_tmp eo1)) ⟨_, rfl, rfl, Below.refl _ _, hs⟩⟩
        · intro a' w' ha hs hw
          have eo5 : a'.tmps[5]? = some (Value.int IntKind.i64 ((k : Nat))) := (ha.rest 5 (by kernel_rfl)).trans rfl
          exact .inl ⟨wanted_none rfl, wp_val (run_move rfl (ev_tmp eo5)) ⟨_, rfl, rfl, Below.refl _ _, hs⟩⟩
        · intro a' w' ha hs hw
          obtain ⟨v4, e4, q4⟩ := hw 4 (by kernel_rfl) _ _ _ rfl rfl rfl
          obtain rfl : v4 = .slice (some ⟨b2, o2, none⟩) m d := q4
          obtain ⟨v5, e5, q5⟩ := hw 5 (by kernel_rfl) _ _ _ rfl rfl rfl
          obtain rfl : v5 = Value.int IntKind.i64 ((k : Nat)) := q5
          exact .inl ⟨wanted_none rfl, wp_val (run_at (k := k) rfl (ev_tmp e4) (ev_tmp e5) (by omega)) ⟨_, rfl, rfl, Below.refl _ _, hs⟩⟩
        · intro a' w' ha hs hw
          obtain ⟨v6, e6, q6⟩ := hw 6 (by kernel_rfl) _ _ _ rfl rfl rfl
          obtain rfl : v6 = .pointer (some ⟨b2, o2 + k * 8, none⟩) := q6
          exact .inl ⟨wanted_none rfl, wp_val (run_load_mid rfl (ev_tmp e6) (rangeAt_keep R2.out (hs.block _ L2.out))) ⟨_, rfl, rfl, Below.refl _ _, hs⟩⟩
        · intro a' w' ha hs hw
          obtain ⟨v3, e3, q3⟩ := hw 3 (by kernel_rfl) _ _ _ rfl rfl rfl
          obtain rfl : v3 = .agg (cls (mg la k)) := q3
          obtain ⟨v7, e7, q7⟩ := hw 7 (by kernel_rfl) _ _ _ rfl rfl rfl
          obtain rfl : v7 = .agg (cls (mg lb k)) := q7
          exact .inl ⟨wanted_none rfl, wp_val (run_neq_arr rfl (ev_tmp e3) (ev_tmp e7)) ⟨_, rfl, congrArg Value.bool (EQ.out), Below.refl _ _, hs⟩⟩
      simp only [allK]
      simp only [setAll, List.set_cons_succ, List.set_cons_zero]
      refine hK _ _ ?_
      clear hK K
      have HS := Lib.hid (below_link DD.out hs DD.out.size)
      clear hs
      go_wp2
      go_roundw
      case rel => exact ⟨k + 1, by omega, by go_num, HS.out⟩
      case measure => simp [intOf]; omega
    · go_wp2
      go_ret
      exact ⟨rfl, DD.out⟩

theorem underRaw : Try.prog.underlying 24 = some (.array 8 22) := by kernel_rfl
theorem infoRaw : (Try.prog.info? 24).map (·.size) = some 8 := by kernel_rfl
/-- A slice of raw monomials. -/
def Us (w : World) (A : Option Addr) (n : Nat) (l : List Mn) : Prop :=
  l.length = n ∧ (∀ m ∈ l, Va m) ∧ (0 < n → ∃ b o, A = some ⟨b, o, none⟩ ∧ b < w.heap.size ∧ ∀ k, k < n → w.rangeAt b (o + k * 8) (ucl (mg l k)).toList)
theorem Us.keep {w w' : World} {A : Option Addr} {n : Nat} {l : List Mn} (h : Us w A n l) (hb : Below w.heap.size w w') : Us w' A n l :=
  ⟨h.1, h.2.1, fun hn => by
    obtain ⟨b, o, e, hlt, hc⟩ := h.2.2 hn
    exact ⟨b, o, e, by have := hb.size; omega, fun k hkn => rangeAt_keep (hc k hkn) (hb.block b hlt)⟩⟩
theorem ldu {ops : Array Oper} {rest : List Oper} {o : Oper} {a : Act} {w : World} {Q : Exit → Act → World → Prop} (x : Operand) (b q : Nat) {f : Nat → Int} (r : w.rangeAt b q (ucl f).toList) (hgd : o.guard = none) (ho : o.op = .load 24 x)
    (hx : a.eval x = .pointer (some ⟨b, q, none⟩)) (h : wpList Try.prog ops Q rest (a.put o.dst (.agg (ucl f))) w) : wpList Try.prog ops Q (o :: rest) a w :=
  wpList_load_mid hgd 24 x ho b q hx (ucl f).toList _ r underRaw rfl infoRaw h
theorem take_snoc (X : List Mn) {k : Nat} (h : k < X.length) : X.take (k + 1) = X.take k ++ [mg X k] := by
  rw [List.take_succ_eq_append_getElem h]; simp [mg, h]
set_option maxHeartbeats 1000000 in
theorem list_any (A : Option Addr) (n c : Nat) (X : List Mn) (w : World) (hl : Us w A n X) (hn : n ≤ 9223372036854775807) : Calls Try.prog 32 #[.slice A n c, .int .i64 12] w (RetS w (fun l => l = X.take 12)) := by
  have HU := Lib.hid hl; have HN := Lib.hid hn; have LX := Lib.hid hl.1
  clear hl
  go_enter Try.func32, Try.ntmps32
  go_wp2
  have D0 := Lib.hid ((Below.refl w.heap.size w).alloc (Nat.le_refl _) (Obj.cells #[] 27))
  have O0 := Lib.hid (World.ownsRow_made (base := w.heap.size) (e := 27) (size := 8) w #[] 0 (Nat.le_refl _) (by unfold maxLen; omega) rfl)
  generalize w.alloc (Obj.cells #[] 27) = W at *
  go_loopw [5, 6] (fun s5 i wr => ∃ k : Nat, k ≤ n ∧ k ≤ 12 ∧ i = .int .i64 k ∧ wr.ownsRow w.heap.size 27 8 s5 (X.take k).length (cs (X.take k)) ∧ Below w.heap.size w wr) (fun _ i _ => n - (intOf i).toNat)
  case atStart => exact ⟨0, by omega, by omega, rfl, O0.out, D0.out⟩
  case round =>
    obtain ⟨k, hk, hk2, rfl, ho, hd⟩ := hrel
    have OW := Lib.hid ho; have DD := Lib.hid hd
    clear ho hd
    by_cases hlt : k < n
    · by_cases hlt2 : k < 12
      · obtain ⟨b, q, rfl, hbl, hrg⟩ : ∃ b o, A = some ⟨b, o, none⟩ ∧ b < w.heap.size ∧ w.rangeAt b (o + k * 8) (ucl (mg X k)).toList := by
          obtain ⟨b, o, e, hb, hc⟩ := HU.out.2.2 (by omega)
          exact ⟨b, o, e, hb, hc k hlt⟩
        have HR := Lib.hid (rangeAt_keep hrg (DD.out.block _ hbl))
        have HV := Lib.hid (HU.out.2.1 _ (mg_mem (l := X) (k := k) (by have := LX.out; omega)))
        clear hrg hbl
        go_wp2_with (first | (refine ldu _ b (q + k * 8) HR.out rfl rfl rfl ?_) | fail)
        refine (made_any (mg X k) _ HV.out).mono ?_
        rintro e w1 ⟨rfl, hb1⟩
        have O1 := Lib.hid (OW.out.kept (w' := w1) (row := none) ⟨hb1.os, hb1.tape, hb1.output, hb1.size, fun k hk _ => hb1.block k hk⟩ (by cases u5.ownBlock <;> simp))
        have D1 := Lib.hid (below_link DD.out hb1 DD.out.size)
        have Z1 := Lib.hid (show w.heap.size ≤ w1.heap.size by have := hb1.size; have := DD.out.size; omega)
        clear hb1
        go_wp2_with (at_builtin; refine app _ _ w.heap.size (l := [mg X k]) (O1.out.alloc _) (one_sl w1 (mg X k)) (by simp; omega) (by have := Z1.out; simp; omega) rfl rfl rfl rfl ?_; intro v' w' g1 g2 _; have G1 := Lib.hid g1; have G2 := Lib.hid g2; clear g1 g2)
        have D3 := Lib.hid ((D1.out.alloc Z1.out (Obj.cells (cls (mg X k)) 27)).grown G2.out (by have := Z1.out; simp; omega) (fun k hk => (O1.out.lt k hk).1))
        go_roundw
        case rel => exact ⟨k + 1, by omega, by omega, by go_num, by rw [take_snoc X (by have := LX.out; omega)]; exact G1.out, D3.out⟩
        case measure => simp [intOf]; omega
      · obtain rfl : k = 12 := by omega
        go_wp2
        go_ret
        exact ⟨_, _, rfl, Sl.of_own OW.out, rfl, DD.out⟩
    · have hkn : k = n := by omega
      go_wp2
      go_ret
      exact ⟨_, _, rfl, Sl.of_own OW.out, by rw [List.take_of_length_le (by rw [LX.out]; omega), List.take_of_length_le (by rw [LX.out]; omega)], DD.out⟩
end Go.Proofs.Ytchkaaeipafdnaa
