/-
  Slices as values; append; merge.
-/
import Derived.Test.YtchkaaeipafdnaaMonN
namespace Go.Proofs.Ytchkaaeipafdnaa
open Go.RowKit
attribute [local go_sem ↓] Go.wp_at_zero Go.wp_at_succ

/-- The value is a slice that reads as l. -/
def Sl (w : World) (v : Value) (l : List Mn) : Prop := ∃ A n c, v = .slice A n c ∧ n ≤ c ∧ c ≤ 9223372036854775807 ∧ (A = none → c = 0) ∧ Ms w A n l
theorem Sl.below {w w' : World} {v : Value} {l : List Mn} (h : Sl w v l) (hb : Below w.heap.size w w') : Sl w' v l := by
  obtain ⟨A, n, c, e, h1, h2, h3, h4⟩ := h
  exact ⟨A, n, c, e, h1, h2, h3, h4.below hb⟩
theorem Sl.drewN {w : World} {v : Value} {l : List Mn} (h : Sl w v l) (k : Nat) : Sl (w.drewN k) v l := by
  obtain ⟨A, n, c, e, h1, h2, h3, h4⟩ := h
  exact ⟨A, n, c, e, h1, h2, h3, h4.drewN k⟩
theorem Sl.of_own {w : World} {base : Nat} {v : Value} {l : List Mn} (h : w.ownsRow base 27 8 v l.length (cs l)) : Sl w v l := by
  obtain ⟨A, c, rfl, h1, h2⟩ := own_cap h
  refine ⟨A, l.length, c, rfl, h1, h2, ?_, Ms.of_own h rfl⟩
  intro hA
  subst hA
  obtain ⟨_, ⟨e, _⟩ | ⟨g, cap, cur, e, _⟩⟩ := h
  · injection e
  · simp at e
theorem infoRow : (Try.prog.info? 27).map (fun i => (i.zero, i.size, i.bytes)) = some (some (arr nul), 8, 64) := by kernel_rfl
theorem app {ops : Array Oper} {rest : List Oper} {o : Oper} {a : Act} {w : World} {Q : Exit → Act → World → Prop} (s x : Operand) (base : Nat) {v u : Value} {out l : List Mn} (hown : w.ownsRow base 27 8 v out.length (cs out)) (hl : Sl w u l)
    (hn : out.length + l.length ≤ 1000000000) (hbase : base ≤ w.heap.size) (hgd : o.guard = none)
    (ho : o.op = .call { callee := .builtin .append, args := #[s, x], argTypes := #[42, 42] }) (hs : a.eval s = v) (hx : a.eval x = u)
    (h : ∀ v' w', w'.ownsRow base 27 8 v' (out ++ l).length (cs (out ++ l)) → w.grownBy w' v.ownBlock → (v' = .slice none 0 0 → out ++ l = []) → wpList Try.prog ops Q rest (a.put o.dst v') w') : wpList Try.prog ops Q (o :: rest) a w := by
  obtain ⟨i0, hi, hz0, hz1, hz2⟩ := info_parts infoRow
  obtain ⟨A, n, c, rfl, h1, h2, h3, h4⟩ := hl
  cases A with
  | none =>
    have hc := h3 rfl
    subst hc
    obtain rfl : n = 0 := by omega
    have hl0 : l = [] := List.eq_nil_of_length_eq_zero h4.len
    subst hl0
    refine wpList_append_own_none hgd s x _ ho base 27 i0 8 underSl hi v _ _ hs hown hx ?_
    refine h v w (by rw [List.append_nil]; exact hown) (World.grownBy.refl _ _) (fun e => ?_)
    subst e
    have h5 := hown.1
    obtain ⟨_, ⟨_, h6⟩ | ⟨g, cap, cur, e, _⟩⟩ := hown
    · rw [List.append_nil]; exact List.eq_nil_of_length_eq_zero h6
    · simp at e
  | some ad =>
    have hlen := h4.len
    refine wpList_append_own w hgd s x _ ho base 27 i0 (arr nul) 8 64 underSl hi hz0 hz1 hz2 rfl (by decide) v out.length (cs out) hs hown ad n c (cs l) hx (by rw [cs_length, hlen]) ?_ (cs_one_cell l) (by unfold maxLen; omega) (by omega) hbase ?_
    · intro j u hu
      have hj : j < (cs l).length := by
        rcases Nat.lt_or_ge j (cs l).length with h | h
        · exact h
        · rw [List.getElem?_eq_none h] at hu; cases hu
      rw [cs_length] at hj
      obtain ⟨b, q, e, _, hr⟩ := h4.at_ (k := j / 8) (by omega)
      cases e
      have hm : j % 8 < (cls (mg l (j / 8))).toList.length := by simp; omega
      have h5 := cs_get l (j / 8) (j % 8) _ _ (mg_get (by omega)) (List.getElem?_eq_getElem hm)
      rw [show j / 8 * 8 + j % 8 = j by omega, hu] at h5
      have h6 := hr (j % 8) _ (List.getElem?_eq_getElem hm)
      cases h5
      rw [Addr.add_mid, ← h6]
      congr 2
      omega
    · intro v' w' g1 g2 g3
      refine h v' w' (by rw [List.length_append, cs_append, hlen]; exact g1) g2 (fun e => ?_)
      obtain ⟨e1, e2⟩ := g3.1 e
      have h5 : out = [] := by
        subst e1
        obtain ⟨_, ⟨_, h6⟩ | ⟨g, cap, cur, e, _⟩⟩ := hown
        · exact List.eq_nil_of_length_eq_zero h6
        · simp at e
      subst h5
      exact List.eq_nil_of_length_eq_zero (by rw [List.nil_append]; omega)

theorem cons_mg {x : List Mn} (h : 0 < x.length) : x = mg x 0 :: x.drop 1 := by
  cases x with
  | nil => simp at h
  | cons a l => rfl
theorem one_sl (w : World) (m : Mn) : Sl (w.alloc (Obj.cells (cls m) 27)) (.slice (some ⟨w.heap.size, 0, none⟩) 1 1) [m] := by
  refine ⟨_, 1, 1, rfl, by omega, by omega, (fun h => by cases h), rfl, fun _ => ⟨_, 0, rfl, by simp, fun k hk => ?_⟩⟩
  obtain rfl : k = 0 := by omega
  intro j v hv
  have hr := Row.new w m
  have hj : j < 8 := by
    rcases Nat.lt_or_ge j 8 with h | h
    · exact h
    · rw [List.getElem?_eq_none (by simpa using h)] at hv; cases hv
  show (w.alloc (Obj.cells (cls m) 27)).cell? ⟨w.heap.size, 0 + 0 * 8 + j, none⟩ = some v
  rw [show 0 + 0 * 8 + j = j by omega, cell_of_row _ _ _ _ _ (0, 0) hr]
  simpa [mg] using hv
theorem cut_val {b o d n c : Nat} : Value.slice (if d = 1 then some ⟨b, o, none⟩ else some ⟨b, o + 8, none⟩) n c = Value.slice (if d = 1 then some ⟨b, o, none⟩ else Option.map (fun x : Addr => x.add (1 * 8)) (some ⟨b, o, none⟩)) n c := by simp [Addr.add_mid]
theorem cut_nil {d : Nat} {p q : Addr} {f : Addr → Addr} : (if d = 1 then some p else Option.map f (some q)) = none → d - 1 = 0 := by split <;> simp
def slen : Value → Nat
  | .slice _ n _ => n
  | _ => 0
set_option maxHeartbeats 1000000 in
theorem merge_any (va vb : Value) (la lb : List Mn) (w : World) (ha : Sl w va la) (hb : Sl w vb lb) (sa : Srt la) (sb : Srt lb) (hn : la.length + lb.length ≤ 1000000) :
    Calls Try.prog 41 #[va, vb] w fun e w' => ∃ v l, e = .returned v ∧ Sl w' v l ∧ l.Perm (la ++ lb) ∧ Srt l ∧ Below w.heap.size w w' := by
  obtain ⟨A0, n0, c0, rfl, hA1, hA2, hA3, hA4⟩ := ha
  obtain ⟨B0, m0, d0, rfl, hB1, hB2, hB3, hB4⟩ := hb
  have X0 := Lib.hid hA4; have Y0 := Lib.hid hB4; have SA := Lib.hid sa; have SB := Lib.hid sb; have HN := Lib.hid hn; have HA := Lib.hid hA3; have HB := Lib.hid hB3
  clear hA4 hB4 sa sb hn hA3 hB3
  go_enter Try.func41, Try.ntmps41
  go_wp2
  go_loopw [0, 1, 5] (fun s0 s1 s5 wr => ∃ A n c B m d x y out, s0 = .slice A n c ∧ s1 = .slice B m d ∧ n ≤ c ∧ c ≤ 9223372036854775807 ∧ m ≤ d ∧ d ≤ 9223372036854775807 ∧ (A = none → c = 0) ∧ (B = none → d = 0) ∧
      Ms w A n x ∧ Ms w B m y ∧ wr.ownsRow w.heap.size 27 8 s5 out.length (cs out) ∧ Below w.heap.size w wr ∧ MI la lb x y out) (fun s0 s1 _ _ => slen s0 + slen s1)
  case atStart => exact ⟨_, _, _, _, _, _, la, lb, [], rfl, rfl, hA1, hA2, hB1, hB2, HA.out, HB.out, X0.out, Y0.out, World.ownsRow_nil _ _ _ _, Below.refl _ _, MI.start SA.out SB.out⟩
  case round =>
    obtain ⟨A, n, c, B, m, d, x, y, out, rfl, rfl, p1, p2, p3, p4, p5, p6, hx, hy, ho, hd, hm⟩ := hrel
    have X := Lib.hid hx; have Y := Lib.hid hy; have OW := Lib.hid ho; have DD := Lib.hid hd; have MIH := Lib.hid hm; have PA := Lib.hid p5; have PB := Lib.hid p6
    have LO := Lib.hid (show out.length + (n + m) ≤ 1000000 by have := hm.len; have := HN.out; rw [hx.len, hy.len] at *; omega)
    clear hx hy ho hd hm p5 p6

    by_cases hn0 : 0 < n
    · by_cases hm0 : 0 < m
      · obtain ⟨b1, o1, rfl, l1, r1⟩ := X.out.at_ hn0
        obtain ⟨b2, o2, rfl, l2, r2⟩ := Y.out.at_ hm0
        have H1 := Lib.hid (rangeAt_keep r1 (DD.out.block _ l1)); have H2 := Lib.hid (rangeAt_keep r2 (DD.out.block _ l2))
        have L1 := Lib.hid (show b1 < wr.heap.size by have := DD.out.size; omega); have L2 := Lib.hid (show b2 < wr.heap.size by have := DD.out.size; omega)
        clear r1 r2 l1 l2
        rcases lex_total (mg x 0) (mg y 0) with hcm | hcm | hcm
        · skip
          have HC : Hid (CM (mg x 0) (mg y 0) (-1)) := .inl ⟨hcm, rfl⟩
          have HG : Hid (Ge (mg y 0) (mg x 0)) := fun hl => hl.asymm hcm
          clear hcm
          go_wp2_with fail
          refine region_run (fun w' => Below wr.heap.size wr w') [.is (.slice (some ⟨b1, o1, none⟩) n c), .is (.pointer (some ⟨b1, o1 + 0 * 8, none⟩)), .is (.agg (cls (mg x 0))), .is (.slice (some ⟨b2, o2, none⟩) m d), .is (.pointer (some ⟨b2, o2 + 0 * 8, none⟩)), .is (.agg (cls (mg y 0))), .is (Value.int IntKind.i64 (-1)), .is (Value.bool true)] [14, 15, 16, 17, 18, 19, 20, 21] (by kernel_rfl) (by kernel_rfl) (by kernel_rfl) (by rfl) (by kernel_rfl) ((Below.refl _ _).drew) (fun Q' => ?_) (fun K hK wn hs => ?_)
          · refine ⟨?_, ?_, ?_, ?_, ?_, ?_, ?_, ?_, trivial⟩
            · intro a' w' ha hs hw
              have eo0 : a'.tmps[0]? = some (.slice (some ⟨b1, o1, none⟩) n c) := (ha.rest 0 (by kernel_rfl)).trans rfl
              exact .inl ⟨wanted_none rfl, wp_val (run_move rfl (ev_tmp eo0)) ⟨_, rfl, rfl, Below.refl _ _, hs⟩⟩
            · intro a' w' ha hs hw
              obtain ⟨v0, e0, q0⟩ := hw 0 (by kernel_rfl) _ _ _ rfl rfl rfl
              obtain rfl : v0 = .slice (some ⟨b1, o1, none⟩) n c := q0
              exact .inl ⟨wanted_none rfl, wp_val (run_at (k := 0) rfl (ev_tmp e0) rfl (by omega)) ⟨_, rfl, rfl, Below.refl _ _, hs⟩⟩
            · intro a' w' ha hs hw
              obtain ⟨v1, e1, q1⟩ := hw 1 (by kernel_rfl) _ _ _ rfl rfl rfl
              obtain rfl : v1 = .pointer (some ⟨b1, o1 + 0 * 8, none⟩) := q1
              exact .inl ⟨wanted_none rfl, wp_val (run_load_mid rfl (ev_tmp e1) (rangeAt_keep H1.out (hs.block _ L1.out))) ⟨_, rfl, rfl, Below.refl _ _, hs⟩⟩
            · intro a' w' ha hs hw
              have eo1 : a'.tmps[1]? = some (.slice (some ⟨b2, o2, none⟩) m d) := (ha.rest 1 (by kernel_rfl)).trans rfl
              exact .inl ⟨wanted_none rfl, wp_val (run_move rfl (ev_tmp eo1)) ⟨_, rfl, rfl, Below.refl _ _, hs⟩⟩
            · intro a' w' ha hs hw
              obtain ⟨v3, e3, q3⟩ := hw 3 (by kernel_rfl) _ _ _ rfl rfl rfl
              obtain rfl : v3 = .slice (some ⟨b2, o2, none⟩) m d := q3
              exact .inl ⟨wanted_none rfl, wp_val (run_at (k := 0) rfl (ev_tmp e3) rfl (by omega)) ⟨_, rfl, rfl, Below.refl _ _, hs⟩⟩
            · intro a' w' ha hs hw
              obtain ⟨v4, e4, q4⟩ := hw 4 (by kernel_rfl) _ _ _ rfl rfl rfl
              obtain rfl : v4 = .pointer (some ⟨b2, o2 + 0 * 8, none⟩) := q4
              exact .inl ⟨wanted_none rfl, wp_val (run_load_mid rfl (ev_tmp e4) (rangeAt_keep H2.out (hs.block _ L2.out))) ⟨_, rfl, rfl, Below.refl _ _, hs⟩⟩
            · intro a' w' ha hs hw
              obtain ⟨v2, e2, q2⟩ := hw 2 (by kernel_rfl) _ _ _ rfl rfl rfl
              obtain rfl : v2 = .agg (cls (mg x 0)) := q2
              obtain ⟨v5, e5, q5⟩ := hw 5 (by kernel_rfl) _ _ _ rfl rfl rfl
              obtain rfl : v5 = .agg (cls (mg y 0)) := q5
              exact .inl ⟨wanted_none rfl, call_step rfl Try.func19 (by kernel_rfl) rfl (map_two (ev_tmp e2) (ev_tmp e5)) (cmp_is (mg x 0) (mg y 0) (-1) _ (HC.out)) (fun e w2 he => by obtain ⟨rfl, hb⟩ := he; exact ⟨_, rfl, _, rfl, rfl, hb, hs.trans (hb.mono hs.size)⟩)⟩
            · intro a' w' ha hs hw
              obtain ⟨v6, e6, q6⟩ := hw 6 (by kernel_rfl) _ _ _ rfl rfl rfl
              obtain rfl : v6 = Value.int IntKind.i64 (-1) := q6
              exact .inl ⟨wanted_none rfl, wp_val (run_lss_int rfl (ev_tmp e6) rfl) ⟨_, rfl, congrArg Value.bool (by decide), Below.refl _ _, hs⟩⟩
          simp only [allK]
          simp only [setAll, List.set_cons_succ, List.set_cons_zero]
          refine hK _ _ ?_
          clear hK K
          have hown1 := OW.out.kept (w' := wn) (row := none) ⟨hs.os, hs.tape, hs.output, hs.size, fun k hk _ => hs.block k hk⟩ (by cases u5.ownBlock <;> simp)
          have OW1 := Lib.hid hown1
          have D1 := Lib.hid (below_link DD.out hs DD.out.size)
          have R1 := Lib.hid (rangeAt_keep H2.out (hs.block _ L2.out))
          have S1 := Lib.hid (show w.heap.size ≤ wn.heap.size by have := DD.out.size; have := hs.size; omega)
          clear hs hown1
          go_upto_region 6 with (first | (refine ldm _ b2 (o2 + 0 * 8) R1.out rfl rfl rfl ?_) | (at_builtin; refine app _ _ w.heap.size (l := [mg y 0]) (OW1.out.alloc _) (one_sl wn (mg y 0)) (by have := LO.out; simp; omega) (by have := S1.out; simp; omega) rfl rfl rfl rfl ?_; intro v' w' g1 g2 _; have G1 := Lib.hid g1; have G2 := Lib.hid g2; clear g1 g2))
          have D2 := Lib.hid ((D1.out.alloc S1.out (Obj.cells (cls (mg y 0)) 27)).grown G2.out (by have := S1.out; simp; omega) (fun k hk => (OW1.out.lt k hk).1))
          have M1 := Lib.hid (show MI la lb (y.drop 1) x (out ++ [mg y 0]) by
            have h1 := MIH.out.swap
            rw [show y = mg y 0 :: y.drop 1 from cons_mg (by have := Y.out.len; omega), show x = mg x 0 :: x.drop 1 from cons_mg (by have := X.out.len; omega)] at h1
            have h2 := h1.step HG.out
            rw [← show x = mg x 0 :: x.drop 1 from cons_mg (by have := X.out.len; omega)] at h2
            exact h2)
          have X1 := Lib.hid ((Y.out).cut (k := 1) (cap := d) (by omega) (by omega))
          clear OW D1 R1 MIH G2 OW1 S1
          go_wp2_with fail
          go_roundw
          case rel => exact ⟨_, m - 1, d - 1, _, n, c, y.drop 1, x, out ++ [mg y 0], cut_val, rfl, by omega, by omega, by omega, by omega, cut_nil, (fun h => by cases h), X1.out, X.out, G1.out, D2.out, M1.out⟩
          case measure => simp [slen]; omega

        · skip
          have HC : Hid (CM (mg x 0) (mg y 0) (0)) := .inr (.inl ⟨hcm, rfl⟩)
          have HG : Hid (Ge (mg x 0) (mg y 0)) := fun hl => (hl.right hcm.symm).irrefl
          clear hcm
          go_wp2_with fail
          refine region_run (fun w' => Below wr.heap.size wr w') [.is (.slice (some ⟨b1, o1, none⟩) n c), .is (.pointer (some ⟨b1, o1 + 0 * 8, none⟩)), .is (.agg (cls (mg x 0))), .is (.slice (some ⟨b2, o2, none⟩) m d), .is (.pointer (some ⟨b2, o2 + 0 * 8, none⟩)), .is (.agg (cls (mg y 0))), .is (Value.int IntKind.i64 (0)), .is (Value.bool false)] [14, 15, 16, 17, 18, 19, 20, 21] (by kernel_rfl) (by kernel_rfl) (by kernel_rfl) (by rfl) (by kernel_rfl) ((Below.refl _ _).drew) (fun Q' => ?_) (fun K hK wn hs => ?_)
          · refine ⟨?_, ?_, ?_, ?_, ?_, ?_, ?_, ?_, trivial⟩
            · intro a' w' ha hs hw
              have eo0 : a'.tmps[0]? = some (.slice (some ⟨b1, o1, none⟩) n c) := (ha.rest 0 (by kernel_rfl)).trans rfl
              exact .inl ⟨wanted_none rfl, wp_val (run_move rfl (ev_tmp eo0)) ⟨_, rfl, rfl, Below.refl _ _, hs⟩⟩
            · intro a' w' ha hs hw
              obtain ⟨v0, e0, q0⟩ := hw 0 (by kernel_rfl) _ _ _ rfl rfl rfl
              obtain rfl : v0 = .slice (some ⟨b1, o1, none⟩) n c := q0
              exact .inl ⟨wanted_none rfl, wp_val (run_at (k := 0) rfl (ev_tmp e0) rfl (by omega)) ⟨_, rfl, rfl, Below.refl _ _, hs⟩⟩
            · intro a' w' ha hs hw
              obtain ⟨v1, e1, q1⟩ := hw 1 (by kernel_rfl) _ _ _ rfl rfl rfl
              obtain rfl : v1 = .pointer (some ⟨b1, o1 + 0 * 8, none⟩) := q1
              exact .inl ⟨wanted_none rfl, wp_val (run_load_mid rfl (ev_tmp e1) (rangeAt_keep H1.out (hs.block _ L1.out))) ⟨_, rfl, rfl, Below.refl _ _, hs⟩⟩
            · intro a' w' ha hs hw
              have eo1 : a'.tmps[1]? = some (.slice (some ⟨b2, o2, none⟩) m d) := (ha.rest 1 (by kernel_rfl)).trans rfl
              exact .inl ⟨wanted_none rfl, wp_val (run_move rfl (ev_tmp eo1)) ⟨_, rfl, rfl, Below.refl _ _, hs⟩⟩
            · intro a' w' ha hs hw
              obtain ⟨v3, e3, q3⟩ := hw 3 (by kernel_rfl) _ _ _ rfl rfl rfl
              obtain rfl : v3 = .slice (some ⟨b2, o2, none⟩) m d := q3
              exact .inl ⟨wanted_none rfl, wp_val (run_at (k := 0) rfl (ev_tmp e3) rfl (by omega)) ⟨_, rfl, rfl, Below.refl _ _, hs⟩⟩
            · intro a' w' ha hs hw
              obtain ⟨v4, e4, q4⟩ := hw 4 (by kernel_rfl) _ _ _ rfl rfl rfl
              obtain rfl : v4 = .pointer (some ⟨b2, o2 + 0 * 8, none⟩) := q4
              exact .inl ⟨wanted_none rfl, wp_val (run_load_mid rfl (ev_tmp e4) (rangeAt_keep H2.out (hs.block _ L2.out))) ⟨_, rfl, rfl, Below.refl _ _, hs⟩⟩
            · intro a' w' ha hs hw
              obtain ⟨v2, e2, q2⟩ := hw 2 (by kernel_rfl) _ _ _ rfl rfl rfl
              obtain rfl : v2 = .agg (cls (mg x 0)) := q2
              obtain ⟨v5, e5, q5⟩ := hw 5 (by kernel_rfl) _ _ _ rfl rfl rfl
              obtain rfl : v5 = .agg (cls (mg y 0)) := q5
              exact .inl ⟨wanted_none rfl, call_step rfl Try.func19 (by kernel_rfl) rfl (map_two (ev_tmp e2) (ev_tmp e5)) (cmp_is (mg x 0) (mg y 0) (0) _ (HC.out)) (fun e w2 he => by obtain ⟨rfl, hb⟩ := he; exact ⟨_, rfl, _, rfl, rfl, hb, hs.trans (hb.mono hs.size)⟩)⟩
            · intro a' w' ha hs hw
              obtain ⟨v6, e6, q6⟩ := hw 6 (by kernel_rfl) _ _ _ rfl rfl rfl
              obtain rfl : v6 = Value.int IntKind.i64 (0) := q6
              exact .inl ⟨wanted_none rfl, wp_val (run_lss_int rfl (ev_tmp e6) rfl) ⟨_, rfl, congrArg Value.bool (by decide), Below.refl _ _, hs⟩⟩
          simp only [allK]
          simp only [setAll, List.set_cons_succ, List.set_cons_zero]
          refine hK _ _ ?_
          clear hK K
          have hown1 := OW.out.kept (w' := wn) (row := none) ⟨hs.os, hs.tape, hs.output, hs.size, fun k hk _ => hs.block k hk⟩ (by cases u5.ownBlock <;> simp)
          have OW1 := Lib.hid hown1
          have D1 := Lib.hid (below_link DD.out hs DD.out.size)
          have R1 := Lib.hid (rangeAt_keep H1.out (hs.block _ L1.out))
          have S1 := Lib.hid (show w.heap.size ≤ wn.heap.size by have := DD.out.size; have := hs.size; omega)
          clear hs hown1
          go_upto_region 6 with (first | (refine ldm _ b1 (o1 + 0 * 8) R1.out rfl rfl rfl ?_) | (at_builtin; refine app _ _ w.heap.size (l := [mg x 0]) (OW1.out.alloc _) (one_sl wn (mg x 0)) (by have := LO.out; simp; omega) (by have := S1.out; simp; omega) rfl rfl rfl rfl ?_; intro v' w' g1 g2 _; have G1 := Lib.hid g1; have G2 := Lib.hid g2; clear g1 g2))
          have D2 := Lib.hid ((D1.out.alloc S1.out (Obj.cells (cls (mg x 0)) 27)).grown G2.out (by have := S1.out; simp; omega) (fun k hk => (OW1.out.lt k hk).1))
          have M1 := Lib.hid (show MI la lb (x.drop 1) y (out ++ [mg x 0]) by
            have h1 := MIH.out
            rw [show x = mg x 0 :: x.drop 1 from cons_mg (by have := X.out.len; omega), show y = mg y 0 :: y.drop 1 from cons_mg (by have := Y.out.len; omega)] at h1
            have h2 := h1.step HG.out
            rw [← show y = mg y 0 :: y.drop 1 from cons_mg (by have := Y.out.len; omega)] at h2
            exact h2)
          have X1 := Lib.hid ((X.out).cut (k := 1) (cap := c) (by omega) (by omega))
          clear OW D1 R1 MIH G2 OW1 S1
          go_wp2_with fail
          go_roundw
          case rel => exact ⟨_, n - 1, c - 1, _, m, d, x.drop 1, y, out ++ [mg x 0], cut_val, rfl, by omega, by omega, by omega, by omega, cut_nil, (fun h => by cases h), X1.out, Y.out, G1.out, D2.out, M1.out⟩
          case measure => simp [slen]; omega

        · skip
          have HC : Hid (CM (mg x 0) (mg y 0) (1)) := .inr (.inr ⟨hcm, rfl⟩)
          have HG : Hid (Ge (mg x 0) (mg y 0)) := fun hl => hl.asymm hcm
          clear hcm
          go_wp2_with fail
          refine region_run (fun w' => Below wr.heap.size wr w') [.is (.slice (some ⟨b1, o1, none⟩) n c), .is (.pointer (some ⟨b1, o1 + 0 * 8, none⟩)), .is (.agg (cls (mg x 0))), .is (.slice (some ⟨b2, o2, none⟩) m d), .is (.pointer (some ⟨b2, o2 + 0 * 8, none⟩)), .is (.agg (cls (mg y 0))), .is (Value.int IntKind.i64 (1)), .is (Value.bool false)] [14, 15, 16, 17, 18, 19, 20, 21] (by kernel_rfl) (by kernel_rfl) (by kernel_rfl) (by rfl) (by kernel_rfl) ((Below.refl _ _).drew) (fun Q' => ?_) (fun K hK wn hs => ?_)
          · refine ⟨?_, ?_, ?_, ?_, ?_, ?_, ?_, ?_, trivial⟩
            · intro a' w' ha hs hw
              have eo0 : a'.tmps[0]? = some (.slice (some ⟨b1, o1, none⟩) n c) := (ha.rest 0 (by kernel_rfl)).trans rfl
              exact .inl ⟨wanted_none rfl, wp_val (run_move rfl (ev_tmp eo0)) ⟨_, rfl, rfl, Below.refl _ _, hs⟩⟩
            · intro a' w' ha hs hw
              obtain ⟨v0, e0, q0⟩ := hw 0 (by kernel_rfl) _ _ _ rfl rfl rfl
              obtain rfl : v0 = .slice (some ⟨b1, o1, none⟩) n c := q0
              exact .inl ⟨wanted_none rfl, wp_val (run_at (k := 0) rfl (ev_tmp e0) rfl (by omega)) ⟨_, rfl, rfl, Below.refl _ _, hs⟩⟩
            · intro a' w' ha hs hw
              obtain ⟨v1, e1, q1⟩ := hw 1 (by kernel_rfl) _ _ _ rfl rfl rfl
              obtain rfl : v1 = .pointer (some ⟨b1, o1 + 0 * 8, none⟩) := q1
              exact .inl ⟨wanted_none rfl, wp_val (run_load_mid rfl (ev_tmp e1) (rangeAt_keep H1.out (hs.block _ L1.out))) ⟨_, rfl, rfl, Below.refl _ _, hs⟩⟩
            · intro a' w' ha hs hw
              have eo1 : a'.tmps[1]? = some (.slice (some ⟨b2, o2, none⟩) m d) := (ha.rest 1 (by kernel_rfl)).trans rfl
              exact .inl ⟨wanted_none rfl, wp_val (run_move rfl (ev_tmp eo1)) ⟨_, rfl, rfl, Below.refl _ _, hs⟩⟩
            · intro a' w' ha hs hw
              obtain ⟨v3, e3, q3⟩ := hw 3 (by kernel_rfl) _ _ _ rfl rfl rfl
              obtain rfl : v3 = .slice (some ⟨b2, o2, none⟩) m d := q3
              exact .inl ⟨wanted_none rfl, wp_val (run_at (k := 0) rfl (ev_tmp e3) rfl (by omega)) ⟨_, rfl, rfl, Below.refl _ _, hs⟩⟩
            · intro a' w' ha hs hw
              obtain ⟨v4, e4, q4⟩ := hw 4 (by kernel_rfl) _ _ _ rfl rfl rfl
              obtain rfl : v4 = .pointer (some ⟨b2, o2 + 0 * 8, none⟩) := q4
              exact .inl ⟨wanted_none rfl, wp_val (run_load_mid rfl (ev_tmp e4) (rangeAt_keep H2.out (hs.block _ L2.out))) ⟨_, rfl, rfl, Below.refl _ _, hs⟩⟩
            · intro a' w' ha hs hw
              obtain ⟨v2, e2, q2⟩ := hw 2 (by kernel_rfl) _ _ _ rfl rfl rfl
              obtain rfl : v2 = .agg (cls (mg x 0)) := q2
              obtain ⟨v5, e5, q5⟩ := hw 5 (by kernel_rfl) _ _ _ rfl rfl rfl
              obtain rfl : v5 = .agg (cls (mg y 0)) := q5
              exact .inl ⟨wanted_none rfl, call_step rfl Try.func19 (by kernel_rfl) rfl (map_two (ev_tmp e2) (ev_tmp e5)) (cmp_is (mg x 0) (mg y 0) (1) _ (HC.out)) (fun e w2 he => by obtain ⟨rfl, hb⟩ := he; exact ⟨_, rfl, _, rfl, rfl, hb, hs.trans (hb.mono hs.size)⟩)⟩
            · intro a' w' ha hs hw
              obtain ⟨v6, e6, q6⟩ := hw 6 (by kernel_rfl) _ _ _ rfl rfl rfl
              obtain rfl : v6 = Value.int IntKind.i64 (1) := q6
              exact .inl ⟨wanted_none rfl, wp_val (run_lss_int rfl (ev_tmp e6) rfl) ⟨_, rfl, congrArg Value.bool (by decide), Below.refl _ _, hs⟩⟩
          simp only [allK]
          simp only [setAll, List.set_cons_succ, List.set_cons_zero]
          refine hK _ _ ?_
          clear hK K
          have hown1 := OW.out.kept (w' := wn) (row := none) ⟨hs.os, hs.tape, hs.output, hs.size, fun k hk _ => hs.block k hk⟩ (by cases u5.ownBlock <;> simp)
          have OW1 := Lib.hid hown1
          have D1 := Lib.hid (below_link DD.out hs DD.out.size)
          have R1 := Lib.hid (rangeAt_keep H1.out (hs.block _ L1.out))
          have S1 := Lib.hid (show w.heap.size ≤ wn.heap.size by have := DD.out.size; have := hs.size; omega)
          clear hs hown1
          go_upto_region 6 with (first | (refine ldm _ b1 (o1 + 0 * 8) R1.out rfl rfl rfl ?_) | (at_builtin; refine app _ _ w.heap.size (l := [mg x 0]) (OW1.out.alloc _) (one_sl wn (mg x 0)) (by have := LO.out; simp; omega) (by have := S1.out; simp; omega) rfl rfl rfl rfl ?_; intro v' w' g1 g2 _; have G1 := Lib.hid g1; have G2 := Lib.hid g2; clear g1 g2))
          have D2 := Lib.hid ((D1.out.alloc S1.out (Obj.cells (cls (mg x 0)) 27)).grown G2.out (by have := S1.out; simp; omega) (fun k hk => (OW1.out.lt k hk).1))
          have M1 := Lib.hid (show MI la lb (x.drop 1) y (out ++ [mg x 0]) by
            have h1 := MIH.out
            rw [show x = mg x 0 :: x.drop 1 from cons_mg (by have := X.out.len; omega), show y = mg y 0 :: y.drop 1 from cons_mg (by have := Y.out.len; omega)] at h1
            have h2 := h1.step HG.out
            rw [← show y = mg y 0 :: y.drop 1 from cons_mg (by have := Y.out.len; omega)] at h2
            exact h2)
          have X1 := Lib.hid ((X.out).cut (k := 1) (cap := c) (by omega) (by omega))
          clear OW D1 R1 MIH G2 OW1 S1
          go_wp2_with fail
          go_roundw
          case rel => exact ⟨_, n - 1, c - 1, _, m, d, x.drop 1, y, out ++ [mg x 0], cut_val, rfl, by omega, by omega, by omega, by omega, cut_nil, (fun h => by cases h), X1.out, Y.out, G1.out, D2.out, M1.out⟩
          case measure => simp [slen]; omega

      · skip
        have X1 := Lib.hid (show Sl wr (.slice A n c) x from ⟨_, _, _, rfl, p1, p2, PA.out, (X.out.keep DD.out.size (fun b _ _ hlt => DD.out.block b hlt))⟩)
        go_upto_region 7 with fail
        have tok1 : True := trivial
        go_wp2_with (first
          | (at_builtin; have _t := tok1; refine app _ _ w.heap.size OW.out X1.out (by have := LO.out; have := X.out.len; omega) DD.out.size rfl rfl rfl rfl ?_; intro v1 w1 g1 g2 _; clear tok1; have D1 := Lib.hid (DD.out.grown g2 DD.out.size (fun k hk => (OW.out.lt k hk).1)); have G1 := Lib.hid g1; clear g1 g2; have Y2 := Lib.hid (show Sl w1 (.slice B m d) y from ⟨_, _, _, rfl, p3, p4, PB.out, (Y.out.keep D1.out.size (fun b _ _ hlt => D1.out.block b hlt))⟩); have tok2 : True := trivial)
          | (at_builtin; have _t := tok2; refine app _ _ w.heap.size G1.out Y2.out (by have := LO.out; have := X.out.len; have := Y.out.len; simp; omega) D1.out.size rfl rfl rfl rfl ?_; intro v2 w2 g1 g2 _; clear tok2; have D2 := Lib.hid (D1.out.grown g2 D1.out.size (fun k hk => (G1.out.lt k hk).1)); have G3 := Lib.hid g1; clear g1 g2))
        go_ret
        have hy0 : y = [] := List.eq_nil_of_length_eq_zero (by have := Y.out.len; omega)
        subst hy0
        have := MIH.out.left
        exact ⟨v2, out ++ x ++ [], rfl, Sl.of_own G3.out, by rw [List.append_nil]; exact this.1, by rw [List.append_nil]; exact this.2, D2.out⟩
    · skip
      have X1 := Lib.hid (show Sl wr (.slice A n c) x from ⟨_, _, _, rfl, p1, p2, PA.out, (X.out.keep DD.out.size (fun b _ _ hlt => DD.out.block b hlt))⟩)
      go_upto_region 7 with fail
      have tok1 : True := trivial
      go_wp2_with (first
        | (at_builtin; have _t := tok1; refine app _ _ w.heap.size OW.out X1.out (by have := LO.out; have := X.out.len; omega) DD.out.size rfl rfl rfl rfl ?_; intro v1 w1 g1 g2 _; clear tok1; have D1 := Lib.hid (DD.out.grown g2 DD.out.size (fun k hk => (OW.out.lt k hk).1)); have G1 := Lib.hid g1; clear g1 g2; have Y2 := Lib.hid (show Sl w1 (.slice B m d) y from ⟨_, _, _, rfl, p3, p4, PB.out, (Y.out.keep D1.out.size (fun b _ _ hlt => D1.out.block b hlt))⟩); have tok2 : True := trivial)
        | (at_builtin; have _t := tok2; refine app _ _ w.heap.size G1.out Y2.out (by have := LO.out; have := X.out.len; have := Y.out.len; simp; omega) D1.out.size rfl rfl rfl rfl ?_; intro v2 w2 g1 g2 _; clear tok2; have D2 := Lib.hid (D1.out.grown g2 D1.out.size (fun k hk => (G1.out.lt k hk).1)); have G3 := Lib.hid g1; clear g1 g2))
      go_ret
      have hx0 : x = [] := List.eq_nil_of_length_eq_zero (by have := X.out.len; omega)
      subst hx0
      have := MIH.out.right
      exact ⟨v2, out ++ [] ++ y, rfl, Sl.of_own G3.out, by rw [List.append_nil]; exact this.1, by rw [List.append_nil]; exact this.2, D2.out⟩
end Go.Proofs.Ytchkaaeipafdnaa
