/-
  Slices of monomials; In, Same.
-/
import Derived.Test.YtchkaaeipafdnaaMonR
import Derived.Test.YtchkaaeipafdnaaMonM
import Derived.Deep.MidRow
import Derived.OwnWalk
import Derived.Laws.AppendOwnNone
namespace Go.Proofs.Ytchkaaeipafdnaa
open Go.RowKit
attribute [local go_sem ↓] Go.wp_at_zero Go.wp_at_succ

abbrev Mn := Nat → Int
/-- The k-th monomial of a list. -/
def mg (l : List Mn) (k : Nat) : Mn := (l[k]?).getD nul
theorem mg_get {l : List Mn} {k : Nat} (h : k < l.length) : l[k]? = some (mg l k) := by simp [mg, h]
theorem mg_eq {l : List Mn} {k : Nat} {m : Mn} (h : l[k]? = some m) : mg l k = m := by simp [mg, h]
theorem mg_mem {l : List Mn} {k : Nat} (h : k < l.length) : mg l k ∈ l := List.mem_of_getElem? (mg_get h)
/-- The slice with the address A and the length n reads as the monomials l. -/
def Ms (w : World) (A : Option Addr) (n : Nat) (l : List Mn) : Prop :=
  l.length = n ∧ (0 < n → ∃ b o, A = some ⟨b, o, none⟩ ∧ b < w.heap.size ∧ ∀ k, k < n → w.rangeAt b (o + k * 8) (cls (mg l k)).toList)
theorem Ms.len {w : World} {A : Option Addr} {n : Nat} {l : List Mn} (h : Ms w A n l) : l.length = n := h.1
theorem Ms.nil (w : World) (A : Option Addr) : Ms w A 0 [] := ⟨rfl, fun h => absurd h (by omega)⟩
theorem rangeAt_keep {w w' : World} {b o : Nat} {cs : List Value} (h : w.rangeAt b o cs) (e : w'.heap[b]? = w.heap[b]?) : w'.rangeAt b o cs :=
  fun j v hv => (World.cell?_of_block (a := ⟨b, o + j, none⟩) e).trans (h j v hv)
theorem Ms.keep {w w' : World} {A : Option Addr} {n : Nat} {l : List Mn} (h : Ms w A n l) (hs : w.heap.size ≤ w'.heap.size) (hk : ∀ b o, A = some ⟨b, o, none⟩ → b < w.heap.size → w'.heap[b]? = w.heap[b]?) : Ms w' A n l :=
  ⟨h.1, fun hn => by
    obtain ⟨b, o, e, hb, hc⟩ := h.2 hn
    exact ⟨b, o, e, by omega, fun k hkn => rangeAt_keep (hc k hkn) (hk b o e hb)⟩⟩
theorem Ms.below {w w' : World} {A : Option Addr} {n : Nat} {l : List Mn} (h : Ms w A n l) (hb : Below w.heap.size w w') : Ms w' A n l := h.keep hb.size (fun b _ _ hlt => hb.block b hlt)
theorem Ms.drew {w : World} {A : Option Addr} {n : Nat} {l : List Mn} (h : Ms w A n l) : Ms w.drew A n l := h
theorem Ms.drewN {w : World} {A : Option Addr} {n : Nat} {l : List Mn} (h : Ms w A n l) (k : Nat) : Ms (w.drewN k) A n l := h
theorem Ms.alloc {w : World} {A : Option Addr} {n : Nat} {l : List Mn} (h : Ms w A n l) (o : Obj) : Ms (w.alloc o) A n l := h.below ((Below.refl _ _).alloc (Nat.le_refl _) o)
theorem Ms.take {w : World} {A : Option Addr} {n : Nat} {l : List Mn} (h : Ms w A n l) {m : Nat} (hm : m ≤ n) : Ms w A m (l.take m) := by
  refine ⟨by rw [List.length_take, h.1]; omega, fun h0 => ?_⟩
  obtain ⟨b, o, e, hb, hc⟩ := h.2 (by omega)
  refine ⟨b, o, e, hb, fun k hk => ?_⟩
  have : mg (l.take m) k = mg l k := by unfold mg; rw [List.getElem?_take_of_lt hk]
  rw [this]
  exact hc k (by omega)
/-- A part from k on. -/
theorem Ms.cut {w : World} {A : Option Addr} {n : Nat} {l : List Mn} (h : Ms w A n l) {k cap : Nat} (hk : k ≤ n) (hc : n ≤ cap) :
    Ms w (if cap = k then A else A.map (·.add (k * 8))) (n - k) (l.drop k) := by
  refine ⟨by rw [List.length_drop, h.1], fun h0 => ?_⟩
  obtain ⟨b, o, rfl, hb, hcell⟩ := h.2 (by omega)
  rw [if_neg (by omega)]
  refine ⟨b, o + k * 8, by simp [Addr.add_mid], hb, fun j hj => ?_⟩
  have : mg (l.drop k) j = mg l (k + j) := by unfold mg; rw [List.getElem?_drop]
  rw [this]
  have := hcell (k + j) (by omega)
  rw [show o + k * 8 + j * 8 = o + (k + j) * 8 by omega]
  exact this
theorem Ms.at_ {w : World} {A : Option Addr} {n : Nat} {l : List Mn} (h : Ms w A n l) {k : Nat} (hk : k < n) : ∃ b o, A = some ⟨b, o, none⟩ ∧ b < w.heap.size ∧ w.rangeAt b (o + k * 8) (cls (mg l k)).toList := by
  obtain ⟨b, o, e, hb, hc⟩ := h.2 (by omega)
  exact ⟨b, o, e, hb, hc k hk⟩
/-- The cells of a list. -/
def cs (l : List Mn) : List Value := l.flatMap fun m => (cls m).toList
theorem cs_nil : cs [] = [] := rfl
theorem cs_append (a b : List Mn) : cs (a ++ b) = cs a ++ cs b := by simp [cs]
theorem cs_one (m : Mn) : cs [m] = (cls m).toList := by simp [cs]
theorem cs_length (l : List Mn) : (cs l).length = l.length * 8 := by
  induction l with
  | nil => rfl
  | cons m l ih =>
    have : cs (m :: l) = (cls m).toList ++ cs l := rfl
    rw [this, List.length_append, ih]
    simp
    omega
theorem cs_get : ∀ (l : List Mn) (k j : Nat) (m : Mn) (v : Value), l[k]? = some m → (cls m).toList[j]? = some v → (cs l)[k * 8 + j]? = some v
  | [], k, j, m, v, h, _ => by simp at h
  | x :: l, 0, j, m, v, h, hv => by
    simp at h
    subst h
    have : cs (x :: l) = (cls x).toList ++ cs l := rfl
    rw [this, List.getElem?_append_left (by rcases Nat.lt_or_ge j (cls x).toList.length with h | h
                                            · omega
                                            · rw [List.getElem?_eq_none h] at hv; cases hv)]
    simpa using hv
  | x :: l, k + 1, j, m, v, h, hv => by
    simp at h
    have : cs (x :: l) = (cls x).toList ++ cs l := rfl
    rw [this, List.getElem?_append_right (by simp; omega)]
    have h8 : (cls x).toList.length = 8 := rfl
    rw [h8, show (k + 1) * 8 + j - 8 = k * 8 + j by omega]
    exact cs_get l k j m v h hv
theorem cs_one_cell (l : List Mn) : ∀ u ∈ cs l, u.oneCell' = true := by
  intro u hu
  obtain ⟨m, _, hm⟩ := List.mem_flatMap.1 hu
  simp at hm
  rcases hm with rfl | rfl | rfl | rfl | rfl | rfl | rfl | rfl <;> rfl
/-- A row of the call's own reads as its list. -/
theorem Ms.of_own {w : World} {base : Nat} {A : Option Addr} {n c : Nat} {l : List Mn} (h : w.ownsRow base 27 8 (.slice A n c) n (cs l)) (hl : l.length = n) : Ms w A n l := by
  refine ⟨hl, fun hn => ?_⟩
  obtain ⟨h1, h2 | ⟨g, cap, cur, e, _, hg, _, _, _, h3⟩⟩ := h
  · omega
  · have hA : A = some ⟨g, 0, none⟩ := by injection e
    subst hA
    refine ⟨g, 0, rfl, ?_, fun k hk j v hv => ?_⟩
    · rcases Nat.lt_or_ge g w.heap.size with hlt | hge
      · exact hlt
      · rw [Array.getElem?_eq_none hge] at hg; cases hg
    · rw [cell_of_row w g _ _ _ (0, 0) hg]
      have h4 := cs_get l k j _ v (mg_get (by omega)) hv
      have hj : k * 8 + j < n * 8 := by
        have : j < 8 := by
          rcases Nat.lt_or_ge j 8 with h | h
          · exact h
          · rw [List.getElem?_eq_none (by simpa using h)] at hv; cases hv
        omega
      rw [← h3, List.getElem?_take_of_lt hj] at h4
      rw [show 0 + k * 8 + j = k * 8 + j by omega]
      simpa using h4
theorem own_cap {w : World} {base : Nat} {e : TypeId} {v : Value} {n : Nat} {xs : List Value} (h : w.ownsRow base e 8 v n xs) : ∃ A c, v = .slice A n c ∧ n ≤ c ∧ c ≤ 9223372036854775807 := by
  obtain ⟨_, ⟨rfl, rfl⟩ | ⟨g, cap, cur, e, _, _, h1, h2, _⟩⟩ := h
  · exact ⟨none, 0, rfl, by omega, by omega⟩
  · exact ⟨_, cap, e, h1, by unfold maxLen at h2; omega⟩
theorem ldm {ops : Array Oper} {rest : List Oper} {o : Oper} {a : Act} {w : World} {Q : Exit → Act → World → Prop} (x : Operand) (b q : Nat) {f : Nat → Int} (r : w.rangeAt b q (cls f).toList) (hgd : o.guard = none) (ho : o.op = .load 27 x)
    (hx : a.eval x = .pointer (some ⟨b, q, none⟩)) (h : wpList Try.prog ops Q rest (a.put o.dst (.agg (cls f))) w) : wpList Try.prog ops Q (o :: rest) a w :=
  wpList_load_mid hgd 27 x ho b q hx (cls f).toList _ r underMono rfl infoMono h
theorem run_load_mid {o : Oper} {ρ : Operand → Value} {x : Operand} {w : World} {b q : Nat} {f : Nat → Int} (ho : o.op = .load 27 x) (hv : ρ x = .pointer (some ⟨b, q, none⟩)) (hb : w.rangeAt b q (cls f).toList) : (execOp ρ o).run Try.prog w = .ok (.value (.agg (cls f))) w := by
  have h := run_loadVar_mid (P := Try.prog) w b q 27 (cls f).toList _ hb underMono rfl infoMono
  unfold execOp
  simp only [ho, hv, Instr.loadAt, Instr.sureAddr, Sem.run_bind, Sem.run_pure, Result.andThen_ok, h]

theorem not_dv {a b : Mn} (h : ¬ dv a b) : ∃ n, n < 8 ∧ (∀ k, k < n → a k ≤ b k) ∧ b n < a n := by
  by_cases h0 : a 0 ≤ b 0
  case neg => exact ⟨0, by omega, fun k hk => by omega, by omega⟩
  by_cases h1 : a 1 ≤ b 1
  case neg => exact ⟨1, by omega, fun k hk => by obtain rfl : k = 0 := by omega
                                                 exact h0, by omega⟩
  by_cases h2 : a 2 ≤ b 2
  case neg => exact ⟨2, by omega, fun k hk => by rcases (show k = 0 ∨ k = 1 by omega) with rfl | rfl <;> assumption, by omega⟩
  by_cases h3 : a 3 ≤ b 3
  case neg => exact ⟨3, by omega, fun k hk => by rcases (show k = 0 ∨ k = 1 ∨ k = 2 by omega) with rfl | rfl | rfl <;> assumption, by omega⟩
  by_cases h4 : a 4 ≤ b 4
  case neg => exact ⟨4, by omega, fun k hk => by rcases (show k = 0 ∨ k = 1 ∨ k = 2 ∨ k = 3 by omega) with rfl | rfl | rfl | rfl <;> assumption, by omega⟩
  by_cases h5 : a 5 ≤ b 5
  case neg => exact ⟨5, by omega, fun k hk => by rcases (show k = 0 ∨ k = 1 ∨ k = 2 ∨ k = 3 ∨ k = 4 by omega) with rfl | rfl | rfl | rfl | rfl <;> assumption, by omega⟩
  by_cases h6 : a 6 ≤ b 6
  case neg => exact ⟨6, by omega, fun k hk => by rcases (show k = 0 ∨ k = 1 ∨ k = 2 ∨ k = 3 ∨ k = 4 ∨ k = 5 by omega) with rfl | rfl | rfl | rfl | rfl | rfl <;> assumption, by omega⟩
  by_cases h7 : a 7 ≤ b 7
  case neg => exact ⟨7, by omega, fun k hk => by rcases (show k = 0 ∨ k = 1 ∨ k = 2 ∨ k = 3 ∨ k = 4 ∨ k = 5 ∨ k = 6 by omega) with rfl | rfl | rfl | rfl | rfl | rfl | rfl <;> assumption, by omega⟩
  exact absurd (fun k hk => by rcases lt8 hk with rfl | rfl | rfl | rfl | rfl | rfl | rfl | rfl <;> assumption) h
theorem divides_is (a b : Mn) (r : Bool) (w : World) (h : decide (dv a b) = r) : Calls Try.prog 17 #[arr a, arr b] w fun e w' => e = .returned (.bool r) ∧ Below w.heap.size w w' := by
  subst h
  by_cases hd : dv a b
  · rw [decide_eq_true hd]; exact divides_true a b w hd
  · rw [decide_eq_false hd]
    obtain ⟨n, h1, h2, h3⟩ := not_dv hd
    exact divides_false a b n w h1 h2 h3
theorem rdivides_is (a b : Mn) (r : Bool) (w : World) (h : decide (dv a b) = r) : Calls Try.prog 18 #[arr a, arr b] w fun e w' => e = .returned (.bool r) ∧ Below w.heap.size w w' := by
  subst h
  by_cases hd : dv a b
  · rw [decide_eq_true hd]; exact rdivides_true a b w hd
  · rw [decide_eq_false hd]
    obtain ⟨n, h1, h2, h3⟩ := not_dv hd
    exact rdivides_false a b n w h1 h2 h3
set_option maxHeartbeats 400000 in
theorem in_is (m : Mn) (A : Option Addr) (n c : Nat) (l : List Mn) (r : Bool) (w : World) (hl : Ms w A n l) (hn : n ≤ 1000000) (h : anyDv m l = r) : Calls Try.prog 34 #[arr m, .slice A n c] w fun e w' => e = .returned (.bool r) ∧ Below w.heap.size w w' := by
  have L := Lib.hid hl; have H := Lib.hid h
  have LL := Lib.hid hl.len
  clear hl h
  show Calls Try.prog 34 #[.agg #[.int .i64 (m 0), .int .i64 (m 1), .int .i64 (m 2), .int .i64 (m 3), .int .i64 (m 4), .int .i64 (m 5), .int .i64 (m 6), .int .i64 (m 7)], _] w _
  go_enter Try.func34, Try.ntmps34
  go_wp2
  have R := Lib.hid (Row.new w m); have D := Lib.hid ((Below.refl w.heap.size w).alloc (Nat.le_refl _) (Obj.cells #[Value.int IntKind.i64 (m 0), Value.int IntKind.i64 (m 1), Value.int IntKind.i64 (m 2), Value.int IntKind.i64 (m 3), Value.int IntKind.i64 (m 4), Value.int IntKind.i64 (m 5), Value.int IntKind.i64 (m 6), Value.int IntKind.i64 (m 7)] 27))
  replace L := Lib.hid (L.out.alloc (Obj.cells #[Value.int IntKind.i64 (m 0), Value.int IntKind.i64 (m 1), Value.int IntKind.i64 (m 2), Value.int IntKind.i64 (m 3), Value.int IntKind.i64 (m 4), Value.int IntKind.i64 (m 5), Value.int IntKind.i64 (m 6), Value.int IntKind.i64 (m 7)] 27))
  generalize w.alloc (Obj.cells #[Value.int IntKind.i64 (m 0), Value.int IntKind.i64 (m 1), Value.int IntKind.i64 (m 2), Value.int IntKind.i64 (m 3), Value.int IntKind.i64 (m 4), Value.int IntKind.i64 (m 5), Value.int IntKind.i64 (m 6), Value.int IntKind.i64 (m 7)] 27) = W at *
  go_loopw [6, 9] (fun _ i wr => ∃ k : Nat, k ≤ n ∧ i = .int .i64 k ∧ Row wr w.heap.size m ∧ Ms wr A n l ∧ Below w.heap.size w wr ∧ ∀ j, j < k → ¬ dv (mg l j) m) (fun _ i _ => n - (intOf i).toNat)
  case atStart => exact ⟨0, by omega, rfl, R.out, L.out, D.out, fun j hj => by omega⟩
  case round =>
    obtain ⟨k, hk, rfl, q0, q1, qd, qn⟩ := hrel
    have Q0 := Lib.hid q0; have Q1 := Lib.hid q1; have QD := Lib.hid qd; have QN := Lib.hid qn
    clear q0 q1 qd qn
    by_cases hlt : k < n
    · obtain ⟨b, o, rfl, hb, hr⟩ := Q1.out.at_ hlt
      have HR := Lib.hid hr
      clear hr hb
      go_upto_region 4 with (refine ldm _ b (o + k * 8) HR.out rfl rfl rfl ?_)
      have R0 := Lib.hid (Q0.out.alloc (Obj.cells (cls (mg l k)) 27)); have R6 := Lib.hid (Row.new wr (mg l k))
      have RD := Lib.hid (QD.out.alloc QD.out.size (Obj.cells (cls (mg l k)) 27)); have RL := Lib.hid (Q1.out.alloc (Obj.cells (cls (mg l k)) 27))
      have RS := Lib.hid (show w.heap.size ≤ (wr.alloc (Obj.cells (cls (mg l k)) 27)).heap.size by have := QD.out.size; simp; omega)
      generalize wr.heap.size = g6 at *
      generalize wr.alloc (Obj.cells (cls (mg l k)) 27) = W6 at *
      go_wp2_with (first | (refine ld _ g6 R6.out rfl rfl rfl ?_) | (refine ld _ w.heap.size R0.out rfl rfl rfl ?_) | fail)
      by_cases hd : dv (mg l k) m
      · have hr : r = true := by rw [← H.out]; exact anyDv_true.2 ⟨_, mg_mem (by rw [LL.out]; exact hlt), hd⟩
        have HR2 := Lib.hid hr
        have HD := Lib.hid (decide_eq_true hd)
        clear hd hr
        refine (divides_is (mg l k) m true _ HD.out).mono ?_
        rintro e w1 ⟨rfl, hb1⟩
        go_wp2_with fail
        go_ret
        exact ⟨by rw [HR2.out]; rfl, below_link RD.out hb1 RS.out⟩
      · have HD := Lib.hid (decide_eq_false hd)
        have HN := Lib.hid hd
        clear hd
        refine (divides_is (mg l k) m false _ HD.out).mono ?_
        rintro e w1 ⟨rfl, hb1⟩
        have B1 := Lib.hid hb1
        clear hb1
        go_wp2_with fail
        go_roundw
        case rel => exact ⟨k + 1, by omega, by go_num, R0.out.below B1.out R0.out.lt, RL.out.below B1.out, below_link RD.out B1.out RS.out, fun j hj => by
          by_cases e : j = k
          · subst e; exact HN.out
          · exact QN.out j (by omega)⟩
        case measure => simp [intOf]; omega
    · obtain rfl : k = n := by omega
      have hr : r = false := by
        rw [← H.out]
        cases ha : anyDv m l with
        | false => rfl
        | true =>
          obtain ⟨d, hd, hdv⟩ := anyDv_true.1 ha
          obtain ⟨j, hj⟩ := List.getElem?_of_mem hd
          have hlj : j < l.length := by
            rcases Nat.lt_or_ge j l.length with h | h
            · exact h
            · rw [List.getElem?_eq_none h] at hj; cases hj
          have := QN.out j (by rw [← LL.out]; exact hlj)
          rw [mg_eq hj] at this
          exact absurd hdv this
      have HR2 := Lib.hid hr
      clear hr
      go_wp2
      go_ret
      exact ⟨by rw [HR2.out]; rfl, QD.out⟩
theorem cmp_is (a b : Mn) (o : Int) (w : World) (h : CM a b o) : Calls Try.prog 19 #[arr a, arr b] w fun e w' => e = .returned (.int .i64 o) ∧ Below w.heap.size w w' := by
  rcases h with ⟨⟨n, h1, h2, h3⟩, rfl⟩ | ⟨h, rfl⟩ | ⟨⟨n, h1, h2, h3⟩, rfl⟩
  · exact cmp_lt a b n w h1 h2 h3
  · exact cmp_eq a b w h
  · exact cmp_gt a b n w h1 (fun k hk => (h2 k hk).symm) h3
theorem rcmp_is (a b : Mn) (o : Int) (w : World) (h : CM a b o) : Calls Try.prog 20 #[arr a, arr b] w fun e w' => e = .returned (.int .i64 o) ∧ Below w.heap.size w w' := by
  rcases h with ⟨⟨n, h1, h2, h3⟩, rfl⟩ | ⟨h, rfl⟩ | ⟨⟨n, h1, h2, h3⟩, rfl⟩
  · exact rcmp_lt a b n w h1 h2 h3
  · exact rcmp_eq a b w h
  · exact rcmp_gt a b n w h1 (fun k hk => (h2 k hk).symm) h3
end Go.Proofs.Ytchkaaeipafdnaa
