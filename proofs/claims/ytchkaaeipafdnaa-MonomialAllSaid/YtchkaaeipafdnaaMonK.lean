/-
  All.
-/
import Derived.Test.YtchkaaeipafdnaaMonJ
import Derived.OneCell
import Derived.Laws.EntriesVeiled
import Derived.StillTailTactics
import Derived.Deep.LoopGhost
namespace Go.Proofs.Ytchkaaeipafdnaa
open Go.RowKit
set_option linter.unusedVariables false
attribute [local go_sem ↓] Go.wp_at_zero Go.wp_at_succ

/-- Block g holds the one value v. -/
def One (w : World) (g : Nat) (t : TypeId) (v : Value) : Prop := w.heap[g]? = some (.cells #[v] t (0, 0))
/-- Nothing has changed below base but in block go. -/
structure Kq (base go : Nat) (w w' : World) : Prop where
  os : w'.os = w.os
  tape : w'.tape = w.tape
  output : w'.output = w.output
  size : w.heap.size ≤ w'.heap.size
  block : ∀ k, k < base → k ≠ go → w'.heap[k]? = w.heap[k]?
theorem Kq.refl (base go : Nat) (w : World) : Kq base go w w := ⟨rfl, rfl, rfl, Nat.le_refl _, fun _ _ _ => rfl⟩
theorem Kq.trans {base go : Nat} {a b c : World} (h : Kq base go a b) (k : Kq base go b c) : Kq base go a c :=
  ⟨k.os.trans h.os, k.tape.trans h.tape, k.output.trans h.output, Nat.le_trans h.size k.size, fun j h1 h2 => (k.block j h1 h2).trans (h.block j h1 h2)⟩
abbrev fillV (g2 gm gf go : Nat) : Value := .func (.func 38) #[] #[.pointer (some ⟨g2, 0, none⟩), .pointer (some ⟨gm, 0, none⟩), .pointer (some ⟨gf, 0, none⟩), .pointer (some ⟨go, 0, none⟩)]
/-- What the closure leaves. -/
def FillPost (base go : Nat) (l : List Mn) (w : World) (e : Ending) (w' : World) : Prop := e = .returned (.tuple #[]) ∧ ∃ v', SBox w' go v' ∧ w'.ownsRow base 27 8 v' l.length (cs l) ∧ Kq base go w w'
theorem grow_box {w w' : World} {base go : Nat} {v : Value} {n : Nat} {xs : List Value} {o : Obj} (bo : SBox w go v) (ho : w.ownsRow base 27 8 v n xs) (hg : (w.alloc o).grownBy w' v.ownBlock) (h : go < base) (hb : base ≤ w.heap.size) : SBox w' go v := by
  unfold SBox
  rw [hg.block go (by simp; omega) (fun e => by have := (ho.lt go e.symm).1; omega), Below.heap_alloc _ _ _ (by omega)]
  exact bo
set_option maxHeartbeats 1000000 in
theorem fill_end (N g2 gm gf go base r : Nat) (m : Mn) (o : List Mn) (v : Value) (w : World) (hN : N ≤ 8) (h1 : g2 < base) (h2 : gm < base) (h4 : go < base) (d1 : gm ≠ go) (hr : r ≤ 12)
    (b2 : One w g2 3 (.int .i64 (N : Nat))) (bm : Row w gm m) (bo : SBox w go v) (ho : w.ownsRow base 27 8 v o.length (cs o)) (hl : r = 0 → o.length + 1 ≤ 1000000000) (hb : base ≤ w.heap.size) :
    Calls Try.prog 38 #[.int .i64 (N : Nat), .int .i64 (r : Nat), .pointer (some ⟨g2, 0, none⟩), .pointer (some ⟨gm, 0, none⟩), .pointer (some ⟨gf, 0, none⟩), .pointer (some ⟨go, 0, none⟩)] w (FillPost base go (o ++ rs 0 N r m) w) := by
  have BM := Lib.hid bm; have BO := Lib.hid bo; have OW := Lib.hid ho; have HL := Lib.hid hl; have HB := Lib.hid hb; have D1 := Lib.hid d1; have H4 := Lib.hid h4; have H2 := Lib.hid h2
  have c2 := cell_of_one b2
  clear bm bo ho hl hb d1
  by_cases hr0 : r = 0
  · subst hr0
    have co := BO.out.cell
    have fo : w.frozen? ⟨go, 0, none⟩ = false := free_of_one BO.out
    go_enter Try.func38, Try.ntmps38
    go_upto_region 7 with fail
    have tok1 : True := trivial
    go_wp2_with (first
      | (refine ld _ gm BM.out rfl rfl rfl ?_)
      | (at_builtin; have _t := tok1; refine app _ _ base (l := [m]) (OW.out.alloc _) (one_sl w m) (by have := HL.out rfl; simp; omega) (by have := HB.out; simp; omega) rfl rfl rfl rfl ?_; intro v' w' g1 g2 _; obtain ⟨A', c', rfl, _, _⟩ := own_cap g1; clear tok1 co fo; have G1 := Lib.hid g1; have G2 := Lib.hid g2; clear g1 g2; have BO2 := Lib.hid (grow_box BO.out OW.out G2.out H4.out HB.out); have co := BO2.out.cell; have fo := free_of_one BO2.out))
    refine bodyPost_end (v := .tuple #[]) (by simp [results, Try.results38, go_sem]) rfl ⟨rfl, _, one_setCell BO2.out, by rw [show rs 0 N 0 m = [m] from rfl]; have h := ownsRow_setCell_below (a := ⟨go, 0, none⟩) G1.out H4.out (Value.slice A' (o.length + 1) c'); simpa using h, ?_⟩
    refine ⟨?_, ?_, ?_, ?_, fun k h5 h6 => ?_⟩
    · exact G2.out.os
    · exact G2.out.tape
    · exact G2.out.output
    · have := G2.out.size; simp at this ⊢; omega
    · rw [Below.heap_setCell _ _ _ _ h6, G2.out.block k (by have := HB.out; simp; omega) (fun e => by have := (OW.out.lt k e.symm).1; omega), Below.heap_alloc _ _ _ (by have := HB.out; omega)]
  · have hr1 : 1 ≤ r := by omega
    go_enter Try.func38, Try.ntmps38
    go_wp2
    refine bodyPost_end (v := .tuple #[]) (by simp [results, Try.results38, go_sem]) rfl ⟨rfl, v, BO.out, ?_, Kq.refl _ _ _⟩
    rw [show rs 0 N r m = [] by unfold rs; rw [if_neg hr0], List.append_nil]
    exact OW.out
/-- Nothing has changed below base but in the blocks gm and go. -/
structure K2 (base gm go : Nat) (w w' : World) : Prop where
  os : w'.os = w.os
  tape : w'.tape = w.tape
  output : w'.output = w.output
  size : w.heap.size ≤ w'.heap.size
  block : ∀ k, k < base → k ≠ go → k ≠ gm → w'.heap[k]? = w.heap[k]?
theorem K2.refl (base gm go : Nat) (w : World) : K2 base gm go w w := ⟨rfl, rfl, rfl, Nat.le_refl _, fun _ _ _ _ => rfl⟩
theorem K2.setm {base gm go : Nat} {a w : World} (h : K2 base gm go a w) (i : Nat) (v : Value) : K2 base gm go a (w.setCell ⟨gm, i, none⟩ v) :=
  ⟨h.os, h.tape, h.output, by simp; exact h.size, fun k h1 h2 h3 => (Below.heap_setCell _ _ _ _ h3).trans (h.block k h1 h2 h3)⟩
theorem K2.next {base gm go : Nat} {a w w' : World} (h : K2 base gm go a w) (k : Kq base go w w') : K2 base gm go a w' :=
  ⟨k.os.trans h.os, k.tape.trans h.tape, k.output.trans h.output, Nat.le_trans h.size k.size, fun j h1 h2 h3 => (k.block j h1 h2).trans (h.block j h1 h2 h3)⟩
theorem K2.close {base gm go : Nat} {a w : World} {m : Mn} (h : K2 base gm go a w) (ha : Row a gm m) (hw : Row w gm m) : Kq base go a w :=
  ⟨h.os, h.tape, h.output, h.size, fun j h1 h2 => by
    by_cases e : j = gm
    · subst e; exact hw.trans ha.symm
    · exact h.block j h1 h2 e⟩
theorem up_zero {m : Mn} {i : Nat} (h : m i = 0) : up m i 0 = m := by
  funext j
  unfold up
  split
  · rename_i e; subst e; exact h.symm
  · rfl
theorem up_up (m : Mn) (i : Nat) (u v : Int) : up (up m i u) i v = up m i v := by
  funext j
  unfold up
  split <;> rfl
theorem One.at_ {w w' : World} {g : Nat} {t : TypeId} {v : Value} (h : One w g t v) (e : w'.heap[g]? = w.heap[g]?) : One w' g t v := e.trans h
set_option maxHeartbeats 1000000 in
theorem fill_any (N g2 gm gf go base : Nat) (hN : N ≤ 8) (h1 : g2 < base) (h2 : gm < base) (h3 : gf < base) (h4 : go < base) (d1 : gm ≠ go) (d2 : g2 ≠ go) (d3 : gf ≠ go) (d4 : g2 ≠ gm) (d5 : gf ≠ gm) : ∀ (d i r : Nat) (m : Mn) (o : List Mn) (v : Value) (w : World),
    i + d = N → r ≤ 12 → (∀ j, i ≤ j → j < 8 → m j = 0) → One w g2 3 (.int .i64 (N : Nat)) → Row w gm m → One w gf 56 (fillV g2 gm gf go) → SBox w go v → w.ownsRow base 27 8 v o.length (cs o) → o.length + (rs d i r m).length ≤ 1000000000 → base ≤ w.heap.size →
    Calls Try.prog 38 #[.int .i64 (i : Nat), .int .i64 (r : Nat), .pointer (some ⟨g2, 0, none⟩), .pointer (some ⟨gm, 0, none⟩), .pointer (some ⟨gf, 0, none⟩), .pointer (some ⟨go, 0, none⟩)] w (FillPost base go (o ++ rs d i r m) w) := by
  intro d
  induction d with
  | zero =>
    intro i r m o v w hi hr hm b2 bm bf bo ho hl hb
    obtain rfl : i = N := by omega
    have h8 : r = 0 → o.length + 1 ≤ 1000000000 := fun hr0 => by
      have h9 : (rs 0 i r m).length = 1 := by unfold rs; rw [if_pos hr0]; rfl
      omega
    exact fill_end i g2 gm gf go base r m o v w hN h1 h2 h4 d1 hr b2 bm bo ho h8 hb
  | succ d ih =>
    intro i r m o v w hi hr hm b2 bm bf bo ho hl hb
    have BM := Lib.hid bm; have BO := Lib.hid bo; have OW := Lib.hid ho; have HL := Lib.hid hl; have HB := Lib.hid hb; have B2 := Lib.hid b2; have BF := Lib.hid bf; have HM := Lib.hid hm
    have c2 := cell_of_one b2
    have cm := bm.cell (show i < 8 by omega)
    have fm := bm.frozen i
    have hiN : i < N := by omega
    clear bm bo ho hl hb b2 bf hm
    go_enter Try.func38, Try.ntmps38
    go_wp2
    have W0 := Lib.hid (show K2 base gm go w (w.setCell ⟨gm, i, none⟩ (.int .i64 (r : Nat))) from (K2.refl base gm go w).setm i _)
    have M0 := Lib.hid (show Row (w.setCell ⟨gm, i, none⟩ (.int .i64 (r : Nat))) gm (up m i (r : Nat)) from BM.out.set _ (by omega))
    have O0 := Lib.hid (show SBox (w.setCell ⟨gm, i, none⟩ (.int .i64 (r : Nat))) go v from (Below.heap_setCell _ _ _ _ (Ne.symm d1)).trans BO.out)
    have V0 := Lib.hid (ownsRow_setCell_below OW.out (a := ⟨gm, i, none⟩) h2 (.int .i64 (r : Nat)))
    generalize w.setCell ⟨gm, i, none⟩ (.int .i64 (r : Nat)) = W at *
    clear c2 cm fm
    have HF : Hid (rs (d + 1) i r m = dn (fun e => rs d (i + 1) (r - e) (put m i e)) r) := rfl
    generalize hF : (fun e => rs d (i + 1) (r - e) (put m i e)) = F at *
    have EF := Lib.hid hF
    clear hF
    go_loopg [14] r (fun k _ wr => k ≤ r ∧ ∃ o' v', Row wr gm (up m i (k : Nat)) ∧ SBox wr go v' ∧ wr.ownsRow base 27 8 v' o'.length (cs o') ∧ K2 base gm go w wr ∧ o' ++ dn F k = o ++ dn F r)
    case atStart => exact ⟨Nat.le_refl _, o, v, M0.out, O0.out, V0.out, W0.out, rfl⟩
    case round =>
      obtain ⟨hk, o', v', q1, q2, q3, q4, q5⟩ := hrel
      have Q1 := Lib.hid q1; have Q2 := Lib.hid q2; have Q3 := Lib.hid q3; have Q4 := Lib.hid q4; have Q5 := Lib.hid q5
      have F2 := Lib.hid (B2.out.at_ (q4.block g2 h1 d2 d4)); have FF := Lib.hid (BF.out.at_ (q4.block gf h3 d3 d5))
      have hb' := Lib.hid (show base ≤ wr.heap.size by have := q4.size; have := HB.out; omega)
      have cm := q1.cell (show i < 8 by omega)
      rw [up_self] at cm
      have fm := q1.frozen i
      have cf := cell_of_one FF.out
      clear q1 q2 q3 q4 q5
      cases gk with
      | zero =>
        go_upto_region 5 with fail
        have e1 : ((i + 1 : Nat) : Int) = (i : Int) + 1 := by omega
        have hz : F 0 = rs d (i + 1) r m := by
          rw [← EF.out]
          show rs d (i + 1) (r - 0) (up m i ((0 : Nat) : Int)) = _
          rw [show ((0 : Nat) : Int) = 0 from rfl, up_zero (HM.out i (by omega) (by omega))]
          rfl
        have hq1 : Row wr gm m := by
          have := Q1.out
          rw [show ((0 : Nat) : Int) = 0 from rfl, up_zero (HM.out i (by omega) (by omega))] at this
          exact this
        have hlen : o'.length + (rs d (i + 1) r m).length ≤ 1000000000 := by
          have h5 := congrArg List.length Q5.out
          have h6 := HL.out
          rw [HF.out] at h6
          simp only [dn, hz, List.length_append] at h5
          omega
        have hc := ih (i + 1) r m o' v' wr (by omega) hr (fun j hj hj8 => HM.out j (by omega) hj8) F2.out hq1 FF.out Q2.out Q3.out hlen hb'.out
        rw [e1] at hc
        have HC := Lib.hid hc
        have HQ1 := Lib.hid hq1
        have HZ := Lib.hid hz
        clear hc hq1 e1 hz hlen cm fm
        go_wp2_with fail
        refine HC.out.mono ?_
        rintro e w1 ⟨rfl, v1, s1, s2, s3⟩
        have S1 := Lib.hid s1; have S2 := Lib.hid s2; have S3 := Lib.hid s3
        clear s1 s2 s3 cf
        go_wp2_with fail
        have hfin : o' ++ rs d (i + 1) r m = o ++ rs (d + 1) i r m := by
          have := Q5.out
          simp only [dn, HZ.out] at this
          rw [this, HF.out]
        refine bodyPost_end (v := .tuple #[]) (by simp [results, Try.results38, go_sem]) rfl ⟨rfl, v1, S1.out, by rw [← hfin]; exact S2.out, ?_⟩
        exact (Q4.out.next S3.out).close BM.out ((S3.out.block gm h2 d1).trans HQ1.out)
      | succ k =>
        go_upto_region 4 with fail
        have hi8 : (i : Int) < 8 := by omega
        have hw1 : IntKind.i64.wrap ((r : Int) - ((k : Int) + 1)) = (r : Int) - ((k : Int) + 1) := IntWalk.i64_in _ (by omega)
        go_still_tail 8, (by kernel_rfl)
        change wpList _ _ _ _ _ wr.drew
        have Q1d : Hid (Row wr.drew gm (up m i ((k + 1 : Nat) : Int))) := Q1
        have Q2d : Hid (SBox wr.drew go v') := Q2
        have Q3d : Hid (wr.drew.ownsRow base 27 8 v' o'.length (cs o')) := Q3
        have Q4d : Hid (K2 base gm go w wr.drew) := ⟨Q4.out.os, Q4.out.tape, Q4.out.output, Q4.out.size, Q4.out.block⟩
        have F2d : Hid (One wr.drew g2 3 (.int .i64 (N : Nat))) := F2
        have FFd : Hid (One wr.drew gf 56 (fillV g2 gm gf go)) := FF
        have hbd : Hid (base ≤ wr.drew.heap.size) := hb'
        generalize wr.drew = w2 at *
        clear Q1 Q2 Q3 Q4 F2 FF hb' cm fm cf hw1
        have hz : F (k + 1) = rs d (i + 1) (r - (k + 1)) (up m i ((k + 1 : Nat) : Int)) := by rw [← EF.out]; rfl
        have hlen : o'.length + (rs d (i + 1) (r - (k + 1)) (up m i ((k + 1 : Nat) : Int))).length ≤ 1000000000 := by
          have h5 := congrArg List.length Q5.out
          have h6 := HL.out
          rw [HF.out] at h6
          simp only [dn, hz, List.length_append] at h5 h6
          omega
        have hc := ih (i + 1) (r - (k + 1)) (up m i ((k + 1 : Nat) : Int)) o' v' w2 (by omega) (by omega) (fun j hj hj8 => by rw [up_ne _ _ (by omega)]; exact HM.out j (by omega) hj8) F2d.out Q1d.out FFd.out Q2d.out Q3d.out hlen hbd.out
        rw [show ((i + 1 : Nat) : Int) = (i : Int) + 1 by omega, show ((r - (k + 1) : Nat) : Int) = (r : Int) - ((k : Int) + 1) by omega] at hc
        have HC := Lib.hid hc
        have HZ := Lib.hid hz
        clear hc hz hlen
        go_wp2_with fail
        refine HC.out.mono ?_
        rintro e w1 ⟨rfl, v1, s1, s2, s3⟩
        have M1 := Lib.hid (show Row w1 gm (up m i ((k + 1 : Nat) : Int)) from (s3.block gm h2 d1).trans Q1d.out)
        have S1 := Lib.hid s1; have S2 := Lib.hid s2; have S3 := Lib.hid (Q4d.out.next s3)
        have cm := M1.out.cell (show i < 8 by omega)
        rw [up_self] at cm
        have fm := M1.out.frozen i
        clear s1 s2 s3
        go_wp2_with fail
        go_roundg k
        case rel =>
          refine ⟨by omega, o' ++ F (k + 1), v1, ?_, ?_, ?_, ?_, ?_⟩
          · have := M1.out.set (k := i) ((k : Nat) : Int) (by omega)
            rw [up_up] at this
            exact this
          · exact (Below.heap_setCell _ _ _ _ (Ne.symm d1)).trans S1.out
          · rw [HZ.out]; exact ownsRow_setCell_below S2.out (a := ⟨gm, i, none⟩) h2 _
          · exact S3.out.setm i _
          · rw [List.append_assoc]; exact Q5.out
        case measure => omega

/-- A list comes back, and a code. -/
def RetL (w : World) (P : List Mn → Prop) (code : Int) (e : Ending) (w' : World) : Prop := ∃ v l, e = .returned (.tuple #[v, .int .i64 code]) ∧ Sl w' v l ∧ P l ∧ Below w.heap.size w w'
set_option maxHeartbeats 1000000 in
theorem all_ok (n d : Nat) (w : World) (hn : n ≤ 8) (hd : d ≤ 12) : Calls Try.prog 30 #[.int .i64 (n : Nat), .int .i64 (d : Nat)] w (RetL w (fun l => l = rs n 0 d nul) 0) := by
  go_enter Try.func30, Try.ntmps30
  go_upto_region 7 with fail
  obtain ⟨W, hW⟩ : ∃ W, W = (((w.alloc (Obj.cells #[Value.int IntKind.i64 (n : Int)] 3)).alloc (Obj.cells #[Value.slice none 0 0] 42)).alloc (Obj.cells #[Value.int IntKind.i64 0, Value.int IntKind.i64 0, Value.int IntKind.i64 0, Value.int IntKind.i64 0, Value.int IntKind.i64 0, Value.int IntKind.i64 0, Value.int IntKind.i64 0, Value.int IntKind.i64 0] 27)).alloc (Obj.cells #[fillV w.heap.size (w.heap.size + 1 + 1) (w.heap.size + 1 + 1 + 1) (w.heap.size + 1)] 56) := ⟨_, rfl⟩
  rw [← hW]
  have B2 : Hid (One W w.heap.size 3 (.int .i64 (n : Nat))) := by
    rw [hW]
    exact (Below.heap_alloc _ _ _ (by simp; omega)).trans ((Below.heap_alloc _ _ _ (by simp; omega)).trans ((Below.heap_alloc _ _ _ (by simp)).trans (heap_alloc_new w _)))
  have BO : Hid (SBox W (w.heap.size + 1) (.slice none 0 0)) := by
    rw [hW]
    refine (Below.heap_alloc _ _ _ (by simp <;> omega)).trans ((Below.heap_alloc _ _ _ (by simp)).trans ?_)
    have := heap_alloc_new (w.alloc (Obj.cells #[Value.int IntKind.i64 (n : Int)] 3)) (Obj.cells #[Value.slice none 0 0] 42)
    simpa using this
  have BM : Hid (Row W (w.heap.size + 1 + 1) nul) := by
    rw [hW]
    refine (Below.heap_alloc _ _ _ (by simp)).trans ?_
    have := heap_alloc_new ((w.alloc (Obj.cells #[Value.int IntKind.i64 (n : Int)] 3)).alloc (Obj.cells #[Value.slice none 0 0] 42)) (Obj.cells #[Value.int IntKind.i64 0, Value.int IntKind.i64 0, Value.int IntKind.i64 0, Value.int IntKind.i64 0, Value.int IntKind.i64 0, Value.int IntKind.i64 0, Value.int IntKind.i64 0, Value.int IntKind.i64 0] 27)
    simp only [World.size_alloc] at this
    exact this
  have BF : Hid (One W (w.heap.size + 1 + 1 + 1) 56 (fillV w.heap.size (w.heap.size + 1 + 1) (w.heap.size + 1 + 1 + 1) (w.heap.size + 1))) := by
    rw [hW]
    have := heap_alloc_new (((w.alloc (Obj.cells #[Value.int IntKind.i64 (n : Int)] 3)).alloc (Obj.cells #[Value.slice none 0 0] 42)).alloc (Obj.cells #[Value.int IntKind.i64 0, Value.int IntKind.i64 0, Value.int IntKind.i64 0, Value.int IntKind.i64 0, Value.int IntKind.i64 0, Value.int IntKind.i64 0, Value.int IntKind.i64 0, Value.int IntKind.i64 0] 27)) (Obj.cells #[fillV w.heap.size (w.heap.size + 1 + 1) (w.heap.size + 1 + 1 + 1) (w.heap.size + 1)] 56)
    simp only [World.size_alloc] at this
    exact this
  have D : Hid (Below w.heap.size w W) := by rw [hW]; exact ((((Below.refl _ _).alloc (Nat.le_refl _) _).alloc (by simp) _).alloc (by simp; omega) _).alloc (by simp; omega) _
  have Z : Hid (W.heap.size = w.heap.size + 4) := by rw [hW]; simp [Hid]
  have cf := cell_of_one BF.out
  clear hW
  have hl := rs_len n 0 d nul hd
  have h13 : 13 ^ n ≤ 13 ^ 8 := Nat.pow_le_pow_right (by omega) hn
  have hc := fill_any n w.heap.size (w.heap.size + 1 + 1) (w.heap.size + 1 + 1 + 1) (w.heap.size + 1) (w.heap.size + 4) hn (by omega) (by omega) (by omega) (by omega) (by omega) (by omega) (by omega) (by omega) (by omega) n 0 d nul [] (.slice none 0 0) W (by omega) hd (fun _ _ _ => rfl) B2.out BM.out BF.out BO.out (World.ownsRow_nil _ _ _ _) (by simp; omega) (by rw [Z.out]; omega)
  have HC := Lib.hid hc
  clear hc hl h13
  go_wp2_with fail
  refine HC.out.mono ?_
  rintro e w1 ⟨rfl, v1, s1, s2, s3⟩
  have co := s1.cell
  have S2 := Lib.hid s2; have S3 := Lib.hid s3
  clear s1 s2 s3 cf
  go_wp2_with fail
  go_ret2
  exact ⟨v1, rs n 0 d nul, rfl, Sl.of_own (by have := S2.out; rw [List.nil_append] at this; exact this), rfl, ⟨S3.out.os.trans D.out.os, S3.out.tape.trans D.out.tape, S3.out.output.trans D.out.output, Nat.le_trans D.out.size S3.out.size, fun k hk => (S3.out.block k (by omega) (by omega)).trans (D.out.block k hk)⟩⟩
set_option maxHeartbeats 1000000 in
theorem all_err (n d : Int) (w : World) (h : n < 0 ∨ 8 < n ∨ d < 0 ∨ 12 < d) : Calls Try.prog 30 #[.int .i64 n, .int .i64 d] w fun e w' => e = .returned (.tuple #[.slice none 0 0, .int .i64 1]) ∧ Below w.heap.size w w' := by
  have D := Lib.hid ((Below.refl w.heap.size w).alloc (Nat.le_refl _) (Obj.cells #[Value.int IntKind.i64 n] 3))
  by_cases h1 : n < 0
  · go_enter Try.func30, Try.ntmps30
    go_wp2
    go_ret2
    exact ⟨rfl, D.out⟩
  by_cases h2 : 8 < n
  · go_enter Try.func30, Try.ntmps30
    go_wp2
    go_ret2
    exact ⟨rfl, D.out⟩
  by_cases h3 : d < 0
  · go_enter Try.func30, Try.ntmps30
    go_wp2
    go_ret2
    exact ⟨rfl, D.out⟩
  have h4 : 12 < d := by omega
  go_enter Try.func30, Try.ntmps30
  go_wp2
  go_ret2
  exact ⟨rfl, D.out⟩
end Go.Proofs.Ytchkaaeipafdnaa
