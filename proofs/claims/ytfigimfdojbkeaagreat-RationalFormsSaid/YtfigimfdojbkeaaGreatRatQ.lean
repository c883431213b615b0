/-
  The reference's functions on fractions.
-/
import Derived.Test.YtfigimfdojbkeaaGreatRatG
import Derived.Test.YtfigimfdojbkeaaGreatLawI
import Derived.Deep.DeepCutAuto
import Derived.Handy
set_option linter.unusedSimpArgs false
set_option linter.unusedVariables false
namespace Go.Proofs.YtfigimfdojbkeaaGreat
open Go.RowKit
attribute [local go_sem ↓] Go.wp_at_zero Go.wp_at_succ
set_option maxHeartbeats 2000000 in
theorem qsame1_any (va vb : Value) (a b : Int) (w : World) (ha : Iv w va a) (hb : Iv w vb b) (sa : Sz a 1000000) (sb : Sz b 1000000) : Calls Tryz.prog 93 #[va, vb] w (RetV (.bool (decide (a = b))) w) := by
  obtain ⟨A, n, c, rfl, h1, h2, h3⟩ := ha.form
  obtain ⟨B, m, d, rfl, k1, k2, k3⟩ := hb.form
  have HA := Lib.hid h3
  have HB := Lib.hid k3
  have hn : n ≤ 1000000 := by rw [← h3.len]; exact sa.len
  have hm : m ≤ 1000000 := by rw [← k3.len]; exact sb.len
  have hres : Hid (decide (a < 0) = decide (b < 0) → a.natAbs = b.natAbs → a = b) := fun e1 e2 => by
    rw [← sgn_of a, ← sgn_of b, e1, e2]
  have hsg : Hid (decide (a < 0) ≠ decide (b < 0) → decide (a = b) = false) := fun e1 => by
    rw [decide_eq_false_iff_not]; intro e; rw [e] at e1; exact e1 rfl
  have hab : Hid (a.natAbs ≠ b.natAbs → decide (a = b) = false) := fun e1 => by
    rw [decide_eq_false_iff_not]; intro e; rw [e] at e1; exact e1 rfl
  have hbT : Hid (a = b → decide (a = b) = true) := fun e => decide_eq_true e
  generalize decide (a < 0) = na at *
  generalize decide (b < 0) = nb at *
  clear h3 k3 sa sb ha hb
  by_cases hs : na = nb
  · subst hs
    have ht : (na != na) = false := by simp
    by_cases hnm : n = m
    · subst hnm
      have ht2 : ((n : Int) != (n : Int)) = false := by simp
      go_enter Tryz.func93, Tryz.ntmps93
      go_wp2
      obtain ⟨W, hW⟩ : ∃ W, W = (w.alloc (Obj.cells #[Value.bool na, Value.slice A n c] 29)).alloc (Obj.cells #[Value.bool na, Value.slice B n d] 29) := ⟨_, rfl⟩
      rw [← hW]
      have b0 : Box W w.heap.size na (.slice A n c) := by rw [hW]; exact (Box.new w _ _).alloc _
      have b1 : Box W (w.heap.size + 1) na (.slice B n d) := by rw [hW]; have := Box.new (w.alloc (Obj.cells #[Value.bool na, Value.slice A n c] 29)) na (.slice B n d); simpa using this
      have w1 : Wd W A n (mag a.natAbs) := by rw [hW]; exact (HA.out.alloc _).alloc _
      have w2 : Wd W B n (mag b.natAbs) := by rw [hW]; exact (HB.out.alloc _).alloc _
      have hbW : Below w.heap.size w W := by rw [hW]; exact ((Below.refl _ _).alloc (Nat.le_refl _) _).alloc (by simp) _
      have c0 := b0.cell0
      have c1 := b0.cell1
      have c2 := b1.cell0
      have c3 := b1.cell1
      have W1 := Lib.hid w1
      have W2 := Lib.hid w2
      clear hW b0 b1 w1 w2
      generalize hg0 : w.heap.size = g at *
      go_loopw [5] (fun t wr => ∃ k q : Nat, k ≤ n ∧ t = .int .i64 k ∧ wr = W.drewN q ∧ SameFrom (mag a.natAbs) (mag b.natAbs) k k) (fun t _ => n - (intOf t).toNat)
      case atStart => exact ⟨0, 0, Nat.zero_le _, rfl, rfl, fun j h1 h2 => by omega⟩
      case round =>
        obtain ⟨k, q, hk, rfl, rfl, hsm⟩ := hrel
        have HSM := Lib.hid hsm
        clear hsm
        by_cases hlt : k < n
        · obtain ⟨ba, oa, rfl, _, hca⟩ := W1.out.cells (by omega)
          obtain ⟨bb, ob, rfl, _, hcb⟩ := W2.out.cells (by omega)
          have d0 := hca k hlt
          have d1 := hcb k hlt
          have i0 : (0 : Int) ≤ (k : Int) := by omega
          have i1 : (k : Int) < n := by omega
          clear hca hcb
          by_cases he : gd (mag a.natAbs) k = gd (mag b.natAbs) k
          · have hne : (((gd (mag a.natAbs) k : Nat) : Int) != ((gd (mag b.natAbs) k : Nat) : Int)) = false := by rw [he]; simp
            have hsm2 : Hid (SameFrom (mag a.natAbs) (mag b.natAbs) (k + 1) (k + 1)) := fun j h1 h2 => by
              by_cases e : j = k
              · rw [e]; exact he
              · exact HSM.out j (by omega) (by omega)
            clear he
            go_wp2
            go_quiet (fail)
            go_wp2
            go_roundw
            case rel => exact ⟨k + 1, _, by omega, by go_num, rfl, hsm2⟩
            case measure => simp [intOf]; omega
          · have hne : (((gd (mag a.natAbs) k : Nat) : Int) != ((gd (mag b.natAbs) k : Nat) : Int)) = true := by simp; omega
            have hfin : Hid (decide (a = b) = false) := hab.out (fun e => he (by rw [e]))
            clear he
            go_wp2
            go_quiet (fail)
            go_wp2
            go_ret
            exact ⟨by rw [hfin.out]; rfl, by rw [hg0]; exact below_drewN (below_drewN hbW _) _⟩
        · have hge : n ≤ k := by omega
          have hfin : Hid (decide (a = b) = true) := hbT.out (hres.out (by first | rfl | trivial) (by
            have := drop_same (p := 0) W1.out.len W2.out.len (fun j _ h2 => HSM.out j (by omega) (by omega))
            exact mag_inj (by simpa using this)))
          go_wp2
          go_ret
          exact ⟨by rw [hfin.out]; rfl, by rw [hg0]; exact below_drewN hbW _⟩
    · have ht2 : ((n : Int) != (m : Int)) = true := by simp; omega
      have hfin : Hid (decide (a = b) = false) := hab.out (fun e => hnm (agg_eq_of HA.out HB.out e))
      go_enter Tryz.func93, Tryz.ntmps93
      go_wp2
      go_ret
      exact ⟨by rw [hfin.out]; rfl, ((Below.refl _ _).alloc (Nat.le_refl _) _).alloc (by simp) _⟩
  · have ht : (na != nb) = true := by simp [hs]
    have hfin := Lib.hid (hsg.out hs)
    go_enter Tryz.func93, Tryz.ntmps93
    go_wp2
    go_ret
    exact ⟨by rw [hfin.out]; rfl, ((Below.refl _ _).alloc (Nat.le_refl _) _).alloc (by simp) _⟩

section
variable {o : Oper} {a : Act} {w : World} {ρ : Operand → Value} {x : Operand}
/-- The cell of a raw number. -/
def KBox (w : World) (g : Nat) (n d k : Int) : Prop := w.heap[g]? = some (.cells #[.int .i8 n, .int .i8 d, .int .u8 k] 24 (0, 0))
theorem KBox.new (w : World) (n d k : Int) : KBox (w.alloc (.cells #[.int .i8 n, .int .i8 d, .int .u8 k] 24)) w.heap.size n d k := heap_alloc_new w _
theorem KBox.lt {w : World} {g : Nat} {n d k : Int} (h : KBox w g n d k) : g < w.heap.size := by
  rcases Nat.lt_or_ge g w.heap.size with hlt | hge
  · exact hlt
  · unfold KBox at h; rw [Array.getElem?_eq_none hge] at h; cases h
theorem KBox.cell0 {w : World} {g : Nat} {n d k : Int} (h : KBox w g n d k) : w.cell? ⟨g, 0, none⟩ = some (.int .i8 n) := cell_of_row w g 0 _ _ (0, 0) h
theorem KBox.cell1 {w : World} {g : Nat} {n d k : Int} (h : KBox w g n d k) : w.cell? ⟨g, 1, none⟩ = some (.int .i8 d) := cell_of_row w g 1 _ _ (0, 0) h
theorem KBox.cell2 {w : World} {g : Nat} {n d k : Int} (h : KBox w g n d k) : w.cell? ⟨g, 2, none⟩ = some (.int .u8 k) := cell_of_row w g 2 _ _ (0, 0) h
theorem KBox.alloc {w : World} {g : Nat} {n d k : Int} (h : KBox w g n d k) (o : Obj) : KBox (w.alloc o) g n d k := (Below.heap_alloc w o g h.lt).trans h
theorem KBox.next {w w1 w' : World} {g : Nat} {n d k : Int} (h : KBox w g n d k) (hb : Below w1.heap.size w1 w') (e : w1.heap = w.heap) : KBox w' g n d k := by
  have h1 : KBox w1 g n d k := by unfold KBox; rw [e]; exact h
  exact (hb.block g h1.lt).trans h1
theorem KBox.bel {O : List Nat} {V w : World} {g : Nat} {n d k : Int} (h : KBox V g n d k) (hb : Rg.Bel O V w) (hn : g ∉ O) : KBox w g n d k := (hb.block g h.lt hn).trans h
theorem KBox.far {w : World} {g : Nat} {n d k : Int} (h : KBox w g n d k) {p : Addr} (hp : g ≠ p.block) (u : Value) : KBox (w.setCell p u) g n d k := (Below.heap_setCell w p u g hp).trans h
theorem run_kfield {g : Nat} {i : Nat} (ho : o.op = .fieldAddr 24 x i) (hi : i < 3) (hx : ρ x = ptr g) : (execOp ρ o).run Tryz.prog w = .ok (.value (.pointer (some ⟨g, i, none⟩))) w := by
  rcases (show i = 0 ∨ i = 1 ∨ i = 2 by omega) with rfl | rfl | rfl <;> simp [execOp, ho, hx, go_sem, ptr]
theorem run_kload8 {g i : Nat} {z : Int} (ho : o.op = .load 22 x) (hx : ρ x = .pointer (some ⟨g, i, none⟩)) (hc : w.cell? ⟨g, i, none⟩ = some (.int .i8 z)) : (execOp ρ o).run Tryz.prog w = .ok (.value (.int .i8 z)) w := by
  simp [execOp, ho, hx, go_sem, hc]
theorem run_kloadu {g i : Nat} {z : Int} (ho : o.op = .load 5 x) (hx : ρ x = .pointer (some ⟨g, i, none⟩)) (hc : w.cell? ⟨g, i, none⟩ = some (.int .u8 z)) : (execOp ρ o).run Tryz.prog w = .ok (.value (.int .u8 z)) w := by
  simp [execOp, ho, hx, go_sem, hc]
theorem run_conv8 {m : Int} (ho : o.op = .convert 22 2 x) (hx : ρ x = .int .i8 m) (hm : -9223372036854775808 ≤ m ∧ m ≤ 9223372036854775807) : (execOp ρ o).run Tryz.prog w = .ok (.value (.int .i64 m)) w := by
  simp [execOp, ho, hx, go_sem, convert, run_underlying Tryz.underlying22, run_underlying Tryz.underlying2]
  exact IntWalk.i64_in _ hm
theorem run_convu {m : Int} (ho : o.op = .convert 5 2 x) (hx : ρ x = .int .u8 m) (hm : -9223372036854775808 ≤ m ∧ m ≤ 9223372036854775807) : (execOp ρ o).run Tryz.prog w = .ok (.value (.int .i64 m)) w := by
  simp [execOp, ho, hx, go_sem, convert, run_underlying Tryz.underlying5, run_underlying Tryz.underlying2]
  exact IntWalk.i64_in _ hm
end

set_option maxHeartbeats 8000000 in
set_option maxRecDepth 100000 in
theorem qsame_eq (va vb : Value) (a b : Rat) (w : World) (ha : Qv w va a.num a.den) (sa : Sr a 1000000) (hb : Qv w vb b.num b.den) (sb : Sr b 1000000) (hn : a.num = b.num) : Calls Tryz.prog 16 #[va, vb] w (RetV (.bool (decide ((a.den : Int) = b.den))) w) := by
  obtain ⟨Xan, pan, qan, Xad, pad, qad, rfl, han, had⟩ := ha
  have Han := Lib.hid han
  have Had := Lib.hid had
  have SRa := Lib.hid sa
  clear han had sa
  generalize hs : decide (a.num < 0) = san at *
  clear hs
  generalize hs : decide ((a.den : Int) < 0) = sad at *
  clear hs
  obtain ⟨Xbn, pbn, qbn, Xbd, pbd, qbd, rfl, hbn, hbd⟩ := hb
  have Hbn := Lib.hid hbn
  have Hbd := Lib.hid hbd
  have SRb := Lib.hid sb
  clear hbn hbd sb
  generalize hs : decide (b.num < 0) = sbn at *
  clear hs
  generalize hs : decide ((b.den : Int) < 0) = sbd at *
  clear hs
  have hd : Hid (decide (a.num = b.num) = true) := decide_eq_true hn
  clear hn
  go_enter Tryz.func16, Tryz.ntmps16
  go_wp2_with fail
  obtain ⟨W, hW⟩ : ∃ W, W = ((w.alloc (Obj.cells #[Value.bool san, Value.slice Xan pan qan, Value.bool sad, Value.slice Xad pad qad] 31)).alloc (Obj.cells #[Value.bool sbn, Value.slice Xbn pbn qbn, Value.bool sbd, Value.slice Xbd pbd qbd] 31)) := ⟨_, rfl⟩
  rw [← hW]
  have QXa : Hid (QBox W (w.heap.size) san (.slice Xan pan qan) sad (.slice Xad pad qad)) := by rw [hW]; have := (QBox.new w san (Value.slice Xan pan qan) sad (Value.slice Xad pad qad)).alloc (Obj.cells #[Value.bool sbn, Value.slice Xbn pbn qbn, Value.bool sbd, Value.slice Xbd pbd qbd] 31); simpa [Hid] using this
  have QXb : Hid (QBox W (w.heap.size + 1) sbn (.slice Xbn pbn qbn) sbd (.slice Xbd pbd qbd)) := by rw [hW]; have := QBox.new (w.alloc (Obj.cells #[Value.bool san, Value.slice Xan pan qan, Value.bool sad, Value.slice Xad pad qad] 31)) sbn (Value.slice Xbn pbn qbn) sbd (Value.slice Xbd pbd qbd); simpa [Hid] using this
  have IVna : Hid (Iv W (.agg #[.bool san, .slice Xan pan qan]) (a.num)) := by rw [hW]; exact ((Han.out).alloc _).alloc _
  have IVda : Hid (Iv W (.agg #[.bool sad, .slice Xad pad qad]) ((a.den : Int))) := by rw [hW]; exact ((Had.out).alloc _).alloc _
  have IVnb : Hid (Iv W (.agg #[.bool sbn, .slice Xbn pbn qbn]) (b.num)) := by rw [hW]; exact ((Hbn.out).alloc _).alloc _
  have IVdb : Hid (Iv W (.agg #[.bool sbd, .slice Xbd pbd qbd]) ((b.den : Int))) := by rw [hW]; exact ((Hbd.out).alloc _).alloc _
  have DW : Hid (Below w.heap.size w W) := by rw [hW]; exact ((Below.refl _ _).alloc (by simp <;> omega) _).alloc (by simp <;> omega) _
  clear hW
  generalize hg : w.heap.size = g at *
  replace hg := Lib.hid hg
  go_upto_region 1 with fail
  have u1a := QXa.out.cell0; have u1b := QXa.out.cell1; have u1c := QXa.out.cell2; have u1d := QXa.out.cell3
  have u2a := QXb.out.cell0; have u2b := QXb.out.cell1; have u2c := QXb.out.cell2; have u2d := QXb.out.cell3
  go_wp2_with fail
  clear u1a u1b u1c u1d u2a u2b u2c u2d
  refine (qsame1_any _ _ a.num b.num _ IVna.out IVnb.out SRa.out.num SRb.out.num).mono ?_
  rintro e y3 ⟨rfl, hb⟩
  replace QXa := nxq QXa hb rfl; replace IVna := nxv IVna hb rfl; replace IVda := nxv IVda hb rfl
  replace QXb := nxq QXb hb rfl; replace IVnb := nxv IVnb hb rfl; replace IVdb := nxv IVdb hb rfl
  replace DW := nxd DW hg hb rfl rfl rfl rfl
  clear hb
  rw [hd.out]
  have u4a := QXa.out.cell0; have u4b := QXa.out.cell1; have u4c := QXa.out.cell2; have u4d := QXa.out.cell3
  have u5a := QXb.out.cell0; have u5b := QXb.out.cell1; have u5c := QXb.out.cell2; have u5d := QXb.out.cell3
  go_wp2_with fail
  clear u4a u4b u4c u4d u5a u5b u5c u5d
  refine (qsame1_any _ _ (a.den : Int) (b.den : Int) _ IVda.out IVdb.out SRa.out.den SRb.out.den).mono ?_
  rintro e y6 ⟨rfl, hb⟩
  replace QXa := nxq QXa hb rfl; replace IVna := nxv IVna hb rfl; replace IVda := nxv IVda hb rfl
  replace QXb := nxq QXb hb rfl; replace IVnb := nxv IVnb hb rfl; replace IVdb := nxv IVdb hb rfl
  replace DW := nxd DW hg hb rfl rfl rfl rfl
  clear hb
  go_wp2
  go_ret
  exact ⟨rfl, by rw [hg.out]; exact DW.out⟩

set_option maxHeartbeats 8000000 in
set_option maxRecDepth 100000 in
theorem qsame_ne (va vb : Value) (a b : Rat) (w : World) (ha : Qv w va a.num a.den) (sa : Sr a 1000000) (hb : Qv w vb b.num b.den) (sb : Sr b 1000000) (hn : a.num ≠ b.num) : Calls Tryz.prog 16 #[va, vb] w (RetV (.bool (false)) w) := by
  obtain ⟨Xan, pan, qan, Xad, pad, qad, rfl, han, had⟩ := ha
  have Han := Lib.hid han
  have Had := Lib.hid had
  have SRa := Lib.hid sa
  clear han had sa
  generalize hs : decide (a.num < 0) = san at *
  clear hs
  generalize hs : decide ((a.den : Int) < 0) = sad at *
  clear hs
  obtain ⟨Xbn, pbn, qbn, Xbd, pbd, qbd, rfl, hbn, hbd⟩ := hb
  have Hbn := Lib.hid hbn
  have Hbd := Lib.hid hbd
  have SRb := Lib.hid sb
  clear hbn hbd sb
  generalize hs : decide (b.num < 0) = sbn at *
  clear hs
  generalize hs : decide ((b.den : Int) < 0) = sbd at *
  clear hs
  have hd : Hid (decide (a.num = b.num) = false) := decide_eq_false hn
  clear hn
  go_enter Tryz.func16, Tryz.ntmps16
  go_wp2_with fail
  obtain ⟨W, hW⟩ : ∃ W, W = ((w.alloc (Obj.cells #[Value.bool san, Value.slice Xan pan qan, Value.bool sad, Value.slice Xad pad qad] 31)).alloc (Obj.cells #[Value.bool sbn, Value.slice Xbn pbn qbn, Value.bool sbd, Value.slice Xbd pbd qbd] 31)) := ⟨_, rfl⟩
  rw [← hW]
  have QXa : Hid (QBox W (w.heap.size) san (.slice Xan pan qan) sad (.slice Xad pad qad)) := by rw [hW]; have := (QBox.new w san (Value.slice Xan pan qan) sad (Value.slice Xad pad qad)).alloc (Obj.cells #[Value.bool sbn, Value.slice Xbn pbn qbn, Value.bool sbd, Value.slice Xbd pbd qbd] 31); simpa [Hid] using this
  have QXb : Hid (QBox W (w.heap.size + 1) sbn (.slice Xbn pbn qbn) sbd (.slice Xbd pbd qbd)) := by rw [hW]; have := QBox.new (w.alloc (Obj.cells #[Value.bool san, Value.slice Xan pan qan, Value.bool sad, Value.slice Xad pad qad] 31)) sbn (Value.slice Xbn pbn qbn) sbd (Value.slice Xbd pbd qbd); simpa [Hid] using this
  have IVna : Hid (Iv W (.agg #[.bool san, .slice Xan pan qan]) (a.num)) := by rw [hW]; exact ((Han.out).alloc _).alloc _
  have IVda : Hid (Iv W (.agg #[.bool sad, .slice Xad pad qad]) ((a.den : Int))) := by rw [hW]; exact ((Had.out).alloc _).alloc _
  have IVnb : Hid (Iv W (.agg #[.bool sbn, .slice Xbn pbn qbn]) (b.num)) := by rw [hW]; exact ((Hbn.out).alloc _).alloc _
  have IVdb : Hid (Iv W (.agg #[.bool sbd, .slice Xbd pbd qbd]) ((b.den : Int))) := by rw [hW]; exact ((Hbd.out).alloc _).alloc _
  have DW : Hid (Below w.heap.size w W) := by rw [hW]; exact ((Below.refl _ _).alloc (by simp <;> omega) _).alloc (by simp <;> omega) _
  clear hW
  generalize hg : w.heap.size = g at *
  replace hg := Lib.hid hg
  go_upto_region 1 with fail
  have u1a := QXa.out.cell0; have u1b := QXa.out.cell1; have u1c := QXa.out.cell2; have u1d := QXa.out.cell3
  have u2a := QXb.out.cell0; have u2b := QXb.out.cell1; have u2c := QXb.out.cell2; have u2d := QXb.out.cell3
  go_wp2_with fail
  clear u1a u1b u1c u1d u2a u2b u2c u2d
  refine (qsame1_any _ _ a.num b.num _ IVna.out IVnb.out SRa.out.num SRb.out.num).mono ?_
  rintro e y3 ⟨rfl, hb⟩
  replace QXa := nxq QXa hb rfl; replace IVna := nxv IVna hb rfl; replace IVda := nxv IVda hb rfl
  replace QXb := nxq QXb hb rfl; replace IVnb := nxv IVnb hb rfl; replace IVdb := nxv IVdb hb rfl
  replace DW := nxd DW hg hb rfl rfl rfl rfl
  clear hb
  rw [hd.out]
  go_wp2
  go_ret
  exact ⟨rfl, by rw [hg.out]; exact DW.out⟩

theorem qsame_any (va vb : Value) (a b : Rat) (w : World) (ha : Qv w va a.num a.den) (sa : Sr a 1000000) (hb : Qv w vb b.num b.den) (sb : Sr b 1000000) : Calls Tryz.prog 16 #[va, vb] w (RetV (.bool (decide (a = b))) w) := by
  by_cases hn : a.num = b.num
  · have h := qsame_eq va vb a b w ha sa hb sb hn
    have e : decide ((a.den : Int) = b.den) = decide (a = b) := by
      rw [decide_eq_decide]
      exact ⟨fun e => Rat.ext hn (by omega), fun e => by rw [e]⟩
    rwa [e] at h
  · have h := qsame_ne va vb a b w ha sa hb sb hn
    have e : decide (a = b) = false := decide_eq_false (fun e => hn (by rw [e]))
    rwa [e]
theorem qsame_is (va vb : Value) (a b : Rat) (r : Bool) (w : World) (ha : Qv w va a.num a.den) (sa : Sr a 1000000) (hb : Qv w vb b.num b.den) (sb : Sr b 1000000) (h : decide (a = b) = r) : Calls Tryz.prog 16 #[va, vb] w (RetV (.bool r) w) := by
  rw [← h]; exact qsame_any va vb a b w ha sa hb sb

set_option maxHeartbeats 8000000 in
set_option maxRecDepth 100000 in
theorem exact_any (va vb : Value) (za zb q : Int) (w : World) (ha : Iv w va za) (hb : Iv w vb zb) (sa : Sz za 1000000) (sb : Sz zb 1000000) (hb0 : zb ≠ 0) (hq : za / zb = q) : Calls Tryz.prog 149 #[va, vb] w (RetIv q w) := by
  subst hq
  replace hb0 := Lib.hid hb0
  obtain ⟨Xa, pa, qa, rfl, _, _, _⟩ := ha.form
  have Ha := Lib.hid ha
  have SZa := Lib.hid sa
  clear ha sa
  generalize hs : decide (za < 0) = sa at *
  clear hs
  obtain ⟨Xb, pb, qb, rfl, _, _, _⟩ := hb.form
  have Hb := Lib.hid hb
  have SZb := Lib.hid sb
  clear hb sb
  generalize hs : decide (zb < 0) = sb at *
  clear hs

  go_enter Tryz.func149, Tryz.ntmps149
  go_wp2_with fail
  obtain ⟨W, hW⟩ : ∃ W, W = (((w.alloc (Obj.cells #[Value.bool sa, Value.slice Xa pa qa] 29)).alloc (Obj.cells #[Value.bool sb, Value.slice Xb pb qb] 29)).alloc (Obj.cells #[Value.bool false, Value.slice none 0 0] 29)) := ⟨_, rfl⟩
  rw [← hW]
  have BXa : Hid (Box W (w.heap.size) sa (.slice Xa pa qa)) := by rw [hW]; have := ((Box.new w sa (Value.slice Xa pa qa)).alloc (Obj.cells #[Value.bool sb, Value.slice Xb pb qb] 29)).alloc (Obj.cells #[Value.bool false, Value.slice none 0 0] 29); simpa [Hid] using this
  have BXb : Hid (Box W (w.heap.size + 1) sb (.slice Xb pb qb)) := by rw [hW]; have := (Box.new (w.alloc (Obj.cells #[Value.bool sa, Value.slice Xa pa qa] 29)) sb (Value.slice Xb pb qb)).alloc (Obj.cells #[Value.bool false, Value.slice none 0 0] 29); simpa [Hid] using this
  have RXr : Hid (Box W (w.heap.size + 1 + 1) false (.slice none 0 0)) := by rw [hW]; have := Box.new ((w.alloc (Obj.cells #[Value.bool sa, Value.slice Xa pa qa] 29)).alloc (Obj.cells #[Value.bool sb, Value.slice Xb pb qb] 29)) false (Value.slice none 0 0); simpa [Hid] using this
  have IVa : Hid (Iv W (.agg #[.bool sa, .slice Xa pa qa]) (za)) := by rw [hW]; exact (((Ha.out).alloc _).alloc _).alloc _
  have IVb : Hid (Iv W (.agg #[.bool sb, .slice Xb pb qb]) (zb)) := by rw [hW]; exact (((Hb.out).alloc _).alloc _).alloc _
  have DW : Hid (Below w.heap.size w W) := by rw [hW]; exact (((Below.refl _ _).alloc (by simp <;> omega) _).alloc (by simp <;> omega) _).alloc (by simp <;> omega) _
  clear hW
  generalize hg : w.heap.size = g at *
  replace hg := Lib.hid hg
  have u1a := BXa.out.cell0; have u1b := BXa.out.cell1
  have u2a := BXb.out.cell0; have u2b := BXb.out.cell1
  go_wp2_with fail
  clear u1a u1b u2a u2b
  refine (rdivMod_any _ _ za zb _ IVa.out IVb.out SZa.out SZb.out hb0.out).mono ?_
  rintro e y3 ⟨_, _, rfl, hq0, hq1, hb⟩
  obtain ⟨Xu, pu, qu, rfl, _, _, _⟩ := hq0.form
  have Qu := Lib.hid hq0; clear hq0
  obtain ⟨Xv, pv, qv, rfl, _, _, _⟩ := hq1.form
  have Qv := Lib.hid hq1; clear hq1
  have B := Lib.hid hb; clear hb
  generalize hs : decide ((za / zb : Int) < 0) = su at *
  clear hs
  generalize hs : decide ((za % zb : Int) < 0) = sv at *
  clear hs
  go_upto_region 2 with fail
  obtain ⟨W4, hW⟩ : ∃ W4, W4 = ((y3.alloc (Obj.cells #[Value.bool su, Value.slice Xu pu qu] 29)).alloc (Obj.cells #[Value.bool sv, Value.slice Xv pv qv] 29)) := ⟨_, rfl⟩
  rw [← hW]
  have BXu : Hid (Box W4 (y3.heap.size) su (.slice Xu pu qu)) := by rw [hW]; have := (Box.new y3 su (.slice Xu pu qu)).alloc (Obj.cells #[Value.bool sv, Value.slice Xv pv qv] 29); simpa [Hid] using this
  have IVu : Hid (Iv W4 (.agg #[.bool su, .slice Xu pu qu]) (za / zb)) := by rw [hW]; exact ((Qu.out).alloc _).alloc _
  have BXv : Hid (Box W4 (y3.heap.size + 1) sv (.slice Xv pv qv)) := by rw [hW]; have := Box.new (y3.alloc (Obj.cells #[Value.bool su, Value.slice Xu pu qu] 29)) sv (.slice Xv pv qv); simpa [Hid] using this
  have IVv : Hid (Iv W4 (.agg #[.bool sv, .slice Xv pv qv]) (za % zb)) := by rw [hW]; exact ((Qv.out).alloc _).alloc _
  have hd : Below W.heap.size W W4 := by rw [hW]; exact ((B.out).alloc (by have := B.out.size; simp <;> omega) _).alloc (by have := B.out.size; simp <;> omega) _
  have NEvr : Hid ((y3.heap.size + 1) ≠ (g + 1 + 1)) := by have := RXr.out.lt; have := B.out.size; unfold Hid; omega
  have NEur : Hid ((y3.heap.size) ≠ (g + 1 + 1)) := by have := RXr.out.lt; have := B.out.size; unfold Hid; omega
  clear hW B Qu Qv
  generalize hgn4 : y3.heap.size + 1 = gv at *
  clear hgn4
  generalize hgn4 : y3.heap.size = gu at *
  clear hgn4
  replace BXa := nxb BXa hd rfl; replace IVa := nxv IVa hd rfl
  replace BXb := nxb BXb hd rfl; replace IVb := nxv IVb hd rfl
  replace RXr := Lib.hid (RXr.out.next hd rfl)
  replace DW := nxd DW hg hd rfl rfl rfl rfl
  clear hd
  have u5a := BXu.out.cell0; have u5b := BXu.out.cell1
  have u6a := RXr.out.cell0; have u6b := RXr.out.cell1; have u6f := RXr.out.frozen 0; have u6g := RXr.out.frozen 1
  go_wp2
  refine bodyPost_ret (v := .agg #[.bool su, .slice Xu pu qu]) (by simp [results, Tryz.results149, go_sem, u5a, u5b, u6a, u6b, u6f, u6g]) rfl ⟨_, rfl, ?_, by rw [hg.out]; exact (DW.out.setCell (by simp; omega) _).setCell (by simp; omega) _⟩
  exact iv_keep IVu.out RXr.out _

set_option maxHeartbeats 8000000 in
set_option maxRecDepth 100000 in
theorem rlowest_at (va vb : Value) (za zb N D : Int) (w : World) (ha : Iv w va za) (sa : Sz za 100000) (hb : Iv w vb zb) (sb : Sz zb 100000) (h0 : zb ≠ 0) (h1 : 0 < zb → N = za / (Nat.gcd za.natAbs zb.natAbs : Nat) ∧ D = zb / (Nat.gcd za.natAbs zb.natAbs : Nat)) (h2 : zb < 0 → N = za / (-(Nat.gcd za.natAbs zb.natAbs : Nat)) ∧ D = zb / (-(Nat.gcd za.natAbs zb.natAbs : Nat))) : Calls Tryz.prog 92 #[va, vb] w (RetQ N D w) := by
  obtain ⟨Xa, pa, qa, rfl, _, _, _⟩ := ha.form
  have Ha := Lib.hid ha
  have SZa := Lib.hid sa
  clear ha sa
  generalize hs : decide (za < 0) = sa at *
  clear hs
  obtain ⟨Xb, pb, qb, rfl, _, _, _⟩ := hb.form
  have Hb := Lib.hid hb
  have SZb := Lib.hid sb
  clear hb sb
  generalize hs : decide (zb < 0) = sb at *
  clear hs
  obtain ⟨G, hG⟩ : ∃ G : Int, ((Nat.gcd za.natAbs zb.natAbs : Nat) : Int) = G := ⟨_, rfl⟩
  have SG : Hid (Sz G 100000) := by
    refine ⟨?_⟩
    rw [← hG, Int.natAbs_natCast]
    exact Nat.lt_of_le_of_lt (Nat.gcd_le_right _ (by omega)) SZb.out.lt
  have NG : Hid (0 < G) := by
    have := Nat.gcd_pos_of_pos_right za.natAbs (show 0 < zb.natAbs by omega)
    unfold Hid; omega
  rw [hG] at h1 h2
  have hG2 : Hid ((Int.gcd za zb : Int) = G) := hG
  clear hG
  obtain ⟨SB, hSB⟩ : ∃ x, sg zb = x := ⟨_, rfl⟩
  have hcase : (0 < zb ∧ decide (SB < 0) = false) ∨ (zb < 0 ∧ decide (SB < 0) = true) := by
    rcases sg_cases zb with ⟨h1, e1⟩ | ⟨h1, e1⟩ | ⟨h1, e1⟩
    · right; exact ⟨h1, by rw [← hSB, e1]; rfl⟩
    · exact absurd h1 h0
    · left; exact ⟨h1, by rw [← hSB, e1]; rfl⟩
  replace hSB := Lib.hid hSB
  replace h1 := Lib.hid h1
  replace h2 := Lib.hid h2
  replace hcase := Lib.hid hcase
  clear h0
  go_enter Tryz.func92, Tryz.ntmps92
  go_wp2_with fail
  obtain ⟨W, hW⟩ : ∃ W, W = (((w.alloc (Obj.cells #[Value.bool sa, Value.slice Xa pa qa] 29)).alloc (Obj.cells #[Value.bool sb, Value.slice Xb pb qb] 29)).alloc (Obj.cells #[Value.bool false, Value.slice none 0 0, Value.bool false, Value.slice none 0 0] 31)) := ⟨_, rfl⟩
  rw [← hW]
  have BXa : Hid (Box W (w.heap.size) sa (.slice Xa pa qa)) := by rw [hW]; have := ((Box.new w sa (Value.slice Xa pa qa)).alloc (Obj.cells #[Value.bool sb, Value.slice Xb pb qb] 29)).alloc (Obj.cells #[Value.bool false, Value.slice none 0 0, Value.bool false, Value.slice none 0 0] 31); simpa [Hid] using this
  have BXb : Hid (Box W (w.heap.size + 1) sb (.slice Xb pb qb)) := by rw [hW]; have := (Box.new (w.alloc (Obj.cells #[Value.bool sa, Value.slice Xa pa qa] 29)) sb (Value.slice Xb pb qb)).alloc (Obj.cells #[Value.bool false, Value.slice none 0 0, Value.bool false, Value.slice none 0 0] 31); simpa [Hid] using this
  have RXr : Hid (QBox W (w.heap.size + 1 + 1) false (.slice none 0 0) false (.slice none 0 0)) := by rw [hW]; have := QBox.new ((w.alloc (Obj.cells #[Value.bool sa, Value.slice Xa pa qa] 29)).alloc (Obj.cells #[Value.bool sb, Value.slice Xb pb qb] 29)) false (Value.slice none 0 0) false (Value.slice none 0 0); simpa [Hid] using this
  have IVa : Hid (Iv W (.agg #[.bool sa, .slice Xa pa qa]) (za)) := by rw [hW]; exact (((Ha.out).alloc _).alloc _).alloc _
  have IVb : Hid (Iv W (.agg #[.bool sb, .slice Xb pb qb]) (zb)) := by rw [hW]; exact (((Hb.out).alloc _).alloc _).alloc _
  have DW : Hid (Below w.heap.size w W) := by rw [hW]; exact (((Below.refl _ _).alloc (by simp <;> omega) _).alloc (by simp <;> omega) _).alloc (by simp <;> omega) _
  clear hW
  generalize hg : w.heap.size = g at *
  replace hg := Lib.hid hg
  go_upto_region 1 with fail
  have u1a := BXa.out.cell0; have u1b := BXa.out.cell1
  have u2a := BXb.out.cell0; have u2b := BXb.out.cell1
  go_wp2_with fail
  clear u1a u1b u2a u2b
  refine (rgcd_any _ _ za zb G _ IVa.out IVb.out (SZa.out.mono (by omega)) (SZb.out.mono (by omega)) hG2.out).mono ?_
  rintro e y3 ⟨_, rfl, hq, hb⟩
  obtain ⟨Xg, pg, qg, rfl, _, _, _⟩ := hq.form
  have Qg := Lib.hid hq; clear hq
  have B := Lib.hid hb; clear hb
  generalize hs : decide ((G : Int) < 0) = sg at *
  clear hs
  go_upto_region 2 with fail
  obtain ⟨W4, hW⟩ : ∃ W4, W4 = (y3.alloc (Obj.cells #[Value.bool sg, Value.slice Xg pg qg] 29)) := ⟨_, rfl⟩
  rw [← hW]
  have BXg : Hid (Box W4 (y3.heap.size) sg (.slice Xg pg qg)) := by rw [hW]; have := Box.new y3 sg (.slice Xg pg qg); simpa [Hid] using this
  have IVg : Hid (Iv W4 (.agg #[.bool sg, .slice Xg pg qg]) (G)) := by rw [hW]; exact (Qg.out).alloc _
  have hd : Below W.heap.size W W4 := by rw [hW]; exact (B.out).alloc (by have := B.out.size; simp <;> omega) _
  have NEgr : Hid ((y3.heap.size) ≠ (g + 1 + 1)) := by have := RXr.out.lt; have := B.out.size; unfold Hid; omega
  have GBg : Hid (g ≤ y3.heap.size) := by have := DW.out.size; have := hg.out; have := B.out.size; unfold Hid; omega
  have LTag : Hid (g < y3.heap.size) := by have := BXa.out.lt; have := B.out.size; unfold Hid; omega
  have LTbg : Hid ((g + 1) < y3.heap.size) := by have := BXb.out.lt; have := B.out.size; unfold Hid; omega
  clear hW B Qg
  generalize hgn4 : y3.heap.size = gg at *
  clear hgn4
  replace BXa := nxb BXa hd rfl; replace IVa := nxv IVa hd rfl
  replace BXb := nxb BXb hd rfl; replace IVb := nxv IVb hd rfl
  replace RXr := Lib.hid (RXr.out.next hd rfl)
  replace DW := nxd DW hg hd rfl rfl rfl rfl
  clear hd
  have u5a := BXb.out.cell0; have u5b := BXb.out.cell1
  go_wp2_with fail
  clear u5a u5b
  refine (rsign_any _ zb _ IVb.out).mono ?_
  rintro e y6 ⟨rfl, hb⟩
  replace BXa := nxb BXa hb rfl; replace IVa := nxv IVa hb rfl
  replace BXb := nxb BXb hb rfl; replace IVb := nxv IVb hb rfl
  replace BXg := nxb BXg hb rfl; replace IVg := nxv IVg hb rfl
  replace RXr := Lib.hid (RXr.out.next hb rfl)
  replace DW := nxd DW hg hb rfl rfl rfl rfl
  clear hb
  rw [hSB.out]
  rcases hcase.out with ⟨hp, hc⟩ | ⟨hp, hc⟩
  · obtain ⟨rfl, rfl⟩ := h1.out hp
    clear hp h1 h2 hcase
    go_upto_region 4 with fail
    clear hc
    refine Rg.region_gg y6 [.is (.agg #[.bool sa, .slice Xa pa qa]), .is (.agg #[.bool sg, .slice Xg pg qg]), .sat (pIv (za / (G))) (pIv_keep _), .is (.agg #[.bool sb, .slice Xb pb qb]), .is (.agg #[.bool sg, .slice Xg pg qg]), .sat (pIv (zb / (G))) (pIv_keep _), .sat (pQv (za / (G)) (zb / (G))) (pQv_keep _ _), .sto (g + 1 + 1) (sQ (g + 1 + 1) (za / (G)) (zb / (G))) (sQ_keep _ _ _)] [(g + 1 + 1)] [some 14, some 15, some 16, some 17, some 18, some 19, some 20, none] (by kernel_rfl) (by kernel_rfl) (by kernel_rfl) (by kernel_rfl) (by kernel_rfl) (by simp [Rg.stos]) (by rfl) (by rfl) (by kernel_rfl) (by intro g hg; simp only [List.mem_cons, List.not_mem_nil, or_false] at hg; subst hg; exact RXr.out.lt) ((Below.refl _ _).drew) (fun Q' => ?_) (fun K hK wn hs => ?_)
    · refine ⟨?_, ?_, ?_, ?_, ?_, ?_, ?_, ?_, trivial⟩
      · intro a' w' ha hs hw hold
        have eo2 : a'.tmps[2]? = some (ptr g) := (ha.rest 2 (by kernel_rfl)).trans rfl
        exact ⟨rfl, .inl ⟨wanted_none rfl, wp_val (run_pload rfl (ev_tmp eo2) (BXa.out.bel hs (by simp only [List.mem_cons, List.not_mem_nil, or_false, not_or]; exact (by omega)))) ⟨rfl, Below.refl _ _⟩⟩⟩
      · intro a' w' ha hs hw hold
        have eo5 : a'.tmps[5]? = some (ptr gg) := (ha.rest 5 (by kernel_rfl)).trans rfl
        exact ⟨rfl, .inl ⟨wanted_none rfl, wp_val (run_pload rfl (ev_tmp eo5) (BXg.out.bel hs (by simp only [List.mem_cons, List.not_mem_nil, or_false, not_or]; exact NEgr.out))) ⟨rfl, Below.refl _ _⟩⟩⟩
      · intro a' w' ha hs hw hold
        have e0 : a'.tmps[14]? = some (.agg #[.bool sa, .slice Xa pa qa]) := Rg.slot_get rfl rfl (hw 0 (by kernel_rfl) _ rfl)
        have e1 : a'.tmps[15]? = some (.agg #[.bool sg, .slice Xg pg qg]) := Rg.slot_get rfl rfl (hw 1 (by kernel_rfl) _ rfl)
        exact ⟨rfl, wanted_none rfl, call_step rfl Tryz.func149 (by kernel_rfl) rfl (map_two (ev_tmp e0) (ev_tmp e1)) (exact_any _ _ za (G) _ _ (IVa.out.kn hs.kn) (IVg.out.kn hs.kn) (SZa.out.mono (by omega)) (SG.out.mono (by omega)) (by have := NG.out; omega) rfl) (fun e w2 he => by obtain ⟨v, rfl, hv, hb⟩ := he; exact ⟨v, rfl, v, rfl, hv, hb⟩)⟩
      · intro a' w' ha hs hw hold
        have eo3 : a'.tmps[3]? = some (ptr (g + 1)) := (ha.rest 3 (by kernel_rfl)).trans rfl
        exact ⟨rfl, .inl ⟨wanted_none rfl, wp_val (run_pload rfl (ev_tmp eo3) (BXb.out.bel hs (by simp only [List.mem_cons, List.not_mem_nil, or_false, not_or]; exact (by omega)))) ⟨rfl, Below.refl _ _⟩⟩⟩
      · intro a' w' ha hs hw hold
        have eo5 : a'.tmps[5]? = some (ptr gg) := (ha.rest 5 (by kernel_rfl)).trans rfl
        exact ⟨rfl, .inl ⟨wanted_none rfl, wp_val (run_pload rfl (ev_tmp eo5) (BXg.out.bel hs (by simp only [List.mem_cons, List.not_mem_nil, or_false, not_or]; exact NEgr.out))) ⟨rfl, Below.refl _ _⟩⟩⟩
      · intro a' w' ha hs hw hold
        have e3 : a'.tmps[17]? = some (.agg #[.bool sb, .slice Xb pb qb]) := Rg.slot_get rfl rfl (hw 3 (by kernel_rfl) _ rfl)
        have e4 : a'.tmps[18]? = some (.agg #[.bool sg, .slice Xg pg qg]) := Rg.slot_get rfl rfl (hw 4 (by kernel_rfl) _ rfl)
        exact ⟨rfl, wanted_none rfl, call_step rfl Tryz.func149 (by kernel_rfl) rfl (map_two (ev_tmp e3) (ev_tmp e4)) (exact_any _ _ zb (G) _ _ (IVb.out.kn hs.kn) (IVg.out.kn hs.kn) (SZb.out.mono (by omega)) (SG.out.mono (by omega)) (by have := NG.out; omega) rfl) (fun e w2 he => by obtain ⟨v, rfl, hv, hb⟩ := he; exact ⟨v, rfl, v, rfl, hv, hb⟩)⟩
      · intro a' w' ha hs hw hold
        obtain ⟨v2, e2, q2⟩ := hw 2 (by kernel_rfl) _ rfl
        replace e2 : a'.tmps[16]? = some v2 := Rg.slot_get rfl rfl e2
        obtain ⟨v5, e5, q5⟩ := hw 5 (by kernel_rfl) _ rfl
        replace e5 : a'.tmps[19]? = some v5 := Rg.slot_get rfl rfl e5
        exact ⟨rfl, wanted_none rfl, step_build rfl (ev_tmp e2) (ev_tmp e5) q2 q5⟩
      · intro a' w' ha hs hw hold
        obtain ⟨v6, e6, q6⟩ := hw 6 (by kernel_rfl) _ rfl
        replace e6 : a'.tmps[20]? = some v6 := Rg.slot_get rfl rfl e6
        have eo4 : a'.tmps[4]? = some (ptr (g + 1 + 1)) := (ha.rest 4 (by kernel_rfl)).trans rfl
        exact ⟨rfl, wanted_none rfl, fun he => step_stoq rfl rfl (ev_tmp eo4) (ev_tmp e6) q6 RXr.out he⟩
    simp only [Rg.allG]
    intro r7x2 _
    intro r7x5 _
    intro r7x6 _
    intro hSr
    simp only [setOpt, Rg.setOpt, List.set_cons_succ, List.set_cons_zero]
    refine hK _ _ ?_
    clear hK K
    have DN : Hid (Below g w wn) := hs.base DW.out (by have := hg.out; omega) (by simp only [List.mem_cons, List.not_mem_nil, or_false]; omega)
    obtain ⟨Ar, ir, cr, Br, jr, dr, hcr, hir, hjr⟩ := hSr
    have kra := hcr.cell0; have krb := hcr.cell1; have krc := hcr.cell2; have krd := hcr.cell3
    have HIr := Lib.hid hir; clear hir
    have HJr := Lib.hid hjr; clear hjr
    go_wp2
    exact bodyPost_ret (v := .agg #[.bool (decide (za / (G) < 0)), .slice Ar ir cr, .bool (decide (zb / (G) < 0)), .slice Br jr dr]) (by simp [results, Tryz.results92, go_sem, kra, krb, krc, krd]) rfl ⟨_, rfl, ⟨Ar, ir, cr, Br, jr, dr, rfl, HIr.out, HJr.out⟩, by rw [hg.out]; exact DN.out⟩
  · obtain ⟨rfl, rfl⟩ := h2.out hp
    clear hp h1 h2 hcase
    go_upto_region 3 with fail
    clear hc
    have u8a := BXg.out.cell0; have u8b := BXg.out.cell1
    go_wp2_with fail
    clear u8a u8b
    refine (rneg_any _ G (-G) _ IVg.out (SG.out.mono (by omega)) rfl).mono ?_
    rintro e y9 ⟨_, rfl, hq, hb⟩
    obtain ⟨Xg9, pg9, qg9, rfl, _, _, _⟩ := hq.form
    have Q9 := Lib.hid hq; clear hq
    replace BXa := nxb BXa hb rfl; replace IVa := nxv IVa hb rfl
    replace BXb := nxb BXb hb rfl; replace IVb := nxv IVb hb rfl
    replace BXg := nxb BXg hb rfl; replace IVg := nxv IVg hb rfl
    replace RXr := Lib.hid (RXr.out.next hb rfl)
    replace DW := nxd DW hg hb rfl rfl rfl rfl
    clear hb IVg
    generalize hs : decide ((-G : Int) < 0) = s9 at *
    clear hs
    have u1 := BXg.out.cell0; have u2 := BXg.out.cell1; have u3 := BXg.out.frozen 0; have u4 := BXg.out.frozen 1
    go_upto_region 4 with fail
    clear u1 u2 u3 u4
    obtain ⟨W10, hW⟩ : ∃ W10, W10 = (y9.setCell ⟨gg, 0, none⟩ (.bool s9)).setCell ⟨gg, 1, none⟩ (.slice Xg9 pg9 qg9) := ⟨_, rfl⟩
    rw [← hW]
    replace BXa : Hid (Box W10 g sa (.slice Xa pa qa)) := by rw [hW]; exact (BXa.out.far (by have := LTag.out; simp; omega) _).far (by have := LTag.out; simp; omega) _
    replace IVa := Lib.hid (iv_keep IVa.out BXg.out s9 (u := .slice Xg9 pg9 qg9))
    rw [← hW] at IVa
    replace BXb : Hid (Box W10 (g + 1) sb (.slice Xb pb qb)) := by rw [hW]; exact (BXb.out.far (by have := LTbg.out; simp; omega) _).far (by have := LTbg.out; simp; omega) _
    replace IVb := Lib.hid (iv_keep IVb.out BXg.out s9 (u := .slice Xg9 pg9 qg9))
    rw [← hW] at IVb
    replace RXr := Lib.hid ((RXr.out.far (by have := NEgr.out; simp; omega) (.bool s9) (p := ⟨gg, 0, none⟩)).far (by have := NEgr.out; simp; omega) (.slice Xg9 pg9 qg9) (p := ⟨gg, 1, none⟩))
    rw [← hW] at RXr
    replace DW : Hid (Below g w W10) := by rw [hW]; exact (DW.out.setCell (by simp <;> have := GBg.out <;> omega) _).setCell (by simp <;> have := GBg.out <;> omega) _
    have IVg : Hid (Iv W10 (.agg #[.bool s9, .slice Xg9 pg9 qg9]) (-G)) := by rw [hW]; exact iv_keep Q9.out BXg.out _
    replace BXg : Hid (Box W10 gg s9 (.slice Xg9 pg9 qg9)) := by rw [hW]; exact box_store BXg.out
    clear hW Q9
    generalize hx1 : Xg9 = Xgx at *
    generalize hx2 : pg9 = pgx at *
    generalize hx3 : qg9 = qgx at *
    generalize hx4 : s9 = sgx at *
    clear hx1 hx2 hx3 hx4
    refine Rg.region_gg W10 [.is (.agg #[.bool sa, .slice Xa pa qa]), .is (.agg #[.bool sgx, .slice Xgx pgx qgx]), .sat (pIv (za / (-G))) (pIv_keep _), .is (.agg #[.bool sb, .slice Xb pb qb]), .is (.agg #[.bool sgx, .slice Xgx pgx qgx]), .sat (pIv (zb / (-G))) (pIv_keep _), .sat (pQv (za / (-G)) (zb / (-G))) (pQv_keep _ _), .sto (g + 1 + 1) (sQ (g + 1 + 1) (za / (-G)) (zb / (-G))) (sQ_keep _ _ _)] [(g + 1 + 1)] [some 14, some 15, some 16, some 17, some 18, some 19, some 20, none] (by kernel_rfl) (by kernel_rfl) (by kernel_rfl) (by kernel_rfl) (by kernel_rfl) (by simp [Rg.stos]) (by rfl) (by rfl) (by kernel_rfl) (by intro g hg; simp only [List.mem_cons, List.not_mem_nil, or_false] at hg; subst hg; exact RXr.out.lt) ((Below.refl _ _).drew) (fun Q' => ?_) (fun K hK wn hs => ?_)
    · refine ⟨?_, ?_, ?_, ?_, ?_, ?_, ?_, ?_, trivial⟩
      · intro a' w' ha hs hw hold
        have eo2 : a'.tmps[2]? = some (ptr g) := (ha.rest 2 (by kernel_rfl)).trans rfl
        exact ⟨rfl, .inl ⟨wanted_none rfl, wp_val (run_pload rfl (ev_tmp eo2) (BXa.out.bel hs (by simp only [List.mem_cons, List.not_mem_nil, or_false, not_or]; exact (by omega)))) ⟨rfl, Below.refl _ _⟩⟩⟩
      · intro a' w' ha hs hw hold
        have eo5 : a'.tmps[5]? = some (ptr gg) := (ha.rest 5 (by kernel_rfl)).trans rfl
        exact ⟨rfl, .inl ⟨wanted_none rfl, wp_val (run_pload rfl (ev_tmp eo5) (BXg.out.bel hs (by simp only [List.mem_cons, List.not_mem_nil, or_false, not_or]; exact NEgr.out))) ⟨rfl, Below.refl _ _⟩⟩⟩
      · intro a' w' ha hs hw hold
        have e0 : a'.tmps[14]? = some (.agg #[.bool sa, .slice Xa pa qa]) := Rg.slot_get rfl rfl (hw 0 (by kernel_rfl) _ rfl)
        have e1 : a'.tmps[15]? = some (.agg #[.bool sgx, .slice Xgx pgx qgx]) := Rg.slot_get rfl rfl (hw 1 (by kernel_rfl) _ rfl)
        exact ⟨rfl, wanted_none rfl, call_step rfl Tryz.func149 (by kernel_rfl) rfl (map_two (ev_tmp e0) (ev_tmp e1)) (exact_any _ _ za (-G) _ _ (IVa.out.kn hs.kn) (IVg.out.kn hs.kn) (SZa.out.mono (by omega)) (SG.out.neg.mono (by omega)) (by have := NG.out; omega) rfl) (fun e w2 he => by obtain ⟨v, rfl, hv, hb⟩ := he; exact ⟨v, rfl, v, rfl, hv, hb⟩)⟩
      · intro a' w' ha hs hw hold
        have eo3 : a'.tmps[3]? = some (ptr (g + 1)) := (ha.rest 3 (by kernel_rfl)).trans rfl
        exact ⟨rfl, .inl ⟨wanted_none rfl, wp_val (run_pload rfl (ev_tmp eo3) (BXb.out.bel hs (by simp only [List.mem_cons, List.not_mem_nil, or_false, not_or]; exact (by omega)))) ⟨rfl, Below.refl _ _⟩⟩⟩
      · intro a' w' ha hs hw hold
        have eo5 : a'.tmps[5]? = some (ptr gg) := (ha.rest 5 (by kernel_rfl)).trans rfl
        exact ⟨rfl, .inl ⟨wanted_none rfl, wp_val (run_pload rfl (ev_tmp eo5) (BXg.out.bel hs (by simp only [List.mem_cons, List.not_mem_nil, or_false, not_or]; exact NEgr.out))) ⟨rfl, Below.refl _ _⟩⟩⟩
      · intro a' w' ha hs hw hold
        have e3 : a'.tmps[17]? = some (.agg #[.bool sb, .slice Xb pb qb]) := Rg.slot_get rfl rfl (hw 3 (by kernel_rfl) _ rfl)
        have e4 : a'.tmps[18]? = some (.agg #[.bool sgx, .slice Xgx pgx qgx]) := Rg.slot_get rfl rfl (hw 4 (by kernel_rfl) _ rfl)
        exact ⟨rfl, wanted_none rfl, call_step rfl Tryz.func149 (by kernel_rfl) rfl (map_two (ev_tmp e3) (ev_tmp e4)) (exact_any _ _ zb (-G) _ _ (IVb.out.kn hs.kn) (IVg.out.kn hs.kn) (SZb.out.mono (by omega)) (SG.out.neg.mono (by omega)) (by have := NG.out; omega) rfl) (fun e w2 he => by obtain ⟨v, rfl, hv, hb⟩ := he; exact ⟨v, rfl, v, rfl, hv, hb⟩)⟩
      · intro a' w' ha hs hw hold
        obtain ⟨v2, e2, q2⟩ := hw 2 (by kernel_rfl) _ rfl
        replace e2 : a'.tmps[16]? = some v2 := Rg.slot_get rfl rfl e2
        obtain ⟨v5, e5, q5⟩ := hw 5 (by kernel_rfl) _ rfl
        replace e5 : a'.tmps[19]? = some v5 := Rg.slot_get rfl rfl e5
        exact ⟨rfl, wanted_none rfl, step_build rfl (ev_tmp e2) (ev_tmp e5) q2 q5⟩
      · intro a' w' ha hs hw hold
        obtain ⟨v6, e6, q6⟩ := hw 6 (by kernel_rfl) _ rfl
        replace e6 : a'.tmps[20]? = some v6 := Rg.slot_get rfl rfl e6
        have eo4 : a'.tmps[4]? = some (ptr (g + 1 + 1)) := (ha.rest 4 (by kernel_rfl)).trans rfl
        exact ⟨rfl, wanted_none rfl, fun he => step_stoq rfl rfl (ev_tmp eo4) (ev_tmp e6) q6 RXr.out he⟩
    simp only [Rg.allG]
    intro r11x2 _
    intro r11x5 _
    intro r11x6 _
    intro hSr
    simp only [setOpt, Rg.setOpt, List.set_cons_succ, List.set_cons_zero]
    refine hK _ _ ?_
    clear hK K
    have DN : Hid (Below g w wn) := hs.base DW.out (by have := hg.out; omega) (by simp only [List.mem_cons, List.not_mem_nil, or_false]; omega)
    obtain ⟨Ar, ir, cr, Br, jr, dr, hcr, hir, hjr⟩ := hSr
    have kra := hcr.cell0; have krb := hcr.cell1; have krc := hcr.cell2; have krd := hcr.cell3
    have HIr := Lib.hid hir; clear hir
    have HJr := Lib.hid hjr; clear hjr
    go_wp2
    exact bodyPost_ret (v := .agg #[.bool (decide (za / (-G) < 0)), .slice Ar ir cr, .bool (decide (zb / (-G) < 0)), .slice Br jr dr]) (by simp [results, Tryz.results92, go_sem, kra, krb, krc, krd]) rfl ⟨_, rfl, ⟨Ar, ir, cr, Br, jr, dr, rfl, HIr.out, HJr.out⟩, by rw [hg.out]; exact DN.out⟩

theorem rlowest_any (va vb : Value) (za zb : Int) (w : World) (ha : Iv w va za) (sa : Sz za 100000) (hb : Iv w vb zb) (sb : Sz zb 100000) (h0 : zb ≠ 0) : Calls Tryz.prog 92 #[va, vb] w (RetQ (Rat.divInt za zb).num (Rat.divInt za zb).den w) :=
  rlowest_at va vb za zb _ _ w ha sa hb sb h0 (fun h => ⟨rnew_num za zb h, rnew_den za zb h⟩) (fun h => ⟨rnew_num_neg za zb h, rnew_den_neg za zb h⟩)

end Go.Proofs.YtfigimfdojbkeaaGreat
