/-
  The program's functions on fractions.
-/
import Derived.Test.YtfigimfdojbkeaaGreatRatH
import Derived.Test.YtfigimfdojbkeaaGreatRatA
import Derived.Deep.DeepCutAuto
import Derived.Handy
import Derived.Laws.EntriesVeiled
set_option linter.unusedSimpArgs false
set_option linter.unusedVariables false
namespace Go.Proofs.YtfigimfdojbkeaaGreat
open Go.RowKit
attribute [local go_sem ↓] Go.wp_at_zero Go.wp_at_succ

/-- Block g holds the one value v. -/
def One (w : World) (g : Nat) (t : TypeId) (v : Value) : Prop := w.heap[g]? = some (.cells #[v] t (0, 0))
theorem One.lt {w : World} {g : Nat} {t : TypeId} {v : Value} (h : One w g t v) : g < w.heap.size := by
  rcases Nat.lt_or_ge g w.heap.size with hlt | hge
  · exact hlt
  · unfold One at h; rw [Array.getElem?_eq_none hge] at h; cases h
theorem One.cell0 {w : World} {g : Nat} {t : TypeId} {v : Value} (h : One w g t v) : w.cell? ⟨g, 0, none⟩ = some v := cell_of_row w g 0 _ _ (0, 0) h
theorem One.next {w w1 w' : World} {g : Nat} {t : TypeId} {v : Value} (h : One w g t v) (hb : Below w1.heap.size w1 w') (e : w1.heap = w.heap) : One w' g t v := by
  have h1 : One w1 g t v := by unfold One; rw [e]; exact h
  exact (hb.block g h1.lt).trans h1
theorem One.bel {O : List Nat} {V w : World} {g : Nat} {t : TypeId} {v : Value} (h : One V g t v) (hb : Rg.Bel O V w) (hn : g ∉ O) : One w g t v := (hb.block g h.lt hn).trans h
theorem ic_of {w : World} {g : Nat} {b : Bool} {A : Option Addr} {i c : Nat} {z : Int} (h : Box w g b (.slice A i c)) (k : Iv w (.agg #[.bool b, .slice A i c]) z) : IC w g z := by
  have e := k.signq
  subst e
  exact ⟨A, i, c, h, k⟩
/-- The steps of the search for the simplest number. -/
def srch : Nat → Int → Int → Int → Int → Int → Int → Int → Int → Int × Int
  | 0, _, _, _, _, h, _, k, _ => (h, k)
  | f + 1, p, q, r, s, h, i, k, j =>
    if p % q = 0 then (h * (p / q) + i, k * (p / q) + j)
    else if p / q < r / s then (h * (p / q + 1) + i, k * (p / q + 1) + j)
    else srch f s (r % s) q (p % q) (h * (p / q) + i) h (k * (p / q) + j) k
/-- Its numbers stay short, and it ends. -/
def SOk : Nat → Int → Int → Int → Int → Int → Int → Int → Int → Prop
  | 0, _, _, _, _, _, _, _, _ => False
  | f + 1, p, q, r, s, h, i, k, j => (q ≠ 0 ∧ s ≠ 0 ∧ Sz p 10000 ∧ Sz q 10000 ∧ Sz r 10000 ∧ Sz s 10000 ∧ Sz h 10000 ∧ Sz i 10000 ∧ Sz k 10000 ∧ Sz j 10000) ∧
    (p % q ≠ 0 → ¬ p / q < r / s → SOk f s (r % s) q (p % q) (h * (p / q) + i) h (k * (p / q) + j) k)
abbrev searchV (gp gq gr gs gh gi gk gj gf : Nat) : Value := .func (.func 155) #[] #[.pointer (some ⟨gp, 0, none⟩), .pointer (some ⟨gq, 0, none⟩), .pointer (some ⟨gr, 0, none⟩), .pointer (some ⟨gs, 0, none⟩), .pointer (some ⟨gh, 0, none⟩), .pointer (some ⟨gi, 0, none⟩), .pointer (some ⟨gk, 0, none⟩), .pointer (some ⟨gj, 0, none⟩), .pointer (some ⟨gf, 0, none⟩)]

set_option maxHeartbeats 8000000 in
set_option maxRecDepth 100000 in
theorem search_any : ∀ (f B gp gq gr gs gh gi gk gj gf : Nat) (zp zq zr zs zh zi zk zj : Int) (w : World), IC w gp zp → IC w gq zq → IC w gr zr → IC w gs zs → IC w gh zh → IC w gi zi → IC w gk zk → IC w gj zj → One w gf 1 (searchV gp gq gr gs gh gi gk gj gf) → [gp, gq, gr, gs, gh, gi, gk, gj, gf].Nodup → (∀ x ∈ [gp, gq, gr, gs, gh, gi, gk, gj, gf], B ≤ x) → B ≤ w.heap.size → SOk f zp zq zr zs zh zi zk zj → Calls Tryz.prog 155 #[.pointer (some ⟨gp, 0, none⟩), .pointer (some ⟨gq, 0, none⟩), .pointer (some ⟨gr, 0, none⟩), .pointer (some ⟨gs, 0, none⟩), .pointer (some ⟨gh, 0, none⟩), .pointer (some ⟨gi, 0, none⟩), .pointer (some ⟨gk, 0, none⟩), .pointer (some ⟨gj, 0, none⟩), .pointer (some ⟨gf, 0, none⟩)] w fun e w' => e = .returned (.tuple #[]) ∧ IC w' gh (srch f zp zq zr zs zh zi zk zj).1 ∧ IC w' gk (srch f zp zq zr zs zh zi zk zj).2 ∧ Below B w w' := by

  intro f
  induction f with
  | zero => intro _ _ _ _ _ _ _ _ _ _ _ _ _ _ _ _ _ _ _ _ _ _ _ _ _ _ _ _ _ _ _ h; exact h.elim
  | succ f ih =>
    intro g gp gq gr gs gh gi gk gj gf zp zq zr zs zh zi zk zj w bp bq br bs bh bi bk bj FXf hdis hlow hgw ⟨⟨q0, s0, Sp, Sq, Sr, Ss, Sh, Si, Sk, Sj⟩, hok⟩
    obtain ⟨Xp, pp, qp, BXp, IVp⟩ := bp
    replace BXp := Lib.hid BXp; replace IVp := Lib.hid IVp; replace Sp := Lib.hid Sp
    generalize hs : decide (zp < 0) = sp at *
    clear hs
    obtain ⟨Xq, pq, qq, BXq, IVq⟩ := bq
    replace BXq := Lib.hid BXq; replace IVq := Lib.hid IVq; replace Sq := Lib.hid Sq
    generalize hs : decide (zq < 0) = sq at *
    clear hs
    obtain ⟨Xr, pr, qr, BXr, IVr⟩ := br
    replace BXr := Lib.hid BXr; replace IVr := Lib.hid IVr; replace Sr := Lib.hid Sr
    generalize hs : decide (zr < 0) = sr at *
    clear hs
    obtain ⟨Xs, ps, qs, BXs, IVs⟩ := bs
    replace BXs := Lib.hid BXs; replace IVs := Lib.hid IVs; replace Ss := Lib.hid Ss
    generalize hs : decide (zs < 0) = ss at *
    clear hs
    obtain ⟨Xh, ph, qh, BXh, IVh⟩ := bh
    replace BXh := Lib.hid BXh; replace IVh := Lib.hid IVh; replace Sh := Lib.hid Sh
    generalize hs : decide (zh < 0) = sh at *
    clear hs
    obtain ⟨Xi, pi, qi, BXi, IVi⟩ := bi
    replace BXi := Lib.hid BXi; replace IVi := Lib.hid IVi; replace Si := Lib.hid Si
    generalize hs : decide (zi < 0) = si at *
    clear hs
    obtain ⟨Xk, pk, qk, BXk, IVk⟩ := bk
    replace BXk := Lib.hid BXk; replace IVk := Lib.hid IVk; replace Sk := Lib.hid Sk
    generalize hs : decide (zk < 0) = sk at *
    clear hs
    obtain ⟨Xj, pj, qj, BXj, IVj⟩ := bj
    replace BXj := Lib.hid BXj; replace IVj := Lib.hid IVj; replace Sj := Lib.hid Sj
    generalize hs : decide (zj < 0) = sj at *
    clear hs
    have NQpq : Hid (gp ≠ gq) := by unfold Hid; rintro rfl; simp at hdis
    have NQpr : Hid (gp ≠ gr) := by unfold Hid; rintro rfl; simp at hdis
    have NQps : Hid (gp ≠ gs) := by unfold Hid; rintro rfl; simp at hdis
    have NQph : Hid (gp ≠ gh) := by unfold Hid; rintro rfl; simp at hdis
    have NQpi : Hid (gp ≠ gi) := by unfold Hid; rintro rfl; simp at hdis
    have NQpk : Hid (gp ≠ gk) := by unfold Hid; rintro rfl; simp at hdis
    have NQpj : Hid (gp ≠ gj) := by unfold Hid; rintro rfl; simp at hdis
    have NQpf : Hid (gp ≠ gf) := by unfold Hid; rintro rfl; simp at hdis
    have NQqr : Hid (gq ≠ gr) := by unfold Hid; rintro rfl; simp at hdis
    have NQqs : Hid (gq ≠ gs) := by unfold Hid; rintro rfl; simp at hdis
    have NQqh : Hid (gq ≠ gh) := by unfold Hid; rintro rfl; simp at hdis
    have NQqi : Hid (gq ≠ gi) := by unfold Hid; rintro rfl; simp at hdis
    have NQqk : Hid (gq ≠ gk) := by unfold Hid; rintro rfl; simp at hdis
    have NQqj : Hid (gq ≠ gj) := by unfold Hid; rintro rfl; simp at hdis
    have NQqf : Hid (gq ≠ gf) := by unfold Hid; rintro rfl; simp at hdis
    have NQrs : Hid (gr ≠ gs) := by unfold Hid; rintro rfl; simp at hdis
    have NQrh : Hid (gr ≠ gh) := by unfold Hid; rintro rfl; simp at hdis
    have NQri : Hid (gr ≠ gi) := by unfold Hid; rintro rfl; simp at hdis
    have NQrk : Hid (gr ≠ gk) := by unfold Hid; rintro rfl; simp at hdis
    have NQrj : Hid (gr ≠ gj) := by unfold Hid; rintro rfl; simp at hdis
    have NQrf : Hid (gr ≠ gf) := by unfold Hid; rintro rfl; simp at hdis
    have NQsh : Hid (gs ≠ gh) := by unfold Hid; rintro rfl; simp at hdis
    have NQsi : Hid (gs ≠ gi) := by unfold Hid; rintro rfl; simp at hdis
    have NQsk : Hid (gs ≠ gk) := by unfold Hid; rintro rfl; simp at hdis
    have NQsj : Hid (gs ≠ gj) := by unfold Hid; rintro rfl; simp at hdis
    have NQsf : Hid (gs ≠ gf) := by unfold Hid; rintro rfl; simp at hdis
    have NQhi : Hid (gh ≠ gi) := by unfold Hid; rintro rfl; simp at hdis
    have NQhk : Hid (gh ≠ gk) := by unfold Hid; rintro rfl; simp at hdis
    have NQhj : Hid (gh ≠ gj) := by unfold Hid; rintro rfl; simp at hdis
    have NQhf : Hid (gh ≠ gf) := by unfold Hid; rintro rfl; simp at hdis
    have NQik : Hid (gi ≠ gk) := by unfold Hid; rintro rfl; simp at hdis
    have NQij : Hid (gi ≠ gj) := by unfold Hid; rintro rfl; simp at hdis
    have NQif : Hid (gi ≠ gf) := by unfold Hid; rintro rfl; simp at hdis
    have NQkj : Hid (gk ≠ gj) := by unfold Hid; rintro rfl; simp at hdis
    have NQkf : Hid (gk ≠ gf) := by unfold Hid; rintro rfl; simp at hdis
    have NQjf : Hid (gj ≠ gf) := by unfold Hid; rintro rfl; simp at hdis
    have GBp : Hid (g ≤ gp) := hlow gp (by simp)
    have GBq : Hid (g ≤ gq) := hlow gq (by simp)
    have GBr : Hid (g ≤ gr) := hlow gr (by simp)
    have GBs : Hid (g ≤ gs) := hlow gs (by simp)
    have GBh : Hid (g ≤ gh) := hlow gh (by simp)
    have GBi : Hid (g ≤ gi) := hlow gi (by simp)
    have GBk : Hid (g ≤ gk) := hlow gk (by simp)
    have GBj : Hid (g ≤ gj) := hlow gj (by simp)
    have hdis2 := Lib.hid hdis; have hlow2 := Lib.hid hlow; have hok2 := Lib.hid hok; have HQ0 := Lib.hid q0; have HS0 := Lib.hid s0
    have hg := Lib.hid hgw
    replace FXf := Lib.hid FXf
    clear hdis hlow hok q0 s0 hgw
    have DW : Hid (Below g w w) := Below.refl _ _
    go_enter Tryz.func155, Tryz.ntmps155
    have u1a := BXp.out.cell0; have u1b := BXp.out.cell1
    have u2a := BXq.out.cell0; have u2b := BXq.out.cell1
    go_wp2_with fail
    clear u1a u1b u2a u2b
    refine (divMod_any _ _ zp zq _ IVp.out IVq.out (Sp.out.mono (by omega)) (Sq.out.mono (by omega)) HQ0.out).mono ?_
    rintro e y3 ⟨_, _, rfl, hq0, hq1, hb⟩
    obtain ⟨Xn, pn, qn, rfl, _, _, _⟩ := hq0.form
    have Qn := Lib.hid hq0; clear hq0
    obtain ⟨Xl, pl, ql, rfl, _, _, _⟩ := hq1.form
    have Ql := Lib.hid hq1; clear hq1
    have B := Lib.hid hb; clear hb
    generalize hs : decide ((zp / zq : Int) < 0) = sn at *
    clear hs
    generalize hs : decide ((zp % zq : Int) < 0) = sl at *
    clear hs
    go_upto_region 1 with fail
    obtain ⟨W4, hW⟩ : ∃ W4, W4 = ((y3.alloc (Obj.cells #[Value.bool sn, Value.slice Xn pn qn] 29)).alloc (Obj.cells #[Value.bool sl, Value.slice Xl pl ql] 29)) := ⟨_, rfl⟩
    rw [← hW]
    have BXn : Hid (Box W4 (y3.heap.size) sn (.slice Xn pn qn)) := by rw [hW]; have := (Box.new y3 sn (.slice Xn pn qn)).alloc (Obj.cells #[Value.bool sl, Value.slice Xl pl ql] 29); simpa [Hid] using this
    have IVn : Hid (Iv W4 (.agg #[.bool sn, .slice Xn pn qn]) (zp / zq)) := by rw [hW]; exact ((Qn.out).alloc _).alloc _
    have BXl : Hid (Box W4 (y3.heap.size + 1) sl (.slice Xl pl ql)) := by rw [hW]; have := Box.new (y3.alloc (Obj.cells #[Value.bool sn, Value.slice Xn pn qn] 29)) sl (.slice Xl pl ql); simpa [Hid] using this
    have IVl : Hid (Iv W4 (.agg #[.bool sl, .slice Xl pl ql]) (zp % zq)) := by rw [hW]; exact ((Ql.out).alloc _).alloc _
    have hd : Below w.heap.size w W4 := by rw [hW]; exact ((B.out).alloc (by have := B.out.size; simp <;> omega) _).alloc (by have := B.out.size; simp <;> omega) _
    have GBn : Hid (g ≤ y3.heap.size) := by have := DW.out.size; have := hg.out; have := B.out.size; unfold Hid; omega
    have LTfn : Hid (gf < y3.heap.size) := by have := FXf.out.lt; have := B.out.size; unfold Hid; omega
    have LTpn : Hid (gp < y3.heap.size) := by have := BXp.out.lt; have := B.out.size; unfold Hid; omega
    have LTqn : Hid (gq < y3.heap.size) := by have := BXq.out.lt; have := B.out.size; unfold Hid; omega
    have LTrn : Hid (gr < y3.heap.size) := by have := BXr.out.lt; have := B.out.size; unfold Hid; omega
    have LTsn : Hid (gs < y3.heap.size) := by have := BXs.out.lt; have := B.out.size; unfold Hid; omega
    have LThn : Hid (gh < y3.heap.size) := by have := BXh.out.lt; have := B.out.size; unfold Hid; omega
    have LTin : Hid (gi < y3.heap.size) := by have := BXi.out.lt; have := B.out.size; unfold Hid; omega
    have LTkn : Hid (gk < y3.heap.size) := by have := BXk.out.lt; have := B.out.size; unfold Hid; omega
    have LTjn : Hid (gj < y3.heap.size) := by have := BXj.out.lt; have := B.out.size; unfold Hid; omega
    have GBl : Hid (g ≤ y3.heap.size + 1) := by have := DW.out.size; have := hg.out; have := B.out.size; unfold Hid; omega
    have LTnl : Hid (y3.heap.size < y3.heap.size + 1) := by unfold Hid; omega
    have LTfl : Hid (gf < y3.heap.size + 1) := by have := FXf.out.lt; have := B.out.size; unfold Hid; omega
    have LTpl : Hid (gp < y3.heap.size + 1) := by have := BXp.out.lt; have := B.out.size; unfold Hid; omega
    have LTql : Hid (gq < y3.heap.size + 1) := by have := BXq.out.lt; have := B.out.size; unfold Hid; omega
    have LTrl : Hid (gr < y3.heap.size + 1) := by have := BXr.out.lt; have := B.out.size; unfold Hid; omega
    have LTsl : Hid (gs < y3.heap.size + 1) := by have := BXs.out.lt; have := B.out.size; unfold Hid; omega
    have LThl : Hid (gh < y3.heap.size + 1) := by have := BXh.out.lt; have := B.out.size; unfold Hid; omega
    have LTil : Hid (gi < y3.heap.size + 1) := by have := BXi.out.lt; have := B.out.size; unfold Hid; omega
    have LTkl : Hid (gk < y3.heap.size + 1) := by have := BXk.out.lt; have := B.out.size; unfold Hid; omega
    have LTjl : Hid (gj < y3.heap.size + 1) := by have := BXj.out.lt; have := B.out.size; unfold Hid; omega
    clear hW B Qn Ql
    generalize hgn4 : y3.heap.size + 1 = gl at *
    clear hgn4
    generalize hgn4 : y3.heap.size = gn at *
    clear hgn4
    replace BXp := nxb BXp hd rfl; replace IVp := nxv IVp hd rfl
    replace BXq := nxb BXq hd rfl; replace IVq := nxv IVq hd rfl
    replace BXr := nxb BXr hd rfl; replace IVr := nxv IVr hd rfl
    replace BXs := nxb BXs hd rfl; replace IVs := nxv IVs hd rfl
    replace BXh := nxb BXh hd rfl; replace IVh := nxv IVh hd rfl
    replace BXi := nxb BXi hd rfl; replace IVi := nxv IVi hd rfl
    replace BXk := nxb BXk hd rfl; replace IVk := nxv IVk hd rfl
    replace BXj := nxb BXj hd rfl; replace IVj := nxv IVj hd rfl
    replace FXf := Lib.hid (FXf.out.next hd rfl)
    replace DW := nxe DW hg hd rfl rfl rfl rfl
    clear hd
    have u5a := BXr.out.cell0; have u5b := BXr.out.cell1
    have u6a := BXs.out.cell0; have u6b := BXs.out.cell1
    go_wp2_with fail
    clear u5a u5b u6a u6b
    refine (divMod_any _ _ zr zs _ IVr.out IVs.out (Sr.out.mono (by omega)) (Ss.out.mono (by omega)) HS0.out).mono ?_
    rintro e y7 ⟨_, _, rfl, hq0, hq1, hb⟩
    obtain ⟨Xm, pm, qm, rfl, _, _, _⟩ := hq0.form
    have Qm := Lib.hid hq0; clear hq0
    obtain ⟨Xu, pu, qu, rfl, _, _, _⟩ := hq1.form
    have Qu := Lib.hid hq1; clear hq1
    have B := Lib.hid hb; clear hb
    generalize hs : decide ((zr / zs : Int) < 0) = sm at *
    clear hs
    generalize hs : decide ((zr % zs : Int) < 0) = su at *
    clear hs
    go_upto_region 2 with fail
    obtain ⟨W8, hW⟩ : ∃ W8, W8 = ((y7.alloc (Obj.cells #[Value.bool sm, Value.slice Xm pm qm] 29)).alloc (Obj.cells #[Value.bool su, Value.slice Xu pu qu] 29)) := ⟨_, rfl⟩
    rw [← hW]
    have BXm : Hid (Box W8 (y7.heap.size) sm (.slice Xm pm qm)) := by rw [hW]; have := (Box.new y7 sm (.slice Xm pm qm)).alloc (Obj.cells #[Value.bool su, Value.slice Xu pu qu] 29); simpa [Hid] using this
    have IVm : Hid (Iv W8 (.agg #[.bool sm, .slice Xm pm qm]) (zr / zs)) := by rw [hW]; exact ((Qm.out).alloc _).alloc _
    have BXu : Hid (Box W8 (y7.heap.size + 1) su (.slice Xu pu qu)) := by rw [hW]; have := Box.new (y7.alloc (Obj.cells #[Value.bool sm, Value.slice Xm pm qm] 29)) su (.slice Xu pu qu); simpa [Hid] using this
    have IVu : Hid (Iv W8 (.agg #[.bool su, .slice Xu pu qu]) (zr % zs)) := by rw [hW]; exact ((Qu.out).alloc _).alloc _
    have hd : Below W4.heap.size W4 W8 := by rw [hW]; exact ((B.out).alloc (by have := B.out.size; simp <;> omega) _).alloc (by have := B.out.size; simp <;> omega) _
    have GBm : Hid (g ≤ y7.heap.size) := by have := DW.out.size; have := hg.out; have := B.out.size; unfold Hid; omega
    have LTfm : Hid (gf < y7.heap.size) := by have := FXf.out.lt; have := B.out.size; unfold Hid; omega
    have LTpm : Hid (gp < y7.heap.size) := by have := BXp.out.lt; have := B.out.size; unfold Hid; omega
    have LTqm : Hid (gq < y7.heap.size) := by have := BXq.out.lt; have := B.out.size; unfold Hid; omega
    have LTrm : Hid (gr < y7.heap.size) := by have := BXr.out.lt; have := B.out.size; unfold Hid; omega
    have LTsm : Hid (gs < y7.heap.size) := by have := BXs.out.lt; have := B.out.size; unfold Hid; omega
    have LThm : Hid (gh < y7.heap.size) := by have := BXh.out.lt; have := B.out.size; unfold Hid; omega
    have LTim : Hid (gi < y7.heap.size) := by have := BXi.out.lt; have := B.out.size; unfold Hid; omega
    have LTkm : Hid (gk < y7.heap.size) := by have := BXk.out.lt; have := B.out.size; unfold Hid; omega
    have LTjm : Hid (gj < y7.heap.size) := by have := BXj.out.lt; have := B.out.size; unfold Hid; omega
    have LTnm : Hid (gn < y7.heap.size) := by have := BXn.out.lt; have := B.out.size; unfold Hid; omega
    have LTlm : Hid (gl < y7.heap.size) := by have := BXl.out.lt; have := B.out.size; unfold Hid; omega
    have GBu : Hid (g ≤ y7.heap.size + 1) := by have := DW.out.size; have := hg.out; have := B.out.size; unfold Hid; omega
    have LTmu : Hid (y7.heap.size < y7.heap.size + 1) := by unfold Hid; omega
    have LTfu : Hid (gf < y7.heap.size + 1) := by have := FXf.out.lt; have := B.out.size; unfold Hid; omega
    have LTpu : Hid (gp < y7.heap.size + 1) := by have := BXp.out.lt; have := B.out.size; unfold Hid; omega
    have LTqu : Hid (gq < y7.heap.size + 1) := by have := BXq.out.lt; have := B.out.size; unfold Hid; omega
    have LTru : Hid (gr < y7.heap.size + 1) := by have := BXr.out.lt; have := B.out.size; unfold Hid; omega
    have LTsu : Hid (gs < y7.heap.size + 1) := by have := BXs.out.lt; have := B.out.size; unfold Hid; omega
    have LThu : Hid (gh < y7.heap.size + 1) := by have := BXh.out.lt; have := B.out.size; unfold Hid; omega
    have LTiu : Hid (gi < y7.heap.size + 1) := by have := BXi.out.lt; have := B.out.size; unfold Hid; omega
    have LTku : Hid (gk < y7.heap.size + 1) := by have := BXk.out.lt; have := B.out.size; unfold Hid; omega
    have LTju : Hid (gj < y7.heap.size + 1) := by have := BXj.out.lt; have := B.out.size; unfold Hid; omega
    have LTnu : Hid (gn < y7.heap.size + 1) := by have := BXn.out.lt; have := B.out.size; unfold Hid; omega
    have LTlu : Hid (gl < y7.heap.size + 1) := by have := BXl.out.lt; have := B.out.size; unfold Hid; omega
    clear hW B Qm Qu
    generalize hgn8 : y7.heap.size + 1 = gu at *
    clear hgn8
    generalize hgn8 : y7.heap.size = gm at *
    clear hgn8
    replace BXp := nxb BXp hd rfl; replace IVp := nxv IVp hd rfl
    replace BXq := nxb BXq hd rfl; replace IVq := nxv IVq hd rfl
    replace BXr := nxb BXr hd rfl; replace IVr := nxv IVr hd rfl
    replace BXs := nxb BXs hd rfl; replace IVs := nxv IVs hd rfl
    replace BXh := nxb BXh hd rfl; replace IVh := nxv IVh hd rfl
    replace BXi := nxb BXi hd rfl; replace IVi := nxv IVi hd rfl
    replace BXk := nxb BXk hd rfl; replace IVk := nxv IVk hd rfl
    replace BXj := nxb BXj hd rfl; replace IVj := nxv IVj hd rfl
    replace BXn := nxb BXn hd rfl; replace IVn := nxv IVn hd rfl
    replace BXl := nxb BXl hd rfl; replace IVl := nxv IVl hd rfl
    replace FXf := Lib.hid (FXf.out.next hd rfl)
    replace DW := nxe DW hg hd rfl rfl rfl rfl
    clear hd
    have Sn : Hid (Sz (zp / zq) 10000) := Sp.out.ediv HQ0.out
    have Sm : Hid (Sz (zr / zs) 10000) := Sr.out.ediv HS0.out
    have Sl : Hid (Sz (zp % zq) 10000) := Sq.out.emod HQ0.out
    have Su : Hid (Sz (zr % zs) 10000) := Ss.out.emod HS0.out
    have u9a := BXl.out.cell0; have u9b := BXl.out.cell1
    go_wp2_with fail
    clear u9a u9b
    refine (sign_any _ (zp % zq) _ IVl.out (Sl.out.mono (by omega))).mono ?_
    rintro e y10 ⟨rfl, hb⟩
    replace BXp := nxb BXp hb rfl; replace IVp := nxv IVp hb rfl
    replace BXq := nxb BXq hb rfl; replace IVq := nxv IVq hb rfl
    replace BXr := nxb BXr hb rfl; replace IVr := nxv IVr hb rfl
    replace BXs := nxb BXs hb rfl; replace IVs := nxv IVs hb rfl
    replace BXh := nxb BXh hb rfl; replace IVh := nxv IVh hb rfl
    replace BXi := nxb BXi hb rfl; replace IVi := nxv IVi hb rfl
    replace BXk := nxb BXk hb rfl; replace IVk := nxv IVk hb rfl
    replace BXj := nxb BXj hb rfl; replace IVj := nxv IVj hb rfl
    replace BXn := nxb BXn hb rfl; replace IVn := nxv IVn hb rfl
    replace BXl := nxb BXl hb rfl; replace IVl := nxv IVl hb rfl
    replace BXm := nxb BXm hb rfl; replace IVm := nxv IVm hb rfl
    replace BXu := nxb BXu hb rfl; replace IVu := nxv IVu hb rfl
    replace FXf := Lib.hid (FXf.out.next hb rfl)
    replace DW := nxe DW hg hb rfl rfl rfl rfl
    clear hb
    obtain ⟨SG, hSG⟩ : ∃ x, sg (zp % zq) = x := ⟨_, rfl⟩
    rw [hSG]
    by_cases h0 : zp % zq = 0
    · have e1 : (SG == 0) = true := by rw [← hSG, h0]; rfl
      clear hSG
      go_upto_region 5 with fail
      clear e1
      replace h0 := Lib.hid h0
      have Sh2 : Hid (Sz (zh * (zp / zq) + zi) 20003) := Sz.add (N := 20002) ((Sh.out.mul Sn.out).mono (by omega)) (Si.out.mono (by omega))
      refine Rg.region_gg y10 [.is (.agg #[.bool sh, .slice Xh ph qh]), .is (.agg #[.bool sn, .slice Xn pn qn]), .own (pL1 (zp / zq)) (pL1_keep _), .sat (pIv (zh * (zp / zq))) (pIv_keep _), .is (.agg #[.bool si, .slice Xi pi qi]), .sat (pIv (zh * (zp / zq) + zi)) (pIv_keep _), .is (.agg #[.bool sh, .slice Xh ph qh]), .sto gh (sI gh (zh * (zp / zq) + zi)) (sI_keep _ _), .sto gi (sI gi (zh)) (sI_keep _ _)] [gh, gi] [some 44, some 45, some 46, some 47, some 48, some 49, some 50, none, none] (by kernel_rfl) (by kernel_rfl) (by kernel_rfl) (by kernel_rfl) (by kernel_rfl) (by simp only [Rg.stos, List.nodup_cons, List.mem_cons, List.not_mem_nil, or_false, not_or, List.nodup_nil, and_true, not_false_eq_true]; exact NQhi.out) (by rfl) (by rfl) (by kernel_rfl) (by intro g hg; simp only [List.mem_cons, List.not_mem_nil, or_false] at hg; rcases hg with rfl | rfl <;> first | exact BXh.out.lt | exact BXi.out.lt) ((Below.refl _ _).drew) (fun Q' => ?_) (fun K hK wn hs => ?_)
      · refine ⟨?_, ?_, ?_, ?_, ?_, ?_, ?_, ?_, ?_, trivial⟩
        · intro a' w' ha hs hw hold
          have eo4 : a'.tmps[4]? = some (ptr gh) := (ha.rest 4 (by kernel_rfl)).trans rfl
          exact ⟨rfl, .inl ⟨wanted_none rfl, wp_val (run_pload rfl (ev_tmp eo4) ((hold 7 _ _ _ _ (by rfl) (by rfl) (by kernel_rfl)).trans BXh.out)) ⟨rfl, Below.refl _ _⟩⟩⟩
        · intro a' w' ha hs hw hold
          have eo9 : a'.tmps[9]? = some (ptr gn) := (ha.rest 9 (by kernel_rfl)).trans rfl
          exact ⟨rfl, .inl ⟨wanted_none rfl, wp_val (run_pload rfl (ev_tmp eo9) (BXn.out.bel hs (by simp only [List.mem_cons, List.not_mem_nil, or_false, not_or]; exact ⟨(Nat.ne_of_gt LThn.out), (Nat.ne_of_gt LTin.out)⟩))) ⟨rfl, Below.refl _ _⟩⟩⟩
        · intro a' w' ha hs hw hold
          have e1 : a'.tmps[45]? = some (.agg #[.bool sn, .slice Xn pn qn]) := Rg.slot_get rfl rfl (hw 1 (by kernel_rfl) _ rfl)
          exact ⟨rfl, wanted_none rfl, step_list1 rfl (ev_tmp e1) (IVn.out.kn hs.kn)⟩
        · intro a' w' ha hs hw hold
          have e0 : a'.tmps[44]? = some (.agg #[.bool sh, .slice Xh ph qh]) := Rg.slot_get rfl rfl (hw 0 (by kernel_rfl) _ rfl)
          obtain ⟨v2, g2, h2, q2⟩ := hw 2 (by kernel_rfl) _ rfl
          have e2 : a'.tmps[46]? = some v2 := Rg.slot_get rfl rfl h2.1
          replace q2 := q2 (by kernel_rfl)
          exact ⟨rfl, wanted_none rfl, call_step rfl Tryz.func96 (by kernel_rfl) rfl (map_two (ev_tmp e0) (ev_tmp e2)) (product1_any _ _ zh (zp / zq) _ (IVh.out.kn hs.kn) q2 (Sh.out.mono (by omega)) (Sn.out.mono (by omega))) (fun e w2 he => by obtain ⟨v, rfl, hv, hb⟩ := he; exact ⟨v, rfl, v, rfl, hv, hb⟩)⟩
        · intro a' w' ha hs hw hold
          have eo5 : a'.tmps[5]? = some (ptr gi) := (ha.rest 5 (by kernel_rfl)).trans rfl
          exact ⟨rfl, .inl ⟨wanted_none rfl, wp_val (run_pload rfl (ev_tmp eo5) ((hold 8 _ _ _ _ (by rfl) (by rfl) (by kernel_rfl)).trans BXi.out)) ⟨rfl, Below.refl _ _⟩⟩⟩
        · intro a' w' ha hs hw hold
          obtain ⟨v3, e3, q3⟩ := hw 3 (by kernel_rfl) _ rfl
          replace e3 : a'.tmps[47]? = some v3 := Rg.slot_get rfl rfl e3
          have e4 : a'.tmps[48]? = some (.agg #[.bool si, .slice Xi pi qi]) := Rg.slot_get rfl rfl (hw 4 (by kernel_rfl) _ rfl)
          exact ⟨rfl, wanted_none rfl, call_step rfl Tryz.func95 (by kernel_rfl) rfl (map_two (ev_tmp e3) (ev_tmp e4)) (add_any _ _ (zh * (zp / zq)) zi _ q3 (IVi.out.kn hs.kn) ((Sh.out.mul Sn.out).mono (by omega)) (Si.out.mono (by omega))) (fun e w2 he => by obtain ⟨v, rfl, hv, hb⟩ := he; exact ⟨v, rfl, v, rfl, hv, hb⟩)⟩
        · intro a' w' ha hs hw hold
          have eo4 : a'.tmps[4]? = some (ptr gh) := (ha.rest 4 (by kernel_rfl)).trans rfl
          exact ⟨rfl, .inl ⟨wanted_none rfl, wp_val (run_pload rfl (ev_tmp eo4) ((hold 7 _ _ _ _ (by rfl) (by rfl) (by kernel_rfl)).trans BXh.out)) ⟨rfl, Below.refl _ _⟩⟩⟩
        · intro a' w' ha hs hw hold
          obtain ⟨v5, e5, q5⟩ := hw 5 (by kernel_rfl) _ rfl
          replace e5 : a'.tmps[49]? = some v5 := Rg.slot_get rfl rfl e5
          have eo4 : a'.tmps[4]? = some (ptr gh) := (ha.rest 4 (by kernel_rfl)).trans rfl
          exact ⟨rfl, wanted_none rfl, fun he => step_stoi rfl rfl (ev_tmp eo4) (ev_tmp e5) q5 BXh.out he⟩
        · intro a' w' ha hs hw hold
          have e6 : a'.tmps[50]? = some (.agg #[.bool sh, .slice Xh ph qh]) := Rg.slot_get rfl rfl (hw 6 (by kernel_rfl) _ rfl)
          have eo5 : a'.tmps[5]? = some (ptr gi) := (ha.rest 5 (by kernel_rfl)).trans rfl
          exact ⟨rfl, wanted_none rfl, fun he => step_stoi rfl rfl (ev_tmp eo5) (ev_tmp e6) (IVh.out.kn hs.kn) BXi.out he⟩
      simp only [Rg.allG]
      intro r11x2 _ _ _ _ _ _
      intro r11x3 _
      intro r11x5 _
      intro hSh
      intro hSi
      simp only [setOpt, Rg.setOpt, List.set_cons_succ, List.set_cons_zero]
      refine hK _ _ ?_
      clear hK K
      replace BXp := Lib.hid (BXp.out.bel hs (by simp only [List.mem_cons, List.not_mem_nil, or_false, not_or]; exact ⟨NQph.out, NQpi.out⟩)); replace IVp := Lib.hid (IVp.out.kn hs.kn)
      replace BXq := Lib.hid (BXq.out.bel hs (by simp only [List.mem_cons, List.not_mem_nil, or_false, not_or]; exact ⟨NQqh.out, NQqi.out⟩)); replace IVq := Lib.hid (IVq.out.kn hs.kn)
      replace BXr := Lib.hid (BXr.out.bel hs (by simp only [List.mem_cons, List.not_mem_nil, or_false, not_or]; exact ⟨NQrh.out, NQri.out⟩)); replace IVr := Lib.hid (IVr.out.kn hs.kn)
      replace BXs := Lib.hid (BXs.out.bel hs (by simp only [List.mem_cons, List.not_mem_nil, or_false, not_or]; exact ⟨NQsh.out, NQsi.out⟩)); replace IVs := Lib.hid (IVs.out.kn hs.kn)
      replace BXk := Lib.hid (BXk.out.bel hs (by simp only [List.mem_cons, List.not_mem_nil, or_false, not_or]; exact ⟨(Ne.symm NQhk.out), (Ne.symm NQik.out)⟩)); replace IVk := Lib.hid (IVk.out.kn hs.kn)
      replace BXj := Lib.hid (BXj.out.bel hs (by simp only [List.mem_cons, List.not_mem_nil, or_false, not_or]; exact ⟨(Ne.symm NQhj.out), (Ne.symm NQij.out)⟩)); replace IVj := Lib.hid (IVj.out.kn hs.kn)
      replace BXn := Lib.hid (BXn.out.bel hs (by simp only [List.mem_cons, List.not_mem_nil, or_false, not_or]; exact ⟨(Nat.ne_of_gt LThn.out), (Nat.ne_of_gt LTin.out)⟩)); replace IVn := Lib.hid (IVn.out.kn hs.kn)
      replace BXl := Lib.hid (BXl.out.bel hs (by simp only [List.mem_cons, List.not_mem_nil, or_false, not_or]; exact ⟨(Nat.ne_of_gt LThl.out), (Nat.ne_of_gt LTil.out)⟩)); replace IVl := Lib.hid (IVl.out.kn hs.kn)
      replace BXm := Lib.hid (BXm.out.bel hs (by simp only [List.mem_cons, List.not_mem_nil, or_false, not_or]; exact ⟨(Nat.ne_of_gt LThm.out), (Nat.ne_of_gt LTim.out)⟩)); replace IVm := Lib.hid (IVm.out.kn hs.kn)
      replace BXu := Lib.hid (BXu.out.bel hs (by simp only [List.mem_cons, List.not_mem_nil, or_false, not_or]; exact ⟨(Nat.ne_of_gt LThu.out), (Nat.ne_of_gt LTiu.out)⟩)); replace IVu := Lib.hid (IVu.out.kn hs.kn)
      replace FXf := Lib.hid (FXf.out.bel hs (by simp only [List.mem_cons, List.not_mem_nil, or_false, not_or]; exact ⟨(Ne.symm NQhf.out), (Ne.symm NQif.out)⟩))
      replace DW := Lib.hid (hs.base DW.out (by have := hg.out; omega) (by intro x hx; simp only [List.mem_cons, List.not_mem_nil, or_false] at hx; rcases hx with rfl | rfl <;> first | (have := GBh.out; omega) | (have := GBi.out; omega) | omega))
      clear BXh IVh
      obtain ⟨Xhy, phy, qhy, BXh, IVh⟩ := hSh
      generalize hsg : decide ((zh * (zp / zq) + zi : Int) < 0) = shy at *
      clear hsg
      replace BXh := Lib.hid BXh; replace IVh := Lib.hid IVh
      clear BXi IVi
      obtain ⟨Xiy, piy, qiy, BXi, IVi⟩ := hSi
      generalize hsg : decide ((zh : Int) < 0) = siy at *
      clear hsg
      replace BXi := Lib.hid BXi; replace IVi := Lib.hid IVi
      clear hs
      go_upto_region 6 with fail
      have Sk2 : Hid (Sz (zk * (zp / zq) + zj) 20003) := Sz.add (N := 20002) ((Sk.out.mul Sn.out).mono (by omega)) (Sj.out.mono (by omega))
      refine Rg.region_gg wn [.is (.agg #[.bool sk, .slice Xk pk qk]), .is (.agg #[.bool sn, .slice Xn pn qn]), .own (pL1 (zp / zq)) (pL1_keep _), .sat (pIv (zk * (zp / zq))) (pIv_keep _), .is (.agg #[.bool sj, .slice Xj pj qj]), .sat (pIv (zk * (zp / zq) + zj)) (pIv_keep _), .is (.agg #[.bool sk, .slice Xk pk qk]), .sto gk (sI gk (zk * (zp / zq) + zj)) (sI_keep _ _), .sto gj (sI gj (zk)) (sI_keep _ _)] [gk, gj] [some 51, some 52, some 53, some 54, some 55, some 56, some 57, none, none] (by kernel_rfl) (by kernel_rfl) (by kernel_rfl) (by kernel_rfl) (by kernel_rfl) (by simp only [Rg.stos, List.nodup_cons, List.mem_cons, List.not_mem_nil, or_false, not_or, List.nodup_nil, and_true, not_false_eq_true]; exact NQkj.out) (by rfl) (by rfl) (by kernel_rfl) (by intro g hg; simp only [List.mem_cons, List.not_mem_nil, or_false] at hg; rcases hg with rfl | rfl <;> first | exact BXk.out.lt | exact BXj.out.lt) ((Below.refl _ _).drew) (fun Q' => ?_) (fun K hK wn hs => ?_)
      · refine ⟨?_, ?_, ?_, ?_, ?_, ?_, ?_, ?_, ?_, trivial⟩
        · intro a' w' ha hs hw hold
          have eo6 : a'.tmps[6]? = some (ptr gk) := (ha.rest 6 (by kernel_rfl)).trans rfl
          exact ⟨rfl, .inl ⟨wanted_none rfl, wp_val (run_pload rfl (ev_tmp eo6) ((hold 7 _ _ _ _ (by rfl) (by rfl) (by kernel_rfl)).trans BXk.out)) ⟨rfl, Below.refl _ _⟩⟩⟩
        · intro a' w' ha hs hw hold
          have eo9 : a'.tmps[9]? = some (ptr gn) := (ha.rest 9 (by kernel_rfl)).trans rfl
          exact ⟨rfl, .inl ⟨wanted_none rfl, wp_val (run_pload rfl (ev_tmp eo9) (BXn.out.bel hs (by simp only [List.mem_cons, List.not_mem_nil, or_false, not_or]; exact ⟨(Nat.ne_of_gt LTkn.out), (Nat.ne_of_gt LTjn.out)⟩))) ⟨rfl, Below.refl _ _⟩⟩⟩
        · intro a' w' ha hs hw hold
          have e1 : a'.tmps[52]? = some (.agg #[.bool sn, .slice Xn pn qn]) := Rg.slot_get rfl rfl (hw 1 (by kernel_rfl) _ rfl)
          exact ⟨rfl, wanted_none rfl, step_list1 rfl (ev_tmp e1) (IVn.out.kn hs.kn)⟩
        · intro a' w' ha hs hw hold
          have e0 : a'.tmps[51]? = some (.agg #[.bool sk, .slice Xk pk qk]) := Rg.slot_get rfl rfl (hw 0 (by kernel_rfl) _ rfl)
          obtain ⟨v2, g2, h2, q2⟩ := hw 2 (by kernel_rfl) _ rfl
          have e2 : a'.tmps[53]? = some v2 := Rg.slot_get rfl rfl h2.1
          replace q2 := q2 (by kernel_rfl)
          exact ⟨rfl, wanted_none rfl, call_step rfl Tryz.func96 (by kernel_rfl) rfl (map_two (ev_tmp e0) (ev_tmp e2)) (product1_any _ _ zk (zp / zq) _ (IVk.out.kn hs.kn) q2 (Sk.out.mono (by omega)) (Sn.out.mono (by omega))) (fun e w2 he => by obtain ⟨v, rfl, hv, hb⟩ := he; exact ⟨v, rfl, v, rfl, hv, hb⟩)⟩
        · intro a' w' ha hs hw hold
          have eo7 : a'.tmps[7]? = some (ptr gj) := (ha.rest 7 (by kernel_rfl)).trans rfl
          exact ⟨rfl, .inl ⟨wanted_none rfl, wp_val (run_pload rfl (ev_tmp eo7) ((hold 8 _ _ _ _ (by rfl) (by rfl) (by kernel_rfl)).trans BXj.out)) ⟨rfl, Below.refl _ _⟩⟩⟩
        · intro a' w' ha hs hw hold
          obtain ⟨v3, e3, q3⟩ := hw 3 (by kernel_rfl) _ rfl
          replace e3 : a'.tmps[54]? = some v3 := Rg.slot_get rfl rfl e3
          have e4 : a'.tmps[55]? = some (.agg #[.bool sj, .slice Xj pj qj]) := Rg.slot_get rfl rfl (hw 4 (by kernel_rfl) _ rfl)
          exact ⟨rfl, wanted_none rfl, call_step rfl Tryz.func95 (by kernel_rfl) rfl (map_two (ev_tmp e3) (ev_tmp e4)) (add_any _ _ (zk * (zp / zq)) zj _ q3 (IVj.out.kn hs.kn) ((Sk.out.mul Sn.out).mono (by omega)) (Sj.out.mono (by omega))) (fun e w2 he => by obtain ⟨v, rfl, hv, hb⟩ := he; exact ⟨v, rfl, v, rfl, hv, hb⟩)⟩
        · intro a' w' ha hs hw hold
          have eo6 : a'.tmps[6]? = some (ptr gk) := (ha.rest 6 (by kernel_rfl)).trans rfl
          exact ⟨rfl, .inl ⟨wanted_none rfl, wp_val (run_pload rfl (ev_tmp eo6) ((hold 7 _ _ _ _ (by rfl) (by rfl) (by kernel_rfl)).trans BXk.out)) ⟨rfl, Below.refl _ _⟩⟩⟩
        · intro a' w' ha hs hw hold
          obtain ⟨v5, e5, q5⟩ := hw 5 (by kernel_rfl) _ rfl
          replace e5 : a'.tmps[56]? = some v5 := Rg.slot_get rfl rfl e5
          have eo6 : a'.tmps[6]? = some (ptr gk) := (ha.rest 6 (by kernel_rfl)).trans rfl
          exact ⟨rfl, wanted_none rfl, fun he => step_stoi rfl rfl (ev_tmp eo6) (ev_tmp e5) q5 BXk.out he⟩
        · intro a' w' ha hs hw hold
          have e6 : a'.tmps[57]? = some (.agg #[.bool sk, .slice Xk pk qk]) := Rg.slot_get rfl rfl (hw 6 (by kernel_rfl) _ rfl)
          have eo7 : a'.tmps[7]? = some (ptr gj) := (ha.rest 7 (by kernel_rfl)).trans rfl
          exact ⟨rfl, wanted_none rfl, fun he => step_stoi rfl rfl (ev_tmp eo7) (ev_tmp e6) (IVk.out.kn hs.kn) BXj.out he⟩
      simp only [Rg.allG]
      intro r12x2 _ _ _ _ _ _
      intro r12x3 _
      intro r12x5 _
      intro hSk
      intro hSj
      simp only [setOpt, Rg.setOpt, List.set_cons_succ, List.set_cons_zero]
      refine hK _ _ ?_
      clear hK K
      replace BXp := Lib.hid (BXp.out.bel hs (by simp only [List.mem_cons, List.not_mem_nil, or_false, not_or]; exact ⟨NQpk.out, NQpj.out⟩)); replace IVp := Lib.hid (IVp.out.kn hs.kn)
      replace BXq := Lib.hid (BXq.out.bel hs (by simp only [List.mem_cons, List.not_mem_nil, or_false, not_or]; exact ⟨NQqk.out, NQqj.out⟩)); replace IVq := Lib.hid (IVq.out.kn hs.kn)
      replace BXr := Lib.hid (BXr.out.bel hs (by simp only [List.mem_cons, List.not_mem_nil, or_false, not_or]; exact ⟨NQrk.out, NQrj.out⟩)); replace IVr := Lib.hid (IVr.out.kn hs.kn)
      replace BXs := Lib.hid (BXs.out.bel hs (by simp only [List.mem_cons, List.not_mem_nil, or_false, not_or]; exact ⟨NQsk.out, NQsj.out⟩)); replace IVs := Lib.hid (IVs.out.kn hs.kn)
      replace BXh := Lib.hid (BXh.out.bel hs (by simp only [List.mem_cons, List.not_mem_nil, or_false, not_or]; exact ⟨NQhk.out, NQhj.out⟩)); replace IVh := Lib.hid (IVh.out.kn hs.kn)
      replace BXi := Lib.hid (BXi.out.bel hs (by simp only [List.mem_cons, List.not_mem_nil, or_false, not_or]; exact ⟨NQik.out, NQij.out⟩)); replace IVi := Lib.hid (IVi.out.kn hs.kn)
      replace BXn := Lib.hid (BXn.out.bel hs (by simp only [List.mem_cons, List.not_mem_nil, or_false, not_or]; exact ⟨(Nat.ne_of_gt LTkn.out), (Nat.ne_of_gt LTjn.out)⟩)); replace IVn := Lib.hid (IVn.out.kn hs.kn)
      replace BXl := Lib.hid (BXl.out.bel hs (by simp only [List.mem_cons, List.not_mem_nil, or_false, not_or]; exact ⟨(Nat.ne_of_gt LTkl.out), (Nat.ne_of_gt LTjl.out)⟩)); replace IVl := Lib.hid (IVl.out.kn hs.kn)
      replace BXm := Lib.hid (BXm.out.bel hs (by simp only [List.mem_cons, List.not_mem_nil, or_false, not_or]; exact ⟨(Nat.ne_of_gt LTkm.out), (Nat.ne_of_gt LTjm.out)⟩)); replace IVm := Lib.hid (IVm.out.kn hs.kn)
      replace BXu := Lib.hid (BXu.out.bel hs (by simp only [List.mem_cons, List.not_mem_nil, or_false, not_or]; exact ⟨(Nat.ne_of_gt LTku.out), (Nat.ne_of_gt LTju.out)⟩)); replace IVu := Lib.hid (IVu.out.kn hs.kn)
      replace FXf := Lib.hid (FXf.out.bel hs (by simp only [List.mem_cons, List.not_mem_nil, or_false, not_or]; exact ⟨(Ne.symm NQkf.out), (Ne.symm NQjf.out)⟩))
      replace DW := Lib.hid (hs.base DW.out (by have := hg.out; omega) (by intro x hx; simp only [List.mem_cons, List.not_mem_nil, or_false] at hx; rcases hx with rfl | rfl <;> first | (have := GBk.out; omega) | (have := GBj.out; omega) | omega))
      clear BXk IVk
      obtain ⟨Xky, pky, qky, BXk, IVk⟩ := hSk
      generalize hsg : decide ((zk * (zp / zq) + zj : Int) < 0) = sky at *
      clear hsg
      replace BXk := Lib.hid BXk; replace IVk := Lib.hid IVk
      clear BXj IVj
      obtain ⟨Xjy, pjy, qjy, BXj, IVj⟩ := hSj
      generalize hsg : decide ((zk : Int) < 0) = sjy at *
      clear hsg
      replace BXj := Lib.hid BXj; replace IVj := Lib.hid IVj
      clear hs
      go_upto_region 7 with fail
      go_wp2
      refine bodyPost_end (v := .tuple #[]) (by simp [results, Tryz.results155, go_sem]) rfl ⟨rfl, ?_, ?_, DW.out⟩
      · have := ic_of BXh.out IVh.out
        unfold srch
        rw [if_pos h0.out]
        exact this
      · have := ic_of BXk.out IVk.out
        unfold srch
        rw [if_pos h0.out]
        exact this
    · have e1 : (SG == 0) = false := by rw [beq_eq_false_iff_ne, ← hSG]; intro e; rcases sg_cases (zp % zq) with ⟨h1, e1⟩ | ⟨h1, e1⟩ | ⟨h1, e1⟩ <;> omega
      clear hSG
      replace h0 := Lib.hid h0
      have u13a := BXn.out.cell0; have u13b := BXn.out.cell1
      have u14a := BXm.out.cell0; have u14b := BXm.out.cell1
      go_wp2_with fail
      clear u13a u13b u14a u14b
      refine (cmp_any _ _ (zp / zq) (zr / zs) _ IVn.out IVm.out (Sn.out.mono (by omega)) (Sm.out.mono (by omega))).mono ?_
      rintro e y15 ⟨rfl, hb⟩
      replace BXp := nxb BXp hb rfl; replace IVp := nxv IVp hb rfl
      replace BXq := nxb BXq hb rfl; replace IVq := nxv IVq hb rfl
      replace BXr := nxb BXr hb rfl; replace IVr := nxv IVr hb rfl
      replace BXs := nxb BXs hb rfl; replace IVs := nxv IVs hb rfl
      replace BXh := nxb BXh hb rfl; replace IVh := nxv IVh hb rfl
      replace BXi := nxb BXi hb rfl; replace IVi := nxv IVi hb rfl
      replace BXk := nxb BXk hb rfl; replace IVk := nxv IVk hb rfl
      replace BXj := nxb BXj hb rfl; replace IVj := nxv IVj hb rfl
      replace BXn := nxb BXn hb rfl; replace IVn := nxv IVn hb rfl
      replace BXl := nxb BXl hb rfl; replace IVl := nxv IVl hb rfl
      replace BXm := nxb BXm hb rfl; replace IVm := nxv IVm hb rfl
      replace BXu := nxb BXu hb rfl; replace IVu := nxv IVu hb rfl
      replace FXf := Lib.hid (FXf.out.next hb rfl)
      replace DW := nxe DW hg hb rfl rfl rfl rfl
      clear hb
      clear e1
      obtain ⟨CZ, hCZ⟩ : ∃ x, cmpZ (zp / zq) (zr / zs) = x := ⟨_, rfl⟩
      rw [hCZ]
      by_cases h1 : zp / zq < zr / zs
      · have e2 : decide (CZ < 0) = true := by rw [← hCZ, cmpZ_lt h1]; rfl
        clear hCZ
        go_upto_region 4 with fail
        clear e2
        replace h1 := Lib.hid h1
        have Sn2 : Hid (Sz (zp / zq + 1) 10001) := Sz.add Sn.out (by have := (Sz.small (a := 1) (by omega) (by omega)); exact this.mono (by omega))
        refine Rg.region_gg y15 [.is (.agg #[.bool sn, .slice Xn pn qn]), .sat (pIv ((1 : Int))) (pIv_keep _), .sat (pIv (zp / zq + 1)) (pIv_keep _), .sto gn (sI gn (zp / zq + 1)) (sI_keep _ _), .is (Value.bool true)] [gn] [some 41, some 42, some 43, none, some 15] (by kernel_rfl) (by kernel_rfl) (by kernel_rfl) (by kernel_rfl) (by kernel_rfl) (by simp [Rg.stos]) (by rfl) (by rfl) (by kernel_rfl) (by intro g hg; simp only [List.mem_cons, List.not_mem_nil, or_false] at hg; subst hg; exact BXn.out.lt) ((Below.refl _ _).drew) (fun Q' => ?_) (fun K hK wn hs => ?_)
        · refine ⟨?_, ?_, ?_, ?_, ?_, trivial⟩
          · intro a' w' ha hs hw hold
            have eo9 : a'.tmps[9]? = some (ptr gn) := (ha.rest 9 (by kernel_rfl)).trans rfl
            exact ⟨rfl, .inl ⟨wanted_none rfl, wp_val (run_pload rfl (ev_tmp eo9) ((hold 3 _ _ _ _ (by rfl) (by rfl) (by kernel_rfl)).trans BXn.out)) ⟨rfl, Below.refl _ _⟩⟩⟩
          · intro a' w' ha hs hw hold
            exact ⟨rfl, wanted_none rfl, call_step rfl Tryz.func55 (by kernel_rfl) rfl (map_one rfl) (of_any 1 _ (by omega) (by omega)) (fun e w2 he => by obtain ⟨v, rfl, hv, hb⟩ := he; exact ⟨v, rfl, v, rfl, hv, hb⟩)⟩
          · intro a' w' ha hs hw hold
            have e0 : a'.tmps[41]? = some (.agg #[.bool sn, .slice Xn pn qn]) := Rg.slot_get rfl rfl (hw 0 (by kernel_rfl) _ rfl)
            obtain ⟨v1, e1, q1⟩ := hw 1 (by kernel_rfl) _ rfl
            replace e1 : a'.tmps[42]? = some v1 := Rg.slot_get rfl rfl e1
            exact ⟨rfl, wanted_none rfl, call_step rfl Tryz.func95 (by kernel_rfl) rfl (map_two (ev_tmp e0) (ev_tmp e1)) (add_any _ _ (zp / zq) 1 _ (IVn.out.kn hs.kn) q1 (Sn.out.mono (by omega)) ((Sz.small (a := 1) (by omega) (by omega)).mono (by omega))) (fun e w2 he => by obtain ⟨v, rfl, hv, hb⟩ := he; exact ⟨v, rfl, v, rfl, hv, hb⟩)⟩
          · intro a' w' ha hs hw hold
            obtain ⟨v2, e2, q2⟩ := hw 2 (by kernel_rfl) _ rfl
            replace e2 : a'.tmps[43]? = some v2 := Rg.slot_get rfl rfl e2
            have eo9 : a'.tmps[9]? = some (ptr gn) := (ha.rest 9 (by kernel_rfl)).trans rfl
            exact ⟨rfl, wanted_none rfl, fun he => step_stoi rfl rfl (ev_tmp eo9) (ev_tmp e2) q2 BXn.out he⟩
          · intro a' w' ha hs hw hold
            exact ⟨rfl, .inl ⟨wanted_none rfl, wp_val (run_assign rfl rfl) ⟨rfl, Below.refl _ _⟩⟩⟩
        simp only [Rg.allG]
        intro r16x1 _
        intro r16x2 _
        intro hSn
        simp only [setOpt, Rg.setOpt, List.set_cons_succ, List.set_cons_zero]
        refine hK _ _ ?_
        clear hK K
        replace BXp := Lib.hid (BXp.out.bel hs (by simp only [List.mem_cons, List.not_mem_nil, or_false, not_or]; exact (Nat.ne_of_lt LTpn.out))); replace IVp := Lib.hid (IVp.out.kn hs.kn)
        replace BXq := Lib.hid (BXq.out.bel hs (by simp only [List.mem_cons, List.not_mem_nil, or_false, not_or]; exact (Nat.ne_of_lt LTqn.out))); replace IVq := Lib.hid (IVq.out.kn hs.kn)
        replace BXr := Lib.hid (BXr.out.bel hs (by simp only [List.mem_cons, List.not_mem_nil, or_false, not_or]; exact (Nat.ne_of_lt LTrn.out))); replace IVr := Lib.hid (IVr.out.kn hs.kn)
        replace BXs := Lib.hid (BXs.out.bel hs (by simp only [List.mem_cons, List.not_mem_nil, or_false, not_or]; exact (Nat.ne_of_lt LTsn.out))); replace IVs := Lib.hid (IVs.out.kn hs.kn)
        replace BXh := Lib.hid (BXh.out.bel hs (by simp only [List.mem_cons, List.not_mem_nil, or_false, not_or]; exact (Nat.ne_of_lt LThn.out))); replace IVh := Lib.hid (IVh.out.kn hs.kn)
        replace BXi := Lib.hid (BXi.out.bel hs (by simp only [List.mem_cons, List.not_mem_nil, or_false, not_or]; exact (Nat.ne_of_lt LTin.out))); replace IVi := Lib.hid (IVi.out.kn hs.kn)
        replace BXk := Lib.hid (BXk.out.bel hs (by simp only [List.mem_cons, List.not_mem_nil, or_false, not_or]; exact (Nat.ne_of_lt LTkn.out))); replace IVk := Lib.hid (IVk.out.kn hs.kn)
        replace BXj := Lib.hid (BXj.out.bel hs (by simp only [List.mem_cons, List.not_mem_nil, or_false, not_or]; exact (Nat.ne_of_lt LTjn.out))); replace IVj := Lib.hid (IVj.out.kn hs.kn)
        replace BXl := Lib.hid (BXl.out.bel hs (by simp only [List.mem_cons, List.not_mem_nil, or_false, not_or]; exact (Nat.ne_of_gt LTnl.out))); replace IVl := Lib.hid (IVl.out.kn hs.kn)
        replace BXm := Lib.hid (BXm.out.bel hs (by simp only [List.mem_cons, List.not_mem_nil, or_false, not_or]; exact (Nat.ne_of_gt LTnm.out))); replace IVm := Lib.hid (IVm.out.kn hs.kn)
        replace BXu := Lib.hid (BXu.out.bel hs (by simp only [List.mem_cons, List.not_mem_nil, or_false, not_or]; exact (Nat.ne_of_gt LTnu.out))); replace IVu := Lib.hid (IVu.out.kn hs.kn)
        replace FXf := Lib.hid (FXf.out.bel hs (by simp only [List.mem_cons, List.not_mem_nil, or_false, not_or]; exact (Nat.ne_of_lt LTfn.out)))
        replace DW := Lib.hid (hs.base DW.out (by have := hg.out; omega) (by intro x hx; simp only [List.mem_cons, List.not_mem_nil, or_false] at hx; subst hx; first | (have := GBn.out; omega) | omega))
        clear BXn IVn
        obtain ⟨Xny, pny, qny, BXn, IVn⟩ := hSn
        generalize hsg : decide ((zp / zq + 1 : Int) < 0) = sny at *
        clear hsg
        replace BXn := Lib.hid BXn; replace IVn := Lib.hid IVn
        clear hs
        go_upto_region 5 with fail
        have Sh2 : Hid (Sz (zh * (zp / zq + 1) + zi) 20003) := Sz.add (N := 20002) ((Sh.out.mul Sn2.out).mono (by omega)) (Si.out.mono (by omega))
        refine Rg.region_gg wn [.is (.agg #[.bool sh, .slice Xh ph qh]), .is (.agg #[.bool sny, .slice Xny pny qny]), .own (pL1 (zp / zq + 1)) (pL1_keep _), .sat (pIv (zh * (zp / zq + 1))) (pIv_keep _), .is (.agg #[.bool si, .slice Xi pi qi]), .sat (pIv (zh * (zp / zq + 1) + zi)) (pIv_keep _), .is (.agg #[.bool sh, .slice Xh ph qh]), .sto gh (sI gh (zh * (zp / zq + 1) + zi)) (sI_keep _ _), .sto gi (sI gi (zh)) (sI_keep _ _)] [gh, gi] [some 44, some 45, some 46, some 47, some 48, some 49, some 50, none, none] (by kernel_rfl) (by kernel_rfl) (by kernel_rfl) (by kernel_rfl) (by kernel_rfl) (by simp only [Rg.stos, List.nodup_cons, List.mem_cons, List.not_mem_nil, or_false, not_or, List.nodup_nil, and_true, not_false_eq_true]; exact NQhi.out) (by rfl) (by rfl) (by kernel_rfl) (by intro g hg; simp only [List.mem_cons, List.not_mem_nil, or_false] at hg; rcases hg with rfl | rfl <;> first | exact BXh.out.lt | exact BXi.out.lt) ((Below.refl _ _).drew) (fun Q' => ?_) (fun K hK wn hs => ?_)
        · refine ⟨?_, ?_, ?_, ?_, ?_, ?_, ?_, ?_, ?_, trivial⟩
          · intro a' w' ha hs hw hold
            have eo4 : a'.tmps[4]? = some (ptr gh) := (ha.rest 4 (by kernel_rfl)).trans rfl
            exact ⟨rfl, .inl ⟨wanted_none rfl, wp_val (run_pload rfl (ev_tmp eo4) ((hold 7 _ _ _ _ (by rfl) (by rfl) (by kernel_rfl)).trans BXh.out)) ⟨rfl, Below.refl _ _⟩⟩⟩
          · intro a' w' ha hs hw hold
            have eo9 : a'.tmps[9]? = some (ptr gn) := (ha.rest 9 (by kernel_rfl)).trans rfl
            exact ⟨rfl, .inl ⟨wanted_none rfl, wp_val (run_pload rfl (ev_tmp eo9) (BXn.out.bel hs (by simp only [List.mem_cons, List.not_mem_nil, or_false, not_or]; exact ⟨(Nat.ne_of_gt LThn.out), (Nat.ne_of_gt LTin.out)⟩))) ⟨rfl, Below.refl _ _⟩⟩⟩
          · intro a' w' ha hs hw hold
            have e1 : a'.tmps[45]? = some (.agg #[.bool sny, .slice Xny pny qny]) := Rg.slot_get rfl rfl (hw 1 (by kernel_rfl) _ rfl)
            exact ⟨rfl, wanted_none rfl, step_list1 rfl (ev_tmp e1) (IVn.out.kn hs.kn)⟩
          · intro a' w' ha hs hw hold
            have e0 : a'.tmps[44]? = some (.agg #[.bool sh, .slice Xh ph qh]) := Rg.slot_get rfl rfl (hw 0 (by kernel_rfl) _ rfl)
            obtain ⟨v2, g2, h2, q2⟩ := hw 2 (by kernel_rfl) _ rfl
            have e2 : a'.tmps[46]? = some v2 := Rg.slot_get rfl rfl h2.1
            replace q2 := q2 (by kernel_rfl)
            exact ⟨rfl, wanted_none rfl, call_step rfl Tryz.func96 (by kernel_rfl) rfl (map_two (ev_tmp e0) (ev_tmp e2)) (product1_any _ _ zh (zp / zq + 1) _ (IVh.out.kn hs.kn) q2 (Sh.out.mono (by omega)) (Sn2.out.mono (by omega))) (fun e w2 he => by obtain ⟨v, rfl, hv, hb⟩ := he; exact ⟨v, rfl, v, rfl, hv, hb⟩)⟩
          · intro a' w' ha hs hw hold
            have eo5 : a'.tmps[5]? = some (ptr gi) := (ha.rest 5 (by kernel_rfl)).trans rfl
            exact ⟨rfl, .inl ⟨wanted_none rfl, wp_val (run_pload rfl (ev_tmp eo5) ((hold 8 _ _ _ _ (by rfl) (by rfl) (by kernel_rfl)).trans BXi.out)) ⟨rfl, Below.refl _ _⟩⟩⟩
          · intro a' w' ha hs hw hold
            obtain ⟨v3, e3, q3⟩ := hw 3 (by kernel_rfl) _ rfl
            replace e3 : a'.tmps[47]? = some v3 := Rg.slot_get rfl rfl e3
            have e4 : a'.tmps[48]? = some (.agg #[.bool si, .slice Xi pi qi]) := Rg.slot_get rfl rfl (hw 4 (by kernel_rfl) _ rfl)
            exact ⟨rfl, wanted_none rfl, call_step rfl Tryz.func95 (by kernel_rfl) rfl (map_two (ev_tmp e3) (ev_tmp e4)) (add_any _ _ (zh * (zp / zq + 1)) zi _ q3 (IVi.out.kn hs.kn) ((Sh.out.mul Sn2.out).mono (by omega)) (Si.out.mono (by omega))) (fun e w2 he => by obtain ⟨v, rfl, hv, hb⟩ := he; exact ⟨v, rfl, v, rfl, hv, hb⟩)⟩
          · intro a' w' ha hs hw hold
            have eo4 : a'.tmps[4]? = some (ptr gh) := (ha.rest 4 (by kernel_rfl)).trans rfl
            exact ⟨rfl, .inl ⟨wanted_none rfl, wp_val (run_pload rfl (ev_tmp eo4) ((hold 7 _ _ _ _ (by rfl) (by rfl) (by kernel_rfl)).trans BXh.out)) ⟨rfl, Below.refl _ _⟩⟩⟩
          · intro a' w' ha hs hw hold
            obtain ⟨v5, e5, q5⟩ := hw 5 (by kernel_rfl) _ rfl
            replace e5 : a'.tmps[49]? = some v5 := Rg.slot_get rfl rfl e5
            have eo4 : a'.tmps[4]? = some (ptr gh) := (ha.rest 4 (by kernel_rfl)).trans rfl
            exact ⟨rfl, wanted_none rfl, fun he => step_stoi rfl rfl (ev_tmp eo4) (ev_tmp e5) q5 BXh.out he⟩
          · intro a' w' ha hs hw hold
            have e6 : a'.tmps[50]? = some (.agg #[.bool sh, .slice Xh ph qh]) := Rg.slot_get rfl rfl (hw 6 (by kernel_rfl) _ rfl)
            have eo5 : a'.tmps[5]? = some (ptr gi) := (ha.rest 5 (by kernel_rfl)).trans rfl
            exact ⟨rfl, wanted_none rfl, fun he => step_stoi rfl rfl (ev_tmp eo5) (ev_tmp e6) (IVh.out.kn hs.kn) BXi.out he⟩
        simp only [Rg.allG]
        intro r17x2 _ _ _ _ _ _
        intro r17x3 _
        intro r17x5 _
        intro hSh
        intro hSi
        simp only [setOpt, Rg.setOpt, List.set_cons_succ, List.set_cons_zero]
        refine hK _ _ ?_
        clear hK K
        replace BXp := Lib.hid (BXp.out.bel hs (by simp only [List.mem_cons, List.not_mem_nil, or_false, not_or]; exact ⟨NQph.out, NQpi.out⟩)); replace IVp := Lib.hid (IVp.out.kn hs.kn)
        replace BXq := Lib.hid (BXq.out.bel hs (by simp only [List.mem_cons, List.not_mem_nil, or_false, not_or]; exact ⟨NQqh.out, NQqi.out⟩)); replace IVq := Lib.hid (IVq.out.kn hs.kn)
        replace BXr := Lib.hid (BXr.out.bel hs (by simp only [List.mem_cons, List.not_mem_nil, or_false, not_or]; exact ⟨NQrh.out, NQri.out⟩)); replace IVr := Lib.hid (IVr.out.kn hs.kn)
        replace BXs := Lib.hid (BXs.out.bel hs (by simp only [List.mem_cons, List.not_mem_nil, or_false, not_or]; exact ⟨NQsh.out, NQsi.out⟩)); replace IVs := Lib.hid (IVs.out.kn hs.kn)
        replace BXk := Lib.hid (BXk.out.bel hs (by simp only [List.mem_cons, List.not_mem_nil, or_false, not_or]; exact ⟨(Ne.symm NQhk.out), (Ne.symm NQik.out)⟩)); replace IVk := Lib.hid (IVk.out.kn hs.kn)
        replace BXj := Lib.hid (BXj.out.bel hs (by simp only [List.mem_cons, List.not_mem_nil, or_false, not_or]; exact ⟨(Ne.symm NQhj.out), (Ne.symm NQij.out)⟩)); replace IVj := Lib.hid (IVj.out.kn hs.kn)
        replace BXn := Lib.hid (BXn.out.bel hs (by simp only [List.mem_cons, List.not_mem_nil, or_false, not_or]; exact ⟨(Nat.ne_of_gt LThn.out), (Nat.ne_of_gt LTin.out)⟩)); replace IVn := Lib.hid (IVn.out.kn hs.kn)
        replace BXl := Lib.hid (BXl.out.bel hs (by simp only [List.mem_cons, List.not_mem_nil, or_false, not_or]; exact ⟨(Nat.ne_of_gt LThl.out), (Nat.ne_of_gt LTil.out)⟩)); replace IVl := Lib.hid (IVl.out.kn hs.kn)
        replace BXm := Lib.hid (BXm.out.bel hs (by simp only [List.mem_cons, List.not_mem_nil, or_false, not_or]; exact ⟨(Nat.ne_of_gt LThm.out), (Nat.ne_of_gt LTim.out)⟩)); replace IVm := Lib.hid (IVm.out.kn hs.kn)
        replace BXu := Lib.hid (BXu.out.bel hs (by simp only [List.mem_cons, List.not_mem_nil, or_false, not_or]; exact ⟨(Nat.ne_of_gt LThu.out), (Nat.ne_of_gt LTiu.out)⟩)); replace IVu := Lib.hid (IVu.out.kn hs.kn)
        replace FXf := Lib.hid (FXf.out.bel hs (by simp only [List.mem_cons, List.not_mem_nil, or_false, not_or]; exact ⟨(Ne.symm NQhf.out), (Ne.symm NQif.out)⟩))
        replace DW := Lib.hid (hs.base DW.out (by have := hg.out; omega) (by intro x hx; simp only [List.mem_cons, List.not_mem_nil, or_false] at hx; rcases hx with rfl | rfl <;> first | (have := GBh.out; omega) | (have := GBi.out; omega) | omega))
        clear BXh IVh
        obtain ⟨Xhy, phy, qhy, BXh, IVh⟩ := hSh
        generalize hsg : decide ((zh * (zp / zq + 1) + zi : Int) < 0) = shy at *
        clear hsg
        replace BXh := Lib.hid BXh; replace IVh := Lib.hid IVh
        clear BXi IVi
        obtain ⟨Xiy, piy, qiy, BXi, IVi⟩ := hSi
        generalize hsg : decide ((zh : Int) < 0) = siy at *
        clear hsg
        replace BXi := Lib.hid BXi; replace IVi := Lib.hid IVi
        clear hs
        go_upto_region 6 with fail
        have Sk2 : Hid (Sz (zk * (zp / zq + 1) + zj) 20003) := Sz.add (N := 20002) ((Sk.out.mul Sn2.out).mono (by omega)) (Sj.out.mono (by omega))
        refine Rg.region_gg wn [.is (.agg #[.bool sk, .slice Xk pk qk]), .is (.agg #[.bool sny, .slice Xny pny qny]), .own (pL1 (zp / zq + 1)) (pL1_keep _), .sat (pIv (zk * (zp / zq + 1))) (pIv_keep _), .is (.agg #[.bool sj, .slice Xj pj qj]), .sat (pIv (zk * (zp / zq + 1) + zj)) (pIv_keep _), .is (.agg #[.bool sk, .slice Xk pk qk]), .sto gk (sI gk (zk * (zp / zq + 1) + zj)) (sI_keep _ _), .sto gj (sI gj (zk)) (sI_keep _ _)] [gk, gj] [some 51, some 52, some 53, some 54, some 55, some 56, some 57, none, none] (by kernel_rfl) (by kernel_rfl) (by kernel_rfl) (by kernel_rfl) (by kernel_rfl) (by simp only [Rg.stos, List.nodup_cons, List.mem_cons, List.not_mem_nil, or_false, not_or, List.nodup_nil, and_true, not_false_eq_true]; exact NQkj.out) (by rfl) (by rfl) (by kernel_rfl) (by intro g hg; simp only [List.mem_cons, List.not_mem_nil, or_false] at hg; rcases hg with rfl | rfl <;> first | exact BXk.out.lt | exact BXj.out.lt) ((Below.refl _ _).drew) (fun Q' => ?_) (fun K hK wn hs => ?_)
        · refine ⟨?_, ?_, ?_, ?_, ?_, ?_, ?_, ?_, ?_, trivial⟩
          · intro a' w' ha hs hw hold
            have eo6 : a'.tmps[6]? = some (ptr gk) := (ha.rest 6 (by kernel_rfl)).trans rfl
            exact ⟨rfl, .inl ⟨wanted_none rfl, wp_val (run_pload rfl (ev_tmp eo6) ((hold 7 _ _ _ _ (by rfl) (by rfl) (by kernel_rfl)).trans BXk.out)) ⟨rfl, Below.refl _ _⟩⟩⟩
          · intro a' w' ha hs hw hold
            have eo9 : a'.tmps[9]? = some (ptr gn) := (ha.rest 9 (by kernel_rfl)).trans rfl
            exact ⟨rfl, .inl ⟨wanted_none rfl, wp_val (run_pload rfl (ev_tmp eo9) (BXn.out.bel hs (by simp only [List.mem_cons, List.not_mem_nil, or_false, not_or]; exact ⟨(Nat.ne_of_gt LTkn.out), (Nat.ne_of_gt LTjn.out)⟩))) ⟨rfl, Below.refl _ _⟩⟩⟩
          · intro a' w' ha hs hw hold
            have e1 : a'.tmps[52]? = some (.agg #[.bool sny, .slice Xny pny qny]) := Rg.slot_get rfl rfl (hw 1 (by kernel_rfl) _ rfl)
            exact ⟨rfl, wanted_none rfl, step_list1 rfl (ev_tmp e1) (IVn.out.kn hs.kn)⟩
          · intro a' w' ha hs hw hold
            have e0 : a'.tmps[51]? = some (.agg #[.bool sk, .slice Xk pk qk]) := Rg.slot_get rfl rfl (hw 0 (by kernel_rfl) _ rfl)
            obtain ⟨v2, g2, h2, q2⟩ := hw 2 (by kernel_rfl) _ rfl
            have e2 : a'.tmps[53]? = some v2 := Rg.slot_get rfl rfl h2.1
            replace q2 := q2 (by kernel_rfl)
            exact ⟨rfl, wanted_none rfl, call_step rfl Tryz.func96 (by kernel_rfl) rfl (map_two (ev_tmp e0) (ev_tmp e2)) (product1_any _ _ zk (zp / zq + 1) _ (IVk.out.kn hs.kn) q2 (Sk.out.mono (by omega)) (Sn2.out.mono (by omega))) (fun e w2 he => by obtain ⟨v, rfl, hv, hb⟩ := he; exact ⟨v, rfl, v, rfl, hv, hb⟩)⟩
          · intro a' w' ha hs hw hold
            have eo7 : a'.tmps[7]? = some (ptr gj) := (ha.rest 7 (by kernel_rfl)).trans rfl
            exact ⟨rfl, .inl ⟨wanted_none rfl, wp_val (run_pload rfl (ev_tmp eo7) ((hold 8 _ _ _ _ (by rfl) (by rfl) (by kernel_rfl)).trans BXj.out)) ⟨rfl, Below.refl _ _⟩⟩⟩
          · intro a' w' ha hs hw hold
            obtain ⟨v3, e3, q3⟩ := hw 3 (by kernel_rfl) _ rfl
            replace e3 : a'.tmps[54]? = some v3 := Rg.slot_get rfl rfl e3
            have e4 : a'.tmps[55]? = some (.agg #[.bool sj, .slice Xj pj qj]) := Rg.slot_get rfl rfl (hw 4 (by kernel_rfl) _ rfl)
            exact ⟨rfl, wanted_none rfl, call_step rfl Tryz.func95 (by kernel_rfl) rfl (map_two (ev_tmp e3) (ev_tmp e4)) (add_any _ _ (zk * (zp / zq + 1)) zj _ q3 (IVj.out.kn hs.kn) ((Sk.out.mul Sn2.out).mono (by omega)) (Sj.out.mono (by omega))) (fun e w2 he => by obtain ⟨v, rfl, hv, hb⟩ := he; exact ⟨v, rfl, v, rfl, hv, hb⟩)⟩
          · intro a' w' ha hs hw hold
            have eo6 : a'.tmps[6]? = some (ptr gk) := (ha.rest 6 (by kernel_rfl)).trans rfl
            exact ⟨rfl, .inl ⟨wanted_none rfl, wp_val (run_pload rfl (ev_tmp eo6) ((hold 7 _ _ _ _ (by rfl) (by rfl) (by kernel_rfl)).trans BXk.out)) ⟨rfl, Below.refl _ _⟩⟩⟩
          · intro a' w' ha hs hw hold
            obtain ⟨v5, e5, q5⟩ := hw 5 (by kernel_rfl) _ rfl
            replace e5 : a'.tmps[56]? = some v5 := Rg.slot_get rfl rfl e5
            have eo6 : a'.tmps[6]? = some (ptr gk) := (ha.rest 6 (by kernel_rfl)).trans rfl
            exact ⟨rfl, wanted_none rfl, fun he => step_stoi rfl rfl (ev_tmp eo6) (ev_tmp e5) q5 BXk.out he⟩
          · intro a' w' ha hs hw hold
            have e6 : a'.tmps[57]? = some (.agg #[.bool sk, .slice Xk pk qk]) := Rg.slot_get rfl rfl (hw 6 (by kernel_rfl) _ rfl)
            have eo7 : a'.tmps[7]? = some (ptr gj) := (ha.rest 7 (by kernel_rfl)).trans rfl
            exact ⟨rfl, wanted_none rfl, fun he => step_stoi rfl rfl (ev_tmp eo7) (ev_tmp e6) (IVk.out.kn hs.kn) BXj.out he⟩
        simp only [Rg.allG]
        intro r18x2 _ _ _ _ _ _
        intro r18x3 _
        intro r18x5 _
        intro hSk
        intro hSj
        simp only [setOpt, Rg.setOpt, List.set_cons_succ, List.set_cons_zero]
        refine hK _ _ ?_
        clear hK K
        replace BXp := Lib.hid (BXp.out.bel hs (by simp only [List.mem_cons, List.not_mem_nil, or_false, not_or]; exact ⟨NQpk.out, NQpj.out⟩)); replace IVp := Lib.hid (IVp.out.kn hs.kn)
        replace BXq := Lib.hid (BXq.out.bel hs (by simp only [List.mem_cons, List.not_mem_nil, or_false, not_or]; exact ⟨NQqk.out, NQqj.out⟩)); replace IVq := Lib.hid (IVq.out.kn hs.kn)
        replace BXr := Lib.hid (BXr.out.bel hs (by simp only [List.mem_cons, List.not_mem_nil, or_false, not_or]; exact ⟨NQrk.out, NQrj.out⟩)); replace IVr := Lib.hid (IVr.out.kn hs.kn)
        replace BXs := Lib.hid (BXs.out.bel hs (by simp only [List.mem_cons, List.not_mem_nil, or_false, not_or]; exact ⟨NQsk.out, NQsj.out⟩)); replace IVs := Lib.hid (IVs.out.kn hs.kn)
        replace BXh := Lib.hid (BXh.out.bel hs (by simp only [List.mem_cons, List.not_mem_nil, or_false, not_or]; exact ⟨NQhk.out, NQhj.out⟩)); replace IVh := Lib.hid (IVh.out.kn hs.kn)
        replace BXi := Lib.hid (BXi.out.bel hs (by simp only [List.mem_cons, List.not_mem_nil, or_false, not_or]; exact ⟨NQik.out, NQij.out⟩)); replace IVi := Lib.hid (IVi.out.kn hs.kn)
        replace BXn := Lib.hid (BXn.out.bel hs (by simp only [List.mem_cons, List.not_mem_nil, or_false, not_or]; exact ⟨(Nat.ne_of_gt LTkn.out), (Nat.ne_of_gt LTjn.out)⟩)); replace IVn := Lib.hid (IVn.out.kn hs.kn)
        replace BXl := Lib.hid (BXl.out.bel hs (by simp only [List.mem_cons, List.not_mem_nil, or_false, not_or]; exact ⟨(Nat.ne_of_gt LTkl.out), (Nat.ne_of_gt LTjl.out)⟩)); replace IVl := Lib.hid (IVl.out.kn hs.kn)
        replace BXm := Lib.hid (BXm.out.bel hs (by simp only [List.mem_cons, List.not_mem_nil, or_false, not_or]; exact ⟨(Nat.ne_of_gt LTkm.out), (Nat.ne_of_gt LTjm.out)⟩)); replace IVm := Lib.hid (IVm.out.kn hs.kn)
        replace BXu := Lib.hid (BXu.out.bel hs (by simp only [List.mem_cons, List.not_mem_nil, or_false, not_or]; exact ⟨(Nat.ne_of_gt LTku.out), (Nat.ne_of_gt LTju.out)⟩)); replace IVu := Lib.hid (IVu.out.kn hs.kn)
        replace FXf := Lib.hid (FXf.out.bel hs (by simp only [List.mem_cons, List.not_mem_nil, or_false, not_or]; exact ⟨(Ne.symm NQkf.out), (Ne.symm NQjf.out)⟩))
        replace DW := Lib.hid (hs.base DW.out (by have := hg.out; omega) (by intro x hx; simp only [List.mem_cons, List.not_mem_nil, or_false] at hx; rcases hx with rfl | rfl <;> first | (have := GBk.out; omega) | (have := GBj.out; omega) | omega))
        clear BXk IVk
        obtain ⟨Xky, pky, qky, BXk, IVk⟩ := hSk
        generalize hsg : decide ((zk * (zp / zq + 1) + zj : Int) < 0) = sky at *
        clear hsg
        replace BXk := Lib.hid BXk; replace IVk := Lib.hid IVk
        clear BXj IVj
        obtain ⟨Xjy, pjy, qjy, BXj, IVj⟩ := hSj
        generalize hsg : decide ((zk : Int) < 0) = sjy at *
        clear hsg
        replace BXj := Lib.hid BXj; replace IVj := Lib.hid IVj
        clear hs
        go_upto_region 7 with fail
        go_wp2
        refine bodyPost_end (v := .tuple #[]) (by simp [results, Tryz.results155, go_sem]) rfl ⟨rfl, ?_, ?_, DW.out⟩
        · have := ic_of BXh.out IVh.out
          unfold srch
          rw [if_neg h0.out, if_pos h1.out]
          exact this
        · have := ic_of BXk.out IVk.out
          unfold srch
          rw [if_neg h0.out, if_pos h1.out]
          exact this
      · have e2 : decide (CZ < 0) = false := by
          rw [← hCZ]
          unfold cmpZ
          rw [if_neg h1]
          split <;> rfl
        clear hCZ
        replace h1 := Lib.hid h1
        go_upto_region 5 with fail
        clear e2
        have Sh2 : Hid (Sz (zh * (zp / zq) + zi) 20003) := Sz.add (N := 20002) ((Sh.out.mul Sn.out).mono (by omega)) (Si.out.mono (by omega))
        refine Rg.region_gg y15 [.is (.agg #[.bool sh, .slice Xh ph qh]), .is (.agg #[.bool sn, .slice Xn pn qn]), .own (pL1 (zp / zq)) (pL1_keep _), .sat (pIv (zh * (zp / zq))) (pIv_keep _), .is (.agg #[.bool si, .slice Xi pi qi]), .sat (pIv (zh * (zp / zq) + zi)) (pIv_keep _), .is (.agg #[.bool sh, .slice Xh ph qh]), .sto gh (sI gh (zh * (zp / zq) + zi)) (sI_keep _ _), .sto gi (sI gi (zh)) (sI_keep _ _)] [gh, gi] [some 44, some 45, some 46, some 47, some 48, some 49, some 50, none, none] (by kernel_rfl) (by kernel_rfl) (by kernel_rfl) (by kernel_rfl) (by kernel_rfl) (by simp only [Rg.stos, List.nodup_cons, List.mem_cons, List.not_mem_nil, or_false, not_or, List.nodup_nil, and_true, not_false_eq_true]; exact NQhi.out) (by rfl) (by rfl) (by kernel_rfl) (by intro g hg; simp only [List.mem_cons, List.not_mem_nil, or_false] at hg; rcases hg with rfl | rfl <;> first | exact BXh.out.lt | exact BXi.out.lt) ((Below.refl _ _).drew) (fun Q' => ?_) (fun K hK wn hs => ?_)
        · refine ⟨?_, ?_, ?_, ?_, ?_, ?_, ?_, ?_, ?_, trivial⟩
          · intro a' w' ha hs hw hold
            have eo4 : a'.tmps[4]? = some (ptr gh) := (ha.rest 4 (by kernel_rfl)).trans rfl
            exact ⟨rfl, .inl ⟨wanted_none rfl, wp_val (run_pload rfl (ev_tmp eo4) ((hold 7 _ _ _ _ (by rfl) (by rfl) (by kernel_rfl)).trans BXh.out)) ⟨rfl, Below.refl _ _⟩⟩⟩
          · intro a' w' ha hs hw hold
            have eo9 : a'.tmps[9]? = some (ptr gn) := (ha.rest 9 (by kernel_rfl)).trans rfl
            exact ⟨rfl, .inl ⟨wanted_none rfl, wp_val (run_pload rfl (ev_tmp eo9) (BXn.out.bel hs (by simp only [List.mem_cons, List.not_mem_nil, or_false, not_or]; exact ⟨(Nat.ne_of_gt LThn.out), (Nat.ne_of_gt LTin.out)⟩))) ⟨rfl, Below.refl _ _⟩⟩⟩
          · intro a' w' ha hs hw hold
            have e1 : a'.tmps[45]? = some (.agg #[.bool sn, .slice Xn pn qn]) := Rg.slot_get rfl rfl (hw 1 (by kernel_rfl) _ rfl)
            exact ⟨rfl, wanted_none rfl, step_list1 rfl (ev_tmp e1) (IVn.out.kn hs.kn)⟩
          · intro a' w' ha hs hw hold
            have e0 : a'.tmps[44]? = some (.agg #[.bool sh, .slice Xh ph qh]) := Rg.slot_get rfl rfl (hw 0 (by kernel_rfl) _ rfl)
            obtain ⟨v2, g2, h2, q2⟩ := hw 2 (by kernel_rfl) _ rfl
            have e2 : a'.tmps[46]? = some v2 := Rg.slot_get rfl rfl h2.1
            replace q2 := q2 (by kernel_rfl)
            exact ⟨rfl, wanted_none rfl, call_step rfl Tryz.func96 (by kernel_rfl) rfl (map_two (ev_tmp e0) (ev_tmp e2)) (product1_any _ _ zh (zp / zq) _ (IVh.out.kn hs.kn) q2 (Sh.out.mono (by omega)) (Sn.out.mono (by omega))) (fun e w2 he => by obtain ⟨v, rfl, hv, hb⟩ := he; exact ⟨v, rfl, v, rfl, hv, hb⟩)⟩
          · intro a' w' ha hs hw hold
            have eo5 : a'.tmps[5]? = some (ptr gi) := (ha.rest 5 (by kernel_rfl)).trans rfl
            exact ⟨rfl, .inl ⟨wanted_none rfl, wp_val (run_pload rfl (ev_tmp eo5) ((hold 8 _ _ _ _ (by rfl) (by rfl) (by kernel_rfl)).trans BXi.out)) ⟨rfl, Below.refl _ _⟩⟩⟩
          · intro a' w' ha hs hw hold
            obtain ⟨v3, e3, q3⟩ := hw 3 (by kernel_rfl) _ rfl
            replace e3 : a'.tmps[47]? = some v3 := Rg.slot_get rfl rfl e3
            have e4 : a'.tmps[48]? = some (.agg #[.bool si, .slice Xi pi qi]) := Rg.slot_get rfl rfl (hw 4 (by kernel_rfl) _ rfl)
            exact ⟨rfl, wanted_none rfl, call_step rfl Tryz.func95 (by kernel_rfl) rfl (map_two (ev_tmp e3) (ev_tmp e4)) (add_any _ _ (zh * (zp / zq)) zi _ q3 (IVi.out.kn hs.kn) ((Sh.out.mul Sn.out).mono (by omega)) (Si.out.mono (by omega))) (fun e w2 he => by obtain ⟨v, rfl, hv, hb⟩ := he; exact ⟨v, rfl, v, rfl, hv, hb⟩)⟩
          · intro a' w' ha hs hw hold
            have eo4 : a'.tmps[4]? = some (ptr gh) := (ha.rest 4 (by kernel_rfl)).trans rfl
            exact ⟨rfl, .inl ⟨wanted_none rfl, wp_val (run_pload rfl (ev_tmp eo4) ((hold 7 _ _ _ _ (by rfl) (by rfl) (by kernel_rfl)).trans BXh.out)) ⟨rfl, Below.refl _ _⟩⟩⟩
          · intro a' w' ha hs hw hold
            obtain ⟨v5, e5, q5⟩ := hw 5 (by kernel_rfl) _ rfl
            replace e5 : a'.tmps[49]? = some v5 := Rg.slot_get rfl rfl e5
            have eo4 : a'.tmps[4]? = some (ptr gh) := (ha.rest 4 (by kernel_rfl)).trans rfl
            exact ⟨rfl, wanted_none rfl, fun he => step_stoi rfl rfl (ev_tmp eo4) (ev_tmp e5) q5 BXh.out he⟩
          · intro a' w' ha hs hw hold
            have e6 : a'.tmps[50]? = some (.agg #[.bool sh, .slice Xh ph qh]) := Rg.slot_get rfl rfl (hw 6 (by kernel_rfl) _ rfl)
            have eo5 : a'.tmps[5]? = some (ptr gi) := (ha.rest 5 (by kernel_rfl)).trans rfl
            exact ⟨rfl, wanted_none rfl, fun he => step_stoi rfl rfl (ev_tmp eo5) (ev_tmp e6) (IVh.out.kn hs.kn) BXi.out he⟩
        simp only [Rg.allG]
        intro r19x2 _ _ _ _ _ _
        intro r19x3 _
        intro r19x5 _
        intro hSh
        intro hSi
        simp only [setOpt, Rg.setOpt, List.set_cons_succ, List.set_cons_zero]
        refine hK _ _ ?_
        clear hK K
        replace BXp := Lib.hid (BXp.out.bel hs (by simp only [List.mem_cons, List.not_mem_nil, or_false, not_or]; exact ⟨NQph.out, NQpi.out⟩)); replace IVp := Lib.hid (IVp.out.kn hs.kn)
        replace BXq := Lib.hid (BXq.out.bel hs (by simp only [List.mem_cons, List.not_mem_nil, or_false, not_or]; exact ⟨NQqh.out, NQqi.out⟩)); replace IVq := Lib.hid (IVq.out.kn hs.kn)
        replace BXr := Lib.hid (BXr.out.bel hs (by simp only [List.mem_cons, List.not_mem_nil, or_false, not_or]; exact ⟨NQrh.out, NQri.out⟩)); replace IVr := Lib.hid (IVr.out.kn hs.kn)
        replace BXs := Lib.hid (BXs.out.bel hs (by simp only [List.mem_cons, List.not_mem_nil, or_false, not_or]; exact ⟨NQsh.out, NQsi.out⟩)); replace IVs := Lib.hid (IVs.out.kn hs.kn)
        replace BXk := Lib.hid (BXk.out.bel hs (by simp only [List.mem_cons, List.not_mem_nil, or_false, not_or]; exact ⟨(Ne.symm NQhk.out), (Ne.symm NQik.out)⟩)); replace IVk := Lib.hid (IVk.out.kn hs.kn)
        replace BXj := Lib.hid (BXj.out.bel hs (by simp only [List.mem_cons, List.not_mem_nil, or_false, not_or]; exact ⟨(Ne.symm NQhj.out), (Ne.symm NQij.out)⟩)); replace IVj := Lib.hid (IVj.out.kn hs.kn)
        replace BXn := Lib.hid (BXn.out.bel hs (by simp only [List.mem_cons, List.not_mem_nil, or_false, not_or]; exact ⟨(Nat.ne_of_gt LThn.out), (Nat.ne_of_gt LTin.out)⟩)); replace IVn := Lib.hid (IVn.out.kn hs.kn)
        replace BXl := Lib.hid (BXl.out.bel hs (by simp only [List.mem_cons, List.not_mem_nil, or_false, not_or]; exact ⟨(Nat.ne_of_gt LThl.out), (Nat.ne_of_gt LTil.out)⟩)); replace IVl := Lib.hid (IVl.out.kn hs.kn)
        replace BXm := Lib.hid (BXm.out.bel hs (by simp only [List.mem_cons, List.not_mem_nil, or_false, not_or]; exact ⟨(Nat.ne_of_gt LThm.out), (Nat.ne_of_gt LTim.out)⟩)); replace IVm := Lib.hid (IVm.out.kn hs.kn)
        replace BXu := Lib.hid (BXu.out.bel hs (by simp only [List.mem_cons, List.not_mem_nil, or_false, not_or]; exact ⟨(Nat.ne_of_gt LThu.out), (Nat.ne_of_gt LTiu.out)⟩)); replace IVu := Lib.hid (IVu.out.kn hs.kn)
        replace FXf := Lib.hid (FXf.out.bel hs (by simp only [List.mem_cons, List.not_mem_nil, or_false, not_or]; exact ⟨(Ne.symm NQhf.out), (Ne.symm NQif.out)⟩))
        replace DW := Lib.hid (hs.base DW.out (by have := hg.out; omega) (by intro x hx; simp only [List.mem_cons, List.not_mem_nil, or_false] at hx; rcases hx with rfl | rfl <;> first | (have := GBh.out; omega) | (have := GBi.out; omega) | omega))
        clear BXh IVh
        obtain ⟨Xhy, phy, qhy, BXh, IVh⟩ := hSh
        generalize hsg : decide ((zh * (zp / zq) + zi : Int) < 0) = shy at *
        clear hsg
        replace BXh := Lib.hid BXh; replace IVh := Lib.hid IVh
        clear BXi IVi
        obtain ⟨Xiy, piy, qiy, BXi, IVi⟩ := hSi
        generalize hsg : decide ((zh : Int) < 0) = siy at *
        clear hsg
        replace BXi := Lib.hid BXi; replace IVi := Lib.hid IVi
        clear hs
        go_upto_region 6 with fail
        have Sk2 : Hid (Sz (zk * (zp / zq) + zj) 20003) := Sz.add (N := 20002) ((Sk.out.mul Sn.out).mono (by omega)) (Sj.out.mono (by omega))
        refine Rg.region_gg wn [.is (.agg #[.bool sk, .slice Xk pk qk]), .is (.agg #[.bool sn, .slice Xn pn qn]), .own (pL1 (zp / zq)) (pL1_keep _), .sat (pIv (zk * (zp / zq))) (pIv_keep _), .is (.agg #[.bool sj, .slice Xj pj qj]), .sat (pIv (zk * (zp / zq) + zj)) (pIv_keep _), .is (.agg #[.bool sk, .slice Xk pk qk]), .sto gk (sI gk (zk * (zp / zq) + zj)) (sI_keep _ _), .sto gj (sI gj (zk)) (sI_keep _ _)] [gk, gj] [some 51, some 52, some 53, some 54, some 55, some 56, some 57, none, none] (by kernel_rfl) (by kernel_rfl) (by kernel_rfl) (by kernel_rfl) (by kernel_rfl) (by simp only [Rg.stos, List.nodup_cons, List.mem_cons, List.not_mem_nil, or_false, not_or, List.nodup_nil, and_true, not_false_eq_true]; exact NQkj.out) (by rfl) (by rfl) (by kernel_rfl) (by intro g hg; simp only [List.mem_cons, List.not_mem_nil, or_false] at hg; rcases hg with rfl | rfl <;> first | exact BXk.out.lt | exact BXj.out.lt) ((Below.refl _ _).drew) (fun Q' => ?_) (fun K hK wn hs => ?_)
        · refine ⟨?_, ?_, ?_, ?_, ?_, ?_, ?_, ?_, ?_, trivial⟩
          · intro a' w' ha hs hw hold
            have eo6 : a'.tmps[6]? = some (ptr gk) := (ha.rest 6 (by kernel_rfl)).trans rfl
            exact ⟨rfl, .inl ⟨wanted_none rfl, wp_val (run_pload rfl (ev_tmp eo6) ((hold 7 _ _ _ _ (by rfl) (by rfl) (by kernel_rfl)).trans BXk.out)) ⟨rfl, Below.refl _ _⟩⟩⟩
          · intro a' w' ha hs hw hold
            have eo9 : a'.tmps[9]? = some (ptr gn) := (ha.rest 9 (by kernel_rfl)).trans rfl
            exact ⟨rfl, .inl ⟨wanted_none rfl, wp_val (run_pload rfl (ev_tmp eo9) (BXn.out.bel hs (by simp only [List.mem_cons, List.not_mem_nil, or_false, not_or]; exact ⟨(Nat.ne_of_gt LTkn.out), (Nat.ne_of_gt LTjn.out)⟩))) ⟨rfl, Below.refl _ _⟩⟩⟩
          · intro a' w' ha hs hw hold
            have e1 : a'.tmps[52]? = some (.agg #[.bool sn, .slice Xn pn qn]) := Rg.slot_get rfl rfl (hw 1 (by kernel_rfl) _ rfl)
            exact ⟨rfl, wanted_none rfl, step_list1 rfl (ev_tmp e1) (IVn.out.kn hs.kn)⟩
          · intro a' w' ha hs hw hold
            have e0 : a'.tmps[51]? = some (.agg #[.bool sk, .slice Xk pk qk]) := Rg.slot_get rfl rfl (hw 0 (by kernel_rfl) _ rfl)
            obtain ⟨v2, g2, h2, q2⟩ := hw 2 (by kernel_rfl) _ rfl
            have e2 : a'.tmps[53]? = some v2 := Rg.slot_get rfl rfl h2.1
            replace q2 := q2 (by kernel_rfl)
            exact ⟨rfl, wanted_none rfl, call_step rfl Tryz.func96 (by kernel_rfl) rfl (map_two (ev_tmp e0) (ev_tmp e2)) (product1_any _ _ zk (zp / zq) _ (IVk.out.kn hs.kn) q2 (Sk.out.mono (by omega)) (Sn.out.mono (by omega))) (fun e w2 he => by obtain ⟨v, rfl, hv, hb⟩ := he; exact ⟨v, rfl, v, rfl, hv, hb⟩)⟩
          · intro a' w' ha hs hw hold
            have eo7 : a'.tmps[7]? = some (ptr gj) := (ha.rest 7 (by kernel_rfl)).trans rfl
            exact ⟨rfl, .inl ⟨wanted_none rfl, wp_val (run_pload rfl (ev_tmp eo7) ((hold 8 _ _ _ _ (by rfl) (by rfl) (by kernel_rfl)).trans BXj.out)) ⟨rfl, Below.refl _ _⟩⟩⟩
          · intro a' w' ha hs hw hold
            obtain ⟨v3, e3, q3⟩ := hw 3 (by kernel_rfl) _ rfl
            replace e3 : a'.tmps[54]? = some v3 := Rg.slot_get rfl rfl e3
            have e4 : a'.tmps[55]? = some (.agg #[.bool sj, .slice Xj pj qj]) := Rg.slot_get rfl rfl (hw 4 (by kernel_rfl) _ rfl)
            exact ⟨rfl, wanted_none rfl, call_step rfl Tryz.func95 (by kernel_rfl) rfl (map_two (ev_tmp e3) (ev_tmp e4)) (add_any _ _ (zk * (zp / zq)) zj _ q3 (IVj.out.kn hs.kn) ((Sk.out.mul Sn.out).mono (by omega)) (Sj.out.mono (by omega))) (fun e w2 he => by obtain ⟨v, rfl, hv, hb⟩ := he; exact ⟨v, rfl, v, rfl, hv, hb⟩)⟩
          · intro a' w' ha hs hw hold
            have eo6 : a'.tmps[6]? = some (ptr gk) := (ha.rest 6 (by kernel_rfl)).trans rfl
            exact ⟨rfl, .inl ⟨wanted_none rfl, wp_val (run_pload rfl (ev_tmp eo6) ((hold 7 _ _ _ _ (by rfl) (by rfl) (by kernel_rfl)).trans BXk.out)) ⟨rfl, Below.refl _ _⟩⟩⟩
          · intro a' w' ha hs hw hold
            obtain ⟨v5, e5, q5⟩ := hw 5 (by kernel_rfl) _ rfl
            replace e5 : a'.tmps[56]? = some v5 := Rg.slot_get rfl rfl e5
            have eo6 : a'.tmps[6]? = some (ptr gk) := (ha.rest 6 (by kernel_rfl)).trans rfl
            exact ⟨rfl, wanted_none rfl, fun he => step_stoi rfl rfl (ev_tmp eo6) (ev_tmp e5) q5 BXk.out he⟩
          · intro a' w' ha hs hw hold
            have e6 : a'.tmps[57]? = some (.agg #[.bool sk, .slice Xk pk qk]) := Rg.slot_get rfl rfl (hw 6 (by kernel_rfl) _ rfl)
            have eo7 : a'.tmps[7]? = some (ptr gj) := (ha.rest 7 (by kernel_rfl)).trans rfl
            exact ⟨rfl, wanted_none rfl, fun he => step_stoi rfl rfl (ev_tmp eo7) (ev_tmp e6) (IVk.out.kn hs.kn) BXj.out he⟩
        simp only [Rg.allG]
        intro r20x2 _ _ _ _ _ _
        intro r20x3 _
        intro r20x5 _
        intro hSk
        intro hSj
        simp only [setOpt, Rg.setOpt, List.set_cons_succ, List.set_cons_zero]
        refine hK _ _ ?_
        clear hK K
        replace BXp := Lib.hid (BXp.out.bel hs (by simp only [List.mem_cons, List.not_mem_nil, or_false, not_or]; exact ⟨NQpk.out, NQpj.out⟩)); replace IVp := Lib.hid (IVp.out.kn hs.kn)
        replace BXq := Lib.hid (BXq.out.bel hs (by simp only [List.mem_cons, List.not_mem_nil, or_false, not_or]; exact ⟨NQqk.out, NQqj.out⟩)); replace IVq := Lib.hid (IVq.out.kn hs.kn)
        replace BXr := Lib.hid (BXr.out.bel hs (by simp only [List.mem_cons, List.not_mem_nil, or_false, not_or]; exact ⟨NQrk.out, NQrj.out⟩)); replace IVr := Lib.hid (IVr.out.kn hs.kn)
        replace BXs := Lib.hid (BXs.out.bel hs (by simp only [List.mem_cons, List.not_mem_nil, or_false, not_or]; exact ⟨NQsk.out, NQsj.out⟩)); replace IVs := Lib.hid (IVs.out.kn hs.kn)
        replace BXh := Lib.hid (BXh.out.bel hs (by simp only [List.mem_cons, List.not_mem_nil, or_false, not_or]; exact ⟨NQhk.out, NQhj.out⟩)); replace IVh := Lib.hid (IVh.out.kn hs.kn)
        replace BXi := Lib.hid (BXi.out.bel hs (by simp only [List.mem_cons, List.not_mem_nil, or_false, not_or]; exact ⟨NQik.out, NQij.out⟩)); replace IVi := Lib.hid (IVi.out.kn hs.kn)
        replace BXn := Lib.hid (BXn.out.bel hs (by simp only [List.mem_cons, List.not_mem_nil, or_false, not_or]; exact ⟨(Nat.ne_of_gt LTkn.out), (Nat.ne_of_gt LTjn.out)⟩)); replace IVn := Lib.hid (IVn.out.kn hs.kn)
        replace BXl := Lib.hid (BXl.out.bel hs (by simp only [List.mem_cons, List.not_mem_nil, or_false, not_or]; exact ⟨(Nat.ne_of_gt LTkl.out), (Nat.ne_of_gt LTjl.out)⟩)); replace IVl := Lib.hid (IVl.out.kn hs.kn)
        replace BXm := Lib.hid (BXm.out.bel hs (by simp only [List.mem_cons, List.not_mem_nil, or_false, not_or]; exact ⟨(Nat.ne_of_gt LTkm.out), (Nat.ne_of_gt LTjm.out)⟩)); replace IVm := Lib.hid (IVm.out.kn hs.kn)
        replace BXu := Lib.hid (BXu.out.bel hs (by simp only [List.mem_cons, List.not_mem_nil, or_false, not_or]; exact ⟨(Nat.ne_of_gt LTku.out), (Nat.ne_of_gt LTju.out)⟩)); replace IVu := Lib.hid (IVu.out.kn hs.kn)
        replace FXf := Lib.hid (FXf.out.bel hs (by simp only [List.mem_cons, List.not_mem_nil, or_false, not_or]; exact ⟨(Ne.symm NQkf.out), (Ne.symm NQjf.out)⟩))
        replace DW := Lib.hid (hs.base DW.out (by have := hg.out; omega) (by intro x hx; simp only [List.mem_cons, List.not_mem_nil, or_false] at hx; rcases hx with rfl | rfl <;> first | (have := GBk.out; omega) | (have := GBj.out; omega) | omega))
        clear BXk IVk
        obtain ⟨Xky, pky, qky, BXk, IVk⟩ := hSk
        generalize hsg : decide ((zk * (zp / zq) + zj : Int) < 0) = sky at *
        clear hsg
        replace BXk := Lib.hid BXk; replace IVk := Lib.hid IVk
        clear BXj IVj
        obtain ⟨Xjy, pjy, qjy, BXj, IVj⟩ := hSj
        generalize hsg : decide ((zk : Int) < 0) = sjy at *
        clear hsg
        replace BXj := Lib.hid BXj; replace IVj := Lib.hid IVj
        clear hs
        go_upto_region 7 with fail
        go_upto_region 8 with fail
        refine Rg.region_gg wn [.is (.agg #[.bool ss, .slice Xs ps qs]), .is (.agg #[.bool su, .slice Xu pu qu]), .is (.agg #[.bool sq, .slice Xq pq qq]), .is (.agg #[.bool sl, .slice Xl pl ql]), .sto gp (sI gp (zs)) (sI_keep _ _), .sto gq (sI gq (zr % zs)) (sI_keep _ _), .sto gr (sI gr (zq)) (sI_keep _ _), .sto gs (sI gs (zp % zq)) (sI_keep _ _)] [gp, gq, gr, gs] [some 60, some 61, some 62, some 63, none, none, none, none] (by kernel_rfl) (by kernel_rfl) (by kernel_rfl) (by kernel_rfl) (by kernel_rfl) (by simp only [Rg.stos, List.nodup_cons, List.mem_cons, List.not_mem_nil, or_false, not_or, List.nodup_nil, and_true, not_false_eq_true]; exact ⟨⟨NQpq.out, NQpr.out, NQps.out⟩, ⟨NQqr.out, NQqs.out⟩, NQrs.out⟩) (by rfl) (by rfl) (by kernel_rfl) (by intro g hg; simp only [List.mem_cons, List.not_mem_nil, or_false] at hg; rcases hg with rfl | rfl | rfl | rfl <;> first | exact BXp.out.lt | exact BXq.out.lt | exact BXr.out.lt | exact BXs.out.lt) ((Below.refl _ _).drew) (fun Q' => ?_) (fun K hK wn hs => ?_)
        · refine ⟨?_, ?_, ?_, ?_, ?_, ?_, ?_, ?_, trivial⟩
          · intro a' w' ha hs hw hold
            have eo3 : a'.tmps[3]? = some (ptr gs) := (ha.rest 3 (by kernel_rfl)).trans rfl
            exact ⟨rfl, .inl ⟨wanted_none rfl, wp_val (run_pload rfl (ev_tmp eo3) ((hold 7 _ _ _ _ (by rfl) (by rfl) (by kernel_rfl)).trans BXs.out)) ⟨rfl, Below.refl _ _⟩⟩⟩
          · intro a' w' ha hs hw hold
            have eo13 : a'.tmps[13]? = some (ptr gu) := (ha.rest 13 (by kernel_rfl)).trans rfl
            exact ⟨rfl, .inl ⟨wanted_none rfl, wp_val (run_pload rfl (ev_tmp eo13) (BXu.out.bel hs (by simp only [List.mem_cons, List.not_mem_nil, or_false, not_or]; exact ⟨(Nat.ne_of_gt LTpu.out), (Nat.ne_of_gt LTqu.out), (Nat.ne_of_gt LTru.out), (Nat.ne_of_gt LTsu.out)⟩))) ⟨rfl, Below.refl _ _⟩⟩⟩
          · intro a' w' ha hs hw hold
            have eo1 : a'.tmps[1]? = some (ptr gq) := (ha.rest 1 (by kernel_rfl)).trans rfl
            exact ⟨rfl, .inl ⟨wanted_none rfl, wp_val (run_pload rfl (ev_tmp eo1) ((hold 5 _ _ _ _ (by rfl) (by rfl) (by kernel_rfl)).trans BXq.out)) ⟨rfl, Below.refl _ _⟩⟩⟩
          · intro a' w' ha hs hw hold
            have eo10 : a'.tmps[10]? = some (ptr gl) := (ha.rest 10 (by kernel_rfl)).trans rfl
            exact ⟨rfl, .inl ⟨wanted_none rfl, wp_val (run_pload rfl (ev_tmp eo10) (BXl.out.bel hs (by simp only [List.mem_cons, List.not_mem_nil, or_false, not_or]; exact ⟨(Nat.ne_of_gt LTpl.out), (Nat.ne_of_gt LTql.out), (Nat.ne_of_gt LTrl.out), (Nat.ne_of_gt LTsl.out)⟩))) ⟨rfl, Below.refl _ _⟩⟩⟩
          · intro a' w' ha hs hw hold
            have e0 : a'.tmps[60]? = some (.agg #[.bool ss, .slice Xs ps qs]) := Rg.slot_get rfl rfl (hw 0 (by kernel_rfl) _ rfl)
            have eo0 : a'.tmps[0]? = some (ptr gp) := (ha.rest 0 (by kernel_rfl)).trans rfl
            exact ⟨rfl, wanted_none rfl, fun he => step_stoi rfl rfl (ev_tmp eo0) (ev_tmp e0) (IVs.out.kn hs.kn) BXp.out he⟩
          · intro a' w' ha hs hw hold
            have e1 : a'.tmps[61]? = some (.agg #[.bool su, .slice Xu pu qu]) := Rg.slot_get rfl rfl (hw 1 (by kernel_rfl) _ rfl)
            have eo1 : a'.tmps[1]? = some (ptr gq) := (ha.rest 1 (by kernel_rfl)).trans rfl
            exact ⟨rfl, wanted_none rfl, fun he => step_stoi rfl rfl (ev_tmp eo1) (ev_tmp e1) (IVu.out.kn hs.kn) BXq.out he⟩
          · intro a' w' ha hs hw hold
            have e2 : a'.tmps[62]? = some (.agg #[.bool sq, .slice Xq pq qq]) := Rg.slot_get rfl rfl (hw 2 (by kernel_rfl) _ rfl)
            have eo2 : a'.tmps[2]? = some (ptr gr) := (ha.rest 2 (by kernel_rfl)).trans rfl
            exact ⟨rfl, wanted_none rfl, fun he => step_stoi rfl rfl (ev_tmp eo2) (ev_tmp e2) (IVq.out.kn hs.kn) BXr.out he⟩
          · intro a' w' ha hs hw hold
            have e3 : a'.tmps[63]? = some (.agg #[.bool sl, .slice Xl pl ql]) := Rg.slot_get rfl rfl (hw 3 (by kernel_rfl) _ rfl)
            have eo3 : a'.tmps[3]? = some (ptr gs) := (ha.rest 3 (by kernel_rfl)).trans rfl
            exact ⟨rfl, wanted_none rfl, fun he => step_stoi rfl rfl (ev_tmp eo3) (ev_tmp e3) (IVl.out.kn hs.kn) BXs.out he⟩
        simp only [Rg.allG]
        intro hSp
        intro hSq
        intro hSr
        intro hSs
        simp only [setOpt, Rg.setOpt, List.set_cons_succ, List.set_cons_zero]
        refine hK _ _ ?_
        clear hK K
        replace BXh := Lib.hid (BXh.out.bel hs (by simp only [List.mem_cons, List.not_mem_nil, or_false, not_or]; exact ⟨(Ne.symm NQph.out), (Ne.symm NQqh.out), (Ne.symm NQrh.out), (Ne.symm NQsh.out)⟩)); replace IVh := Lib.hid (IVh.out.kn hs.kn)
        replace BXi := Lib.hid (BXi.out.bel hs (by simp only [List.mem_cons, List.not_mem_nil, or_false, not_or]; exact ⟨(Ne.symm NQpi.out), (Ne.symm NQqi.out), (Ne.symm NQri.out), (Ne.symm NQsi.out)⟩)); replace IVi := Lib.hid (IVi.out.kn hs.kn)
        replace BXk := Lib.hid (BXk.out.bel hs (by simp only [List.mem_cons, List.not_mem_nil, or_false, not_or]; exact ⟨(Ne.symm NQpk.out), (Ne.symm NQqk.out), (Ne.symm NQrk.out), (Ne.symm NQsk.out)⟩)); replace IVk := Lib.hid (IVk.out.kn hs.kn)
        replace BXj := Lib.hid (BXj.out.bel hs (by simp only [List.mem_cons, List.not_mem_nil, or_false, not_or]; exact ⟨(Ne.symm NQpj.out), (Ne.symm NQqj.out), (Ne.symm NQrj.out), (Ne.symm NQsj.out)⟩)); replace IVj := Lib.hid (IVj.out.kn hs.kn)
        replace BXn := Lib.hid (BXn.out.bel hs (by simp only [List.mem_cons, List.not_mem_nil, or_false, not_or]; exact ⟨(Nat.ne_of_gt LTpn.out), (Nat.ne_of_gt LTqn.out), (Nat.ne_of_gt LTrn.out), (Nat.ne_of_gt LTsn.out)⟩)); replace IVn := Lib.hid (IVn.out.kn hs.kn)
        replace BXl := Lib.hid (BXl.out.bel hs (by simp only [List.mem_cons, List.not_mem_nil, or_false, not_or]; exact ⟨(Nat.ne_of_gt LTpl.out), (Nat.ne_of_gt LTql.out), (Nat.ne_of_gt LTrl.out), (Nat.ne_of_gt LTsl.out)⟩)); replace IVl := Lib.hid (IVl.out.kn hs.kn)
        replace BXm := Lib.hid (BXm.out.bel hs (by simp only [List.mem_cons, List.not_mem_nil, or_false, not_or]; exact ⟨(Nat.ne_of_gt LTpm.out), (Nat.ne_of_gt LTqm.out), (Nat.ne_of_gt LTrm.out), (Nat.ne_of_gt LTsm.out)⟩)); replace IVm := Lib.hid (IVm.out.kn hs.kn)
        replace BXu := Lib.hid (BXu.out.bel hs (by simp only [List.mem_cons, List.not_mem_nil, or_false, not_or]; exact ⟨(Nat.ne_of_gt LTpu.out), (Nat.ne_of_gt LTqu.out), (Nat.ne_of_gt LTru.out), (Nat.ne_of_gt LTsu.out)⟩)); replace IVu := Lib.hid (IVu.out.kn hs.kn)
        replace FXf := Lib.hid (FXf.out.bel hs (by simp only [List.mem_cons, List.not_mem_nil, or_false, not_or]; exact ⟨(Ne.symm NQpf.out), (Ne.symm NQqf.out), (Ne.symm NQrf.out), (Ne.symm NQsf.out)⟩))
        replace DW := Lib.hid (hs.base DW.out (by have := hg.out; omega) (by intro x hx; simp only [List.mem_cons, List.not_mem_nil, or_false] at hx; rcases hx with rfl | rfl | rfl | rfl <;> first | (have := GBp.out; omega) | (have := GBq.out; omega) | (have := GBr.out; omega) | (have := GBs.out; omega) | omega))
        clear BXp IVp
        obtain ⟨Xpy, ppy, qpy, BXp, IVp⟩ := hSp
        generalize hsg : decide ((zs : Int) < 0) = spy at *
        clear hsg
        replace BXp := Lib.hid BXp; replace IVp := Lib.hid IVp
        clear BXq IVq
        obtain ⟨Xqy, pqy, qqy, BXq, IVq⟩ := hSq
        generalize hsg : decide ((zr % zs : Int) < 0) = sqy at *
        clear hsg
        replace BXq := Lib.hid BXq; replace IVq := Lib.hid IVq
        clear BXr IVr
        obtain ⟨Xry, pry, qry, BXr, IVr⟩ := hSr
        generalize hsg : decide ((zq : Int) < 0) = sry at *
        clear hsg
        replace BXr := Lib.hid BXr; replace IVr := Lib.hid IVr
        clear BXs IVs
        obtain ⟨Xsy, psy, qsy, BXs, IVs⟩ := hSs
        generalize hsg : decide ((zp % zq : Int) < 0) = ssy at *
        clear hsg
        replace BXs := Lib.hid BXs; replace IVs := Lib.hid IVs
        clear hs
        have u1 := FXf.out.cell0
        go_wp2_with fail
        clear u1
        refine (ih g gp gq gr gs gh gi gk gj gf zs (zr % zs) zq (zp % zq) (zh * (zp / zq) + zi) zh (zk * (zp / zq) + zj) zk _ (ic_of BXp.out IVp.out) (ic_of BXq.out IVq.out) (ic_of BXr.out IVr.out) (ic_of BXs.out IVs.out) (ic_of BXh.out IVh.out) (ic_of BXi.out IVi.out) (ic_of BXk.out IVk.out) (ic_of BXj.out IVj.out) FXf.out hdis2.out hlow2.out (by have := DW.out.size; have := hg.out; omega) (hok2.out h0.out h1.out)).mono ?_
        rintro e w9 ⟨rfl, h7, h8, hb⟩
        have H7 := Lib.hid h7; have H8 := Lib.hid h8
        have DN : Hid (Below g w w9) := DW.out.trans hb
        clear h7 h8 hb
        go_wp2
        refine bodyPost_end (v := .tuple #[]) (by simp [results, Tryz.results155, go_sem]) rfl ⟨rfl, ?_, ?_, DN.out⟩
        · unfold srch
          rw [if_neg h0.out, if_neg (show ¬ zp / zq < zr / zs by have := h1.out; omega)]
          exact H7.out
        · unfold srch
          rw [if_neg h0.out, if_neg (show ¬ zp / zq < zr / zs by have := h1.out; omega)]
          exact H8.out
end Go.Proofs.YtfigimfdojbkeaaGreat
