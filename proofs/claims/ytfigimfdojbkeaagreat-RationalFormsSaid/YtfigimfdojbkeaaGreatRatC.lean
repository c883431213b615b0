/-
  The program's functions on fractions.
-/
import Derived.Test.YtfigimfdojbkeaaGreatRatB
import Derived.Deep.DeepCutAuto
import Derived.Handy
set_option linter.unusedSimpArgs false
set_option linter.unusedVariables false
namespace Go.Proofs.YtfigimfdojbkeaaGreat
open Go.RowKit
attribute [local go_sem ↓] Go.wp_at_zero Go.wp_at_succ

set_option maxHeartbeats 8000000 in
set_option maxRecDepth 100000 in
theorem product1_any (va vb : Value) (za y1 : Int) (w : World) (ha : Iv w va za) (hb : pL1 y1 vb w) (sa : Sz za 100000) (sy1 : Sz y1 400000) : Calls Tryz.prog 96 #[va, vb] w (RetIv (za * y1) w) := by
  obtain ⟨Xa, pa, qa, rfl, _, _, _⟩ := ha.form
  have Ha := Lib.hid ha
  have SZa := Lib.hid sa
  clear ha sa
  generalize hs : decide (za < 0) = sa at *
  clear hs

  obtain ⟨gl, X1, p1, q1, rfl, hl, h1⟩ := hb
  have HL := Lib.hid hl; have HV1 := Lib.hid h1; clear hl h1
  generalize hs : decide (y1 < 0) = s1 at *
  clear hs
  replace sy1 := Lib.hid sy1
  have HGL : Hid (gl < w.heap.size) := HL.out.lt
  go_enter Tryz.func96, Tryz.ntmps96
  go_wp2_with fail
  obtain ⟨W, hW⟩ : ∃ W, W = ((w.alloc (Obj.cells #[Value.bool sa, Value.slice Xa pa qa] 29)).alloc (Obj.cells #[Value.bool false, Value.slice none 0 0] 29)) := ⟨_, rfl⟩
  rw [← hW]
  have BXa : Hid (Box W (w.heap.size) sa (.slice Xa pa qa)) := by rw [hW]; have := (Box.new w sa (Value.slice Xa pa qa)).alloc (Obj.cells #[Value.bool false, Value.slice none 0 0] 29); simpa [Hid] using this
  have RXr : Hid (Box W (w.heap.size + 1) false (.slice none 0 0)) := by rw [hW]; have := Box.new (w.alloc (Obj.cells #[Value.bool sa, Value.slice Xa pa qa] 29)) false (Value.slice none 0 0); simpa [Hid] using this
  have IVa : Hid (Iv W (.agg #[.bool sa, .slice Xa pa qa]) (za)) := by rw [hW]; exact ((Ha.out).alloc _).alloc _
  have DW : Hid (Below w.heap.size w W) := by rw [hW]; exact ((Below.refl _ _).alloc (by simp <;> omega) _).alloc (by simp <;> omega) _
  clear hW
  generalize hg : w.heap.size = g at *
  replace hg := Lib.hid hg
  replace HL := Lib.hid (HL.out.next (by have := DW.out; rw [← hg.out] at this; exact this) rfl)
  replace HV1 := Lib.hid (iv_next HV1.out (by have := DW.out; rw [← hg.out] at this; exact this : Below w.heap.size w W) rfl)
  go_wp2_with fail
  go_loopg [9] 1 (fun k v9 wr => ∃ (i : Nat) (zi : Int), i + k = 1 ∧ v9 = .int .i64 i ∧ Hid ((i = 0 → zi = za) ∧ (i = 1 → zi = za * y1)) ∧ IC wr g zi ∧ Box wr (g + 1) false (.slice none 0 0) ∧ Box wr gl s1 (.slice X1 p1 q1) ∧ Iv wr (.agg #[.bool s1, .slice X1 p1 q1]) y1 ∧ Below g w wr)
  case atStart =>
    refine ⟨0, za, rfl, rfl, ⟨fun _ => rfl, fun h => by omega⟩, ?_, RXr.out, HL.out, HV1.out, DW.out⟩
    have h1 := BXa.out
    have h2 := IVa.out
    have h3 := h2.signq
    subst h3
    exact ⟨_, _, _, h1, h2⟩
  case round =>
    clear BXa IVa RXr HL HV1 DW Ha
    obtain ⟨i, zi, hik, rfl, hz, ⟨Xa, pa, qa, hba, hia⟩, hbr, hl, hv1, hbl⟩ := hrel
    have HZ := Lib.hid hz.out
    have BXa := Lib.hid hba; have IVa := Lib.hid hia; have RXr := Lib.hid hbr; have HL := Lib.hid hl; have DW := Lib.hid hbl
    clear hz hba hia hbr hl hbl
    replace hv1 := Lib.hid hv1
    generalize hsz : decide (zi < 0) = sz at *
    replace hsz := Lib.hid hsz
    have u1 := BXa.out.cell0; have u2 := BXa.out.cell1
    by_cases h0 : gk = 0
    · obtain rfl : i = 1 := by omega
      obtain rfl : zi = za * y1 := HZ.out.2 rfl
      subst h0
      clear HZ
      have u3 := RXr.out.cell0; have u4 := RXr.out.cell1; have u5 := RXr.out.frozen 0; have u6 := RXr.out.frozen 1
      go_wp2
      refine bodyPost_ret (v := .agg #[.bool sz, .slice Xa pa qa]) (by simp [results, Tryz.results96, go_sem, u3, u4]) rfl ⟨_, rfl, ?_, by rw [hg.out]; exact (DW.out.setCell (by simp) _).setCell (by simp) _⟩
      exact iv_keep IVa.out RXr.out _
    · obtain rfl : i = 0 := by omega
      have ez : za = zi := (HZ.out.1 rfl).symm
      subst ez
      clear HZ
      have l1 := HL.out.cell0; have l2 := HL.out.cell1
      go_upto_region 4 with fail
      clear u1 u2 l1 l2
      obtain ⟨W2, hW⟩ : ∃ W2, W2 = wr.alloc (Obj.cells #[Value.bool s1, Value.slice X1 p1 q1] 29) := ⟨_, rfl⟩
      rw [← hW]
      have hd : Below wr.heap.size wr W2 := by rw [hW]; exact (Below.refl _ _).alloc (Nat.le_refl _) _
      have hn : Box W2 wr.heap.size s1 (.slice X1 p1 q1) := by rw [hW]; exact Box.new _ _ _
      clear hW
      replace BXa := nxb BXa hd rfl; replace IVa := nxv IVa hd rfl
      replace RXr := Lib.hid (RXr.out.next hd rfl)
      replace HL := Lib.hid (HL.out.next hd rfl)
      replace hv1 := Lib.hid (iv_next hv1.out hd rfl)
      replace DW := Lib.hid (link_below DW.out hd (by have := DW.out.size; have := BXa.out.lt; have := hg.out; omega) rfl rfl rfl rfl)
      generalize hgn : wr.heap.size = gn at *
      clear hd hgn
      have u1 := BXa.out.cell0; have u2 := BXa.out.cell1; have u3 := hn.cell0; have u4 := hn.cell1
      go_wp2_with fail
      clear u1 u2 u3 u4 hn
      refine (mul_any _ _ (za) (y1) _ IVa.out hv1.out (SZa.out.mono (by omega)) (sy1.out.mono (by omega))).mono ?_
      rintro e w5 ⟨_, rfl, hq, hd⟩
      obtain ⟨X9, p9, q9, rfl, _, _, _⟩ := hq.form
      replace hq := Lib.hid hq
      replace BXa := nxb BXa hd rfl
      replace RXr := Lib.hid (RXr.out.next hd rfl)
      replace HL := Lib.hid (HL.out.next hd rfl)
      replace hv1 := Lib.hid (iv_next hv1.out hd rfl)
      replace DW := Lib.hid (link_below DW.out hd (by have := DW.out.size; have := BXa.out.lt; have := hg.out; omega) rfl rfl rfl rfl)
      clear hd IVa hsz
      generalize hs9 : decide (za * y1 < 0) = s9 at *
      replace hs9 := Lib.hid hs9
      have u1 := BXa.out.cell0; have u2 := BXa.out.cell1; have u3 := BXa.out.frozen 0; have u4 := BXa.out.frozen 1
      go_wp2
      clear u1 u2 u3 u4
      go_roundg (gk - 1)
      case measure => omega
      case rel =>
        refine ⟨1, za * y1, by omega, by simp, ⟨fun h => by omega, fun _ => rfl⟩, ?_, ?_, ?_, ?_, ?_⟩
        · exact ⟨X9, p9, q9, by rw [hs9.out]; exact box_store BXa.out, by rw [hs9.out]; exact iv_keep hq.out BXa.out _⟩
        · exact (RXr.out.far (by simp) _).far (by simp) _
        · exact (HL.out.far (by have := HGL.out; simp; omega) _).far (by have := HGL.out; simp; omega) _
        · exact iv_keep hv1.out BXa.out _
        · exact (DW.out.setCell (by simp) _).setCell (by simp) _

set_option maxHeartbeats 8000000 in
set_option maxRecDepth 100000 in
theorem quotient_any (va vb : Value) (za zb q : Int) (w : World) (ha : Iv w va za) (hb : Iv w vb zb) (sa : Sz za 1000000) (sb : Sz zb 1000000) (hb0 : zb ≠ 0) (hq : za / zb = q) : Calls Tryz.prog 97 #[va, vb] w (RetIv q w) := by
  subst hq
  replace hb0 := Lib.hid hb0
  obtain ⟨Xa, pa, qa, rfl, _, _, _⟩ := ha.form
  have Ha := Lib.hid ha
  have SZa := Lib.hid sa
  clear ha sa
  generalize hs : decide (za < 0) = sa at *
  clear hs
  obtain ⟨Xb, pb, qb, rfl, _, _, _⟩ := hb.form
  have Hb := Lib.hid hb
  have SZb := Lib.hid sb
  clear hb sb
  generalize hs : decide (zb < 0) = sb at *
  clear hs

  go_enter Tryz.func97, Tryz.ntmps97
  go_wp2_with fail
  obtain ⟨W, hW⟩ : ∃ W, W = (((w.alloc (Obj.cells #[Value.bool sa, Value.slice Xa pa qa] 29)).alloc (Obj.cells #[Value.bool sb, Value.slice Xb pb qb] 29)).alloc (Obj.cells #[Value.bool false, Value.slice none 0 0] 29)) := ⟨_, rfl⟩
  rw [← hW]
  have BXa : Hid (Box W (w.heap.size) sa (.slice Xa pa qa)) := by rw [hW]; have := ((Box.new w sa (Value.slice Xa pa qa)).alloc (Obj.cells #[Value.bool sb, Value.slice Xb pb qb] 29)).alloc (Obj.cells #[Value.bool false, Value.slice none 0 0] 29); simpa [Hid] using this
  have BXb : Hid (Box W (w.heap.size + 1) sb (.slice Xb pb qb)) := by rw [hW]; have := (Box.new (w.alloc (Obj.cells #[Value.bool sa, Value.slice Xa pa qa] 29)) sb (Value.slice Xb pb qb)).alloc (Obj.cells #[Value.bool false, Value.slice none 0 0] 29); simpa [Hid] using this
  have RXr : Hid (Box W (w.heap.size + 1 + 1) false (.slice none 0 0)) := by rw [hW]; have := Box.new ((w.alloc (Obj.cells #[Value.bool sa, Value.slice Xa pa qa] 29)).alloc (Obj.cells #[Value.bool sb, Value.slice Xb pb qb] 29)) false (Value.slice none 0 0); simpa [Hid] using this
  have IVa : Hid (Iv W (.agg #[.bool sa, .slice Xa pa qa]) (za)) := by rw [hW]; exact (((Ha.out).alloc _).alloc _).alloc _
  have IVb : Hid (Iv W (.agg #[.bool sb, .slice Xb pb qb]) (zb)) := by rw [hW]; exact (((Hb.out).alloc _).alloc _).alloc _
  have DW : Hid (Below w.heap.size w W) := by rw [hW]; exact (((Below.refl _ _).alloc (by simp <;> omega) _).alloc (by simp <;> omega) _).alloc (by simp <;> omega) _
  clear hW
  generalize hg : w.heap.size = g at *
  replace hg := Lib.hid hg
  have u1a := BXa.out.cell0; have u1b := BXa.out.cell1
  have u2a := BXb.out.cell0; have u2b := BXb.out.cell1
  go_wp2_with fail
  clear u1a u1b u2a u2b
  refine (divMod_any _ _ za zb _ IVa.out IVb.out SZa.out SZb.out hb0.out).mono ?_
  rintro e y3 ⟨_, _, rfl, hq0, hq1, hb⟩
  obtain ⟨Xu, pu, qu, rfl, _, _, _⟩ := hq0.form
  have Qu := Lib.hid hq0; clear hq0
  obtain ⟨Xv, pv, qv, rfl, _, _, _⟩ := hq1.form
  have Qv := Lib.hid hq1; clear hq1
  have B := Lib.hid hb; clear hb
  generalize hs : decide ((za / zb : Int) < 0) = su at *
  clear hs
  generalize hs : decide ((za % zb : Int) < 0) = sv at *
  clear hs
  go_upto_region 2 with fail
  obtain ⟨W4, hW⟩ : ∃ W4, W4 = ((y3.alloc (Obj.cells #[Value.bool su, Value.slice Xu pu qu] 29)).alloc (Obj.cells #[Value.bool sv, Value.slice Xv pv qv] 29)) := ⟨_, rfl⟩
  rw [← hW]
  have BXu : Hid (Box W4 (y3.heap.size) su (.slice Xu pu qu)) := by rw [hW]; have := (Box.new y3 su (.slice Xu pu qu)).alloc (Obj.cells #[Value.bool sv, Value.slice Xv pv qv] 29); simpa [Hid] using this
  have IVu : Hid (Iv W4 (.agg #[.bool su, .slice Xu pu qu]) (za / zb)) := by rw [hW]; exact ((Qu.out).alloc _).alloc _
  have BXv : Hid (Box W4 (y3.heap.size + 1) sv (.slice Xv pv qv)) := by rw [hW]; have := Box.new (y3.alloc (Obj.cells #[Value.bool su, Value.slice Xu pu qu] 29)) sv (.slice Xv pv qv); simpa [Hid] using this
  have IVv : Hid (Iv W4 (.agg #[.bool sv, .slice Xv pv qv]) (za % zb)) := by rw [hW]; exact ((Qv.out).alloc _).alloc _
  have hd : Below W.heap.size W W4 := by rw [hW]; exact ((B.out).alloc (by have := B.out.size; simp <;> omega) _).alloc (by have := B.out.size; simp <;> omega) _
  have NEvr : Hid ((y3.heap.size + 1) ≠ (g + 1 + 1)) := by have := RXr.out.lt; have := B.out.size; unfold Hid; omega
  have NEur : Hid ((y3.heap.size) ≠ (g + 1 + 1)) := by have := RXr.out.lt; have := B.out.size; unfold Hid; omega
  clear hW B Qu Qv
  generalize hgn4 : y3.heap.size + 1 = gv at *
  clear hgn4
  generalize hgn4 : y3.heap.size = gu at *
  clear hgn4
  replace BXa := nxb BXa hd rfl; replace IVa := nxv IVa hd rfl
  replace BXb := nxb BXb hd rfl; replace IVb := nxv IVb hd rfl
  replace RXr := Lib.hid (RXr.out.next hd rfl)
  replace DW := nxd DW hg hd rfl rfl rfl rfl
  clear hd
  have u5a := BXu.out.cell0; have u5b := BXu.out.cell1
  have u6a := RXr.out.cell0; have u6b := RXr.out.cell1; have u6f := RXr.out.frozen 0; have u6g := RXr.out.frozen 1
  go_wp2
  have hz := IVu.out.signq
  refine bodyPost_ret (v := .agg #[.bool su, .slice Xu pu qu]) (by simp [results, Tryz.results97, go_sem, u5a, u5b, u6a, u6b, u6f, u6g]) rfl ⟨_, rfl, ?_, by rw [hg.out]; exact (DW.out.setCell (by simp; omega) _).setCell (by simp; omega) _⟩
  exact iv_keep IVu.out RXr.out _

end Go.Proofs.YtfigimfdojbkeaaGreat

