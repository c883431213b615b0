/-
  The program's functions on fractions.
-/
import Derived.Test.YtfigimfdojbkeaaRatB
import Derived.Deep.DeepCutAuto
import Derived.Handy
set_option linter.unusedSimpArgs false
set_option linter.unusedVariables false
namespace Go.Proofs.Ytfigimfdojbkeaa
open Go.RowKit
attribute [local go_sem ↓] Go.wp_at_zero Go.wp_at_succ

set_option maxHeartbeats 8000000 in
set_option maxRecDepth 100000 in
theorem product1_any (va vb : Value) (za y1 : Int) (w : World) (ha : Iv w va za) (hb : pL1 y1 vb w) (sa : Sz za 100000) (sy1 : Sz y1 400000) : Calls Try.prog 198 #[va, vb] w (RetIv (za * y1) w) := by
  obtain ⟨Xa, pa, qa, rfl, _, _, _⟩ := ha.form
  have Ha := Lib.hid ha
  have SZa := Lib.hid sa
  clear ha sa
  generalize hs : decide (za < 0) = sa at *
  clear hs

  obtain ⟨gl, X1, p1, q1, rfl, hl, h1⟩ := hb
  have HL := Lib.hid hl; have HV1 := Lib.hid h1; clear hl h1
  generalize hs : decide (y1 < 0) = s1 at *
  clear hs
  replace sy1 := Lib.hid sy1
  have HGL : Hid (gl < w.heap.size) := HL.out.lt
  go_enter Try.func198, Try.ntmps198
  go_wp2_with fail
  obtain ⟨W, hW⟩ : ∃ W, W = ((w.alloc (Obj.cells #[Value.bool sa, Value.slice Xa pa qa] 27)).alloc (Obj.cells #[Value.bool false, Value.slice none 0 0] 27)) := ⟨_, rfl⟩
  rw [← hW]
  have BXa : Hid (Box W (w.heap.size) sa (.slice Xa pa qa)) := by rw [hW]; have := (Box.new w sa (Value.slice Xa pa qa)).alloc (Obj.cells #[Value.bool false, Value.slice none 0 0] 27); simpa [Hid] using this
  have RXr : Hid (Box W (w.heap.size + 1) false (.slice none 0 0)) := by rw [hW]; have := Box.new (w.alloc (Obj.cells #[Value.bool sa, Value.slice Xa pa qa] 27)) false (Value.slice none 0 0); simpa [Hid] using this
  have IVa : Hid (Iv W (.agg #[.bool sa, .slice Xa pa qa]) (za)) := by rw [hW]; exact ((Ha.out).alloc _).alloc _
  have DW : Hid (Below w.heap.size w W) := by rw [hW]; exact ((Below.refl _ _).alloc (by simp <;> omega) _).alloc (by simp <;> omega) _
  clear hW
  generalize hg : w.heap.size = g at *
  replace hg := Lib.hid hg
  replace HL := Lib.hid (HL.out.next (by have := DW.out; rw [← hg.out] at this; exact this) rfl)
  replace HV1 := Lib.hid (iv_next HV1.out (by have := DW.out; rw [← hg.out] at this; exact this : Below w.heap.size w W) rfl)
  go_wp2_with fail
  go_loopg [9] 1 (fun k v9 wr => ∃ (i : Nat) (zi : Int), i + k = 1 ∧ v9 = .int .i64 i ∧ Hid ((i = 0 → zi = za) ∧ (i = 1 → zi = za * y1)) ∧ IC wr g zi ∧ Box wr (g + 1) false (.slice none 0 0) ∧ Box wr gl s1 (.slice X1 p1 q1) ∧ Iv wr (.agg #[.bool s1, .slice X1 p1 q1]) y1 ∧ Below g w wr)
  case atStart =>
    refine ⟨0, za, rfl, rfl, ⟨fun _ => rfl, fun h => by omega⟩, ?_, RXr.out, HL.out, HV1.out, DW.out⟩
    have h1 := BXa.out
    have h2 := IVa.out
    have h3 := h2.signq
    subst h3
    exact ⟨_, _, _, h1, h2⟩
  case round =>
    clear BXa IVa RXr HL HV1 DW Ha
    obtain ⟨i, zi, hik, rfl, hz, ⟨Xa, pa, qa, hba, hia⟩, hbr, hl, hv1, hbl⟩ := hrel
    have HZ := Lib.hid hz.out
    have BXa := Lib.hid hba; have IVa := Lib.hid hia; have RXr := Lib.hid hbr; have HL := Lib.hid hl; have DW := Lib.hid hbl
    clear hz hba hia hbr hl hbl
    replace hv1 := Lib.hid hv1
    generalize hsz : decide (zi < 0) = sz at *
    replace hsz := Lib.hid hsz
    have u1 := BXa.out.cell0; have u2 := BXa.out.cell1
    by_cases h0 : gk = 0
    · obtain rfl : i = 1 := by omega
      obtain rfl : zi = za * y1 := HZ.out.2 rfl
      subst h0
      clear HZ
      have u3 := RXr.out.cell0; have u4 := RXr.out.cell1; have u5 := RXr.out.frozen 0; have u6 := RXr.out.frozen 1
      go_wp2
      refine bodyPost_ret (v := .agg #[.bool sz, .slice Xa pa qa]) (by simp [results, Try.results198, go_sem, u3, u4]) rfl ⟨_, rfl, ?_, by rw [hg.out]; exact (DW.out.setCell (by simp) _).setCell (by simp) _⟩
      exact iv_keep IVa.out RXr.out _
    · obtain rfl : i = 0 := by omega
      have ez : za = zi := (HZ.out.1 rfl).symm
      subst ez
      clear HZ
      have l1 := HL.out.cell0; have l2 := HL.out.cell1
      go_upto_region 4 with fail
      clear u1 u2 l1 l2
      obtain ⟨W2, hW⟩ : ∃ W2, W2 = wr.alloc (Obj.cells #[Value.bool s1, Value.slice X1 p1 q1] 27) := ⟨_, rfl⟩
      rw [← hW]
      have hd : Below wr.heap.size wr W2 := by rw [hW]; exact (Below.refl _ _).alloc (Nat.le_refl _) _
      have hn : Box W2 wr.heap.size s1 (.slice X1 p1 q1) := by rw [hW]; exact Box.new _ _ _
      clear hW
      replace BXa := nxb BXa hd rfl; replace IVa := nxv IVa hd rfl
      replace RXr := Lib.hid (RXr.out.next hd rfl)
      replace HL := Lib.hid (HL.out.next hd rfl)
      replace hv1 := Lib.hid (iv_next hv1.out hd rfl)
      replace DW := Lib.hid (link_below DW.out hd (by have := DW.out.size; have := BXa.out.lt; have := hg.out; omega) rfl rfl rfl rfl)
      generalize hgn : wr.heap.size = gn at *
      clear hd hgn
      have u1 := BXa.out.cell0; have u2 := BXa.out.cell1; have u3 := hn.cell0; have u4 := hn.cell1
      go_wp2_with fail
      clear u1 u2 u3 u4 hn
      refine (mul_any _ _ (za) (y1) _ IVa.out hv1.out (SZa.out.mono (by omega)) (sy1.out.mono (by omega))).mono ?_
      rintro e w5 ⟨_, rfl, hq, hd⟩
      obtain ⟨X9, p9, q9, rfl, _, _, _⟩ := hq.form
      replace hq := Lib.hid hq
      replace BXa := nxb BXa hd rfl
      replace RXr := Lib.hid (RXr.out.next hd rfl)
      replace HL := Lib.hid (HL.out.next hd rfl)
      replace hv1 := Lib.hid (iv_next hv1.out hd rfl)
      replace DW := Lib.hid (link_below DW.out hd (by have := DW.out.size; have := BXa.out.lt; have := hg.out; omega) rfl rfl rfl rfl)
      clear hd IVa hsz
      generalize hs9 : decide (za * y1 < 0) = s9 at *
      replace hs9 := Lib.hid hs9
      have u1 := BXa.out.cell0; have u2 := BXa.out.cell1; have u3 := BXa.out.frozen 0; have u4 := BXa.out.frozen 1
      go_wp2
      clear u1 u2 u3 u4
      go_roundg (gk - 1)
      case measure => omega
      case rel =>
        refine ⟨1, za * y1, by omega, by simp, ⟨fun h => by omega, fun _ => rfl⟩, ?_, ?_, ?_, ?_, ?_⟩
        · exact ⟨X9, p9, q9, by rw [hs9.out]; exact box_store BXa.out, by rw [hs9.out]; exact iv_keep hq.out BXa.out _⟩
        · exact (RXr.out.far (by simp) _).far (by simp) _
        · exact (HL.out.far (by have := HGL.out; simp; omega) _).far (by have := HGL.out; simp; omega) _
        · exact iv_keep hv1.out BXa.out _
        · exact (DW.out.setCell (by simp) _).setCell (by simp) _

set_option maxHeartbeats 8000000 in
set_option maxRecDepth 100000 in
theorem product2_any (va vb : Value) (za y1 y2 : Int) (w : World) (ha : Iv w va za) (hb : pL2 y1 y2 vb w) (sa : Sz za 100000) (sy1 : Sz y1 400000) (sy2 : Sz y2 400000) : Calls Try.prog 198 #[va, vb] w (RetIv (za * y1 * y2) w) := by
  obtain ⟨Xa, pa, qa, rfl, _, _, _⟩ := ha.form
  have Ha := Lib.hid ha
  have SZa := Lib.hid sa
  clear ha sa
  generalize hs : decide (za < 0) = sa at *
  clear hs

  obtain ⟨gl, X1, p1, q1, X2, p2, q2, rfl, hl, h1, h2⟩ := hb
  have HL := Lib.hid hl; have HV1 := Lib.hid h1; have HV2 := Lib.hid h2; clear hl h1 h2
  generalize hs : decide (y1 < 0) = s1 at *
  clear hs
  generalize hs : decide (y2 < 0) = s2 at *
  clear hs
  replace sy1 := Lib.hid sy1
  replace sy2 := Lib.hid sy2
  have SP : Hid (Sz (za * y1) 500000) := SZa.out.mul sy1.out
  have HGL : Hid (gl < w.heap.size) := HL.out.lt
  go_enter Try.func198, Try.ntmps198
  go_wp2_with fail
  obtain ⟨W, hW⟩ : ∃ W, W = ((w.alloc (Obj.cells #[Value.bool sa, Value.slice Xa pa qa] 27)).alloc (Obj.cells #[Value.bool false, Value.slice none 0 0] 27)) := ⟨_, rfl⟩
  rw [← hW]
  have BXa : Hid (Box W (w.heap.size) sa (.slice Xa pa qa)) := by rw [hW]; have := (Box.new w sa (Value.slice Xa pa qa)).alloc (Obj.cells #[Value.bool false, Value.slice none 0 0] 27); simpa [Hid] using this
  have RXr : Hid (Box W (w.heap.size + 1) false (.slice none 0 0)) := by rw [hW]; have := Box.new (w.alloc (Obj.cells #[Value.bool sa, Value.slice Xa pa qa] 27)) false (Value.slice none 0 0); simpa [Hid] using this
  have IVa : Hid (Iv W (.agg #[.bool sa, .slice Xa pa qa]) (za)) := by rw [hW]; exact ((Ha.out).alloc _).alloc _
  have DW : Hid (Below w.heap.size w W) := by rw [hW]; exact ((Below.refl _ _).alloc (by simp <;> omega) _).alloc (by simp <;> omega) _
  clear hW
  generalize hg : w.heap.size = g at *
  replace hg := Lib.hid hg
  replace HL := Lib.hid (HL.out.next (by have := DW.out; rw [← hg.out] at this; exact this) rfl)
  replace HV1 := Lib.hid (iv_next HV1.out (by have := DW.out; rw [← hg.out] at this; exact this : Below w.heap.size w W) rfl)
  replace HV2 := Lib.hid (iv_next HV2.out (by have := DW.out; rw [← hg.out] at this; exact this : Below w.heap.size w W) rfl)
  go_wp2_with fail
  go_loopg [9] 2 (fun k v9 wr => ∃ (i : Nat) (zi : Int), i + k = 2 ∧ v9 = .int .i64 i ∧ Hid ((i = 0 → zi = za) ∧ (i = 1 → zi = za * y1) ∧ (i = 2 → zi = za * y1 * y2)) ∧ IC wr g zi ∧ Box wr (g + 1) false (.slice none 0 0) ∧ TBox wr gl s1 (.slice X1 p1 q1) s2 (.slice X2 p2 q2) ∧ Iv wr (.agg #[.bool s1, .slice X1 p1 q1]) y1 ∧ Iv wr (.agg #[.bool s2, .slice X2 p2 q2]) y2 ∧ Below g w wr)
  case atStart =>
    refine ⟨0, za, rfl, rfl, ⟨fun _ => rfl, fun h => by omega, fun h => by omega⟩, ?_, RXr.out, HL.out, HV1.out, HV2.out, DW.out⟩
    have h1 := BXa.out
    have h2 := IVa.out
    have h3 := h2.signq
    subst h3
    exact ⟨_, _, _, h1, h2⟩
  case round =>
    clear BXa IVa RXr HL HV1 HV2 DW Ha
    obtain ⟨i, zi, hik, rfl, hz, ⟨Xa, pa, qa, hba, hia⟩, hbr, hl, hv1, hv2, hbl⟩ := hrel
    have HZ := Lib.hid hz.out
    have BXa := Lib.hid hba; have IVa := Lib.hid hia; have RXr := Lib.hid hbr; have HL := Lib.hid hl; have DW := Lib.hid hbl
    clear hz hba hia hbr hl hbl
    replace hv1 := Lib.hid hv1; replace hv2 := Lib.hid hv2
    generalize hsz : decide (zi < 0) = sz at *
    replace hsz := Lib.hid hsz
    have u1 := BXa.out.cell0; have u2 := BXa.out.cell1
    by_cases h0 : gk = 0
    · obtain rfl : i = 2 := by omega
      obtain rfl : zi = za * y1 * y2 := HZ.out.2.2 rfl
      subst h0
      clear HZ
      have u3 := RXr.out.cell0; have u4 := RXr.out.cell1; have u5 := RXr.out.frozen 0; have u6 := RXr.out.frozen 1
      go_wp2
      refine bodyPost_ret (v := .agg #[.bool sz, .slice Xa pa qa]) (by simp [results, Try.results198, go_sem, u3, u4]) rfl ⟨_, rfl, ?_, by rw [hg.out]; exact (DW.out.setCell (by simp) _).setCell (by simp) _⟩
      exact iv_keep IVa.out RXr.out _
    · rcases (show i = 0 ∨ i = 1 by omega) with rfl | rfl
      · skip
        have ez : za = zi := (HZ.out.1 rfl).symm
        subst ez
        clear HZ
        have l1 := HL.out.cell0; have l2 := HL.out.cell1
        go_upto_region 4 with fail
        clear u1 u2 l1 l2
        obtain ⟨W2, hW⟩ : ∃ W2, W2 = wr.alloc (Obj.cells #[Value.bool s1, Value.slice X1 p1 q1] 27) := ⟨_, rfl⟩
        rw [← hW]
        have hd : Below wr.heap.size wr W2 := by rw [hW]; exact (Below.refl _ _).alloc (Nat.le_refl _) _
        have hn : Box W2 wr.heap.size s1 (.slice X1 p1 q1) := by rw [hW]; exact Box.new _ _ _
        clear hW
        replace BXa := nxb BXa hd rfl; replace IVa := nxv IVa hd rfl
        replace RXr := Lib.hid (RXr.out.next hd rfl)
        replace HL := Lib.hid (HL.out.next hd rfl)
        replace hv1 := Lib.hid (iv_next hv1.out hd rfl); replace hv2 := Lib.hid (iv_next hv2.out hd rfl)
        replace DW := Lib.hid (link_below DW.out hd (by have := DW.out.size; have := BXa.out.lt; have := hg.out; omega) rfl rfl rfl rfl)
        generalize hgn : wr.heap.size = gn at *
        clear hd hgn
        have u1 := BXa.out.cell0; have u2 := BXa.out.cell1; have u3 := hn.cell0; have u4 := hn.cell1
        go_wp2_with fail
        clear u1 u2 u3 u4 hn
        refine (mul_any _ _ (za) (y1) _ IVa.out hv1.out (SZa.out.mono (by omega)) (sy1.out.mono (by omega))).mono ?_
        rintro e w5 ⟨_, rfl, hq, hd⟩
        obtain ⟨X9, p9, q9, rfl, _, _, _⟩ := hq.form
        replace hq := Lib.hid hq
        replace BXa := nxb BXa hd rfl
        replace RXr := Lib.hid (RXr.out.next hd rfl)
        replace HL := Lib.hid (HL.out.next hd rfl)
        replace hv1 := Lib.hid (iv_next hv1.out hd rfl); replace hv2 := Lib.hid (iv_next hv2.out hd rfl)
        replace DW := Lib.hid (link_below DW.out hd (by have := DW.out.size; have := BXa.out.lt; have := hg.out; omega) rfl rfl rfl rfl)
        clear hd IVa hsz
        generalize hs9 : decide (za * y1 < 0) = s9 at *
        replace hs9 := Lib.hid hs9
        have u1 := BXa.out.cell0; have u2 := BXa.out.cell1; have u3 := BXa.out.frozen 0; have u4 := BXa.out.frozen 1
        go_wp2
        clear u1 u2 u3 u4
        go_roundg (gk - 1)
        case measure => omega
        case rel =>
          refine ⟨1, za * y1, by omega, by simp, ⟨fun h => by omega, fun _ => rfl, fun h => by omega⟩, ?_, ?_, ?_, ?_, ?_, ?_⟩
          · exact ⟨X9, p9, q9, by rw [hs9.out]; exact box_store BXa.out, by rw [hs9.out]; exact iv_keep hq.out BXa.out _⟩
          · exact (RXr.out.far (by simp) _).far (by simp) _
          · exact (HL.out.far (by have := HGL.out; simp; omega) _).far (by have := HGL.out; simp; omega) _
          · exact iv_keep hv1.out BXa.out _
          · exact iv_keep hv2.out BXa.out _
          · exact (DW.out.setCell (by simp) _).setCell (by simp) _
      · skip
        have ez : za * y1 = zi := (HZ.out.2.1 rfl).symm
        subst ez
        clear HZ
        have l1 := HL.out.cell2; have l2 := HL.out.cell3
        go_upto_region 4 with fail
        clear u1 u2 l1 l2
        obtain ⟨W2, hW⟩ : ∃ W2, W2 = wr.alloc (Obj.cells #[Value.bool s2, Value.slice X2 p2 q2] 27) := ⟨_, rfl⟩
        rw [← hW]
        have hd : Below wr.heap.size wr W2 := by rw [hW]; exact (Below.refl _ _).alloc (Nat.le_refl _) _
        have hn : Box W2 wr.heap.size s2 (.slice X2 p2 q2) := by rw [hW]; exact Box.new _ _ _
        clear hW
        replace BXa := nxb BXa hd rfl; replace IVa := nxv IVa hd rfl
        replace RXr := Lib.hid (RXr.out.next hd rfl)
        replace HL := Lib.hid (HL.out.next hd rfl)
        replace hv1 := Lib.hid (iv_next hv1.out hd rfl); replace hv2 := Lib.hid (iv_next hv2.out hd rfl)
        replace DW := Lib.hid (link_below DW.out hd (by have := DW.out.size; have := BXa.out.lt; have := hg.out; omega) rfl rfl rfl rfl)
        generalize hgn : wr.heap.size = gn at *
        clear hd hgn
        have u1 := BXa.out.cell0; have u2 := BXa.out.cell1; have u3 := hn.cell0; have u4 := hn.cell1
        go_wp2_with fail
        clear u1 u2 u3 u4 hn
        refine (mul_any _ _ (za * y1) (y2) _ IVa.out hv2.out (SP.out.mono (by omega)) (sy2.out.mono (by omega))).mono ?_
        rintro e w5 ⟨_, rfl, hq, hd⟩
        obtain ⟨X9, p9, q9, rfl, _, _, _⟩ := hq.form
        replace hq := Lib.hid hq
        replace BXa := nxb BXa hd rfl
        replace RXr := Lib.hid (RXr.out.next hd rfl)
        replace HL := Lib.hid (HL.out.next hd rfl)
        replace hv1 := Lib.hid (iv_next hv1.out hd rfl); replace hv2 := Lib.hid (iv_next hv2.out hd rfl)
        replace DW := Lib.hid (link_below DW.out hd (by have := DW.out.size; have := BXa.out.lt; have := hg.out; omega) rfl rfl rfl rfl)
        clear hd IVa hsz
        generalize hs9 : decide (za * y1 * y2 < 0) = s9 at *
        replace hs9 := Lib.hid hs9
        have u1 := BXa.out.cell0; have u2 := BXa.out.cell1; have u3 := BXa.out.frozen 0; have u4 := BXa.out.frozen 1
        go_wp2
        clear u1 u2 u3 u4
        go_roundg (gk - 1)
        case measure => omega
        case rel =>
          refine ⟨2, za * y1 * y2, by omega, by simp, ⟨fun h => by omega, fun h => by omega, fun _ => rfl⟩, ?_, ?_, ?_, ?_, ?_, ?_⟩
          · exact ⟨X9, p9, q9, by rw [hs9.out]; exact box_store BXa.out, by rw [hs9.out]; exact iv_keep hq.out BXa.out _⟩
          · exact (RXr.out.far (by simp) _).far (by simp) _
          · exact (HL.out.far (by have := HGL.out; simp; omega) _).far (by have := HGL.out; simp; omega) _
          · exact iv_keep hv1.out BXa.out _
          · exact iv_keep hv2.out BXa.out _
          · exact (DW.out.setCell (by simp) _).setCell (by simp) _

set_option maxHeartbeats 8000000 in
set_option maxRecDepth 100000 in
theorem quotient_any (va vb : Value) (za zb q : Int) (w : World) (ha : Iv w va za) (hb : Iv w vb zb) (sa : Sz za 1000000) (sb : Sz zb 1000000) (hb0 : zb ≠ 0) (hq : za / zb = q) : Calls Try.prog 206 #[va, vb] w (RetIv q w) := by
  subst hq
  replace hb0 := Lib.hid hb0
  obtain ⟨Xa, pa, qa, rfl, _, _, _⟩ := ha.form
  have Ha := Lib.hid ha
  have SZa := Lib.hid sa
  clear ha sa
  generalize hs : decide (za < 0) = sa at *
  clear hs
  obtain ⟨Xb, pb, qb, rfl, _, _, _⟩ := hb.form
  have Hb := Lib.hid hb
  have SZb := Lib.hid sb
  clear hb sb
  generalize hs : decide (zb < 0) = sb at *
  clear hs

  go_enter Try.func206, Try.ntmps206
  go_wp2_with fail
  obtain ⟨W, hW⟩ : ∃ W, W = (((w.alloc (Obj.cells #[Value.bool sa, Value.slice Xa pa qa] 27)).alloc (Obj.cells #[Value.bool sb, Value.slice Xb pb qb] 27)).alloc (Obj.cells #[Value.bool false, Value.slice none 0 0] 27)) := ⟨_, rfl⟩
  rw [← hW]
  have BXa : Hid (Box W (w.heap.size) sa (.slice Xa pa qa)) := by rw [hW]; have := ((Box.new w sa (Value.slice Xa pa qa)).alloc (Obj.cells #[Value.bool sb, Value.slice Xb pb qb] 27)).alloc (Obj.cells #[Value.bool false, Value.slice none 0 0] 27); simpa [Hid] using this
  have BXb : Hid (Box W (w.heap.size + 1) sb (.slice Xb pb qb)) := by rw [hW]; have := (Box.new (w.alloc (Obj.cells #[Value.bool sa, Value.slice Xa pa qa] 27)) sb (Value.slice Xb pb qb)).alloc (Obj.cells #[Value.bool false, Value.slice none 0 0] 27); simpa [Hid] using this
  have RXr : Hid (Box W (w.heap.size + 1 + 1) false (.slice none 0 0)) := by rw [hW]; have := Box.new ((w.alloc (Obj.cells #[Value.bool sa, Value.slice Xa pa qa] 27)).alloc (Obj.cells #[Value.bool sb, Value.slice Xb pb qb] 27)) false (Value.slice none 0 0); simpa [Hid] using this
  have IVa : Hid (Iv W (.agg #[.bool sa, .slice Xa pa qa]) (za)) := by rw [hW]; exact (((Ha.out).alloc _).alloc _).alloc _
  have IVb : Hid (Iv W (.agg #[.bool sb, .slice Xb pb qb]) (zb)) := by rw [hW]; exact (((Hb.out).alloc _).alloc _).alloc _
  have DW : Hid (Below w.heap.size w W) := by rw [hW]; exact (((Below.refl _ _).alloc (by simp <;> omega) _).alloc (by simp <;> omega) _).alloc (by simp <;> omega) _
  clear hW
  generalize hg : w.heap.size = g at *
  replace hg := Lib.hid hg
  have u1a := BXa.out.cell0; have u1b := BXa.out.cell1
  have u2a := BXb.out.cell0; have u2b := BXb.out.cell1
  go_wp2_with fail
  clear u1a u1b u2a u2b
  refine (divMod_any _ _ za zb _ IVa.out IVb.out SZa.out SZb.out hb0.out).mono ?_
  rintro e y3 ⟨_, _, rfl, hq0, hq1, hb⟩
  obtain ⟨Xu, pu, qu, rfl, _, _, _⟩ := hq0.form
  have Qu := Lib.hid hq0; clear hq0
  obtain ⟨Xv, pv, qv, rfl, _, _, _⟩ := hq1.form
  have Qv := Lib.hid hq1; clear hq1
  have B := Lib.hid hb; clear hb
  generalize hs : decide ((za / zb : Int) < 0) = su at *
  clear hs
  generalize hs : decide ((za % zb : Int) < 0) = sv at *
  clear hs
  go_upto_region 2 with fail
  obtain ⟨W4, hW⟩ : ∃ W4, W4 = ((y3.alloc (Obj.cells #[Value.bool su, Value.slice Xu pu qu] 27)).alloc (Obj.cells #[Value.bool sv, Value.slice Xv pv qv] 27)) := ⟨_, rfl⟩
  rw [← hW]
  have BXu : Hid (Box W4 (y3.heap.size) su (.slice Xu pu qu)) := by rw [hW]; have := (Box.new y3 su (.slice Xu pu qu)).alloc (Obj.cells #[Value.bool sv, Value.slice Xv pv qv] 27); simpa [Hid] using this
  have IVu : Hid (Iv W4 (.agg #[.bool su, .slice Xu pu qu]) (za / zb)) := by rw [hW]; exact ((Qu.out).alloc _).alloc _
  have BXv : Hid (Box W4 (y3.heap.size + 1) sv (.slice Xv pv qv)) := by rw [hW]; have := Box.new (y3.alloc (Obj.cells #[Value.bool su, Value.slice Xu pu qu] 27)) sv (.slice Xv pv qv); simpa [Hid] using this
  have IVv : Hid (Iv W4 (.agg #[.bool sv, .slice Xv pv qv]) (za % zb)) := by rw [hW]; exact ((Qv.out).alloc _).alloc _
  have hd : Below W.heap.size W W4 := by rw [hW]; exact ((B.out).alloc (by have := B.out.size; simp <;> omega) _).alloc (by have := B.out.size; simp <;> omega) _
  have NEvr : Hid ((y3.heap.size + 1) ≠ (g + 1 + 1)) := by have := RXr.out.lt; have := B.out.size; unfold Hid; omega
  have NEur : Hid ((y3.heap.size) ≠ (g + 1 + 1)) := by have := RXr.out.lt; have := B.out.size; unfold Hid; omega
  clear hW B Qu Qv
  generalize hgn4 : y3.heap.size + 1 = gv at *
  clear hgn4
  generalize hgn4 : y3.heap.size = gu at *
  clear hgn4
  replace BXa := nxb BXa hd rfl; replace IVa := nxv IVa hd rfl
  replace BXb := nxb BXb hd rfl; replace IVb := nxv IVb hd rfl
  replace RXr := Lib.hid (RXr.out.next hd rfl)
  replace DW := nxd DW hg hd rfl rfl rfl rfl
  clear hd
  have u5a := BXu.out.cell0; have u5b := BXu.out.cell1
  have u6a := RXr.out.cell0; have u6b := RXr.out.cell1; have u6f := RXr.out.frozen 0; have u6g := RXr.out.frozen 1
  go_wp2
  have hz := IVu.out.signq
  refine bodyPost_ret (v := .agg #[.bool su, .slice Xu pu qu]) (by simp [results, Try.results206, go_sem, u5a, u5b, u6a, u6b, u6f, u6g]) rfl ⟨_, rfl, ?_, by rw [hg.out]; exact (DW.out.setCell (by simp; omega) _).setCell (by simp; omega) _⟩
  exact iv_keep IVu.out RXr.out _

set_option maxHeartbeats 8000000 in
set_option maxRecDepth 100000 in
theorem lowest_any (va vb : Value) (za zb : Int) (w : World) (ha : Iv w va za) (hb : Iv w vb zb) (sa : Sz za 500000) (sb : Sz zb 400000) (hb0 : zb ≠ 0) : Calls Try.prog 197 #[va, vb] w fun e w' => ∃ v u, e = .returned (.tuple #[v, u]) ∧ Iv w' v (za / (Nat.gcd za.natAbs zb.natAbs : Nat)) ∧ Iv w' u (zb / (Nat.gcd za.natAbs zb.natAbs : Nat)) ∧ Below w.heap.size w w' := by
  obtain ⟨Xa, pa, qa, rfl, _, _, _⟩ := ha.form
  have Ha := Lib.hid ha
  have SZa := Lib.hid sa
  clear ha sa
  generalize hs : decide (za < 0) = sa at *
  clear hs
  obtain ⟨Xb, pb, qb, rfl, _, _, _⟩ := hb.form
  have Hb := Lib.hid hb
  have SZb := Lib.hid sb
  clear hb sb
  generalize hs : decide (zb < 0) = sb at *
  clear hs

  obtain ⟨G, hG⟩ : ∃ G : Int, ((Nat.gcd za.natAbs zb.natAbs : Nat) : Int) = G := ⟨_, rfl⟩
  have hGp : 0 < Nat.gcd za.natAbs zb.natAbs := Nat.gcd_pos_of_pos_right _ (by omega)
  have hGl : Nat.gcd za.natAbs zb.natAbs ≤ zb.natAbs := Nat.gcd_le_right _ (by omega)
  have SZG : Hid (Sz G 400000) := by
    refine ⟨?_⟩
    rw [← hG, Int.natAbs_natCast]
    exact Nat.lt_of_le_of_lt hGl SZb.out.lt
  have HG0 : Hid (G ≠ 0) := by unfold Hid; omega
  have HG := Lib.hid hG
  clear hGp hGl hb0
  rw [hG]
  clear hG
  go_enter Try.func197, Try.ntmps197
  go_wp2_with fail
  obtain ⟨W, hW⟩ : ∃ W, W = ((((w.alloc (Obj.cells #[Value.bool sa, Value.slice Xa pa qa] 27)).alloc (Obj.cells #[Value.bool sb, Value.slice Xb pb qb] 27)).alloc (Obj.cells #[Value.bool false, Value.slice none 0 0] 27)).alloc (Obj.cells #[Value.bool false, Value.slice none 0 0] 27)) := ⟨_, rfl⟩
  rw [← hW]
  have BXa : Hid (Box W (w.heap.size) sa (.slice Xa pa qa)) := by rw [hW]; have := (((Box.new w sa (Value.slice Xa pa qa)).alloc (Obj.cells #[Value.bool sb, Value.slice Xb pb qb] 27)).alloc (Obj.cells #[Value.bool false, Value.slice none 0 0] 27)).alloc (Obj.cells #[Value.bool false, Value.slice none 0 0] 27); simpa [Hid] using this
  have BXb : Hid (Box W (w.heap.size + 1) sb (.slice Xb pb qb)) := by rw [hW]; have := ((Box.new (w.alloc (Obj.cells #[Value.bool sa, Value.slice Xa pa qa] 27)) sb (Value.slice Xb pb qb)).alloc (Obj.cells #[Value.bool false, Value.slice none 0 0] 27)).alloc (Obj.cells #[Value.bool false, Value.slice none 0 0] 27); simpa [Hid] using this
  have RXr : Hid (Box W (w.heap.size + 1 + 1) false (.slice none 0 0)) := by rw [hW]; have := (Box.new ((w.alloc (Obj.cells #[Value.bool sa, Value.slice Xa pa qa] 27)).alloc (Obj.cells #[Value.bool sb, Value.slice Xb pb qb] 27)) false (Value.slice none 0 0)).alloc (Obj.cells #[Value.bool false, Value.slice none 0 0] 27); simpa [Hid] using this
  have RXt : Hid (Box W (w.heap.size + 1 + 1 + 1) false (.slice none 0 0)) := by rw [hW]; have := Box.new (((w.alloc (Obj.cells #[Value.bool sa, Value.slice Xa pa qa] 27)).alloc (Obj.cells #[Value.bool sb, Value.slice Xb pb qb] 27)).alloc (Obj.cells #[Value.bool false, Value.slice none 0 0] 27)) false (Value.slice none 0 0); simpa [Hid] using this
  have IVa : Hid (Iv W (.agg #[.bool sa, .slice Xa pa qa]) (za)) := by rw [hW]; exact ((((Ha.out).alloc _).alloc _).alloc _).alloc _
  have IVb : Hid (Iv W (.agg #[.bool sb, .slice Xb pb qb]) (zb)) := by rw [hW]; exact ((((Hb.out).alloc _).alloc _).alloc _).alloc _
  have DW : Hid (Below w.heap.size w W) := by rw [hW]; exact ((((Below.refl _ _).alloc (by simp <;> omega) _).alloc (by simp <;> omega) _).alloc (by simp <;> omega) _).alloc (by simp <;> omega) _
  clear hW
  generalize hg : w.heap.size = g at *
  replace hg := Lib.hid hg
  have u1a := BXa.out.cell0; have u1b := BXa.out.cell1
  have u2a := BXb.out.cell0; have u2b := BXb.out.cell1
  go_wp2_with fail
  clear u1a u1b u2a u2b
  refine (gcdI_any _ _ za zb _ IVa.out IVb.out (SZa.out.mono (by omega)) (SZb.out.mono (by omega))).mono ?_
  rintro e y3 ⟨_, rfl, hq, hb⟩
  rw [HG.out] at hq
  obtain ⟨Xg, pg, qg, rfl, _, _, _⟩ := hq.form
  have Qg := Lib.hid hq; clear hq
  have B := Lib.hid hb; clear hb
  generalize hs : decide ((G : Int) < 0) = sg at *
  clear hs
  go_upto_region 2 with fail
  obtain ⟨W4, hW⟩ : ∃ W4, W4 = (y3.alloc (Obj.cells #[Value.bool sg, Value.slice Xg pg qg] 27)) := ⟨_, rfl⟩
  rw [← hW]
  have BXg : Hid (Box W4 (y3.heap.size) sg (.slice Xg pg qg)) := by rw [hW]; have := Box.new y3 sg (.slice Xg pg qg); simpa [Hid] using this
  have IVg : Hid (Iv W4 (.agg #[.bool sg, .slice Xg pg qg]) (G)) := by rw [hW]; exact (Qg.out).alloc _
  have hd : Below W.heap.size W W4 := by rw [hW]; exact (B.out).alloc (by have := B.out.size; simp <;> omega) _
  have NEgr : Hid ((y3.heap.size) ≠ (g + 1 + 1)) := by have := RXr.out.lt; have := B.out.size; unfold Hid; omega
  have NEgt : Hid ((y3.heap.size) ≠ (g + 1 + 1 + 1)) := by have := RXt.out.lt; have := B.out.size; unfold Hid; omega
  clear hW B Qg
  generalize hgn4 : y3.heap.size = gg at *
  clear hgn4
  replace BXa := nxb BXa hd rfl; replace IVa := nxv IVa hd rfl
  replace BXb := nxb BXb hd rfl; replace IVb := nxv IVb hd rfl
  replace RXr := Lib.hid (RXr.out.next hd rfl)
  replace RXt := Lib.hid (RXt.out.next hd rfl)
  replace DW := nxd DW hg hd rfl rfl rfl rfl
  clear hd
  have u5a := BXg.out.cell0; have u5b := BXg.out.cell1
  go_wp2_with fail
  clear u5a u5b
  refine (qIsOne_any _ G _ IVg.out (SZG.out.mono (by omega))).mono ?_
  rintro e y9 ⟨rfl, hb⟩
  replace BXa := nxb BXa hb rfl; replace IVa := nxv IVa hb rfl
  replace BXb := nxb BXb hb rfl; replace IVb := nxv IVb hb rfl
  replace BXg := nxb BXg hb rfl; replace IVg := nxv IVg hb rfl
  replace RXr := Lib.hid (RXr.out.next hb rfl)
  replace RXt := Lib.hid (RXt.out.next hb rfl)
  replace DW := nxd DW hg hb rfl rfl rfl rfl
  clear hb
  by_cases h1 : G = 1
  · have hd : decide (G = 1) = true := decide_eq_true h1
    rw [hd]
    clear hd
    have e1 : Hid (za / G = za) := by unfold Hid; rw [h1, Int.ediv_one]
    have e2 : Hid (zb / G = zb) := by unfold Hid; rw [h1, Int.ediv_one]
    clear h1
    go_upto_region 3 with fail
    refine Rg.region_gg y9 [.is (.agg #[.bool sa, .slice Xa pa qa]), .is (.agg #[.bool sb, .slice Xb pb qb]), .sto (g + 1 + 1) (sI (g + 1 + 1) (za)) (sI_keep _ _), .sto (g + 1 + 1 + 1) (sI (g + 1 + 1 + 1) (zb)) (sI_keep _ _)] [(g + 1 + 1), (g + 1 + 1 + 1)] [some 12, some 13, none, none] (by kernel_rfl) (by kernel_rfl) (by kernel_rfl) (by kernel_rfl) (by kernel_rfl) (by simp only [Rg.stos, List.nodup_cons, List.mem_cons, List.not_mem_nil, or_false, not_or, List.nodup_nil, and_true, not_false_eq_true]; exact (by omega)) (by rfl) (by rfl) (by kernel_rfl) (by intro g hg; simp only [List.mem_cons, List.not_mem_nil, or_false] at hg; rcases hg with rfl | rfl <;> first | exact RXr.out.lt | exact RXt.out.lt) ((Below.refl _ _).drew) (fun Q' => ?_) (fun K hK wn hs => ?_)
    · refine ⟨?_, ?_, ?_, ?_, trivial⟩
      · intro a' w' ha hs hw hold
        have eo2 : a'.tmps[2]? = some (ptr g) := (ha.rest 2 (by kernel_rfl)).trans rfl
        exact ⟨rfl, .inl ⟨wanted_none rfl, wp_val (run_pload rfl (ev_tmp eo2) (BXa.out.bel hs (by simp only [List.mem_cons, List.not_mem_nil, or_false, not_or]; exact ⟨(by omega), (by omega)⟩))) ⟨rfl, Below.refl _ _⟩⟩⟩
      · intro a' w' ha hs hw hold
        have eo3 : a'.tmps[3]? = some (ptr (g + 1)) := (ha.rest 3 (by kernel_rfl)).trans rfl
        exact ⟨rfl, .inl ⟨wanted_none rfl, wp_val (run_pload rfl (ev_tmp eo3) (BXb.out.bel hs (by simp only [List.mem_cons, List.not_mem_nil, or_false, not_or]; exact ⟨(by omega), (by omega)⟩))) ⟨rfl, Below.refl _ _⟩⟩⟩
      · intro a' w' ha hs hw hold
        have e0 : a'.tmps[12]? = some (.agg #[.bool sa, .slice Xa pa qa]) := Rg.slot_get rfl rfl (hw 0 (by kernel_rfl) _ rfl)
        have eo4 : a'.tmps[4]? = some (ptr (g + 1 + 1)) := (ha.rest 4 (by kernel_rfl)).trans rfl
        exact ⟨rfl, wanted_none rfl, fun he => step_stoi rfl rfl (ev_tmp eo4) (ev_tmp e0) (IVa.out.kn hs.kn) RXr.out he⟩
      · intro a' w' ha hs hw hold
        have e1 : a'.tmps[13]? = some (.agg #[.bool sb, .slice Xb pb qb]) := Rg.slot_get rfl rfl (hw 1 (by kernel_rfl) _ rfl)
        have eo5 : a'.tmps[5]? = some (ptr (g + 1 + 1 + 1)) := (ha.rest 5 (by kernel_rfl)).trans rfl
        exact ⟨rfl, wanted_none rfl, fun he => step_stoi rfl rfl (ev_tmp eo5) (ev_tmp e1) (IVb.out.kn hs.kn) RXt.out he⟩
    simp only [Rg.allG]
    intro hSr
    intro hSt
    simp only [setOpt, Rg.setOpt, List.set_cons_succ, List.set_cons_zero]
    refine hK _ _ ?_
    clear hK K
    have DN : Hid (Below g w wn) := hs.base DW.out (by have := hg.out; omega) (by simp only [List.mem_cons, List.not_mem_nil, or_false]; omega)
    obtain ⟨Ar, ir, cr, hcr, hir⟩ := hSr
    have kra := hcr.cell0; have krb := hcr.cell1
    have HIr := Lib.hid hir; clear hir
    obtain ⟨At, it, ct, hct, hit⟩ := hSt
    have kta := hct.cell0; have ktb := hct.cell1
    have HIt := Lib.hid hit; clear hit
    go_wp2
    exact bodyPost_ret (v := .tuple #[.agg #[.bool (decide (za < 0)), .slice Ar ir cr], .agg #[.bool (decide (zb < 0)), .slice At it ct]]) (by simp [results, Try.results197, go_sem, kra, krb, kta, ktb]) rfl ⟨_, _, rfl, by rw [e1.out]; exact HIr.out, by rw [e2.out]; exact HIt.out, by rw [hg.out]; exact DN.out⟩
  · have hd : decide (G = 1) = false := decide_eq_false h1
    rw [hd]
    clear hd h1
    go_upto_region 4 with fail
    refine Rg.region_gg y9 [.is (.agg #[.bool sa, .slice Xa pa qa]), .is (.agg #[.bool sg, .slice Xg pg qg]), .sat (pIv (za / G)) (pIv_keep _), .is (.agg #[.bool sb, .slice Xb pb qb]), .is (.agg #[.bool sg, .slice Xg pg qg]), .sat (pIv (zb / G)) (pIv_keep _), .sto (g + 1 + 1) (sI (g + 1 + 1) (za / G)) (sI_keep _ _), .sto (g + 1 + 1 + 1) (sI (g + 1 + 1 + 1) (zb / G)) (sI_keep _ _)] [(g + 1 + 1), (g + 1 + 1 + 1)] [some 14, some 15, some 16, some 17, some 18, some 19, none, none] (by kernel_rfl) (by kernel_rfl) (by kernel_rfl) (by kernel_rfl) (by kernel_rfl) (by simp only [Rg.stos, List.nodup_cons, List.mem_cons, List.not_mem_nil, or_false, not_or, List.nodup_nil, and_true, not_false_eq_true]; exact (by omega)) (by rfl) (by rfl) (by kernel_rfl) (by intro g hg; simp only [List.mem_cons, List.not_mem_nil, or_false] at hg; rcases hg with rfl | rfl <;> first | exact RXr.out.lt | exact RXt.out.lt) ((Below.refl _ _).drew) (fun Q' => ?_) (fun K hK wn hs => ?_)
    · refine ⟨?_, ?_, ?_, ?_, ?_, ?_, ?_, ?_, trivial⟩
      · intro a' w' ha hs hw hold
        have eo2 : a'.tmps[2]? = some (ptr g) := (ha.rest 2 (by kernel_rfl)).trans rfl
        exact ⟨rfl, .inl ⟨wanted_none rfl, wp_val (run_pload rfl (ev_tmp eo2) (BXa.out.bel hs (by simp only [List.mem_cons, List.not_mem_nil, or_false, not_or]; exact ⟨(by omega), (by omega)⟩))) ⟨rfl, Below.refl _ _⟩⟩⟩
      · intro a' w' ha hs hw hold
        have eo6 : a'.tmps[6]? = some (ptr gg) := (ha.rest 6 (by kernel_rfl)).trans rfl
        exact ⟨rfl, .inl ⟨wanted_none rfl, wp_val (run_pload rfl (ev_tmp eo6) (BXg.out.bel hs (by simp only [List.mem_cons, List.not_mem_nil, or_false, not_or]; exact ⟨NEgr.out, NEgt.out⟩))) ⟨rfl, Below.refl _ _⟩⟩⟩
      · intro a' w' ha hs hw hold
        have e0 : a'.tmps[14]? = some (.agg #[.bool sa, .slice Xa pa qa]) := Rg.slot_get rfl rfl (hw 0 (by kernel_rfl) _ rfl)
        have e1 : a'.tmps[15]? = some (.agg #[.bool sg, .slice Xg pg qg]) := Rg.slot_get rfl rfl (hw 1 (by kernel_rfl) _ rfl)
        exact ⟨rfl, wanted_none rfl, call_step rfl Try.func206 (by kernel_rfl) rfl (map_two (ev_tmp e0) (ev_tmp e1)) (quotient_any _ _ za G _ _ (IVa.out.kn hs.kn) (IVg.out.kn hs.kn) (SZa.out.mono (by omega)) (SZG.out.mono (by omega)) HG0.out rfl) (fun e w2 he => by obtain ⟨v, rfl, hv, hb⟩ := he; exact ⟨v, rfl, v, rfl, hv, hb⟩)⟩
      · intro a' w' ha hs hw hold
        have eo3 : a'.tmps[3]? = some (ptr (g + 1)) := (ha.rest 3 (by kernel_rfl)).trans rfl
        exact ⟨rfl, .inl ⟨wanted_none rfl, wp_val (run_pload rfl (ev_tmp eo3) (BXb.out.bel hs (by simp only [List.mem_cons, List.not_mem_nil, or_false, not_or]; exact ⟨(by omega), (by omega)⟩))) ⟨rfl, Below.refl _ _⟩⟩⟩
      · intro a' w' ha hs hw hold
        have eo6 : a'.tmps[6]? = some (ptr gg) := (ha.rest 6 (by kernel_rfl)).trans rfl
        exact ⟨rfl, .inl ⟨wanted_none rfl, wp_val (run_pload rfl (ev_tmp eo6) (BXg.out.bel hs (by simp only [List.mem_cons, List.not_mem_nil, or_false, not_or]; exact ⟨NEgr.out, NEgt.out⟩))) ⟨rfl, Below.refl _ _⟩⟩⟩
      · intro a' w' ha hs hw hold
        have e3 : a'.tmps[17]? = some (.agg #[.bool sb, .slice Xb pb qb]) := Rg.slot_get rfl rfl (hw 3 (by kernel_rfl) _ rfl)
        have e4 : a'.tmps[18]? = some (.agg #[.bool sg, .slice Xg pg qg]) := Rg.slot_get rfl rfl (hw 4 (by kernel_rfl) _ rfl)
        exact ⟨rfl, wanted_none rfl, call_step rfl Try.func206 (by kernel_rfl) rfl (map_two (ev_tmp e3) (ev_tmp e4)) (quotient_any _ _ zb G _ _ (IVb.out.kn hs.kn) (IVg.out.kn hs.kn) (SZb.out.mono (by omega)) (SZG.out.mono (by omega)) HG0.out rfl) (fun e w2 he => by obtain ⟨v, rfl, hv, hb⟩ := he; exact ⟨v, rfl, v, rfl, hv, hb⟩)⟩
      · intro a' w' ha hs hw hold
        obtain ⟨v2, e2, q2⟩ := hw 2 (by kernel_rfl) _ rfl
        replace e2 : a'.tmps[16]? = some v2 := Rg.slot_get rfl rfl e2
        have eo4 : a'.tmps[4]? = some (ptr (g + 1 + 1)) := (ha.rest 4 (by kernel_rfl)).trans rfl
        exact ⟨rfl, wanted_none rfl, fun he => step_stoi rfl rfl (ev_tmp eo4) (ev_tmp e2) q2 RXr.out he⟩
      · intro a' w' ha hs hw hold
        obtain ⟨v5, e5, q5⟩ := hw 5 (by kernel_rfl) _ rfl
        replace e5 : a'.tmps[19]? = some v5 := Rg.slot_get rfl rfl e5
        have eo5 : a'.tmps[5]? = some (ptr (g + 1 + 1 + 1)) := (ha.rest 5 (by kernel_rfl)).trans rfl
        exact ⟨rfl, wanted_none rfl, fun he => step_stoi rfl rfl (ev_tmp eo5) (ev_tmp e5) q5 RXt.out he⟩
    simp only [Rg.allG]
    intro r7x2 _
    intro r7x5 _
    intro hSr
    intro hSt
    simp only [setOpt, Rg.setOpt, List.set_cons_succ, List.set_cons_zero]
    refine hK _ _ ?_
    clear hK K
    have DN : Hid (Below g w wn) := hs.base DW.out (by have := hg.out; omega) (by simp only [List.mem_cons, List.not_mem_nil, or_false]; omega)
    obtain ⟨Ar, ir, cr, hcr, hir⟩ := hSr
    have kra := hcr.cell0; have krb := hcr.cell1
    have HIr := Lib.hid hir; clear hir
    obtain ⟨At, it, ct, hct, hit⟩ := hSt
    have kta := hct.cell0; have ktb := hct.cell1
    have HIt := Lib.hid hit; clear hit
    go_wp2
    exact bodyPost_ret (v := .tuple #[.agg #[.bool (decide (za / G < 0)), .slice Ar ir cr], .agg #[.bool (decide (zb / G < 0)), .slice At it ct]]) (by simp [results, Try.results197, go_sem, kra, krb, kta, ktb]) rfl ⟨_, _, rfl, HIr.out, HIt.out, by rw [hg.out]; exact DN.out⟩
end Go.Proofs.Ytfigimfdojbkeaa

