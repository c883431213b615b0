/-
  Layer 3: Rebuild.
-/
import Derived.Test.YtfigimfdojbkeaaModZ2
import Derived.Test.YtfigimfdojbkeaaLawE
import Derived.Test.YtfigimfdojbkeaaIntE
import Derived.Deep.DeepCutAuto
import Derived.Handy
set_option linter.unusedSimpArgs false
set_option linter.unusedVariables false
namespace Go.Proofs.Ytfigimfdojbkeaa
open Go.RowKit
attribute [local go_sem ↓] Go.wp_at_zero Go.wp_at_succ

theorem wanted_off {o : Oper} {a : Act} {ops : Array Oper} {j : Nat} {b c : Bool} {o' : Oper} {d : Nat} (h : o.guard = some (j, b)) (ho : ops[j]? = some o') (hd : o'.dst = some d) (hv : a.tmps[d]? = some (.bool c)) (hn : c ≠ b) : Region.wanted o (yielded ops a.tmps) = false := by
  simp [Region.wanted, h, yielded, ho, hd, hv, hn]
theorem wanted_undef {o : Oper} {a : Act} {ops : Array Oper} {j : Nat} {b : Bool} {o' : Oper} {d : Nat} (h : o.guard = some (j, b)) (ho : ops[j]? = some o') (hd : o'.dst = some d) (hv : a.tmps[d]? = some undef) : Region.wanted o (yielded ops a.tmps) = false := by
  simp [Region.wanted, h, yielded, ho, hd, hv, undef]
def RetQB (n d : Int) (ok : Bool) (w : World) (e : Ending) (w' : World) : Prop := ∃ v, e = .returned (.tuple #[v, .bool ok]) ∧ Qv w' v n d ∧ Below w.heap.size w w'
theorem zeroQ_qv3 (w : World) : Qv w zeroQ 0 0 := ⟨none, 0, 0, none, 0, 0, rfl, Iv.zero w, Iv.zero w⟩
section
variable {o : Oper} {w : World} {ρ : Operand → Value} {x y : Operand} {t u : TypeId}
theorem run_gtrB {k : IntKind} {m n : Int} {r : Bool} (ho : o.op = .binOp .gtr t x y u) (hx : ρ x = .int k m) (hy : ρ y = .int k n) (h : decide (n < m) = r) : (execOp ρ o).run Try.prog w = .ok (.value (.bool r)) w := by
  subst h
  simp [execOp, ho, hx, hy, go_sem]
end


set_option maxHeartbeats 8000000 in
set_option maxRecDepth 100000 in
theorem rebuild_ok (vu vm : Value) (zu zm R T : Int) (a b : Nat) (w : World) (hu : Iv w vu zu) (su : Sz zu 400) (hm : Iv w vm zm) (sm : Sz zm 400) (hm0 : 0 < zm) (ha : (zm - 1) / 2 = (a : Int)) (hb1 : b ^ 2 ≤ a) (hb2 : a < (b + 1) ^ 2) (hbm : (b : Int) < zm) (hR : Row.fsh (zm.toNat + 1) b zm 0 (zu % zm) 1 = (R, T)) (sR : Sz R 400) (sT : Sz T 400) (hT : 0 ≤ T) (hd : T ≤ b) (hc : Int.gcd (R) (T) = 1) : Calls Try.prog 68 #[vu, vm] w (RetQB (R) (T) true w) := by
  obtain ⟨Xu, pu, qu, rfl, _, _, _⟩ := hu.form
  have Hu := Lib.hid hu
  have SZu := Lib.hid su
  clear hu su
  generalize hs : decide (zu < 0) = su at *
  clear hs
  obtain ⟨Xm, pm, qm, rfl, _, _, _⟩ := hm.form
  have Hm := Lib.hid hm
  have SZm := Lib.hid sm
  clear hm sm
  generalize hs : decide (zm < 0) = sm at *
  clear hs
  obtain ⟨c1, hc1⟩ : ∃ z : Int, z = 1 := ⟨_, rfl⟩
  have HA : Hid ((zm - c1) / 2 = (a : Int)) := by rw [hc1]; exact ha
  obtain ⟨ze, hze⟩ : ∃ z : Int, (zm - c1) % 2 = z := ⟨_, rfl⟩
  have hgm : Hid (sg zm = 1) := by rcases sg_cases zm with ⟨h1, e1⟩ | ⟨h1, e1⟩ | ⟨h1, e1⟩ <;> first | exact e1 | omega
  have SA : Hid (Sz (a : Int) 400) := ⟨by have := SZm.out.lt; rw [Int.natAbs_natCast]; omega⟩
  have SB : Hid (Sz (b : Int) 400) := ⟨by have := SZm.out.lt; rw [Int.natAbs_natCast]; omega⟩
  have HM0 := Lib.hid hm0; have HB1 := Lib.hid hb1; have HB2 := Lib.hid hb2; have HBM := Lib.hid hbm; have HR := Lib.hid hR; have SR := Lib.hid sR; have ST := Lib.hid sT; have HT := Lib.hid hT; have HD := Lib.hid hd
  have HCc := Lib.hid hc; clear hc
  replace hc1 := Lib.hid hc1; replace hze := Lib.hid hze
  clear hm0 ha hb1 hb2 hbm hR sR sT hT hd
  go_enter Try.func68, Try.ntmps68
  go_wp2_with fail
  obtain ⟨W, hW⟩ : ∃ W, W = (((w.alloc (Obj.cells #[Value.bool su, Value.slice Xu pu qu] 27)).alloc (Obj.cells #[Value.bool sm, Value.slice Xm pm qm] 27)).alloc (Obj.cells #[Value.bool false, Value.slice none 0 0, Value.bool false, Value.slice none 0 0] 60)) := ⟨_, rfl⟩
  rw [← hW]
  have BXu : Hid (Box W (w.heap.size) su (.slice Xu pu qu)) := by rw [hW]; have := ((Box.new w su (Value.slice Xu pu qu)).alloc (Obj.cells #[Value.bool sm, Value.slice Xm pm qm] 27)).alloc (Obj.cells #[Value.bool false, Value.slice none 0 0, Value.bool false, Value.slice none 0 0] 60); simpa [Hid] using this
  have BXm : Hid (Box W (w.heap.size + 1) sm (.slice Xm pm qm)) := by rw [hW]; have := (Box.new (w.alloc (Obj.cells #[Value.bool su, Value.slice Xu pu qu] 27)) sm (Value.slice Xm pm qm)).alloc (Obj.cells #[Value.bool false, Value.slice none 0 0, Value.bool false, Value.slice none 0 0] 60); simpa [Hid] using this
  have RXr : Hid (QBox W (w.heap.size + 1 + 1) false (.slice none 0 0) false (.slice none 0 0)) := by rw [hW]; have := QBox.new ((w.alloc (Obj.cells #[Value.bool su, Value.slice Xu pu qu] 27)).alloc (Obj.cells #[Value.bool sm, Value.slice Xm pm qm] 27)) false (Value.slice none 0 0) false (Value.slice none 0 0); simpa [Hid] using this
  have IVu : Hid (Iv W (.agg #[.bool su, .slice Xu pu qu]) (zu)) := by rw [hW]; exact (((Hu.out).alloc _).alloc _).alloc _
  have IVm : Hid (Iv W (.agg #[.bool sm, .slice Xm pm qm]) (zm)) := by rw [hW]; exact (((Hm.out).alloc _).alloc _).alloc _
  have DW : Hid (Below w.heap.size w W) := by rw [hW]; exact (((Below.refl _ _).alloc (by simp <;> omega) _).alloc (by simp <;> omega) _).alloc (by simp <;> omega) _
  clear hW
  generalize hg : w.heap.size = g at *
  replace hg := Lib.hid hg
  go_upto_region 1 with fail
  have u1a := BXm.out.cell0; have u1b := BXm.out.cell1
  go_wp2_with fail
  clear u1a u1b
  refine (sign_is _ zm 1 _ IVm.out (SZm.out.mono (by omega)) hgm.out).mono ?_
  rintro e y2 ⟨rfl, hb⟩
  replace BXu := nxb BXu hb rfl; replace IVu := nxv IVu hb rfl
  replace BXm := nxb BXm hb rfl; replace IVm := nxv IVm hb rfl
  replace RXr := Lib.hid (RXr.out.next hb rfl)
  replace DW := nxd DW hg hb rfl rfl rfl rfl
  clear hb
  go_upto_region 3 with fail
  go_wp2_with fail
  refine (Row.of_z 1 c1 _ (by omega) (by omega) hc1.out).mono ?_
  rintro e y3 ⟨_, rfl, hq, hb⟩
  obtain ⟨Xo, po, qo, rfl, _, _, _⟩ := hq.form
  have Qo := Lib.hid hq; clear hq
  have B := Lib.hid hb; clear hb
  generalize hs : decide ((c1 : Int) < 0) = so at *
  clear hs
  go_upto_region 4 with fail
  obtain ⟨W4, hW⟩ : ∃ W4, W4 = (y3.alloc (Obj.cells #[Value.bool so, Value.slice Xo po qo] 27)) := ⟨_, rfl⟩
  rw [← hW]
  have BXo : Hid (Box W4 (y3.heap.size) so (.slice Xo po qo)) := by rw [hW]; have := Box.new y3 so (.slice Xo po qo); simpa [Hid] using this
  have IVo : Hid (Iv W4 (.agg #[.bool so, .slice Xo po qo]) (c1)) := by rw [hW]; exact (Qo.out).alloc _
  have hd : Below y2.heap.size y2 W4 := by rw [hW]; exact (B.out).alloc (by have := B.out.size; simp <;> omega) _
  have NEor : Hid ((y3.heap.size) ≠ (g + 1 + 1)) := by have := RXr.out.lt; have := B.out.size; unfold Hid; omega
  have GBo : Hid (g ≤ y3.heap.size) := by have := DW.out.size; have := hg.out; have := B.out.size; unfold Hid; omega
  have LTro : Hid ((g + 1 + 1) < y3.heap.size) := by have := RXr.out.lt; have := B.out.size; unfold Hid; omega
  have LTuo : Hid (g < y3.heap.size) := by have := BXu.out.lt; have := B.out.size; unfold Hid; omega
  have LTmo : Hid ((g + 1) < y3.heap.size) := by have := BXm.out.lt; have := B.out.size; unfold Hid; omega
  clear hW B Qo
  generalize hgn4 : y3.heap.size = go at *
  clear hgn4
  replace BXu := nxb BXu hd rfl; replace IVu := nxv IVu hd rfl
  replace BXm := nxb BXm hd rfl; replace IVm := nxv IVm hd rfl
  replace RXr := Lib.hid (RXr.out.next hd rfl)
  replace DW := nxd DW hg hd rfl rfl rfl rfl
  clear hd
  have u5a := BXm.out.cell0; have u5b := BXm.out.cell1
  have u6a := BXo.out.cell0; have u6b := BXo.out.cell1
  go_wp2_with fail
  clear u5a u5b u6a u6b
  refine (sub_any _ _ zm c1 _ IVm.out IVo.out (SZm.out.mono (by omega)) (hc1.out ▸ (Sz.small (by omega) (by omega)).mono (by omega))).mono ?_
  rintro e y7 ⟨_, rfl, hq, hb⟩
  replace hq := Lib.hid hq
  replace BXu := nxb BXu hb rfl; replace IVu := nxv IVu hb rfl
  replace BXm := nxb BXm hb rfl; replace IVm := nxv IVm hb rfl
  replace BXo := nxb BXo hb rfl; replace IVo := nxv IVo hb rfl
  replace RXr := Lib.hid (RXr.out.next hb rfl)
  replace DW := nxd DW hg hb rfl rfl rfl rfl
  clear hb
  go_wp2_with fail
  refine (of_any 2 _ (by omega) (by omega)).mono ?_
  rintro e y81 ⟨_, rfl, hq1, hb⟩
  replace hq := Lib.hid (iv_next hq.out hb rfl); replace hq1 := Lib.hid hq1
  replace BXu := nxb BXu hb rfl; replace IVu := nxv IVu hb rfl
  replace BXm := nxb BXm hb rfl; replace IVm := nxv IVm hb rfl
  replace BXo := nxb BXo hb rfl; replace IVo := nxv IVo hb rfl
  replace RXr := Lib.hid (RXr.out.next hb rfl)
  replace DW := nxd DW hg hb rfl rfl rfl rfl
  clear hb
  have SM1 : Hid (Sz (zm - c1) 401) := ⟨by have h1 := SZm.out.lt; have h2 := HM0.out; have h3 := hc1.out; have h4 := pw_lt (show 400 < 401 by omega); omega⟩
  go_wp2_with fail
  refine (divMod_any _ _ (zm - c1) 2 _ hq.out hq1.out (SM1.out.mono (by omega)) ((Sz.small (by omega) (by omega)).mono (by omega)) (by omega)).mono ?_
  rintro e y82 ⟨_, _, rfl, hq0, hq2, hb⟩
  rw [HA.out] at hq0
  rw [hze.out] at hq2
  clear hq hq1
  obtain ⟨Xh, ph, qh, rfl, _, _, _⟩ := hq0.form
  have Qh := Lib.hid hq0; clear hq0
  obtain ⟨Xe, pe, qe, rfl, _, _, _⟩ := hq2.form
  have Qe := Lib.hid hq2; clear hq2
  have B := Lib.hid hb; clear hb
  generalize hs : decide (((a : Int) : Int) < 0) = sh at *
  clear hs
  generalize hs : decide ((ze : Int) < 0) = se at *
  clear hs
  go_upto_region 5 with fail
  obtain ⟨W8, hW⟩ : ∃ W8, W8 = ((y82.alloc (Obj.cells #[Value.bool sh, Value.slice Xh ph qh] 27)).alloc (Obj.cells #[Value.bool se, Value.slice Xe pe qe] 27)) := ⟨_, rfl⟩
  rw [← hW]
  have BXh : Hid (Box W8 (y82.heap.size) sh (.slice Xh ph qh)) := by rw [hW]; have := (Box.new y82 sh (.slice Xh ph qh)).alloc (Obj.cells #[Value.bool se, Value.slice Xe pe qe] 27); simpa [Hid] using this
  have IVh : Hid (Iv W8 (.agg #[.bool sh, .slice Xh ph qh]) ((a : Int))) := by rw [hW]; exact ((Qh.out).alloc _).alloc _
  have BXe : Hid (Box W8 (y82.heap.size + 1) se (.slice Xe pe qe)) := by rw [hW]; have := Box.new (y82.alloc (Obj.cells #[Value.bool sh, Value.slice Xh ph qh] 27)) se (.slice Xe pe qe); simpa [Hid] using this
  have IVe : Hid (Iv W8 (.agg #[.bool se, .slice Xe pe qe]) (ze)) := by rw [hW]; exact ((Qe.out).alloc _).alloc _
  have hd : Below y81.heap.size y81 W8 := by rw [hW]; exact ((B.out).alloc (by have := B.out.size; simp <;> omega) _).alloc (by have := B.out.size; simp <;> omega) _
  have NEer : Hid ((y82.heap.size + 1) ≠ (g + 1 + 1)) := by have := RXr.out.lt; have := B.out.size; unfold Hid; omega
  have NEhr : Hid ((y82.heap.size) ≠ (g + 1 + 1)) := by have := RXr.out.lt; have := B.out.size; unfold Hid; omega
  have GBh : Hid (g ≤ y82.heap.size) := by have := DW.out.size; have := hg.out; have := B.out.size; unfold Hid; omega
  have LTrh : Hid ((g + 1 + 1) < y82.heap.size) := by have := RXr.out.lt; have := B.out.size; unfold Hid; omega
  have LTuh : Hid (g < y82.heap.size) := by have := BXu.out.lt; have := B.out.size; unfold Hid; omega
  have LTmh : Hid ((g + 1) < y82.heap.size) := by have := BXm.out.lt; have := B.out.size; unfold Hid; omega
  have LToh : Hid (go < y82.heap.size) := by have := BXo.out.lt; have := B.out.size; unfold Hid; omega
  have GBe : Hid (g ≤ y82.heap.size + 1) := by have := DW.out.size; have := hg.out; have := B.out.size; unfold Hid; omega
  have LTre : Hid ((g + 1 + 1) < y82.heap.size + 1) := by have := RXr.out.lt; have := B.out.size; unfold Hid; omega
  have LThe : Hid (y82.heap.size < y82.heap.size + 1) := by unfold Hid; omega
  have LTue : Hid (g < y82.heap.size + 1) := by have := BXu.out.lt; have := B.out.size; unfold Hid; omega
  have LTme : Hid ((g + 1) < y82.heap.size + 1) := by have := BXm.out.lt; have := B.out.size; unfold Hid; omega
  have LToe : Hid (go < y82.heap.size + 1) := by have := BXo.out.lt; have := B.out.size; unfold Hid; omega
  clear hW B Qh Qe
  generalize hgn8 : y82.heap.size + 1 = ge at *
  clear hgn8
  generalize hgn8 : y82.heap.size = gh at *
  clear hgn8
  replace BXu := nxb BXu hd rfl; replace IVu := nxv IVu hd rfl
  replace BXm := nxb BXm hd rfl; replace IVm := nxv IVm hd rfl
  replace BXo := nxb BXo hd rfl; replace IVo := nxv IVo hd rfl
  replace RXr := Lib.hid (RXr.out.next hd rfl)
  replace DW := nxd DW hg hd rfl rfl rfl rfl
  clear hd
  have u9a := BXh.out.cell0; have u9b := BXh.out.cell1
  go_wp2_with fail
  clear u9a u9b
  refine (root_int _ a 2 b 2 _ IVh.out (SA.out.mono (by omega)) rfl (by omega) (by omega) HB1.out HB2.out).mono ?_
  rintro e y10 ⟨_, rfl, hq, hb⟩
  obtain ⟨Xb, pb, qb, rfl, _, _, _⟩ := hq.form
  have Qb := Lib.hid hq; clear hq
  have B := Lib.hid hb; clear hb
  generalize hs : decide (((b : Int) : Int) < 0) = sb at *
  clear hs
  go_upto_region 6 with fail
  obtain ⟨W11, hW⟩ : ∃ W11, W11 = (y10.alloc (Obj.cells #[Value.bool sb, Value.slice Xb pb qb] 27)) := ⟨_, rfl⟩
  rw [← hW]
  have BXb : Hid (Box W11 (y10.heap.size) sb (.slice Xb pb qb)) := by rw [hW]; have := Box.new y10 sb (.slice Xb pb qb); simpa [Hid] using this
  have IVb : Hid (Iv W11 (.agg #[.bool sb, .slice Xb pb qb]) ((b : Int))) := by rw [hW]; exact (Qb.out).alloc _
  have hd : Below W8.heap.size W8 W11 := by rw [hW]; exact (B.out).alloc (by have := B.out.size; simp <;> omega) _
  have NEbr : Hid ((y10.heap.size) ≠ (g + 1 + 1)) := by have := RXr.out.lt; have := B.out.size; unfold Hid; omega
  have GBb : Hid (g ≤ y10.heap.size) := by have := DW.out.size; have := hg.out; have := B.out.size; unfold Hid; omega
  have LTrb : Hid ((g + 1 + 1) < y10.heap.size) := by have := RXr.out.lt; have := B.out.size; unfold Hid; omega
  have LTub : Hid (g < y10.heap.size) := by have := BXu.out.lt; have := B.out.size; unfold Hid; omega
  have LTmb : Hid ((g + 1) < y10.heap.size) := by have := BXm.out.lt; have := B.out.size; unfold Hid; omega
  have LTob : Hid (go < y10.heap.size) := by have := BXo.out.lt; have := B.out.size; unfold Hid; omega
  have LThb : Hid (gh < y10.heap.size) := by have := BXh.out.lt; have := B.out.size; unfold Hid; omega
  have LTeb : Hid (ge < y10.heap.size) := by have := BXe.out.lt; have := B.out.size; unfold Hid; omega
  clear hW B Qb
  generalize hgn11 : y10.heap.size = gb at *
  clear hgn11
  replace BXu := nxb BXu hd rfl; replace IVu := nxv IVu hd rfl
  replace BXm := nxb BXm hd rfl; replace IVm := nxv IVm hd rfl
  replace BXo := nxb BXo hd rfl; replace IVo := nxv IVo hd rfl
  replace BXh := nxb BXh hd rfl; replace IVh := nxv IVh hd rfl
  replace BXe := nxb BXe hd rfl; replace IVe := nxv IVe hd rfl
  replace RXr := Lib.hid (RXr.out.next hd rfl)
  replace DW := nxd DW hg hd rfl rfl rfl rfl
  clear hd
  have u12a := BXu.out.cell0; have u12b := BXu.out.cell1
  have u13a := BXm.out.cell0; have u13b := BXm.out.cell1
  have u14a := BXb.out.cell0; have u14b := BXb.out.cell1
  go_wp2_with fail
  clear u12a u12b u13a u13b u14a u14b
  refine (Row.first_any _ _ _ zu zm (b : Int) R T _ IVu.out (SZu.out.mono (by omega)) IVm.out (SZm.out.mono (by omega)) IVb.out (SB.out.mono (by omega)) HM0.out (by omega) HBM.out HR.out).mono ?_
  rintro e y15 ⟨_, rfl, hq, hb⟩
  obtain ⟨Xfn, pfn, qfn, Xfd, pfd, qfd, rfl, hfn, hfd⟩ := hq
  have Qfn := Lib.hid hfn; have Qfd := Lib.hid hfd; clear hfn hfd
  have B := Lib.hid hb; clear hb
  generalize hs : decide (R < 0) = sfn at *
  clear hs
  generalize hs : decide (T < 0) = sfd at *
  clear hs
  go_upto_region 7 with fail
  obtain ⟨W90, hW⟩ : ∃ W90, W90 = y15.alloc (Obj.cells #[Value.bool sfn, Value.slice Xfn pfn qfn, Value.bool sfd, Value.slice Xfd pfd qfd] 130) := ⟨_, rfl⟩
  rw [← hW]
  have QXf : Hid (Row.QBox W90 y15.heap.size sfn (.slice Xfn pfn qfn) sfd (.slice Xfd pfd qfd)) := by rw [hW]; exact Row.QBox.new _ _ _ _ _
  have IVnf : Hid (Iv W90 (.agg #[.bool sfn, .slice Xfn pfn qfn]) R) := by rw [hW]; exact Qfn.out.alloc _
  have IVdf : Hid (Iv W90 (.agg #[.bool sfd, .slice Xfd pfd qfd]) T) := by rw [hW]; exact Qfd.out.alloc _
  have hd : Below W11.heap.size W11 W90 := by rw [hW]; exact B.out.alloc (by have := B.out.size; omega) _
  clear hW B Qfn Qfd
  generalize hgn90 : y15.heap.size = gf at *
  clear hgn90
  replace BXu := nxb BXu hd rfl; replace IVu := nxv IVu hd rfl
  replace BXm := nxb BXm hd rfl; replace IVm := nxv IVm hd rfl
  replace BXo := nxb BXo hd rfl; replace IVo := nxv IVo hd rfl
  replace BXh := nxb BXh hd rfl; replace IVh := nxv IVh hd rfl
  replace BXe := nxb BXe hd rfl; replace IVe := nxv IVe hd rfl
  replace BXb := nxb BXb hd rfl; replace IVb := nxv IVb hd rfl
  replace RXr := Lib.hid (RXr.out.next hd rfl)
  replace DW := nxd DW hg hd rfl rfl rfl rfl
  clear hd
  refine Rg.region_gg W90 [.is (.pointer (some ⟨gf, 0, none⟩)), .sat (pIv (R)) (pIv_keep _), .is (.pointer (some ⟨gf, 2, none⟩)), .sat (pIv (T)) (pIv_keep _), .own pNew pNew_keep, .own pNew pNew_keep, .put 4 (pPut (R)) (pPut_keep _), .put 5 (pPut (T)) (pPut_keep _)] [] [some 38, some 39, some 40, some 41, some 13, some 14, none, none] (by kernel_rfl) (by kernel_rfl) (by kernel_rfl) (by kernel_rfl) (by kernel_rfl) (by simp [Rg.stos]) (by rfl) (by rfl) (by kernel_rfl) (by simp) ((Below.refl _ _).drew) (fun Q' => ?_) (fun K hK wn hs => ?_)
  · refine ⟨?_, ?_, ?_, ?_, ?_, ?_, ?_, ?_, trivial⟩
    · intro a' w' ha hs hw hold
      have eo12 : a'.tmps[12]? = some (ptr gf) := (ha.rest 12 (by kernel_rfl)).trans rfl
      exact ⟨rfl, .inl ⟨wanted_none rfl, wp_val (Row.run_qfield0 rfl (ev_tmp eo12)) ⟨rfl, Below.refl _ _⟩⟩⟩
    · intro a' w' ha hs hw hold
      have e0 : a'.tmps[38]? = some (.pointer (some ⟨gf, 0, none⟩)) := Rg.slot_get rfl rfl (hw 0 (by kernel_rfl) _ rfl)
      exact ⟨rfl, wanted_none rfl, wp_val (Row.run_qload0 rfl (ev_tmp e0) (QXf.out.bel hs (by simp))) ⟨_, rfl, IVnf.out.kn hs.kn, Below.refl _ _⟩⟩
    · intro a' w' ha hs hw hold
      have eo12 : a'.tmps[12]? = some (ptr gf) := (ha.rest 12 (by kernel_rfl)).trans rfl
      exact ⟨rfl, .inl ⟨wanted_none rfl, wp_val (Row.run_qfield1 rfl (ev_tmp eo12)) ⟨rfl, Below.refl _ _⟩⟩⟩
    · intro a' w' ha hs hw hold
      have e2 : a'.tmps[40]? = some (.pointer (some ⟨gf, 2, none⟩)) := Rg.slot_get rfl rfl (hw 2 (by kernel_rfl) _ rfl)
      exact ⟨rfl, wanted_none rfl, wp_val (Row.run_qload1 rfl (ev_tmp e2) (QXf.out.bel hs (by simp))) ⟨_, rfl, IVdf.out.kn hs.kn, Below.refl _ _⟩⟩
    · intro a' w' ha hs hw hold
      exact ⟨rfl, wanted_none rfl, step_new rfl⟩
    · intro a' w' ha hs hw hold
      exact ⟨rfl, wanted_none rfl, step_new rfl⟩
    · intro a' w' ha hs hw hold
      obtain ⟨v1, e1, q1⟩ := hw 1 (by kernel_rfl) _ rfl
      replace e1 : a'.tmps[39]? = some v1 := Rg.slot_get rfl rfl e1
      refine ⟨rfl, wanted_none rfl, by kernel_rfl, fun pv pg pp ph pe1 pe2 pe3 pe4 => ?_⟩
      cases pe1
      exact step_put rfl rfl (ev_tmp (Rg.slot_get rfl rfl pe2)) (ev_tmp e1) pe3 pe4 q1
    · intro a' w' ha hs hw hold
      obtain ⟨v3, e3, q3⟩ := hw 3 (by kernel_rfl) _ rfl
      replace e3 : a'.tmps[41]? = some v3 := Rg.slot_get rfl rfl e3
      refine ⟨rfl, wanted_none rfl, by kernel_rfl, fun pv pg pp ph pe1 pe2 pe3 pe4 => ?_⟩
      cases pe1
      exact step_put rfl rfl (ev_tmp (Rg.slot_get rfl rfl pe2)) (ev_tmp e3) pe3 pe4 q3
  simp only [Rg.allG]
  intro r16x1 _
  intro r16x3 _
  intro a16x4 gb16x4 hE16x4 hB16x4 _ hN16x4 _
  intro a16x5 gb16x5 hE16x5 hB16x5 _ hN16x5 _
  intro v16 he hp
  simp only [List.nil_append, List.cons_append, List.getElem?_cons_succ, List.getElem?_cons_zero, Option.some.injEq] at he
  subst he
  obtain ⟨gn, rfl, Xn, pn, qn, BXn, IVn⟩ := hp
  intro v16 he hp
  simp only [List.nil_append, List.cons_append, List.getElem?_cons_succ, List.getElem?_cons_zero, Option.some.injEq] at he
  subst he
  obtain ⟨gd, rfl, Xd, pd, qd, BXd, IVd⟩ := hp
  simp only [setOpt, Rg.setOpt, List.set_cons_succ, List.set_cons_zero, ptr]
  refine hK _ _ ?_
  clear hK K
  replace hs := hs.below
  have hgb : gn = gb16x4 := Option.some.inj hE16x4
  have NEnr : Hid (gn ≠ (g + 1 + 1)) := by have h1 := RXr.out.lt; unfold Hid; omega
  have GBn : Hid (g ≤ gn) := by have := DW.out.size; have := hg.out; unfold Hid; omega
  have LTrn : Hid ((g + 1 + 1) < gn) := by have := RXr.out.lt; unfold Hid; omega
  have LTun : Hid (g < gn) := by have := BXu.out.lt; unfold Hid; omega
  have LTmn : Hid ((g + 1) < gn) := by have := BXm.out.lt; unfold Hid; omega
  have LTon : Hid (go < gn) := by have := BXo.out.lt; unfold Hid; omega
  have LThn : Hid (gh < gn) := by have := BXh.out.lt; unfold Hid; omega
  have LTen : Hid (ge < gn) := by have := BXe.out.lt; unfold Hid; omega
  have LTbn : Hid (gb < gn) := by have := BXb.out.lt; unfold Hid; omega
  clear hgb
  have hgb : gd = gb16x5 := Option.some.inj hE16x5
  have NEdr : Hid (gd ≠ (g + 1 + 1)) := by have h1 := RXr.out.lt; unfold Hid; omega
  have GBd : Hid (g ≤ gd) := by have := DW.out.size; have := hg.out; unfold Hid; omega
  have LTrd : Hid ((g + 1 + 1) < gd) := by have := RXr.out.lt; unfold Hid; omega
  have LTud : Hid (g < gd) := by have := BXu.out.lt; unfold Hid; omega
  have LTmd : Hid ((g + 1) < gd) := by have := BXm.out.lt; unfold Hid; omega
  have LTod : Hid (go < gd) := by have := BXo.out.lt; unfold Hid; omega
  have LThd : Hid (gh < gd) := by have := BXh.out.lt; unfold Hid; omega
  have LTed : Hid (ge < gd) := by have := BXe.out.lt; unfold Hid; omega
  have LTbd : Hid (gb < gd) := by have := BXb.out.lt; unfold Hid; omega
  have NQnd : Hid (gn ≠ gd) := by have h3 := hN16x5 4 _ (by rfl) (by kernel_rfl); unfold Hid; rintro rfl; exact h3 (congrArg some hgb)
  clear hgb
  clear hE16x4 hB16x4 hN16x4 hE16x5 hB16x5 hN16x5
  replace BXu := nxb BXu hs rfl; replace IVu := nxv IVu hs rfl
  replace BXm := nxb BXm hs rfl; replace IVm := nxv IVm hs rfl
  replace BXo := nxb BXo hs rfl; replace IVo := nxv IVo hs rfl
  replace BXh := nxb BXh hs rfl; replace IVh := nxv IVh hs rfl
  replace BXe := nxb BXe hs rfl; replace IVe := nxv IVe hs rfl
  replace BXb := nxb BXb hs rfl; replace IVb := nxv IVb hs rfl
  replace RXr := Lib.hid (RXr.out.next hs rfl)
  replace DW := nxd DW hg hs rfl rfl rfl rfl
  generalize hsg : decide ((R : Int) < 0) = sn at *
  clear hsg
  replace BXn := Lib.hid BXn; replace IVn := Lib.hid IVn
  generalize hsg : decide ((T : Int) < 0) = sd at *
  clear hsg
  replace BXd := Lib.hid BXd; replace IVd := Lib.hid IVd
  clear hs
  clear QXf IVnf IVdf
  go_upto_region 8 with fail
  obtain ⟨sT1, hsT⟩ : ∃ x, sg T = x := ⟨_, rfl⟩
  have dT : decide (sT1 < 0) = false := by
    rw [← hsT]
    have := HT.out
    rcases sg_cases T with ⟨h1, e1⟩ | ⟨h1, e1⟩ | ⟨h1, e1⟩ <;> rw [e1] <;> first | rfl | omega
  replace hsT := Lib.hid hsT
  have u17a := BXd.out.cell0; have u17b := BXd.out.cell1
  go_wp2_with fail
  clear u17a u17b
  refine (sign_is _ T sT1 _ IVd.out (ST.out.mono (by omega)) hsT.out).mono ?_
  rintro e y18 ⟨rfl, hb⟩
  replace BXu := nxb BXu hb rfl; replace IVu := nxv IVu hb rfl
  replace BXm := nxb BXm hb rfl; replace IVm := nxv IVm hb rfl
  replace BXo := nxb BXo hb rfl; replace IVo := nxv IVo hb rfl
  replace BXh := nxb BXh hb rfl; replace IVh := nxv IVh hb rfl
  replace BXe := nxb BXe hb rfl; replace IVe := nxv IVe hb rfl
  replace BXb := nxb BXb hb rfl; replace IVb := nxv IVb hb rfl
  replace BXn := nxb BXn hb rfl; replace IVn := nxv IVn hb rfl
  replace BXd := nxb BXd hb rfl; replace IVd := nxv IVd hb rfl
  replace RXr := Lib.hid (RXr.out.next hb rfl)
  replace DW := nxd DW hg hb rfl rfl rfl rfl
  clear hb
  go_upto_region 10 with fail
  clear dT
  obtain ⟨o, ho⟩ : ∃ o, cmpZ (T) (b : Int) = o := ⟨_, rfl⟩
  have HO : Hid (decide (0 < o) = false) := by
    rw [← ho]
    have := HD.out
    rcases Int.lt_trichotomy (T) (b : Int) with h | h | h
    · rw [cmpZ_lt h]; first | rfl | omega
    · rw [cmpZ_eq h]; first | rfl | omega
    · rw [cmpZ_gt h]; first | rfl | omega
  replace ho := Lib.hid ho
  refine Rg.region_gg y18 [.is (.agg #[.bool sd, .slice Xd pd qd]), .is (.agg #[.bool sb, .slice Xb pb qb]), .is (Value.int IntKind.i64 o), .is (Value.bool false), .is (Value.bool false), .is (.agg #[.bool sn, .slice Xn pn qn]), .is (.agg #[.bool sd, .slice Xd pd qd]), .sat (pIv ((1 : Int))) (pIv_keep _), .is (.agg #[.bool so, .slice Xo po qo]), .is (Value.int IntKind.i64 0), .is (Value.bool false), .is (Value.bool false)] [] [some 49, some 50, some 51, some 52, some 53, some 54, some 55, some 56, some 57, some 58, some 59, some 60] (by kernel_rfl) (by kernel_rfl) (by kernel_rfl) (by kernel_rfl) (by kernel_rfl) (by simp [Rg.stos]) (by rfl) (by rfl) (by kernel_rfl) (by simp) ((Below.refl _ _).drew) (fun Q' => ?_) (fun K hK wn hs => ?_)
  · refine ⟨?_, ?_, ?_, ?_, ?_, ?_, ?_, ?_, ?_, ?_, ?_, ?_, trivial⟩
    · intro a' w' ha hs hw hold
      have eo14 : a'.tmps[14]? = some (ptr gd) := (ha.rest 14 (by kernel_rfl)).trans rfl
      exact ⟨rfl, .inl ⟨wanted_none rfl, wp_val (run_pload rfl (ev_tmp eo14) (BXd.out.bel hs (by simp))) ⟨rfl, Below.refl _ _⟩⟩⟩
    · intro a' w' ha hs hw hold
      have eo10 : a'.tmps[10]? = some (ptr gb) := (ha.rest 10 (by kernel_rfl)).trans rfl
      exact ⟨rfl, .inl ⟨wanted_none rfl, wp_val (run_pload rfl (ev_tmp eo10) (BXb.out.bel hs (by simp))) ⟨rfl, Below.refl _ _⟩⟩⟩
    · intro a' w' ha hs hw hold
      have e0 : a'.tmps[49]? = some (.agg #[.bool sd, .slice Xd pd qd]) := Rg.slot_get rfl rfl (hw 0 (by kernel_rfl) _ rfl)
      have e1 : a'.tmps[50]? = some (.agg #[.bool sb, .slice Xb pb qb]) := Rg.slot_get rfl rfl (hw 1 (by kernel_rfl) _ rfl)
      exact ⟨rfl, .inl ⟨wanted_none rfl, call_step rfl Try.func28 (by kernel_rfl) rfl (map_two (ev_tmp e0) (ev_tmp e1)) (cmp_is _ _ (T) (b : Int) o _ (IVd.out.kn hs.kn) (IVb.out.kn hs.kn) (ST.out.mono (by omega)) (SB.out.mono (by omega)) ho.out) (fun e w2 he => by obtain ⟨rfl, hb⟩ := he; exact ⟨_, rfl, rfl, hb⟩)⟩⟩
    · intro a' w' ha hs hw hold
      have e2 : a'.tmps[51]? = some (Value.int IntKind.i64 o) := Rg.slot_get rfl rfl (hw 2 (by kernel_rfl) _ rfl)
      exact ⟨rfl, .inl ⟨wanted_none rfl, wp_val (run_gtrB rfl (ev_tmp e2) rfl HO.out) ⟨rfl, Below.refl _ _⟩⟩⟩
    · intro a' w' ha hs hw hold
      have e3 : a'.tmps[52]? = some (Value.bool false) := Rg.slot_get rfl rfl (hw 3 (by kernel_rfl) _ rfl)
      exact ⟨rfl, .inl ⟨wanted_none rfl, wp_val (run_move rfl (ev_tmp e3)) ⟨rfl, Below.refl _ _⟩⟩⟩
    · intro a' w' ha hs hw hold
      have e4 : a'.tmps[53]? = some (Value.bool false) := Rg.slot_get rfl rfl (hw 4 (by kernel_rfl) _ rfl)
      have eo13 : a'.tmps[13]? = some (ptr gn) := (ha.rest 13 (by kernel_rfl)).trans rfl
      exact ⟨rfl, .inl ⟨wanted_some rfl rfl rfl e4, wp_val (run_pload rfl (ev_tmp eo13) (BXn.out.bel hs (by simp))) ⟨rfl, Below.refl _ _⟩⟩⟩
    · intro a' w' ha hs hw hold
      have e4 : a'.tmps[53]? = some (Value.bool false) := Rg.slot_get rfl rfl (hw 4 (by kernel_rfl) _ rfl)
      have eo14 : a'.tmps[14]? = some (ptr gd) := (ha.rest 14 (by kernel_rfl)).trans rfl
      exact ⟨rfl, .inl ⟨wanted_some rfl rfl rfl e4, wp_val (run_pload rfl (ev_tmp eo14) (BXd.out.bel hs (by simp))) ⟨rfl, Below.refl _ _⟩⟩⟩
    · intro a' w' ha hs hw hold
      have e4 : a'.tmps[53]? = some (Value.bool false) := Rg.slot_get rfl rfl (hw 4 (by kernel_rfl) _ rfl)
      have e5 : a'.tmps[54]? = some (.agg #[.bool sn, .slice Xn pn qn]) := Rg.slot_get rfl rfl (hw 5 (by kernel_rfl) _ rfl)
      have e6 : a'.tmps[55]? = some (.agg #[.bool sd, .slice Xd pd qd]) := Rg.slot_get rfl rfl (hw 6 (by kernel_rfl) _ rfl)
      exact ⟨rfl, wanted_some rfl rfl rfl e4, call_step rfl Try.func25 (by kernel_rfl) rfl (map_two (ev_tmp e5) (ev_tmp e6)) (gcd_is _ _ (R) (T) 1 _ (IVn.out.kn hs.kn) (IVd.out.kn hs.kn) (SR.out.mono (by omega)) (ST.out.mono (by omega)) (by rw [HCc.out]; rfl)) (fun e w2 he => by obtain ⟨v, rfl, hv, hb⟩ := he; exact ⟨v, rfl, v, rfl, hv, hb⟩)⟩
    · intro a' w' ha hs hw hold
      have e4 : a'.tmps[53]? = some (Value.bool false) := Rg.slot_get rfl rfl (hw 4 (by kernel_rfl) _ rfl)
      have eo6 : a'.tmps[6]? = some (ptr go) := (ha.rest 6 (by kernel_rfl)).trans rfl
      exact ⟨rfl, .inl ⟨wanted_some rfl rfl rfl e4, wp_val (run_pload rfl (ev_tmp eo6) (BXo.out.bel hs (by simp))) ⟨rfl, Below.refl _ _⟩⟩⟩
    · intro a' w' ha hs hw hold
      have e4 : a'.tmps[53]? = some (Value.bool false) := Rg.slot_get rfl rfl (hw 4 (by kernel_rfl) _ rfl)
      obtain ⟨v7, e7, q7⟩ := hw 7 (by kernel_rfl) _ rfl
      replace e7 : a'.tmps[56]? = some v7 := Rg.slot_get rfl rfl e7
      have e8 : a'.tmps[57]? = some (.agg #[.bool so, .slice Xo po qo]) := Rg.slot_get rfl rfl (hw 8 (by kernel_rfl) _ rfl)
      exact ⟨rfl, .inl ⟨wanted_some rfl rfl rfl e4, call_step rfl Try.func28 (by kernel_rfl) rfl (map_two (ev_tmp e7) (ev_tmp e8)) (cmp_is _ _ 1 c1 0 _ q7 (IVo.out.kn hs.kn) ((Sz.small (by omega) (by omega)).mono (by omega)) (hc1.out ▸ (Sz.small (by omega) (by omega)).mono (by omega)) (cmpZ_eq hc1.out.symm)) (fun e w2 he => by obtain ⟨rfl, hb⟩ := he; exact ⟨_, rfl, rfl, hb⟩)⟩⟩
    · intro a' w' ha hs hw hold
      have e4 : a'.tmps[53]? = some (Value.bool false) := Rg.slot_get rfl rfl (hw 4 (by kernel_rfl) _ rfl)
      have e9 : a'.tmps[58]? = some (Value.int IntKind.i64 0) := Rg.slot_get rfl rfl (hw 9 (by kernel_rfl) _ rfl)
      exact ⟨rfl, .inl ⟨wanted_some rfl rfl rfl e4, wp_val (show _ = _ from (run_neq_int rfl (ev_tmp e9) rfl).trans (by rfl)) ⟨rfl, Below.refl _ _⟩⟩⟩
    · intro a' w' ha hs hw hold
      have e4 : a'.tmps[53]? = some (Value.bool false) := Rg.slot_get rfl rfl (hw 4 (by kernel_rfl) _ rfl)
      have e10 : a'.tmps[59]? = some (Value.bool false) := Rg.slot_get rfl rfl (hw 10 (by kernel_rfl) _ rfl)
      exact ⟨rfl, .inl ⟨wanted_none rfl, wp_val (run_pick (b := false) rfl (ev_tmp e4) (ev_tmp e10)) ⟨rfl, Below.refl _ _⟩⟩⟩
  simp only [Rg.allG]
  intro r19x7 _
  simp only [setOpt, Rg.setOpt, List.set_cons_succ, List.set_cons_zero]
  refine hK _ _ ?_
  clear hK K
  replace hs := hs.below
  replace BXu := nxb BXu hs rfl; replace IVu := nxv IVu hs rfl
  replace BXm := nxb BXm hs rfl; replace IVm := nxv IVm hs rfl
  replace BXo := nxb BXo hs rfl; replace IVo := nxv IVo hs rfl
  replace BXh := nxb BXh hs rfl; replace IVh := nxv IVh hs rfl
  replace BXe := nxb BXe hs rfl; replace IVe := nxv IVe hs rfl
  replace BXb := nxb BXb hs rfl; replace IVb := nxv IVb hs rfl
  replace BXn := nxb BXn hs rfl; replace IVn := nxv IVn hs rfl
  replace BXd := nxb BXd hs rfl; replace IVd := nxv IVd hs rfl
  replace RXr := Lib.hid (RXr.out.next hs rfl)
  replace DW := nxd DW hg hs rfl rfl rfl rfl
  clear hs
  go_upto_region 12 with fail
  have u20a := BXn.out.cell0; have u20b := BXn.out.cell1
  have u21a := BXd.out.cell0; have u21b := BXd.out.cell1
  have u22a := RXr.out.cell0; have u22b := RXr.out.cell1; have u22c := RXr.out.cell2; have u22d := RXr.out.cell3; have u22f := RXr.out.frozen 0; have u22g := RXr.out.frozen 1; have u22h := RXr.out.frozen 2; have u22i := RXr.out.frozen 3
  go_wp2
  refine bodyPost_ret (v := .tuple #[.agg #[.bool sn, .slice Xn pn qn, .bool sd, .slice Xd pd qd], .bool true]) (by simp [results, Try.results68, go_sem, u20a, u20b, u21a, u21b, u22a, u22b, u22c, u22d, u22f, u22g, u22h, u22i]) rfl ⟨_, rfl, ?_, by rw [hg.out]; exact (((DW.out.setCell (by simp <;> omega) _).setCell (by simp <;> omega) _).setCell (by simp <;> omega) _).setCell (by simp <;> omega) _⟩
  have hc := chg_qbox (b' := sn) (d' := sd) (A' := Xn) (n' := pn) (c' := qn) (B' := Xd) (m' := pd) (e' := qd) RXr.out
  exact qv_of (IVn.out.kn hc.kn) (IVd.out.kn hc.kn)

set_option maxHeartbeats 8000000 in
set_option maxRecDepth 100000 in
theorem rebuild_big (vu vm : Value) (zu zm R T : Int) (a b : Nat) (w : World) (hu : Iv w vu zu) (su : Sz zu 400) (hm : Iv w vm zm) (sm : Sz zm 400) (hm0 : 0 < zm) (ha : (zm - 1) / 2 = (a : Int)) (hb1 : b ^ 2 ≤ a) (hb2 : a < (b + 1) ^ 2) (hbm : (b : Int) < zm) (hR : Row.fsh (zm.toNat + 1) b zm 0 (zu % zm) 1 = (R, T)) (sR : Sz R 400) (sT : Sz T 400) (hT : 0 ≤ T) (hd : b < T) : Calls Try.prog 68 #[vu, vm] w (RetQB 0 0 false w) := by
  obtain ⟨Xu, pu, qu, rfl, _, _, _⟩ := hu.form
  have Hu := Lib.hid hu
  have SZu := Lib.hid su
  clear hu su
  generalize hs : decide (zu < 0) = su at *
  clear hs
  obtain ⟨Xm, pm, qm, rfl, _, _, _⟩ := hm.form
  have Hm := Lib.hid hm
  have SZm := Lib.hid sm
  clear hm sm
  generalize hs : decide (zm < 0) = sm at *
  clear hs
  obtain ⟨c1, hc1⟩ : ∃ z : Int, z = 1 := ⟨_, rfl⟩
  have HA : Hid ((zm - c1) / 2 = (a : Int)) := by rw [hc1]; exact ha
  obtain ⟨ze, hze⟩ : ∃ z : Int, (zm - c1) % 2 = z := ⟨_, rfl⟩
  have hgm : Hid (sg zm = 1) := by rcases sg_cases zm with ⟨h1, e1⟩ | ⟨h1, e1⟩ | ⟨h1, e1⟩ <;> first | exact e1 | omega
  have SA : Hid (Sz (a : Int) 400) := ⟨by have := SZm.out.lt; rw [Int.natAbs_natCast]; omega⟩
  have SB : Hid (Sz (b : Int) 400) := ⟨by have := SZm.out.lt; rw [Int.natAbs_natCast]; omega⟩
  have HM0 := Lib.hid hm0; have HB1 := Lib.hid hb1; have HB2 := Lib.hid hb2; have HBM := Lib.hid hbm; have HR := Lib.hid hR; have SR := Lib.hid sR; have ST := Lib.hid sT; have HT := Lib.hid hT; have HD := Lib.hid hd
  skip
  replace hc1 := Lib.hid hc1; replace hze := Lib.hid hze
  clear hm0 ha hb1 hb2 hbm hR sR sT hT hd
  go_enter Try.func68, Try.ntmps68
  go_wp2_with fail
  obtain ⟨W, hW⟩ : ∃ W, W = (((w.alloc (Obj.cells #[Value.bool su, Value.slice Xu pu qu] 27)).alloc (Obj.cells #[Value.bool sm, Value.slice Xm pm qm] 27)).alloc (Obj.cells #[Value.bool false, Value.slice none 0 0, Value.bool false, Value.slice none 0 0] 60)) := ⟨_, rfl⟩
  rw [← hW]
  have BXu : Hid (Box W (w.heap.size) su (.slice Xu pu qu)) := by rw [hW]; have := ((Box.new w su (Value.slice Xu pu qu)).alloc (Obj.cells #[Value.bool sm, Value.slice Xm pm qm] 27)).alloc (Obj.cells #[Value.bool false, Value.slice none 0 0, Value.bool false, Value.slice none 0 0] 60); simpa [Hid] using this
  have BXm : Hid (Box W (w.heap.size + 1) sm (.slice Xm pm qm)) := by rw [hW]; have := (Box.new (w.alloc (Obj.cells #[Value.bool su, Value.slice Xu pu qu] 27)) sm (Value.slice Xm pm qm)).alloc (Obj.cells #[Value.bool false, Value.slice none 0 0, Value.bool false, Value.slice none 0 0] 60); simpa [Hid] using this
  have RXr : Hid (QBox W (w.heap.size + 1 + 1) false (.slice none 0 0) false (.slice none 0 0)) := by rw [hW]; have := QBox.new ((w.alloc (Obj.cells #[Value.bool su, Value.slice Xu pu qu] 27)).alloc (Obj.cells #[Value.bool sm, Value.slice Xm pm qm] 27)) false (Value.slice none 0 0) false (Value.slice none 0 0); simpa [Hid] using this
  have IVu : Hid (Iv W (.agg #[.bool su, .slice Xu pu qu]) (zu)) := by rw [hW]; exact (((Hu.out).alloc _).alloc _).alloc _
  have IVm : Hid (Iv W (.agg #[.bool sm, .slice Xm pm qm]) (zm)) := by rw [hW]; exact (((Hm.out).alloc _).alloc _).alloc _
  have DW : Hid (Below w.heap.size w W) := by rw [hW]; exact (((Below.refl _ _).alloc (by simp <;> omega) _).alloc (by simp <;> omega) _).alloc (by simp <;> omega) _
  clear hW
  generalize hg : w.heap.size = g at *
  replace hg := Lib.hid hg
  go_upto_region 1 with fail
  have u1a := BXm.out.cell0; have u1b := BXm.out.cell1
  go_wp2_with fail
  clear u1a u1b
  refine (sign_is _ zm 1 _ IVm.out (SZm.out.mono (by omega)) hgm.out).mono ?_
  rintro e y2 ⟨rfl, hb⟩
  replace BXu := nxb BXu hb rfl; replace IVu := nxv IVu hb rfl
  replace BXm := nxb BXm hb rfl; replace IVm := nxv IVm hb rfl
  replace RXr := Lib.hid (RXr.out.next hb rfl)
  replace DW := nxd DW hg hb rfl rfl rfl rfl
  clear hb
  go_upto_region 3 with fail
  go_wp2_with fail
  refine (Row.of_z 1 c1 _ (by omega) (by omega) hc1.out).mono ?_
  rintro e y3 ⟨_, rfl, hq, hb⟩
  obtain ⟨Xo, po, qo, rfl, _, _, _⟩ := hq.form
  have Qo := Lib.hid hq; clear hq
  have B := Lib.hid hb; clear hb
  generalize hs : decide ((c1 : Int) < 0) = so at *
  clear hs
  go_upto_region 4 with fail
  obtain ⟨W4, hW⟩ : ∃ W4, W4 = (y3.alloc (Obj.cells #[Value.bool so, Value.slice Xo po qo] 27)) := ⟨_, rfl⟩
  rw [← hW]
  have BXo : Hid (Box W4 (y3.heap.size) so (.slice Xo po qo)) := by rw [hW]; have := Box.new y3 so (.slice Xo po qo); simpa [Hid] using this
  have IVo : Hid (Iv W4 (.agg #[.bool so, .slice Xo po qo]) (c1)) := by rw [hW]; exact (Qo.out).alloc _
  have hd : Below y2.heap.size y2 W4 := by rw [hW]; exact (B.out).alloc (by have := B.out.size; simp <;> omega) _
  have NEor : Hid ((y3.heap.size) ≠ (g + 1 + 1)) := by have := RXr.out.lt; have := B.out.size; unfold Hid; omega
  have GBo : Hid (g ≤ y3.heap.size) := by have := DW.out.size; have := hg.out; have := B.out.size; unfold Hid; omega
  have LTro : Hid ((g + 1 + 1) < y3.heap.size) := by have := RXr.out.lt; have := B.out.size; unfold Hid; omega
  have LTuo : Hid (g < y3.heap.size) := by have := BXu.out.lt; have := B.out.size; unfold Hid; omega
  have LTmo : Hid ((g + 1) < y3.heap.size) := by have := BXm.out.lt; have := B.out.size; unfold Hid; omega
  clear hW B Qo
  generalize hgn4 : y3.heap.size = go at *
  clear hgn4
  replace BXu := nxb BXu hd rfl; replace IVu := nxv IVu hd rfl
  replace BXm := nxb BXm hd rfl; replace IVm := nxv IVm hd rfl
  replace RXr := Lib.hid (RXr.out.next hd rfl)
  replace DW := nxd DW hg hd rfl rfl rfl rfl
  clear hd
  have u5a := BXm.out.cell0; have u5b := BXm.out.cell1
  have u6a := BXo.out.cell0; have u6b := BXo.out.cell1
  go_wp2_with fail
  clear u5a u5b u6a u6b
  refine (sub_any _ _ zm c1 _ IVm.out IVo.out (SZm.out.mono (by omega)) (hc1.out ▸ (Sz.small (by omega) (by omega)).mono (by omega))).mono ?_
  rintro e y7 ⟨_, rfl, hq, hb⟩
  replace hq := Lib.hid hq
  replace BXu := nxb BXu hb rfl; replace IVu := nxv IVu hb rfl
  replace BXm := nxb BXm hb rfl; replace IVm := nxv IVm hb rfl
  replace BXo := nxb BXo hb rfl; replace IVo := nxv IVo hb rfl
  replace RXr := Lib.hid (RXr.out.next hb rfl)
  replace DW := nxd DW hg hb rfl rfl rfl rfl
  clear hb
  go_wp2_with fail
  refine (of_any 2 _ (by omega) (by omega)).mono ?_
  rintro e y81 ⟨_, rfl, hq1, hb⟩
  replace hq := Lib.hid (iv_next hq.out hb rfl); replace hq1 := Lib.hid hq1
  replace BXu := nxb BXu hb rfl; replace IVu := nxv IVu hb rfl
  replace BXm := nxb BXm hb rfl; replace IVm := nxv IVm hb rfl
  replace BXo := nxb BXo hb rfl; replace IVo := nxv IVo hb rfl
  replace RXr := Lib.hid (RXr.out.next hb rfl)
  replace DW := nxd DW hg hb rfl rfl rfl rfl
  clear hb
  have SM1 : Hid (Sz (zm - c1) 401) := ⟨by have h1 := SZm.out.lt; have h2 := HM0.out; have h3 := hc1.out; have h4 := pw_lt (show 400 < 401 by omega); omega⟩
  go_wp2_with fail
  refine (divMod_any _ _ (zm - c1) 2 _ hq.out hq1.out (SM1.out.mono (by omega)) ((Sz.small (by omega) (by omega)).mono (by omega)) (by omega)).mono ?_
  rintro e y82 ⟨_, _, rfl, hq0, hq2, hb⟩
  rw [HA.out] at hq0
  rw [hze.out] at hq2
  clear hq hq1
  obtain ⟨Xh, ph, qh, rfl, _, _, _⟩ := hq0.form
  have Qh := Lib.hid hq0; clear hq0
  obtain ⟨Xe, pe, qe, rfl, _, _, _⟩ := hq2.form
  have Qe := Lib.hid hq2; clear hq2
  have B := Lib.hid hb; clear hb
  generalize hs : decide (((a : Int) : Int) < 0) = sh at *
  clear hs
  generalize hs : decide ((ze : Int) < 0) = se at *
  clear hs
  go_upto_region 5 with fail
  obtain ⟨W8, hW⟩ : ∃ W8, W8 = ((y82.alloc (Obj.cells #[Value.bool sh, Value.slice Xh ph qh] 27)).alloc (Obj.cells #[Value.bool se, Value.slice Xe pe qe] 27)) := ⟨_, rfl⟩
  rw [← hW]
  have BXh : Hid (Box W8 (y82.heap.size) sh (.slice Xh ph qh)) := by rw [hW]; have := (Box.new y82 sh (.slice Xh ph qh)).alloc (Obj.cells #[Value.bool se, Value.slice Xe pe qe] 27); simpa [Hid] using this
  have IVh : Hid (Iv W8 (.agg #[.bool sh, .slice Xh ph qh]) ((a : Int))) := by rw [hW]; exact ((Qh.out).alloc _).alloc _
  have BXe : Hid (Box W8 (y82.heap.size + 1) se (.slice Xe pe qe)) := by rw [hW]; have := Box.new (y82.alloc (Obj.cells #[Value.bool sh, Value.slice Xh ph qh] 27)) se (.slice Xe pe qe); simpa [Hid] using this
  have IVe : Hid (Iv W8 (.agg #[.bool se, .slice Xe pe qe]) (ze)) := by rw [hW]; exact ((Qe.out).alloc _).alloc _
  have hd : Below y81.heap.size y81 W8 := by rw [hW]; exact ((B.out).alloc (by have := B.out.size; simp <;> omega) _).alloc (by have := B.out.size; simp <;> omega) _
  have NEer : Hid ((y82.heap.size + 1) ≠ (g + 1 + 1)) := by have := RXr.out.lt; have := B.out.size; unfold Hid; omega
  have NEhr : Hid ((y82.heap.size) ≠ (g + 1 + 1)) := by have := RXr.out.lt; have := B.out.size; unfold Hid; omega
  have GBh : Hid (g ≤ y82.heap.size) := by have := DW.out.size; have := hg.out; have := B.out.size; unfold Hid; omega
  have LTrh : Hid ((g + 1 + 1) < y82.heap.size) := by have := RXr.out.lt; have := B.out.size; unfold Hid; omega
  have LTuh : Hid (g < y82.heap.size) := by have := BXu.out.lt; have := B.out.size; unfold Hid; omega
  have LTmh : Hid ((g + 1) < y82.heap.size) := by have := BXm.out.lt; have := B.out.size; unfold Hid; omega
  have LToh : Hid (go < y82.heap.size) := by have := BXo.out.lt; have := B.out.size; unfold Hid; omega
  have GBe : Hid (g ≤ y82.heap.size + 1) := by have := DW.out.size; have := hg.out; have := B.out.size; unfold Hid; omega
  have LTre : Hid ((g + 1 + 1) < y82.heap.size + 1) := by have := RXr.out.lt; have := B.out.size; unfold Hid; omega
  have LThe : Hid (y82.heap.size < y82.heap.size + 1) := by unfold Hid; omega
  have LTue : Hid (g < y82.heap.size + 1) := by have := BXu.out.lt; have := B.out.size; unfold Hid; omega
  have LTme : Hid ((g + 1) < y82.heap.size + 1) := by have := BXm.out.lt; have := B.out.size; unfold Hid; omega
  have LToe : Hid (go < y82.heap.size + 1) := by have := BXo.out.lt; have := B.out.size; unfold Hid; omega
  clear hW B Qh Qe
  generalize hgn8 : y82.heap.size + 1 = ge at *
  clear hgn8
  generalize hgn8 : y82.heap.size = gh at *
  clear hgn8
  replace BXu := nxb BXu hd rfl; replace IVu := nxv IVu hd rfl
  replace BXm := nxb BXm hd rfl; replace IVm := nxv IVm hd rfl
  replace BXo := nxb BXo hd rfl; replace IVo := nxv IVo hd rfl
  replace RXr := Lib.hid (RXr.out.next hd rfl)
  replace DW := nxd DW hg hd rfl rfl rfl rfl
  clear hd
  have u9a := BXh.out.cell0; have u9b := BXh.out.cell1
  go_wp2_with fail
  clear u9a u9b
  refine (root_int _ a 2 b 2 _ IVh.out (SA.out.mono (by omega)) rfl (by omega) (by omega) HB1.out HB2.out).mono ?_
  rintro e y10 ⟨_, rfl, hq, hb⟩
  obtain ⟨Xb, pb, qb, rfl, _, _, _⟩ := hq.form
  have Qb := Lib.hid hq; clear hq
  have B := Lib.hid hb; clear hb
  generalize hs : decide (((b : Int) : Int) < 0) = sb at *
  clear hs
  go_upto_region 6 with fail
  obtain ⟨W11, hW⟩ : ∃ W11, W11 = (y10.alloc (Obj.cells #[Value.bool sb, Value.slice Xb pb qb] 27)) := ⟨_, rfl⟩
  rw [← hW]
  have BXb : Hid (Box W11 (y10.heap.size) sb (.slice Xb pb qb)) := by rw [hW]; have := Box.new y10 sb (.slice Xb pb qb); simpa [Hid] using this
  have IVb : Hid (Iv W11 (.agg #[.bool sb, .slice Xb pb qb]) ((b : Int))) := by rw [hW]; exact (Qb.out).alloc _
  have hd : Below W8.heap.size W8 W11 := by rw [hW]; exact (B.out).alloc (by have := B.out.size; simp <;> omega) _
  have NEbr : Hid ((y10.heap.size) ≠ (g + 1 + 1)) := by have := RXr.out.lt; have := B.out.size; unfold Hid; omega
  have GBb : Hid (g ≤ y10.heap.size) := by have := DW.out.size; have := hg.out; have := B.out.size; unfold Hid; omega
  have LTrb : Hid ((g + 1 + 1) < y10.heap.size) := by have := RXr.out.lt; have := B.out.size; unfold Hid; omega
  have LTub : Hid (g < y10.heap.size) := by have := BXu.out.lt; have := B.out.size; unfold Hid; omega
  have LTmb : Hid ((g + 1) < y10.heap.size) := by have := BXm.out.lt; have := B.out.size; unfold Hid; omega
  have LTob : Hid (go < y10.heap.size) := by have := BXo.out.lt; have := B.out.size; unfold Hid; omega
  have LThb : Hid (gh < y10.heap.size) := by have := BXh.out.lt; have := B.out.size; unfold Hid; omega
  have LTeb : Hid (ge < y10.heap.size) := by have := BXe.out.lt; have := B.out.size; unfold Hid; omega
  clear hW B Qb
  generalize hgn11 : y10.heap.size = gb at *
  clear hgn11
  replace BXu := nxb BXu hd rfl; replace IVu := nxv IVu hd rfl
  replace BXm := nxb BXm hd rfl; replace IVm := nxv IVm hd rfl
  replace BXo := nxb BXo hd rfl; replace IVo := nxv IVo hd rfl
  replace BXh := nxb BXh hd rfl; replace IVh := nxv IVh hd rfl
  replace BXe := nxb BXe hd rfl; replace IVe := nxv IVe hd rfl
  replace RXr := Lib.hid (RXr.out.next hd rfl)
  replace DW := nxd DW hg hd rfl rfl rfl rfl
  clear hd
  have u12a := BXu.out.cell0; have u12b := BXu.out.cell1
  have u13a := BXm.out.cell0; have u13b := BXm.out.cell1
  have u14a := BXb.out.cell0; have u14b := BXb.out.cell1
  go_wp2_with fail
  clear u12a u12b u13a u13b u14a u14b
  refine (Row.first_any _ _ _ zu zm (b : Int) R T _ IVu.out (SZu.out.mono (by omega)) IVm.out (SZm.out.mono (by omega)) IVb.out (SB.out.mono (by omega)) HM0.out (by omega) HBM.out HR.out).mono ?_
  rintro e y15 ⟨_, rfl, hq, hb⟩
  obtain ⟨Xfn, pfn, qfn, Xfd, pfd, qfd, rfl, hfn, hfd⟩ := hq
  have Qfn := Lib.hid hfn; have Qfd := Lib.hid hfd; clear hfn hfd
  have B := Lib.hid hb; clear hb
  generalize hs : decide (R < 0) = sfn at *
  clear hs
  generalize hs : decide (T < 0) = sfd at *
  clear hs
  go_upto_region 7 with fail
  obtain ⟨W90, hW⟩ : ∃ W90, W90 = y15.alloc (Obj.cells #[Value.bool sfn, Value.slice Xfn pfn qfn, Value.bool sfd, Value.slice Xfd pfd qfd] 130) := ⟨_, rfl⟩
  rw [← hW]
  have QXf : Hid (Row.QBox W90 y15.heap.size sfn (.slice Xfn pfn qfn) sfd (.slice Xfd pfd qfd)) := by rw [hW]; exact Row.QBox.new _ _ _ _ _
  have IVnf : Hid (Iv W90 (.agg #[.bool sfn, .slice Xfn pfn qfn]) R) := by rw [hW]; exact Qfn.out.alloc _
  have IVdf : Hid (Iv W90 (.agg #[.bool sfd, .slice Xfd pfd qfd]) T) := by rw [hW]; exact Qfd.out.alloc _
  have hd : Below W11.heap.size W11 W90 := by rw [hW]; exact B.out.alloc (by have := B.out.size; omega) _
  clear hW B Qfn Qfd
  generalize hgn90 : y15.heap.size = gf at *
  clear hgn90
  replace BXu := nxb BXu hd rfl; replace IVu := nxv IVu hd rfl
  replace BXm := nxb BXm hd rfl; replace IVm := nxv IVm hd rfl
  replace BXo := nxb BXo hd rfl; replace IVo := nxv IVo hd rfl
  replace BXh := nxb BXh hd rfl; replace IVh := nxv IVh hd rfl
  replace BXe := nxb BXe hd rfl; replace IVe := nxv IVe hd rfl
  replace BXb := nxb BXb hd rfl; replace IVb := nxv IVb hd rfl
  replace RXr := Lib.hid (RXr.out.next hd rfl)
  replace DW := nxd DW hg hd rfl rfl rfl rfl
  clear hd
  refine Rg.region_gg W90 [.is (.pointer (some ⟨gf, 0, none⟩)), .sat (pIv (R)) (pIv_keep _), .is (.pointer (some ⟨gf, 2, none⟩)), .sat (pIv (T)) (pIv_keep _), .own pNew pNew_keep, .own pNew pNew_keep, .put 4 (pPut (R)) (pPut_keep _), .put 5 (pPut (T)) (pPut_keep _)] [] [some 38, some 39, some 40, some 41, some 13, some 14, none, none] (by kernel_rfl) (by kernel_rfl) (by kernel_rfl) (by kernel_rfl) (by kernel_rfl) (by simp [Rg.stos]) (by rfl) (by rfl) (by kernel_rfl) (by simp) ((Below.refl _ _).drew) (fun Q' => ?_) (fun K hK wn hs => ?_)
  · refine ⟨?_, ?_, ?_, ?_, ?_, ?_, ?_, ?_, trivial⟩
    · intro a' w' ha hs hw hold
      have eo12 : a'.tmps[12]? = some (ptr gf) := (ha.rest 12 (by kernel_rfl)).trans rfl
      exact ⟨rfl, .inl ⟨wanted_none rfl, wp_val (Row.run_qfield0 rfl (ev_tmp eo12)) ⟨rfl, Below.refl _ _⟩⟩⟩
    · intro a' w' ha hs hw hold
      have e0 : a'.tmps[38]? = some (.pointer (some ⟨gf, 0, none⟩)) := Rg.slot_get rfl rfl (hw 0 (by kernel_rfl) _ rfl)
      exact ⟨rfl, wanted_none rfl, wp_val (Row.run_qload0 rfl (ev_tmp e0) (QXf.out.bel hs (by simp))) ⟨_, rfl, IVnf.out.kn hs.kn, Below.refl _ _⟩⟩
    · intro a' w' ha hs hw hold
      have eo12 : a'.tmps[12]? = some (ptr gf) := (ha.rest 12 (by kernel_rfl)).trans rfl
      exact ⟨rfl, .inl ⟨wanted_none rfl, wp_val (Row.run_qfield1 rfl (ev_tmp eo12)) ⟨rfl, Below.refl _ _⟩⟩⟩
    · intro a' w' ha hs hw hold
      have e2 : a'.tmps[40]? = some (.pointer (some ⟨gf, 2, none⟩)) := Rg.slot_get rfl rfl (hw 2 (by kernel_rfl) _ rfl)
      exact ⟨rfl, wanted_none rfl, wp_val (Row.run_qload1 rfl (ev_tmp e2) (QXf.out.bel hs (by simp))) ⟨_, rfl, IVdf.out.kn hs.kn, Below.refl _ _⟩⟩
    · intro a' w' ha hs hw hold
      exact ⟨rfl, wanted_none rfl, step_new rfl⟩
    · intro a' w' ha hs hw hold
      exact ⟨rfl, wanted_none rfl, step_new rfl⟩
    · intro a' w' ha hs hw hold
      obtain ⟨v1, e1, q1⟩ := hw 1 (by kernel_rfl) _ rfl
      replace e1 : a'.tmps[39]? = some v1 := Rg.slot_get rfl rfl e1
      refine ⟨rfl, wanted_none rfl, by kernel_rfl, fun pv pg pp ph pe1 pe2 pe3 pe4 => ?_⟩
      cases pe1
      exact step_put rfl rfl (ev_tmp (Rg.slot_get rfl rfl pe2)) (ev_tmp e1) pe3 pe4 q1
    · intro a' w' ha hs hw hold
      obtain ⟨v3, e3, q3⟩ := hw 3 (by kernel_rfl) _ rfl
      replace e3 : a'.tmps[41]? = some v3 := Rg.slot_get rfl rfl e3
      refine ⟨rfl, wanted_none rfl, by kernel_rfl, fun pv pg pp ph pe1 pe2 pe3 pe4 => ?_⟩
      cases pe1
      exact step_put rfl rfl (ev_tmp (Rg.slot_get rfl rfl pe2)) (ev_tmp e3) pe3 pe4 q3
  simp only [Rg.allG]
  intro r16x1 _
  intro r16x3 _
  intro a16x4 gb16x4 hE16x4 hB16x4 _ hN16x4 _
  intro a16x5 gb16x5 hE16x5 hB16x5 _ hN16x5 _
  intro v16 he hp
  simp only [List.nil_append, List.cons_append, List.getElem?_cons_succ, List.getElem?_cons_zero, Option.some.injEq] at he
  subst he
  obtain ⟨gn, rfl, Xn, pn, qn, BXn, IVn⟩ := hp
  intro v16 he hp
  simp only [List.nil_append, List.cons_append, List.getElem?_cons_succ, List.getElem?_cons_zero, Option.some.injEq] at he
  subst he
  obtain ⟨gd, rfl, Xd, pd, qd, BXd, IVd⟩ := hp
  simp only [setOpt, Rg.setOpt, List.set_cons_succ, List.set_cons_zero, ptr]
  refine hK _ _ ?_
  clear hK K
  replace hs := hs.below
  have hgb : gn = gb16x4 := Option.some.inj hE16x4
  have NEnr : Hid (gn ≠ (g + 1 + 1)) := by have h1 := RXr.out.lt; unfold Hid; omega
  have GBn : Hid (g ≤ gn) := by have := DW.out.size; have := hg.out; unfold Hid; omega
  have LTrn : Hid ((g + 1 + 1) < gn) := by have := RXr.out.lt; unfold Hid; omega
  have LTun : Hid (g < gn) := by have := BXu.out.lt; unfold Hid; omega
  have LTmn : Hid ((g + 1) < gn) := by have := BXm.out.lt; unfold Hid; omega
  have LTon : Hid (go < gn) := by have := BXo.out.lt; unfold Hid; omega
  have LThn : Hid (gh < gn) := by have := BXh.out.lt; unfold Hid; omega
  have LTen : Hid (ge < gn) := by have := BXe.out.lt; unfold Hid; omega
  have LTbn : Hid (gb < gn) := by have := BXb.out.lt; unfold Hid; omega
  clear hgb
  have hgb : gd = gb16x5 := Option.some.inj hE16x5
  have NEdr : Hid (gd ≠ (g + 1 + 1)) := by have h1 := RXr.out.lt; unfold Hid; omega
  have GBd : Hid (g ≤ gd) := by have := DW.out.size; have := hg.out; unfold Hid; omega
  have LTrd : Hid ((g + 1 + 1) < gd) := by have := RXr.out.lt; unfold Hid; omega
  have LTud : Hid (g < gd) := by have := BXu.out.lt; unfold Hid; omega
  have LTmd : Hid ((g + 1) < gd) := by have := BXm.out.lt; unfold Hid; omega
  have LTod : Hid (go < gd) := by have := BXo.out.lt; unfold Hid; omega
  have LThd : Hid (gh < gd) := by have := BXh.out.lt; unfold Hid; omega
  have LTed : Hid (ge < gd) := by have := BXe.out.lt; unfold Hid; omega
  have LTbd : Hid (gb < gd) := by have := BXb.out.lt; unfold Hid; omega
  have NQnd : Hid (gn ≠ gd) := by have h3 := hN16x5 4 _ (by rfl) (by kernel_rfl); unfold Hid; rintro rfl; exact h3 (congrArg some hgb)
  clear hgb
  clear hE16x4 hB16x4 hN16x4 hE16x5 hB16x5 hN16x5
  replace BXu := nxb BXu hs rfl; replace IVu := nxv IVu hs rfl
  replace BXm := nxb BXm hs rfl; replace IVm := nxv IVm hs rfl
  replace BXo := nxb BXo hs rfl; replace IVo := nxv IVo hs rfl
  replace BXh := nxb BXh hs rfl; replace IVh := nxv IVh hs rfl
  replace BXe := nxb BXe hs rfl; replace IVe := nxv IVe hs rfl
  replace BXb := nxb BXb hs rfl; replace IVb := nxv IVb hs rfl
  replace RXr := Lib.hid (RXr.out.next hs rfl)
  replace DW := nxd DW hg hs rfl rfl rfl rfl
  generalize hsg : decide ((R : Int) < 0) = sn at *
  clear hsg
  replace BXn := Lib.hid BXn; replace IVn := Lib.hid IVn
  generalize hsg : decide ((T : Int) < 0) = sd at *
  clear hsg
  replace BXd := Lib.hid BXd; replace IVd := Lib.hid IVd
  clear hs
  clear QXf IVnf IVdf
  go_upto_region 8 with fail
  obtain ⟨sT1, hsT⟩ : ∃ x, sg T = x := ⟨_, rfl⟩
  have dT : decide (sT1 < 0) = false := by
    rw [← hsT]
    have := HT.out
    rcases sg_cases T with ⟨h1, e1⟩ | ⟨h1, e1⟩ | ⟨h1, e1⟩ <;> rw [e1] <;> first | rfl | omega
  replace hsT := Lib.hid hsT
  have u17a := BXd.out.cell0; have u17b := BXd.out.cell1
  go_wp2_with fail
  clear u17a u17b
  refine (sign_is _ T sT1 _ IVd.out (ST.out.mono (by omega)) hsT.out).mono ?_
  rintro e y18 ⟨rfl, hb⟩
  replace BXu := nxb BXu hb rfl; replace IVu := nxv IVu hb rfl
  replace BXm := nxb BXm hb rfl; replace IVm := nxv IVm hb rfl
  replace BXo := nxb BXo hb rfl; replace IVo := nxv IVo hb rfl
  replace BXh := nxb BXh hb rfl; replace IVh := nxv IVh hb rfl
  replace BXe := nxb BXe hb rfl; replace IVe := nxv IVe hb rfl
  replace BXb := nxb BXb hb rfl; replace IVb := nxv IVb hb rfl
  replace BXn := nxb BXn hb rfl; replace IVn := nxv IVn hb rfl
  replace BXd := nxb BXd hb rfl; replace IVd := nxv IVd hb rfl
  replace RXr := Lib.hid (RXr.out.next hb rfl)
  replace DW := nxd DW hg hb rfl rfl rfl rfl
  clear hb
  go_upto_region 10 with fail
  clear dT
  obtain ⟨o, ho⟩ : ∃ o, cmpZ (T) (b : Int) = o := ⟨_, rfl⟩
  have HO : Hid (decide (0 < o) = true) := by
    rw [← ho]
    have := HD.out
    rcases Int.lt_trichotomy (T) (b : Int) with h | h | h
    · rw [cmpZ_lt h]; first | rfl | omega
    · rw [cmpZ_eq h]; first | rfl | omega
    · rw [cmpZ_gt h]; first | rfl | omega
  replace ho := Lib.hid ho
  refine Rg.region_gg y18 [.is (.agg #[.bool sd, .slice Xd pd qd]), .is (.agg #[.bool sb, .slice Xb pb qb]), .is (Value.int IntKind.i64 o), .is (Value.bool true), .is (Value.bool true), .is (undef), .is (undef), .is (undef), .is (undef), .is (undef), .is (undef), .is (Value.bool true)] [] [some 49, some 50, some 51, some 52, some 53, some 54, some 55, some 56, some 57, some 58, some 59, some 60] (by kernel_rfl) (by kernel_rfl) (by kernel_rfl) (by kernel_rfl) (by kernel_rfl) (by simp [Rg.stos]) (by rfl) (by rfl) (by kernel_rfl) (by simp) ((Below.refl _ _).drew) (fun Q' => ?_) (fun K hK wn hs => ?_)
  · refine ⟨?_, ?_, ?_, ?_, ?_, ?_, ?_, ?_, ?_, ?_, ?_, ?_, trivial⟩
    · intro a' w' ha hs hw hold
      have eo14 : a'.tmps[14]? = some (ptr gd) := (ha.rest 14 (by kernel_rfl)).trans rfl
      exact ⟨rfl, .inl ⟨wanted_none rfl, wp_val (run_pload rfl (ev_tmp eo14) (BXd.out.bel hs (by simp))) ⟨rfl, Below.refl _ _⟩⟩⟩
    · intro a' w' ha hs hw hold
      have eo10 : a'.tmps[10]? = some (ptr gb) := (ha.rest 10 (by kernel_rfl)).trans rfl
      exact ⟨rfl, .inl ⟨wanted_none rfl, wp_val (run_pload rfl (ev_tmp eo10) (BXb.out.bel hs (by simp))) ⟨rfl, Below.refl _ _⟩⟩⟩
    · intro a' w' ha hs hw hold
      have e0 : a'.tmps[49]? = some (.agg #[.bool sd, .slice Xd pd qd]) := Rg.slot_get rfl rfl (hw 0 (by kernel_rfl) _ rfl)
      have e1 : a'.tmps[50]? = some (.agg #[.bool sb, .slice Xb pb qb]) := Rg.slot_get rfl rfl (hw 1 (by kernel_rfl) _ rfl)
      exact ⟨rfl, .inl ⟨wanted_none rfl, call_step rfl Try.func28 (by kernel_rfl) rfl (map_two (ev_tmp e0) (ev_tmp e1)) (cmp_is _ _ (T) (b : Int) o _ (IVd.out.kn hs.kn) (IVb.out.kn hs.kn) (ST.out.mono (by omega)) (SB.out.mono (by omega)) ho.out) (fun e w2 he => by obtain ⟨rfl, hb⟩ := he; exact ⟨_, rfl, rfl, hb⟩)⟩⟩
    · intro a' w' ha hs hw hold
      have e2 : a'.tmps[51]? = some (Value.int IntKind.i64 o) := Rg.slot_get rfl rfl (hw 2 (by kernel_rfl) _ rfl)
      exact ⟨rfl, .inl ⟨wanted_none rfl, wp_val (run_gtrB rfl (ev_tmp e2) rfl HO.out) ⟨rfl, Below.refl _ _⟩⟩⟩
    · intro a' w' ha hs hw hold
      have e3 : a'.tmps[52]? = some (Value.bool true) := Rg.slot_get rfl rfl (hw 3 (by kernel_rfl) _ rfl)
      exact ⟨rfl, .inl ⟨wanted_none rfl, wp_val (run_move rfl (ev_tmp e3)) ⟨rfl, Below.refl _ _⟩⟩⟩
    · intro a' w' ha hs hw hold
      have e4 : a'.tmps[53]? = some (Value.bool true) := Rg.slot_get rfl rfl (hw 4 (by kernel_rfl) _ rfl)
      exact ⟨rfl, .inr ⟨wanted_off rfl rfl rfl e4 (by decide), rfl⟩⟩
    · intro a' w' ha hs hw hold
      have e4 : a'.tmps[53]? = some (Value.bool true) := Rg.slot_get rfl rfl (hw 4 (by kernel_rfl) _ rfl)
      exact ⟨rfl, .inr ⟨wanted_off rfl rfl rfl e4 (by decide), rfl⟩⟩
    · intro a' w' ha hs hw hold
      have e4 : a'.tmps[53]? = some (Value.bool true) := Rg.slot_get rfl rfl (hw 4 (by kernel_rfl) _ rfl)
      exact ⟨rfl, .inr ⟨wanted_off rfl rfl rfl e4 (by decide), rfl⟩⟩
    · intro a' w' ha hs hw hold
      have e4 : a'.tmps[53]? = some (Value.bool true) := Rg.slot_get rfl rfl (hw 4 (by kernel_rfl) _ rfl)
      exact ⟨rfl, .inr ⟨wanted_off rfl rfl rfl e4 (by decide), rfl⟩⟩
    · intro a' w' ha hs hw hold
      have e4 : a'.tmps[53]? = some (Value.bool true) := Rg.slot_get rfl rfl (hw 4 (by kernel_rfl) _ rfl)
      exact ⟨rfl, .inr ⟨wanted_off rfl rfl rfl e4 (by decide), rfl⟩⟩
    · intro a' w' ha hs hw hold
      have e4 : a'.tmps[53]? = some (Value.bool true) := Rg.slot_get rfl rfl (hw 4 (by kernel_rfl) _ rfl)
      exact ⟨rfl, .inr ⟨wanted_off rfl rfl rfl e4 (by decide), rfl⟩⟩
    · intro a' w' ha hs hw hold
      have e4 : a'.tmps[53]? = some (Value.bool true) := Rg.slot_get rfl rfl (hw 4 (by kernel_rfl) _ rfl)
      exact ⟨rfl, .inl ⟨wanted_none rfl, wp_val (run_pick (b := true) rfl (ev_tmp e4) rfl) ⟨rfl, Below.refl _ _⟩⟩⟩
  simp only [Rg.allG]
  simp only [setOpt, Rg.setOpt, List.set_cons_succ, List.set_cons_zero]
  refine hK _ _ ?_
  clear hK K
  replace hs := hs.below
  replace BXu := nxb BXu hs rfl; replace IVu := nxv IVu hs rfl
  replace BXm := nxb BXm hs rfl; replace IVm := nxv IVm hs rfl
  replace BXo := nxb BXo hs rfl; replace IVo := nxv IVo hs rfl
  replace BXh := nxb BXh hs rfl; replace IVh := nxv IVh hs rfl
  replace BXe := nxb BXe hs rfl; replace IVe := nxv IVe hs rfl
  replace BXb := nxb BXb hs rfl; replace IVb := nxv IVb hs rfl
  replace BXn := nxb BXn hs rfl; replace IVn := nxv IVn hs rfl
  replace BXd := nxb BXd hs rfl; replace IVd := nxv IVd hs rfl
  replace RXr := Lib.hid (RXr.out.next hs rfl)
  replace DW := nxd DW hg hs rfl rfl rfl rfl
  clear hs
  have u20a := RXr.out.cell0; have u20b := RXr.out.cell1; have u20c := RXr.out.cell2; have u20d := RXr.out.cell3; have u20f := RXr.out.frozen 0; have u20g := RXr.out.frozen 1; have u20h := RXr.out.frozen 2; have u20i := RXr.out.frozen 3
  go_wp2
  refine bodyPost_ret (v := .tuple #[zeroQ, .bool false]) (by simp [results, Try.results68, go_sem, zeroQ, u20a, u20b, u20c, u20d, u20f, u20g, u20h, u20i]) rfl ⟨_, rfl, zeroQ_qv3 _, ?_⟩
  rw [hg.out]
  first | exact DW.out | exact (((DW.out.setCell (by simp <;> omega) _).setCell (by simp <;> omega) _).setCell (by simp <;> omega) _).setCell (by simp <;> omega) _
end Go.Proofs.Ytfigimfdojbkeaa
