/-
  The program's functions on fractions.
-/
import Derived.Test.YtfigimfdojbkeaaGreatRatI
import Derived.Deep.DeepCutAuto
import Derived.Handy
set_option linter.unusedSimpArgs false
set_option linter.unusedVariables false
namespace Go.Proofs.YtfigimfdojbkeaaGreat
open Go.RowKit
attribute [local go_sem ↓] Go.wp_at_zero Go.wp_at_succ

def one1 : ByteArray := ⟨#[49]⟩
theorem pok_one : pok one1.data.toList := by
  refine ⟨⟨?_, ?_, ?_⟩, ?_⟩
  · intro b hb; simp [pdig, one1] at hb; subst hb; decide
  · simp [pdig, one1]
  · right; simp [pdig, one1]
  · simp [one1]
theorem pval_one : pval one1.data.toList = 1 := by decide
theorem sz_pval {s : ByteArray} (hs : s.size ≤ 4000) (h : pok s.data.toList) : Sz (pval s.data.toList) 4000 := pval_sz hs h
theorem ext_size (s : ByteArray) (a b : Nat) : (s.extract a b).size ≤ s.size := by simp; omega

set_option maxHeartbeats 8000000 in
set_option maxRecDepth 100000 in
theorem qparse_frac (s : ByteArray) (w : World) (hs : s.size ≤ 4000) (i : Nat) (hi : i < s.size) (hx : Lib.indexByte s.data.toList 47 = i) (ok1 : pok (s.extract 0 i).data.toList) (ok2 : pok (s.extract (i + 1) s.size).data.toList) (hp : 0 < pval (s.extract (i + 1) s.size).data.toList) (hg1 : Nat.gcd (pval (s.extract 0 i).data.toList).natAbs (pval (s.extract (i + 1) s.size).data.toList).natAbs = 1) (hd1 : pval (s.extract (i + 1) s.size).data.toList ≠ 1) : Calls Tryz.prog 47 #[.string s] w (RetQE (pval (s.extract 0 i).data.toList) (pval (s.extract (i + 1) s.size).data.toList) w) := by
  have hs0 : decide ((4000 : Int) < s.size) = false := decide_eq_false (by omega)
  have hsz := Lib.hid hs
  replace hx := Lib.hid hx
  replace ok1 := Lib.hid ok1

  have S1 : Hid (Sz (pval (s.extract 0 i).data.toList) 4000) := sz_pval (Nat.le_trans (ext_size _ _ _) hsz.out) ok1.out
  obtain ⟨zn, ezn⟩ : ∃ z, pval (s.extract 0 i).data.toList = z := ⟨_, rfl⟩
  have S2 : Hid (Sz (pval (s.extract (i + 1) s.size).data.toList) 4000) := sz_pval (Nat.le_trans (ext_size _ _ _) hsz.out) ok2
  obtain ⟨zd, ezd⟩ : ∃ z, pval (s.extract (i + 1) s.size).data.toList = z := ⟨_, rfl⟩
  rw [ezd] at S2
  rw [ezd] at hp hg1
  rw [ezn] at S1 hg1
  rw [ezd] at hd1
  rw [ezn, ezd]
  replace ezn := Lib.hid ezn; replace ezd := Lib.hid ezd; replace ok2 := Lib.hid ok2; replace hp := Lib.hid hp; replace hg1 := Lib.hid hg1; replace hd1 := Lib.hid hd1
  have hi2 := Lib.hid hi
  clear hi
  clear hs
  go_enter Tryz.func47, Tryz.ntmps47
  go_wp2_with fail
  obtain ⟨W, hW⟩ : ∃ W, W = (w.alloc (Obj.cells #[Value.bool false, Value.slice none 0 0, Value.bool false, Value.slice none 0 0] 31)) := ⟨_, rfl⟩
  rw [← hW]
  have RXr : Hid (QBox W (w.heap.size) false (.slice none 0 0) false (.slice none 0 0)) := by rw [hW]; have := QBox.new w false (Value.slice none 0 0) false (Value.slice none 0 0); simpa [Hid] using this
  have DW : Hid (Below w.heap.size w W) := by rw [hW]; exact (Below.refl _ _).alloc (by simp <;> omega) _
  clear hW
  generalize hg : w.heap.size = g at *
  replace hg := Lib.hid hg
  go_wp2_with fail
  refine (cut_hit s i _ hx.out hi2.out (by have := hsz.out; omega)).mono ?_
  rintro e y1 ⟨rfl, hb⟩
  replace RXr := Lib.hid (RXr.out.next hb rfl)
  replace DW := nxd DW hg hb rfl rfl rfl rfl
  clear hb hs0
  go_wp2_with fail
  refine (parse_ok (s.extract 0 i) _ (Nat.le_trans (ext_size _ _ _) hsz.out) ok1.out).mono ?_
  rintro e y2 ⟨_, rfl, hq, hb⟩
  rw [ezn.out] at hq
  obtain ⟨Xn, pn, qn, rfl, _, _, _⟩ := hq.form
  have Qn := Lib.hid hq; clear hq
  have B := Lib.hid hb; clear hb
  generalize hs : decide ((zn : Int) < 0) = sn at *
  clear hs
  go_upto_region 9 with fail
  obtain ⟨W3, hW⟩ : ∃ W3, W3 = (y2.alloc (Obj.cells #[Value.bool sn, Value.slice Xn pn qn] 29)) := ⟨_, rfl⟩
  rw [← hW]
  have BXn : Hid (Box W3 (y2.heap.size) sn (.slice Xn pn qn)) := by rw [hW]; have := Box.new y2 sn (.slice Xn pn qn); simpa [Hid] using this
  have IVn : Hid (Iv W3 (.agg #[.bool sn, .slice Xn pn qn]) (zn)) := by rw [hW]; exact (Qn.out).alloc _
  have hd : Below y1.heap.size y1 W3 := by rw [hW]; exact (B.out).alloc (by have := B.out.size; simp <;> omega) _
  have NEnr : Hid ((y2.heap.size) ≠ g) := by have := RXr.out.lt; have := B.out.size; unfold Hid; omega
  clear hW B Qn
  generalize hgn3 : y2.heap.size = gn at *
  clear hgn3
  replace RXr := Lib.hid (RXr.out.next hd rfl)
  replace DW := nxd DW hg hd rfl rfl rfl rfl
  clear hd
  go_wp2_with fail
  refine (parse_ok (s.extract (i + 1) s.size) _ (Nat.le_trans (ext_size _ _ _) hsz.out) ok2.out).mono ?_
  rw [ezd.out]
  rintro e y4 ⟨_, rfl, hq, hb⟩
  obtain ⟨Xd, pd, qd, rfl, _, _, _⟩ := hq.form
  have Qd := Lib.hid hq; clear hq
  have B := Lib.hid hb; clear hb
  generalize hs : decide ((zd : Int) < 0) = sd at *
  clear hs
  go_upto_region 12 with fail
  obtain ⟨W5, hW⟩ : ∃ W5, W5 = (y4.alloc (Obj.cells #[Value.bool sd, Value.slice Xd pd qd] 29)) := ⟨_, rfl⟩
  rw [← hW]
  have BXd : Hid (Box W5 (y4.heap.size) sd (.slice Xd pd qd)) := by rw [hW]; have := Box.new y4 sd (.slice Xd pd qd); simpa [Hid] using this
  have IVd : Hid (Iv W5 (.agg #[.bool sd, .slice Xd pd qd]) (zd)) := by rw [hW]; exact (Qd.out).alloc _
  have hd : Below W3.heap.size W3 W5 := by rw [hW]; exact (B.out).alloc (by have := B.out.size; simp <;> omega) _
  have NEdr : Hid ((y4.heap.size) ≠ g) := by have := RXr.out.lt; have := B.out.size; unfold Hid; omega
  clear hW B Qd
  generalize hgn5 : y4.heap.size = gd at *
  clear hgn5
  replace BXn := nxb BXn hd rfl; replace IVn := nxv IVn hd rfl
  replace RXr := Lib.hid (RXr.out.next hd rfl)
  replace DW := nxd DW hg hd rfl rfl rfl rfl
  clear hd
  have u6a := BXn.out.cell0; have u6b := BXn.out.cell1
  have u7a := BXd.out.cell0; have u7b := BXd.out.cell1
  go_upto_region 13 with fail
  clear u6a u6b u7a u7b
  obtain ⟨W8, hW⟩ : ∃ W8, W8 = W5.alloc (Obj.cells #[Value.bool sn, Value.slice Xn pn qn, Value.bool sd, Value.slice Xd pd qd] 31) := ⟨_, rfl⟩
  rw [← hW]
  have QXc : Hid (QBox W8 W5.heap.size sn (.slice Xn pn qn) sd (.slice Xd pd qd)) := by rw [hW]; exact QBox.new _ _ _ _ _
  have IVnc : Hid (Iv W8 (.agg #[.bool sn, .slice Xn pn qn]) (zn)) := by rw [hW]; exact IVn.out.alloc _
  have IVdc : Hid (Iv W8 (.agg #[.bool sd, .slice Xd pd qd]) (zd)) := by rw [hW]; exact IVd.out.alloc _
  have hd : Below W5.heap.size W5 W8 := by rw [hW]; exact (Below.refl _ _).alloc (Nat.le_refl _) _
  have NEcr : Hid (W5.heap.size ≠ g) := by have := RXr.out.lt; unfold Hid; omega
  clear hW
  replace BXn := nxb BXn hd rfl; replace IVn := nxv IVn hd rfl
  replace BXd := nxb BXd hd rfl; replace IVd := nxv IVd hd rfl
  replace RXr := Lib.hid (RXr.out.next hd rfl)
  replace DW := nxd DW hg hd rfl rfl rfl rfl
  clear hd
  generalize hgn8 : W5.heap.size = gc at *
  clear hgn8
  obtain ⟨scn, Xcn, pcn, qcn, scd, Xcd, pcd, qcd, e1, e2, e3, e4, e5, e6, e7, e8⟩ : ∃ a b c d e f g h, a = sn ∧ b = Xn ∧ c = pn ∧ d = qn ∧ e = sd ∧ f = Xd ∧ g = pd ∧ h = qd := ⟨_, _, _, _, _, _, _, _, rfl, rfl, rfl, rfl, rfl, rfl, rfl, rfl⟩
  rw [← e1, ← e2, ← e3, ← e4, ← e5, ← e6, ← e7, ← e8] at QXc
  rw [← e1, ← e2, ← e3, ← e4] at IVnc
  rw [← e5, ← e6, ← e7, ← e8] at IVdc
  clear e1 e2 e3 e4 e5 e6 e7 e8
  have QVc : Hid (Qv W8 (.agg #[.bool scn, .slice Xcn pcn qcn, .bool scd, .slice Xcd pcd qcd]) zn (zd)) := qv_of IVnc.out IVdc.out
  have u9a := QXc.out.cell0; have u9b := QXc.out.cell1; have u9c := QXc.out.cell2; have u9d := QXc.out.cell3
  go_wp2_with fail
  clear u9a u9b u9c u9d
  refine (qvalid_pos _ zn zd _ QVc.out (S1.out.mono (by omega)) (S2.out.mono (by omega)) hp.out).mono ?_
  rintro e y10 ⟨rfl, hb⟩
  replace BXn := nxb BXn hb rfl; replace IVn := nxv IVn hb rfl
  replace BXd := nxb BXd hb rfl; replace IVd := nxv IVd hb rfl
  replace QXc := nxq QXc hb rfl; replace IVnc := nxv IVnc hb rfl; replace IVdc := nxv IVdc hb rfl
  replace RXr := Lib.hid (RXr.out.next hb rfl)
  replace DW := nxd DW hg hb rfl rfl rfl rfl
  clear hb
  have hv : decide (((Nat.gcd zn.natAbs zd.natAbs : Nat) : Int) = 1) = true := decide_eq_true (by rw [hg1.out]; rfl)
  rw [hv]
  clear hv
  clear QVc
  have u11a := BXd.out.cell0; have u11b := BXd.out.cell1
  go_wp2_with fail
  clear u11a u11b
  refine (qIsOne_any _ zd _ IVd.out (S2.out.mono (by omega))).mono ?_
  rintro e y12 ⟨rfl, hb⟩
  replace BXn := nxb BXn hb rfl; replace IVn := nxv IVn hb rfl
  replace BXd := nxb BXd hb rfl; replace IVd := nxv IVd hb rfl
  replace QXc := nxq QXc hb rfl; replace IVnc := nxv IVnc hb rfl; replace IVdc := nxv IVdc hb rfl
  replace RXr := Lib.hid (RXr.out.next hb rfl)
  replace DW := nxd DW hg hb rfl rfl rfl rfl
  clear hb
  have hv : decide (zd = 1) = false := decide_eq_false hd1.out
  rw [hv]
  clear hv
  have u13a := QXc.out.cell0; have u13b := QXc.out.cell1; have u13c := QXc.out.cell2; have u13d := QXc.out.cell3
  have u14a := RXr.out.cell0; have u14b := RXr.out.cell1; have u14c := RXr.out.cell2; have u14d := RXr.out.cell3; have u14f := RXr.out.frozen 0; have u14g := RXr.out.frozen 1; have u14h := RXr.out.frozen 2; have u14i := RXr.out.frozen 3
  go_wp2
  refine bodyPost_ret (v := .tuple #[.agg #[.bool scn, .slice Xcn pcn qcn, .bool scd, .slice Xcd pcd qcd], .int .i64 0]) (by simp [results, Tryz.results47, go_sem, u13a, u13b, u13c, u13d, u14a, u14b, u14c, u14d, u14f, u14g, u14h, u14i]) rfl ⟨_, rfl, ?_, by rw [hg.out]; exact (((DW.out.setCell (by simp <;> omega) _).setCell (by simp <;> omega) _).setCell (by simp <;> omega) _).setCell (by simp <;> omega) _⟩
  have hc := chg_qbox (b' := scn) (d' := scd) (A' := Xcn) (n' := pcn) (c' := qcn) (B' := Xcd) (m' := pcd) (e' := qcd) RXr.out
  exact qv_of (IVnc.out.kn hc.kn) (IVdc.out.kn hc.kn)

set_option maxHeartbeats 8000000 in
set_option maxRecDepth 100000 in
theorem qparse_badgcd (s : ByteArray) (w : World) (hs : s.size ≤ 4000) (i : Nat) (hi : i < s.size) (hx : Lib.indexByte s.data.toList 47 = i) (ok1 : pok (s.extract 0 i).data.toList) (ok2 : pok (s.extract (i + 1) s.size).data.toList) (hp : 0 < pval (s.extract (i + 1) s.size).data.toList) (hg1 : Nat.gcd (pval (s.extract 0 i).data.toList).natAbs (pval (s.extract (i + 1) s.size).data.toList).natAbs ≠ 1) : Calls Tryz.prog 47 #[.string s] w (RetV (.tuple #[zeroQ, .int .i64 3]) w) := by
  have hs0 : decide ((4000 : Int) < s.size) = false := decide_eq_false (by omega)
  have hsz := Lib.hid hs
  replace hx := Lib.hid hx
  replace ok1 := Lib.hid ok1

  have S1 : Hid (Sz (pval (s.extract 0 i).data.toList) 4000) := sz_pval (Nat.le_trans (ext_size _ _ _) hsz.out) ok1.out
  obtain ⟨zn, ezn⟩ : ∃ z, pval (s.extract 0 i).data.toList = z := ⟨_, rfl⟩
  have S2 : Hid (Sz (pval (s.extract (i + 1) s.size).data.toList) 4000) := sz_pval (Nat.le_trans (ext_size _ _ _) hsz.out) ok2
  obtain ⟨zd, ezd⟩ : ∃ z, pval (s.extract (i + 1) s.size).data.toList = z := ⟨_, rfl⟩
  rw [ezd] at S2
  rw [ezd] at hp hg1
  rw [ezn] at S1 hg1
  replace ezn := Lib.hid ezn; replace ezd := Lib.hid ezd; replace ok2 := Lib.hid ok2; replace hp := Lib.hid hp; replace hg1 := Lib.hid hg1
  have hi2 := Lib.hid hi
  clear hi
  clear hs
  go_enter Tryz.func47, Tryz.ntmps47
  go_wp2_with fail
  obtain ⟨W, hW⟩ : ∃ W, W = (w.alloc (Obj.cells #[Value.bool false, Value.slice none 0 0, Value.bool false, Value.slice none 0 0] 31)) := ⟨_, rfl⟩
  rw [← hW]
  have RXr : Hid (QBox W (w.heap.size) false (.slice none 0 0) false (.slice none 0 0)) := by rw [hW]; have := QBox.new w false (Value.slice none 0 0) false (Value.slice none 0 0); simpa [Hid] using this
  have DW : Hid (Below w.heap.size w W) := by rw [hW]; exact (Below.refl _ _).alloc (by simp <;> omega) _
  clear hW
  generalize hg : w.heap.size = g at *
  replace hg := Lib.hid hg
  go_wp2_with fail
  refine (cut_hit s i _ hx.out hi2.out (by have := hsz.out; omega)).mono ?_
  rintro e y1 ⟨rfl, hb⟩
  replace RXr := Lib.hid (RXr.out.next hb rfl)
  replace DW := nxd DW hg hb rfl rfl rfl rfl
  clear hb hs0
  go_wp2_with fail
  refine (parse_ok (s.extract 0 i) _ (Nat.le_trans (ext_size _ _ _) hsz.out) ok1.out).mono ?_
  rintro e y2 ⟨_, rfl, hq, hb⟩
  rw [ezn.out] at hq
  obtain ⟨Xn, pn, qn, rfl, _, _, _⟩ := hq.form
  have Qn := Lib.hid hq; clear hq
  have B := Lib.hid hb; clear hb
  generalize hs : decide ((zn : Int) < 0) = sn at *
  clear hs
  go_upto_region 9 with fail
  obtain ⟨W3, hW⟩ : ∃ W3, W3 = (y2.alloc (Obj.cells #[Value.bool sn, Value.slice Xn pn qn] 29)) := ⟨_, rfl⟩
  rw [← hW]
  have BXn : Hid (Box W3 (y2.heap.size) sn (.slice Xn pn qn)) := by rw [hW]; have := Box.new y2 sn (.slice Xn pn qn); simpa [Hid] using this
  have IVn : Hid (Iv W3 (.agg #[.bool sn, .slice Xn pn qn]) (zn)) := by rw [hW]; exact (Qn.out).alloc _
  have hd : Below y1.heap.size y1 W3 := by rw [hW]; exact (B.out).alloc (by have := B.out.size; simp <;> omega) _
  have NEnr : Hid ((y2.heap.size) ≠ g) := by have := RXr.out.lt; have := B.out.size; unfold Hid; omega
  clear hW B Qn
  generalize hgn3 : y2.heap.size = gn at *
  clear hgn3
  replace RXr := Lib.hid (RXr.out.next hd rfl)
  replace DW := nxd DW hg hd rfl rfl rfl rfl
  clear hd
  go_wp2_with fail
  refine (parse_ok (s.extract (i + 1) s.size) _ (Nat.le_trans (ext_size _ _ _) hsz.out) ok2.out).mono ?_
  rw [ezd.out]
  rintro e y4 ⟨_, rfl, hq, hb⟩
  obtain ⟨Xd, pd, qd, rfl, _, _, _⟩ := hq.form
  have Qd := Lib.hid hq; clear hq
  have B := Lib.hid hb; clear hb
  generalize hs : decide ((zd : Int) < 0) = sd at *
  clear hs
  go_upto_region 12 with fail
  obtain ⟨W5, hW⟩ : ∃ W5, W5 = (y4.alloc (Obj.cells #[Value.bool sd, Value.slice Xd pd qd] 29)) := ⟨_, rfl⟩
  rw [← hW]
  have BXd : Hid (Box W5 (y4.heap.size) sd (.slice Xd pd qd)) := by rw [hW]; have := Box.new y4 sd (.slice Xd pd qd); simpa [Hid] using this
  have IVd : Hid (Iv W5 (.agg #[.bool sd, .slice Xd pd qd]) (zd)) := by rw [hW]; exact (Qd.out).alloc _
  have hd : Below W3.heap.size W3 W5 := by rw [hW]; exact (B.out).alloc (by have := B.out.size; simp <;> omega) _
  have NEdr : Hid ((y4.heap.size) ≠ g) := by have := RXr.out.lt; have := B.out.size; unfold Hid; omega
  clear hW B Qd
  generalize hgn5 : y4.heap.size = gd at *
  clear hgn5
  replace BXn := nxb BXn hd rfl; replace IVn := nxv IVn hd rfl
  replace RXr := Lib.hid (RXr.out.next hd rfl)
  replace DW := nxd DW hg hd rfl rfl rfl rfl
  clear hd
  have u6a := BXn.out.cell0; have u6b := BXn.out.cell1
  have u7a := BXd.out.cell0; have u7b := BXd.out.cell1
  go_upto_region 13 with fail
  clear u6a u6b u7a u7b
  obtain ⟨W8, hW⟩ : ∃ W8, W8 = W5.alloc (Obj.cells #[Value.bool sn, Value.slice Xn pn qn, Value.bool sd, Value.slice Xd pd qd] 31) := ⟨_, rfl⟩
  rw [← hW]
  have QXc : Hid (QBox W8 W5.heap.size sn (.slice Xn pn qn) sd (.slice Xd pd qd)) := by rw [hW]; exact QBox.new _ _ _ _ _
  have IVnc : Hid (Iv W8 (.agg #[.bool sn, .slice Xn pn qn]) (zn)) := by rw [hW]; exact IVn.out.alloc _
  have IVdc : Hid (Iv W8 (.agg #[.bool sd, .slice Xd pd qd]) (zd)) := by rw [hW]; exact IVd.out.alloc _
  have hd : Below W5.heap.size W5 W8 := by rw [hW]; exact (Below.refl _ _).alloc (Nat.le_refl _) _
  have NEcr : Hid (W5.heap.size ≠ g) := by have := RXr.out.lt; unfold Hid; omega
  clear hW
  replace BXn := nxb BXn hd rfl; replace IVn := nxv IVn hd rfl
  replace BXd := nxb BXd hd rfl; replace IVd := nxv IVd hd rfl
  replace RXr := Lib.hid (RXr.out.next hd rfl)
  replace DW := nxd DW hg hd rfl rfl rfl rfl
  clear hd
  generalize hgn8 : W5.heap.size = gc at *
  clear hgn8
  obtain ⟨scn, Xcn, pcn, qcn, scd, Xcd, pcd, qcd, e1, e2, e3, e4, e5, e6, e7, e8⟩ : ∃ a b c d e f g h, a = sn ∧ b = Xn ∧ c = pn ∧ d = qn ∧ e = sd ∧ f = Xd ∧ g = pd ∧ h = qd := ⟨_, _, _, _, _, _, _, _, rfl, rfl, rfl, rfl, rfl, rfl, rfl, rfl⟩
  rw [← e1, ← e2, ← e3, ← e4, ← e5, ← e6, ← e7, ← e8] at QXc
  rw [← e1, ← e2, ← e3, ← e4] at IVnc
  rw [← e5, ← e6, ← e7, ← e8] at IVdc
  clear e1 e2 e3 e4 e5 e6 e7 e8
  have QVc : Hid (Qv W8 (.agg #[.bool scn, .slice Xcn pcn qcn, .bool scd, .slice Xcd pcd qcd]) zn (zd)) := qv_of IVnc.out IVdc.out
  have u9a := QXc.out.cell0; have u9b := QXc.out.cell1; have u9c := QXc.out.cell2; have u9d := QXc.out.cell3
  go_wp2_with fail
  clear u9a u9b u9c u9d
  refine (qvalid_pos _ zn zd _ QVc.out (S1.out.mono (by omega)) (S2.out.mono (by omega)) hp.out).mono ?_
  rintro e y10 ⟨rfl, hb⟩
  replace BXn := nxb BXn hb rfl; replace IVn := nxv IVn hb rfl
  replace BXd := nxb BXd hb rfl; replace IVd := nxv IVd hb rfl
  replace QXc := nxq QXc hb rfl; replace IVnc := nxv IVnc hb rfl; replace IVdc := nxv IVdc hb rfl
  replace RXr := Lib.hid (RXr.out.next hb rfl)
  replace DW := nxd DW hg hb rfl rfl rfl rfl
  clear hb
  have hv : decide (((Nat.gcd zn.natAbs zd.natAbs : Nat) : Int) = 1) = false := decide_eq_false (by have := hg1.out; omega)
  rw [hv]
  clear hv
  clear QVc
  have u11a := RXr.out.cell0; have u11b := RXr.out.cell1; have u11c := RXr.out.cell2; have u11d := RXr.out.cell3; have u11f := RXr.out.frozen 0; have u11g := RXr.out.frozen 1; have u11h := RXr.out.frozen 2; have u11i := RXr.out.frozen 3
  go_wp2
  refine bodyPost_ret (v := .tuple #[zeroQ, .int .i64 3]) (by simp [results, Tryz.results47, go_sem, zeroQ, u11a, u11b, u11c, u11d, u11f, u11g, u11h, u11i]) rfl ⟨rfl, by rw [hg.out]; exact (((DW.out.setCell (by simp <;> omega) _).setCell (by simp <;> omega) _).setCell (by simp <;> omega) _).setCell (by simp <;> omega) _⟩

set_option maxHeartbeats 8000000 in
set_option maxRecDepth 100000 in
theorem qparse_badneg (s : ByteArray) (w : World) (hs : s.size ≤ 4000) (i : Nat) (hi : i < s.size) (hx : Lib.indexByte s.data.toList 47 = i) (ok1 : pok (s.extract 0 i).data.toList) (ok2 : pok (s.extract (i + 1) s.size).data.toList) (hp : pval (s.extract (i + 1) s.size).data.toList ≤ 0) : Calls Tryz.prog 47 #[.string s] w (RetV (.tuple #[zeroQ, .int .i64 3]) w) := by
  have hs0 : decide ((4000 : Int) < s.size) = false := decide_eq_false (by omega)
  have hsz := Lib.hid hs
  replace hx := Lib.hid hx
  replace ok1 := Lib.hid ok1

  have S1 : Hid (Sz (pval (s.extract 0 i).data.toList) 4000) := sz_pval (Nat.le_trans (ext_size _ _ _) hsz.out) ok1.out
  obtain ⟨zn, ezn⟩ : ∃ z, pval (s.extract 0 i).data.toList = z := ⟨_, rfl⟩
  have S2 : Hid (Sz (pval (s.extract (i + 1) s.size).data.toList) 4000) := sz_pval (Nat.le_trans (ext_size _ _ _) hsz.out) ok2
  obtain ⟨zd, ezd⟩ : ∃ z, pval (s.extract (i + 1) s.size).data.toList = z := ⟨_, rfl⟩
  rw [ezd] at S2
  rw [ezd] at hp
  rw [ezn] at S1
  replace ezn := Lib.hid ezn; replace ezd := Lib.hid ezd; replace ok2 := Lib.hid ok2; replace hp := Lib.hid hp
  have hi2 := Lib.hid hi
  clear hi
  clear hs
  go_enter Tryz.func47, Tryz.ntmps47
  go_wp2_with fail
  obtain ⟨W, hW⟩ : ∃ W, W = (w.alloc (Obj.cells #[Value.bool false, Value.slice none 0 0, Value.bool false, Value.slice none 0 0] 31)) := ⟨_, rfl⟩
  rw [← hW]
  have RXr : Hid (QBox W (w.heap.size) false (.slice none 0 0) false (.slice none 0 0)) := by rw [hW]; have := QBox.new w false (Value.slice none 0 0) false (Value.slice none 0 0); simpa [Hid] using this
  have DW : Hid (Below w.heap.size w W) := by rw [hW]; exact (Below.refl _ _).alloc (by simp <;> omega) _
  clear hW
  generalize hg : w.heap.size = g at *
  replace hg := Lib.hid hg
  go_wp2_with fail
  refine (cut_hit s i _ hx.out hi2.out (by have := hsz.out; omega)).mono ?_
  rintro e y1 ⟨rfl, hb⟩
  replace RXr := Lib.hid (RXr.out.next hb rfl)
  replace DW := nxd DW hg hb rfl rfl rfl rfl
  clear hb hs0
  go_wp2_with fail
  refine (parse_ok (s.extract 0 i) _ (Nat.le_trans (ext_size _ _ _) hsz.out) ok1.out).mono ?_
  rintro e y2 ⟨_, rfl, hq, hb⟩
  rw [ezn.out] at hq
  obtain ⟨Xn, pn, qn, rfl, _, _, _⟩ := hq.form
  have Qn := Lib.hid hq; clear hq
  have B := Lib.hid hb; clear hb
  generalize hs : decide ((zn : Int) < 0) = sn at *
  clear hs
  go_upto_region 9 with fail
  obtain ⟨W3, hW⟩ : ∃ W3, W3 = (y2.alloc (Obj.cells #[Value.bool sn, Value.slice Xn pn qn] 29)) := ⟨_, rfl⟩
  rw [← hW]
  have BXn : Hid (Box W3 (y2.heap.size) sn (.slice Xn pn qn)) := by rw [hW]; have := Box.new y2 sn (.slice Xn pn qn); simpa [Hid] using this
  have IVn : Hid (Iv W3 (.agg #[.bool sn, .slice Xn pn qn]) (zn)) := by rw [hW]; exact (Qn.out).alloc _
  have hd : Below y1.heap.size y1 W3 := by rw [hW]; exact (B.out).alloc (by have := B.out.size; simp <;> omega) _
  have NEnr : Hid ((y2.heap.size) ≠ g) := by have := RXr.out.lt; have := B.out.size; unfold Hid; omega
  clear hW B Qn
  generalize hgn3 : y2.heap.size = gn at *
  clear hgn3
  replace RXr := Lib.hid (RXr.out.next hd rfl)
  replace DW := nxd DW hg hd rfl rfl rfl rfl
  clear hd
  go_wp2_with fail
  refine (parse_ok (s.extract (i + 1) s.size) _ (Nat.le_trans (ext_size _ _ _) hsz.out) ok2.out).mono ?_
  rw [ezd.out]
  rintro e y4 ⟨_, rfl, hq, hb⟩
  obtain ⟨Xd, pd, qd, rfl, _, _, _⟩ := hq.form
  have Qd := Lib.hid hq; clear hq
  have B := Lib.hid hb; clear hb
  generalize hs : decide ((zd : Int) < 0) = sd at *
  clear hs
  go_upto_region 12 with fail
  obtain ⟨W5, hW⟩ : ∃ W5, W5 = (y4.alloc (Obj.cells #[Value.bool sd, Value.slice Xd pd qd] 29)) := ⟨_, rfl⟩
  rw [← hW]
  have BXd : Hid (Box W5 (y4.heap.size) sd (.slice Xd pd qd)) := by rw [hW]; have := Box.new y4 sd (.slice Xd pd qd); simpa [Hid] using this
  have IVd : Hid (Iv W5 (.agg #[.bool sd, .slice Xd pd qd]) (zd)) := by rw [hW]; exact (Qd.out).alloc _
  have hd : Below W3.heap.size W3 W5 := by rw [hW]; exact (B.out).alloc (by have := B.out.size; simp <;> omega) _
  have NEdr : Hid ((y4.heap.size) ≠ g) := by have := RXr.out.lt; have := B.out.size; unfold Hid; omega
  clear hW B Qd
  generalize hgn5 : y4.heap.size = gd at *
  clear hgn5
  replace BXn := nxb BXn hd rfl; replace IVn := nxv IVn hd rfl
  replace RXr := Lib.hid (RXr.out.next hd rfl)
  replace DW := nxd DW hg hd rfl rfl rfl rfl
  clear hd
  have u6a := BXn.out.cell0; have u6b := BXn.out.cell1
  have u7a := BXd.out.cell0; have u7b := BXd.out.cell1
  go_upto_region 13 with fail
  clear u6a u6b u7a u7b
  obtain ⟨W8, hW⟩ : ∃ W8, W8 = W5.alloc (Obj.cells #[Value.bool sn, Value.slice Xn pn qn, Value.bool sd, Value.slice Xd pd qd] 31) := ⟨_, rfl⟩
  rw [← hW]
  have QXc : Hid (QBox W8 W5.heap.size sn (.slice Xn pn qn) sd (.slice Xd pd qd)) := by rw [hW]; exact QBox.new _ _ _ _ _
  have IVnc : Hid (Iv W8 (.agg #[.bool sn, .slice Xn pn qn]) (zn)) := by rw [hW]; exact IVn.out.alloc _
  have IVdc : Hid (Iv W8 (.agg #[.bool sd, .slice Xd pd qd]) (zd)) := by rw [hW]; exact IVd.out.alloc _
  have hd : Below W5.heap.size W5 W8 := by rw [hW]; exact (Below.refl _ _).alloc (Nat.le_refl _) _
  have NEcr : Hid (W5.heap.size ≠ g) := by have := RXr.out.lt; unfold Hid; omega
  clear hW
  replace BXn := nxb BXn hd rfl; replace IVn := nxv IVn hd rfl
  replace BXd := nxb BXd hd rfl; replace IVd := nxv IVd hd rfl
  replace RXr := Lib.hid (RXr.out.next hd rfl)
  replace DW := nxd DW hg hd rfl rfl rfl rfl
  clear hd
  generalize hgn8 : W5.heap.size = gc at *
  clear hgn8
  obtain ⟨scn, Xcn, pcn, qcn, scd, Xcd, pcd, qcd, e1, e2, e3, e4, e5, e6, e7, e8⟩ : ∃ a b c d e f g h, a = sn ∧ b = Xn ∧ c = pn ∧ d = qn ∧ e = sd ∧ f = Xd ∧ g = pd ∧ h = qd := ⟨_, _, _, _, _, _, _, _, rfl, rfl, rfl, rfl, rfl, rfl, rfl, rfl⟩
  rw [← e1, ← e2, ← e3, ← e4, ← e5, ← e6, ← e7, ← e8] at QXc
  rw [← e1, ← e2, ← e3, ← e4] at IVnc
  rw [← e5, ← e6, ← e7, ← e8] at IVdc
  clear e1 e2 e3 e4 e5 e6 e7 e8
  have QVc : Hid (Qv W8 (.agg #[.bool scn, .slice Xcn pcn qcn, .bool scd, .slice Xcd pcd qcd]) zn (zd)) := qv_of IVnc.out IVdc.out
  have u9a := QXc.out.cell0; have u9b := QXc.out.cell1; have u9c := QXc.out.cell2; have u9d := QXc.out.cell3
  go_wp2_with fail
  clear u9a u9b u9c u9d
  refine (qvalid_neg _ zn zd _ QVc.out (S1.out.mono (by omega)) (S2.out.mono (by omega)) hp.out).mono ?_
  rintro e y10 ⟨rfl, hb⟩
  replace BXn := nxb BXn hb rfl; replace IVn := nxv IVn hb rfl
  replace BXd := nxb BXd hb rfl; replace IVd := nxv IVd hb rfl
  replace QXc := nxq QXc hb rfl; replace IVnc := nxv IVnc hb rfl; replace IVdc := nxv IVdc hb rfl
  replace RXr := Lib.hid (RXr.out.next hb rfl)
  replace DW := nxd DW hg hb rfl rfl rfl rfl
  clear hb
  clear QVc
  have u11a := RXr.out.cell0; have u11b := RXr.out.cell1; have u11c := RXr.out.cell2; have u11d := RXr.out.cell3; have u11f := RXr.out.frozen 0; have u11g := RXr.out.frozen 1; have u11h := RXr.out.frozen 2; have u11i := RXr.out.frozen 3
  go_wp2
  refine bodyPost_ret (v := .tuple #[zeroQ, .int .i64 3]) (by simp [results, Tryz.results47, go_sem, zeroQ, u11a, u11b, u11c, u11d, u11f, u11g, u11h, u11i]) rfl ⟨rfl, by rw [hg.out]; exact (((DW.out.setCell (by simp <;> omega) _).setCell (by simp <;> omega) _).setCell (by simp <;> omega) _).setCell (by simp <;> omega) _⟩

set_option maxHeartbeats 8000000 in
set_option maxRecDepth 100000 in
theorem qparse_badone (s : ByteArray) (w : World) (hs : s.size ≤ 4000) (i : Nat) (hi : i < s.size) (hx : Lib.indexByte s.data.toList 47 = i) (ok1 : pok (s.extract 0 i).data.toList) (ok2 : pok (s.extract (i + 1) s.size).data.toList) (hp : 0 < pval (s.extract (i + 1) s.size).data.toList) (hg1 : Nat.gcd (pval (s.extract 0 i).data.toList).natAbs (pval (s.extract (i + 1) s.size).data.toList).natAbs = 1) (hd1 : pval (s.extract (i + 1) s.size).data.toList = 1) : Calls Tryz.prog 47 #[.string s] w (RetV (.tuple #[zeroQ, .int .i64 3]) w) := by
  have hs0 : decide ((4000 : Int) < s.size) = false := decide_eq_false (by omega)
  have hsz := Lib.hid hs
  replace hx := Lib.hid hx
  replace ok1 := Lib.hid ok1

  have S1 : Hid (Sz (pval (s.extract 0 i).data.toList) 4000) := sz_pval (Nat.le_trans (ext_size _ _ _) hsz.out) ok1.out
  obtain ⟨zn, ezn⟩ : ∃ z, pval (s.extract 0 i).data.toList = z := ⟨_, rfl⟩
  have S2 : Hid (Sz (pval (s.extract (i + 1) s.size).data.toList) 4000) := sz_pval (Nat.le_trans (ext_size _ _ _) hsz.out) ok2
  obtain ⟨zd, ezd⟩ : ∃ z, pval (s.extract (i + 1) s.size).data.toList = z := ⟨_, rfl⟩
  rw [ezd] at S2
  rw [ezd] at hp hg1
  rw [ezn] at S1 hg1
  rw [ezd] at hd1
  replace ezn := Lib.hid ezn; replace ezd := Lib.hid ezd; replace ok2 := Lib.hid ok2; replace hp := Lib.hid hp; replace hg1 := Lib.hid hg1; replace hd1 := Lib.hid hd1
  have hi2 := Lib.hid hi
  clear hi
  clear hs
  go_enter Tryz.func47, Tryz.ntmps47
  go_wp2_with fail
  obtain ⟨W, hW⟩ : ∃ W, W = (w.alloc (Obj.cells #[Value.bool false, Value.slice none 0 0, Value.bool false, Value.slice none 0 0] 31)) := ⟨_, rfl⟩
  rw [← hW]
  have RXr : Hid (QBox W (w.heap.size) false (.slice none 0 0) false (.slice none 0 0)) := by rw [hW]; have := QBox.new w false (Value.slice none 0 0) false (Value.slice none 0 0); simpa [Hid] using this
  have DW : Hid (Below w.heap.size w W) := by rw [hW]; exact (Below.refl _ _).alloc (by simp <;> omega) _
  clear hW
  generalize hg : w.heap.size = g at *
  replace hg := Lib.hid hg
  go_wp2_with fail
  refine (cut_hit s i _ hx.out hi2.out (by have := hsz.out; omega)).mono ?_
  rintro e y1 ⟨rfl, hb⟩
  replace RXr := Lib.hid (RXr.out.next hb rfl)
  replace DW := nxd DW hg hb rfl rfl rfl rfl
  clear hb hs0
  go_wp2_with fail
  refine (parse_ok (s.extract 0 i) _ (Nat.le_trans (ext_size _ _ _) hsz.out) ok1.out).mono ?_
  rintro e y2 ⟨_, rfl, hq, hb⟩
  rw [ezn.out] at hq
  obtain ⟨Xn, pn, qn, rfl, _, _, _⟩ := hq.form
  have Qn := Lib.hid hq; clear hq
  have B := Lib.hid hb; clear hb
  generalize hs : decide ((zn : Int) < 0) = sn at *
  clear hs
  go_upto_region 9 with fail
  obtain ⟨W3, hW⟩ : ∃ W3, W3 = (y2.alloc (Obj.cells #[Value.bool sn, Value.slice Xn pn qn] 29)) := ⟨_, rfl⟩
  rw [← hW]
  have BXn : Hid (Box W3 (y2.heap.size) sn (.slice Xn pn qn)) := by rw [hW]; have := Box.new y2 sn (.slice Xn pn qn); simpa [Hid] using this
  have IVn : Hid (Iv W3 (.agg #[.bool sn, .slice Xn pn qn]) (zn)) := by rw [hW]; exact (Qn.out).alloc _
  have hd : Below y1.heap.size y1 W3 := by rw [hW]; exact (B.out).alloc (by have := B.out.size; simp <;> omega) _
  have NEnr : Hid ((y2.heap.size) ≠ g) := by have := RXr.out.lt; have := B.out.size; unfold Hid; omega
  clear hW B Qn
  generalize hgn3 : y2.heap.size = gn at *
  clear hgn3
  replace RXr := Lib.hid (RXr.out.next hd rfl)
  replace DW := nxd DW hg hd rfl rfl rfl rfl
  clear hd
  go_wp2_with fail
  refine (parse_ok (s.extract (i + 1) s.size) _ (Nat.le_trans (ext_size _ _ _) hsz.out) ok2.out).mono ?_
  rw [ezd.out]
  rintro e y4 ⟨_, rfl, hq, hb⟩
  obtain ⟨Xd, pd, qd, rfl, _, _, _⟩ := hq.form
  have Qd := Lib.hid hq; clear hq
  have B := Lib.hid hb; clear hb
  generalize hs : decide ((zd : Int) < 0) = sd at *
  clear hs
  go_upto_region 12 with fail
  obtain ⟨W5, hW⟩ : ∃ W5, W5 = (y4.alloc (Obj.cells #[Value.bool sd, Value.slice Xd pd qd] 29)) := ⟨_, rfl⟩
  rw [← hW]
  have BXd : Hid (Box W5 (y4.heap.size) sd (.slice Xd pd qd)) := by rw [hW]; have := Box.new y4 sd (.slice Xd pd qd); simpa [Hid] using this
  have IVd : Hid (Iv W5 (.agg #[.bool sd, .slice Xd pd qd]) (zd)) := by rw [hW]; exact (Qd.out).alloc _
  have hd : Below W3.heap.size W3 W5 := by rw [hW]; exact (B.out).alloc (by have := B.out.size; simp <;> omega) _
  have NEdr : Hid ((y4.heap.size) ≠ g) := by have := RXr.out.lt; have := B.out.size; unfold Hid; omega
  clear hW B Qd
  generalize hgn5 : y4.heap.size = gd at *
  clear hgn5
  replace BXn := nxb BXn hd rfl; replace IVn := nxv IVn hd rfl
  replace RXr := Lib.hid (RXr.out.next hd rfl)
  replace DW := nxd DW hg hd rfl rfl rfl rfl
  clear hd
  have u6a := BXn.out.cell0; have u6b := BXn.out.cell1
  have u7a := BXd.out.cell0; have u7b := BXd.out.cell1
  go_upto_region 13 with fail
  clear u6a u6b u7a u7b
  obtain ⟨W8, hW⟩ : ∃ W8, W8 = W5.alloc (Obj.cells #[Value.bool sn, Value.slice Xn pn qn, Value.bool sd, Value.slice Xd pd qd] 31) := ⟨_, rfl⟩
  rw [← hW]
  have QXc : Hid (QBox W8 W5.heap.size sn (.slice Xn pn qn) sd (.slice Xd pd qd)) := by rw [hW]; exact QBox.new _ _ _ _ _
  have IVnc : Hid (Iv W8 (.agg #[.bool sn, .slice Xn pn qn]) (zn)) := by rw [hW]; exact IVn.out.alloc _
  have IVdc : Hid (Iv W8 (.agg #[.bool sd, .slice Xd pd qd]) (zd)) := by rw [hW]; exact IVd.out.alloc _
  have hd : Below W5.heap.size W5 W8 := by rw [hW]; exact (Below.refl _ _).alloc (Nat.le_refl _) _
  have NEcr : Hid (W5.heap.size ≠ g) := by have := RXr.out.lt; unfold Hid; omega
  clear hW
  replace BXn := nxb BXn hd rfl; replace IVn := nxv IVn hd rfl
  replace BXd := nxb BXd hd rfl; replace IVd := nxv IVd hd rfl
  replace RXr := Lib.hid (RXr.out.next hd rfl)
  replace DW := nxd DW hg hd rfl rfl rfl rfl
  clear hd
  generalize hgn8 : W5.heap.size = gc at *
  clear hgn8
  obtain ⟨scn, Xcn, pcn, qcn, scd, Xcd, pcd, qcd, e1, e2, e3, e4, e5, e6, e7, e8⟩ : ∃ a b c d e f g h, a = sn ∧ b = Xn ∧ c = pn ∧ d = qn ∧ e = sd ∧ f = Xd ∧ g = pd ∧ h = qd := ⟨_, _, _, _, _, _, _, _, rfl, rfl, rfl, rfl, rfl, rfl, rfl, rfl⟩
  rw [← e1, ← e2, ← e3, ← e4, ← e5, ← e6, ← e7, ← e8] at QXc
  rw [← e1, ← e2, ← e3, ← e4] at IVnc
  rw [← e5, ← e6, ← e7, ← e8] at IVdc
  clear e1 e2 e3 e4 e5 e6 e7 e8
  have QVc : Hid (Qv W8 (.agg #[.bool scn, .slice Xcn pcn qcn, .bool scd, .slice Xcd pcd qcd]) zn (zd)) := qv_of IVnc.out IVdc.out
  have u9a := QXc.out.cell0; have u9b := QXc.out.cell1; have u9c := QXc.out.cell2; have u9d := QXc.out.cell3
  go_wp2_with fail
  clear u9a u9b u9c u9d
  refine (qvalid_pos _ zn zd _ QVc.out (S1.out.mono (by omega)) (S2.out.mono (by omega)) hp.out).mono ?_
  rintro e y10 ⟨rfl, hb⟩
  replace BXn := nxb BXn hb rfl; replace IVn := nxv IVn hb rfl
  replace BXd := nxb BXd hb rfl; replace IVd := nxv IVd hb rfl
  replace QXc := nxq QXc hb rfl; replace IVnc := nxv IVnc hb rfl; replace IVdc := nxv IVdc hb rfl
  replace RXr := Lib.hid (RXr.out.next hb rfl)
  replace DW := nxd DW hg hb rfl rfl rfl rfl
  clear hb
  have hv : decide (((Nat.gcd zn.natAbs zd.natAbs : Nat) : Int) = 1) = true := decide_eq_true (by rw [hg1.out]; rfl)
  rw [hv]
  clear hv
  clear QVc
  have u11a := BXd.out.cell0; have u11b := BXd.out.cell1
  go_wp2_with fail
  clear u11a u11b
  refine (qIsOne_any _ zd _ IVd.out (S2.out.mono (by omega))).mono ?_
  rintro e y12 ⟨rfl, hb⟩
  replace BXn := nxb BXn hb rfl; replace IVn := nxv IVn hb rfl
  replace BXd := nxb BXd hb rfl; replace IVd := nxv IVd hb rfl
  replace QXc := nxq QXc hb rfl; replace IVnc := nxv IVnc hb rfl; replace IVdc := nxv IVdc hb rfl
  replace RXr := Lib.hid (RXr.out.next hb rfl)
  replace DW := nxd DW hg hb rfl rfl rfl rfl
  clear hb
  have hv : decide (zd = 1) = true := decide_eq_true hd1.out
  rw [hv]
  clear hv
  have u13a := RXr.out.cell0; have u13b := RXr.out.cell1; have u13c := RXr.out.cell2; have u13d := RXr.out.cell3; have u13f := RXr.out.frozen 0; have u13g := RXr.out.frozen 1; have u13h := RXr.out.frozen 2; have u13i := RXr.out.frozen 3
  go_wp2
  refine bodyPost_ret (v := .tuple #[zeroQ, .int .i64 3]) (by simp [results, Tryz.results47, go_sem, zeroQ, u13a, u13b, u13c, u13d, u13f, u13g, u13h, u13i]) rfl ⟨rfl, by rw [hg.out]; exact (((DW.out.setCell (by simp <;> omega) _).setCell (by simp <;> omega) _).setCell (by simp <;> omega) _).setCell (by simp <;> omega) _⟩

set_option maxHeartbeats 8000000 in
set_option maxRecDepth 100000 in
theorem qparse_bad2 (s : ByteArray) (w : World) (hs : s.size ≤ 4000) (i : Nat) (hi : i < s.size) (hx : Lib.indexByte s.data.toList 47 = i) (ok1 : pok (s.extract 0 i).data.toList) (ok2 : ¬ pok (s.extract (i + 1) s.size).data.toList) : Calls Tryz.prog 47 #[.string s] w (RetV (.tuple #[zeroQ, .int .i64 3]) w) := by
  have hs0 : decide ((4000 : Int) < s.size) = false := decide_eq_false (by omega)
  have hsz := Lib.hid hs
  replace hx := Lib.hid hx
  replace ok1 := Lib.hid ok1

  have S1 : Hid (Sz (pval (s.extract 0 i).data.toList) 4000) := sz_pval (Nat.le_trans (ext_size _ _ _) hsz.out) ok1.out
  obtain ⟨zn, ezn⟩ : ∃ z, pval (s.extract 0 i).data.toList = z := ⟨_, rfl⟩
  rw [ezn] at S1
  replace ezn := Lib.hid ezn; replace ok2 := Lib.hid ok2
  have hi2 := Lib.hid hi
  clear hi
  clear hs
  go_enter Tryz.func47, Tryz.ntmps47
  go_wp2_with fail
  obtain ⟨W, hW⟩ : ∃ W, W = (w.alloc (Obj.cells #[Value.bool false, Value.slice none 0 0, Value.bool false, Value.slice none 0 0] 31)) := ⟨_, rfl⟩
  rw [← hW]
  have RXr : Hid (QBox W (w.heap.size) false (.slice none 0 0) false (.slice none 0 0)) := by rw [hW]; have := QBox.new w false (Value.slice none 0 0) false (Value.slice none 0 0); simpa [Hid] using this
  have DW : Hid (Below w.heap.size w W) := by rw [hW]; exact (Below.refl _ _).alloc (by simp <;> omega) _
  clear hW
  generalize hg : w.heap.size = g at *
  replace hg := Lib.hid hg
  go_wp2_with fail
  refine (cut_hit s i _ hx.out hi2.out (by have := hsz.out; omega)).mono ?_
  rintro e y1 ⟨rfl, hb⟩
  replace RXr := Lib.hid (RXr.out.next hb rfl)
  replace DW := nxd DW hg hb rfl rfl rfl rfl
  clear hb hs0
  go_wp2_with fail
  refine (parse_ok (s.extract 0 i) _ (Nat.le_trans (ext_size _ _ _) hsz.out) ok1.out).mono ?_
  rintro e y2 ⟨_, rfl, hq, hb⟩
  rw [ezn.out] at hq
  obtain ⟨Xn, pn, qn, rfl, _, _, _⟩ := hq.form
  have Qn := Lib.hid hq; clear hq
  have B := Lib.hid hb; clear hb
  generalize hs : decide ((zn : Int) < 0) = sn at *
  clear hs
  go_upto_region 9 with fail
  obtain ⟨W3, hW⟩ : ∃ W3, W3 = (y2.alloc (Obj.cells #[Value.bool sn, Value.slice Xn pn qn] 29)) := ⟨_, rfl⟩
  rw [← hW]
  have BXn : Hid (Box W3 (y2.heap.size) sn (.slice Xn pn qn)) := by rw [hW]; have := Box.new y2 sn (.slice Xn pn qn); simpa [Hid] using this
  have IVn : Hid (Iv W3 (.agg #[.bool sn, .slice Xn pn qn]) (zn)) := by rw [hW]; exact (Qn.out).alloc _
  have hd : Below y1.heap.size y1 W3 := by rw [hW]; exact (B.out).alloc (by have := B.out.size; simp <;> omega) _
  have NEnr : Hid ((y2.heap.size) ≠ g) := by have := RXr.out.lt; have := B.out.size; unfold Hid; omega
  clear hW B Qn
  generalize hgn3 : y2.heap.size = gn at *
  clear hgn3
  replace RXr := Lib.hid (RXr.out.next hd rfl)
  replace DW := nxd DW hg hd rfl rfl rfl rfl
  clear hd
  go_wp2_with fail
  refine (parse_no (s.extract (i + 1) s.size) _ (Nat.le_trans (ext_size _ _ _) hsz.out) ok2.out).mono ?_
  rintro e y4 ⟨_, rfl, hq, hb⟩
  obtain ⟨Xx, px, qx, rfl, _, _, _⟩ := hq.form
  have Qx := Lib.hid hq; clear hq
  have B := Lib.hid hb; clear hb
  generalize hs : decide ((0 : Int) < 0) = sx at *
  clear hs
  go_upto_region 11 with fail
  obtain ⟨W5, hW⟩ : ∃ W5, W5 = (y4.alloc (Obj.cells #[Value.bool sx, Value.slice Xx px qx] 29)) := ⟨_, rfl⟩
  rw [← hW]
  have BXx : Hid (Box W5 (y4.heap.size) sx (.slice Xx px qx)) := by rw [hW]; have := Box.new y4 sx (.slice Xx px qx); simpa [Hid] using this
  have IVx : Hid (Iv W5 (.agg #[.bool sx, .slice Xx px qx]) (0)) := by rw [hW]; exact (Qx.out).alloc _
  have hd : Below W3.heap.size W3 W5 := by rw [hW]; exact (B.out).alloc (by have := B.out.size; simp <;> omega) _
  have NExr : Hid ((y4.heap.size) ≠ g) := by have := RXr.out.lt; have := B.out.size; unfold Hid; omega
  clear hW B Qx
  generalize hgn5 : y4.heap.size = gx at *
  clear hgn5
  replace BXn := nxb BXn hd rfl; replace IVn := nxv IVn hd rfl
  replace RXr := Lib.hid (RXr.out.next hd rfl)
  replace DW := nxd DW hg hd rfl rfl rfl rfl
  clear hd
  have u6a := RXr.out.cell0; have u6b := RXr.out.cell1; have u6c := RXr.out.cell2; have u6d := RXr.out.cell3; have u6f := RXr.out.frozen 0; have u6g := RXr.out.frozen 1; have u6h := RXr.out.frozen 2; have u6i := RXr.out.frozen 3
  go_wp2
  refine bodyPost_ret (v := .tuple #[zeroQ, .int .i64 3]) (by simp [results, Tryz.results47, go_sem, zeroQ, u6a, u6b, u6c, u6d, u6f, u6g, u6h, u6i]) rfl ⟨rfl, by rw [hg.out]; exact (((DW.out.setCell (by simp <;> omega) _).setCell (by simp <;> omega) _).setCell (by simp <;> omega) _).setCell (by simp <;> omega) _⟩

set_option maxHeartbeats 8000000 in
set_option maxRecDepth 100000 in
theorem qparse_bad1 (s : ByteArray) (w : World) (hs : s.size ≤ 4000) (i : Nat) (hi : i < s.size) (hx : Lib.indexByte s.data.toList 47 = i) (ok1 : ¬ pok (s.extract 0 i).data.toList) : Calls Tryz.prog 47 #[.string s] w (RetV (.tuple #[zeroQ, .int .i64 3]) w) := by
  have hs0 : decide ((4000 : Int) < s.size) = false := decide_eq_false (by omega)
  have hsz := Lib.hid hs
  replace hx := Lib.hid hx
  replace ok1 := Lib.hid ok1

  have hi2 := Lib.hid hi
  clear hi
  clear hs
  go_enter Tryz.func47, Tryz.ntmps47
  go_wp2_with fail
  obtain ⟨W, hW⟩ : ∃ W, W = (w.alloc (Obj.cells #[Value.bool false, Value.slice none 0 0, Value.bool false, Value.slice none 0 0] 31)) := ⟨_, rfl⟩
  rw [← hW]
  have RXr : Hid (QBox W (w.heap.size) false (.slice none 0 0) false (.slice none 0 0)) := by rw [hW]; have := QBox.new w false (Value.slice none 0 0) false (Value.slice none 0 0); simpa [Hid] using this
  have DW : Hid (Below w.heap.size w W) := by rw [hW]; exact (Below.refl _ _).alloc (by simp <;> omega) _
  clear hW
  generalize hg : w.heap.size = g at *
  replace hg := Lib.hid hg
  go_wp2_with fail
  refine (cut_hit s i _ hx.out hi2.out (by have := hsz.out; omega)).mono ?_
  rintro e y1 ⟨rfl, hb⟩
  replace RXr := Lib.hid (RXr.out.next hb rfl)
  replace DW := nxd DW hg hb rfl rfl rfl rfl
  clear hb hs0
  go_wp2_with fail
  refine (parse_no (s.extract 0 i) _ (Nat.le_trans (ext_size _ _ _) hsz.out) ok1.out).mono ?_
  rintro e y2 ⟨_, rfl, hq, hb⟩
  obtain ⟨Xx, px, qx, rfl, _, _, _⟩ := hq.form
  have Qx := Lib.hid hq; clear hq
  have B := Lib.hid hb; clear hb
  generalize hs : decide ((0 : Int) < 0) = sx at *
  clear hs
  go_upto_region 8 with fail
  obtain ⟨W3, hW⟩ : ∃ W3, W3 = (y2.alloc (Obj.cells #[Value.bool sx, Value.slice Xx px qx] 29)) := ⟨_, rfl⟩
  rw [← hW]
  have BXx : Hid (Box W3 (y2.heap.size) sx (.slice Xx px qx)) := by rw [hW]; have := Box.new y2 sx (.slice Xx px qx); simpa [Hid] using this
  have IVx : Hid (Iv W3 (.agg #[.bool sx, .slice Xx px qx]) (0)) := by rw [hW]; exact (Qx.out).alloc _
  have hd : Below y1.heap.size y1 W3 := by rw [hW]; exact (B.out).alloc (by have := B.out.size; simp <;> omega) _
  have NExr : Hid ((y2.heap.size) ≠ g) := by have := RXr.out.lt; have := B.out.size; unfold Hid; omega
  clear hW B Qx
  generalize hgn3 : y2.heap.size = gx at *
  clear hgn3
  replace RXr := Lib.hid (RXr.out.next hd rfl)
  replace DW := nxd DW hg hd rfl rfl rfl rfl
  clear hd
  have u4a := RXr.out.cell0; have u4b := RXr.out.cell1; have u4c := RXr.out.cell2; have u4d := RXr.out.cell3; have u4f := RXr.out.frozen 0; have u4g := RXr.out.frozen 1; have u4h := RXr.out.frozen 2; have u4i := RXr.out.frozen 3
  go_wp2
  refine bodyPost_ret (v := .tuple #[zeroQ, .int .i64 3]) (by simp [results, Tryz.results47, go_sem, zeroQ, u4a, u4b, u4c, u4d, u4f, u4g, u4h, u4i]) rfl ⟨rfl, by rw [hg.out]; exact (((DW.out.setCell (by simp <;> omega) _).setCell (by simp <;> omega) _).setCell (by simp <;> omega) _).setCell (by simp <;> omega) _⟩

set_option maxHeartbeats 8000000 in
set_option maxRecDepth 100000 in
theorem qparse_int (s : ByteArray) (w : World) (hs : s.size ≤ 4000) (hx : Lib.indexByte s.data.toList 47 = -1) (ok1 : pok s.data.toList) : Calls Tryz.prog 47 #[.string s] w (RetQE (pval s.data.toList) 1 w) := by
  have hs0 : decide ((4000 : Int) < s.size) = false := decide_eq_false (by omega)
  have hsz := Lib.hid hs
  replace hx := Lib.hid hx
  replace ok1 := Lib.hid ok1

  have S1 : Hid (Sz (pval s.data.toList) 4000) := sz_pval hsz.out ok1.out
  obtain ⟨zn, ezn⟩ : ∃ z, pval s.data.toList = z := ⟨_, rfl⟩
  rw [ezn] at S1
  rw [ezn]
  replace ezn := Lib.hid ezn
  clear hs
  go_enter Tryz.func47, Tryz.ntmps47
  go_wp2_with fail
  obtain ⟨W, hW⟩ : ∃ W, W = (w.alloc (Obj.cells #[Value.bool false, Value.slice none 0 0, Value.bool false, Value.slice none 0 0] 31)) := ⟨_, rfl⟩
  rw [← hW]
  have RXr : Hid (QBox W (w.heap.size) false (.slice none 0 0) false (.slice none 0 0)) := by rw [hW]; have := QBox.new w false (Value.slice none 0 0) false (Value.slice none 0 0); simpa [Hid] using this
  have DW : Hid (Below w.heap.size w W) := by rw [hW]; exact (Below.refl _ _).alloc (by simp <;> omega) _
  clear hW
  generalize hg : w.heap.size = g at *
  replace hg := Lib.hid hg
  go_wp2_with fail
  refine (cut_miss s _ hx.out).mono ?_
  rintro e y1 ⟨rfl, hb⟩
  replace RXr := Lib.hid (RXr.out.next hb rfl)
  replace DW := nxd DW hg hb rfl rfl rfl rfl
  clear hb hs0
  go_wp2_with fail
  refine (parse_ok s _ hsz.out ok1.out).mono ?_
  rintro e y2 ⟨_, rfl, hq, hb⟩
  rw [ezn.out] at hq
  obtain ⟨Xn, pn, qn, rfl, _, _, _⟩ := hq.form
  have Qn := Lib.hid hq; clear hq
  have B := Lib.hid hb; clear hb
  generalize hs : decide ((zn : Int) < 0) = sn at *
  clear hs
  go_upto_region 9 with fail
  obtain ⟨W3, hW⟩ : ∃ W3, W3 = (y2.alloc (Obj.cells #[Value.bool sn, Value.slice Xn pn qn] 29)) := ⟨_, rfl⟩
  rw [← hW]
  have BXn : Hid (Box W3 (y2.heap.size) sn (.slice Xn pn qn)) := by rw [hW]; have := Box.new y2 sn (.slice Xn pn qn); simpa [Hid] using this
  have IVn : Hid (Iv W3 (.agg #[.bool sn, .slice Xn pn qn]) (zn)) := by rw [hW]; exact (Qn.out).alloc _
  have hd : Below y1.heap.size y1 W3 := by rw [hW]; exact (B.out).alloc (by have := B.out.size; simp <;> omega) _
  have NEnr : Hid ((y2.heap.size) ≠ g) := by have := RXr.out.lt; have := B.out.size; unfold Hid; omega
  clear hW B Qn
  generalize hgn3 : y2.heap.size = gn at *
  clear hgn3
  replace RXr := Lib.hid (RXr.out.next hd rfl)
  replace DW := nxd DW hg hd rfl rfl rfl rfl
  clear hd
  go_wp2_with fail
  refine (parse_ok one1 _ (show one1.size ≤ 4000 by decide) pok_one).mono ?_
  rw [pval_one]
  rintro e y4 ⟨_, rfl, hq, hb⟩
  have S2 : Hid (Sz (1 : Int) 4000) := ⟨by have : pw 1 ≤ pw 4000 := pw_le (by omega); have : pw 1 = 4294967296 := rfl; show 1 < _; omega⟩
  obtain ⟨Xd, pd, qd, rfl, _, _, _⟩ := hq.form
  have Qd := Lib.hid hq; clear hq
  have B := Lib.hid hb; clear hb
  generalize hs : decide ((1 : Int) < 0) = sd at *
  clear hs
  go_upto_region 12 with fail
  obtain ⟨W5, hW⟩ : ∃ W5, W5 = (y4.alloc (Obj.cells #[Value.bool sd, Value.slice Xd pd qd] 29)) := ⟨_, rfl⟩
  rw [← hW]
  have BXd : Hid (Box W5 (y4.heap.size) sd (.slice Xd pd qd)) := by rw [hW]; have := Box.new y4 sd (.slice Xd pd qd); simpa [Hid] using this
  have IVd : Hid (Iv W5 (.agg #[.bool sd, .slice Xd pd qd]) (1)) := by rw [hW]; exact (Qd.out).alloc _
  have hd : Below W3.heap.size W3 W5 := by rw [hW]; exact (B.out).alloc (by have := B.out.size; simp <;> omega) _
  have NEdr : Hid ((y4.heap.size) ≠ g) := by have := RXr.out.lt; have := B.out.size; unfold Hid; omega
  clear hW B Qd
  generalize hgn5 : y4.heap.size = gd at *
  clear hgn5
  replace BXn := nxb BXn hd rfl; replace IVn := nxv IVn hd rfl
  replace RXr := Lib.hid (RXr.out.next hd rfl)
  replace DW := nxd DW hg hd rfl rfl rfl rfl
  clear hd
  have u6a := BXn.out.cell0; have u6b := BXn.out.cell1
  have u7a := BXd.out.cell0; have u7b := BXd.out.cell1
  go_upto_region 13 with fail
  clear u6a u6b u7a u7b
  obtain ⟨W8, hW⟩ : ∃ W8, W8 = W5.alloc (Obj.cells #[Value.bool sn, Value.slice Xn pn qn, Value.bool sd, Value.slice Xd pd qd] 31) := ⟨_, rfl⟩
  rw [← hW]
  have QXc : Hid (QBox W8 W5.heap.size sn (.slice Xn pn qn) sd (.slice Xd pd qd)) := by rw [hW]; exact QBox.new _ _ _ _ _
  have IVnc : Hid (Iv W8 (.agg #[.bool sn, .slice Xn pn qn]) (zn)) := by rw [hW]; exact IVn.out.alloc _
  have IVdc : Hid (Iv W8 (.agg #[.bool sd, .slice Xd pd qd]) (1)) := by rw [hW]; exact IVd.out.alloc _
  have hd : Below W5.heap.size W5 W8 := by rw [hW]; exact (Below.refl _ _).alloc (Nat.le_refl _) _
  have NEcr : Hid (W5.heap.size ≠ g) := by have := RXr.out.lt; unfold Hid; omega
  clear hW
  replace BXn := nxb BXn hd rfl; replace IVn := nxv IVn hd rfl
  replace BXd := nxb BXd hd rfl; replace IVd := nxv IVd hd rfl
  replace RXr := Lib.hid (RXr.out.next hd rfl)
  replace DW := nxd DW hg hd rfl rfl rfl rfl
  clear hd
  generalize hgn8 : W5.heap.size = gc at *
  clear hgn8
  obtain ⟨scn, Xcn, pcn, qcn, scd, Xcd, pcd, qcd, e1, e2, e3, e4, e5, e6, e7, e8⟩ : ∃ a b c d e f g h, a = sn ∧ b = Xn ∧ c = pn ∧ d = qn ∧ e = sd ∧ f = Xd ∧ g = pd ∧ h = qd := ⟨_, _, _, _, _, _, _, _, rfl, rfl, rfl, rfl, rfl, rfl, rfl, rfl⟩
  rw [← e1, ← e2, ← e3, ← e4, ← e5, ← e6, ← e7, ← e8] at QXc
  rw [← e1, ← e2, ← e3, ← e4] at IVnc
  rw [← e5, ← e6, ← e7, ← e8] at IVdc
  clear e1 e2 e3 e4 e5 e6 e7 e8
  have QVc : Hid (Qv W8 (.agg #[.bool scn, .slice Xcn pcn qcn, .bool scd, .slice Xcd pcd qcd]) zn (1)) := qv_of IVnc.out IVdc.out
  have u9a := QXc.out.cell0; have u9b := QXc.out.cell1; have u9c := QXc.out.cell2; have u9d := QXc.out.cell3
  go_wp2_with fail
  clear u9a u9b u9c u9d
  refine (qvalid_pos _ zn 1 _ QVc.out (S1.out.mono (by omega)) (S2.out.mono (by omega)) (by omega)).mono ?_
  rintro e y10 ⟨rfl, hb⟩
  replace BXn := nxb BXn hb rfl; replace IVn := nxv IVn hb rfl
  replace BXd := nxb BXd hb rfl; replace IVd := nxv IVd hb rfl
  replace QXc := nxq QXc hb rfl; replace IVnc := nxv IVnc hb rfl; replace IVdc := nxv IVdc hb rfl
  replace RXr := Lib.hid (RXr.out.next hb rfl)
  replace DW := nxd DW hg hb rfl rfl rfl rfl
  clear hb
  have hv : decide (((Nat.gcd zn.natAbs (1 : Int).natAbs : Nat) : Int) = 1) = true := decide_eq_true (by rw [show (1 : Int).natAbs = 1 from rfl, Nat.gcd_one_right]; rfl)
  rw [hv]
  clear hv
  clear QVc
  have u11a := QXc.out.cell0; have u11b := QXc.out.cell1; have u11c := QXc.out.cell2; have u11d := QXc.out.cell3
  have u12a := RXr.out.cell0; have u12b := RXr.out.cell1; have u12c := RXr.out.cell2; have u12d := RXr.out.cell3; have u12f := RXr.out.frozen 0; have u12g := RXr.out.frozen 1; have u12h := RXr.out.frozen 2; have u12i := RXr.out.frozen 3
  go_wp2
  refine bodyPost_ret (v := .tuple #[.agg #[.bool scn, .slice Xcn pcn qcn, .bool scd, .slice Xcd pcd qcd], .int .i64 0]) (by simp [results, Tryz.results47, go_sem, u11a, u11b, u11c, u11d, u12a, u12b, u12c, u12d, u12f, u12g, u12h, u12i]) rfl ⟨_, rfl, ?_, by rw [hg.out]; exact (((DW.out.setCell (by simp <;> omega) _).setCell (by simp <;> omega) _).setCell (by simp <;> omega) _).setCell (by simp <;> omega) _⟩
  have hc := chg_qbox (b' := scn) (d' := scd) (A' := Xcn) (n' := pcn) (c' := qcn) (B' := Xcd) (m' := pcd) (e' := qcd) RXr.out
  exact qv_of (IVnc.out.kn hc.kn) (IVdc.out.kn hc.kn)

set_option maxHeartbeats 8000000 in
set_option maxRecDepth 100000 in
theorem qparse_badint (s : ByteArray) (w : World) (hs : s.size ≤ 4000) (hx : Lib.indexByte s.data.toList 47 = -1) (ok1 : ¬ pok s.data.toList) : Calls Tryz.prog 47 #[.string s] w (RetV (.tuple #[zeroQ, .int .i64 3]) w) := by
  have hs0 : decide ((4000 : Int) < s.size) = false := decide_eq_false (by omega)
  have hsz := Lib.hid hs
  replace hx := Lib.hid hx
  replace ok1 := Lib.hid ok1

  clear hs
  go_enter Tryz.func47, Tryz.ntmps47
  go_wp2_with fail
  obtain ⟨W, hW⟩ : ∃ W, W = (w.alloc (Obj.cells #[Value.bool false, Value.slice none 0 0, Value.bool false, Value.slice none 0 0] 31)) := ⟨_, rfl⟩
  rw [← hW]
  have RXr : Hid (QBox W (w.heap.size) false (.slice none 0 0) false (.slice none 0 0)) := by rw [hW]; have := QBox.new w false (Value.slice none 0 0) false (Value.slice none 0 0); simpa [Hid] using this
  have DW : Hid (Below w.heap.size w W) := by rw [hW]; exact (Below.refl _ _).alloc (by simp <;> omega) _
  clear hW
  generalize hg : w.heap.size = g at *
  replace hg := Lib.hid hg
  go_wp2_with fail
  refine (cut_miss s _ hx.out).mono ?_
  rintro e y1 ⟨rfl, hb⟩
  replace RXr := Lib.hid (RXr.out.next hb rfl)
  replace DW := nxd DW hg hb rfl rfl rfl rfl
  clear hb hs0
  go_wp2_with fail
  refine (parse_no s _ hsz.out ok1.out).mono ?_
  rintro e y2 ⟨_, rfl, hq, hb⟩
  obtain ⟨Xx, px, qx, rfl, _, _, _⟩ := hq.form
  have Qx := Lib.hid hq; clear hq
  have B := Lib.hid hb; clear hb
  generalize hs : decide ((0 : Int) < 0) = sx at *
  clear hs
  go_upto_region 8 with fail
  obtain ⟨W3, hW⟩ : ∃ W3, W3 = (y2.alloc (Obj.cells #[Value.bool sx, Value.slice Xx px qx] 29)) := ⟨_, rfl⟩
  rw [← hW]
  have BXx : Hid (Box W3 (y2.heap.size) sx (.slice Xx px qx)) := by rw [hW]; have := Box.new y2 sx (.slice Xx px qx); simpa [Hid] using this
  have IVx : Hid (Iv W3 (.agg #[.bool sx, .slice Xx px qx]) (0)) := by rw [hW]; exact (Qx.out).alloc _
  have hd : Below y1.heap.size y1 W3 := by rw [hW]; exact (B.out).alloc (by have := B.out.size; simp <;> omega) _
  have NExr : Hid ((y2.heap.size) ≠ g) := by have := RXr.out.lt; have := B.out.size; unfold Hid; omega
  clear hW B Qx
  generalize hgn3 : y2.heap.size = gx at *
  clear hgn3
  replace RXr := Lib.hid (RXr.out.next hd rfl)
  replace DW := nxd DW hg hd rfl rfl rfl rfl
  clear hd
  have u4a := RXr.out.cell0; have u4b := RXr.out.cell1; have u4c := RXr.out.cell2; have u4d := RXr.out.cell3; have u4f := RXr.out.frozen 0; have u4g := RXr.out.frozen 1; have u4h := RXr.out.frozen 2; have u4i := RXr.out.frozen 3
  go_wp2
  refine bodyPost_ret (v := .tuple #[zeroQ, .int .i64 3]) (by simp [results, Tryz.results47, go_sem, zeroQ, u4a, u4b, u4c, u4d, u4f, u4g, u4h, u4i]) rfl ⟨rfl, by rw [hg.out]; exact (((DW.out.setCell (by simp <;> omega) _).setCell (by simp <;> omega) _).setCell (by simp <;> omega) _).setCell (by simp <;> omega) _⟩
end Go.Proofs.YtfigimfdojbkeaaGreat
