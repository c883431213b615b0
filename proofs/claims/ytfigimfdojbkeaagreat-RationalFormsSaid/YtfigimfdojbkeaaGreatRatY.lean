/-
  The reference's functions on fractions.
  The reference's functions on fractions.
-/
import Derived.Test.YtfigimfdojbkeaaGreatRatR
import Derived.Test.YtfigimfdojbkeaaGreatRatJ
import Derived.Test.YtfigimfdojbkeaaGreatRatL
import Derived.Deep.DeepCutAuto
import Derived.Handy
set_option linter.unusedSimpArgs false
set_option linter.unusedVariables false
section
namespace Go.Proofs.YtfigimfdojbkeaaGreat
open Go.RowKit
attribute [local go_sem ↓] Go.wp_at_zero Go.wp_at_succ

theorem map_three {α β : Type} {f : α → β} {x y z : α} {v u t : β} (h : f x = v) (k : f y = u) (l : f z = t) : #[x, y, z].map f = #[v, u, t] := by simp [h, k, l]
theorem zeroQ_qv (w : World) : Qv w zeroQ 0 0 := ⟨none, 0, 0, none, 0, 0, rfl, Iv.zero w, Iv.zero w⟩
theorem iv_zero_len {w : World} {b : Bool} {A : Option Addr} {n c : Nat} (h : Iv w (.agg #[.bool b, .slice A n c]) 0) : b = false ∧ n = 0 := by
  have e := h.signq
  refine ⟨by rw [e]; rfl, ?_⟩
  obtain ⟨A', n', c', e', _, _, h3⟩ := h.form
  have e1 := congrArg (fun t : Value => match t with | .agg a => a[1]? | _ => none) e'
  simp at e1
  obtain ⟨rfl, rfl, rfl⟩ := e1
  exact h3.pos_iff.2 rfl
section
variable {o : Oper} {w : World} {ρ : Operand → Value} {x y : Operand}
theorem run_neq_str {t u : TypeId} {a b : ByteArray} {r : Bool} (ho : o.op = .binOp .neq t x y u) (hx : ρ x = .string a) (hy : ρ y = .string b) (h : (a.toList != b.toList) = r) : (execOp ρ o).run Tryz.prog w = .ok (.value (.bool r)) w := by
  subst h
  simp [execOp, ho, hx, hy, go_sem, bne]
theorem run_kloadall {g : Nat} {n d k : Int} (ho : o.op = .load 24 x) (hx : ρ x = ptr g) (hb : KBox w g n d k) : (execOp ρ o).run Tryz.prog w = .ok (.value (.agg #[.int .i8 n, .int .i8 d, .int .u8 k])) w := by
  have h0 := hb.cell0
  have h1 := hb.cell1
  have h2 := hb.cell2
  simp [execOp, ho, hx, go_sem, ptr, h0, h1, h2]
theorem run_kbuild {n d : Int} (ho : o.op = .build 24 #[(0, x), (1, y)]) (hx : ρ x = .int .i8 n) (hy : ρ y = .int .i8 d) : (execOp ρ o).run Tryz.prog w = .ok (.value (.agg #[.int .i8 n, .int .i8 d, .int .u8 0])) w := by
  simp [execOp, ho, hx, hy, go_sem]
end

set_option maxHeartbeats 8000000 in
set_option maxRecDepth 100000 in
theorem over_any (n d : Int) (w : World) (hn : -9223372036854775808 ≤ n ∧ n ≤ 9223372036854775807) (hd : -9223372036854775808 ≤ d ∧ d ≤ 9223372036854775807) (h0 : d ≠ 0) : Calls Tryz.prog 88 #[.int .i64 n, .int .i64 d] w (RetQ (Rat.divInt n d).num (Rat.divInt n d).den w) := by
  replace hn := Lib.hid hn; replace hd := Lib.hid hd; replace h0 := Lib.hid h0
  obtain ⟨N, eN⟩ : ∃ x, (Rat.divInt n d).num = x := ⟨_, rfl⟩
  obtain ⟨D, eD⟩ : ∃ x, ((Rat.divInt n d).den : Int) = x := ⟨_, rfl⟩
  rw [eN, eD]
  replace eN := Lib.hid eN; replace eD := Lib.hid eD
  go_enter Tryz.func88, Tryz.ntmps88
  go_wp2_with fail
  obtain ⟨W, hW⟩ : ∃ W, W = (w.alloc (Obj.cells #[Value.bool false, Value.slice none 0 0, Value.bool false, Value.slice none 0 0] 31)) := ⟨_, rfl⟩
  rw [← hW]
  have RXr : Hid (QBox W (w.heap.size) false (.slice none 0 0) false (.slice none 0 0)) := by rw [hW]; have := QBox.new w false (Value.slice none 0 0) false (Value.slice none 0 0); simpa [Hid] using this
  have DW : Hid (Below w.heap.size w W) := by rw [hW]; exact (Below.refl _ _).alloc (by simp <;> omega) _
  clear hW
  generalize hg : w.heap.size = g at *
  replace hg := Lib.hid hg
  go_wp2_with fail
  refine (of_any n _ (hn.out.1) (hn.out.2)).mono ?_
  rintro e ya0 ⟨va0, rfl, hv, hb⟩
  have HVa0 := Lib.hid hv; clear hv
  replace RXr := Lib.hid (RXr.out.next hb rfl)
  replace DW := nxd DW hg hb rfl rfl rfl rfl
  clear hb
  go_wp2_with fail
  refine (of_any d _ (hd.out.1) (hd.out.2)).mono ?_
  rintro e ya1 ⟨va1, rfl, hv, hb⟩
  have HVa1 := Lib.hid hv; clear hv
  replace HVa0 := Lib.hid (iv_next HVa0.out hb rfl)
  replace RXr := Lib.hid (RXr.out.next hb rfl)
  replace DW := nxd DW hg hb rfl rfl rfl rfl
  clear hb
  go_wp2_with fail
  refine (qnew_any _ _ n d _ HVa0.out ((I64.sz hn.out).mono (by omega)) HVa1.out ((I64.sz hd.out).mono (by omega)) h0.out).mono ?_
  rw [eN.out, eD.out]
  rintro e y1 ⟨_, rfl, hq, hb⟩
  obtain ⟨Xcn, pcn, qcn, Xcd, pcd, qcd, rfl, hcn, hcd⟩ := hq
  have Qcn := Lib.hid hcn; have Qcd := Lib.hid hcd; clear hcn hcd
  have B := Lib.hid hb; clear hb
  generalize hs : decide ((N : Int) < 0) = scn at *
  clear hs
  generalize hs : decide ((D : Int) < 0) = scd at *
  clear hs
  go_upto_region 2 with fail
  obtain ⟨W2, hW⟩ : ∃ W2, W2 = y1.alloc (Obj.cells #[Value.bool scn, Value.slice Xcn pcn qcn, Value.bool scd, Value.slice Xcd pcd qcd] 31) := ⟨_, rfl⟩
  rw [← hW]
  have QXc : Hid (QBox W2 y1.heap.size scn (.slice Xcn pcn qcn) scd (.slice Xcd pcd qcd)) := by rw [hW]; exact QBox.new _ _ _ _ _
  have IVnc : Hid (Iv W2 (.agg #[.bool scn, .slice Xcn pcn qcn]) (N)) := by rw [hW]; exact Qcn.out.alloc _
  have IVdc : Hid (Iv W2 (.agg #[.bool scd, .slice Xcd pcd qcd]) (D)) := by rw [hW]; exact Qcd.out.alloc _
  have hd : Below ya1.heap.size ya1 W2 := by rw [hW]; exact B.out.alloc (by have := B.out.size; omega) _
  have NEcr : Hid (y1.heap.size ≠ g) := by have := RXr.out.lt; have := B.out.size; unfold Hid; omega
  clear hW B Qcn Qcd
  generalize hgn2 : y1.heap.size = gc at *
  clear hgn2
  replace RXr := Lib.hid (RXr.out.next hd rfl)
  replace DW := nxd DW hg hd rfl rfl rfl rfl
  clear hd
  have u3a := QXc.out.cell0; have u3b := QXc.out.cell1; have u3c := QXc.out.cell2; have u3d := QXc.out.cell3
  have u4a := RXr.out.cell0; have u4b := RXr.out.cell1; have u4c := RXr.out.cell2; have u4d := RXr.out.cell3; have u4f := RXr.out.frozen 0; have u4g := RXr.out.frozen 1; have u4h := RXr.out.frozen 2; have u4i := RXr.out.frozen 3
  go_wp2
  refine bodyPost_ret (v := .agg #[.bool scn, .slice Xcn pcn qcn, .bool scd, .slice Xcd pcd qcd]) (by simp [results, Tryz.results88, go_sem, u3a, u3b, u3c, u3d, u4a, u4b, u4c, u4d, u4f, u4g, u4h, u4i]) rfl ⟨_, rfl, ?_, by rw [hg.out]; exact (((DW.out.setCell (by simp <;> omega) _).setCell (by simp <;> omega) _).setCell (by simp <;> omega) _).setCell (by simp <;> omega) _⟩
  have hc := chg_qbox (b' := scn) (d' := scd) (A' := Xcn) (n' := pcn) (c' := qcn) (B' := Xcd) (m' := pcd) (e' := qcd) RXr.out
  exact qv_of (IVnc.out.kn hc.kn) (IVdc.out.kn hc.kn)

set_option maxHeartbeats 8000000 in
set_option maxRecDepth 100000 in
theorem is_ok (va vb : Value) (a b : Rat) (r : Bool) (w : World) (ha : Qv w va a.num a.den) (sa : Sr a 1000000) (hb : Qv w vb b.num b.den) (sb : Sr b 1000000) (hr : decide (a = b) = r) : Calls Tryz.prog 56 #[va, .int .i64 0, vb] w (RetV (.bool r) w) := by
  replace hr := Lib.hid hr
  obtain ⟨Xan, pan, qan, Xad, pad, qad, rfl, han, had⟩ := ha
  have Han := Lib.hid han
  have Had := Lib.hid had
  have SRa := Lib.hid sa
  clear han had sa
  generalize hs : decide (a.num < 0) = san at *
  clear hs
  generalize hs : decide ((a.den : Int) < 0) = sad at *
  clear hs
  obtain ⟨Xbn, pbn, qbn, Xbd, pbd, qbd, rfl, hbn, hbd⟩ := hb
  have Hbn := Lib.hid hbn
  have Hbd := Lib.hid hbd
  have SRb := Lib.hid sb
  clear hbn hbd sb
  generalize hs : decide (b.num < 0) = sbn at *
  clear hs
  generalize hs : decide ((b.den : Int) < 0) = sbd at *
  clear hs

  go_enter Tryz.func56, Tryz.ntmps56
  go_wp2_with fail
  obtain ⟨W, hW⟩ : ∃ W, W = ((w.alloc (Obj.cells #[Value.bool san, Value.slice Xan pan qan, Value.bool sad, Value.slice Xad pad qad] 31)).alloc (Obj.cells #[Value.bool sbn, Value.slice Xbn pbn qbn, Value.bool sbd, Value.slice Xbd pbd qbd] 31)) := ⟨_, rfl⟩
  rw [← hW]
  have QXa : Hid (QBox W (w.heap.size) san (.slice Xan pan qan) sad (.slice Xad pad qad)) := by rw [hW]; have := (QBox.new w san (Value.slice Xan pan qan) sad (Value.slice Xad pad qad)).alloc (Obj.cells #[Value.bool sbn, Value.slice Xbn pbn qbn, Value.bool sbd, Value.slice Xbd pbd qbd] 31); simpa [Hid] using this
  have QXb : Hid (QBox W (w.heap.size + 1) sbn (.slice Xbn pbn qbn) sbd (.slice Xbd pbd qbd)) := by rw [hW]; have := QBox.new (w.alloc (Obj.cells #[Value.bool san, Value.slice Xan pan qan, Value.bool sad, Value.slice Xad pad qad] 31)) sbn (Value.slice Xbn pbn qbn) sbd (Value.slice Xbd pbd qbd); simpa [Hid] using this
  have IVna : Hid (Iv W (.agg #[.bool san, .slice Xan pan qan]) (a.num)) := by rw [hW]; exact ((Han.out).alloc _).alloc _
  have IVda : Hid (Iv W (.agg #[.bool sad, .slice Xad pad qad]) ((a.den : Int))) := by rw [hW]; exact ((Had.out).alloc _).alloc _
  have IVnb : Hid (Iv W (.agg #[.bool sbn, .slice Xbn pbn qbn]) (b.num)) := by rw [hW]; exact ((Hbn.out).alloc _).alloc _
  have IVdb : Hid (Iv W (.agg #[.bool sbd, .slice Xbd pbd qbd]) ((b.den : Int))) := by rw [hW]; exact ((Hbd.out).alloc _).alloc _
  have DW : Hid (Below w.heap.size w W) := by rw [hW]; exact ((Below.refl _ _).alloc (by simp <;> omega) _).alloc (by simp <;> omega) _
  clear hW
  generalize hg : w.heap.size = g at *
  replace hg := Lib.hid hg
  go_upto_region 1 with fail
  have u1a := QXa.out.cell0; have u1b := QXa.out.cell1; have u1c := QXa.out.cell2; have u1d := QXa.out.cell3
  have u2a := QXb.out.cell0; have u2b := QXb.out.cell1; have u2c := QXb.out.cell2; have u2d := QXb.out.cell3
  go_wp2_with fail
  clear u1a u1b u1c u1d u2a u2b u2c u2d
  refine (qsame_is _ _ a b r _ (qv_of IVna.out IVda.out) SRa.out (qv_of IVnb.out IVdb.out) SRb.out hr.out).mono ?_
  rintro e y3 ⟨rfl, hb⟩
  replace QXa := nxq QXa hb rfl; replace IVna := nxv IVna hb rfl; replace IVda := nxv IVda hb rfl
  replace QXb := nxq QXb hb rfl; replace IVnb := nxv IVnb hb rfl; replace IVdb := nxv IVdb hb rfl
  replace DW := nxd DW hg hb rfl rfl rfl rfl
  clear hb
  go_wp2
  go_ret
  exact ⟨rfl, by rw [hg.out]; exact DW.out⟩

set_option maxHeartbeats 8000000 in
set_option maxRecDepth 100000 in
theorem fails_zero (va : Value) (e : Int) (w : World) (ha : Qv w va 0 0) : Calls Tryz.prog 49 #[va, .int .i64 e, .int .i64 e] w (RetV (.bool true) w) := by
  obtain ⟨A, i, c, B, j, d, rfl, h1, h2⟩ := ha
  obtain ⟨e1, rfl⟩ := iv_zero_len h1
  obtain ⟨e2, rfl⟩ := iv_zero_len h2
  rw [e1]
  clear h1 h2 e1 e2
  go_enter Tryz.func49, Tryz.ntmps49
  go_wp2
  go_ret
  exact ⟨rfl, (Below.refl _ _).alloc (Nat.le_refl _) _⟩
end Go.Proofs.YtfigimfdojbkeaaGreat
end

section
namespace Go.Proofs.YtfigimfdojbkeaaGreat
open Go.RowKit
attribute [local go_sem ↓] Go.wp_at_zero Go.wp_at_succ

def qA : Rat := Rat.divInt 6 (-4)
def qB : Rat := Rat.divInt 1 2
def qD : Rat := Rat.divInt 7 5
def q13 : Rat := Rat.divInt 1 3
def q107 : Rat := Rat.divInt 10 7
theorem qA_n : qA.num = -3 := by decide +kernel
theorem qA_d : (qA.den : Int) = 2 := by decide +kernel
theorem qB_n : qB.num = 1 := by decide +kernel
theorem qB_d : (qB.den : Int) = 2 := by decide +kernel
theorem qD_n : qD.num = 7 := by decide +kernel
theorem qD_d : (qD.den : Int) = 5 := by decide +kernel
theorem q13_n : q13.num = 1 := by decide +kernel
theorem q13_d : (q13.den : Int) = 3 := by decide +kernel
theorem q107_n : q107.num = 10 := by decide +kernel
theorem q107_d : (q107.den : Int) = 7 := by decide +kernel
theorem Sr.of {q : Rat} {n d : Int} {N : Nat} (hn : q.num = n) (hd : (q.den : Int) = d) (h1 : -1000 ≤ n ∧ n ≤ 1000) (h2 : -1000 ≤ d ∧ d ≤ 1000) (hN : 2 ≤ N) : Sr q N :=
  ⟨by rw [hn]; exact (Sz.small (by omega) (by omega)).mono hN, by rw [hd]; exact (Sz.small (by omega) (by omega)).mono hN⟩
theorem szs {z : Int} {N : Nat} (h1 : -1000 ≤ z ∧ z ≤ 1000) (hN : 2 ≤ N) : Sz z N := (Sz.small (by omega) (by omega)).mono hN
theorem srA {N : Nat} (h : 2 ≤ N) : Sr qA N := Sr.of qA_n qA_d (by omega) (by omega) h
theorem srB {N : Nat} (h : 2 ≤ N) : Sr qB N := Sr.of qB_n qB_d (by omega) (by omega) h
theorem srD {N : Nat} (h : 2 ≤ N) : Sr qD N := Sr.of qD_n qD_d (by omega) (by omega) h
theorem sr13 {N : Nat} (h : 2 ≤ N) : Sr q13 N := Sr.of q13_n q13_d (by omega) (by omega) h
theorem sr107 {N : Nat} (h : 2 ≤ N) : Sr q107 N := Sr.of q107_n q107_d (by omega) (by omega) h

theorem ex_new (va vb : Value) (w : World) (ha : Iv w va 6) (hb : Iv w vb (-4)) : Calls Tryz.prog 51 #[va, vb] w (RetQE qA.num qA.den w) := qnew_any va vb 6 (-4) w ha (szs (by omega) (by omega)) hb (szs (by omega) (by omega)) (by omega)
theorem ex_new0 (va vb : Value) (w : World) (ha : Iv w va 1) (hb : Iv w vb 0) : Calls Tryz.prog 51 #[va, vb] w (RetV (.tuple #[zeroQ, .int .i64 10]) w) := qnew_zero va vb 1 0 w ha (szs (by omega) (by omega)) hb (szs (by omega) (by omega)) rfl
theorem ex_over13 (w : World) : Calls Tryz.prog 88 #[.int .i64 1, .int .i64 3] w (RetQ q13.num q13.den w) := over_any 1 3 w (by omega) (by omega) (by omega)
theorem ex_over12 (w : World) : Calls Tryz.prog 88 #[.int .i64 1, .int .i64 2] w (RetQ qB.num qB.den w) := over_any 1 2 w (by omega) (by omega) (by omega)
theorem ex_over75 (w : World) : Calls Tryz.prog 88 #[.int .i64 7, .int .i64 5] w (RetQ qD.num qD.den w) := over_any 7 5 w (by omega) (by omega) (by omega)
theorem ex_over107 (w : World) : Calls Tryz.prog 88 #[.int .i64 10, .int .i64 7] w (RetQ q107.num q107.den w) := over_any 10 7 w (by omega) (by omega) (by omega)
theorem sok1 : SOk 3 1 3 1 2 1 0 0 1 := by
  refine ⟨⟨by omega, by omega, ?_, ?_, ?_, ?_, ?_, ?_, ?_, ?_⟩, fun _ _ => ⟨⟨by omega, by omega, ?_, ?_, ?_, ?_, ?_, ?_, ?_, ?_⟩, fun h _ => absurd (by decide) h⟩⟩ <;> exact szs (by decide) (by omega)
theorem sok2 : SOk 3 7 5 10 7 1 0 0 1 := by
  refine ⟨⟨by omega, by omega, ?_, ?_, ?_, ?_, ?_, ?_, ?_, ?_⟩, fun _ _ => ⟨⟨by decide, by decide, ?_, ?_, ?_, ?_, ?_, ?_, ?_, ?_⟩, fun _ _ => ⟨⟨by decide, by decide, ?_, ?_, ?_, ?_, ?_, ?_, ?_, ?_⟩, fun h _ => absurd (by decide) h⟩⟩⟩ <;> exact szs (by decide) (by omega)
theorem ex_between1 (va vb : Value) (w : World) (ha : Qv w va q13.num q13.den) (hb : Qv w vb qB.num qB.den) : Calls Tryz.prog 31 #[va, vb] w (RetQE qB.num qB.den w) := by
  have h := between_pos va vb q13 qB 3 w ha (sr13 (by omega)) hb (srB (by omega)) (by rw [q13_n, q13_d, qB_n, qB_d]; exact sok1) (by rw [q13_n]; omega) (by rw [q13_n, q13_d, qB_n, qB_d]; omega)
  rw [q13_n, q13_d, qB_n, qB_d, show srch 3 1 3 1 2 1 0 0 1 = (1, 2) by decide] at h
  rw [qB_n, qB_d]
  exact h
theorem ex_between2 (va vb : Value) (w : World) (ha : Qv w va qD.num qD.den) (hb : Qv w vb q107.num q107.den) : Calls Tryz.prog 31 #[va, vb] w (RetQE qD.num qD.den w) := by
  have h := between_pos va vb qD q107 3 w ha (srD (by omega)) hb (sr107 (by omega)) (by rw [qD_n, qD_d, q107_n, q107_d]; exact sok2) (by rw [qD_n]; omega) (by rw [qD_n, qD_d, q107_n, q107_d]; omega)
  rw [qD_n, qD_d, q107_n, q107_d, show srch 3 7 5 10 7 1 0 0 1 = (7, 5) by decide] at h
  rw [qD_n, qD_d]
  exact h
theorem pok_32 : pok [45, 51] := by
  refine ⟨⟨?_, ?_, ?_⟩, ?_⟩
  · intro b hb; simp [pdig] at hb; subst hb; decide
  · simp [pdig]
  · right; simp [pdig]
  · simp
theorem pok_d (c : UInt8) (h : 49 ≤ c.toNat ∧ c.toNat ≤ 57) : pok [c] := by
  have hc : c ≠ 45 := by intro e; subst e; simp at h
  have hp : pdig [c] = [c] := by unfold pdig; rw [if_neg (by simpa using hc)]
  refine ⟨⟨?_, ?_, ?_⟩, ?_⟩
  · intro b hb; rw [hp] at hb; simp at hb; subst hb; omega
  · rw [hp]; simp
  · rw [hp]; right; simp; intro e; subst e; simp at h
  · simp
theorem ex_parse1 (w : World) : Calls Tryz.prog 47 #[.string { data := #[45, 51, 47, 50] }] w (RetQE qA.num qA.den w) := by
  have h := qparse_frac { data := #[45, 51, 47, 50] } w (by decide) 2 (by decide) (by decide) pok_32 (pok_d 50 (by decide)) (by decide) (by decide) (by decide)
  rw [qA_n, qA_d]
  exact h
theorem ex_parse2 (w : World) : Calls Tryz.prog 47 #[.string { data := #[50, 47, 52] }] w (RetV (.tuple #[zeroQ, .int .i64 3]) w) :=
  qparse_badgcd { data := #[50, 47, 52] } w (by decide) 1 (by decide) (by decide) (pok_d 50 (by decide)) (pok_d 52 (by decide)) (by decide) (by decide)
theorem txs_3 : txs (-3) = { data := #[45, 51] } := txs_back (s := { data := #[45, 51] }) pok_32
theorem txs_2 : txs 2 = { data := #[50] } := txs_back (s := { data := #[50] }) (pok_d 50 (by decide))
theorem ex_text (va : Value) (w : World) (ha : Qv w va qA.num qA.den) : Calls Tryz.prog 43 #[va] w (RetV (.string { data := #[45, 51, 47, 50] }) w) := by
  have h := qtext_any va qA w ha (srA (by omega))
  have e : qtx qA = { data := #[45, 51, 47, 50] } := by
    unfold qtx
    rw [qA_n, qA_d, if_neg (by omega), txs_3, txs_2]
    decide
  rwa [e] at h
theorem bl3 : bl 3 = 2 := by
  have h1 := (bl_lt 3 2).2 (by decide)
  have h2 : ¬ bl 3 ≤ 1 := fun h => absurd ((bl_lt 3 1).1 h) (by decide)
  omega
theorem bl2 : bl 2 = 2 := by
  have h1 := (bl_lt 2 2).2 (by decide)
  have h2 : ¬ bl 2 ≤ 1 := fun h => absurd ((bl_lt 2 1).1 h) (by decide)
  omega
theorem ex_bits (va : Value) (w : World) (ha : Qv w va qA.num qA.den) : Calls Tryz.prog 41 #[va] w (RetV (.int .i64 4) w) := by
  have h := qbits_any va qA w ha (srA (by omega))
  rw [qA_n, qA_d, show ((-3 : Int)).natAbs = 3 from rfl, show ((2 : Int)).natAbs = 2 from rfl, bl3, bl2] at h
  exact h
theorem ex_sign (va : Value) (w : World) (ha : Qv w va qA.num qA.den) : Calls Tryz.prog 37 #[va] w (RetV (.int .i64 (-1)) w) := by
  have h := qsign_any va qA w ha (srA (by omega))
  rw [qA_n] at h
  exact h
theorem ex_floor (va : Value) (w : World) (ha : Qv w va qA.num qA.den) : Calls Tryz.prog 33 #[va] w (RetIv (-2) w) := by
  have h := qfloor_any va qA w ha (srA (by omega))
  rw [qA_n, qA_d] at h
  exact h
theorem ex_made1 (w : World) : Calls Tryz.prog 15 #[.agg #[.int .i8 (-3), .int .i8 2, .int .u8 0]] w (RetQ qA.num qA.den w) := by
  have h := qmade_any (-3) 2 0 w (by omega) (by omega) (by omega)
  rw [show mkQ (-3) 2 0 = qA by decide +kernel] at h
  exact h
theorem ex_made2 (w : World) : Calls Tryz.prog 15 #[.agg #[.int .i8 1, .int .i8 2, .int .u8 0]] w (RetQ qB.num qB.den w) := by
  have h := qmade_any 1 2 0 w (by omega) (by omega) (by omega)
  rw [show mkQ 1 2 0 = qB by decide +kernel] at h
  exact h
theorem ex_made3 (w : World) : Calls Tryz.prog 15 #[.agg #[.int .i8 7, .int .i8 5, .int .u8 0]] w (RetQ qD.num qD.den w) := by
  have h := qmade_any 7 5 0 w (by omega) (by omega) (by omega)
  rw [show mkQ 7 5 0 = qD by decide +kernel] at h
  exact h

end Go.Proofs.YtfigimfdojbkeaaGreat
end
