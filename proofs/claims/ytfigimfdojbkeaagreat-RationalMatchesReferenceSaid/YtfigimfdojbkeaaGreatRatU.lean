/-
 Layer 2's laws.
-/
import Derived.Test.YtfigimfdojbkeaaGreatRatZ
import Derived.Deep.DeepCutAuto
import Derived.Handy
set_option linter.unusedSimpArgs false
set_option linter.unusedVariables false
namespace Go.Proofs.YtfigimfdojbkeaaGreat
open Go.RowKit
attribute [local go_sem ↓] Go.wp_at_zero Go.wp_at_succ

def T2 (w : World) (g : Nat) (n0 d0 k0 n1 d1 k1 : Int) : Prop := w.heap[g]? = some (.cells #[.int .i8 n0, .int .i8 d0, .int .u8 k0, .int .i8 n1, .int .i8 d1, .int .u8 k1] 25 (0, 0))
theorem T2.new (w : World) (n0 d0 k0 n1 d1 k1 : Int) : T2 (w.alloc (.cells #[.int .i8 n0, .int .i8 d0, .int .u8 k0, .int .i8 n1, .int .i8 d1, .int .u8 k1] 25)) w.heap.size n0 d0 k0 n1 d1 k1 := heap_alloc_new w _
section
variable {w : World} {g : Nat} {n0 d0 k0 n1 d1 k1 : Int}
theorem T2.lt (h : T2 w g n0 d0 k0 n1 d1 k1) : g < w.heap.size := by
 rcases Nat.lt_or_ge g w.heap.size with hlt | hge
 ·exact hlt
 ·unfold T2 at h; rw [Array.getElem?_eq_none hge] at h; cases h
theorem T2.cell0 (h : T2 w g n0 d0 k0 n1 d1 k1) : w.cell? ⟨g, 0, none⟩ = some (.int .i8 n0) := cell_of_row w g 0 _ _ (0, 0) h
theorem T2.cell1 (h : T2 w g n0 d0 k0 n1 d1 k1) : w.cell? ⟨g, 1, none⟩ = some (.int .i8 d0) := cell_of_row w g 1 _ _ (0, 0) h
theorem T2.cell2 (h : T2 w g n0 d0 k0 n1 d1 k1) : w.cell? ⟨g, 2, none⟩ = some (.int .u8 k0) := cell_of_row w g 2 _ _ (0, 0) h
theorem T2.cell3 (h : T2 w g n0 d0 k0 n1 d1 k1) : w.cell? ⟨g, 3, none⟩ = some (.int .i8 n1) := cell_of_row w g 3 _ _ (0, 0) h
theorem T2.cell4 (h : T2 w g n0 d0 k0 n1 d1 k1) : w.cell? ⟨g, 4, none⟩ = some (.int .i8 d1) := cell_of_row w g 4 _ _ (0, 0) h
theorem T2.cell5 (h : T2 w g n0 d0 k0 n1 d1 k1) : w.cell? ⟨g, 5, none⟩ = some (.int .u8 k1) := cell_of_row w g 5 _ _ (0, 0) h
theorem T2.next {w1 w' : World} (h : T2 w g n0 d0 k0 n1 d1 k1) (hb : Below w1.heap.size w1 w') (e : w1.heap = w.heap) : T2 w' g n0 d0 k0 n1 d1 k1 := by
 have h1 : T2 w1 g n0 d0 k0 n1 d1 k1 := by unfold T2; rw [e]; exact h
 exact (hb.block g h1.lt).trans h1
theorem T2.bel {O : List Nat} {V : World} (h : T2 V g n0 d0 k0 n1 d1 k1) (hb : Rg.Bel O V w) (hn : g ∉ O) : T2 w g n0 d0 k0 n1 d1 k1 := (hb.block g h.lt hn).trans h
end
section
variable {o : Oper} {w : World} {ρ : Operand → Value} {x i : Operand} {g : Nat} {n0 d0 k0 n1 d1 k1 : Int}
set_option maxRecDepth 100000 in
theorem run_at2 (k : Nat) (ho : o.op = .indexAddr 25 x i) (hx : ρ x = ptr g) (hi : ρ i = .int .i64 (k : Int)) (hk : k < 2) :
  (execOp ρ o).run Tryz.prog w = .ok (.value (.pointer (some ⟨g, 3 * k, none⟩))) w := by
 have hs : ∀ w, (sizeOf 24).run Tryz.prog w = .ok 3 w := fun _ => by kernel_rfl
 have h8 : Tryz.prog.arrayLen 25 = 2 := by kernel_rfl
 have h1 : (Instr.indexAt 25 (.pointer (some ⟨g, 0, none⟩)) (.int .i64 (k : Int))).run Tryz.prog w = .ok (.pointer (some ⟨g, 3 * k, none⟩)) w := by
  rw [run_indexAt_array w _ _ _ _ (by kernel_rfl), h8, if_pos ⟨by omega, by omega⟩]
  show (((sizeOf 24).run Tryz.prog w).andThen _) = _
  rw [hs]
  simp [Result.andThen, Addr.add_mid, Nat.mul_comm]
 simp [execOp, ho, hx, hi, h1, ptr]
theorem run_load20 (ho : o.op = .load 24 x) (hx : ρ x = .pointer (some ⟨g, 0, none⟩)) (hb : T2 w g n0 d0 k0 n1 d1 k1) : (execOp ρ o).run Tryz.prog w = .ok (.value (.agg #[.int .i8 n0, .int .i8 d0, .int .u8 k0])) w := by
 have h0 := hb.cell0
 have h1 := hb.cell1
 have h2 := hb.cell2
 simp [execOp, ho, hx, go_sem, h0, h1, h2]
theorem run_load21 (ho : o.op = .load 24 x) (hx : ρ x = .pointer (some ⟨g, 3, none⟩)) (hb : T2 w g n0 d0 k0 n1 d1 k1) : (execOp ρ o).run Tryz.prog w = .ok (.value (.agg #[.int .i8 n1, .int .i8 d1, .int .u8 k1])) w := by
 have h0 := hb.cell3
 have h1 := hb.cell4
 have h2 := hb.cell5
 simp [execOp, ho, hx, go_sem, h0, h1, h2]
end

def T3 (w : World) (g : Nat) (n0 d0 k0 n1 d1 k1 n2 d2 k2 : Int) : Prop := w.heap[g]? = some (.cells #[.int .i8 n0, .int .i8 d0, .int .u8 k0, .int .i8 n1, .int .i8 d1, .int .u8 k1, .int .i8 n2, .int .i8 d2, .int .u8 k2] 59 (0, 0))
theorem T3.new (w : World) (n0 d0 k0 n1 d1 k1 n2 d2 k2 : Int) : T3 (w.alloc (.cells #[.int .i8 n0, .int .i8 d0, .int .u8 k0, .int .i8 n1, .int .i8 d1, .int .u8 k1, .int .i8 n2, .int .i8 d2, .int .u8 k2] 59)) w.heap.size n0 d0 k0 n1 d1 k1 n2 d2 k2 := heap_alloc_new w _
section
variable {w : World} {g : Nat} {n0 d0 k0 n1 d1 k1 n2 d2 k2 : Int}
theorem T3.lt (h : T3 w g n0 d0 k0 n1 d1 k1 n2 d2 k2) : g < w.heap.size := by
 rcases Nat.lt_or_ge g w.heap.size with hlt | hge
 ·exact hlt
 ·unfold T3 at h; rw [Array.getElem?_eq_none hge] at h; cases h
theorem T3.cell0 (h : T3 w g n0 d0 k0 n1 d1 k1 n2 d2 k2) : w.cell? ⟨g, 0, none⟩ = some (.int .i8 n0) := cell_of_row w g 0 _ _ (0, 0) h
theorem T3.cell1 (h : T3 w g n0 d0 k0 n1 d1 k1 n2 d2 k2) : w.cell? ⟨g, 1, none⟩ = some (.int .i8 d0) := cell_of_row w g 1 _ _ (0, 0) h
theorem T3.cell2 (h : T3 w g n0 d0 k0 n1 d1 k1 n2 d2 k2) : w.cell? ⟨g, 2, none⟩ = some (.int .u8 k0) := cell_of_row w g 2 _ _ (0, 0) h
theorem T3.cell3 (h : T3 w g n0 d0 k0 n1 d1 k1 n2 d2 k2) : w.cell? ⟨g, 3, none⟩ = some (.int .i8 n1) := cell_of_row w g 3 _ _ (0, 0) h
theorem T3.next {w1 w' : World} (h : T3 w g n0 d0 k0 n1 d1 k1 n2 d2 k2) (hb : Below w1.heap.size w1 w') (e : w1.heap = w.heap) : T3 w' g n0 d0 k0 n1 d1 k1 n2 d2 k2 := by
 have h1 : T3 w1 g n0 d0 k0 n1 d1 k1 n2 d2 k2 := by unfold T3; rw [e]; exact h
 exact (hb.block g h1.lt).trans h1
theorem T3.bel {O : List Nat} {V : World} (h : T3 V g n0 d0 k0 n1 d1 k1 n2 d2 k2) (hb : Rg.Bel O V w) (hn : g ∉ O) : T3 w g n0 d0 k0 n1 d1 k1 n2 d2 k2 := (hb.block g h.lt hn).trans h
end
section
variable {o : Oper} {w : World} {ρ : Operand → Value} {x i : Operand} {g : Nat} {n0 d0 k0 n1 d1 k1 n2 d2 k2 : Int}
end

def Rw (n d k : Int) : Prop := (-128 ≤ n ∧ n ≤ 127) ∧ (-128 ≤ d ∧ d ≤ 127) ∧ (0 ≤ k ∧ k ≤ 255)
theorem sz_big {k : Int} (h : 0 ≤ k ∧ k ≤ 255) : Sz (big k) 2 := I64.sz ⟨by unfold big; omega, by unfold big; omega⟩
theorem mkN_sz {n d k : Int} (h : Rw n d k) : Sz (mkN n k) 7 := by
 obtain ⟨h1, h2, h3⟩ := h
 have sn : Sz n 2 := Sz.small (by omega) (by omega)
 have sk : Sz k 2 := Sz.small (by omega) (by omega)
 unfold mkN
 split
 ·exact Sz.add ((sn.mul (sz_big h3)).mul (sz_big h3)) (sk.mono (by omega))
 ·exact sn.mono (by omega)
theorem mkD_sz {n d k : Int} (h : Rw n d k) : Sz (mkD d k) 7 := by
 obtain ⟨h1, h2, h3⟩ := h
 have sn : Sz (if d = 0 then 1 else d) 2 := by split <;> exact Sz.small (by omega) (by omega)
 unfold mkD
 split
 ·exact ((sn.mul (sz_big h3)).mul (sz_big h3)).mono (by omega)
 ·exact sn.mono (by omega)
theorem divInt_sr {n d : Int} {N : Nat} (hn : Sz n N) (hd : Sz d N) (h0 : d ≠ 0) : Sr (Rat.divInt n d) N := by
 rcases Int.lt_trichotomy d 0 with h | h | h
 ·exact ⟨by rw [rnew_num_neg n d h]; exact hn.divs, by rw [rnew_den_neg n d h]; exact hd.divs⟩
 ·exact absurd h h0
 ·exact ⟨by rw [rnew_num n d h]; exact hn.divs, by rw [rnew_den n d h]; exact hd.divs⟩
theorem mkQ_sr {n d k : Int} (h : Rw n d k) : Sr (mkQ n d k) 7 := divInt_sr (mkN_sz h) (mkD_sz h) (mkD_ne d k h.2.2.1)
theorem made_is {n d k : Int} (r : Rat) (w : World) (h : Rw n d k) (e : mkQ n d k = r) : Calls Tryz.prog 15 #[.agg #[.int .i8 n, .int .i8 d, .int .u8 k]] w (RetQ r.num r.den w) := e ▸ qmade_any n d k w h.1 h.2.1 h.2.2
theorem Sr.sub {a b : Rat} {N M : Nat} (h : Sr a N) (k : Sr b M) : Sr (a - b) (N + M + 1) := by rw [Rat.sub_eq_add_neg]; exact h.add k.neg
theorem Sr.whole {z : Int} (h : -9223372036854775808 ≤ z ∧ z ≤ 9223372036854775807) : Sr (z : Rat) 2 := ⟨by rw [Rat.num_intCast]; exact I64.sz h, by rw [Rat.den_intCast]; exact Sz.small (by omega) (by omega)⟩

set_option maxHeartbeats 8000000 in
set_option maxRecDepth 100000 in
theorem qdiv_zero (va vb : Value) (a b : Rat) (w : World) (ha : Qv w va a.num a.den) (sa : Sr a 50000) (hb : Qv w vb b.num b.den) (sb : Sr b 50000) (h0 : b.num = 0) : Calls Tryz.prog 29 #[va, vb] w (RetV (.tuple #[zeroQ, .int .i64 10]) w) := by
 obtain ⟨Xan, pan, qan, Xad, pad, qad, rfl, han, had⟩ := ha
 have Han := Lib.hid han
 have Had := Lib.hid had
 have SRa := Lib.hid sa
 clear han had sa
 generalize hs : decide (a.num < 0) = san at *
 clear hs
 generalize hs : decide ((a.den : Int) < 0) = sad at *
 clear hs
 obtain ⟨Xbn, pbn, qbn, Xbd, pbd, qbd, rfl, hbn, hbd⟩ := hb
 have Hbn := Lib.hid hbn
 have Hbd := Lib.hid hbd
 have SRb := Lib.hid sb
 clear hbn hbd sb
 generalize hs : decide (b.num < 0) = sbn at *
 clear hs
 generalize hs : decide ((b.den : Int) < 0) = sbd at *
 clear hs
 replace h0 := Lib.hid h0
 obtain ⟨z1, hz1⟩ : ∃ z : Int, z = 0 := ⟨_, rfl⟩
 obtain ⟨z2, hz2⟩ : ∃ z : Int, z = 0 := ⟨_, rfl⟩
 replace hz1 := Lib.hid hz1; replace hz2 := Lib.hid hz2
 go_enter Tryz.func29, Tryz.ntmps29
 go_wp2_with fail
 obtain ⟨W, hW⟩ : ∃ W, W = (((w.alloc (Obj.cells #[Value.bool san, Value.slice Xan pan qan, Value.bool sad, Value.slice Xad pad qad] 31)).alloc (Obj.cells #[Value.bool sbn, Value.slice Xbn pbn qbn, Value.bool sbd, Value.slice Xbd pbd qbd] 31)).alloc (Obj.cells #[Value.bool false, Value.slice none 0 0, Value.bool false, Value.slice none 0 0] 31)) := ⟨_, rfl⟩
 rw [← hW]
 have QXa : Hid (QBox W (w.heap.size) san (.slice Xan pan qan) sad (.slice Xad pad qad)) := by rw [hW]; have := ((QBox.new w san (Value.slice Xan pan qan) sad (Value.slice Xad pad qad)).alloc (Obj.cells #[Value.bool sbn, Value.slice Xbn pbn qbn, Value.bool sbd, Value.slice Xbd pbd qbd] 31)).alloc (Obj.cells #[Value.bool false, Value.slice none 0 0, Value.bool false, Value.slice none 0 0] 31); simpa [Hid] using this
 have QXb : Hid (QBox W (w.heap.size + 1) sbn (.slice Xbn pbn qbn) sbd (.slice Xbd pbd qbd)) := by rw [hW]; have := (QBox.new (w.alloc (Obj.cells #[Value.bool san, Value.slice Xan pan qan, Value.bool sad, Value.slice Xad pad qad] 31)) sbn (Value.slice Xbn pbn qbn) sbd (Value.slice Xbd pbd qbd)).alloc (Obj.cells #[Value.bool false, Value.slice none 0 0, Value.bool false, Value.slice none 0 0] 31); simpa [Hid] using this
 have RXr : Hid (QBox W (w.heap.size + 1 + 1) false (.slice none 0 0) false (.slice none 0 0)) := by rw [hW]; have := QBox.new ((w.alloc (Obj.cells #[Value.bool san, Value.slice Xan pan qan, Value.bool sad, Value.slice Xad pad qad] 31)).alloc (Obj.cells #[Value.bool sbn, Value.slice Xbn pbn qbn, Value.bool sbd, Value.slice Xbd pbd qbd] 31)) false (Value.slice none 0 0) false (Value.slice none 0 0); simpa [Hid] using this
 have IVna : Hid (Iv W (.agg #[.bool san, .slice Xan pan qan]) (a.num)) := by rw [hW]; exact (((Han.out).alloc _).alloc _).alloc _
 have IVda : Hid (Iv W (.agg #[.bool sad, .slice Xad pad qad]) ((a.den : Int))) := by rw [hW]; exact (((Had.out).alloc _).alloc _).alloc _
 have IVnb : Hid (Iv W (.agg #[.bool sbn, .slice Xbn pbn qbn]) (b.num)) := by rw [hW]; exact (((Hbn.out).alloc _).alloc _).alloc _
 have IVdb : Hid (Iv W (.agg #[.bool sbd, .slice Xbd pbd qbd]) ((b.den : Int))) := by rw [hW]; exact (((Hbd.out).alloc _).alloc _).alloc _
 have DW : Hid (Below w.heap.size w W) := by rw [hW]; exact (((Below.refl _ _).alloc (by simp <;> omega) _).alloc (by simp <;> omega) _).alloc (by simp <;> omega) _
 clear hW
 generalize hg : w.heap.size = g at *
 replace hg := Lib.hid hg
 go_upto_region 1 with fail
 have QVb : Hid (Qv W (.agg #[.bool sbn, .slice Xbn pbn qbn, .bool sbd, .slice Xbd pbd qbd]) b.num b.den) := qv_of IVnb.out IVdb.out
 have u1a := QXb.out.cell0; have u1b := QXb.out.cell1; have u1c := QXb.out.cell2; have u1d := QXb.out.cell3
 go_wp2_with fail
 clear u1a u1b u1c u1d
 refine ((qinv_zero _ b _ QVb.out (SRb.out.mono (by omega)) h0.out).mono fun _ _ h => retqd hz1.out hz2.out h).mono ?_
 rintro e y2 ⟨_, rfl, hq, hb⟩
 clear QVb
 obtain ⟨Xcn, pcn, qcn, Xcd, pcd, qcd, rfl, hcn, hcd⟩ := hq
 have Qcn := Lib.hid hcn; have Qcd := Lib.hid hcd; clear hcn hcd
 have B := Lib.hid hb; clear hb
 generalize hs : decide ((z1 : Int) < 0) = scn at *
 clear hs
 generalize hs : decide ((z2 : Int) < 0) = scd at *
 clear hs
 go_upto_region 2 with fail
 obtain ⟨W3, hW⟩ : ∃ W3, W3 = y2.alloc (Obj.cells #[Value.bool scn, Value.slice Xcn pcn qcn, Value.bool scd, Value.slice Xcd pcd qcd] 31) := ⟨_, rfl⟩
 rw [← hW]
 have QXc : Hid (QBox W3 y2.heap.size scn (.slice Xcn pcn qcn) scd (.slice Xcd pcd qcd)) := by rw [hW]; exact QBox.new _ _ _ _ _
 have IVnc : Hid (Iv W3 (.agg #[.bool scn, .slice Xcn pcn qcn]) (z1)) := by rw [hW]; exact Qcn.out.alloc _
 have IVdc : Hid (Iv W3 (.agg #[.bool scd, .slice Xcd pcd qcd]) (z2)) := by rw [hW]; exact Qcd.out.alloc _
 have hd : Below W.heap.size W W3 := by rw [hW]; exact B.out.alloc (by have := B.out.size; omega) _
 have NEcr : Hid (y2.heap.size ≠ (g + 1 + 1)) := by have := RXr.out.lt; have := B.out.size; unfold Hid; omega
 clear hW B Qcn Qcd
 generalize hgn3 : y2.heap.size = gc at *
 clear hgn3
 replace QXa := nxq QXa hd rfl; replace IVna := nxv IVna hd rfl; replace IVda := nxv IVda hd rfl
 replace QXb := nxq QXb hd rfl; replace IVnb := nxv IVnb hd rfl; replace IVdb := nxv IVdb hd rfl
 replace RXr := Lib.hid (RXr.out.next hd rfl)
 replace DW := nxd DW hg hd rfl rfl rfl rfl
 clear hd
 go_upto_region 3 with fail
 have u4a := RXr.out.cell0; have u4b := RXr.out.cell1; have u4c := RXr.out.cell2; have u4d := RXr.out.cell3; have u4f := RXr.out.frozen 0; have u4g := RXr.out.frozen 1; have u4h := RXr.out.frozen 2; have u4i := RXr.out.frozen 3
 go_wp2
 refine bodyPost_ret (v := .tuple #[zeroQ, .int .i64 10]) (by simp [results, Tryz.results29, go_sem, zeroQ, u4a, u4b, u4c, u4d, u4f, u4g, u4h, u4i]) rfl ⟨rfl, ?_⟩
 rw [hg.out]
 first | exact DW.out | exact (((DW.out.setCell (by simp <;> omega) _).setCell (by simp <;> omega) _).setCell (by simp <;> omega) _).setCell (by simp <;> omega) _
end Go.Proofs.YtfigimfdojbkeaaGreat
