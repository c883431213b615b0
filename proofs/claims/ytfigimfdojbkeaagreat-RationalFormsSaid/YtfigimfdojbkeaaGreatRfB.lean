/-
  RationalForms: both Valid on any words, both Parse, the law.
-/
import Derived.Test.YtfigimfdojbkeaaGreatRfA
import Derived.Test.YtfigimfdojbkeaaGreatRefG
import Derived.Deep.DeepCutAuto
import Derived.Handy
import Derived.Lib.IndexLaws
set_option linter.unusedSimpArgs false
set_option linter.unusedVariables false
namespace Go.Proofs.YtfigimfdojbkeaaGreat
open Go.RowKit
attribute [local go_sem ↓] Go.wp_at_zero Go.wp_at_succ

theorem ix_hit {s : ByteArray} {i : Nat} (hx : Lib.indexByte s.data.toList 47 = i) (hi : i < s.size) : s[i].toNat = 47 ∧ ∀ k (hk : k < s.size), k < i → s[k].toNat ≠ 47 := by
  obtain ⟨h1, h2⟩ := Lib.indexByte_some hx
  refine ⟨?_, fun k hk hki e => h2 k hki ?_⟩
  · rw [byte_at s i hi] at h1
    rw [Option.some.inj h1]
    rfl
  · rw [byte_at s k hk]
    exact congrArg some (UInt8.toNat_inj.1 (by rw [e]; rfl))
theorem ix_miss {s : ByteArray} (hx : Lib.indexByte s.data.toList 47 = -1) : ∀ k (hk : k < s.size), s[k].toNat ≠ 47 := by
  intro k hk e
  refine Lib.indexByte_none hx k ?_
  rw [byte_at s k hk]
  exact congrArg some (UInt8.toNat_inj.1 (by rw [e]; rfl))
theorem rone_z (z : Int) (w : World) (h : z = 1) : Calls Tryz.prog 89 #[.int .i64 1] w (RetIv z w) := by rw [h]; exact rof_any 1 w (by omega) (by omega)
theorem rqvalid_is (va : Value) (f : Rat) (w : World) (ha : Qv w va f.num f.den) (sa : Sr f 1000000) : Calls Tryz.prog 46 #[va] w (RetV (.bool true) w) := by
  have h := rqvalid_pos va f.num f.den w ha sa.num sa.den (den_cast f)
  rw [Int.natAbs_natCast, gcd_num] at h
  exact h
theorem rqvalid_no (va : Value) (n d : Int) (w : World) (ha : Qv w va n d) (sn : Sz n 1000000) (sd : Sz d 1000000) (h : d ≤ 0 ∨ Nat.gcd n.natAbs d.natAbs ≠ 1) : Calls Tryz.prog 46 #[va] w (RetV (.bool false) w) := by
  by_cases hp : d ≤ 0
  · exact rqvalid_neg va n d w ha sn sd hp
  · have k := rqvalid_pos va n d w ha sn sd (by omega)
    rw [decide_eq_false (by omega)] at k
    exact k
theorem rqtext_is (va : Value) (a : Rat) (t : ByteArray) (w : World) (ha : Qv w va a.num a.den) (sa : Sr a 200000) (h : qtx a = t) : Calls Tryz.prog 44 #[va] w (RetV (.string t) w) := h ▸ rqtext_any va a w ha sa
theorem qpb_dec (s : ByteArray) (w : World) (hs : 4000 < s.size) : Calls Tryz.prog 47 #[.string s] w (RetV (.tuple #[zeroQ, .int .i64 2]) w) := by
  have h1 : decide ((4000 : Int) < (s.size : Int)) = true := by simp; omega
  clear hs
  go_enter Tryz.func47, Tryz.ntmps47
  go_wp2
  exact bodyPost_ret (v := .tuple #[zeroQ, .int .i64 2]) (by simp [results, Tryz.results47, go_sem, zeroQ]) rfl ⟨rfl, (Below.refl _ _).alloc (Nat.le_refl _) _⟩

set_option maxHeartbeats 8000000 in
set_option maxRecDepth 100000 in
theorem rqp_n3 (s : ByteArray) (w : World) (hs : s.size ≤ 4000) (i : Nat) (hi : i = s.size) (hx : ∀ k (hk : k < s.size), s[k].toNat ≠ 47) (z1 z2 : Int) (s1 : Sz z1 4000) (s2 : Sz z2 4000) (P1 : ∀ w, Calls Tryz.prog 119 #[.string s] w (RetE z1 3 w)) (P2 : z2 = 1) : Calls Tryz.prog 48 #[.string s] w (RetQC 0 0 3 w) := by
  have hs0 : decide ((4000 : Int) < s.size) = false := decide_eq_false (by omega)
  have HS := Lib.hid hs; have HI := Lib.hid hi; have HX := Lib.hid hx
  replace P1 := Lib.hid P1; replace P2 := Lib.hid P2
  replace s1 := Lib.hid s1; replace s2 := Lib.hid s2
  skip
  clear hs hx hi
  go_enter Tryz.func48, Tryz.ntmps48
  go_wp2_with fail
  obtain ⟨W, hW⟩ : ∃ W, W = (w.alloc (Obj.cells #[Value.bool false, Value.slice none 0 0, Value.bool false, Value.slice none 0 0] 31)) := ⟨_, rfl⟩
  rw [← hW]
  have RXr : Hid (QBox W (w.heap.size) false (.slice none 0 0) false (.slice none 0 0)) := by rw [hW]; have := QBox.new w false (Value.slice none 0 0) false (Value.slice none 0 0); simpa [Hid] using this
  have DW : Hid (Below w.heap.size w W) := by rw [hW]; exact (Below.refl _ _).alloc (by simp <;> omega) _
  clear hW
  generalize hg : w.heap.size = g at *
  replace hg := Lib.hid hg
  go_upto_region 3 with fail
  clear hs0
  go_wp2_with fail
  go_loopw [4] (fun v wr => ∃ k : Nat, k ≤ i ∧ v = .int .i64 k ∧ Below W.heap.size W wr) (fun v _ => i - (intOf v).toNat)
  case atStart => exact ⟨0, by omega, rfl, Below.refl _ _⟩
  case round =>
    obtain ⟨k, hk, rfl, hbl⟩ := hrel
    have BL := Lib.hid hbl
    replace RXr := Lib.hid (RXr.out.next hbl rfl)
    replace DW := nxd DW hg hbl rfl rfl rfl rfl
    clear hbl
    by_cases hki : k < i
    · skip
      have hks : k < s.size := by have := HI.out; omega
      have hk4 : k < 4000 := by have := HS.out; omega
      have e0 : (k : Int) < (s.size : Int) := by omega
      have e1 : (((s[k].toNat : Nat) : Int) != 47) = true := by
        have h := HX.out k hks
        rw [bne_iff_ne]; omega
      have e2 : ((s[k].toNat : Nat) : Int) ≠ 47 := by rwa [bne_iff_ne] at e1
      go_wp2
      go_roundw
      case rel => exact ⟨k + 1, by omega, by go_num, BL.out⟩
      case measure => simp [intOf]; omega
    · skip
      obtain rfl : k = i := by omega
      have hi0 := HI.out
      have e0 : decide ((k : Int) < (s.size : Int)) = false := decide_eq_false (by omega)
      have e5 : (k : Int) ≤ (s.size : Int) := by omega
      have e6 : k ≤ s.size := by omega
      go_wp2_with fail
      refine (P1.out _).mono ?_
      rintro e y1 ⟨_, rfl, hq, hb⟩
      obtain ⟨Xn, pn, qn, rfl, _, _, _⟩ := hq.form
      have Qn := Lib.hid hq; clear hq
      have B := Lib.hid hb; clear hb
      generalize hs : decide ((z1 : Int) < 0) = sn at *
      clear hs
      go_upto_region 7 with fail
      obtain ⟨W2, hW⟩ : ∃ W2, W2 = (y1.alloc (Obj.cells #[Value.bool sn, Value.slice Xn pn qn] 29)) := ⟨_, rfl⟩
      rw [← hW]
      have BXn : Hid (Box W2 (y1.heap.size) sn (.slice Xn pn qn)) := by rw [hW]; have := Box.new y1 sn (.slice Xn pn qn); simpa [Hid] using this
      have IVn : Hid (Iv W2 (.agg #[.bool sn, .slice Xn pn qn]) (z1)) := by rw [hW]; exact (Qn.out).alloc _
      have hd : Below wr.heap.size wr W2 := by rw [hW]; exact (B.out).alloc (by have := B.out.size; simp <;> omega) _
      have NEnr : Hid ((y1.heap.size) ≠ g) := by have := RXr.out.lt; have := B.out.size; unfold Hid; omega
      clear hW B Qn
      generalize hgn2 : y1.heap.size = gn at *
      clear hgn2
      replace RXr := Lib.hid (RXr.out.next hd rfl)
      replace DW := nxd DW hg hd rfl rfl rfl rfl
      clear hd
      go_wp2_with fail
      refine (rone_z z2 _ P2.out).mono ?_
      rintro e y3 ⟨_, rfl, hq, hb⟩
      obtain ⟨Xd, pd, qd, rfl, _, _, _⟩ := hq.form
      have Qd := Lib.hid hq; clear hq
      have B := Lib.hid hb; clear hb
      generalize hs : decide ((z2 : Int) < 0) = sd at *
      clear hs
      go_upto_region 8 with fail
      obtain ⟨W4, hW⟩ : ∃ W4, W4 = (y3.alloc (Obj.cells #[Value.bool sd, Value.slice Xd pd qd] 29)) := ⟨_, rfl⟩
      rw [← hW]
      have BXd : Hid (Box W4 (y3.heap.size) sd (.slice Xd pd qd)) := by rw [hW]; have := Box.new y3 sd (.slice Xd pd qd); simpa [Hid] using this
      have IVd : Hid (Iv W4 (.agg #[.bool sd, .slice Xd pd qd]) (z2)) := by rw [hW]; exact (Qd.out).alloc _
      have hd : Below W2.heap.size W2 W4 := by rw [hW]; exact (B.out).alloc (by have := B.out.size; simp <;> omega) _
      have NEdr : Hid ((y3.heap.size) ≠ g) := by have := RXr.out.lt; have := B.out.size; unfold Hid; omega
      clear hW B Qd
      generalize hgn4 : y3.heap.size = gd at *
      clear hgn4
      replace BXn := nxb BXn hd rfl; replace IVn := nxv IVn hd rfl
      replace RXr := Lib.hid (RXr.out.next hd rfl)
      replace DW := nxd DW hg hd rfl rfl rfl rfl
      clear hd
      go_upto_region 10 with fail
      have u5a := RXr.out.cell0; have u5b := RXr.out.cell1; have u5c := RXr.out.cell2; have u5d := RXr.out.cell3; have u5f := RXr.out.frozen 0; have u5g := RXr.out.frozen 1; have u5h := RXr.out.frozen 2; have u5i := RXr.out.frozen 3
      go_wp2
      refine bodyPost_ret (v := .tuple #[zeroQ, .int .i64 3]) (by simp [results, Tryz.results48, go_sem, zeroQ, u5a, u5b, u5c, u5d, u5f, u5g, u5h, u5i]) rfl ⟨_, rfl, zeroQ_qv _, by rw [hg.out]; first | exact DW.out | exact (((DW.out.setCell (by simp <;> omega) _).setCell (by simp <;> omega) _).setCell (by simp <;> omega) _).setCell (by simp <;> omega) _⟩

set_option maxHeartbeats 8000000 in
set_option maxRecDepth 100000 in
theorem rqp_n1 (s : ByteArray) (w : World) (hs : s.size ≤ 4000) (i : Nat) (hi : i = s.size) (hx : ∀ k (hk : k < s.size), s[k].toNat ≠ 47) (A : Rat) (sA : Sr A 4000) (P1 : ∀ w, Calls Tryz.prog 119 #[.string s] w (RetE A.num 0 w)) (P2 : (A.den : Int) = 1) (t : ByteArray) (ht : qtx A = t) (hts : (t.toList == s.toList) = true) : Calls Tryz.prog 48 #[.string s] w (RetQC A.num A.den 0 w) := by
  have hs0 : decide ((4000 : Int) < s.size) = false := decide_eq_false (by omega)
  have HS := Lib.hid hs; have HI := Lib.hid hi; have HX := Lib.hid hx
  replace P1 := Lib.hid P1; replace P2 := Lib.hid P2
  replace sA := Lib.hid sA; replace ht := Lib.hid ht; replace hts := Lib.hid hts
  skip
  clear hs hx hi
  go_enter Tryz.func48, Tryz.ntmps48
  go_wp2_with fail
  obtain ⟨W, hW⟩ : ∃ W, W = (w.alloc (Obj.cells #[Value.bool false, Value.slice none 0 0, Value.bool false, Value.slice none 0 0] 31)) := ⟨_, rfl⟩
  rw [← hW]
  have RXr : Hid (QBox W (w.heap.size) false (.slice none 0 0) false (.slice none 0 0)) := by rw [hW]; have := QBox.new w false (Value.slice none 0 0) false (Value.slice none 0 0); simpa [Hid] using this
  have DW : Hid (Below w.heap.size w W) := by rw [hW]; exact (Below.refl _ _).alloc (by simp <;> omega) _
  clear hW
  generalize hg : w.heap.size = g at *
  replace hg := Lib.hid hg
  go_upto_region 3 with fail
  clear hs0
  go_wp2_with fail
  go_loopw [4] (fun v wr => ∃ k : Nat, k ≤ i ∧ v = .int .i64 k ∧ Below W.heap.size W wr) (fun v _ => i - (intOf v).toNat)
  case atStart => exact ⟨0, by omega, rfl, Below.refl _ _⟩
  case round =>
    obtain ⟨k, hk, rfl, hbl⟩ := hrel
    have BL := Lib.hid hbl
    replace RXr := Lib.hid (RXr.out.next hbl rfl)
    replace DW := nxd DW hg hbl rfl rfl rfl rfl
    clear hbl
    by_cases hki : k < i
    · skip
      have hks : k < s.size := by have := HI.out; omega
      have hk4 : k < 4000 := by have := HS.out; omega
      have e0 : (k : Int) < (s.size : Int) := by omega
      have e1 : (((s[k].toNat : Nat) : Int) != 47) = true := by
        have h := HX.out k hks
        rw [bne_iff_ne]; omega
      have e2 : ((s[k].toNat : Nat) : Int) ≠ 47 := by rwa [bne_iff_ne] at e1
      go_wp2
      go_roundw
      case rel => exact ⟨k + 1, by omega, by go_num, BL.out⟩
      case measure => simp [intOf]; omega
    · skip
      obtain rfl : k = i := by omega
      have hi0 := HI.out
      have e0 : decide ((k : Int) < (s.size : Int)) = false := decide_eq_false (by omega)
      have e5 : (k : Int) ≤ (s.size : Int) := by omega
      have e6 : k ≤ s.size := by omega
      go_wp2_with fail
      refine (P1.out _).mono ?_
      rintro e y1 ⟨_, rfl, hq, hb⟩
      obtain ⟨Xn, pn, qn, rfl, _, _, _⟩ := hq.form
      have Qn := Lib.hid hq; clear hq
      have B := Lib.hid hb; clear hb
      generalize hs : decide ((A.num : Int) < 0) = sn at *
      clear hs
      go_upto_region 7 with fail
      obtain ⟨W2, hW⟩ : ∃ W2, W2 = (y1.alloc (Obj.cells #[Value.bool sn, Value.slice Xn pn qn] 29)) := ⟨_, rfl⟩
      rw [← hW]
      have BXn : Hid (Box W2 (y1.heap.size) sn (.slice Xn pn qn)) := by rw [hW]; have := Box.new y1 sn (.slice Xn pn qn); simpa [Hid] using this
      have IVn : Hid (Iv W2 (.agg #[.bool sn, .slice Xn pn qn]) (A.num)) := by rw [hW]; exact (Qn.out).alloc _
      have hd : Below wr.heap.size wr W2 := by rw [hW]; exact (B.out).alloc (by have := B.out.size; simp <;> omega) _
      have NEnr : Hid ((y1.heap.size) ≠ g) := by have := RXr.out.lt; have := B.out.size; unfold Hid; omega
      clear hW B Qn
      generalize hgn2 : y1.heap.size = gn at *
      clear hgn2
      replace RXr := Lib.hid (RXr.out.next hd rfl)
      replace DW := nxd DW hg hd rfl rfl rfl rfl
      clear hd
      go_wp2_with fail
      refine (rone_z (A.den : Int) _ P2.out).mono ?_
      rintro e y3 ⟨_, rfl, hq, hb⟩
      obtain ⟨Xd, pd, qd, rfl, _, _, _⟩ := hq.form
      have Qd := Lib.hid hq; clear hq
      have B := Lib.hid hb; clear hb
      generalize hs : decide (((A.den : Int) : Int) < 0) = sd at *
      clear hs
      go_upto_region 8 with fail
      obtain ⟨W4, hW⟩ : ∃ W4, W4 = (y3.alloc (Obj.cells #[Value.bool sd, Value.slice Xd pd qd] 29)) := ⟨_, rfl⟩
      rw [← hW]
      have BXd : Hid (Box W4 (y3.heap.size) sd (.slice Xd pd qd)) := by rw [hW]; have := Box.new y3 sd (.slice Xd pd qd); simpa [Hid] using this
      have IVd : Hid (Iv W4 (.agg #[.bool sd, .slice Xd pd qd]) ((A.den : Int))) := by rw [hW]; exact (Qd.out).alloc _
      have hd : Below W2.heap.size W2 W4 := by rw [hW]; exact (B.out).alloc (by have := B.out.size; simp <;> omega) _
      have NEdr : Hid ((y3.heap.size) ≠ g) := by have := RXr.out.lt; have := B.out.size; unfold Hid; omega
      clear hW B Qd
      generalize hgn4 : y3.heap.size = gd at *
      clear hgn4
      replace BXn := nxb BXn hd rfl; replace IVn := nxv IVn hd rfl
      replace RXr := Lib.hid (RXr.out.next hd rfl)
      replace DW := nxd DW hg hd rfl rfl rfl rfl
      clear hd
      go_upto_region 10 with fail
      go_upto_region 12 with fail
      have u5a := BXn.out.cell0; have u5b := BXn.out.cell1
      have u6a := BXd.out.cell0; have u6b := BXd.out.cell1
      go_upto_region 13 with fail
      clear u5a u5b u6a u6b
      obtain ⟨W7, hW⟩ : ∃ W7, W7 = W4.alloc (Obj.cells #[Value.bool sn, Value.slice Xn pn qn, Value.bool sd, Value.slice Xd pd qd] 31) := ⟨_, rfl⟩
      rw [← hW]
      have QXq : Hid (QBox W7 W4.heap.size sn (.slice Xn pn qn) sd (.slice Xd pd qd)) := by rw [hW]; exact QBox.new _ _ _ _ _
      have IVnq : Hid (Iv W7 (.agg #[.bool sn, .slice Xn pn qn]) (A.num)) := by rw [hW]; exact IVn.out.alloc _
      have IVdq : Hid (Iv W7 (.agg #[.bool sd, .slice Xd pd qd]) ((A.den : Int))) := by rw [hW]; exact IVd.out.alloc _
      have hd : Below W4.heap.size W4 W7 := by rw [hW]; exact (Below.refl _ _).alloc (Nat.le_refl _) _
      have NEqr : Hid (W4.heap.size ≠ g) := by have := RXr.out.lt; unfold Hid; omega
      clear hW
      replace BXn := nxb BXn hd rfl; replace IVn := nxv IVn hd rfl
      replace BXd := nxb BXd hd rfl; replace IVd := nxv IVd hd rfl
      replace RXr := Lib.hid (RXr.out.next hd rfl)
      replace DW := nxd DW hg hd rfl rfl rfl rfl
      clear hd
      generalize hgn7 : W4.heap.size = gq at *
      clear hgn7
      obtain ⟨sqn, Xqn, pqn, qqn, sqd, Xqd, pqd, qqd, e1, e2, e3, e4, e5, e6, e7, e8⟩ : ∃ a b c d e f g h, a = sn ∧ b = Xn ∧ c = pn ∧ d = qn ∧ e = sd ∧ f = Xd ∧ g = pd ∧ h = qd := ⟨_, _, _, _, _, _, _, _, rfl, rfl, rfl, rfl, rfl, rfl, rfl, rfl⟩
      rw [← e1, ← e2, ← e3, ← e4, ← e5, ← e6, ← e7, ← e8] at QXq
      rw [← e1, ← e2, ← e3, ← e4] at IVnq
      rw [← e5, ← e6, ← e7, ← e8] at IVdq
      clear e1 e2 e3 e4 e5 e6 e7 e8
      have u8a := QXq.out.cell0; have u8b := QXq.out.cell1; have u8c := QXq.out.cell2; have u8d := QXq.out.cell3
      go_wp2_with fail
      clear u8a u8b u8c u8d
      refine (rqvalid_is _ A _ (qv_of IVnq.out IVdq.out) (sA.out.mono (by omega))).mono ?_
      rintro e y9 ⟨rfl, hb⟩
      replace BXn := nxb BXn hb rfl; replace IVn := nxv IVn hb rfl
      replace BXd := nxb BXd hb rfl; replace IVd := nxv IVd hb rfl
      replace QXq := nxq QXq hb rfl; replace IVnq := nxv IVnq hb rfl; replace IVdq := nxv IVdq hb rfl
      replace RXr := Lib.hid (RXr.out.next hb rfl)
      replace DW := nxd DW hg hb rfl rfl rfl rfl
      clear hb
      have u10a := QXq.out.cell0; have u10b := QXq.out.cell1; have u10c := QXq.out.cell2; have u10d := QXq.out.cell3
      go_wp2_with fail
      clear u10a u10b u10c u10d
      refine (rqtext_is _ A t _ (qv_of IVnq.out IVdq.out) (sA.out.mono (by omega)) ht.out).mono ?_
      rintro e y11 ⟨rfl, hb⟩
      replace BXn := nxb BXn hb rfl; replace IVn := nxv IVn hb rfl
      replace BXd := nxb BXd hb rfl; replace IVd := nxv IVd hb rfl
      replace QXq := nxq QXq hb rfl; replace IVnq := nxv IVnq hb rfl; replace IVdq := nxv IVdq hb rfl
      replace RXr := Lib.hid (RXr.out.next hb rfl)
      replace DW := nxd DW hg hb rfl rfl rfl rfl
      clear hb
      have hts1 := hts.out
      go_upto_region 15 with fail
      have u12a := QXq.out.cell0; have u12b := QXq.out.cell1; have u12c := QXq.out.cell2; have u12d := QXq.out.cell3
      have u13a := RXr.out.cell0; have u13b := RXr.out.cell1; have u13c := RXr.out.cell2; have u13d := RXr.out.cell3; have u13f := RXr.out.frozen 0; have u13g := RXr.out.frozen 1; have u13h := RXr.out.frozen 2; have u13i := RXr.out.frozen 3
      go_wp2
      refine bodyPost_ret (v := .tuple #[.agg #[.bool sqn, .slice Xqn pqn qqn, .bool sqd, .slice Xqd pqd qqd], .int .i64 0]) (by simp [results, Tryz.results48, go_sem, u12a, u12b, u12c, u12d, u13a, u13b, u13c, u13d, u13f, u13g, u13h, u13i]) rfl ⟨_, rfl, ?_, by rw [hg.out]; exact (((DW.out.setCell (by simp <;> omega) _).setCell (by simp <;> omega) _).setCell (by simp <;> omega) _).setCell (by simp <;> omega) _⟩
      have hc := chg_qbox (b' := sqn) (d' := sqd) (A' := Xqn) (n' := pqn) (c' := qqn) (B' := Xqd) (m' := pqd) (e' := qqd) RXr.out
      exact qv_of (IVnq.out.kn hc.kn) (IVdq.out.kn hc.kn)

set_option maxHeartbeats 8000000 in
set_option maxRecDepth 100000 in
theorem rqp_e1 (s : ByteArray) (w : World) (hs : s.size ≤ 4000) (i : Nat) (hi : i < s.size) (hx : s[i].toNat = 47 ∧ ∀ k (hk : k < s.size), k < i → s[k].toNat ≠ 47) (z1 z2 : Int) (s1 : Sz z1 4000) (s2 : Sz z2 4000) (P1 : ∀ w, Calls Tryz.prog 119 #[.string (s.extract 0 i)] w (RetE z1 3 w)) (P2 : ∀ w, Calls Tryz.prog 119 #[.string (s.extract (i + 1) s.size)] w (RetE z2 0 w)) : Calls Tryz.prog 48 #[.string s] w (RetQC 0 0 3 w) := by
  have hs0 : decide ((4000 : Int) < s.size) = false := decide_eq_false (by omega)
  have HS := Lib.hid hs; have HI := Lib.hid hi; have HX := Lib.hid hx
  replace P1 := Lib.hid P1; replace P2 := Lib.hid P2
  replace s1 := Lib.hid s1; replace s2 := Lib.hid s2
  skip
  clear hs hx
  go_enter Tryz.func48, Tryz.ntmps48
  go_wp2_with fail
  obtain ⟨W, hW⟩ : ∃ W, W = (w.alloc (Obj.cells #[Value.bool false, Value.slice none 0 0, Value.bool false, Value.slice none 0 0] 31)) := ⟨_, rfl⟩
  rw [← hW]
  have RXr : Hid (QBox W (w.heap.size) false (.slice none 0 0) false (.slice none 0 0)) := by rw [hW]; have := QBox.new w false (Value.slice none 0 0) false (Value.slice none 0 0); simpa [Hid] using this
  have DW : Hid (Below w.heap.size w W) := by rw [hW]; exact (Below.refl _ _).alloc (by simp <;> omega) _
  clear hW
  generalize hg : w.heap.size = g at *
  replace hg := Lib.hid hg
  go_upto_region 3 with fail
  clear hs0
  go_wp2_with fail
  go_loopw [4] (fun v wr => ∃ k : Nat, k ≤ i ∧ v = .int .i64 k ∧ Below W.heap.size W wr) (fun v _ => i - (intOf v).toNat)
  case atStart => exact ⟨0, by omega, rfl, Below.refl _ _⟩
  case round =>
    obtain ⟨k, hk, rfl, hbl⟩ := hrel
    have BL := Lib.hid hbl
    replace RXr := Lib.hid (RXr.out.next hbl rfl)
    replace DW := nxd DW hg hbl rfl rfl rfl rfl
    clear hbl
    by_cases hki : k < i
    · skip
      have hks : k < s.size := by have := HI.out; omega
      have hk4 : k < 4000 := by have := HS.out; omega
      have e0 : (k : Int) < (s.size : Int) := by omega
      have e1 : (((s[k].toNat : Nat) : Int) != 47) = true := by
        have h := HX.out.2 k hks hki
        rw [bne_iff_ne]; omega
      have e2 : ((s[k].toNat : Nat) : Int) ≠ 47 := by rwa [bne_iff_ne] at e1
      go_wp2
      go_roundw
      case rel => exact ⟨k + 1, by omega, by go_num, BL.out⟩
      case measure => simp [intOf]; omega
    · skip
      obtain rfl : k = i := by omega
      have hi0 := HI.out
      have e0 : (k : Int) < (s.size : Int) := by omega
      have e1 : (((s[k].toNat : Nat) : Int) != 47) = false := by rw [HX.out.1]; rfl
      have e3 : ((s[k].toNat : Nat) : Int) = 47 := by rw [HX.out.1]; rfl
      have e5 : (k : Int) ≤ (s.size : Int) := by omega
      have e6 : k ≤ s.size := by omega
      go_wp2_with fail
      refine (P1.out _).mono ?_
      rintro e y1 ⟨_, rfl, hq, hb⟩
      obtain ⟨Xn, pn, qn, rfl, _, _, _⟩ := hq.form
      have Qn := Lib.hid hq; clear hq
      have B := Lib.hid hb; clear hb
      generalize hs : decide ((z1 : Int) < 0) = sn at *
      clear hs
      go_upto_region 7 with fail
      obtain ⟨W2, hW⟩ : ∃ W2, W2 = (y1.alloc (Obj.cells #[Value.bool sn, Value.slice Xn pn qn] 29)) := ⟨_, rfl⟩
      rw [← hW]
      have BXn : Hid (Box W2 (y1.heap.size) sn (.slice Xn pn qn)) := by rw [hW]; have := Box.new y1 sn (.slice Xn pn qn); simpa [Hid] using this
      have IVn : Hid (Iv W2 (.agg #[.bool sn, .slice Xn pn qn]) (z1)) := by rw [hW]; exact (Qn.out).alloc _
      have hd : Below wr.heap.size wr W2 := by rw [hW]; exact (B.out).alloc (by have := B.out.size; simp <;> omega) _
      have NEnr : Hid ((y1.heap.size) ≠ g) := by have := RXr.out.lt; have := B.out.size; unfold Hid; omega
      have GBn : Hid (g ≤ y1.heap.size) := by have := DW.out.size; have := hg.out; have := B.out.size; unfold Hid; omega
      have LTrn : Hid (g < y1.heap.size) := by have := RXr.out.lt; have := B.out.size; unfold Hid; omega
      clear hW B Qn
      generalize hgn2 : y1.heap.size = gn at *
      clear hgn2
      replace RXr := Lib.hid (RXr.out.next hd rfl)
      replace DW := nxd DW hg hd rfl rfl rfl rfl
      clear hd
      go_wp2_with fail
      refine (rof_any 1 _ (by omega) (by omega)).mono ?_
      rintro e y3 ⟨_, rfl, hq, hb⟩
      obtain ⟨u1, hu1⟩ : ∃ u : Int, u = 1 := ⟨_, rfl⟩
      replace hq := hu1 ▸ hq
      replace hu1 := Lib.hid hu1
      obtain ⟨Xd, pd, qd, rfl, _, _, _⟩ := hq.form
      have Qd := Lib.hid hq; clear hq
      have B := Lib.hid hb; clear hb
      generalize hs : decide ((u1 : Int) < 0) = sd at *
      clear hs
      go_upto_region 8 with fail
      obtain ⟨W4, hW⟩ : ∃ W4, W4 = (y3.alloc (Obj.cells #[Value.bool sd, Value.slice Xd pd qd] 29)) := ⟨_, rfl⟩
      rw [← hW]
      have BXd : Hid (Box W4 (y3.heap.size) sd (.slice Xd pd qd)) := by rw [hW]; have := Box.new y3 sd (.slice Xd pd qd); simpa [Hid] using this
      have IVd : Hid (Iv W4 (.agg #[.bool sd, .slice Xd pd qd]) (u1)) := by rw [hW]; exact (Qd.out).alloc _
      have hd : Below W2.heap.size W2 W4 := by rw [hW]; exact (B.out).alloc (by have := B.out.size; simp <;> omega) _
      have NEdr : Hid ((y3.heap.size) ≠ g) := by have := RXr.out.lt; have := B.out.size; unfold Hid; omega
      have GBd : Hid (g ≤ y3.heap.size) := by have := DW.out.size; have := hg.out; have := B.out.size; unfold Hid; omega
      have LTrd : Hid (g < y3.heap.size) := by have := RXr.out.lt; have := B.out.size; unfold Hid; omega
      have LTnd : Hid (gn < y3.heap.size) := by have := BXn.out.lt; have := B.out.size; unfold Hid; omega
      clear hW B Qd
      generalize hgn4 : y3.heap.size = gd at *
      clear hgn4
      replace BXn := nxb BXn hd rfl; replace IVn := nxv IVn hd rfl
      replace RXr := Lib.hid (RXr.out.next hd rfl)
      replace DW := nxd DW hg hd rfl rfl rfl rfl
      clear hd
      go_upto_region 9 with fail
      have e7 : ((k : Int) + 1) ≤ (s.size : Int) := by omega
      have hk4 : k < 4000 := by have := HS.out; omega
      go_wp2_with fail
      refine (P2.out _).mono ?_
      rintro e y5 ⟨_, rfl, hq, hb⟩
      obtain ⟨Xd9, pd9, qd9, rfl, _, _, _⟩ := hq.form
      have Q9 := Lib.hid hq; clear hq
      replace BXn := nxb BXn hb rfl; replace IVn := nxv IVn hb rfl
      replace BXd := nxb BXd hb rfl; replace IVd := nxv IVd hb rfl
      replace RXr := Lib.hid (RXr.out.next hb rfl)
      replace DW := nxd DW hg hb rfl rfl rfl rfl
      clear hb IVd
      generalize hs : decide ((z2 : Int) < 0) = s9 at *
      clear hs
      have u1 := BXd.out.cell0; have u2 := BXd.out.cell1; have u3 := BXd.out.frozen 0; have u4 := BXd.out.frozen 1
      go_upto_region 10 with fail
      clear u1 u2 u3 u4
      obtain ⟨W6, hW⟩ : ∃ W6, W6 = (y5.setCell ⟨gd, 0, none⟩ (.bool s9)).setCell ⟨gd, 1, none⟩ (.slice Xd9 pd9 qd9) := ⟨_, rfl⟩
      rw [← hW]
      replace BXn : Hid (Box W6 gn sn (.slice Xn pn qn)) := by rw [hW]; exact (BXn.out.far (by have := LTnd.out; simp; omega) _).far (by have := LTnd.out; simp; omega) _
      replace IVn := Lib.hid (iv_keep IVn.out BXd.out s9 (u := .slice Xd9 pd9 qd9))
      rw [← hW] at IVn
      replace RXr := Lib.hid ((RXr.out.far (by have := NEdr.out; simp; omega) (.bool s9) (p := ⟨gd, 0, none⟩)).far (by have := NEdr.out; simp; omega) (.slice Xd9 pd9 qd9) (p := ⟨gd, 1, none⟩))
      rw [← hW] at RXr
      replace DW : Hid (Below g w W6) := by rw [hW]; exact (DW.out.setCell (by simp <;> have := GBd.out <;> omega) _).setCell (by simp <;> have := GBd.out <;> omega) _
      have IVd : Hid (Iv W6 (.agg #[.bool s9, .slice Xd9 pd9 qd9]) (z2)) := by rw [hW]; exact iv_keep Q9.out BXd.out _
      replace BXd : Hid (Box W6 gd s9 (.slice Xd9 pd9 qd9)) := by rw [hW]; exact box_store BXd.out
      clear hW Q9
      generalize hx1 : Xd9 = Xdx at *
      generalize hx2 : pd9 = pdx at *
      generalize hx3 : qd9 = qdx at *
      generalize hx4 : s9 = sdx at *
      clear hx1 hx2 hx3 hx4
      have u7a := RXr.out.cell0; have u7b := RXr.out.cell1; have u7c := RXr.out.cell2; have u7d := RXr.out.cell3; have u7f := RXr.out.frozen 0; have u7g := RXr.out.frozen 1; have u7h := RXr.out.frozen 2; have u7i := RXr.out.frozen 3
      go_wp2
      refine bodyPost_ret (v := .tuple #[zeroQ, .int .i64 3]) (by simp [results, Tryz.results48, go_sem, zeroQ, u7a, u7b, u7c, u7d, u7f, u7g, u7h, u7i]) rfl ⟨_, rfl, zeroQ_qv _, by rw [hg.out]; first | exact DW.out | exact (((DW.out.setCell (by simp <;> omega) _).setCell (by simp <;> omega) _).setCell (by simp <;> omega) _).setCell (by simp <;> omega) _⟩

set_option maxHeartbeats 8000000 in
set_option maxRecDepth 100000 in
theorem rqp_e13 (s : ByteArray) (w : World) (hs : s.size ≤ 4000) (i : Nat) (hi : i < s.size) (hx : s[i].toNat = 47 ∧ ∀ k (hk : k < s.size), k < i → s[k].toNat ≠ 47) (z1 z2 : Int) (s1 : Sz z1 4000) (s2 : Sz z2 4000) (P1 : ∀ w, Calls Tryz.prog 119 #[.string (s.extract 0 i)] w (RetE z1 3 w)) (P2 : ∀ w, Calls Tryz.prog 119 #[.string (s.extract (i + 1) s.size)] w (RetE z2 3 w)) : Calls Tryz.prog 48 #[.string s] w (RetQC 0 0 3 w) := by
  have hs0 : decide ((4000 : Int) < s.size) = false := decide_eq_false (by omega)
  have HS := Lib.hid hs; have HI := Lib.hid hi; have HX := Lib.hid hx
  replace P1 := Lib.hid P1; replace P2 := Lib.hid P2
  replace s1 := Lib.hid s1; replace s2 := Lib.hid s2
  skip
  clear hs hx
  go_enter Tryz.func48, Tryz.ntmps48
  go_wp2_with fail
  obtain ⟨W, hW⟩ : ∃ W, W = (w.alloc (Obj.cells #[Value.bool false, Value.slice none 0 0, Value.bool false, Value.slice none 0 0] 31)) := ⟨_, rfl⟩
  rw [← hW]
  have RXr : Hid (QBox W (w.heap.size) false (.slice none 0 0) false (.slice none 0 0)) := by rw [hW]; have := QBox.new w false (Value.slice none 0 0) false (Value.slice none 0 0); simpa [Hid] using this
  have DW : Hid (Below w.heap.size w W) := by rw [hW]; exact (Below.refl _ _).alloc (by simp <;> omega) _
  clear hW
  generalize hg : w.heap.size = g at *
  replace hg := Lib.hid hg
  go_upto_region 3 with fail
  clear hs0
  go_wp2_with fail
  go_loopw [4] (fun v wr => ∃ k : Nat, k ≤ i ∧ v = .int .i64 k ∧ Below W.heap.size W wr) (fun v _ => i - (intOf v).toNat)
  case atStart => exact ⟨0, by omega, rfl, Below.refl _ _⟩
  case round =>
    obtain ⟨k, hk, rfl, hbl⟩ := hrel
    have BL := Lib.hid hbl
    replace RXr := Lib.hid (RXr.out.next hbl rfl)
    replace DW := nxd DW hg hbl rfl rfl rfl rfl
    clear hbl
    by_cases hki : k < i
    · skip
      have hks : k < s.size := by have := HI.out; omega
      have hk4 : k < 4000 := by have := HS.out; omega
      have e0 : (k : Int) < (s.size : Int) := by omega
      have e1 : (((s[k].toNat : Nat) : Int) != 47) = true := by
        have h := HX.out.2 k hks hki
        rw [bne_iff_ne]; omega
      have e2 : ((s[k].toNat : Nat) : Int) ≠ 47 := by rwa [bne_iff_ne] at e1
      go_wp2
      go_roundw
      case rel => exact ⟨k + 1, by omega, by go_num, BL.out⟩
      case measure => simp [intOf]; omega
    · skip
      obtain rfl : k = i := by omega
      have hi0 := HI.out
      have e0 : (k : Int) < (s.size : Int) := by omega
      have e1 : (((s[k].toNat : Nat) : Int) != 47) = false := by rw [HX.out.1]; rfl
      have e3 : ((s[k].toNat : Nat) : Int) = 47 := by rw [HX.out.1]; rfl
      have e5 : (k : Int) ≤ (s.size : Int) := by omega
      have e6 : k ≤ s.size := by omega
      go_wp2_with fail
      refine (P1.out _).mono ?_
      rintro e y1 ⟨_, rfl, hq, hb⟩
      obtain ⟨Xn, pn, qn, rfl, _, _, _⟩ := hq.form
      have Qn := Lib.hid hq; clear hq
      have B := Lib.hid hb; clear hb
      generalize hs : decide ((z1 : Int) < 0) = sn at *
      clear hs
      go_upto_region 7 with fail
      obtain ⟨W2, hW⟩ : ∃ W2, W2 = (y1.alloc (Obj.cells #[Value.bool sn, Value.slice Xn pn qn] 29)) := ⟨_, rfl⟩
      rw [← hW]
      have BXn : Hid (Box W2 (y1.heap.size) sn (.slice Xn pn qn)) := by rw [hW]; have := Box.new y1 sn (.slice Xn pn qn); simpa [Hid] using this
      have IVn : Hid (Iv W2 (.agg #[.bool sn, .slice Xn pn qn]) (z1)) := by rw [hW]; exact (Qn.out).alloc _
      have hd : Below wr.heap.size wr W2 := by rw [hW]; exact (B.out).alloc (by have := B.out.size; simp <;> omega) _
      have NEnr : Hid ((y1.heap.size) ≠ g) := by have := RXr.out.lt; have := B.out.size; unfold Hid; omega
      have GBn : Hid (g ≤ y1.heap.size) := by have := DW.out.size; have := hg.out; have := B.out.size; unfold Hid; omega
      have LTrn : Hid (g < y1.heap.size) := by have := RXr.out.lt; have := B.out.size; unfold Hid; omega
      clear hW B Qn
      generalize hgn2 : y1.heap.size = gn at *
      clear hgn2
      replace RXr := Lib.hid (RXr.out.next hd rfl)
      replace DW := nxd DW hg hd rfl rfl rfl rfl
      clear hd
      go_wp2_with fail
      refine (rof_any 1 _ (by omega) (by omega)).mono ?_
      rintro e y3 ⟨_, rfl, hq, hb⟩
      obtain ⟨u1, hu1⟩ : ∃ u : Int, u = 1 := ⟨_, rfl⟩
      replace hq := hu1 ▸ hq
      replace hu1 := Lib.hid hu1
      obtain ⟨Xd, pd, qd, rfl, _, _, _⟩ := hq.form
      have Qd := Lib.hid hq; clear hq
      have B := Lib.hid hb; clear hb
      generalize hs : decide ((u1 : Int) < 0) = sd at *
      clear hs
      go_upto_region 8 with fail
      obtain ⟨W4, hW⟩ : ∃ W4, W4 = (y3.alloc (Obj.cells #[Value.bool sd, Value.slice Xd pd qd] 29)) := ⟨_, rfl⟩
      rw [← hW]
      have BXd : Hid (Box W4 (y3.heap.size) sd (.slice Xd pd qd)) := by rw [hW]; have := Box.new y3 sd (.slice Xd pd qd); simpa [Hid] using this
      have IVd : Hid (Iv W4 (.agg #[.bool sd, .slice Xd pd qd]) (u1)) := by rw [hW]; exact (Qd.out).alloc _
      have hd : Below W2.heap.size W2 W4 := by rw [hW]; exact (B.out).alloc (by have := B.out.size; simp <;> omega) _
      have NEdr : Hid ((y3.heap.size) ≠ g) := by have := RXr.out.lt; have := B.out.size; unfold Hid; omega
      have GBd : Hid (g ≤ y3.heap.size) := by have := DW.out.size; have := hg.out; have := B.out.size; unfold Hid; omega
      have LTrd : Hid (g < y3.heap.size) := by have := RXr.out.lt; have := B.out.size; unfold Hid; omega
      have LTnd : Hid (gn < y3.heap.size) := by have := BXn.out.lt; have := B.out.size; unfold Hid; omega
      clear hW B Qd
      generalize hgn4 : y3.heap.size = gd at *
      clear hgn4
      replace BXn := nxb BXn hd rfl; replace IVn := nxv IVn hd rfl
      replace RXr := Lib.hid (RXr.out.next hd rfl)
      replace DW := nxd DW hg hd rfl rfl rfl rfl
      clear hd
      go_upto_region 9 with fail
      have e7 : ((k : Int) + 1) ≤ (s.size : Int) := by omega
      have hk4 : k < 4000 := by have := HS.out; omega
      go_wp2_with fail
      refine (P2.out _).mono ?_
      rintro e y5 ⟨_, rfl, hq, hb⟩
      obtain ⟨Xd9, pd9, qd9, rfl, _, _, _⟩ := hq.form
      have Q9 := Lib.hid hq; clear hq
      replace BXn := nxb BXn hb rfl; replace IVn := nxv IVn hb rfl
      replace BXd := nxb BXd hb rfl; replace IVd := nxv IVd hb rfl
      replace RXr := Lib.hid (RXr.out.next hb rfl)
      replace DW := nxd DW hg hb rfl rfl rfl rfl
      clear hb IVd
      generalize hs : decide ((z2 : Int) < 0) = s9 at *
      clear hs
      have u1 := BXd.out.cell0; have u2 := BXd.out.cell1; have u3 := BXd.out.frozen 0; have u4 := BXd.out.frozen 1
      go_upto_region 10 with fail
      clear u1 u2 u3 u4
      obtain ⟨W6, hW⟩ : ∃ W6, W6 = (y5.setCell ⟨gd, 0, none⟩ (.bool s9)).setCell ⟨gd, 1, none⟩ (.slice Xd9 pd9 qd9) := ⟨_, rfl⟩
      rw [← hW]
      replace BXn : Hid (Box W6 gn sn (.slice Xn pn qn)) := by rw [hW]; exact (BXn.out.far (by have := LTnd.out; simp; omega) _).far (by have := LTnd.out; simp; omega) _
      replace IVn := Lib.hid (iv_keep IVn.out BXd.out s9 (u := .slice Xd9 pd9 qd9))
      rw [← hW] at IVn
      replace RXr := Lib.hid ((RXr.out.far (by have := NEdr.out; simp; omega) (.bool s9) (p := ⟨gd, 0, none⟩)).far (by have := NEdr.out; simp; omega) (.slice Xd9 pd9 qd9) (p := ⟨gd, 1, none⟩))
      rw [← hW] at RXr
      replace DW : Hid (Below g w W6) := by rw [hW]; exact (DW.out.setCell (by simp <;> have := GBd.out <;> omega) _).setCell (by simp <;> have := GBd.out <;> omega) _
      have IVd : Hid (Iv W6 (.agg #[.bool s9, .slice Xd9 pd9 qd9]) (z2)) := by rw [hW]; exact iv_keep Q9.out BXd.out _
      replace BXd : Hid (Box W6 gd s9 (.slice Xd9 pd9 qd9)) := by rw [hW]; exact box_store BXd.out
      clear hW Q9
      generalize hx1 : Xd9 = Xdx at *
      generalize hx2 : pd9 = pdx at *
      generalize hx3 : qd9 = qdx at *
      generalize hx4 : s9 = sdx at *
      clear hx1 hx2 hx3 hx4
      have u7a := RXr.out.cell0; have u7b := RXr.out.cell1; have u7c := RXr.out.cell2; have u7d := RXr.out.cell3; have u7f := RXr.out.frozen 0; have u7g := RXr.out.frozen 1; have u7h := RXr.out.frozen 2; have u7i := RXr.out.frozen 3
      go_wp2
      refine bodyPost_ret (v := .tuple #[zeroQ, .int .i64 3]) (by simp [results, Tryz.results48, go_sem, zeroQ, u7a, u7b, u7c, u7d, u7f, u7g, u7h, u7i]) rfl ⟨_, rfl, zeroQ_qv _, by rw [hg.out]; first | exact DW.out | exact (((DW.out.setCell (by simp <;> omega) _).setCell (by simp <;> omega) _).setCell (by simp <;> omega) _).setCell (by simp <;> omega) _⟩

set_option maxHeartbeats 8000000 in
set_option maxRecDepth 100000 in
theorem rqp_e2 (s : ByteArray) (w : World) (hs : s.size ≤ 4000) (i : Nat) (hi : i < s.size) (hx : s[i].toNat = 47 ∧ ∀ k (hk : k < s.size), k < i → s[k].toNat ≠ 47) (z1 z2 : Int) (s1 : Sz z1 4000) (s2 : Sz z2 4000) (P1 : ∀ w, Calls Tryz.prog 119 #[.string (s.extract 0 i)] w (RetE z1 0 w)) (P2 : ∀ w, Calls Tryz.prog 119 #[.string (s.extract (i + 1) s.size)] w (RetE z2 3 w)) : Calls Tryz.prog 48 #[.string s] w (RetQC 0 0 3 w) := by
  have hs0 : decide ((4000 : Int) < s.size) = false := decide_eq_false (by omega)
  have HS := Lib.hid hs; have HI := Lib.hid hi; have HX := Lib.hid hx
  replace P1 := Lib.hid P1; replace P2 := Lib.hid P2
  replace s1 := Lib.hid s1; replace s2 := Lib.hid s2
  skip
  clear hs hx
  go_enter Tryz.func48, Tryz.ntmps48
  go_wp2_with fail
  obtain ⟨W, hW⟩ : ∃ W, W = (w.alloc (Obj.cells #[Value.bool false, Value.slice none 0 0, Value.bool false, Value.slice none 0 0] 31)) := ⟨_, rfl⟩
  rw [← hW]
  have RXr : Hid (QBox W (w.heap.size) false (.slice none 0 0) false (.slice none 0 0)) := by rw [hW]; have := QBox.new w false (Value.slice none 0 0) false (Value.slice none 0 0); simpa [Hid] using this
  have DW : Hid (Below w.heap.size w W) := by rw [hW]; exact (Below.refl _ _).alloc (by simp <;> omega) _
  clear hW
  generalize hg : w.heap.size = g at *
  replace hg := Lib.hid hg
  go_upto_region 3 with fail
  clear hs0
  go_wp2_with fail
  go_loopw [4] (fun v wr => ∃ k : Nat, k ≤ i ∧ v = .int .i64 k ∧ Below W.heap.size W wr) (fun v _ => i - (intOf v).toNat)
  case atStart => exact ⟨0, by omega, rfl, Below.refl _ _⟩
  case round =>
    obtain ⟨k, hk, rfl, hbl⟩ := hrel
    have BL := Lib.hid hbl
    replace RXr := Lib.hid (RXr.out.next hbl rfl)
    replace DW := nxd DW hg hbl rfl rfl rfl rfl
    clear hbl
    by_cases hki : k < i
    · skip
      have hks : k < s.size := by have := HI.out; omega
      have hk4 : k < 4000 := by have := HS.out; omega
      have e0 : (k : Int) < (s.size : Int) := by omega
      have e1 : (((s[k].toNat : Nat) : Int) != 47) = true := by
        have h := HX.out.2 k hks hki
        rw [bne_iff_ne]; omega
      have e2 : ((s[k].toNat : Nat) : Int) ≠ 47 := by rwa [bne_iff_ne] at e1
      go_wp2
      go_roundw
      case rel => exact ⟨k + 1, by omega, by go_num, BL.out⟩
      case measure => simp [intOf]; omega
    · skip
      obtain rfl : k = i := by omega
      have hi0 := HI.out
      have e0 : (k : Int) < (s.size : Int) := by omega
      have e1 : (((s[k].toNat : Nat) : Int) != 47) = false := by rw [HX.out.1]; rfl
      have e3 : ((s[k].toNat : Nat) : Int) = 47 := by rw [HX.out.1]; rfl
      have e5 : (k : Int) ≤ (s.size : Int) := by omega
      have e6 : k ≤ s.size := by omega
      go_wp2_with fail
      refine (P1.out _).mono ?_
      rintro e y1 ⟨_, rfl, hq, hb⟩
      obtain ⟨Xn, pn, qn, rfl, _, _, _⟩ := hq.form
      have Qn := Lib.hid hq; clear hq
      have B := Lib.hid hb; clear hb
      generalize hs : decide ((z1 : Int) < 0) = sn at *
      clear hs
      go_upto_region 7 with fail
      obtain ⟨W2, hW⟩ : ∃ W2, W2 = (y1.alloc (Obj.cells #[Value.bool sn, Value.slice Xn pn qn] 29)) := ⟨_, rfl⟩
      rw [← hW]
      have BXn : Hid (Box W2 (y1.heap.size) sn (.slice Xn pn qn)) := by rw [hW]; have := Box.new y1 sn (.slice Xn pn qn); simpa [Hid] using this
      have IVn : Hid (Iv W2 (.agg #[.bool sn, .slice Xn pn qn]) (z1)) := by rw [hW]; exact (Qn.out).alloc _
      have hd : Below wr.heap.size wr W2 := by rw [hW]; exact (B.out).alloc (by have := B.out.size; simp <;> omega) _
      have NEnr : Hid ((y1.heap.size) ≠ g) := by have := RXr.out.lt; have := B.out.size; unfold Hid; omega
      have GBn : Hid (g ≤ y1.heap.size) := by have := DW.out.size; have := hg.out; have := B.out.size; unfold Hid; omega
      have LTrn : Hid (g < y1.heap.size) := by have := RXr.out.lt; have := B.out.size; unfold Hid; omega
      clear hW B Qn
      generalize hgn2 : y1.heap.size = gn at *
      clear hgn2
      replace RXr := Lib.hid (RXr.out.next hd rfl)
      replace DW := nxd DW hg hd rfl rfl rfl rfl
      clear hd
      go_wp2_with fail
      refine (rof_any 1 _ (by omega) (by omega)).mono ?_
      rintro e y3 ⟨_, rfl, hq, hb⟩
      obtain ⟨u1, hu1⟩ : ∃ u : Int, u = 1 := ⟨_, rfl⟩
      replace hq := hu1 ▸ hq
      replace hu1 := Lib.hid hu1
      obtain ⟨Xd, pd, qd, rfl, _, _, _⟩ := hq.form
      have Qd := Lib.hid hq; clear hq
      have B := Lib.hid hb; clear hb
      generalize hs : decide ((u1 : Int) < 0) = sd at *
      clear hs
      go_upto_region 8 with fail
      obtain ⟨W4, hW⟩ : ∃ W4, W4 = (y3.alloc (Obj.cells #[Value.bool sd, Value.slice Xd pd qd] 29)) := ⟨_, rfl⟩
      rw [← hW]
      have BXd : Hid (Box W4 (y3.heap.size) sd (.slice Xd pd qd)) := by rw [hW]; have := Box.new y3 sd (.slice Xd pd qd); simpa [Hid] using this
      have IVd : Hid (Iv W4 (.agg #[.bool sd, .slice Xd pd qd]) (u1)) := by rw [hW]; exact (Qd.out).alloc _
      have hd : Below W2.heap.size W2 W4 := by rw [hW]; exact (B.out).alloc (by have := B.out.size; simp <;> omega) _
      have NEdr : Hid ((y3.heap.size) ≠ g) := by have := RXr.out.lt; have := B.out.size; unfold Hid; omega
      have GBd : Hid (g ≤ y3.heap.size) := by have := DW.out.size; have := hg.out; have := B.out.size; unfold Hid; omega
      have LTrd : Hid (g < y3.heap.size) := by have := RXr.out.lt; have := B.out.size; unfold Hid; omega
      have LTnd : Hid (gn < y3.heap.size) := by have := BXn.out.lt; have := B.out.size; unfold Hid; omega
      clear hW B Qd
      generalize hgn4 : y3.heap.size = gd at *
      clear hgn4
      replace BXn := nxb BXn hd rfl; replace IVn := nxv IVn hd rfl
      replace RXr := Lib.hid (RXr.out.next hd rfl)
      replace DW := nxd DW hg hd rfl rfl rfl rfl
      clear hd
      go_upto_region 9 with fail
      have e7 : ((k : Int) + 1) ≤ (s.size : Int) := by omega
      have hk4 : k < 4000 := by have := HS.out; omega
      go_wp2_with fail
      refine (P2.out _).mono ?_
      rintro e y5 ⟨_, rfl, hq, hb⟩
      obtain ⟨Xd9, pd9, qd9, rfl, _, _, _⟩ := hq.form
      have Q9 := Lib.hid hq; clear hq
      replace BXn := nxb BXn hb rfl; replace IVn := nxv IVn hb rfl
      replace BXd := nxb BXd hb rfl; replace IVd := nxv IVd hb rfl
      replace RXr := Lib.hid (RXr.out.next hb rfl)
      replace DW := nxd DW hg hb rfl rfl rfl rfl
      clear hb IVd
      generalize hs : decide ((z2 : Int) < 0) = s9 at *
      clear hs
      have u1 := BXd.out.cell0; have u2 := BXd.out.cell1; have u3 := BXd.out.frozen 0; have u4 := BXd.out.frozen 1
      go_upto_region 10 with fail
      clear u1 u2 u3 u4
      obtain ⟨W6, hW⟩ : ∃ W6, W6 = (y5.setCell ⟨gd, 0, none⟩ (.bool s9)).setCell ⟨gd, 1, none⟩ (.slice Xd9 pd9 qd9) := ⟨_, rfl⟩
      rw [← hW]
      replace BXn : Hid (Box W6 gn sn (.slice Xn pn qn)) := by rw [hW]; exact (BXn.out.far (by have := LTnd.out; simp; omega) _).far (by have := LTnd.out; simp; omega) _
      replace IVn := Lib.hid (iv_keep IVn.out BXd.out s9 (u := .slice Xd9 pd9 qd9))
      rw [← hW] at IVn
      replace RXr := Lib.hid ((RXr.out.far (by have := NEdr.out; simp; omega) (.bool s9) (p := ⟨gd, 0, none⟩)).far (by have := NEdr.out; simp; omega) (.slice Xd9 pd9 qd9) (p := ⟨gd, 1, none⟩))
      rw [← hW] at RXr
      replace DW : Hid (Below g w W6) := by rw [hW]; exact (DW.out.setCell (by simp <;> have := GBd.out <;> omega) _).setCell (by simp <;> have := GBd.out <;> omega) _
      have IVd : Hid (Iv W6 (.agg #[.bool s9, .slice Xd9 pd9 qd9]) (z2)) := by rw [hW]; exact iv_keep Q9.out BXd.out _
      replace BXd : Hid (Box W6 gd s9 (.slice Xd9 pd9 qd9)) := by rw [hW]; exact box_store BXd.out
      clear hW Q9
      generalize hx1 : Xd9 = Xdx at *
      generalize hx2 : pd9 = pdx at *
      generalize hx3 : qd9 = qdx at *
      generalize hx4 : s9 = sdx at *
      clear hx1 hx2 hx3 hx4
      have u7a := RXr.out.cell0; have u7b := RXr.out.cell1; have u7c := RXr.out.cell2; have u7d := RXr.out.cell3; have u7f := RXr.out.frozen 0; have u7g := RXr.out.frozen 1; have u7h := RXr.out.frozen 2; have u7i := RXr.out.frozen 3
      go_wp2
      refine bodyPost_ret (v := .tuple #[zeroQ, .int .i64 3]) (by simp [results, Tryz.results48, go_sem, zeroQ, u7a, u7b, u7c, u7d, u7f, u7g, u7h, u7i]) rfl ⟨_, rfl, zeroQ_qv _, by rw [hg.out]; first | exact DW.out | exact (((DW.out.setCell (by simp <;> omega) _).setCell (by simp <;> omega) _).setCell (by simp <;> omega) _).setCell (by simp <;> omega) _⟩

set_option maxHeartbeats 8000000 in
set_option maxRecDepth 100000 in
theorem rqp_inv (s : ByteArray) (w : World) (hs : s.size ≤ 4000) (i : Nat) (hi : i < s.size) (hx : s[i].toNat = 47 ∧ ∀ k (hk : k < s.size), k < i → s[k].toNat ≠ 47) (z1 z2 : Int) (s1 : Sz z1 4000) (s2 : Sz z2 4000) (P1 : ∀ w, Calls Tryz.prog 119 #[.string (s.extract 0 i)] w (RetE z1 0 w)) (P2 : ∀ w, Calls Tryz.prog 119 #[.string (s.extract (i + 1) s.size)] w (RetE z2 0 w)) (hV : z2 ≤ 0 ∨ Nat.gcd z1.natAbs z2.natAbs ≠ 1) : Calls Tryz.prog 48 #[.string s] w (RetQC 0 0 3 w) := by
  have hs0 : decide ((4000 : Int) < s.size) = false := decide_eq_false (by omega)
  have HS := Lib.hid hs; have HI := Lib.hid hi; have HX := Lib.hid hx
  replace P1 := Lib.hid P1; replace P2 := Lib.hid P2
  replace s1 := Lib.hid s1; replace s2 := Lib.hid s2
  replace hV := Lib.hid hV
  clear hs hx
  go_enter Tryz.func48, Tryz.ntmps48
  go_wp2_with fail
  obtain ⟨W, hW⟩ : ∃ W, W = (w.alloc (Obj.cells #[Value.bool false, Value.slice none 0 0, Value.bool false, Value.slice none 0 0] 31)) := ⟨_, rfl⟩
  rw [← hW]
  have RXr : Hid (QBox W (w.heap.size) false (.slice none 0 0) false (.slice none 0 0)) := by rw [hW]; have := QBox.new w false (Value.slice none 0 0) false (Value.slice none 0 0); simpa [Hid] using this
  have DW : Hid (Below w.heap.size w W) := by rw [hW]; exact (Below.refl _ _).alloc (by simp <;> omega) _
  clear hW
  generalize hg : w.heap.size = g at *
  replace hg := Lib.hid hg
  go_upto_region 3 with fail
  clear hs0
  go_wp2_with fail
  go_loopw [4] (fun v wr => ∃ k : Nat, k ≤ i ∧ v = .int .i64 k ∧ Below W.heap.size W wr) (fun v _ => i - (intOf v).toNat)
  case atStart => exact ⟨0, by omega, rfl, Below.refl _ _⟩
  case round =>
    obtain ⟨k, hk, rfl, hbl⟩ := hrel
    have BL := Lib.hid hbl
    replace RXr := Lib.hid (RXr.out.next hbl rfl)
    replace DW := nxd DW hg hbl rfl rfl rfl rfl
    clear hbl
    by_cases hki : k < i
    · skip
      have hks : k < s.size := by have := HI.out; omega
      have hk4 : k < 4000 := by have := HS.out; omega
      have e0 : (k : Int) < (s.size : Int) := by omega
      have e1 : (((s[k].toNat : Nat) : Int) != 47) = true := by
        have h := HX.out.2 k hks hki
        rw [bne_iff_ne]; omega
      have e2 : ((s[k].toNat : Nat) : Int) ≠ 47 := by rwa [bne_iff_ne] at e1
      go_wp2
      go_roundw
      case rel => exact ⟨k + 1, by omega, by go_num, BL.out⟩
      case measure => simp [intOf]; omega
    · skip
      obtain rfl : k = i := by omega
      have hi0 := HI.out
      have e0 : (k : Int) < (s.size : Int) := by omega
      have e1 : (((s[k].toNat : Nat) : Int) != 47) = false := by rw [HX.out.1]; rfl
      have e3 : ((s[k].toNat : Nat) : Int) = 47 := by rw [HX.out.1]; rfl
      have e5 : (k : Int) ≤ (s.size : Int) := by omega
      have e6 : k ≤ s.size := by omega
      go_wp2_with fail
      refine (P1.out _).mono ?_
      rintro e y1 ⟨_, rfl, hq, hb⟩
      obtain ⟨Xn, pn, qn, rfl, _, _, _⟩ := hq.form
      have Qn := Lib.hid hq; clear hq
      have B := Lib.hid hb; clear hb
      generalize hs : decide ((z1 : Int) < 0) = sn at *
      clear hs
      go_upto_region 7 with fail
      obtain ⟨W2, hW⟩ : ∃ W2, W2 = (y1.alloc (Obj.cells #[Value.bool sn, Value.slice Xn pn qn] 29)) := ⟨_, rfl⟩
      rw [← hW]
      have BXn : Hid (Box W2 (y1.heap.size) sn (.slice Xn pn qn)) := by rw [hW]; have := Box.new y1 sn (.slice Xn pn qn); simpa [Hid] using this
      have IVn : Hid (Iv W2 (.agg #[.bool sn, .slice Xn pn qn]) (z1)) := by rw [hW]; exact (Qn.out).alloc _
      have hd : Below wr.heap.size wr W2 := by rw [hW]; exact (B.out).alloc (by have := B.out.size; simp <;> omega) _
      have NEnr : Hid ((y1.heap.size) ≠ g) := by have := RXr.out.lt; have := B.out.size; unfold Hid; omega
      have GBn : Hid (g ≤ y1.heap.size) := by have := DW.out.size; have := hg.out; have := B.out.size; unfold Hid; omega
      have LTrn : Hid (g < y1.heap.size) := by have := RXr.out.lt; have := B.out.size; unfold Hid; omega
      clear hW B Qn
      generalize hgn2 : y1.heap.size = gn at *
      clear hgn2
      replace RXr := Lib.hid (RXr.out.next hd rfl)
      replace DW := nxd DW hg hd rfl rfl rfl rfl
      clear hd
      go_wp2_with fail
      refine (rof_any 1 _ (by omega) (by omega)).mono ?_
      rintro e y3 ⟨_, rfl, hq, hb⟩
      obtain ⟨u1, hu1⟩ : ∃ u : Int, u = 1 := ⟨_, rfl⟩
      replace hq := hu1 ▸ hq
      replace hu1 := Lib.hid hu1
      obtain ⟨Xd, pd, qd, rfl, _, _, _⟩ := hq.form
      have Qd := Lib.hid hq; clear hq
      have B := Lib.hid hb; clear hb
      generalize hs : decide ((u1 : Int) < 0) = sd at *
      clear hs
      go_upto_region 8 with fail
      obtain ⟨W4, hW⟩ : ∃ W4, W4 = (y3.alloc (Obj.cells #[Value.bool sd, Value.slice Xd pd qd] 29)) := ⟨_, rfl⟩
      rw [← hW]
      have BXd : Hid (Box W4 (y3.heap.size) sd (.slice Xd pd qd)) := by rw [hW]; have := Box.new y3 sd (.slice Xd pd qd); simpa [Hid] using this
      have IVd : Hid (Iv W4 (.agg #[.bool sd, .slice Xd pd qd]) (u1)) := by rw [hW]; exact (Qd.out).alloc _
      have hd : Below W2.heap.size W2 W4 := by rw [hW]; exact (B.out).alloc (by have := B.out.size; simp <;> omega) _
      have NEdr : Hid ((y3.heap.size) ≠ g) := by have := RXr.out.lt; have := B.out.size; unfold Hid; omega
      have GBd : Hid (g ≤ y3.heap.size) := by have := DW.out.size; have := hg.out; have := B.out.size; unfold Hid; omega
      have LTrd : Hid (g < y3.heap.size) := by have := RXr.out.lt; have := B.out.size; unfold Hid; omega
      have LTnd : Hid (gn < y3.heap.size) := by have := BXn.out.lt; have := B.out.size; unfold Hid; omega
      clear hW B Qd
      generalize hgn4 : y3.heap.size = gd at *
      clear hgn4
      replace BXn := nxb BXn hd rfl; replace IVn := nxv IVn hd rfl
      replace RXr := Lib.hid (RXr.out.next hd rfl)
      replace DW := nxd DW hg hd rfl rfl rfl rfl
      clear hd
      go_upto_region 9 with fail
      have e7 : ((k : Int) + 1) ≤ (s.size : Int) := by omega
      have hk4 : k < 4000 := by have := HS.out; omega
      go_wp2_with fail
      refine (P2.out _).mono ?_
      rintro e y5 ⟨_, rfl, hq, hb⟩
      obtain ⟨Xd9, pd9, qd9, rfl, _, _, _⟩ := hq.form
      have Q9 := Lib.hid hq; clear hq
      replace BXn := nxb BXn hb rfl; replace IVn := nxv IVn hb rfl
      replace BXd := nxb BXd hb rfl; replace IVd := nxv IVd hb rfl
      replace RXr := Lib.hid (RXr.out.next hb rfl)
      replace DW := nxd DW hg hb rfl rfl rfl rfl
      clear hb IVd
      generalize hs : decide ((z2 : Int) < 0) = s9 at *
      clear hs
      have u1 := BXd.out.cell0; have u2 := BXd.out.cell1; have u3 := BXd.out.frozen 0; have u4 := BXd.out.frozen 1
      go_upto_region 10 with fail
      clear u1 u2 u3 u4
      obtain ⟨W6, hW⟩ : ∃ W6, W6 = (y5.setCell ⟨gd, 0, none⟩ (.bool s9)).setCell ⟨gd, 1, none⟩ (.slice Xd9 pd9 qd9) := ⟨_, rfl⟩
      rw [← hW]
      replace BXn : Hid (Box W6 gn sn (.slice Xn pn qn)) := by rw [hW]; exact (BXn.out.far (by have := LTnd.out; simp; omega) _).far (by have := LTnd.out; simp; omega) _
      replace IVn := Lib.hid (iv_keep IVn.out BXd.out s9 (u := .slice Xd9 pd9 qd9))
      rw [← hW] at IVn
      replace RXr := Lib.hid ((RXr.out.far (by have := NEdr.out; simp; omega) (.bool s9) (p := ⟨gd, 0, none⟩)).far (by have := NEdr.out; simp; omega) (.slice Xd9 pd9 qd9) (p := ⟨gd, 1, none⟩))
      rw [← hW] at RXr
      replace DW : Hid (Below g w W6) := by rw [hW]; exact (DW.out.setCell (by simp <;> have := GBd.out <;> omega) _).setCell (by simp <;> have := GBd.out <;> omega) _
      have IVd : Hid (Iv W6 (.agg #[.bool s9, .slice Xd9 pd9 qd9]) (z2)) := by rw [hW]; exact iv_keep Q9.out BXd.out _
      replace BXd : Hid (Box W6 gd s9 (.slice Xd9 pd9 qd9)) := by rw [hW]; exact box_store BXd.out
      clear hW Q9
      generalize hx1 : Xd9 = Xdx at *
      generalize hx2 : pd9 = pdx at *
      generalize hx3 : qd9 = qdx at *
      generalize hx4 : s9 = sdx at *
      clear hx1 hx2 hx3 hx4
      go_upto_region 12 with fail
      have u7a := BXn.out.cell0; have u7b := BXn.out.cell1
      have u8a := BXd.out.cell0; have u8b := BXd.out.cell1
      go_upto_region 13 with fail
      clear u7a u7b u8a u8b
      obtain ⟨W9, hW⟩ : ∃ W9, W9 = W6.alloc (Obj.cells #[Value.bool sn, Value.slice Xn pn qn, Value.bool sdx, Value.slice Xdx pdx qdx] 31) := ⟨_, rfl⟩
      rw [← hW]
      have QXq : Hid (QBox W9 W6.heap.size sn (.slice Xn pn qn) sdx (.slice Xdx pdx qdx)) := by rw [hW]; exact QBox.new _ _ _ _ _
      have IVnq : Hid (Iv W9 (.agg #[.bool sn, .slice Xn pn qn]) (z1)) := by rw [hW]; exact IVn.out.alloc _
      have IVdq : Hid (Iv W9 (.agg #[.bool sdx, .slice Xdx pdx qdx]) (z2)) := by rw [hW]; exact IVd.out.alloc _
      have hd : Below W6.heap.size W6 W9 := by rw [hW]; exact (Below.refl _ _).alloc (Nat.le_refl _) _
      have NEqr : Hid (W6.heap.size ≠ g) := by have := RXr.out.lt; unfold Hid; omega
      clear hW
      replace BXn := nxb BXn hd rfl; replace IVn := nxv IVn hd rfl
      replace BXd := nxb BXd hd rfl; replace IVd := nxv IVd hd rfl
      replace RXr := Lib.hid (RXr.out.next hd rfl)
      replace DW := nxd DW hg hd rfl rfl rfl rfl
      clear hd
      generalize hgn9 : W6.heap.size = gq at *
      clear hgn9
      obtain ⟨sqn, Xqn, pqn, qqn, sqd, Xqd, pqd, qqd, e1, e2, e3, e4, e5, e6, e7, e8⟩ : ∃ a b c d e f g h, a = sn ∧ b = Xn ∧ c = pn ∧ d = qn ∧ e = sdx ∧ f = Xdx ∧ g = pdx ∧ h = qdx := ⟨_, _, _, _, _, _, _, _, rfl, rfl, rfl, rfl, rfl, rfl, rfl, rfl⟩
      rw [← e1, ← e2, ← e3, ← e4, ← e5, ← e6, ← e7, ← e8] at QXq
      rw [← e1, ← e2, ← e3, ← e4] at IVnq
      rw [← e5, ← e6, ← e7, ← e8] at IVdq
      clear e1 e2 e3 e4 e5 e6 e7 e8
      have u10a := QXq.out.cell0; have u10b := QXq.out.cell1; have u10c := QXq.out.cell2; have u10d := QXq.out.cell3
      go_wp2_with fail
      clear u10a u10b u10c u10d
      refine (rqvalid_no _ z1 z2 _ (qv_of IVnq.out IVdq.out) (s1.out.mono (by omega)) (s2.out.mono (by omega)) hV.out).mono ?_
      rintro e y11 ⟨rfl, hb⟩
      replace BXn := nxb BXn hb rfl; replace IVn := nxv IVn hb rfl
      replace BXd := nxb BXd hb rfl; replace IVd := nxv IVd hb rfl
      replace QXq := nxq QXq hb rfl; replace IVnq := nxv IVnq hb rfl; replace IVdq := nxv IVdq hb rfl
      replace RXr := Lib.hid (RXr.out.next hb rfl)
      replace DW := nxd DW hg hb rfl rfl rfl rfl
      clear hb
      have u12a := RXr.out.cell0; have u12b := RXr.out.cell1; have u12c := RXr.out.cell2; have u12d := RXr.out.cell3; have u12f := RXr.out.frozen 0; have u12g := RXr.out.frozen 1; have u12h := RXr.out.frozen 2; have u12i := RXr.out.frozen 3
      go_wp2
      refine bodyPost_ret (v := .tuple #[zeroQ, .int .i64 3]) (by simp [results, Tryz.results48, go_sem, zeroQ, u12a, u12b, u12c, u12d, u12f, u12g, u12h, u12i]) rfl ⟨_, rfl, zeroQ_qv _, by rw [hg.out]; first | exact DW.out | exact (((DW.out.setCell (by simp <;> omega) _).setCell (by simp <;> omega) _).setCell (by simp <;> omega) _).setCell (by simp <;> omega) _⟩

set_option maxHeartbeats 8000000 in
set_option maxRecDepth 100000 in
theorem rqp_txt (s : ByteArray) (w : World) (hs : s.size ≤ 4000) (i : Nat) (hi : i < s.size) (hx : s[i].toNat = 47 ∧ ∀ k (hk : k < s.size), k < i → s[k].toNat ≠ 47) (A : Rat) (sA : Sr A 4000) (P1 : ∀ w, Calls Tryz.prog 119 #[.string (s.extract 0 i)] w (RetE A.num 0 w)) (P2 : ∀ w, Calls Tryz.prog 119 #[.string (s.extract (i + 1) s.size)] w (RetE (A.den : Int) 0 w)) (t : ByteArray) (ht : qtx A = t) (hts : (t.toList == s.toList) = false) : Calls Tryz.prog 48 #[.string s] w (RetQC 0 0 3 w) := by
  have hs0 : decide ((4000 : Int) < s.size) = false := decide_eq_false (by omega)
  have HS := Lib.hid hs; have HI := Lib.hid hi; have HX := Lib.hid hx
  replace P1 := Lib.hid P1; replace P2 := Lib.hid P2
  replace sA := Lib.hid sA; replace ht := Lib.hid ht; replace hts := Lib.hid hts
  skip
  clear hs hx
  go_enter Tryz.func48, Tryz.ntmps48
  go_wp2_with fail
  obtain ⟨W, hW⟩ : ∃ W, W = (w.alloc (Obj.cells #[Value.bool false, Value.slice none 0 0, Value.bool false, Value.slice none 0 0] 31)) := ⟨_, rfl⟩
  rw [← hW]
  have RXr : Hid (QBox W (w.heap.size) false (.slice none 0 0) false (.slice none 0 0)) := by rw [hW]; have := QBox.new w false (Value.slice none 0 0) false (Value.slice none 0 0); simpa [Hid] using this
  have DW : Hid (Below w.heap.size w W) := by rw [hW]; exact (Below.refl _ _).alloc (by simp <;> omega) _
  clear hW
  generalize hg : w.heap.size = g at *
  replace hg := Lib.hid hg
  go_upto_region 3 with fail
  clear hs0
  go_wp2_with fail
  go_loopw [4] (fun v wr => ∃ k : Nat, k ≤ i ∧ v = .int .i64 k ∧ Below W.heap.size W wr) (fun v _ => i - (intOf v).toNat)
  case atStart => exact ⟨0, by omega, rfl, Below.refl _ _⟩
  case round =>
    obtain ⟨k, hk, rfl, hbl⟩ := hrel
    have BL := Lib.hid hbl
    replace RXr := Lib.hid (RXr.out.next hbl rfl)
    replace DW := nxd DW hg hbl rfl rfl rfl rfl
    clear hbl
    by_cases hki : k < i
    · skip
      have hks : k < s.size := by have := HI.out; omega
      have hk4 : k < 4000 := by have := HS.out; omega
      have e0 : (k : Int) < (s.size : Int) := by omega
      have e1 : (((s[k].toNat : Nat) : Int) != 47) = true := by
        have h := HX.out.2 k hks hki
        rw [bne_iff_ne]; omega
      have e2 : ((s[k].toNat : Nat) : Int) ≠ 47 := by rwa [bne_iff_ne] at e1
      go_wp2
      go_roundw
      case rel => exact ⟨k + 1, by omega, by go_num, BL.out⟩
      case measure => simp [intOf]; omega
    · skip
      obtain rfl : k = i := by omega
      have hi0 := HI.out
      have e0 : (k : Int) < (s.size : Int) := by omega
      have e1 : (((s[k].toNat : Nat) : Int) != 47) = false := by rw [HX.out.1]; rfl
      have e3 : ((s[k].toNat : Nat) : Int) = 47 := by rw [HX.out.1]; rfl
      have e5 : (k : Int) ≤ (s.size : Int) := by omega
      have e6 : k ≤ s.size := by omega
      go_wp2_with fail
      refine (P1.out _).mono ?_
      rintro e y1 ⟨_, rfl, hq, hb⟩
      obtain ⟨Xn, pn, qn, rfl, _, _, _⟩ := hq.form
      have Qn := Lib.hid hq; clear hq
      have B := Lib.hid hb; clear hb
      generalize hs : decide ((A.num : Int) < 0) = sn at *
      clear hs
      go_upto_region 7 with fail
      obtain ⟨W2, hW⟩ : ∃ W2, W2 = (y1.alloc (Obj.cells #[Value.bool sn, Value.slice Xn pn qn] 29)) := ⟨_, rfl⟩
      rw [← hW]
      have BXn : Hid (Box W2 (y1.heap.size) sn (.slice Xn pn qn)) := by rw [hW]; have := Box.new y1 sn (.slice Xn pn qn); simpa [Hid] using this
      have IVn : Hid (Iv W2 (.agg #[.bool sn, .slice Xn pn qn]) (A.num)) := by rw [hW]; exact (Qn.out).alloc _
      have hd : Below wr.heap.size wr W2 := by rw [hW]; exact (B.out).alloc (by have := B.out.size; simp <;> omega) _
      have NEnr : Hid ((y1.heap.size) ≠ g) := by have := RXr.out.lt; have := B.out.size; unfold Hid; omega
      have GBn : Hid (g ≤ y1.heap.size) := by have := DW.out.size; have := hg.out; have := B.out.size; unfold Hid; omega
      have LTrn : Hid (g < y1.heap.size) := by have := RXr.out.lt; have := B.out.size; unfold Hid; omega
      clear hW B Qn
      generalize hgn2 : y1.heap.size = gn at *
      clear hgn2
      replace RXr := Lib.hid (RXr.out.next hd rfl)
      replace DW := nxd DW hg hd rfl rfl rfl rfl
      clear hd
      go_wp2_with fail
      refine (rof_any 1 _ (by omega) (by omega)).mono ?_
      rintro e y3 ⟨_, rfl, hq, hb⟩
      obtain ⟨u1, hu1⟩ : ∃ u : Int, u = 1 := ⟨_, rfl⟩
      replace hq := hu1 ▸ hq
      replace hu1 := Lib.hid hu1
      obtain ⟨Xd, pd, qd, rfl, _, _, _⟩ := hq.form
      have Qd := Lib.hid hq; clear hq
      have B := Lib.hid hb; clear hb
      generalize hs : decide ((u1 : Int) < 0) = sd at *
      clear hs
      go_upto_region 8 with fail
      obtain ⟨W4, hW⟩ : ∃ W4, W4 = (y3.alloc (Obj.cells #[Value.bool sd, Value.slice Xd pd qd] 29)) := ⟨_, rfl⟩
      rw [← hW]
      have BXd : Hid (Box W4 (y3.heap.size) sd (.slice Xd pd qd)) := by rw [hW]; have := Box.new y3 sd (.slice Xd pd qd); simpa [Hid] using this
      have IVd : Hid (Iv W4 (.agg #[.bool sd, .slice Xd pd qd]) (u1)) := by rw [hW]; exact (Qd.out).alloc _
      have hd : Below W2.heap.size W2 W4 := by rw [hW]; exact (B.out).alloc (by have := B.out.size; simp <;> omega) _
      have NEdr : Hid ((y3.heap.size) ≠ g) := by have := RXr.out.lt; have := B.out.size; unfold Hid; omega
      have GBd : Hid (g ≤ y3.heap.size) := by have := DW.out.size; have := hg.out; have := B.out.size; unfold Hid; omega
      have LTrd : Hid (g < y3.heap.size) := by have := RXr.out.lt; have := B.out.size; unfold Hid; omega
      have LTnd : Hid (gn < y3.heap.size) := by have := BXn.out.lt; have := B.out.size; unfold Hid; omega
      clear hW B Qd
      generalize hgn4 : y3.heap.size = gd at *
      clear hgn4
      replace BXn := nxb BXn hd rfl; replace IVn := nxv IVn hd rfl
      replace RXr := Lib.hid (RXr.out.next hd rfl)
      replace DW := nxd DW hg hd rfl rfl rfl rfl
      clear hd
      go_upto_region 9 with fail
      have e7 : ((k : Int) + 1) ≤ (s.size : Int) := by omega
      have hk4 : k < 4000 := by have := HS.out; omega
      go_wp2_with fail
      refine (P2.out _).mono ?_
      rintro e y5 ⟨_, rfl, hq, hb⟩
      obtain ⟨Xd9, pd9, qd9, rfl, _, _, _⟩ := hq.form
      have Q9 := Lib.hid hq; clear hq
      replace BXn := nxb BXn hb rfl; replace IVn := nxv IVn hb rfl
      replace BXd := nxb BXd hb rfl; replace IVd := nxv IVd hb rfl
      replace RXr := Lib.hid (RXr.out.next hb rfl)
      replace DW := nxd DW hg hb rfl rfl rfl rfl
      clear hb IVd
      generalize hs : decide (((A.den : Int) : Int) < 0) = s9 at *
      clear hs
      have u1 := BXd.out.cell0; have u2 := BXd.out.cell1; have u3 := BXd.out.frozen 0; have u4 := BXd.out.frozen 1
      go_upto_region 10 with fail
      clear u1 u2 u3 u4
      obtain ⟨W6, hW⟩ : ∃ W6, W6 = (y5.setCell ⟨gd, 0, none⟩ (.bool s9)).setCell ⟨gd, 1, none⟩ (.slice Xd9 pd9 qd9) := ⟨_, rfl⟩
      rw [← hW]
      replace BXn : Hid (Box W6 gn sn (.slice Xn pn qn)) := by rw [hW]; exact (BXn.out.far (by have := LTnd.out; simp; omega) _).far (by have := LTnd.out; simp; omega) _
      replace IVn := Lib.hid (iv_keep IVn.out BXd.out s9 (u := .slice Xd9 pd9 qd9))
      rw [← hW] at IVn
      replace RXr := Lib.hid ((RXr.out.far (by have := NEdr.out; simp; omega) (.bool s9) (p := ⟨gd, 0, none⟩)).far (by have := NEdr.out; simp; omega) (.slice Xd9 pd9 qd9) (p := ⟨gd, 1, none⟩))
      rw [← hW] at RXr
      replace DW : Hid (Below g w W6) := by rw [hW]; exact (DW.out.setCell (by simp <;> have := GBd.out <;> omega) _).setCell (by simp <;> have := GBd.out <;> omega) _
      have IVd : Hid (Iv W6 (.agg #[.bool s9, .slice Xd9 pd9 qd9]) ((A.den : Int))) := by rw [hW]; exact iv_keep Q9.out BXd.out _
      replace BXd : Hid (Box W6 gd s9 (.slice Xd9 pd9 qd9)) := by rw [hW]; exact box_store BXd.out
      clear hW Q9
      generalize hx1 : Xd9 = Xdx at *
      generalize hx2 : pd9 = pdx at *
      generalize hx3 : qd9 = qdx at *
      generalize hx4 : s9 = sdx at *
      clear hx1 hx2 hx3 hx4
      go_upto_region 12 with fail
      have u7a := BXn.out.cell0; have u7b := BXn.out.cell1
      have u8a := BXd.out.cell0; have u8b := BXd.out.cell1
      go_upto_region 13 with fail
      clear u7a u7b u8a u8b
      obtain ⟨W9, hW⟩ : ∃ W9, W9 = W6.alloc (Obj.cells #[Value.bool sn, Value.slice Xn pn qn, Value.bool sdx, Value.slice Xdx pdx qdx] 31) := ⟨_, rfl⟩
      rw [← hW]
      have QXq : Hid (QBox W9 W6.heap.size sn (.slice Xn pn qn) sdx (.slice Xdx pdx qdx)) := by rw [hW]; exact QBox.new _ _ _ _ _
      have IVnq : Hid (Iv W9 (.agg #[.bool sn, .slice Xn pn qn]) (A.num)) := by rw [hW]; exact IVn.out.alloc _
      have IVdq : Hid (Iv W9 (.agg #[.bool sdx, .slice Xdx pdx qdx]) ((A.den : Int))) := by rw [hW]; exact IVd.out.alloc _
      have hd : Below W6.heap.size W6 W9 := by rw [hW]; exact (Below.refl _ _).alloc (Nat.le_refl _) _
      have NEqr : Hid (W6.heap.size ≠ g) := by have := RXr.out.lt; unfold Hid; omega
      clear hW
      replace BXn := nxb BXn hd rfl; replace IVn := nxv IVn hd rfl
      replace BXd := nxb BXd hd rfl; replace IVd := nxv IVd hd rfl
      replace RXr := Lib.hid (RXr.out.next hd rfl)
      replace DW := nxd DW hg hd rfl rfl rfl rfl
      clear hd
      generalize hgn9 : W6.heap.size = gq at *
      clear hgn9
      obtain ⟨sqn, Xqn, pqn, qqn, sqd, Xqd, pqd, qqd, e1, e2, e3, e4, e5, e6, e7, e8⟩ : ∃ a b c d e f g h, a = sn ∧ b = Xn ∧ c = pn ∧ d = qn ∧ e = sdx ∧ f = Xdx ∧ g = pdx ∧ h = qdx := ⟨_, _, _, _, _, _, _, _, rfl, rfl, rfl, rfl, rfl, rfl, rfl, rfl⟩
      rw [← e1, ← e2, ← e3, ← e4, ← e5, ← e6, ← e7, ← e8] at QXq
      rw [← e1, ← e2, ← e3, ← e4] at IVnq
      rw [← e5, ← e6, ← e7, ← e8] at IVdq
      clear e1 e2 e3 e4 e5 e6 e7 e8
      have u10a := QXq.out.cell0; have u10b := QXq.out.cell1; have u10c := QXq.out.cell2; have u10d := QXq.out.cell3
      go_wp2_with fail
      clear u10a u10b u10c u10d
      refine (rqvalid_is _ A _ (qv_of IVnq.out IVdq.out) (sA.out.mono (by omega))).mono ?_
      rintro e y11 ⟨rfl, hb⟩
      replace BXn := nxb BXn hb rfl; replace IVn := nxv IVn hb rfl
      replace BXd := nxb BXd hb rfl; replace IVd := nxv IVd hb rfl
      replace QXq := nxq QXq hb rfl; replace IVnq := nxv IVnq hb rfl; replace IVdq := nxv IVdq hb rfl
      replace RXr := Lib.hid (RXr.out.next hb rfl)
      replace DW := nxd DW hg hb rfl rfl rfl rfl
      clear hb
      have u12a := QXq.out.cell0; have u12b := QXq.out.cell1; have u12c := QXq.out.cell2; have u12d := QXq.out.cell3
      go_wp2_with fail
      clear u12a u12b u12c u12d
      refine (rqtext_is _ A t _ (qv_of IVnq.out IVdq.out) (sA.out.mono (by omega)) ht.out).mono ?_
      rintro e y13 ⟨rfl, hb⟩
      replace BXn := nxb BXn hb rfl; replace IVn := nxv IVn hb rfl
      replace BXd := nxb BXd hb rfl; replace IVd := nxv IVd hb rfl
      replace QXq := nxq QXq hb rfl; replace IVnq := nxv IVnq hb rfl; replace IVdq := nxv IVdq hb rfl
      replace RXr := Lib.hid (RXr.out.next hb rfl)
      replace DW := nxd DW hg hb rfl rfl rfl rfl
      clear hb
      have hts1 := hts.out
      have u14a := RXr.out.cell0; have u14b := RXr.out.cell1; have u14c := RXr.out.cell2; have u14d := RXr.out.cell3; have u14f := RXr.out.frozen 0; have u14g := RXr.out.frozen 1; have u14h := RXr.out.frozen 2; have u14i := RXr.out.frozen 3
      go_wp2
      refine bodyPost_ret (v := .tuple #[zeroQ, .int .i64 3]) (by simp [results, Tryz.results48, go_sem, zeroQ, u14a, u14b, u14c, u14d, u14f, u14g, u14h, u14i]) rfl ⟨_, rfl, zeroQ_qv _, by rw [hg.out]; first | exact DW.out | exact (((DW.out.setCell (by simp <;> omega) _).setCell (by simp <;> omega) _).setCell (by simp <;> omega) _).setCell (by simp <;> omega) _⟩

set_option maxHeartbeats 8000000 in
set_option maxRecDepth 100000 in
theorem rqp_ok (s : ByteArray) (w : World) (hs : s.size ≤ 4000) (i : Nat) (hi : i < s.size) (hx : s[i].toNat = 47 ∧ ∀ k (hk : k < s.size), k < i → s[k].toNat ≠ 47) (A : Rat) (sA : Sr A 4000) (P1 : ∀ w, Calls Tryz.prog 119 #[.string (s.extract 0 i)] w (RetE A.num 0 w)) (P2 : ∀ w, Calls Tryz.prog 119 #[.string (s.extract (i + 1) s.size)] w (RetE (A.den : Int) 0 w)) (t : ByteArray) (ht : qtx A = t) (hts : (t.toList == s.toList) = true) : Calls Tryz.prog 48 #[.string s] w (RetQC A.num A.den 0 w) := by
  have hs0 : decide ((4000 : Int) < s.size) = false := decide_eq_false (by omega)
  have HS := Lib.hid hs; have HI := Lib.hid hi; have HX := Lib.hid hx
  replace P1 := Lib.hid P1; replace P2 := Lib.hid P2
  replace sA := Lib.hid sA; replace ht := Lib.hid ht; replace hts := Lib.hid hts
  skip
  clear hs hx
  go_enter Tryz.func48, Tryz.ntmps48
  go_wp2_with fail
  obtain ⟨W, hW⟩ : ∃ W, W = (w.alloc (Obj.cells #[Value.bool false, Value.slice none 0 0, Value.bool false, Value.slice none 0 0] 31)) := ⟨_, rfl⟩
  rw [← hW]
  have RXr : Hid (QBox W (w.heap.size) false (.slice none 0 0) false (.slice none 0 0)) := by rw [hW]; have := QBox.new w false (Value.slice none 0 0) false (Value.slice none 0 0); simpa [Hid] using this
  have DW : Hid (Below w.heap.size w W) := by rw [hW]; exact (Below.refl _ _).alloc (by simp <;> omega) _
  clear hW
  generalize hg : w.heap.size = g at *
  replace hg := Lib.hid hg
  go_upto_region 3 with fail
  clear hs0
  go_wp2_with fail
  go_loopw [4] (fun v wr => ∃ k : Nat, k ≤ i ∧ v = .int .i64 k ∧ Below W.heap.size W wr) (fun v _ => i - (intOf v).toNat)
  case atStart => exact ⟨0, by omega, rfl, Below.refl _ _⟩
  case round =>
    obtain ⟨k, hk, rfl, hbl⟩ := hrel
    have BL := Lib.hid hbl
    replace RXr := Lib.hid (RXr.out.next hbl rfl)
    replace DW := nxd DW hg hbl rfl rfl rfl rfl
    clear hbl
    by_cases hki : k < i
    · skip
      have hks : k < s.size := by have := HI.out; omega
      have hk4 : k < 4000 := by have := HS.out; omega
      have e0 : (k : Int) < (s.size : Int) := by omega
      have e1 : (((s[k].toNat : Nat) : Int) != 47) = true := by
        have h := HX.out.2 k hks hki
        rw [bne_iff_ne]; omega
      have e2 : ((s[k].toNat : Nat) : Int) ≠ 47 := by rwa [bne_iff_ne] at e1
      go_wp2
      go_roundw
      case rel => exact ⟨k + 1, by omega, by go_num, BL.out⟩
      case measure => simp [intOf]; omega
    · skip
      obtain rfl : k = i := by omega
      have hi0 := HI.out
      have e0 : (k : Int) < (s.size : Int) := by omega
      have e1 : (((s[k].toNat : Nat) : Int) != 47) = false := by rw [HX.out.1]; rfl
      have e3 : ((s[k].toNat : Nat) : Int) = 47 := by rw [HX.out.1]; rfl
      have e5 : (k : Int) ≤ (s.size : Int) := by omega
      have e6 : k ≤ s.size := by omega
      go_wp2_with fail
      refine (P1.out _).mono ?_
      rintro e y1 ⟨_, rfl, hq, hb⟩
      obtain ⟨Xn, pn, qn, rfl, _, _, _⟩ := hq.form
      have Qn := Lib.hid hq; clear hq
      have B := Lib.hid hb; clear hb
      generalize hs : decide ((A.num : Int) < 0) = sn at *
      clear hs
      go_upto_region 7 with fail
      obtain ⟨W2, hW⟩ : ∃ W2, W2 = (y1.alloc (Obj.cells #[Value.bool sn, Value.slice Xn pn qn] 29)) := ⟨_, rfl⟩
      rw [← hW]
      have BXn : Hid (Box W2 (y1.heap.size) sn (.slice Xn pn qn)) := by rw [hW]; have := Box.new y1 sn (.slice Xn pn qn); simpa [Hid] using this
      have IVn : Hid (Iv W2 (.agg #[.bool sn, .slice Xn pn qn]) (A.num)) := by rw [hW]; exact (Qn.out).alloc _
      have hd : Below wr.heap.size wr W2 := by rw [hW]; exact (B.out).alloc (by have := B.out.size; simp <;> omega) _
      have NEnr : Hid ((y1.heap.size) ≠ g) := by have := RXr.out.lt; have := B.out.size; unfold Hid; omega
      have GBn : Hid (g ≤ y1.heap.size) := by have := DW.out.size; have := hg.out; have := B.out.size; unfold Hid; omega
      have LTrn : Hid (g < y1.heap.size) := by have := RXr.out.lt; have := B.out.size; unfold Hid; omega
      clear hW B Qn
      generalize hgn2 : y1.heap.size = gn at *
      clear hgn2
      replace RXr := Lib.hid (RXr.out.next hd rfl)
      replace DW := nxd DW hg hd rfl rfl rfl rfl
      clear hd
      go_wp2_with fail
      refine (rof_any 1 _ (by omega) (by omega)).mono ?_
      rintro e y3 ⟨_, rfl, hq, hb⟩
      obtain ⟨u1, hu1⟩ : ∃ u : Int, u = 1 := ⟨_, rfl⟩
      replace hq := hu1 ▸ hq
      replace hu1 := Lib.hid hu1
      obtain ⟨Xd, pd, qd, rfl, _, _, _⟩ := hq.form
      have Qd := Lib.hid hq; clear hq
      have B := Lib.hid hb; clear hb
      generalize hs : decide ((u1 : Int) < 0) = sd at *
      clear hs
      go_upto_region 8 with fail
      obtain ⟨W4, hW⟩ : ∃ W4, W4 = (y3.alloc (Obj.cells #[Value.bool sd, Value.slice Xd pd qd] 29)) := ⟨_, rfl⟩
      rw [← hW]
      have BXd : Hid (Box W4 (y3.heap.size) sd (.slice Xd pd qd)) := by rw [hW]; have := Box.new y3 sd (.slice Xd pd qd); simpa [Hid] using this
      have IVd : Hid (Iv W4 (.agg #[.bool sd, .slice Xd pd qd]) (u1)) := by rw [hW]; exact (Qd.out).alloc _
      have hd : Below W2.heap.size W2 W4 := by rw [hW]; exact (B.out).alloc (by have := B.out.size; simp <;> omega) _
      have NEdr : Hid ((y3.heap.size) ≠ g) := by have := RXr.out.lt; have := B.out.size; unfold Hid; omega
      have GBd : Hid (g ≤ y3.heap.size) := by have := DW.out.size; have := hg.out; have := B.out.size; unfold Hid; omega
      have LTrd : Hid (g < y3.heap.size) := by have := RXr.out.lt; have := B.out.size; unfold Hid; omega
      have LTnd : Hid (gn < y3.heap.size) := by have := BXn.out.lt; have := B.out.size; unfold Hid; omega
      clear hW B Qd
      generalize hgn4 : y3.heap.size = gd at *
      clear hgn4
      replace BXn := nxb BXn hd rfl; replace IVn := nxv IVn hd rfl
      replace RXr := Lib.hid (RXr.out.next hd rfl)
      replace DW := nxd DW hg hd rfl rfl rfl rfl
      clear hd
      go_upto_region 9 with fail
      have e7 : ((k : Int) + 1) ≤ (s.size : Int) := by omega
      have hk4 : k < 4000 := by have := HS.out; omega
      go_wp2_with fail
      refine (P2.out _).mono ?_
      rintro e y5 ⟨_, rfl, hq, hb⟩
      obtain ⟨Xd9, pd9, qd9, rfl, _, _, _⟩ := hq.form
      have Q9 := Lib.hid hq; clear hq
      replace BXn := nxb BXn hb rfl; replace IVn := nxv IVn hb rfl
      replace BXd := nxb BXd hb rfl; replace IVd := nxv IVd hb rfl
      replace RXr := Lib.hid (RXr.out.next hb rfl)
      replace DW := nxd DW hg hb rfl rfl rfl rfl
      clear hb IVd
      generalize hs : decide (((A.den : Int) : Int) < 0) = s9 at *
      clear hs
      have u1 := BXd.out.cell0; have u2 := BXd.out.cell1; have u3 := BXd.out.frozen 0; have u4 := BXd.out.frozen 1
      go_upto_region 10 with fail
      clear u1 u2 u3 u4
      obtain ⟨W6, hW⟩ : ∃ W6, W6 = (y5.setCell ⟨gd, 0, none⟩ (.bool s9)).setCell ⟨gd, 1, none⟩ (.slice Xd9 pd9 qd9) := ⟨_, rfl⟩
      rw [← hW]
      replace BXn : Hid (Box W6 gn sn (.slice Xn pn qn)) := by rw [hW]; exact (BXn.out.far (by have := LTnd.out; simp; omega) _).far (by have := LTnd.out; simp; omega) _
      replace IVn := Lib.hid (iv_keep IVn.out BXd.out s9 (u := .slice Xd9 pd9 qd9))
      rw [← hW] at IVn
      replace RXr := Lib.hid ((RXr.out.far (by have := NEdr.out; simp; omega) (.bool s9) (p := ⟨gd, 0, none⟩)).far (by have := NEdr.out; simp; omega) (.slice Xd9 pd9 qd9) (p := ⟨gd, 1, none⟩))
      rw [← hW] at RXr
      replace DW : Hid (Below g w W6) := by rw [hW]; exact (DW.out.setCell (by simp <;> have := GBd.out <;> omega) _).setCell (by simp <;> have := GBd.out <;> omega) _
      have IVd : Hid (Iv W6 (.agg #[.bool s9, .slice Xd9 pd9 qd9]) ((A.den : Int))) := by rw [hW]; exact iv_keep Q9.out BXd.out _
      replace BXd : Hid (Box W6 gd s9 (.slice Xd9 pd9 qd9)) := by rw [hW]; exact box_store BXd.out
      clear hW Q9
      generalize hx1 : Xd9 = Xdx at *
      generalize hx2 : pd9 = pdx at *
      generalize hx3 : qd9 = qdx at *
      generalize hx4 : s9 = sdx at *
      clear hx1 hx2 hx3 hx4
      go_upto_region 12 with fail
      have u7a := BXn.out.cell0; have u7b := BXn.out.cell1
      have u8a := BXd.out.cell0; have u8b := BXd.out.cell1
      go_upto_region 13 with fail
      clear u7a u7b u8a u8b
      obtain ⟨W9, hW⟩ : ∃ W9, W9 = W6.alloc (Obj.cells #[Value.bool sn, Value.slice Xn pn qn, Value.bool sdx, Value.slice Xdx pdx qdx] 31) := ⟨_, rfl⟩
      rw [← hW]
      have QXq : Hid (QBox W9 W6.heap.size sn (.slice Xn pn qn) sdx (.slice Xdx pdx qdx)) := by rw [hW]; exact QBox.new _ _ _ _ _
      have IVnq : Hid (Iv W9 (.agg #[.bool sn, .slice Xn pn qn]) (A.num)) := by rw [hW]; exact IVn.out.alloc _
      have IVdq : Hid (Iv W9 (.agg #[.bool sdx, .slice Xdx pdx qdx]) ((A.den : Int))) := by rw [hW]; exact IVd.out.alloc _
      have hd : Below W6.heap.size W6 W9 := by rw [hW]; exact (Below.refl _ _).alloc (Nat.le_refl _) _
      have NEqr : Hid (W6.heap.size ≠ g) := by have := RXr.out.lt; unfold Hid; omega
      clear hW
      replace BXn := nxb BXn hd rfl; replace IVn := nxv IVn hd rfl
      replace BXd := nxb BXd hd rfl; replace IVd := nxv IVd hd rfl
      replace RXr := Lib.hid (RXr.out.next hd rfl)
      replace DW := nxd DW hg hd rfl rfl rfl rfl
      clear hd
      generalize hgn9 : W6.heap.size = gq at *
      clear hgn9
      obtain ⟨sqn, Xqn, pqn, qqn, sqd, Xqd, pqd, qqd, e1, e2, e3, e4, e5, e6, e7, e8⟩ : ∃ a b c d e f g h, a = sn ∧ b = Xn ∧ c = pn ∧ d = qn ∧ e = sdx ∧ f = Xdx ∧ g = pdx ∧ h = qdx := ⟨_, _, _, _, _, _, _, _, rfl, rfl, rfl, rfl, rfl, rfl, rfl, rfl⟩
      rw [← e1, ← e2, ← e3, ← e4, ← e5, ← e6, ← e7, ← e8] at QXq
      rw [← e1, ← e2, ← e3, ← e4] at IVnq
      rw [← e5, ← e6, ← e7, ← e8] at IVdq
      clear e1 e2 e3 e4 e5 e6 e7 e8
      have u10a := QXq.out.cell0; have u10b := QXq.out.cell1; have u10c := QXq.out.cell2; have u10d := QXq.out.cell3
      go_wp2_with fail
      clear u10a u10b u10c u10d
      refine (rqvalid_is _ A _ (qv_of IVnq.out IVdq.out) (sA.out.mono (by omega))).mono ?_
      rintro e y11 ⟨rfl, hb⟩
      replace BXn := nxb BXn hb rfl; replace IVn := nxv IVn hb rfl
      replace BXd := nxb BXd hb rfl; replace IVd := nxv IVd hb rfl
      replace QXq := nxq QXq hb rfl; replace IVnq := nxv IVnq hb rfl; replace IVdq := nxv IVdq hb rfl
      replace RXr := Lib.hid (RXr.out.next hb rfl)
      replace DW := nxd DW hg hb rfl rfl rfl rfl
      clear hb
      have u12a := QXq.out.cell0; have u12b := QXq.out.cell1; have u12c := QXq.out.cell2; have u12d := QXq.out.cell3
      go_wp2_with fail
      clear u12a u12b u12c u12d
      refine (rqtext_is _ A t _ (qv_of IVnq.out IVdq.out) (sA.out.mono (by omega)) ht.out).mono ?_
      rintro e y13 ⟨rfl, hb⟩
      replace BXn := nxb BXn hb rfl; replace IVn := nxv IVn hb rfl
      replace BXd := nxb BXd hb rfl; replace IVd := nxv IVd hb rfl
      replace QXq := nxq QXq hb rfl; replace IVnq := nxv IVnq hb rfl; replace IVdq := nxv IVdq hb rfl
      replace RXr := Lib.hid (RXr.out.next hb rfl)
      replace DW := nxd DW hg hb rfl rfl rfl rfl
      clear hb
      have hts1 := hts.out
      go_upto_region 15 with fail
      have u14a := QXq.out.cell0; have u14b := QXq.out.cell1; have u14c := QXq.out.cell2; have u14d := QXq.out.cell3
      have u15a := RXr.out.cell0; have u15b := RXr.out.cell1; have u15c := RXr.out.cell2; have u15d := RXr.out.cell3; have u15f := RXr.out.frozen 0; have u15g := RXr.out.frozen 1; have u15h := RXr.out.frozen 2; have u15i := RXr.out.frozen 3
      go_wp2
      refine bodyPost_ret (v := .tuple #[.agg #[.bool sqn, .slice Xqn pqn qqn, .bool sqd, .slice Xqd pqd qqd], .int .i64 0]) (by simp [results, Tryz.results48, go_sem, u14a, u14b, u14c, u14d, u15a, u15b, u15c, u15d, u15f, u15g, u15h, u15i]) rfl ⟨_, rfl, ?_, by rw [hg.out]; exact (((DW.out.setCell (by simp <;> omega) _).setCell (by simp <;> omega) _).setCell (by simp <;> omega) _).setCell (by simp <;> omega) _⟩
      have hc := chg_qbox (b' := sqn) (d' := sqd) (A' := Xqn) (n' := pqn) (c' := qqn) (B' := Xqd) (m' := pqd) (e' := qqd) RXr.out
      exact qv_of (IVnq.out.kn hc.kn) (IVdq.out.kn hc.kn)
end Go.Proofs.YtfigimfdojbkeaaGreat
