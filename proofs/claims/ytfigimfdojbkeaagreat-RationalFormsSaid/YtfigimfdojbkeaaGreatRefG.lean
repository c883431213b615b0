/-
  Contract of the reference's Parse.
  Contract of the reference's Parse, where it refuses.
-/
import Derived.Test.YtfigimfdojbkeaaGreatSanA
import Derived.Test.YtfigimfdojbkeaaGreatTextQ
set_option linter.unusedSimpArgs false
set_option linter.unusedVariables false
section
namespace Go.Proofs.YtfigimfdojbkeaaGreat
open Go.RowKit
attribute [local go_sem ↓] Go.wp_at_zero Go.wp_at_succ

set_option maxHeartbeats 4000000 in
theorem rparseNeg_ok (s : ByteArray) (w : World) (hs : s.size ≤ 4000) (h0 : 0 < s.size) (hm : s[0].toNat = 45) (hb : IsNum (s.extract 1 s.size).data.toList) (hz : s.toList ≠ [45, 48]) : Calls Tryz.prog 119 #[.string s] w (RetE (sgn true (dv (s.extract 1 s.size).data.toList)) 0 w) := by
  have HB := Lib.hid hb
  have hsz : (s.extract 1 s.size).size = s.size - 1 := by have e : (s.extract 1 s.size).size = min s.size s.size - 1 := ByteArray.size_extract ..; omega
  have hlen : (s.extract 1 s.size).data.toList.length = s.size - 1 := by rw [Array.length_toList]; exact hsz
  have hp : 0 < (s.extract 1 s.size).size := by
    rcases Nat.eq_zero_or_pos (s.extract 1 s.size).size with h | h
    · exact absurd (List.eq_nil_of_length_eq_zero (hlen.trans (hsz.symm.trans h))) hb.2.1
    · exact h
  have h7 : (((s.size - 1 : Nat) : Int) == 0) = false := by simp; omega
  have h8 : (0 : Int) < ((s.size - 1 : Nat) : Int) := by omega
  have h9 : ((((s.extract 1 s.size)[0].toNat : Nat) : Int) == 48) = false := by
    have e2 : (s.extract 1 s.size).data.toList[0]? = some (s.extract 1 s.size)[0] := byte_at _ 0 hp
    rcases hb.2.2 with e | e
    · exfalso
      apply hz
      rw [ByteArray.toList_eq]
      have e3 := byte_at s 0 h0
      have e4 : s.data.toList.length = s.size := by rw [Array.length_toList]; rfl
      rw [ByteArray.data_extract, Array.toList_extract] at e
      cases hs2 : s.data.toList with
      | nil => rw [hs2] at e3; simp at e3
      | cons a l =>
        rw [hs2] at e3 e e4
        have e5 : a = s[0] := Option.some.inj e3
        have e6 : a = 45 := UInt8.toNat_inj.1 (by rw [e5, hm]; rfl)
        rw [List.length_cons] at e4
        rw [List.extract_eq_take_drop, List.drop_succ_cons, List.drop_zero, List.take_of_length_le (by omega)] at e
        rw [e, e6]
    · rw [e2] at e
      rw [beq_eq_false_iff_ne]
      intro e3
      apply e
      congr 1
      exact UInt8.toNat_inj.1 (by rw [show (48 : UInt8).toNat = 48 from rfl]; omega)
  have h1 : decide ((4000 : Int) < (s.size : Int)) = false := by simp; omega
  have h2 : (0 : Int) < (s.size : Int) := by omega
  have h3 : (((s[0].toNat : Nat) : Int) == 45) = true := by rw [hm]; rfl
  rw [← val_mag (dv (s.extract 1 s.size).data.toList)]
  clear hb hz
  go_enter Tryz.func119, Tryz.ntmps119
  go_wp2_with fail
  go_loopw [6, 7, 8] (fun l t _ wr => ∃ i : Nat, i ≤ s.size - 1 ∧ t = .int .i64 i ∧ Mg wr l (dv ((s.extract 1 s.size).data.toList.take i)) ∧ Box wr w.heap.size false (.slice none 0 0) ∧ Below w.heap.size w wr)
      (fun _ t _ _ => s.size - 1 - (intOf t).toNat)
  case atStart => exact ⟨0, Nat.zero_le _, rfl, Mg.zero _ 0 _ (by omega), (Box.new w false (.slice none 0 0)).alloc _, ((Below.refl _ _).alloc (Nat.le_refl _) _).alloc (by simp) _⟩
  case round =>
    obtain ⟨i, hi, rfl, hl, hbx, hbl⟩ := hrel
    obtain ⟨A, n, c, rfl, c1, c2, hw⟩ := hl
    have HW := Lib.hid hw
    have HBX := Lib.hid hbx
    have HBL := Lib.hid hbl
    clear hw hbx hbl
    by_cases hlt : i < s.size - 1
    · have hd := num_digits HB.out i (by omega)
      have hd1 : (48 : Int) ≤ (((s.extract 1 s.size)[i].toNat : Nat) : Int) := by omega
      have hd2 : (((s.extract 1 s.size)[i].toNat : Nat) : Int) ≤ 57 := by omega
      have h1' : (i : Int) < ((s.size - 1 : Nat) : Int) := by omega
      have hn : n ≤ 4000 := by
        rw [← HW.out.len]
        exact mag_length_le (lt_pw (dv_lt i _ (by rw [List.length_take, hlen]; omega) (fun b hb => HB.out.1 b (List.mem_of_mem_take hb))) (by omega))
      have e48 : (((s.extract 1 s.size)[i].toNat : Nat) : Int) - 48 = (((s.extract 1 s.size)[i].toNat - 48 : Nat) : Int) := by omega
      go_wp2_with fail
      refine (rtimes_any A (some ⟨wr.heap.size, 0, none⟩) n 1 c 1 (dv ((s.extract 1 s.size).data.toList.take i)) 10 _ (HW.out.alloc _) (by have := (Blk.one (w := wr) (a := 10) (i := 10) (by omega) rfl).whole; rw [mag_one (by omega) (by omega)]; exact this) (by omega) (by omega)).mono ?_
      rintro e w2 ⟨v2, rfl, ⟨A2, n2, c2, rfl, a1, a2, a3⟩, hb2⟩
      have HA3 := Lib.hid a3
      have HB2 := Lib.hid hb2
      clear a3 hb2
      go_wp2_with fail
      refine (rwords_any ((s.extract 1 s.size)[i].toNat - 48) _ (by omega)).mono ?_
      rintro e w3 ⟨v3, rfl, ⟨A3, n3, c3, rfl, b1, b2, b3⟩, hb3⟩
      have HBB3 := Lib.hid b3
      have HB3 := Lib.hid hb3
      clear b3 hb3
      have hdl : dv ((s.extract 1 s.size).data.toList.take i) < 10 ^ i := dv_lt i _ (by rw [List.length_take, hlen]; omega) (fun b hb => HB.out.1 b (List.mem_of_mem_take hb))
      have hn2 : n2 ≤ 4000 := by
        rw [← HA3.out.len]
        exact mag_length_le (lt_pw (k := i + 1) (by rw [Nat.pow_succ]; generalize 10 ^ i = N at hdl ⊢; omega) (by omega))
      have hn3 : n3 ≤ 4000 := by
        rw [← HBB3.out.len]
        exact mag_length_le (lt_pw (k := 1) (by omega) (by omega))
      clear hdl
      go_wp2_with fail
      refine (radded_any A2 A3 n2 n3 c2 c3 _ _ _ (HA3.out.next HB3.out rfl) HBB3.out (by omega) (by omega)).mono ?_
      rintro e w4 ⟨v4, rfl, hv4, hb4⟩
      have HV4 := Lib.hid hv4
      have HB4 := Lib.hid hb4
      clear hv4 hb4
      go_wp2_with fail
      go_roundw
      case rel =>
        have l1 := HBL.out.alloc HBL.out.size (Obj.cells #[Value.int IntKind.u32 10] 115)
        have l2 := link_below l1 HB2.out l1.size rfl rfl rfl rfl
        have l3 := link_below l2 HB3.out l2.size rfl rfl rfl rfl
        have l4 := link_below l3 HB4.out l3.size rfl rfl rfl rfl
        refine ⟨i + 1, by omega, by simp, ?_, (((HBX.out.alloc _).next HB2.out rfl).next HB3.out rfl).next HB4.out rfl, l4⟩
        rw [dv_take (by omega)]
        exact HV4.out
      case measure => simp [intOf]; omega
    · obtain rfl : i = s.size - 1 := by omega
      have hkk : decide (((s.size - 1 : Nat) : Int) < ((s.size - 1 : Nat) : Int)) = false := by simp
      rw [← hlen, List.take_length] at HW
      have hn : n ≤ 4000 := by
        rw [← HW.out.len]
        exact mag_length_le (lt_pw (dv_lt _ _ rfl HB.out.1) (by omega))
      go_wp2_with fail
      refine (made_any true A n c _ _ HW.out (by omega) c1 c2).mono ?_
      rintro e w3 ⟨v3, rfl, hv3, hb3⟩
      obtain ⟨A4, n4, c4, rfl, k1, k2, k3⟩ := hv3.form
      have HV := Lib.hid hv3
      have HB3 := Lib.hid hb3
      clear k3 hv3 hb3
      have hl3 := link_below HBL.out HB3.out HBL.out.size rfl rfl rfl rfl
      have hbx := Lib.hid (HBX.out.next HB3.out rfl)
      have q0 := hbx.out.cell0
      have q1 := hbx.out.cell1
      have q2 := hbx.out.frozen 0
      have q3 := hbx.out.frozen 1
      generalize sgn true (val (mag (dv (s.extract 1 s.size).data.toList))) = z at *
      generalize hdz : decide (z < 0) = dz at *
      go_wp2
      refine bodyPost_ret (v := .tuple #[.agg #[.bool dz, .slice A4 n4 c4], .int .i64 0]) (by simp [results, Tryz.results119, go_sem, q0, q1]) rfl ⟨_, rfl, ?_, (hl3.setCell (Nat.le_refl _) _).setCell (Nat.le_refl _) _⟩
      rw [← hdz] at HV ⊢
      exact iv_keep HV.out hbx.out _

set_option maxHeartbeats 4000000 in
theorem rparsePos_ok (s : ByteArray) (w : World) (hs : s.size ≤ 4000) (h0 : 0 < s.size) (hm : s[0].toNat ≠ 45) (hb : IsNum s.data.toList) (_ : s.toList ≠ [45, 48]) : Calls Tryz.prog 119 #[.string s] w (RetE (sgn false (dv s.data.toList)) 0 w) := by
  have HB := Lib.hid hb
  have hsz : s.size = s.size := rfl
  have hlen : s.data.toList.length = s.size := by rw [Array.length_toList]; rfl
  have h7 : ((s.size : Int) == 0) = false := by rw [beq_eq_false_iff_ne]; omega
  have h1 : decide ((4000 : Int) < (s.size : Int)) = false := by simp; omega
  have h2 : (0 : Int) < (s.size : Int) := by omega
  have h3 : (((s[0].toNat : Nat) : Int) == 45) = false := by rw [beq_eq_false_iff_ne]; omega
  have h9 : (((s[0].toNat : Nat) : Int) == 48) = false ∨ ((((s[0].toNat : Nat) : Int) == 48) = true ∧ (s.toList == [48]) = true) := by
    have e2 : s.data.toList[0]? = some s[0] := byte_at _ 0 h0
    rcases hb.2.2 with e | e
    · right
      rw [e] at e2
      have e5 := Option.some.inj e2
      refine ⟨by rw [← e5]; rfl, ?_⟩
      rw [ByteArray.toList_eq, e]; rfl
    · left
      rw [e2] at e
      rw [beq_eq_false_iff_ne]
      intro e3
      apply e
      congr 1
      exact UInt8.toNat_inj.1 (by rw [show (48 : UInt8).toNat = 48 from rfl]; omega)
  rw [← val_mag (dv s.data.toList)]
  clear hb
  rcases h9 with h9 | ⟨h9, h10⟩
  · go_enter Tryz.func119, Tryz.ntmps119
    go_wp2_with fail
    go_loopw [6, 7, 8] (fun l t _ wr => ∃ i : Nat, i ≤ s.size ∧ t = .int .i64 i ∧ Mg wr l (dv (s.data.toList.take i)) ∧ Box wr w.heap.size false (.slice none 0 0) ∧ Below w.heap.size w wr)
        (fun _ t _ _ => s.size - (intOf t).toNat)
    case atStart => exact ⟨0, Nat.zero_le _, rfl, Mg.zero _ 0 _ (by omega), (Box.new w false (.slice none 0 0)).alloc _, ((Below.refl _ _).alloc (Nat.le_refl _) _).alloc (by simp) _⟩
    case round =>
      obtain ⟨i, hi, rfl, hl, hbx, hbl⟩ := hrel
      obtain ⟨A, n, c, rfl, c1, c2, hw⟩ := hl
      have HW := Lib.hid hw
      have HBX := Lib.hid hbx
      have HBL := Lib.hid hbl
      clear hw hbx hbl
      by_cases hlt : i < s.size
      · have hd := num_digits HB.out i (by omega)
        have hd1 : (48 : Int) ≤ ((s[i].toNat : Nat) : Int) := by omega
        have hd2 : ((s[i].toNat : Nat) : Int) ≤ 57 := by omega
        have h1' : (i : Int) < ((s.size : Nat) : Int) := by omega
        have hn : n ≤ 4000 := by
          rw [← HW.out.len]
          exact mag_length_le (lt_pw (dv_lt i _ (by rw [List.length_take, hlen]; omega) (fun b hb => HB.out.1 b (List.mem_of_mem_take hb))) (by omega))
        have e48 : ((s[i].toNat : Nat) : Int) - 48 = ((s[i].toNat - 48 : Nat) : Int) := by omega
        go_wp2_with fail
        refine (rtimes_any A (some ⟨wr.heap.size, 0, none⟩) n 1 c 1 (dv (s.data.toList.take i)) 10 _ (HW.out.alloc _) (by have := (Blk.one (w := wr) (a := 10) (i := 10) (by omega) rfl).whole; rw [mag_one (by omega) (by omega)]; exact this) (by omega) (by omega)).mono ?_
        rintro e w2 ⟨v2, rfl, ⟨A2, n2, c2, rfl, a1, a2, a3⟩, hb2⟩
        have HA3 := Lib.hid a3
        have HB2 := Lib.hid hb2
        clear a3 hb2
        go_wp2_with fail
        refine (rwords_any (s[i].toNat - 48) _ (by omega)).mono ?_
        rintro e w3 ⟨v3, rfl, ⟨A3, n3, c3, rfl, b1, b2, b3⟩, hb3⟩
        have HBB3 := Lib.hid b3
        have HB3 := Lib.hid hb3
        clear b3 hb3
        have hdl : dv (s.data.toList.take i) < 10 ^ i := dv_lt i _ (by rw [List.length_take, hlen]; omega) (fun b hb => HB.out.1 b (List.mem_of_mem_take hb))
        have hn2 : n2 ≤ 4000 := by
          rw [← HA3.out.len]
          exact mag_length_le (lt_pw (k := i + 1) (by rw [Nat.pow_succ]; generalize 10 ^ i = N at hdl ⊢; omega) (by omega))
        have hn3 : n3 ≤ 4000 := by
          rw [← HBB3.out.len]
          exact mag_length_le (lt_pw (k := 1) (by omega) (by omega))
        clear hdl
        go_wp2_with fail
        refine (radded_any A2 A3 n2 n3 c2 c3 _ _ _ (HA3.out.next HB3.out rfl) HBB3.out (by omega) (by omega)).mono ?_
        rintro e w4 ⟨v4, rfl, hv4, hb4⟩
        have HV4 := Lib.hid hv4
        have HB4 := Lib.hid hb4
        clear hv4 hb4
        go_wp2_with fail
        go_roundw
        case rel =>
          have l1 := HBL.out.alloc HBL.out.size (Obj.cells #[Value.int IntKind.u32 10] 115)
          have l2 := link_below l1 HB2.out l1.size rfl rfl rfl rfl
          have l3 := link_below l2 HB3.out l2.size rfl rfl rfl rfl
          have l4 := link_below l3 HB4.out l3.size rfl rfl rfl rfl
          refine ⟨i + 1, by omega, by simp, ?_, (((HBX.out.alloc _).next HB2.out rfl).next HB3.out rfl).next HB4.out rfl, l4⟩
          rw [dv_take (by omega)]
          exact HV4.out
        case measure => simp [intOf]; omega
      · obtain rfl : i = s.size := by omega
        have hkk : decide (((s.size : Nat) : Int) < ((s.size : Nat) : Int)) = false := by simp
        rw [← hlen, List.take_length] at HW
        have hn : n ≤ 4000 := by
          rw [← HW.out.len]
          exact mag_length_le (lt_pw (dv_lt _ _ rfl HB.out.1) (by omega))
        go_wp2_with fail
        refine (made_any false A n c _ _ HW.out (by omega) c1 c2).mono ?_
        rintro e w3 ⟨v3, rfl, hv3, hb3⟩
        obtain ⟨A4, n4, c4, rfl, k1, k2, k3⟩ := hv3.form
        have HV := Lib.hid hv3
        have HB3 := Lib.hid hb3
        clear k3 hv3 hb3
        have hl3 := link_below HBL.out HB3.out HBL.out.size rfl rfl rfl rfl
        have hbx := Lib.hid (HBX.out.next HB3.out rfl)
        have q0 := hbx.out.cell0
        have q1 := hbx.out.cell1
        have q2 := hbx.out.frozen 0
        have q3 := hbx.out.frozen 1
        generalize sgn false (val (mag (dv s.data.toList))) = z at *
        generalize hdz : decide (z < 0) = dz at *
        go_wp2
        refine bodyPost_ret (v := .tuple #[.agg #[.bool dz, .slice A4 n4 c4], .int .i64 0]) (by simp [results, Tryz.results119, go_sem, q0, q1]) rfl ⟨_, rfl, ?_, (hl3.setCell (Nat.le_refl _) _).setCell (Nat.le_refl _) _⟩
        rw [← hdz] at HV ⊢
        exact iv_keep HV.out hbx.out _
  · go_enter Tryz.func119, Tryz.ntmps119
    go_wp2_with fail
    go_loopw [6, 7, 8] (fun l t _ wr => ∃ i : Nat, i ≤ s.size ∧ t = .int .i64 i ∧ Mg wr l (dv (s.data.toList.take i)) ∧ Box wr w.heap.size false (.slice none 0 0) ∧ Below w.heap.size w wr)
        (fun _ t _ _ => s.size - (intOf t).toNat)
    case atStart => exact ⟨0, Nat.zero_le _, rfl, Mg.zero _ 0 _ (by omega), (Box.new w false (.slice none 0 0)).alloc _, ((Below.refl _ _).alloc (Nat.le_refl _) _).alloc (by simp) _⟩
    case round =>
      obtain ⟨i, hi, rfl, hl, hbx, hbl⟩ := hrel
      obtain ⟨A, n, c, rfl, c1, c2, hw⟩ := hl
      have HW := Lib.hid hw
      have HBX := Lib.hid hbx
      have HBL := Lib.hid hbl
      clear hw hbx hbl
      by_cases hlt : i < s.size
      · have hd := num_digits HB.out i (by omega)
        have hd1 : (48 : Int) ≤ ((s[i].toNat : Nat) : Int) := by omega
        have hd2 : ((s[i].toNat : Nat) : Int) ≤ 57 := by omega
        have h1' : (i : Int) < ((s.size : Nat) : Int) := by omega
        have hn : n ≤ 4000 := by
          rw [← HW.out.len]
          exact mag_length_le (lt_pw (dv_lt i _ (by rw [List.length_take, hlen]; omega) (fun b hb => HB.out.1 b (List.mem_of_mem_take hb))) (by omega))
        have e48 : ((s[i].toNat : Nat) : Int) - 48 = ((s[i].toNat - 48 : Nat) : Int) := by omega
        go_wp2_with fail
        refine (rtimes_any A (some ⟨wr.heap.size, 0, none⟩) n 1 c 1 (dv (s.data.toList.take i)) 10 _ (HW.out.alloc _) (by have := (Blk.one (w := wr) (a := 10) (i := 10) (by omega) rfl).whole; rw [mag_one (by omega) (by omega)]; exact this) (by omega) (by omega)).mono ?_
        rintro e w2 ⟨v2, rfl, ⟨A2, n2, c2, rfl, a1, a2, a3⟩, hb2⟩
        have HA3 := Lib.hid a3
        have HB2 := Lib.hid hb2
        clear a3 hb2
        go_wp2_with fail
        refine (rwords_any (s[i].toNat - 48) _ (by omega)).mono ?_
        rintro e w3 ⟨v3, rfl, ⟨A3, n3, c3, rfl, b1, b2, b3⟩, hb3⟩
        have HBB3 := Lib.hid b3
        have HB3 := Lib.hid hb3
        clear b3 hb3
        have hdl : dv (s.data.toList.take i) < 10 ^ i := dv_lt i _ (by rw [List.length_take, hlen]; omega) (fun b hb => HB.out.1 b (List.mem_of_mem_take hb))
        have hn2 : n2 ≤ 4000 := by
          rw [← HA3.out.len]
          exact mag_length_le (lt_pw (k := i + 1) (by rw [Nat.pow_succ]; generalize 10 ^ i = N at hdl ⊢; omega) (by omega))
        have hn3 : n3 ≤ 4000 := by
          rw [← HBB3.out.len]
          exact mag_length_le (lt_pw (k := 1) (by omega) (by omega))
        clear hdl
        go_wp2_with fail
        refine (radded_any A2 A3 n2 n3 c2 c3 _ _ _ (HA3.out.next HB3.out rfl) HBB3.out (by omega) (by omega)).mono ?_
        rintro e w4 ⟨v4, rfl, hv4, hb4⟩
        have HV4 := Lib.hid hv4
        have HB4 := Lib.hid hb4
        clear hv4 hb4
        go_wp2_with fail
        go_roundw
        case rel =>
          have l1 := HBL.out.alloc HBL.out.size (Obj.cells #[Value.int IntKind.u32 10] 115)
          have l2 := link_below l1 HB2.out l1.size rfl rfl rfl rfl
          have l3 := link_below l2 HB3.out l2.size rfl rfl rfl rfl
          have l4 := link_below l3 HB4.out l3.size rfl rfl rfl rfl
          refine ⟨i + 1, by omega, by simp, ?_, (((HBX.out.alloc _).next HB2.out rfl).next HB3.out rfl).next HB4.out rfl, l4⟩
          rw [dv_take (by omega)]
          exact HV4.out
        case measure => simp [intOf]; omega
      · obtain rfl : i = s.size := by omega
        have hkk : decide (((s.size : Nat) : Int) < ((s.size : Nat) : Int)) = false := by simp
        rw [← hlen, List.take_length] at HW
        have hn : n ≤ 4000 := by
          rw [← HW.out.len]
          exact mag_length_le (lt_pw (dv_lt _ _ rfl HB.out.1) (by omega))
        go_wp2_with fail
        refine (made_any false A n c _ _ HW.out (by omega) c1 c2).mono ?_
        rintro e w3 ⟨v3, rfl, hv3, hb3⟩
        obtain ⟨A4, n4, c4, rfl, k1, k2, k3⟩ := hv3.form
        have HV := Lib.hid hv3
        have HB3 := Lib.hid hb3
        clear k3 hv3 hb3
        have hl3 := link_below HBL.out HB3.out HBL.out.size rfl rfl rfl rfl
        have hbx := Lib.hid (HBX.out.next HB3.out rfl)
        have q0 := hbx.out.cell0
        have q1 := hbx.out.cell1
        have q2 := hbx.out.frozen 0
        have q3 := hbx.out.frozen 1
        generalize sgn false (val (mag (dv s.data.toList))) = z at *
        generalize hdz : decide (z < 0) = dz at *
        go_wp2
        refine bodyPost_ret (v := .tuple #[.agg #[.bool dz, .slice A4 n4 c4], .int .i64 0]) (by simp [results, Tryz.results119, go_sem, q0, q1]) rfl ⟨_, rfl, ?_, (hl3.setCell (Nat.le_refl _) _).setCell (Nat.le_refl _) _⟩
        rw [← hdz] at HV ⊢
        exact iv_keep HV.out hbx.out _
end Go.Proofs.YtfigimfdojbkeaaGreat
end

section
namespace Go.Proofs.YtfigimfdojbkeaaGreat
open Go.RowKit
attribute [local go_sem ↓] Go.wp_at_zero Go.wp_at_succ

theorem dig_snoc {D : ByteArray} {i : Nat} (hi : i < D.size) (h : ∀ b ∈ D.data.toList.take i, 48 ≤ b.toNat ∧ b.toNat ≤ 57) (hd : 48 ≤ D[i].toNat ∧ D[i].toNat ≤ 57) : ∀ b ∈ D.data.toList.take (i + 1), 48 ≤ b.toNat ∧ b.toNat ≤ 57 := by
  have hl : i < D.data.toList.length := by rw [Array.length_toList]; exact hi
  rw [List.take_succ_eq_append_getElem hl]
  intro b hb
  rcases List.mem_append.1 hb with hb | hb
  · exact h b hb
  · rw [List.mem_singleton] at hb
    have e : D.data.toList[i]? = some b := by rw [List.getElem?_eq_getElem hl, hb]
    rw [byte_at D i hi] at e
    rw [← Option.some.inj e]
    exact hd

set_option maxHeartbeats 4000000 in
theorem rparse_nil (s : ByteArray) (w : World) (hs : s.size = 0) : Calls Tryz.prog 119 #[.string s] w (RetE 0 3 w) := by
  have h1 : decide ((4000 : Int) < (s.size : Int)) = false := by simp; omega
  have h2 : ¬ (0 : Int) < (s.size : Int) := by omega
  have h3 : ((s.size : Int) == 0) = true := by rw [hs]; rfl
  clear hs
  go_enter Tryz.func119, Tryz.ntmps119
  go_wp2
  exact bodyPost_ret (v := .tuple #[zeroI, .int .i64 3]) (by simp [results, Tryz.results119, go_sem, zeroI]) rfl ⟨_, rfl, Iv.zero _, (Below.refl _ _).alloc (Nat.le_refl _) _⟩

set_option maxHeartbeats 4000000 in
theorem rparse_minus (s : ByteArray) (w : World) (h0 : 0 < s.size) (hs : s.size ≤ 1) (hm : s[0].toNat = 45) : Calls Tryz.prog 119 #[.string s] w (RetE 0 3 w) := by
  have hsz : (s.extract 1 s.size).size = s.size - 1 := by have e : (s.extract 1 s.size).size = min s.size s.size - 1 := ByteArray.size_extract ..; omega
  have h1 : decide ((4000 : Int) < (s.size : Int)) = false := by simp; omega
  have h2 : (0 : Int) < (s.size : Int) := by omega
  have h3 : (((s[0].toNat : Nat) : Int) == 45) = true := by rw [hm]; rfl
  have h7 : (((s.size - 1 : Nat) : Int) == 0) = true := by rw [show s.size - 1 = 0 by omega]; rfl
  go_enter Tryz.func119, Tryz.ntmps119
  go_wp2
  exact bodyPost_ret (v := .tuple #[zeroI, .int .i64 3]) (by simp [results, Tryz.results119, go_sem, zeroI]) rfl ⟨_, rfl, Iv.zero _, (Below.refl _ _).alloc (Nat.le_refl _) _⟩

set_option maxHeartbeats 4000000 in
theorem rparseNeg_zero (s : ByteArray) (w : World) (hs : s.size ≤ 4000) (h0 : 1 < s.size) (hm : s[0].toNat = 45) (hp : 0 < (s.extract 1 s.size).size) (hz : (s.extract 1 s.size)[0].toNat = 48) : Calls Tryz.prog 119 #[.string s] w (RetE 0 3 w) := by
  have hsz : (s.extract 1 s.size).size = s.size - 1 := by have e : (s.extract 1 s.size).size = min s.size s.size - 1 := ByteArray.size_extract ..; omega
  have h1 : decide ((4000 : Int) < (s.size : Int)) = false := by simp; omega
  have h2 : (0 : Int) < (s.size : Int) := by omega
  have h3 : (((s[0].toNat : Nat) : Int) == 45) = true := by rw [hm]; rfl
  have h7 : (((s.size - 1 : Nat) : Int) == 0) = false := by simp; omega
  have h8 : (0 : Int) < ((s.size - 1 : Nat) : Int) := by omega
  have h9 : ((((s.extract 1 s.size)[0].toNat : Nat) : Int) == 48) = true := by rw [hz]; rfl
  have h10 : (s.toList != [48]) = true := by
    rw [bne_iff_ne]
    intro e
    rw [ByteArray.toList_eq] at e
    have e2 : s.data.toList.length = s.size := by rw [Array.length_toList]; rfl
    rw [e] at e2
    simp at e2
    omega
  have h11 : (s.toList == [48]) = false := by
    rw [bne_iff_ne] at h10
    rw [beq_eq_false_iff_ne]
    exact h10
  have h12 : 0 < s.size := by omega
  clear hz
  go_enter Tryz.func119, Tryz.ntmps119
  go_wp2
  exact bodyPost_ret (v := .tuple #[zeroI, .int .i64 3]) (by simp [results, Tryz.results119, go_sem, zeroI]) rfl ⟨_, rfl, Iv.zero _, (Below.refl _ _).alloc (Nat.le_refl _) _⟩

set_option maxHeartbeats 4000000 in
theorem rparsePos_zero (s : ByteArray) (w : World) (hs : s.size ≤ 4000) (h0 : 0 < s.size) (hz : s[0].toNat = 48) (h1z : s.toList ≠ [48]) : Calls Tryz.prog 119 #[.string s] w (RetE 0 3 w) := by
  have h1 : decide ((4000 : Int) < (s.size : Int)) = false := by simp; omega
  have h2 : (0 : Int) < (s.size : Int) := by omega
  have h3 : (((s[0].toNat : Nat) : Int) == 45) = false := by rw [hz]; rfl
  have h7 : ((s.size : Int) == 0) = false := by rw [beq_eq_false_iff_ne]; omega
  have h9 : (((s[0].toNat : Nat) : Int) == 48) = true := by rw [hz]; rfl
  have h10 : (s.toList != [48]) = true := bne_iff_ne.2 h1z
  have h11 : (s.toList == [48]) = false := beq_eq_false_iff_ne.2 h1z
  clear hz h1z
  go_enter Tryz.func119, Tryz.ntmps119
  go_wp2
  exact bodyPost_ret (v := .tuple #[zeroI, .int .i64 3]) (by simp [results, Tryz.results119, go_sem, zeroI]) rfl ⟨_, rfl, Iv.zero _, (Below.refl _ _).alloc (Nat.le_refl _) _⟩

set_option maxHeartbeats 4000000 in
theorem rparseNeg_bad (s : ByteArray) (w : World) (hs : s.size ≤ 4000) (h0 : 1 < s.size) (hm : s[0].toNat = 45) (hp : 0 < (s.extract 1 s.size).size) (hz : (s.extract 1 s.size)[0].toNat ≠ 48) (hn : ¬ ∀ b ∈ (s.extract 1 s.size).data.toList, 48 ≤ b.toNat ∧ b.toNat ≤ 57) : Calls Tryz.prog 119 #[.string s] w (RetE 0 3 w) := by
  have HN := Lib.hid hn
  have hsz : (s.extract 1 s.size).size = s.size - 1 := by have e : (s.extract 1 s.size).size = min s.size s.size - 1 := ByteArray.size_extract ..; omega
  have hlen : (s.extract 1 s.size).data.toList.length = s.size - 1 := by rw [Array.length_toList]; exact hsz
  have h1 : decide ((4000 : Int) < (s.size : Int)) = false := by simp; omega
  have h2 : (0 : Int) < (s.size : Int) := by omega
  have h3 : (((s[0].toNat : Nat) : Int) == 45) = true := by rw [hm]; rfl
  have h7 : (((s.size - 1 : Nat) : Int) == 0) = false := by simp; omega
  have h8 : (0 : Int) < ((s.size - 1 : Nat) : Int) := by omega
  have h9 : ((((s.extract 1 s.size)[0].toNat : Nat) : Int) == 48) = false := by rw [beq_eq_false_iff_ne]; omega
  have h12 : 0 < s.size := by omega
  clear hz hn
  go_enter Tryz.func119, Tryz.ntmps119
  go_wp2_with fail
  go_loopw [6, 7, 8] (fun l t _ wr => ∃ i : Nat, i ≤ s.size - 1 ∧ t = .int .i64 i ∧ Mg wr l (dv ((s.extract 1 s.size).data.toList.take i)) ∧ (∀ b ∈ (s.extract 1 s.size).data.toList.take i, 48 ≤ b.toNat ∧ b.toNat ≤ 57) ∧ Box wr w.heap.size false (.slice none 0 0) ∧ Below w.heap.size w wr)
      (fun _ t _ _ => s.size - 1 - (intOf t).toNat)
  case atStart => exact ⟨0, Nat.zero_le _, rfl, Mg.zero _ 0 _ (by omega), fun b hb => by simp at hb, (Box.new w false (.slice none 0 0)).alloc _, ((Below.refl _ _).alloc (Nat.le_refl _) _).alloc (by simp) _⟩
  case round =>
    obtain ⟨i, hi, rfl, hl, hdig, hbx, hbl⟩ := hrel
    obtain ⟨A, n, c, rfl, c1, c2, hw⟩ := hl
    have HW := Lib.hid hw
    have HBX := Lib.hid hbx
    have HBL := Lib.hid hbl
    have HD := Lib.hid hdig
    clear hw hbx hbl hdig
    by_cases hlt : i < s.size - 1
    · have h1' : (i : Int) < ((s.size - 1 : Nat) : Int) := by omega
      by_cases hd : 48 ≤ (s.extract 1 s.size)[i].toNat ∧ (s.extract 1 s.size)[i].toNat ≤ 57
      · have hd1 : (48 : Int) ≤ (((s.extract 1 s.size)[i].toNat : Nat) : Int) := by omega
        have hd2 : (((s.extract 1 s.size)[i].toNat : Nat) : Int) ≤ 57 := by omega
        have hn : n ≤ 4000 := by
          rw [← HW.out.len]
          exact mag_length_le (lt_pw (dv_lt i _ (by rw [List.length_take, hlen]; omega) HD.out) (by omega))
        have e48 : (((s.extract 1 s.size)[i].toNat : Nat) : Int) - 48 = (((s.extract 1 s.size)[i].toNat - 48 : Nat) : Int) := by omega
        have hdn : Hid (∀ b ∈ (s.extract 1 s.size).data.toList.take (i + 1), 48 ≤ b.toNat ∧ b.toNat ≤ 57) := dig_snoc (by omega) HD.out hd
        clear hd
        go_wp2_with fail
        refine (rtimes_any A (some ⟨wr.heap.size, 0, none⟩) n 1 c 1 (dv ((s.extract 1 s.size).data.toList.take i)) 10 _ (HW.out.alloc _) (by have := (Blk.one (w := wr) (a := 10) (i := 10) (by omega) rfl).whole; rw [mag_one (by omega) (by omega)]; exact this) (by omega) (by omega)).mono ?_
        rintro e w2 ⟨v2, rfl, ⟨A2, n2, c2, rfl, a1, a2, a3⟩, hb2⟩
        have HA3 := Lib.hid a3
        have HB2 := Lib.hid hb2
        clear a3 hb2
        go_wp2_with fail
        refine (rwords_any ((s.extract 1 s.size)[i].toNat - 48) _ (by omega)).mono ?_
        rintro e w3 ⟨v3, rfl, ⟨A3, n3, c3, rfl, b1, b2, b3⟩, hb3⟩
        have HBB3 := Lib.hid b3
        have HB3 := Lib.hid hb3
        clear b3 hb3
        have hdl : dv ((s.extract 1 s.size).data.toList.take i) < 10 ^ i := dv_lt i _ (by rw [List.length_take, hlen]; omega) HD.out
        have hn2 : n2 ≤ 4000 := by
          rw [← HA3.out.len]
          exact mag_length_le (lt_pw (k := i + 1) (by rw [Nat.pow_succ]; generalize 10 ^ i = N at hdl ⊢; omega) (by omega))
        have hn3 : n3 ≤ 4000 := by
          rw [← HBB3.out.len]
          exact mag_length_le (lt_pw (k := 1) (by omega) (by omega))
        clear hdl
        go_wp2_with fail
        refine (radded_any A2 A3 n2 n3 c2 c3 _ _ _ (HA3.out.next HB3.out rfl) HBB3.out (by omega) (by omega)).mono ?_
        rintro e w4 ⟨v4, rfl, hv4, hb4⟩
        have HV4 := Lib.hid hv4
        have HB4 := Lib.hid hb4
        clear hv4 hb4
        go_wp2_with fail
        go_roundw
        case rel =>
          have l1 := HBL.out.alloc HBL.out.size (Obj.cells #[Value.int IntKind.u32 10] 115)
          have l2 := link_below l1 HB2.out l1.size rfl rfl rfl rfl
          have l3 := link_below l2 HB3.out l2.size rfl rfl rfl rfl
          have l4 := link_below l3 HB4.out l3.size rfl rfl rfl rfl
          refine ⟨i + 1, by omega, by simp, ?_, hdn.out, (((HBX.out.alloc _).next HB2.out rfl).next HB3.out rfl).next HB4.out rfl, l4⟩
          rw [dv_take (by omega)]
          exact HV4.out
        case measure => simp [intOf]; omega
      · have q0 := HBX.out.cell0
        have q1 := HBX.out.cell1
        have q2 := HBX.out.frozen 0
        have q3 := HBX.out.frozen 1
        have hbl := HBL.out
        by_cases hd3 : (s.extract 1 s.size)[i].toNat < 48
        · have hd4 : (((s.extract 1 s.size)[i].toNat : Nat) : Int) < 48 := by omega
          clear hd hd3
          go_wp2
          exact bodyPost_ret (v := .tuple #[zeroI, .int .i64 3]) (by simp [results, Tryz.results119, go_sem, q0, q1, zeroI]) rfl ⟨_, rfl, Iv.zero _, (hbl.setCell (Nat.le_refl _) _).setCell (Nat.le_refl _) _⟩
        · have hd4 : (48 : Int) ≤ (((s.extract 1 s.size)[i].toNat : Nat) : Int) := by omega
          have hd5 : (57 : Int) < (((s.extract 1 s.size)[i].toNat : Nat) : Int) := by omega
          clear hd hd3
          go_wp2
          exact bodyPost_ret (v := .tuple #[zeroI, .int .i64 3]) (by simp [results, Tryz.results119, go_sem, q0, q1, zeroI]) rfl ⟨_, rfl, Iv.zero _, (hbl.setCell (Nat.le_refl _) _).setCell (Nat.le_refl _) _⟩
    · exfalso
      obtain rfl : i = s.size - 1 := by omega
      have h := HD.out
      rw [← hlen, List.take_length] at h
      exact HN.out h

set_option maxHeartbeats 4000000 in
theorem rparsePos_bad (s : ByteArray) (w : World) (hs : s.size ≤ 4000) (h0 : 0 < s.size) (hm : s[0].toNat ≠ 45) (hz : s[0].toNat ≠ 48) (hn : ¬ ∀ b ∈ s.data.toList, 48 ≤ b.toNat ∧ b.toNat ≤ 57) : Calls Tryz.prog 119 #[.string s] w (RetE 0 3 w) := by
  have HN := Lib.hid hn
  have hlen : s.data.toList.length = s.size := by rw [Array.length_toList]; rfl
  have h7 : ((s.size : Int) == 0) = false := by rw [beq_eq_false_iff_ne]; omega
  have h1 : decide ((4000 : Int) < (s.size : Int)) = false := by simp; omega
  have h2 : (0 : Int) < (s.size : Int) := by omega
  have h3 : (((s[0].toNat : Nat) : Int) == 45) = false := by rw [beq_eq_false_iff_ne]; omega
  have h9 : (((s[0].toNat : Nat) : Int) == 48) = false := by rw [beq_eq_false_iff_ne]; omega
  clear hz hn
  go_enter Tryz.func119, Tryz.ntmps119
  go_wp2_with fail
  go_loopw [6, 7, 8] (fun l t _ wr => ∃ i : Nat, i ≤ s.size ∧ t = .int .i64 i ∧ Mg wr l (dv (s.data.toList.take i)) ∧ (∀ b ∈ s.data.toList.take i, 48 ≤ b.toNat ∧ b.toNat ≤ 57) ∧ Box wr w.heap.size false (.slice none 0 0) ∧ Below w.heap.size w wr)
      (fun _ t _ _ => s.size - (intOf t).toNat)
  case atStart => exact ⟨0, Nat.zero_le _, rfl, Mg.zero _ 0 _ (by omega), fun b hb => by simp at hb, (Box.new w false (.slice none 0 0)).alloc _, ((Below.refl _ _).alloc (Nat.le_refl _) _).alloc (by simp) _⟩
  case round =>
    obtain ⟨i, hi, rfl, hl, hdig, hbx, hbl⟩ := hrel
    obtain ⟨A, n, c, rfl, c1, c2, hw⟩ := hl
    have HW := Lib.hid hw
    have HBX := Lib.hid hbx
    have HBL := Lib.hid hbl
    have HD := Lib.hid hdig
    clear hw hbx hbl hdig
    by_cases hlt : i < s.size
    · have h1' : (i : Int) < ((s.size : Nat) : Int) := by omega
      by_cases hd : 48 ≤ s[i].toNat ∧ s[i].toNat ≤ 57
      · have hd1 : (48 : Int) ≤ ((s[i].toNat : Nat) : Int) := by omega
        have hd2 : ((s[i].toNat : Nat) : Int) ≤ 57 := by omega
        have hn : n ≤ 4000 := by
          rw [← HW.out.len]
          exact mag_length_le (lt_pw (dv_lt i _ (by rw [List.length_take, hlen]; omega) HD.out) (by omega))
        have e48 : ((s[i].toNat : Nat) : Int) - 48 = ((s[i].toNat - 48 : Nat) : Int) := by omega
        have hdn : Hid (∀ b ∈ s.data.toList.take (i + 1), 48 ≤ b.toNat ∧ b.toNat ≤ 57) := dig_snoc (by omega) HD.out hd
        clear hd
        go_wp2_with fail
        refine (rtimes_any A (some ⟨wr.heap.size, 0, none⟩) n 1 c 1 (dv (s.data.toList.take i)) 10 _ (HW.out.alloc _) (by have := (Blk.one (w := wr) (a := 10) (i := 10) (by omega) rfl).whole; rw [mag_one (by omega) (by omega)]; exact this) (by omega) (by omega)).mono ?_
        rintro e w2 ⟨v2, rfl, ⟨A2, n2, c2, rfl, a1, a2, a3⟩, hb2⟩
        have HA3 := Lib.hid a3
        have HB2 := Lib.hid hb2
        clear a3 hb2
        go_wp2_with fail
        refine (rwords_any (s[i].toNat - 48) _ (by omega)).mono ?_
        rintro e w3 ⟨v3, rfl, ⟨A3, n3, c3, rfl, b1, b2, b3⟩, hb3⟩
        have HBB3 := Lib.hid b3
        have HB3 := Lib.hid hb3
        clear b3 hb3
        have hdl : dv (s.data.toList.take i) < 10 ^ i := dv_lt i _ (by rw [List.length_take, hlen]; omega) HD.out
        have hn2 : n2 ≤ 4000 := by
          rw [← HA3.out.len]
          exact mag_length_le (lt_pw (k := i + 1) (by rw [Nat.pow_succ]; generalize 10 ^ i = N at hdl ⊢; omega) (by omega))
        have hn3 : n3 ≤ 4000 := by
          rw [← HBB3.out.len]
          exact mag_length_le (lt_pw (k := 1) (by omega) (by omega))
        clear hdl
        go_wp2_with fail
        refine (radded_any A2 A3 n2 n3 c2 c3 _ _ _ (HA3.out.next HB3.out rfl) HBB3.out (by omega) (by omega)).mono ?_
        rintro e w4 ⟨v4, rfl, hv4, hb4⟩
        have HV4 := Lib.hid hv4
        have HB4 := Lib.hid hb4
        clear hv4 hb4
        go_wp2_with fail
        go_roundw
        case rel =>
          have l1 := HBL.out.alloc HBL.out.size (Obj.cells #[Value.int IntKind.u32 10] 115)
          have l2 := link_below l1 HB2.out l1.size rfl rfl rfl rfl
          have l3 := link_below l2 HB3.out l2.size rfl rfl rfl rfl
          have l4 := link_below l3 HB4.out l3.size rfl rfl rfl rfl
          refine ⟨i + 1, by omega, by simp, ?_, hdn.out, (((HBX.out.alloc _).next HB2.out rfl).next HB3.out rfl).next HB4.out rfl, l4⟩
          rw [dv_take (by omega)]
          exact HV4.out
        case measure => simp [intOf]; omega
      · have q0 := HBX.out.cell0
        have q1 := HBX.out.cell1
        have q2 := HBX.out.frozen 0
        have q3 := HBX.out.frozen 1
        have hbl := HBL.out
        by_cases hd3 : s[i].toNat < 48
        · have hd4 : ((s[i].toNat : Nat) : Int) < 48 := by omega
          clear hd hd3
          go_wp2
          exact bodyPost_ret (v := .tuple #[zeroI, .int .i64 3]) (by simp [results, Tryz.results119, go_sem, q0, q1, zeroI]) rfl ⟨_, rfl, Iv.zero _, (hbl.setCell (Nat.le_refl _) _).setCell (Nat.le_refl _) _⟩
        · have hd4 : (48 : Int) ≤ ((s[i].toNat : Nat) : Int) := by omega
          have hd5 : (57 : Int) < ((s[i].toNat : Nat) : Int) := by omega
          clear hd hd3
          go_wp2
          exact bodyPost_ret (v := .tuple #[zeroI, .int .i64 3]) (by simp [results, Tryz.results119, go_sem, q0, q1, zeroI]) rfl ⟨_, rfl, Iv.zero _, (hbl.setCell (Nat.le_refl _) _).setCell (Nat.le_refl _) _⟩
    · exfalso
      obtain rfl : i = s.size := by omega
      have h := HD.out
      rw [← hlen, List.take_length] at h
      exact HN.out h

/-- The reference's Parse, for every text that is not too long. -/
theorem rparse_no (s : ByteArray) (w : World) (hs : s.size ≤ 4000) (h : ¬ pok s.data.toList) : Calls Tryz.prog 119 #[.string s] w (RetE 0 3 w) := by
  rcases Nat.eq_zero_or_pos s.size with h0 | h0
  · exact rparse_nil s w h0
  · by_cases hm : s[0].toNat = 45
    · by_cases h1 : 1 < s.size
      · have hsz : (s.extract 1 s.size).size = s.size - 1 := by have e : (s.extract 1 s.size).size = min s.size s.size - 1 := ByteArray.size_extract ..; omega
        have hp : 0 < (s.extract 1 s.size).size := by omega
        by_cases hz : (s.extract 1 s.size)[0].toNat = 48
        · exact rparseNeg_zero s w hs h1 hm hp hz
        · refine rparseNeg_bad s w hs h1 hm hp hz (fun hd => h ?_)
          have e1 := (byte_zero h0).2 hm
          have e2 : pdig s.data.toList = (s.extract 1 s.size).data.toList := by rw [ext_one]; unfold pdig; rw [if_pos e1]
          have e3 := byte_at (s.extract 1 s.size) 0 hp
          have hne : (s.extract 1 s.size).data.toList[0]? ≠ some 48 := by
            rw [e3]
            intro e
            apply hz
            rw [Option.some.inj e]; rfl
          refine ⟨by rw [e2]; exact ⟨hd, fun e => by rw [e] at e3; simp at e3, .inr hne⟩, fun e => hne ?_⟩
          rw [ext_one, e]; rfl
      · exact rparse_minus s w h0 (by omega) hm
    · have e1 : ¬ s.data.toList[0]? = some 45 := fun e => hm ((byte_zero h0).1 e)
      have e2 : pdig s.data.toList = s.data.toList := by unfold pdig; rw [if_neg e1]
      have e3 := byte_at s 0 h0
      have hmz : s.data.toList ≠ [45, 48] := fun e => e1 (by rw [e]; rfl)
      by_cases hz : s[0].toNat = 48
      · refine rparsePos_zero s w hs h0 hz (fun e => h ?_)
        rw [ByteArray.toList_eq] at e
        exact ⟨by rw [e2, e]; exact ⟨fun b hb => by simp at hb; subst hb; decide, by simp, .inl rfl⟩, hmz⟩
      · refine rparsePos_bad s w hs h0 hm hz (fun hd => h ?_)
        have hne : s.data.toList[0]? ≠ some 48 := by
          rw [e3]
          intro e
          apply hz
          rw [Option.some.inj e]; rfl
        exact ⟨by rw [e2]; exact ⟨hd, fun e => by rw [e] at e3; simp at e3, .inr hne⟩, hmz⟩
theorem rparse_ok (s : ByteArray) (w : World) (hs : s.size ≤ 4000) (h : pok s.data.toList) : Calls Tryz.prog 119 #[.string s] w (RetE (pval s.data.toList) 0 w) := by
  have hz : s.toList ≠ [45, 48] := by rw [ByteArray.toList_eq]; exact h.2
  rcases Nat.eq_zero_or_pos s.size with h0 | h0
  · exfalso
    have : s.data.toList = [] := List.eq_nil_of_length_eq_zero (by rw [Array.length_toList]; exact h0)
    have h1 := h.1.2.1
    rw [this] at h1
    exact h1 rfl
  · by_cases hm : s[0].toNat = 45
    · have e1 := (byte_zero h0).2 hm
      have e2 : pdig s.data.toList = (s.extract 1 s.size).data.toList := by rw [ext_one]; unfold pdig; rw [if_pos e1]
      have h1 := h.1
      unfold pval
      rw [e2] at h1 ⊢
      rw [decide_eq_true e1]
      exact rparseNeg_ok s w hs h0 hm h1 hz
    · have e1 : ¬ s.data.toList[0]? = some 45 := fun e => hm ((byte_zero h0).1 e)
      have e2 : pdig s.data.toList = s.data.toList := by unfold pdig; rw [if_neg e1]
      have h1 := h.1
      unfold pval
      rw [e2] at h1 ⊢
      rw [decide_eq_false e1]
      exact rparsePos_ok s w hs h0 hm h1 hz
end Go.Proofs.YtfigimfdojbkeaaGreat
end

