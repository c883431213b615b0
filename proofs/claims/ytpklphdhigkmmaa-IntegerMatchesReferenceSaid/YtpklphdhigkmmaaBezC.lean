/-
  Contract of Bezout for a second number other than 0.
-/
import Derived.Test.YtpklphdhigkmmaaBezT
namespace Go.Proofs.Ytpklphdhigkmmaa
open Go.RowKit
attribute [local go_sem ↓] Go.wp_at_zero Go.wp_at_succ

set_option maxHeartbeats 8000000 in
set_option maxRecDepth 100000 in
theorem bezout_any (va vb : Value) (a b : Int) (w : World) (ha : Iv w va a) (hb : Iv w vb b) (sa : Sz a 200000) (sb : Sz b 200000) (hb0 : b ≠ 0) :
    Calls Try.prog 17 #[va, vb] w fun e w' => ∃ u v, BezDone a b u v ∧ RetBez (Int.gcd a b : Int) u v w e w' := by
  obtain ⟨A, n, c, rfl, h1, h2, h3⟩ := ha.form
  obtain ⟨B, m, d, rfl, k1, k2, k3⟩ := hb.form
  have HA := Lib.hid ha
  have HB := Lib.hid hb
  have W3 := Lib.hid h3
  have V3 := Lib.hid k3
  have SA := Lib.hid sa
  have SB := Lib.hid sb
  have HB0 := Lib.hid hb0
  have hn : n ≤ 200000 := by rw [← h3.len]; exact sa.len
  have hm : m ≤ 200000 := by rw [← k3.len]; exact sb.len
  have hm0 : m ≠ 0 := fun e => hb0 (k3.pos_iff.1 e)
  have ht : ((m : Int) == 0) = false := by simp; omega
  generalize hnae : decide (a < 0) = na at *
  generalize hnbe : decide (b < 0) = nb at *
  clear h3 k3 sa sb ha hb hb0 hnae hnbe
  go_enter Try.func17, Try.ntmps17
  go_wp2_with fail
  obtain ⟨W, hW⟩ : ∃ W, W = ((((w.alloc (Obj.cells #[Value.bool na, Value.slice A n c] 27)).alloc (Obj.cells #[Value.bool nb, Value.slice B m d] 27)).alloc (Obj.cells #[Value.bool false, Value.slice none 0 0] 27)).alloc (Obj.cells #[Value.bool false, Value.slice none 0 0] 27)).alloc (Obj.cells #[Value.bool false, Value.slice none 0 0] 27) := ⟨_, rfl⟩
  rw [← hW]
  obtain ⟨i0, i1, b2, b3, b4, b0, b1, v0, v1, hbW, hWs⟩ := five_boxes HA.out HB.out hW
  have I0 := Lib.hid i0
  have I1 := Lib.hid i1
  have B0 := Lib.hid b0
  have B1 := Lib.hid b1
  have B2 := Lib.hid b2
  have B3 := Lib.hid b3
  have B4 := Lib.hid b4
  have V0 := Lib.hid v0
  have V1 := Lib.hid v1
  have hwb : Hid (Wd W B m (mag b.natAbs)) := by rw [hW]; exact ((((V3.out.alloc _).alloc _).alloc _).alloc _).alloc _
  clear hW i0 i1 b0 b1 b2 b3 b4 v0 v1
  have hgW := hbW.size
  generalize hg0 : w.heap.size = g at *
  have HWS := Lib.hid hWs
  clear hWs
  refine (words_int nb B m d _ W hwb.out (by omega) k1).mono ?_
  rintro e w1 ⟨rfl, hbl1⟩
  have c0 := (B1.out.next hbl1 rfl).cell0
  have c1 := (B1.out.next hbl1 rfl).cell1
  go_wp2_with fail
  refine (words_int nb B m d _ _ (hwb.out.next hbl1 rfl) (by omega) k1).mono ?_
  rintro e w2 ⟨rfl, hbl2⟩
  go_wp2_with fail
  refine (clone_any B m d (mag b.natAbs) _ ((hwb.out.next hbl1 rfl).next hbl2 rfl) (by omega)).mono ?_
  rintro e w3 ⟨rfl, hbc, hbl3⟩
  have HBC := Lib.hid hbc
  clear hbc
  go_wp2_with fail
  refine (signed_mg false _ m m b.natAbs _ (by have := HBC.out.whole; rw [hwb.out.len] at this; exact this) (by omega) (Nat.le_refl _) (by omega)).mono ?_
  rintro e w4 ⟨v4, rfl, hv4, hbl4⟩
  have hv4' : Iv w4 v4 (b.natAbs : Int) := by exact hv4
  obtain ⟨A4, n4, c4, rfl, x1, x2, x3⟩ := hv4'.form
  have HV4 := Lib.hid hv4'
  have hbl14 : Below W.heap.size W w4 := by
    have y1 := link_below hbl1 hbl2 hbl1.size rfl rfl rfl rfl
    have y2 := link_below y1 hbl3 y1.size rfl rfl rfl rfl
    exact link_below y2 hbl4 y2.size rfl rfl rfl rfl
  have p0 := (B0.out.next hbl14 rfl).cell0
  have p1 := (B0.out.next hbl14 rfl).cell1
  have hs4 := hbl14.size
  have gl0 : g < w4.heap.size := (B0.out.next hbl14 rfl).lt
  have gl1 : g < w4.heap.size + 1 := by omega
  have gl2 : g < w4.heap.size + 1 + 1 := by omega
  clear hv4 hv4' x3 c0 c1
  generalize hnm : decide ((b.natAbs : Int) < 0) = nm at *
  clear hnm
  go_wp2_with fail
  obtain ⟨W5, hW5⟩ : ∃ W5, W5 = ((w4.alloc (Obj.cells #[Value.bool nm, Value.slice A4 n4 c4] 27)).alloc (Obj.cells #[Value.bool nm, Value.slice A4 n4 c4] 27)).alloc (Obj.cells #[Value.bool false, Value.slice none 0 0] 27) := ⟨_, rfl⟩
  rw [← hW5]
  have hv0 : Iv w4 (.agg #[.bool na, .slice A n c]) a := iv_next V0.out hbl14 rfl
  have i7 : IB W5 w4.heap.size (b.natAbs : Int) := by rw [hW5]; exact ((IB.new HV4.out).alloc _).alloc _
  have i8 : IB W5 (w4.heap.size + 1) (b.natAbs : Int) := by rw [hW5]; have := (IB.new (HV4.out.alloc (Obj.cells #[Value.bool nm, Value.slice A4 n4 c4] 27))).alloc (Obj.cells #[Value.bool false, Value.slice none 0 0] 27); simpa using this
  have i9 : IB W5 (w4.heap.size + 1 + 1) 0 := by rw [hW5]; have := IB.new (Iv.zero ((w4.alloc (Obj.cells #[Value.bool nm, Value.slice A4 n4 c4] 27)).alloc (Obj.cells #[Value.bool nm, Value.slice A4 n4 c4] 27))); simpa using this
  have iv0 : Iv W5 (.agg #[.bool na, .slice A n c]) a := by rw [hW5]; exact ((hv0.alloc _).alloc _).alloc _
  have iv4 : Iv W5 (.agg #[.bool nm, .slice A4 n4 c4]) (b.natAbs : Int) := by rw [hW5]; exact ((HV4.out.alloc _).alloc _).alloc _
  have hbl45 : Below w4.heap.size w4 W5 := by rw [hW5]; exact (((Below.refl _ _).alloc (Nat.le_refl _) _).alloc (by simp) _).alloc (by simp; omega) _
  have hs5 : W5.heap.size = w4.heap.size + 3 := by rw [hW5]; simp
  have J7 := Lib.hid i7
  have J8 := Lib.hid i8
  have J9 := Lib.hid i9
  have IV0 := Lib.hid iv0
  have IV4 := Lib.hid iv4
  have hbl15 : Below W.heap.size W W5 := link_below hbl14 hbl45 hbl14.size rfl rfl rfl rfl
  have HW4 := Lib.hid hs4
  have HS5 := Lib.hid hs5
  have HMM : Hid (Sz (b.natAbs : Int) 200000) := ⟨by rw [Int.natAbs_natCast]; exact SB.out.lt⟩
  have hmne : (b.natAbs : Int) ≠ 0 := by have := HB0.out; omega
  have HMNE := Lib.hid hmne
  clear hW5 i7 i8 i9 iv0 iv4 hv0 hs5 hmne gl0 gl1 gl2 hs4 p0 p1
  generalize hG7 : w4.heap.size = G7 at *
  refine (divMod_any _ _ a (b.natAbs : Int) W5 IV0.out IV4.out (SA.out.mono (by omega)) (HMM.out.mono (by omega)) HMNE.out).mono ?_
  rintro e w6 ⟨v6, u6, rfl, hq6, hr6, hbl6⟩
  obtain ⟨A6, n6, c6, rfl, _, _, _⟩ := hq6.form
  obtain ⟨C6, l6, d6, rfl, _, _, _⟩ := hr6.form
  have HR6 := Lib.hid hr6
  have J7b := Lib.hid (J7.out.next hbl6 rfl)
  have J8b := Lib.hid (J8.out.next hbl6 rfl)
  have J9b := Lib.hid (J9.out.next hbl6 rfl)
  clear hq6 hr6
  go_wp2_with fail
  refine (of_any 1 _ (by omega) (by omega)).mono ?_
  rintro e w7 ⟨v7, rfl, hv7, hbl7⟩
  obtain ⟨A7, n7, c7, rfl, _, _, _⟩ := hv7.form
  have HV7 := Lib.hid hv7
  clear hv7
  go_wp2_with fail
  have hk0 : 0 ≤ a % (b.natAbs : Int) := Int.emod_nonneg _ HMNE.out
  have hmpos : 0 < (b.natAbs : Int) := by have := HMNE.out; omega
  have hlt7 : G7 + 1 + 1 < w6.heap.size := J9b.out.lt
  have hlt67 : w6.heap.size + 2 ≤ w7.heap.size := by have := hbl7.size; simp at this; omega
  have hgG7 : g + 5 ≤ G7 := by have h1 := HW4.out; have h2 := HWS.out; omega
  have hinv : Hid (BezInv a b w g G7 (w6.heap.size + 1) w7.heap.size (a % (b.natAbs : Int)).toNat (w7.alloc (Obj.cells #[Value.bool false, Value.slice A7 n7 c7] 27)) (b.natAbs : Int) 0 1) := by
    have hb6 : Below W.heap.size W w6 := hbl15.trans (hbl6.mono hbl15.size)
    have hb6a : Below W.heap.size W ((w6.alloc (Obj.cells #[Value.bool (decide (a / (b.natAbs : Int) < 0)), Value.slice A6 n6 c6] 27)).alloc (Obj.cells #[Value.bool (decide (a % (b.natAbs : Int) < 0)), Value.slice C6 l6 d6] 27)) := (hb6.alloc hb6.size _).alloc (by have := hb6.size; simp; omega) _
    have hb7 : Below W.heap.size W w7 := hb6a.trans (hbl7.mono hb6a.size)
    have hb8 : Below W.heap.size W (w7.alloc (Obj.cells #[Value.bool false, Value.slice A7 n7 c7] 27)) := hb7.alloc hb7.size _
    have hgW2 : g ≤ W.heap.size := hgW
    refine ⟨(((J8b.out.alloc _).alloc _).next hbl7 rfl).alloc _, (((J9b.out.alloc _).alloc _).next hbl7 rfl).alloc _, ?_, IB.new HV7.out, I0.out.next hb8 rfl, I1.out.next hb8 rfl, (((J7b.out.alloc _).alloc _).next hbl7 rfl).alloc _, B2.out.next hb8 rfl, B3.out.next hb8 rfl, B4.out.next hb8 rfl, hbW.trans (hb8.mono hgW2), ?_⟩
    · have h11 := IB.new (HR6.out.alloc (Obj.cells #[Value.bool (decide (a / (b.natAbs : Int) < 0)), Value.slice A6 n6 c6] 27))
      rw [show ((a % (b.natAbs : Int)).toNat : Int) = a % (b.natAbs : Int) by omega]
      have h12 := (h11.next hbl7 rfl).alloc (Obj.cells #[Value.bool false, Value.slice A7 n7 c7] 27)
      simpa using h12
    · rw [show ((a % (b.natAbs : Int)).toNat : Int) = a % (b.natAbs : Int) by omega]
      exact BezRel.start hmpos
  generalize hG11 : w6.heap.size = G11 at *
  generalize hG13 : w7.heap.size = G13 at *
  go_loopg [16] (a % (b.natAbs : Int)).toNat (fun k _ wr => ∃ r0 u0 u1 : Int, BezInv a b w g G7 (G11 + 1) G13 k wr r0 u0 u1)
  case atStart => exact ⟨_, _, _, hinv.out⟩
  case round =>
    obtain ⟨r0, u0, u1, hI⟩ := hrel
    have HI := Lib.hid hI
    obtain ⟨X8, p8, q8, b8, v8⟩ := hI.i8.iv
    obtain ⟨X11, p11, q11, b11, v11⟩ := hI.i11.iv
    have x8c0 := b8.cell0
    have x8c1 := b8.cell1
    have x11c0 := b11.cell0
    have x11c1 := b11.cell1
    have V8 := Lib.hid v8
    have V11 := Lib.hid v11
    have BX8 := Lib.hid b8
    have BX11 := Lib.hid b11
    have hp11 : Hid (p11 = 0 ↔ (gk : Int) = 0) := by
      obtain ⟨A', n', c', e1, _, _, e3⟩ := v11.form
      simp only [Value.agg.injEq] at e1
      have e2 := congrArg (fun t : Array Value => t[1]?) e1
      simp at e2
      unfold Hid
      rw [e2.2.1]
      exact e3.pos_iff
    clear b8 b11 v8 v11 hI
    generalize hs8 : decide (r0 < 0) = s8 at *
    generalize hs11 : decide ((gk : Int) < 0) = s11 at *
    clear hs8 hs11
    by_cases hgk : gk = 0
    · have hp0 : p11 = 0 := hp11.out.2 (by rw [hgk]; rfl)
      have hg00 : (gk : Int) = 0 := by rw [hgk]; rfl
      have hdone0 := HI.out.rel
      rw [hg00] at hdone0
      obtain ⟨hgcd, hstp, hbd⟩ := hdone0.done HB0.out
      have HGCD := Lib.hid hgcd
      have HSTP := Lib.hid hstp
      have HBD := Lib.hid hbd
      have hr0pos := HI.out.rel.pos
      have HR0P : Hid (r0 ≠ 0) := by unfold Hid; omega
      have hszr0 := Lib.hid (sz_of_le (z := r0) HMM.out (by have h1 := HI.out.rel.le; omega))
      have hszu0 := Lib.hid (sz_of_le (z := u0) HMM.out HI.out.rel.ub)
      obtain ⟨X7, p7, q7, b7, v7'⟩ := HI.out.i7.iv
      have y0 := b7.cell0
      have y1 := b7.cell1
      have V7 := Lib.hid v7'
      generalize hst : (b.natAbs : Int) / r0 = stp at *
      have hstb : Hid (stp.natAbs ≤ (b.natAbs : Int).natAbs) := by
        unfold Hid
        have h3 := Int.ediv_le_self r0 (show (0 : Int) ≤ (b.natAbs : Int) by omega)
        rw [hst] at h3
        omega
      have HST := Lib.hid hst
      subst hp0
      clear hdone0 hgcd hstp hbd hr0pos b7 v7' hst hg00 hgk
      generalize decide ((b.natAbs : Int) < 0) = s7 at *
      go_wp2_with fail
      refine (divMod_any _ _ (b.natAbs : Int) r0 wr V7.out V8.out (HMM.out.mono (by omega)) (hszr0.out.mono (by omega)) HR0P.out).mono ?_
      rintro e w8 ⟨vq, vr, rfl, hq8, hr8, hbl8⟩
      rw [HST.out] at hq8
      obtain ⟨Aq, nq, cq, rfl, _, _, _⟩ := hq8.form
      obtain ⟨Ar, nr, cr, rfl, _, _, _⟩ := hr8.form
      have HQ8 := Lib.hid hq8
      obtain ⟨X9, p9, q9, b9, v9'⟩ := (HI.out.i9.next hbl8 rfl).iv
      have hl9 := b9.lt
      have hl9b : G7 + 1 + 1 < w8.heap.size + 1 := by omega
      have k0 := b9.cell0
      have k1' := b9.cell1
      have V9 := Lib.hid v9'
      have hszs : Hid (Sz stp 200000) := sz_of_le (z := stp) HMM.out hstb.out
      clear hq8 hr8 b9 v9' y0 y1 x8c0 x8c1 x11c0 x11c1
      generalize decide (stp < 0) = sst at *
      generalize decide ((b.natAbs : Int) % r0 < 0) = sr8 at *
      generalize decide (u0 < 0) = su0 at *
      go_wp2_with fail
      refine (divMod_any _ _ u0 stp _ ((V9.out.alloc _).alloc _) ((HQ8.out.alloc _).alloc _) (hszu0.out.mono (by omega)) (hszs.out.mono (by omega)) (by have := HSTP.out; omega)).mono ?_
      rintro e w9 ⟨vq9, vr9, rfl, hq9, hr9, hbl9⟩
      obtain ⟨Aq9, nq9, cq9, rfl, _, _, _⟩ := hq9.form
      obtain ⟨Ar9, nr9, cr9, rfl, _, _, _⟩ := hr9.form
      have HR9 := Lib.hid hr9
      have HQ9 := Lib.hid hq9
      clear hq9 hr9
      generalize hsu : decide (u0 % stp < 0) = su at *
      generalize hsq9 : decide (u0 / stp < 0) = sq9 at *
      clear hsu hsq9
      go_wp2
      obtain ⟨W13, hW13⟩ : ∃ W13, W13 = (w9.alloc (Obj.cells #[Value.bool sq9, Value.slice Aq9 nq9 cq9] 27)).alloc (Obj.cells #[Value.bool su, Value.slice Ar9 nr9 cr9] 27) := ⟨_, rfl⟩
      rw [← hW13]
      have hN : ∀ {gx : Nat} {zx : Int}, IB wr gx zx → IB W13 gx zx := fun h => by
        rw [hW13]; exact ((((((h.next hbl8 rfl).alloc _).alloc _).next hbl9 rfl).alloc _).alloc _)
      have hNB : ∀ {gx : Nat} {bx : Bool} {sx : Value}, Box wr gx bx sx → Box W13 gx bx sx := fun h => by
        rw [hW13]; exact ((((((h.next hbl8 rfl).alloc _).alloc _).next hbl9 rfl).alloc _).alloc _)
      have i21 : IB W13 (w9.heap.size + 1) (u0 % stp) := by
        rw [hW13]; have := IB.new (HR9.out.alloc (Obj.cells #[Value.bool sq9, Value.slice Aq9 nq9 cq9] 27)); simpa using this
      have hgw : g ≤ w.heap.size := by rw [hg0]; exact Nat.le_refl _
      have hbl13 : Below g w W13 := by
        have e1 : Below g w w8 := link_below HI.out.bl hbl8 (Nat.le_trans hgw HI.out.bl.size) rfl rfl rfl rfl
        have e2 := (e1.alloc (Nat.le_trans hgw e1.size) (Obj.cells #[Value.bool sst, Value.slice Aq nq cq] 27)).alloc (by have := e1.size; simp; omega) (Obj.cells #[Value.bool sr8, Value.slice Ar nr cr] 27)
        have e3 : Below g w w9 := link_below e2 hbl9 (Nat.le_trans hgw e2.size) rfl rfl rfl rfl
        rw [hW13]
        exact (e3.alloc (Nat.le_trans hgw e3.size) _).alloc (by have := e3.size; simp; omega) _
      obtain ⟨E8, e8n, e8c, bx8, iv8⟩ := (hN HI.out.i8).iv
      obtain ⟨E0, e0n, e0c, bx0, iv0⟩ := (hN HI.out.i0).iv
      obtain ⟨E1, e1n, e1c, bx1, iv1⟩ := (hN HI.out.i1).iv
      obtain ⟨E21, e21n, e21c, bx21, iv21⟩ := i21.iv
      have R2 := Lib.hid (hNB HI.out.b2)
      have R3 := Lib.hid (hNB HI.out.b3)
      have R4 := Lib.hid (hNB HI.out.b4)
      have BX8' := Lib.hid bx8
      have BX0 := Lib.hid bx0
      have BX1 := Lib.hid bx1
      have BX21 := Lib.hid bx21
      have IV8 := Lib.hid iv8
      have IV0' := Lib.hid iv0
      have IV1 := Lib.hid iv1
      have IV21 := Lib.hid iv21
      have o0 := bx8.cell0
      have o1 := bx8.cell1
      have o2 := bx0.cell0
      have o3 := bx0.cell1
      have o4 := bx1.cell0
      have o5 := bx1.cell1
      have o6 := bx21.cell0
      have o7 := bx21.cell1
      have hszu : Hid (Sz (u0 % stp) 200000) := sz_of_le (z := u0 % stp) HMM.out (by
        have h1 := Int.emod_nonneg u0 (show stp ≠ 0 by have := HSTP.out; omega)
        have h2 := Int.emod_lt_of_pos u0 HSTP.out
        have h3 := hstb.out
        omega)
      have gl8 := bx8.lt
      have gl0 := bx0.lt
      have gl1 := bx1.lt
      have gl21 := bx21.lt
      have hs13 : W13.heap.size = w9.heap.size + 2 := by rw [hW13]; simp
      have gG21 : G7 + 1 < w9.heap.size + 1 := by have q1 := HI.out.i8.lt; have q2 := hbl8.size; have q3 := hbl9.size; simp at q3; omega
      generalize hG21 : w9.heap.size + 1 = G21 at *
      clear hW13 hN hNB i21 bx8 bx0 bx1 bx21 iv8 iv0 iv1 iv21 hs13 k0 k1' hl9 hl9b
      generalize decide (r0 < 0) = dr0 at *
      generalize decide (a < 0) = da0 at *
      generalize decide (b < 0) = db0 at *
      generalize decide (u0 % stp < 0) = du at *
      go_cut [23] (fun s23 wx => ∃ (GV : Nat) (Av : Option Addr) (nv cv : Nat), s23 = .pointer (some ⟨GV, 0, none⟩) ∧ wx.cell? ⟨GV, 0, none⟩ = some (.bool (decide ((r0 - u0 % stp * a) / b < 0))) ∧ wx.cell? ⟨GV, 1, none⟩ = some (.slice Av nv cv) ∧ Iv wx (.agg #[.bool (decide ((r0 - u0 % stp * a) / b < 0)), .slice Av nv cv]) ((r0 - u0 % stp * a) / b) ∧ W13.heap.size ≤ GV ∧ Below W13.heap.size W13 wx)
      case first =>
        have hW0 : Below W13.heap.size W13 W13 := Below.refl _ _
        go_region_held3 (fun w' => Below W13.heap.size W13 w' ∧ w'.cell? ⟨G7 + 1, 0, none⟩ = some (.bool dr0) ∧ w'.cell? ⟨G7 + 1, 1, none⟩ = some (.slice E8 e8n e8c) ∧ w'.cell? ⟨g, 0, none⟩ = some (.bool da0) ∧ w'.cell? ⟨g, 1, none⟩ = some (.slice E0 e0n e0c) ∧ w'.cell? ⟨g + 1, 0, none⟩ = some (.bool db0) ∧ w'.cell? ⟨g + 1, 1, none⟩ = some (.slice E1 e1n e1c) ∧ w'.cell? ⟨G21, 0, none⟩ = some (.bool du) ∧ w'.cell? ⟨G21, 1, none⟩ = some (.slice E21 e21n e21c)) ((refine (fun hb => ⟨hb, (BX8'.out.next hb rfl).cell0, (BX8'.out.next hb rfl).cell1, (BX0.out.next hb rfl).cell0, (BX0.out.next hb rfl).cell1, (BX1.out.next hb rfl).cell0, (BX1.out.next hb rfl).cell1, (BX21.out.next hb rfl).cell0, (BX21.out.next hb rfl).cell1⟩) ?_; go_grown))
          (first
            | (go_at_call 30; refine (mul_any _ _ (u0 % stp) a _ (by first | exact IV21.out | exact IV21.out.alloc _ | exact (IV21.out.alloc _).alloc _) (by first | exact IV0'.out | exact IV0'.out.alloc _ | exact (IV0'.out.alloc _).alloc _) (hszu.out.mono (by omega)) (SA.out.mono (by omega))).mono ?_; rintro e w10 ⟨vm, rfl, hvm, hbl10⟩
               obtain ⟨Am, nmm, cm, rfl, _, _, _⟩ := hvm.form
               have HVM := Lib.hid hvm
               have hA : Below W13.heap.size W13 w10 := by refine Below.trans ?_ (hbl10.mono ?_) <;> go_grown
               have hAs := hA.size
               have M8 := Lib.hid (BX8'.out.next hA rfl); have M0 := Lib.hid (BX0.out.next hA rfl); have M1 := Lib.hid (BX1.out.next hA rfl); have M21 := Lib.hid (BX21.out.next hA rfl)
               have a0 := M8.out.cell0; have a1 := M8.out.cell1; have a2 := M0.out.cell0; have a3 := M0.out.cell1; have a4 := M1.out.cell0; have a5 := M1.out.cell1; have a6 := M21.out.cell0; have a7 := M21.out.cell1
               have ga8 := M8.out.lt; have ga0 := M0.out.lt; have ga1 := M1.out.lt; have ga21 := M21.out.lt
               have IV8B := Lib.hid (iv_next IV8.out hA rfl); have IV1B := Lib.hid (iv_next IV1.out hA rfl)
               try (have qa : Box w10 W13.heap.size false (.slice none 0 0) := by first | exact (new_one hbl10 :) | exact (new_two hbl10 :) | exact (new_one_d hbl10 :) | exact (new_two_d hbl10 :))
               try (have qaa := qa.cell0)
               try (have qab := qa.cell1)
               try (have qac := qa.frozen 0)
               try (have qad := qa.frozen 1)
               try (have qae := qa.lt)
               try (have QA := Lib.hid qa; clear qa)
               try (have qb : Box w10 (W13.heap.size + 1) false (.slice none 0 0) := by first | exact (new_sec hbl10 :) | exact (new_sec_d hbl10 :))
               try (have qba := qb.cell0)
               try (have qbb := qb.cell1)
               try (have qbc := qb.frozen 0)
               try (have qbd := qb.frozen 1)
               try (have qbe := qb.lt)
               try (have QB := Lib.hid qb; clear qb)
               clear hvm)
            | (go_at_call 28; refine (sub_any _ _ r0 (u0 % stp * a) _ (by first | exact IV8B.out | exact IV8B.out.alloc _ | exact (IV8B.out.alloc _).alloc _) (by first | exact HVM.out | exact HVM.out.alloc _ | exact (HVM.out.alloc _).alloc _) (hszr0.out.mono (by omega)) ((hszu.out.mul SA.out).mono (by omega))).mono ?_; rintro e w11 ⟨vs, rfl, hvs, hbl11⟩
               obtain ⟨As, ns, cs, rfl, _, _, _⟩ := hvs.form
               have HVS := Lib.hid hvs
               have hB : Below W13.heap.size W13 w11 := by refine Below.trans ?_ (hbl11.mono ?_) <;> go_grown
               have hBs := hB.size
               have N8 := Lib.hid (BX8'.out.next hB rfl); have N0 := Lib.hid (BX0.out.next hB rfl); have N1 := Lib.hid (BX1.out.next hB rfl); have N21 := Lib.hid (BX21.out.next hB rfl)
               have bb0 := N8.out.cell0; have bb1 := N8.out.cell1; have bb2 := N0.out.cell0; have bb3 := N0.out.cell1; have bb4 := N1.out.cell0; have bb5 := N1.out.cell1; have bb6 := N21.out.cell0; have bb7 := N21.out.cell1
               have gb8 := N8.out.lt; have gb0 := N0.out.lt; have gb1 := N1.out.lt; have gb21 := N21.out.lt
               have IV1C := Lib.hid (iv_next IV1.out hB rfl)
               have hB0 : Below w10.heap.size w10 w11 := by refine Below.trans ?_ (hbl11.mono ?_) <;> go_grown
               try (have ra := QA.out.next hB0 rfl; have raa := ra.cell0; have rab := ra.cell1; have rac := ra.frozen 0; have rad := ra.frozen 1; have rae := ra.lt; have RA := Lib.hid ra; clear ra)
               try (have rb := QB.out.next hB0 rfl; have rba := rb.cell0; have rbb := rb.cell1; have rbc := rb.frozen 0; have rbd := rb.frozen 1; have rbe := rb.lt; have RB := Lib.hid rb; clear rb)
               try (have rc : Box w11 w10.heap.size false (.slice none 0 0) := by first | exact (new_one hbl11 :) | exact (new_two hbl11 :))
               try (have rca := rc.cell0)
               try (have rcb := rc.cell1)
               try (have rcc := rc.frozen 0)
               try (have rcd := rc.frozen 1)
               try (have rce := rc.lt)
               try (have RC := Lib.hid rc; clear rc)
               try (have rd : Box w11 (w10.heap.size + 1) false (.slice none 0 0) := by exact (new_sec hbl11 :))
               try (have rda := rd.cell0)
               try (have rdb := rd.cell1)
               try (have rdc := rd.frozen 0)
               try (have rdd := rd.frozen 1)
               try (have rde := rd.lt)
               try (have RD := Lib.hid rd; clear rd)
               clear hvs)
            | (go_at_call 15; refine (divMod_any _ _ (r0 - u0 % stp * a) b _ (by first | exact HVS.out | exact HVS.out.alloc _ | exact (HVS.out.alloc _).alloc _) (by first | exact IV1C.out | exact IV1C.out.alloc _ | exact (IV1C.out.alloc _).alloc _) (((hszr0.out.mono (show 200000 ≤ 400000 by omega)).sub ((hszu.out.mul SA.out).mono (show 200000 + 200000 ≤ 400000 by omega))).mono (by omega)) (SB.out.mono (by omega)) HB0.out).mono ?_; rintro e w12 ⟨vv, vvr, rfl, hvv, hvvr, hbl12⟩
               obtain ⟨Av, nv, cv, rfl, _, _, _⟩ := hvv.form
               obtain ⟨Avr, nvr, cvr, rfl, _, _, _⟩ := hvvr.form
               have HVV := Lib.hid hvv
               have hC : Below W13.heap.size W13 w12 := by refine Below.trans ?_ (hbl12.mono ?_) <;> go_grown
               have hCs := hC.size
               have P8 := Lib.hid (BX8'.out.next hC rfl); have P0 := Lib.hid (BX0.out.next hC rfl); have P1 := Lib.hid (BX1.out.next hC rfl); have P21 := Lib.hid (BX21.out.next hC rfl)
               have cc0 := P8.out.cell0; have cc1 := P8.out.cell1; have cc2 := P0.out.cell0; have cc3 := P0.out.cell1; have cc4 := P1.out.cell0; have cc5 := P1.out.cell1; have cc6 := P21.out.cell0; have cc7 := P21.out.cell1
               have gc8 := P8.out.lt; have gc0 := P0.out.lt; have gc1 := P1.out.lt; have gc21 := P21.out.lt
               have hC0 : Below w11.heap.size w11 w12 := by refine Below.trans ?_ (hbl12.mono ?_) <;> go_grown
               try (have sa := RA.out.next hC0 rfl; have saa := sa.cell0; have sab := sa.cell1; have sac := sa.frozen 0; have sad := sa.frozen 1; have sae := sa.lt; have SA' := Lib.hid sa; clear sa)
               try (have sb := RB.out.next hC0 rfl; have sba := sb.cell0; have sbb := sb.cell1; have sbc := sb.frozen 0; have sbd := sb.frozen 1; have sbe := sb.lt; have SB' := Lib.hid sb; clear sb)
               try (have sc := RC.out.next hC0 rfl; have sca := sc.cell0; have scb := sc.cell1; have scc := sc.frozen 0; have scd := sc.frozen 1; have sce := sc.lt; have SC' := Lib.hid sc; clear sc)
               try (have sd := RD.out.next hC0 rfl; have sda := sd.cell0; have sdb := sd.cell1; have sdc := sd.frozen 0; have sdd := sd.frozen 1; have sde := sd.lt; have SD' := Lib.hid sd; clear sd)
               try (have se : Box w12 w11.heap.size false (.slice none 0 0) := by first | exact (new_one hbl12 :) | exact (new_two hbl12 :))
               try (have sea := se.cell0)
               try (have seb := se.cell1)
               try (have sec := se.frozen 0)
               try (have sed := se.frozen 1)
               try (have see := se.lt)
               try (have SE' := Lib.hid se; clear se)
               try (have sf : Box w12 (w11.heap.size + 1) false (.slice none 0 0) := by exact (new_sec hbl12 :))
               try (have sfa := sf.cell0)
               try (have sfb := sf.cell1)
               try (have sfc := sf.frozen 0)
               try (have sfd := sf.frozen 1)
               try (have sfe := sf.lt)
               try (have SF' := Lib.hid sf; clear sf)
               clear hvv hvvr))
        all_goals
          go_wp2_with fail
          go_meet
          have l1 : W13.heap.size ≤ w10.heap.size := hAs
          have l2 : W13.heap.size ≤ w11.heap.size := hBs
          have l3 : W13.heap.size ≤ w12.heap.size := hCs
          have l4 : w10.heap.size ≤ w11.heap.size := hB0.size
          have l5 : w11.heap.size ≤ w12.heap.size := hC0.size
          refine ⟨_, _, _, _, rfl, ?c0, ?c1, HVV.out.kw ?kw, ?ge, ?bl⟩
          case ge => omega
          case bl => go_grown
          case kw =>
            repeat' (first
              | (with_reducible exact Kw.refl _)
              | (with_reducible refine Kw.alloc ?_ _)
              | refine Kw.old ?_ SA'.out (by omega) _ | refine Kw.old ?_ SB'.out (by omega) _ | refine Kw.old ?_ SC'.out (by omega) _ | refine Kw.old ?_ SD'.out (by omega) _ | refine Kw.old ?_ SE'.out (by omega) _ | refine Kw.old ?_ SF'.out (by omega) _
              | refine Kw.far ?_ (by simp) _)
          case c0 => first | go_cell | (simp (disch := omega) [*, World.cell?_setCell_far]; done)
          case c1 => first | go_cell | (simp (disch := omega) [*, World.cell?_setCell_far]; done)
      case rest =>
        obtain ⟨GV, Av, nv, cv, rfl, hv0, hv1, hvi, hvg, hvb⟩ := hcut
        have z8 := BX8'.out.next hvb rfl
        have z21 := BX21.out.next hvb rfl
        have z2 := R2.out.next hvb rfl
        have z3 := R3.out.next hvb rfl
        have z4 := R4.out.next hvb rfl
        have j8 := iv_next IV8.out hvb rfl
        have j21 := iv_next IV21.out hvb rfl
        have zc0 := z8.cell0; have zc1 := z8.cell1; have zc2 := z21.cell0; have zc3 := z21.cell1
        have ze0 := z2.cell0; have ze1 := z2.cell1; have ze2 := z3.cell0; have ze3 := z3.cell1; have ze4 := z4.cell0; have ze5 := z4.cell1
        have zf0 := z2.frozen 0; have zf1 := z2.frozen 1; have zf2 := z3.frozen 0; have zf3 := z3.frozen 1; have zf4 := z4.frozen 0; have zf5 := z4.frozen 1
        have Z2 := Lib.hid z2; have Z3 := Lib.hid z3; have Z4 := Lib.hid z4
        have J8 := Lib.hid j8; have J21 := Lib.hid j21; have JV := Lib.hid hvi
        have HVB := Lib.hid hvb
        have zv : g + 4 < GV := by omega
        clear z8 z21 z2 z3 z4 j8 j21 hvi hvb hvg
        generalize hdv : decide ((r0 - u0 % stp * a) / b < 0) = dv at *
        clear hdv
        go_wp2_with fail
        go_region_held3 (fun w' => w'.cell? ⟨G7 + 1, 0, none⟩ = some (.bool dr0) ∧ w'.cell? ⟨G7 + 1, 1, none⟩ = some (.slice E8 e8n e8c) ∧ w'.cell? ⟨G21, 0, none⟩ = some (.bool du) ∧ w'.cell? ⟨G21, 1, none⟩ = some (.slice E21 e21n e21c) ∧ w'.cell? ⟨GV, 0, none⟩ = some (.bool dv) ∧ w'.cell? ⟨GV, 1, none⟩ = some (.slice Av nv cv)) ((refine ⟨?_, ?_, ?_, ?_, ?_, ?_⟩ <;> go_cell)) (fail)
        go_wp2
        have hbw : Below g w wc := hbl13.trans (HVB.out.mono (Nat.le_trans hgw hbl13.size))
        have hcs := bez_cells (s1 := dr0) (A1 := E8) (n1 := e8n) (c1 := e8c) (s2 := du) (A2 := E21) (n2 := e21n) (c2 := e21c) (s3 := dv) (A3 := Av) (n3 := nv) (c3 := cv) Z2.out Z3.out Z4.out
        refine bodyPost_ret (v := .tuple #[.agg #[.bool dr0, .slice E8 e8n e8c], .agg #[.bool du, .slice E21 e21n e21c], .agg #[.bool dv, .slice Av nv cv]]) ?r1 rfl (bez_post Z2.out Z3.out Z4.out J8.out J21.out JV.out hbw hg0 HBD.out HGCD.out)
        case r1 =>
          generalize hWf : World.drew _ = Wf
          obtain ⟨q0, q1, q2, q3, q4, q5⟩ := hcs Wf hWf.symm
          clear hWf hcs hbw
          simp [results, Try.results17, go_sem, q0, q1, q2, q3, q4, q5]
    · have hpp : 0 < p11 := by
        rcases Nat.eq_zero_or_pos p11 with e | e
        · have := hp11.out.1 e; omega
        · exact e
      have hr1 : Hid ((gk : Int) ≠ 0) := by unfold Hid; omega
      have hrel := HI.out.rel
      have hszr0 := Lib.hid (sz_of_le (z := r0) HMM.out (by have := hrel.le; have := hrel.pos; omega))
      have hszr1 := Lib.hid (sz_of_le (z := (gk : Int)) HMM.out (by have := hrel.le; have := hrel.lt; have := hrel.nn; omega))
      clear hrel
      go_wp2_with fail
      refine (divMod_any _ _ r0 (gk : Int) wr V8.out V11.out (hszr0.out.mono (by omega)) (hszr1.out.mono (by omega)) hr1.out).mono ?_
      rintro e w8 ⟨vq, vr, rfl, hq8, hr8, hbl8⟩
      obtain ⟨Aq, nq, cq, rfl, _, _, _⟩ := hq8.form
      obtain ⟨Ar, nr, cr, rfl, _, _, _⟩ := hr8.form
      have HQ8 := Lib.hid hq8
      have HR8 := Lib.hid hr8
      generalize hsq : decide (r0 / (gk : Int) < 0) = sq at *
      generalize hsr : decide (r0 % (gk : Int) < 0) = sr at *
      clear hsq hsr
      have f8 := BX8.out.next hbl8 rfl
      have f11 := BX11.out.next hbl8 rfl
      have F8 := Lib.hid f8
      have F11 := Lib.hid f11
      have m8 := f8.cell0
      have m9 := f8.cell1
      have m10 := f11.cell0
      have m11 := f11.cell1
      have m12 := f8.frozen 0
      have m13 := f8.frozen 1
      have m14 := f11.frozen 0
      have m15 := f11.frozen 1
      have hl8 := f8.lt
      have hl11 := f11.lt
      have hl8b : G7 + 1 < w8.heap.size + 1 := by omega
      have hl11b : G11 + 1 < w8.heap.size + 1 := by omega
      clear f8 f11 hq8 hr8 x8c0 x8c1 x11c0 x11c1
      go_wp2
      obtain ⟨W9, hW9⟩ : ∃ W9, W9 = (w8.alloc (Obj.cells #[Value.bool sq, Value.slice Aq nq cq] 27)).alloc (Obj.cells #[Value.bool sr, Value.slice Ar nr cr] 27) := ⟨_, rfl⟩
      rw [← hW9]
      have u8 : Box W9 (G7 + 1) s8 (.slice X8 p8 q8) := by rw [hW9]; exact (F8.out.alloc _).alloc _
      have u11 : Box W9 (G11 + 1) s11 (.slice X11 p11 q11) := by rw [hW9]; exact (F11.out.alloc _).alloc _
      have u15 : Box W9 (w8.heap.size + 1) sr (.slice Ar nr cr) := by rw [hW9]; exact new_at (by simp)
      have iq : IB W9 w8.heap.size (r0 / (gk : Int)) := by rw [hW9]; exact (IB.new HQ8.out).alloc _
      have hbl89 : Below w8.heap.size w8 W9 := by rw [hW9]; exact ((Below.refl _ _).alloc (Nat.le_refl _) _).alloc (by simp) _
      have hbl9 : Below wr.heap.size wr W9 := hbl8.trans (hbl89.mono hbl8.size)
      have vr9 : Iv W9 (.agg #[.bool sr, .slice Ar nr cr]) (r0 % (gk : Int)) := by rw [hW9]; exact (HR8.out.alloc _).alloc _
      have v11b : Iv W9 (.agg #[.bool s11, .slice X11 p11 q11]) (gk : Int) := iv_next V11.out hbl9 rfl
      have g1 := u8.cell0
      have g2 := u8.cell1
      have g3 := u11.cell0
      have g4 := u11.cell1
      have g5 := u15.cell0
      have g6 := u15.cell1
      have g7 := u8.frozen 0
      have g8 := u8.frozen 1
      have g9 := u11.frozen 0
      have g10 := u11.frozen 1
      have d1 : ¬ G7 + 1 = G11 + 1 := by omega
      have d2 : ¬ G11 + 1 = G7 + 1 := by omega
      have d3 : ¬ G7 + 1 = w8.heap.size + 1 := by omega
      have d4 : ¬ w8.heap.size + 1 = G7 + 1 := by omega
      have d5 : ¬ G11 + 1 = w8.heap.size + 1 := by omega
      have d6 : ¬ w8.heap.size + 1 = G11 + 1 := by omega
      have U8 := Lib.hid u8
      have U11 := Lib.hid u11
      have IQ := Lib.hid iq
      have VR9 := Lib.hid vr9
      have V11B := Lib.hid v11b
      have hl8c : w8.heap.size + 2 = W9.heap.size := by rw [hW9]; simp
      clear hW9 u8 u11 u15 iq vr9 v11b m8 m9 m10 m11 m12 m13 m14 m15 hbl89
      generalize hG14 : w8.heap.size = G14 at *
      go_region
      obtain ⟨W10, hW10⟩ : ∃ W10, W10 = ((((W9.setCell ⟨G7 + 1, 0, none⟩ (Value.bool s11)).setCell ⟨G7 + 1, 1, none⟩ (Value.slice X11 p11 q11)).setCell ⟨G11 + 1, 0, none⟩ (Value.bool sr)).setCell ⟨G11 + 1, 1, none⟩ (Value.slice Ar nr cr)).drew := ⟨_, rfl⟩
      go_wp2
      rw [← hW10]
      have hkeep : ∀ {gx : Nat} {zx : Int}, IB W9 gx zx → gx ≠ G7 + 1 → gx ≠ G11 + 1 → IB W10 gx zx := fun h n1 n2 => by
        rw [hW10]; exact IB.other (IB.other h U8.out n1) ((U11.out.far (by first | (simp; done) | (simp; omega)) _).far (by first | (simp; done) | (simp; omega)) _) n2
      have hkbox : ∀ {gx : Nat} {bx : Bool} {sx : Value}, Box W9 gx bx sx → gx ≠ G7 + 1 → gx ≠ G11 + 1 → Box W10 gx bx sx := fun h n1 n2 => by
        rw [hW10]; exact (((h.far (by first | (simp; done) | (simp; omega)) _).far (by first | (simp; done) | (simp; omega)) _).far (by first | (simp; done) | (simp; omega)) _).far (by first | (simp; done) | (simp; omega)) _
      have y8 : IB W10 (G7 + 1) (gk : Int) := by
        rw [hW10]
        exact IB.other (IB.store V11B.out U8.out) ((U11.out.far (by first | (simp; done) | (simp; omega)) _).far (by first | (simp; done) | (simp; omega)) _) d1
      have y11 : IB W10 (G11 + 1) (r0 % (gk : Int)) := by
        rw [hW10]
        exact IB.store (iv_keep VR9.out U8.out _) ((U11.out.far (by first | (simp; done) | (simp; omega)) _).far (by first | (simp; done) | (simp; omega)) _)
      have hne13 : G11 + 2 ≤ G13 := hlt67
      have y9 := hkeep (HI.out.i9.next hbl9 rfl) (by omega) (by omega)
      have y13 := hkeep (HI.out.i13.next hbl9 rfl) (by omega) (by omega)
      have y0 := hkeep (HI.out.i0.next hbl9 rfl) (by omega) (by omega)
      have y1 := hkeep (HI.out.i1.next hbl9 rfl) (by omega) (by omega)
      have y7 := hkeep (HI.out.i7.next hbl9 rfl) (by omega) (by omega)
      have yq := hkeep IQ.out (by omega) (by omega)
      have yb2 := hkbox (HI.out.b2.next hbl9 rfl) (by omega) (by omega)
      have yb3 := hkbox (HI.out.b3.next hbl9 rfl) (by omega) (by omega)
      have yb4 := hkbox (HI.out.b4.next hbl9 rfl) (by omega) (by omega)
      have hbl10 : Below g w W10 := by
        rw [hW10]
        have hgw : g ≤ w.heap.size := by rw [hg0]; exact Nat.le_refl _
        have e1 : Below g w W9 := HI.out.bl.trans (hbl9.mono (Nat.le_trans hgw HI.out.bl.size))
        exact ((((e1.setCell (by simp; omega) _).setCell (by simp; omega) _).setCell (by simp; omega) _).setCell (by simp; omega) _).drew
      have hs10 : W10.heap.size = W9.heap.size := by rw [hW10]; simp [World.setCell]
      have hlt13 : G13 < W10.heap.size := y13.lt
      clear hW10 hkeep hkbox g1 g2 g3 g4 g5 g6 g7 g8 g9 g10
      obtain ⟨E9, e9n, e9c, bx9, iv9⟩ := y9.iv
      obtain ⟨E13, e13n, e13c, bx13, iv13⟩ := y13.iv
      obtain ⟨Eq, eqn, eqc, bxq, ivq⟩ := yq.iv
      have o1 := bx9.cell0
      have o2 := bx9.cell1
      have o3 := bx13.cell0
      have o4 := bx13.cell1
      have o5 := bxq.cell0
      have o6 := bxq.cell1
      have o7 := bx9.frozen 0
      have o8 := bx9.frozen 1
      have o9 := bx13.frozen 0
      have o10 := bx13.frozen 1
      have BX9 := Lib.hid bx9
      have BX13 := Lib.hid bx13
      have BXQ := Lib.hid bxq
      have IV9 := Lib.hid iv9
      have IV13 := Lib.hid iv13
      have IVQ := Lib.hid ivq
      have Y8 := Lib.hid y8
      have Y9 := Lib.hid y9
      have Y11 := Lib.hid y11
      have Y13 := Lib.hid y13
      have Y0 := Lib.hid y0
      have Y1 := Lib.hid y1
      have Y7 := Lib.hid y7
      have YB2 := Lib.hid yb2
      have YB3 := Lib.hid yb3
      have YB4 := Lib.hid yb4
      have hu1b := HI.out.rel.u1b
      have hszu1 := Lib.hid (sz_of_le (z := u1) HMM.out hu1b)
      have hszu0 := Lib.hid (sz_of_le (z := u0) HMM.out HI.out.rel.ub)
      have hszq : Hid (Sz (r0 / (gk : Int)) 200000) := sz_of_le (z := r0 / (gk : Int)) HMM.out (by
        have h1 := HI.out.rel.le
        have h2 := HI.out.rel.pos
        have h3 := Int.ediv_le_self (gk : Int) (show 0 ≤ r0 by omega)
        have h4 : 0 ≤ r0 / (gk : Int) := Int.ediv_nonneg (by omega) (by omega)
        omega)
      clear bx9 bx13 bxq iv9 iv13 ivq y8 y9 y11 y13 y0 y1 y7 yq yb2 yb3 yb4 hu1b d1 d2 d3 d4 d5 d6
      generalize hdu0 : decide (u0 < 0) = du0 at *
      generalize hdu1 : decide (u1 < 0) = du1 at *
      generalize hdq : decide (r0 / (gk : Int) < 0) = dq at *
      clear hdu0 hdu1 hdq
      have hz1 : ¬ G7 + 1 + 1 = G13 := by omega
      have hz2 : ¬ G13 = G7 + 1 + 1 := by omega
      go_region_with (first
        | (go_at_call 30; refine (mul_any _ _ (r0 / (gk : Int)) u1 _ (by exact IVQ.out) (by exact IV13.out) (hszq.out.mono (by omega)) (hszu1.out.mono (by omega))).mono ?_; rintro e w11 ⟨vm, rfl, hvm, hbl11⟩
           obtain ⟨Am, nmm, cm, rfl, _, _, _⟩ := hvm.form
           have HVM := Lib.hid hvm
           have k9 := BX9.out.next hbl11 rfl
           have k13 := BX13.out.next hbl11 rfl
           have kk1 := k9.cell0
           have kk2 := k9.cell1
           have kk3 := k13.cell0
           have kk4 := k13.cell1
           have K9 := Lib.hid k9
           have K13 := Lib.hid k13
           have IV9B := Lib.hid (iv_next IV9.out hbl11 rfl)
           have IV13B := Lib.hid (iv_next IV13.out hbl11 rfl)
           clear k9 k13 hvm)
        | (go_at_call 28; refine (sub_any _ _ u0 (r0 / (gk : Int) * u1) _ (by exact IV9B.out) (by exact HVM.out) (hszu0.out.mono (by omega)) ((hszq.out.mul hszu1.out).mono (by omega))).mono ?_; rintro e w12 ⟨vs, rfl, hvs, hbl12⟩
           obtain ⟨As, ns, cs, rfl, _, _, _⟩ := hvs.form
           have HVS := Lib.hid hvs
           have l9 := K9.out.next hbl12 rfl
           have l13 := K13.out.next hbl12 rfl
           have ll1 := l9.cell0
           have ll2 := l9.cell1
           have ll3 := l13.cell0
           have ll4 := l13.cell1
           have ll5 := l9.frozen 0
           have ll6 := l9.frozen 1
           have ll7 := l13.frozen 0
           have ll8 := l13.frozen 1
           have L9 := Lib.hid l9
           have L13 := Lib.hid l13
           have IV13C := Lib.hid (iv_next IV13B.out hbl12 rfl)
           clear l9 l13 hvs))
      all_goals
        go_wp2
        go_roundg (r0 % (gk : Int)).toNat
        case measure =>
          have e1 := Int.emod_lt_of_pos r0 (show (0 : Int) < (gk : Int) by omega)
          have e2 := Int.emod_nonneg r0 (show (gk : Int) ≠ 0 by omega)
          omega
        case rel =>
          have e2 := Int.emod_nonneg r0 (show (gk : Int) ≠ 0 by omega)
          have hr := HI.out.rel.step (show (0 : Int) < (gk : Int) by omega)
          have hgw : g ≤ w.heap.size := by rw [hg0]; exact Nat.le_refl _
          have hK : ∀ {gx : Nat} {zx : Int}, IB W10 gx zx → gx ≠ G7 + 1 + 1 → gx ≠ G13 → IB ((((w12.setCell ⟨G7 + 1 + 1, 0, none⟩ (Value.bool du1)).setCell ⟨G7 + 1 + 1, 1, none⟩ (Value.slice E13 e13n e13c)).setCell ⟨G13, 0, none⟩ (Value.bool (decide (u0 - r0 / (gk : Int) * u1 < 0)))).setCell ⟨G13, 1, none⟩ (Value.slice As ns cs)) gx zx := fun h n1 n2 =>
            IB.other (IB.other ((h.next hbl11 rfl).next hbl12 rfl) L9.out n1) ((L13.out.far (by first | (simp; done) | (simp; omega)) _).far (by first | (simp; done) | (simp; omega)) _) n2
          have hB : ∀ {gx : Nat} {bx : Bool} {sx : Value}, Box W10 gx bx sx → gx ≠ G7 + 1 + 1 → gx ≠ G13 → Box ((((w12.setCell ⟨G7 + 1 + 1, 0, none⟩ (Value.bool du1)).setCell ⟨G7 + 1 + 1, 1, none⟩ (Value.slice E13 e13n e13c)).setCell ⟨G13, 0, none⟩ (Value.bool (decide (u0 - r0 / (gk : Int) * u1 < 0)))).setCell ⟨G13, 1, none⟩ (Value.slice As ns cs)) gx bx sx := fun h n1 n2 =>
            (((((h.next hbl11 rfl).next hbl12 rfl).far (by first | (simp; done) | (simp; omega)) _).far (by first | (simp; done) | (simp; omega)) _).far (by first | (simp; done) | (simp; omega)) _).far (by first | (simp; done) | (simp; omega)) _
          have hgs10 := Nat.le_trans hgw hbl10.size
          refine ⟨(gk : Int), u1, u0 - r0 / (gk : Int) * u1, ⟨hK Y8.out (by omega) (by omega), ?_, ?_, ?_, hK Y0.out (by omega) (by omega), hK Y1.out (by omega) (by omega), hK Y7.out (by omega) (by omega), hB YB2.out (by omega) (by omega), hB YB3.out (by omega) (by omega), hB YB4.out (by omega) (by omega), ?_, ?_⟩⟩
          · exact IB.other (IB.store IV13C.out L9.out) ((L13.out.far (by first | (simp; done) | (simp; omega)) _).far (by first | (simp; done) | (simp; omega)) _) hz1
          · rw [show ((r0 % (gk : Int)).toNat : Int) = r0 % (gk : Int) by omega]
            exact hK Y11.out (by omega) (by omega)
          · exact IB.store (iv_keep HVS.out L9.out _) ((L13.out.far (by first | (simp; done) | (simp; omega)) _).far (by first | (simp; done) | (simp; omega)) _)
          · have e3 := link_below (link_below hbl10 hbl11 hgs10 rfl rfl rfl rfl) hbl12 (Nat.le_trans hgs10 hbl11.size) rfl rfl rfl rfl
            exact (((e3.setCell (by simp; omega) _).setCell (by simp; omega) _).setCell (by simp; omega) _).setCell (by simp; omega) _
          · rw [show ((r0 % (gk : Int)).toNat : Int) = r0 % (gk : Int) by omega]
            exact hr
end Go.Proofs.Ytpklphdhigkmmaa
