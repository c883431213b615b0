/-
  The law IntegerSmall: the walk.
-/
import Derived.Test.YtloiabkopacfgaaLawA
namespace Go.Proofs.Ytloiabkopacfgaa
open Go.RowKit
attribute [local go_sem ↓] Go.wp_at_zero Go.wp_at_succ

set_option maxHeartbeats 4000000 in
set_option maxRecDepth 100000 in
theorem lawSmall_any (n m : Int) (w : World) (hn : I64 n) (hm : I64 m) :
    Calls Try.prog 12 #[.int .i64 n, .int .i64 m] w fun e w' => e = .returned (.bool true) ∧ Below w.heap.size w w' := by
  have HN := Lib.hid hn
  have HM := Lib.hid hm
  have hn1 := hn.1
  have hn2 := hn.2
  have hm1 := hm.1
  have hm2 := hm.2
  obtain ⟨o, ho, hcmp⟩ : ∃ o, o = cmpZ n m ∧ Hid (cmpZ n m = o) := ⟨_, rfl, rfl⟩
  clear hn hm
  have hcs : (n < m ∧ decide (m < n) = false ∧ o = -1) ∨ (decide (n < m) = false ∧ m < n ∧ o = 1) ∨ (decide (n < m) = false ∧ decide (m < n) = false ∧ o = 0) := by
    rw [ho]; unfold cmpZ
    by_cases h1 : n < m
    · left; simp [h1]; omega
    · by_cases h2 : m < n
      · right; left; simp [h1, h2]
      · right; right; simp [h1, h2]
  clear ho
  rcases hcs with ⟨q1, q2, rfl⟩ | ⟨q1, q2, rfl⟩ | ⟨q1, q2, rfl⟩
  all_goals
    go_enter Try.func12, Try.ntmps12
    go_wp2_with fail
    refine (sanity_any _).mono ?_
    rintro e w1 ⟨rfl, hb1⟩
    go_wp2_with fail
    refine (of_any n _ HN.out.1 HN.out.2).mono ?_
    rintro e w2z ⟨v2, rfl, hq20, hb2z⟩
    obtain ⟨A20, n20, c20, rfl, _, _, _⟩ := hq20.form
    have Q20 := Lib.hid hq20
    have B1 := Lib.hid hb1; have B2 := Lib.hid hb2z; clear hq20 hb1 hb2z
    generalize hs20 : decide (n < 0) = s20 at *
    clear hs20
    go_wp2_with fail
    obtain ⟨W2, hW2⟩ : ∃ W2, W2 = w2z.alloc (Obj.cells #[Value.bool s20, Value.slice A20 n20 c20] 27) := ⟨_, rfl⟩
    rw [← hW2]
    obtain ⟨i20, hh2⟩ := one_box Q20.out hW2
    have I20 := Lib.hid i20
    have H2 := Lib.hid hh2
    have Q20b : Hid (Iv W2 (.agg #[.bool s20, .slice A20 n20 c20]) n) := by rw [hW2]; exact Q20.out.alloc _
    clear hW2 i20 hh2
    generalize hg2 : w2z.heap.size = g2 at *
    refine (of_any m _ HM.out.1 HM.out.2).mono ?_
    rintro e w3z ⟨v3, rfl, hq30, hb3z⟩
    obtain ⟨A30, n30, c30, rfl, _, _, _⟩ := hq30.form
    have Q30 := Lib.hid hq30
    have B3 := Lib.hid hb3z; clear hq30 hb3z
    generalize hs30 : decide (m < 0) = s30 at *
    clear hs30
    go_upto_region 6 with fail
    obtain ⟨W3, hW3⟩ : ∃ W3, W3 = w3z.alloc (Obj.cells #[Value.bool s30, Value.slice A30 n30 c30] 27) := ⟨_, rfl⟩
    rw [← hW3]
    obtain ⟨i30, hh3⟩ := one_box Q30.out hW3
    clear hW3
    generalize hg3 : w3z.heap.size = g3 at *
    have d3 : Below W2.heap.size W2 W3 := by
      have y0 := Below.refl W2.heap.size W2
      have y1 := link_below y0 B3.out y0.size rfl rfl rfl rfl
      exact link_below y1 (by rw [hg3]; exact hh3) y1.size rfl rfl rfl rfl
    obtain ⟨X20, p20, r20, bx20, iv20⟩ := (I20.out.next d3 rfl).iv
    obtain ⟨X30, p30, r30, bx30, iv30⟩ := i30.iv
    have BX20 := Lib.hid bx20; have IV20 := Lib.hid iv20
    have BX30 := Lib.hid bx30; have IV30 := Lib.hid iv30
    have e0 := bx20.cell0; have e1 := bx20.cell1
    have D3 := Lib.hid d3
    clear bx20 iv20 bx30 iv30 i30 hh3 d3 hg3
    generalize ht20 : decide (n < 0) = t20 at *
    generalize ht30 : decide (m < 0) = t30 at *
    clear ht20 ht30
    go_wp2_with fail
    refine (small_i64 _ n _ IV20.out HN.out).mono ?_
    rintro e w4 ⟨rfl, hb4⟩
    have B4 := Lib.hid hb4; clear hb4
    clear e0 e1
    have e0 := (BX20.out.next B4.out rfl).cell0; have e1 := (BX20.out.next B4.out rfl).cell1
    have q3 : (n != n) = false := by simp
    go_wp2_with fail
    refine (valid_any _ n _ (iv_next IV20.out B4.out rfl) (HN.out.sz.mono (by omega))).mono ?_
    rintro e w5 ⟨rfl, hb5⟩
    have B5 := Lib.hid hb5; clear hb5
    have D5 := Lib.hid (link_below B4.out B5.out B4.out.size rfl rfl rfl rfl)
    clear e0 e1
    have e0 := (BX20.out.next D5.out rfl).cell0; have e1 := (BX20.out.next D5.out rfl).cell1
    have e2 := (BX30.out.next D5.out rfl).cell0; have e3 := (BX30.out.next D5.out rfl).cell1
    go_wp2_with fail
    refine (cmp_any _ _ n m _ (iv_next IV20.out D5.out rfl) (iv_next IV30.out D5.out rfl) (HN.out.sz.mono (by omega)) (HM.out.sz.mono (by omega))).mono ?_
    rw [hcmp.out]
    rintro e w6 ⟨rfl, hb6⟩
    have D6 := Lib.hid (link_below D5.out hb6 D5.out.size rfl rfl rfl rfl); clear hb6
    clear e0 e1 e2 e3
    go_wp2_with fail
    go_loop [11, 12] (fun v11 v12 => ∃ (j : Nat) (k : Int), v11 = .int .i64 j ∧ v12 = .int .i64 k ∧ j + bl k.natAbs = bl n.natAbs ∧ I64 k) (fun _ v12 => (intOf v12).natAbs)
    case atStart => exact ⟨0, n, rfl, rfl, by omega, HN.out⟩
    case round =>
      obtain ⟨j, k, rfl, rfl, hj, hk⟩ := hrel
      have HJ := Lib.hid hj
      have HK := Lib.hid hk
      have hk1 := hk.1
      have hk2 := hk.2
      have hbk : bl n.natAbs ≤ 64 := (bl_lt _ 64).2 (by have h1 := HN.out.1; have h2 := HN.out.2; omega)
      have hj64 : j ≤ 64 := by omega
      clear hj hk hbk
      by_cases hk0 : k = 0
      · subst hk0
        have hjn : Hid (j = bl n.natAbs) := by have := HJ.out; rw [Int.natAbs_zero, bl_zero] at this; exact this
        have hj0 := hjn.out
        subst hj0
        have hx := tmod_bd n
        have hy := tmod_bd m
        have hxy := mul_bd hx.1 hx.2 hy.1 hy.2
        have hu := tdiv_bd HN.out
        have hv := tdiv_bd HM.out
        have HX := Lib.hid hx
        have HY := Lib.hid hy
        have HXY := Lib.hid hxy
        have HU := Lib.hid hu
        have HV := Lib.hid hv
        have hx1 := hx.1
        have hx2 := hx.2
        have hy1 := hy.1
        have hy2 := hy.2
        have hu1 := hu.1
        have hu2 := hu.2
        have hv1 := hv.1
        have hv2 := hv.2
        have hp1 := hxy.1
        have hp2 := hxy.2
        have IX : Hid (I64 (n.tmod 1000000007)) := ⟨by omega, by omega⟩
        have IY : Hid (I64 (m.tmod 1000000007)) := ⟨by omega, by omega⟩
        have IU : Hid (I64 (n.tdiv 2)) := ⟨by omega, by omega⟩
        have IV : Hid (I64 (m.tdiv 2)) := ⟨by omega, by omega⟩
        have IW : Hid (I64 (n.tdiv 2 + m.tdiv 2)) := ⟨by omega, by omega⟩
        clear hk1 hk2 HJ HK hjn hx hy hu hv hxy
        go_wp2_with fail
        refine (of_any (n.tmod 1000000007) _ IX.out.1 IX.out.2).mono ?_
        rintro e w7 ⟨v7, rfl, hv7, hb7⟩
        have D7 := Lib.hid (link_below D6.out hb7 D6.out.size rfl rfl rfl rfl)
        go_wp2_with fail
        refine (of_any (m.tmod 1000000007) _ IY.out.1 IY.out.2).mono ?_
        rintro e w8 ⟨v8, rfl, hv8, hb8⟩
        have D8 := Lib.hid (link_below D7.out hb8 D7.out.size rfl rfl rfl rfl)
        go_wp2_with fail
        refine (mul_any _ _ _ _ _ (iv_next hv7 hb8 rfl) hv8 (IX.out.sz.mono (by omega)) (IY.out.sz.mono (by omega))).mono ?_
        rintro e w9 ⟨v9, rfl, hv9, hb9⟩
        have D9 := Lib.hid (link_below D8.out hb9 D8.out.size rfl rfl rfl rfl)
        clear hv7 hv8 hb7 hb8 hb9
        go_wp2_with fail
        refine (small_i64 _ _ _ hv9 HXY.out).mono ?_
        rintro e w10 ⟨rfl, hb10⟩
        have D10 := Lib.hid (link_below D9.out hb10 D9.out.size rfl rfl rfl rfl)
        clear hv9 hb10
        go_wp2_with fail
        refine (of_any (n.tdiv 2) _ IU.out.1 IU.out.2).mono ?_
        rintro e w11 ⟨v11, rfl, hv11, hb11⟩
        have D11 := Lib.hid (link_below D10.out hb11 D10.out.size rfl rfl rfl rfl)
        go_wp2_with fail
        refine (of_any (m.tdiv 2) _ IV.out.1 IV.out.2).mono ?_
        rintro e w12 ⟨v12, rfl, hv12, hb12⟩
        have D12 := Lib.hid (link_below D11.out hb12 D11.out.size rfl rfl rfl rfl)
        go_wp2_with fail
        refine (add_any _ _ _ _ _ (iv_next hv11 hb12 rfl) hv12 (IU.out.sz.mono (by omega)) (IV.out.sz.mono (by omega))).mono ?_
        rintro e w13 ⟨v13, rfl, hv13, hb13⟩
        have D13 := Lib.hid (link_below D12.out hb13 D12.out.size rfl rfl rfl rfl)
        clear hv11 hv12 hb11 hb12 hb13
        go_wp2_with fail
        refine (small_i64 _ _ _ hv13 IW.out).mono ?_
        rintro e w14 ⟨rfl, hb14⟩
        have D14 := Lib.hid (link_below D13.out hb14 D13.out.size rfl rfl rfl rfl)
        clear hv13 hb14
        have e0 := (BX20.out.next D14.out rfl).cell0; have e1 := (BX20.out.next D14.out rfl).cell1
        go_wp2_with fail
        refine (bits_int _ n _ (iv_next IV20.out D14.out rfl) (HN.out.sz.mono (by omega))).mono ?_
        rintro e w15 ⟨rfl, hb15⟩
        have D15 := Lib.hid (link_below D14.out hb15 D14.out.size rfl rfl rfl rfl)
        clear hb15 e0 e1
        go_wp2
        go_ret
        refine ⟨by simp, ?_⟩
        have z0 := link_below B1.out B2.out B1.out.size rfl rfl rfl rfl
        have z1 := link_below z0 (by rw [hg2]; exact H2.out) z0.size rfl rfl rfl rfl
        have z2 := z1.trans (D3.out.mono z1.size)
        exact link_below z2 D15.out z2.size rfl rfl rfl rfl
      · have hb : (k != 0) = true := by simp [hk0]
        have hb2 := tdiv_bd HK.out
        have hb3 := tdiv_abs k
        have hb4 := bl_half (x := k.natAbs) (by omega)
        have HB3 := Lib.hid hb3
        have HB4 := Lib.hid hb4
        have HB2 := Lib.hid hb2
        clear hb3 hb4 hb2
        go_wp2
        go_round
        case rel => exact ⟨j + 1, k.tdiv 2, by simp, rfl, by rw [HB3.out]; have h1 := HB4.out; have h2 := HJ.out; omega, ⟨by have h1 := HB2.out; omega, by have h1 := HB2.out; omega⟩⟩
        case measure =>
          simp only [intOf]
          have h1 := HB3.out
          omega
end Go.Proofs.Ytloiabkopacfgaa
