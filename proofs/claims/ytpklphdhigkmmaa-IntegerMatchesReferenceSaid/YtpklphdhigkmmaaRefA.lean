/-
  Contracts of the reference's trim, words, made and Of, and of the law's of.
-/
import Derived.Test.YtpklphdhigkmmaaIntF
namespace Go.Proofs.Ytpklphdhigkmmaa
open Go.RowKit
attribute [local go_sem ↓] Go.wp_at_zero Go.wp_at_succ

set_option maxHeartbeats 400000 in
theorem rtrim_any (A : Option Addr) (n c : Nat) (ws : List Nat) (w : World) (h : Wd w A n ws) (hn : n ≤ 1099511627776) (hc : n ≤ c) :
    Calls Try.prog 111 #[.slice A n c] w (RetTrim A c ws w) := by
  have hl := h.1
  have hw := h.wds
  have HL := Lib.hid hl
  have H := Lib.hid h
  clear hl h
  go_enter Try.func111, Try.ntmps111
  go_wp2
  go_loop [3] (fun v => ∃ m : Nat, m ≤ n ∧ v = .int .i64 m ∧ TrimRel n ws m) (fun v => (intOf v).toNat)
  case atStart => exact ⟨n, Nat.le_refl _, rfl, fun k h1 h2 => by omega⟩
  case round =>
    obtain ⟨m, hm, rfl, hz⟩ := hrel
    by_cases hpos : 0 < m
    · obtain ⟨b, o, rfl, _, hcs⟩ := H.out.cells (show 0 < n by omega)
      have hcell := hcs (m - 1) (by omega)
      obtain ⟨m, rfl⟩ : ∃ m', m = m' + 1 := ⟨m - 1, by omega⟩
      rw [Nat.add_sub_cancel] at hcell
      clear hcs
      by_cases hx : gd ws m = 0
      · rw [hx] at hcell
        have HX := Lib.hid hx
        clear hx
        go_wp2
        go_round
        case rel => exact ⟨m, by omega, rfl, fun k h1 h2 => by
          rcases Nat.eq_or_lt_of_le h1 with e | e
          · rw [← e]; exact HX.out
          · exact hz k e h2⟩
        case measure => simp [intOf]
      · have hx2 : (((gd ws m : Nat) : Int) == 0) = false := by rw [beq_eq_false_iff_ne]; omega
        have HX := Lib.hid hx
        clear hx
        go_wp2
        go_ret
        exact ⟨m + 1, by rw [HL.out]; omega, rfl, trim_done hw HL.out hm hz (.inr (by simpa using HX.out)), rfl⟩
    · have hm0 : m ≤ 0 := by omega
      go_wp2
      go_ret
      exact ⟨0, Nat.zero_le _, rfl, trim_done hw HL.out (Nat.zero_le _) (fun k h1 h2 => hz k (by omega) h2) (.inl rfl), rfl⟩

set_option maxHeartbeats 400000 in
theorem rwords_any (x : Nat) (w : World) (hx : x < 18446744073709551616) :
    Calls Try.prog 100 #[.int .u64 x] w (RetMg x w) := by
  go_enter Try.func100, Try.ntmps100
  go_wp2_with fail
  refine (rtrim_any _ 2 2 [x % 4294967296, x / 4294967296] _ (Blk.two (by omega) (by omega) (by omega) (by omega)).whole (by omega) (by omega)).mono ?_
  rintro e w' ⟨m, hm, rfl, ht, rfl⟩
  have HT := Lib.hid ht
  clear ht
  go_wp2
  go_ret
  have h0 := Blk.two (w := w) (a := x % 4294967296) (b := x / 4294967296) (i := (x : Int) % 4294967296) (j := (x : Int) / 4294967296) (by omega) (by omega) (by omega) (by omega)
  have h1 := h0.whole.mg (c := 2) hm (by simp) (by omega) HT.out
  rw [val_two, show x % 4294967296 + 4294967296 * (x / 4294967296) = x by omega] at h1
  exact ⟨_, rfl, h1, (Below.refl _ _).alloc (Nat.le_refl _) _⟩

set_option maxHeartbeats 1000000 in
theorem made_any (b : Bool) (A : Option Addr) (n c : Nat) (ws : List Nat) (w : World) (h : Wd w A n ws) (hn : n ≤ 1099511627776) (hc : n ≤ c) (hcb : c ≤ 9223372036854775807) :
    Calls Try.prog 74 #[.bool b, .slice A n c] w (RetIv (sgn b (val ws)) w) := by
  have H := Lib.hid h
  clear h
  have fin : ∀ m, m ≤ n → ws.take m = mag (val ws) → ∀ W, Below w.heap.size w W → W.heap.size = w.heap.size + 1 → Iv W (.agg #[.bool (b && decide (0 < m)), .slice A m c]) (sgn b (val ws)) := by
    intro m hm ht W hW _
    have h1 := (H.out.take hm)
    rw [ht] at h1
    refine ⟨.slice A m c, by rw [sgn_neg, len_pos h1], A, m, c, rfl, by omega, hcb, ?_⟩
    rw [sgn_abs]
    exact h1.below hW
  have FIN := Lib.hid fin
  clear fin
  cases b
  all_goals
    go_enter Try.func74, Try.ntmps74
    go_wp2_with fail
    refine (rtrim_any A n c ws _ (H.out.alloc _) hn hc).mono ?_
    rintro e w' ⟨m, hm, rfl, ht, rfl⟩
    rw [H.out.len] at hm
    have HT := Lib.hid ht
    clear ht
    by_cases hm0 : 0 < m
    all_goals
      have hf := Lib.hid (FIN.out m hm HT.out)
      go_wp2
      refine bodyPost_ret (v := .agg #[.bool (_ && decide (0 < m)), .slice A m c]) (by simp [results, Try.results74, go_sem, hm0]) rfl ⟨_, rfl, hf.out _ ((Below.refl _ _).alloc (Nat.le_refl _) _) (by simp), (Below.refl _ _).alloc (Nat.le_refl _) _⟩

set_option maxHeartbeats 1000000 in
theorem rof_any (z : Int) (w : World) (h1 : -9223372036854775808 ≤ z) (h2 : z ≤ 9223372036854775807) :
    Calls Try.prog 61 #[.int .i64 z] w (RetIv z w) := by
  by_cases h0 : z < 0
  · obtain ⟨x, rfl⟩ : ∃ x : Nat, z = -(x : Int) := ⟨z.natAbs, by omega⟩
    have e2 : Hid (sgn true (val (mag x)) = -(x : Int)) := by rw [val_mag]; rfl
    go_enter Try.func61, Try.ntmps61
    go_wp2_with fail
    rw [show -(-(x : Int) + 1) + 1 = (x : Int) by omega]
    refine (rwords_any x _ (by omega)).mono ?_
    rintro e w1 ⟨v1, rfl, ⟨A1, n1, c1, rfl, a1, a2, a3⟩, hbl1⟩
    have A3 := Lib.hid a3
    have hn1 : n1 ≤ 2 := by rw [← a3.len]; exact mag_length_le (by rw [show pw 2 = 18446744073709551616 from rfl]; omega)
    clear a3
    go_wp2_with fail
    refine (made_any true A1 n1 c1 (mag x) _ A3.out (by omega) a1 a2).mono ?_
    rintro e w2 ⟨v2, rfl, hv2, hbl2⟩
    rw [e2.out] at hv2
    obtain ⟨A2, n2, c2, rfl, k1, k2, k3⟩ := hv2.form
    have HV := Lib.hid hv2
    have hbx1 : Box w1 w.heap.size false (.slice none 0 0) := (Box.new w _ _).below hbl1 (by simp)
    have hbx2 := Lib.hid (hbx1.below hbl2 hbx1.lt)
    have q0 := hbx2.out.cell0
    have q1 := hbx2.out.cell1
    have q2 := hbx2.out.frozen 0
    have q3 := hbx2.out.frozen 1
    have hbl02 : Below w.heap.size w w2 := (below_new hbl1).trans (hbl2.mono (below_new hbl1).size)
    clear k3 hbx1 hv2
    go_wp2
    exact bodyPost_ret (v := .agg #[.bool (decide (-(x : Int) < 0)), .slice A2 n2 c2]) (by simp [results, Try.results61, go_sem, q0, q1]; omega) rfl ⟨_, rfl, iv_keep HV.out hbx2.out _, (hbl02.setCell (Nat.le_refl _) _).setCell (Nat.le_refl _) _⟩
  · obtain ⟨x, rfl⟩ : ∃ x : Nat, z = (x : Int) := ⟨z.natAbs, by omega⟩
    have e2 : Hid (sgn false (val (mag x)) = (x : Int)) := by rw [val_mag]; rfl
    go_enter Try.func61, Try.ntmps61
    go_wp2_with fail
    refine (rwords_any x _ (by omega)).mono ?_
    rintro e w1 ⟨v1, rfl, ⟨A1, n1, c1, rfl, a1, a2, a3⟩, hbl1⟩
    have A3 := Lib.hid a3
    have hn1 : n1 ≤ 2 := by rw [← a3.len]; exact mag_length_le (by rw [show pw 2 = 18446744073709551616 from rfl]; omega)
    clear a3
    go_wp2_with fail
    refine (made_any false A1 n1 c1 (mag x) _ A3.out (by omega) a1 a2).mono ?_
    rintro e w2 ⟨v2, rfl, hv2, hbl2⟩
    rw [e2.out] at hv2
    obtain ⟨A2, n2, c2, rfl, k1, k2, k3⟩ := hv2.form
    have HV := Lib.hid hv2
    have hbx1 : Box w1 w.heap.size false (.slice none 0 0) := (Box.new w _ _).below hbl1 (by simp)
    have hbx2 := Lib.hid (hbx1.below hbl2 hbx1.lt)
    have q0 := hbx2.out.cell0
    have q1 := hbx2.out.cell1
    have q2 := hbx2.out.frozen 0
    have q3 := hbx2.out.frozen 1
    have hbl02 : Below w.heap.size w w2 := (below_new hbl1).trans (hbl2.mono (below_new hbl1).size)
    clear k3 hbx1 hv2
    go_wp2
    exact bodyPost_ret (v := .agg #[.bool (decide ((x : Int) < 0)), .slice A2 n2 c2]) (by simp [results, Try.results61, go_sem, q0, q1]) rfl ⟨_, rfl, iv_keep HV.out hbx2.out _, (hbl02.setCell (Nat.le_refl _) _).setCell (Nat.le_refl _) _⟩

theorem lof_any (z : Int) (w : World) (h1 : -9223372036854775808 ≤ z) (h2 : z ≤ 9223372036854775807) :
    Calls Try.prog 40 #[.int .i64 z] w (RetIv z w) := by
  go_enter Try.func40, Try.ntmps40
  go_wp2_with fail
  refine (rof_any z _ h1 h2).mono ?_
  rintro e w2 ⟨v2, rfl, hv2, hbl2⟩
  obtain ⟨A2, n2, c2, rfl, k1, k2, k3⟩ := hv2.form
  have HV := Lib.hid hv2
  have hbx2 := Lib.hid ((Box.new w false (.slice none 0 0)).below hbl2 (by simp))
  have q0 := hbx2.out.cell0
  have q1 := hbx2.out.cell1
  have q2 := hbx2.out.frozen 0
  have q3 := hbx2.out.frozen 1
  have hbl02 : Below w.heap.size w w2 := below_new hbl2
  have hz : Hid (decide (z < 0) = decide (z < 0)) := rfl
  clear k3 hv2
  generalize decide (z < 0) = nz at *
  go_wp2
  exact bodyPost_ret (v := .agg #[.bool nz, .slice A2 n2 c2]) (by simp [results, Try.results40, go_sem, q0, q1]) rfl ⟨_, rfl, iv_keep HV.out hbx2.out _, (hbl02.setCell (Nat.le_refl _) _).setCell (Nat.le_refl _) _⟩

theorem agg_eq_of {w : World} {a b : Int} {A B : Option Addr} {n m : Nat} (ha : Wd w A n (mag a.natAbs)) (hb : Wd w B m (mag b.natAbs)) (h : a.natAbs = b.natAbs) : n = m := by
  rw [← ha.len, ← hb.len, h]

set_option maxHeartbeats 2000000 in
theorem same_any (va vb : Value) (a b : Int) (w : World) (ha : Iv w va a) (hb : Iv w vb b) (sa : Sz a 1000000) (sb : Sz b 1000000) : Calls Try.prog 19 #[va, vb] w (RetV (.bool (decide (a = b))) w) := by
  obtain ⟨A, n, c, rfl, h1, h2, h3⟩ := ha.form
  obtain ⟨B, m, d, rfl, k1, k2, k3⟩ := hb.form
  have HA := Lib.hid h3
  have HB := Lib.hid k3
  have hn : n ≤ 1000000 := by rw [← h3.len]; exact sa.len
  have hm : m ≤ 1000000 := by rw [← k3.len]; exact sb.len
  have hres : Hid (decide (a < 0) = decide (b < 0) → a.natAbs = b.natAbs → a = b) := fun e1 e2 => by
    rw [← sgn_of a, ← sgn_of b, e1, e2]
  have hsg : Hid (decide (a < 0) ≠ decide (b < 0) → decide (a = b) = false) := fun e1 => by
    rw [decide_eq_false_iff_not]; intro e; rw [e] at e1; exact e1 rfl
  have hab : Hid (a.natAbs ≠ b.natAbs → decide (a = b) = false) := fun e1 => by
    rw [decide_eq_false_iff_not]; intro e; rw [e] at e1; exact e1 rfl
  have hbT : Hid (a = b → decide (a = b) = true) := fun e => decide_eq_true e
  generalize decide (a < 0) = na at *
  generalize decide (b < 0) = nb at *
  clear h3 k3 sa sb ha hb
  by_cases hs : na = nb
  · subst hs
    have ht : (na != na) = false := by simp
    by_cases hnm : n = m
    · subst hnm
      have ht2 : ((n : Int) != (n : Int)) = false := by simp
      go_enter Try.func19, Try.ntmps19
      go_wp2
      obtain ⟨W, hW⟩ : ∃ W, W = (w.alloc (Obj.cells #[Value.bool na, Value.slice A n c] 27)).alloc (Obj.cells #[Value.bool na, Value.slice B n d] 27) := ⟨_, rfl⟩
      rw [← hW]
      have b0 : Box W w.heap.size na (.slice A n c) := by rw [hW]; exact (Box.new w _ _).alloc _
      have b1 : Box W (w.heap.size + 1) na (.slice B n d) := by rw [hW]; have := Box.new (w.alloc (Obj.cells #[Value.bool na, Value.slice A n c] 27)) na (.slice B n d); simpa using this
      have w1 : Wd W A n (mag a.natAbs) := by rw [hW]; exact (HA.out.alloc _).alloc _
      have w2 : Wd W B n (mag b.natAbs) := by rw [hW]; exact (HB.out.alloc _).alloc _
      have hbW : Below w.heap.size w W := by rw [hW]; exact ((Below.refl _ _).alloc (Nat.le_refl _) _).alloc (by simp) _
      have c0 := b0.cell0
      have c1 := b0.cell1
      have c2 := b1.cell0
      have c3 := b1.cell1
      have W1 := Lib.hid w1
      have W2 := Lib.hid w2
      clear hW b0 b1 w1 w2
      generalize hg0 : w.heap.size = g at *
      go_loopw [5] (fun t wr => ∃ k q : Nat, k ≤ n ∧ t = .int .i64 k ∧ wr = W.drewN q ∧ SameFrom (mag a.natAbs) (mag b.natAbs) k k) (fun t _ => n - (intOf t).toNat)
      case atStart => exact ⟨0, 0, Nat.zero_le _, rfl, rfl, fun j h1 h2 => by omega⟩
      case round =>
        obtain ⟨k, q, hk, rfl, rfl, hsm⟩ := hrel
        have HSM := Lib.hid hsm
        clear hsm
        by_cases hlt : k < n
        · obtain ⟨ba, oa, rfl, _, hca⟩ := W1.out.cells (by omega)
          obtain ⟨bb, ob, rfl, _, hcb⟩ := W2.out.cells (by omega)
          have d0 := hca k hlt
          have d1 := hcb k hlt
          have i0 : (0 : Int) ≤ (k : Int) := by omega
          have i1 : (k : Int) < n := by omega
          clear hca hcb
          by_cases he : gd (mag a.natAbs) k = gd (mag b.natAbs) k
          · have hne : (((gd (mag a.natAbs) k : Nat) : Int) != ((gd (mag b.natAbs) k : Nat) : Int)) = false := by rw [he]; simp
            have hsm2 : Hid (SameFrom (mag a.natAbs) (mag b.natAbs) (k + 1) (k + 1)) := fun j h1 h2 => by
              by_cases e : j = k
              · rw [e]; exact he
              · exact HSM.out j (by omega) (by omega)
            clear he
            go_wp2
            go_quiet (fail)
            go_wp2
            go_roundw
            case rel => exact ⟨k + 1, _, by omega, by go_num, rfl, hsm2⟩
            case measure => simp [intOf]; omega
          · have hne : (((gd (mag a.natAbs) k : Nat) : Int) != ((gd (mag b.natAbs) k : Nat) : Int)) = true := by simp; omega
            have hfin : Hid (decide (a = b) = false) := hab.out (fun e => he (by rw [e]))
            clear he
            go_wp2
            go_quiet (fail)
            go_wp2
            go_ret
            exact ⟨by rw [hfin.out]; rfl, by rw [hg0]; exact below_drewN (below_drewN hbW _) _⟩
        · have hge : n ≤ k := by omega
          have hfin : Hid (decide (a = b) = true) := hbT.out (hres.out (by first | rfl | trivial) (by
            have := drop_same (p := 0) W1.out.len W2.out.len (fun j _ h2 => HSM.out j (by omega) (by omega))
            exact mag_inj (by simpa using this)))
          go_wp2
          go_ret
          exact ⟨by rw [hfin.out]; rfl, by rw [hg0]; exact below_drewN hbW _⟩
    · have ht2 : ((n : Int) != (m : Int)) = true := by simp; omega
      have hfin : Hid (decide (a = b) = false) := hab.out (fun e => hnm (agg_eq_of HA.out HB.out e))
      go_enter Try.func19, Try.ntmps19
      go_wp2
      go_ret
      exact ⟨by rw [hfin.out]; rfl, ((Below.refl _ _).alloc (Nat.le_refl _) _).alloc (by simp) _⟩
  · have ht : (na != nb) = true := by simp [hs]
    have hfin := Lib.hid (hsg.out hs)
    go_enter Try.func19, Try.ntmps19
    go_wp2
    go_ret
    exact ⟨by rw [hfin.out]; rfl, ((Below.refl _ _).alloc (Nat.le_refl _) _).alloc (by simp) _⟩
end Go.Proofs.Ytpklphdhigkmmaa
