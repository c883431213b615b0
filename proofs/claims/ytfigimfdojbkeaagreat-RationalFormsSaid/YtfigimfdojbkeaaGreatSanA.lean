/-
  Contracts of the reference's Made and Valid.
  Contracts of Pow and Root.
  Contracts of the reference's trim, words, made and Of, and of the law's of.
  Contracts of the reference's word and added. Contract of the reference's times.
  Parse of "-0".
  The law's 'three', where it is true.
-/
import Derived.Test.YtfigimfdojbkeaaGreatTextB
import Derived.Test.YtfigimfdojbkeaaGreatIntA
import Derived.Laws.AppendOwnNone
import Derived.Deep.AppendLies
import Derived.OwnWalk
import Derived.Deep.DeepCutAuto
import Derived.Handy
import Derived.Lib.SliceRun
import Derived.Deep.DrawnRows
import Derived.Test.YtfigimfdojbkeaaGreatIntE
import Derived.Deep.QuietTactic
import Derived.BigQuiet
import Derived.Test.YtfigimfdojbkeaaGreatIntC
set_option linter.unusedSimpArgs false
set_option linter.unusedVariables false
section
namespace Go.Proofs.YtfigimfdojbkeaaGreat
open Go.RowKit
attribute [local go_sem ↓] Go.wp_at_zero Go.wp_at_succ

set_option maxHeartbeats 1000000 in
theorem rvalid_any (va : Value) (z : Int) (w : World) (ha : Iv w va z) (sa : Sz z 1000000) : Calls Tryz.prog 115 #[va] w (RetV (.bool true) w) := by
  obtain ⟨A, n, c, rfl, h1, h2, h3⟩ := ha.form
  have hn : n ≤ 1000000 := by rw [← h3.len]; exact sa.len
  by_cases h0 : n = 0
  · have hz := h3.pos_iff.1 h0
    subst h0
    subst hz
    clear h3 sa ha
    go_enter Tryz.func115, Tryz.ntmps115
    go_wp2
    go_ret
    exact ⟨by simp, (Below.refl _ _).alloc (Nat.le_refl _) _⟩
  · have hc := (mag_can z.natAbs).2.resolve_left (fun e => h0 (by have := h3.len; rw [e] at this; simpa using this.symm))
    rw [h3.len] at hc
    obtain ⟨b, o, rfl, hlt, hcell⟩ := h3.cells (by omega)
    have c0 := hcell (n - 1) (by omega)
    have c1 : (w.alloc (.cells #[.bool (decide (z < 0)), .slice (some ⟨b, o, none⟩) n c] 29)).cell? ⟨b, o + (n - 1), none⟩ = some (.int .u32 (gd (mag z.natAbs) (n - 1) : Nat)) := by
      rw [World.cell?_alloc_past _ _ _ hlt]; exact c0
    have hne : ((gd (mag z.natAbs) (n - 1) : Nat) : Int) != 0 := by simp; exact hc
    have ht : ((n : Int) == 0) = false := by simp; omega
    have i0 : (0 : Int) ≤ (n : Int) - 1 := by omega
    have i1 : (n : Int) - 1 < n := by omega
    generalize gd (mag z.natAbs) (n - 1) = top at *
    clear h3 sa ha hc hcell c0
    go_enter Tryz.func115, Tryz.ntmps115
    go_wp2
    go_ret
    exact ⟨by rw [← hne]; rfl, (Below.refl _ _).alloc (Nat.le_refl _) _⟩
end Go.Proofs.YtfigimfdojbkeaaGreat
end

section
namespace Go.Proofs.YtfigimfdojbkeaaGreat
open Go.RowKit
attribute [local go_sem ↓] Go.wp_at_zero Go.wp_at_succ

end Go.Proofs.YtfigimfdojbkeaaGreat
end

section
namespace Go.Proofs.YtfigimfdojbkeaaGreat
open Go.RowKit
attribute [local go_sem ↓] Go.wp_at_zero Go.wp_at_succ

set_option maxHeartbeats 400000 in
theorem rtrim_any (A : Option Addr) (n c : Nat) (ws : List Nat) (w : World) (h : Wd w A n ws) (hn : n ≤ 1099511627776) (hc : n ≤ c) :
    Calls Tryz.prog 181 #[.slice A n c] w (RetTrim A c ws w) := by
  have hl := h.1
  have hw := h.wds
  have HL := Lib.hid hl
  have H := Lib.hid h
  clear hl h
  go_enter Tryz.func181, Tryz.ntmps181
  go_wp2
  go_loop [3] (fun v => ∃ m : Nat, m ≤ n ∧ v = .int .i64 m ∧ TrimRel n ws m) (fun v => (intOf v).toNat)
  case atStart => exact ⟨n, Nat.le_refl _, rfl, fun k h1 h2 => by omega⟩
  case round =>
    obtain ⟨m, hm, rfl, hz⟩ := hrel
    by_cases hpos : 0 < m
    · obtain ⟨b, o, rfl, _, hcs⟩ := H.out.cells (show 0 < n by omega)
      have hcell := hcs (m - 1) (by omega)
      obtain ⟨m, rfl⟩ : ∃ m', m = m' + 1 := ⟨m - 1, by omega⟩
      rw [Nat.add_sub_cancel] at hcell
      clear hcs
      by_cases hx : gd ws m = 0
      · rw [hx] at hcell
        have HX := Lib.hid hx
        clear hx
        go_wp2
        go_round
        case rel => exact ⟨m, by omega, rfl, fun k h1 h2 => by
          rcases Nat.eq_or_lt_of_le h1 with e | e
          · rw [← e]; exact HX.out
          · exact hz k e h2⟩
        case measure => simp [intOf]
      · have hx2 : (((gd ws m : Nat) : Int) == 0) = false := by rw [beq_eq_false_iff_ne]; omega
        have HX := Lib.hid hx
        clear hx
        go_wp2
        go_ret
        exact ⟨m + 1, by rw [HL.out]; omega, rfl, trim_done hw HL.out hm hz (.inr (by simpa using HX.out)), rfl⟩
    · have hm0 : m ≤ 0 := by omega
      go_wp2
      go_ret
      exact ⟨0, Nat.zero_le _, rfl, trim_done hw HL.out (Nat.zero_le _) (fun k h1 h2 => hz k (by omega) h2) (.inl rfl), rfl⟩

set_option maxHeartbeats 400000 in
theorem rwords_any (x : Nat) (w : World) (hx : x < 18446744073709551616) :
    Calls Tryz.prog 144 #[.int .u64 x] w (RetMg x w) := by
  go_enter Tryz.func144, Tryz.ntmps144
  go_wp2_with fail
  refine (rtrim_any _ 2 2 [x % 4294967296, x / 4294967296] _ (Blk.two (by omega) (by omega) (by omega) (by omega)).whole (by omega) (by omega)).mono ?_
  rintro e w' ⟨m, hm, rfl, ht, rfl⟩
  have HT := Lib.hid ht
  clear ht
  go_wp2
  go_ret
  have h0 := Blk.two (w := w) (a := x % 4294967296) (b := x / 4294967296) (i := (x : Int) % 4294967296) (j := (x : Int) / 4294967296) (by omega) (by omega) (by omega) (by omega)
  have h1 := h0.whole.mg (c := 2) hm (by simp) (by omega) HT.out
  rw [val_two, show x % 4294967296 + 4294967296 * (x / 4294967296) = x by omega] at h1
  exact ⟨_, rfl, h1, (Below.refl _ _).alloc (Nat.le_refl _) _⟩

set_option maxHeartbeats 1000000 in
theorem made_any (b : Bool) (A : Option Addr) (n c : Nat) (ws : List Nat) (w : World) (h : Wd w A n ws) (hn : n ≤ 1099511627776) (hc : n ≤ c) (hcb : c ≤ 9223372036854775807) :
    Calls Tryz.prog 143 #[.bool b, .slice A n c] w (RetIv (sgn b (val ws)) w) := by
  have H := Lib.hid h
  clear h
  have fin : ∀ m, m ≤ n → ws.take m = mag (val ws) → ∀ W, Below w.heap.size w W → W.heap.size = w.heap.size + 1 → Iv W (.agg #[.bool (b && decide (0 < m)), .slice A m c]) (sgn b (val ws)) := by
    intro m hm ht W hW _
    have h1 := (H.out.take hm)
    rw [ht] at h1
    refine ⟨.slice A m c, by rw [sgn_neg, len_pos h1], A, m, c, rfl, by omega, hcb, ?_⟩
    rw [sgn_abs]
    exact h1.below hW
  have FIN := Lib.hid fin
  clear fin
  cases b
  all_goals
    go_enter Tryz.func143, Tryz.ntmps143
    go_wp2_with fail
    refine (rtrim_any A n c ws _ (H.out.alloc _) hn hc).mono ?_
    rintro e w' ⟨m, hm, rfl, ht, rfl⟩
    rw [H.out.len] at hm
    have HT := Lib.hid ht
    clear ht
    by_cases hm0 : 0 < m
    all_goals
      have hf := Lib.hid (FIN.out m hm HT.out)
      go_wp2
      refine bodyPost_ret (v := .agg #[.bool (_ && decide (0 < m)), .slice A m c]) (by simp [results, Tryz.results143, go_sem, hm0]) rfl ⟨_, rfl, hf.out _ ((Below.refl _ _).alloc (Nat.le_refl _) _) (by simp), (Below.refl _ _).alloc (Nat.le_refl _) _⟩

set_option maxHeartbeats 1000000 in
theorem rof_any (z : Int) (w : World) (h1 : -9223372036854775808 ≤ z) (h2 : z ≤ 9223372036854775807) :
    Calls Tryz.prog 89 #[.int .i64 z] w (RetIv z w) := by
  by_cases h0 : z < 0
  · obtain ⟨x, rfl⟩ : ∃ x : Nat, z = -(x : Int) := ⟨z.natAbs, by omega⟩
    have e2 : Hid (sgn true (val (mag x)) = -(x : Int)) := by rw [val_mag]; rfl
    go_enter Tryz.func89, Tryz.ntmps89
    go_wp2_with fail
    rw [show -(-(x : Int) + 1) + 1 = (x : Int) by omega]
    refine (rwords_any x _ (by omega)).mono ?_
    rintro e w1 ⟨v1, rfl, ⟨A1, n1, c1, rfl, a1, a2, a3⟩, hbl1⟩
    have A3 := Lib.hid a3
    have hn1 : n1 ≤ 2 := by rw [← a3.len]; exact mag_length_le (by rw [show pw 2 = 18446744073709551616 from rfl]; omega)
    clear a3
    go_wp2_with fail
    refine (made_any true A1 n1 c1 (mag x) _ A3.out (by omega) a1 a2).mono ?_
    rintro e w2 ⟨v2, rfl, hv2, hbl2⟩
    rw [e2.out] at hv2
    obtain ⟨A2, n2, c2, rfl, k1, k2, k3⟩ := hv2.form
    have HV := Lib.hid hv2
    have hbx1 : Box w1 w.heap.size false (.slice none 0 0) := (Box.new w _ _).below hbl1 (by simp)
    have hbx2 := Lib.hid (hbx1.below hbl2 hbx1.lt)
    have q0 := hbx2.out.cell0
    have q1 := hbx2.out.cell1
    have q2 := hbx2.out.frozen 0
    have q3 := hbx2.out.frozen 1
    have hbl02 : Below w.heap.size w w2 := (below_new hbl1).trans (hbl2.mono (below_new hbl1).size)
    clear k3 hbx1 hv2
    go_wp2
    exact bodyPost_ret (v := .agg #[.bool (decide (-(x : Int) < 0)), .slice A2 n2 c2]) (by simp [results, Tryz.results89, go_sem, q0, q1]; omega) rfl ⟨_, rfl, iv_keep HV.out hbx2.out _, (hbl02.setCell (Nat.le_refl _) _).setCell (Nat.le_refl _) _⟩
  · obtain ⟨x, rfl⟩ : ∃ x : Nat, z = (x : Int) := ⟨z.natAbs, by omega⟩
    have e2 : Hid (sgn false (val (mag x)) = (x : Int)) := by rw [val_mag]; rfl
    go_enter Tryz.func89, Tryz.ntmps89
    go_wp2_with fail
    refine (rwords_any x _ (by omega)).mono ?_
    rintro e w1 ⟨v1, rfl, ⟨A1, n1, c1, rfl, a1, a2, a3⟩, hbl1⟩
    have A3 := Lib.hid a3
    have hn1 : n1 ≤ 2 := by rw [← a3.len]; exact mag_length_le (by rw [show pw 2 = 18446744073709551616 from rfl]; omega)
    clear a3
    go_wp2_with fail
    refine (made_any false A1 n1 c1 (mag x) _ A3.out (by omega) a1 a2).mono ?_
    rintro e w2 ⟨v2, rfl, hv2, hbl2⟩
    rw [e2.out] at hv2
    obtain ⟨A2, n2, c2, rfl, k1, k2, k3⟩ := hv2.form
    have HV := Lib.hid hv2
    have hbx1 : Box w1 w.heap.size false (.slice none 0 0) := (Box.new w _ _).below hbl1 (by simp)
    have hbx2 := Lib.hid (hbx1.below hbl2 hbx1.lt)
    have q0 := hbx2.out.cell0
    have q1 := hbx2.out.cell1
    have q2 := hbx2.out.frozen 0
    have q3 := hbx2.out.frozen 1
    have hbl02 : Below w.heap.size w w2 := (below_new hbl1).trans (hbl2.mono (below_new hbl1).size)
    clear k3 hbx1 hv2
    go_wp2
    exact bodyPost_ret (v := .agg #[.bool (decide ((x : Int) < 0)), .slice A2 n2 c2]) (by simp [results, Tryz.results89, go_sem, q0, q1]) rfl ⟨_, rfl, iv_keep HV.out hbx2.out _, (hbl02.setCell (Nat.le_refl _) _).setCell (Nat.le_refl _) _⟩

theorem agg_eq_of {w : World} {a b : Int} {A B : Option Addr} {n m : Nat} (ha : Wd w A n (mag a.natAbs)) (hb : Wd w B m (mag b.natAbs)) (h : a.natAbs = b.natAbs) : n = m := by
  rw [← ha.len, ← hb.len, h]

end Go.Proofs.YtfigimfdojbkeaaGreat
end

section
namespace Go.Proofs.YtfigimfdojbkeaaGreat
open Go.RowKit
attribute [local go_sem ↓] Go.wp_at_zero Go.wp_at_succ

set_option maxHeartbeats 400000 in
theorem rword_any (A : Option Addr) (n c : Nat) (ws : List Nat) (k : Int) (w : World) (h : Wd w A n ws) (hn : n ≤ 1099511627776) (hk : 0 ≤ k) :
    Calls Tryz.prog 182 #[.slice A n c, .int .i64 k] w fun e w' => e = .returned (.int .u64 (gd ws k.toNat : Nat)) ∧ w = w' := by
  obtain ⟨k, rfl⟩ := Int.eq_ofNat_of_zero_le hk
  rw [Int.toNat_natCast]
  by_cases hlt : k < n
  · obtain ⟨ad, rfl, _, hc⟩ := h.cell hlt
    have hg := h.wds.getD k
    have hw : IntKind.u64.wrap ((gd ws k : Nat) : Int) = ((gd ws k : Nat) : Int) := by rw [IntKind.wrap_u64]; omega
    clear h
    go_enter Tryz.func182, Tryz.ntmps182
    go_wp2
    go_ret
    exact ⟨rfl, rfl⟩
  · have e : gd ws k = 0 := by rw [gd_eq, List.getElem?_eq_none (by rw [h.1]; omega)]; rfl
    rw [e]
    clear h e
    go_enter Tryz.func182, Tryz.ntmps182
    go_wp2
    go_ret
    exact ⟨rfl, rfl⟩

set_option maxHeartbeats 1000000 in
theorem radded_at (A B : Option Addr) (n m c d x y N : Nat) (w : World) (ha : Wd w A n (mag x)) (hb : Wd w B m (mag y)) (hn : n ≤ 1000000000) (hm : m ≤ 1000000000)
    (hN1 : n + 1 ≤ N) (hN2 : m + 1 ≤ N) (hN3 : N ≤ n + 1 ∨ N ≤ m + 1) :
    Calls Tryz.prog 145 #[.slice A n c, .slice B m d] w (RetMg (x + y) w) := by
  have HA := Lib.hid ha
  have HB := Lib.hid hb
  clear ha hb
  go_enter Tryz.func145, Tryz.ntmps145
  go_wp2_with (first
    | (refine wpList_make_blk rfl _ _ _ rfl Tryz.underlying27 u32_info _ _ _ _ N rfl rfl (by first | omega | (split <;> omega)) (by first | omega | (split <;> omega)) (by omega) ?_
       intro w1 hb1 hs1 hbl1
       have HB1 := Lib.hid hb1
       have HS1 := Lib.hid hs1
       clear hb1 hs1))
  all_goals
    go_loopw [7, 8] (fun cy t wr => ∃ k carry : Nat, ∃ out, k ≤ N ∧ carry ≤ 1 ∧ cy = .int .u64 carry ∧ t = .int .i64 k ∧ PlusRel x y N k carry out ∧ Blk wr w.heap.size out ∧ Below w.heap.size w wr ∧ Only w.heap.size w1 wr)
      (fun _ t _ => N - (intOf t).toNat)
    case atStart => exact ⟨0, 0, List.replicate N 0, Nat.zero_le _, by omega, rfl, rfl, ⟨by simp, by omega, by simp [val, pw_zero]⟩, HB1.out, hbl1, Only.refl _ _⟩
    case round =>
      obtain ⟨k, carry, out, hk, hcy, rfl, rfl, hrel, hblk, hbl, hon⟩ := hrel
      have HR := Lib.hid hrel
      have HBK := Lib.hid hblk
      clear hrel hblk
      by_cases hlt : k < N
      · have h1 := (mag_wds x).getD k
        have h2 := (mag_wds y).getD k
        have hcell := HBK.out.cell (i := k) (by rw [HR.out.1]; omega)
        have hfro := HBK.out.frozen k
        have hR2 := Lib.hid (HR.out.step hlt)
        go_wp2_with fail
        refine (rword_any A n c (mag x) k _ (HA.out.below hbl) (by omega) (by omega)).mono ?_
        rintro e w' ⟨rfl, rfl⟩
        rw [Int.toNat_natCast]
        go_wp2_with fail
        refine (rword_any B m d (mag y) k _ (HB.out.below hbl) (by omega) (by omega)).mono ?_
        rintro e w' ⟨rfl, rfl⟩
        rw [Int.toNat_natCast]
        go_wp2
        go_roundw
        case rel => exact ⟨k + 1, _, _, by omega, by omega, by go_num, by go_num, hR2.out, HBK.out.set_i k _ (by omega) (by omega), hbl.setCell (Nat.le_refl _) _, hon.set_ _ _⟩
        case measure => simp [intOf]; omega
      · obtain rfl : k = N := by omega
        have hd := Lib.hid (HR.out.done (by rw [HA.out.len]; omega) (by rw [HB.out.len]; omega))
        have hlen := Lib.hid HR.out.1
        go_wp2_with fail
        refine (rtrim_any _ k k out _ (by have := HBK.out.whole; rwa [hlen.out] at this) (by omega) (by omega)).mono ?_
        rintro e w' ⟨q, hq, rfl, ht, rfl⟩
        have HT := Lib.hid ht
        clear ht
        go_wp2
        go_ret
        have h1 := HBK.out.whole.mg (c := k) hq (by rw [hlen.out]; omega) (by omega) HT.out
        rw [hd.out] at h1
        exact ⟨_, rfl, h1, hbl⟩

theorem radded_any (A B : Option Addr) (n m c d x y : Nat) (w : World) (ha : Wd w A n (mag x)) (hb : Wd w B m (mag y)) (hn : n ≤ 1000000000) (hm : m ≤ 1000000000) :
    Calls Tryz.prog 145 #[.slice A n c, .slice B m d] w (RetMg (x + y) w) := by
  rcases Nat.le_total n m with h | h
  · exact radded_at A B n m c d x y (m + 1) w ha hb hn hm (by omega) (by omega) (.inr (by omega))
  · exact radded_at A B n m c d x y (n + 1) w ha hb hn hm (by omega) (by omega) (.inl (by omega))
end Go.Proofs.YtfigimfdojbkeaaGreat
end

section
namespace Go.Proofs.YtfigimfdojbkeaaGreat
open Go.RowKit
attribute [local go_sem ↓] Go.wp_at_zero Go.wp_at_succ

set_option maxHeartbeats 4000000 in
theorem rtimes_any (A B : Option Addr) (n m c d x y : Nat) (w : World) (ha : Wd w A n (mag x)) (hb : Wd w B m (mag y)) (hn : n ≤ 100000000) (hm : m ≤ 100000000) :
    Calls Tryz.prog 148 #[.slice A n c, .slice B m d] w (RetMg (y * x) w) := by
  have HA := Lib.hid ha
  have HB := Lib.hid hb
  clear ha hb
  go_enter Tryz.func148, Tryz.ntmps148
  go_wp2_with (first
    | (refine wpList_make_blk rfl _ _ _ rfl Tryz.underlying27 u32_info _ _ _ _ (n + m) rfl rfl (by omega) (by omega) (by omega) ?_
       intro w1 hb1 hs1 hbl1
       have HB1 := Lib.hid hb1
       have HS1 := Lib.hid hs1
       clear hb1 hs1))
  go_loopw [6, 7, 8, 9] (fun t _ _ _ wr => ∃ i : Nat, ∃ lo hi, i ≤ n ∧ t = .int .i64 i ∧ TimesRel y x m n i lo hi ∧ Blk wr w.heap.size (lo ++ hi) ∧ Below w.heap.size w wr)
      (fun t _ _ _ _ => n - (intOf t).toNat)
  case atStart => exact ⟨0, List.replicate m 0, List.replicate n 0, Nat.zero_le _, rfl, ⟨by simp, by simp, by simp, by simp [val, val_replicate]⟩, by rw [List.replicate_append_replicate, Nat.add_comm m n]; exact HB1.out, hbl1⟩
  case round =>
    obtain ⟨i, lo, hi, hi1, rfl, hrel, hblk, hbl⟩ := hrel
    have HR := Lib.hid hrel
    have HBK := Lib.hid hblk
    clear hrel hblk
    obtain ⟨V, hVV⟩ : ∃ V, V = wr := ⟨_, rfl⟩
    subst hVV
    by_cases hlt : i < n
    · have h1 := (mag_wds x).getD i
      have hlen := HR.out.len
      have e1 : (lo.take i).length = i := by rw [List.length_take]; omega
      have e2 : (lo.drop i).length = m := by rw [List.length_drop]; omega
      have hb3 : Blk V w.heap.size (lo.take i ++ lo.drop i ++ hi) := by rw [List.take_append_drop]; exact HBK.out
      have E1 := Lib.hid e1
      have E2 := Lib.hid e2
      have HB3 := Lib.hid hb3
      have h1' : (i : Int) < n := by omega
      have hws : w.heap.size ≤ V.heap.size := hbl.size
      clear e1 e2 hlen hb3
      obtain ⟨wd, hwd⟩ : ∃ wd, wd = gd (mag x) i := ⟨_, rfl⟩
      rw [← hwd] at h1
      have HWD := Lib.hid hwd
      clear hwd
      go_wp2_with fail
      go_loopw [7, 8, 9] (fun v7 v8 _ wq => ∃ k carry : Nat, ∃ dn rest, k ≤ m ∧ carry < 4294967296 ∧ v7 = .int .u64 carry ∧ v8 = .int .i64 k ∧ AddRel (lo.drop i) (mag y) m wd k carry dn rest ∧ Blk wq w.heap.size (lo.take i ++ dn ++ (rest ++ hi)) ∧ Only w.heap.size V wq)
        (fun _ v8 _ _ => m - (intOf v8).toNat)
      case atStart => exact ⟨0, 0, [], lo.drop i, Nat.zero_le _, by omega, rfl, rfl, ⟨rfl, by simpa using E2.out, rfl, Wds.nil, by simp [val]⟩, by rw [List.append_nil, ← List.append_assoc]; exact HB3.out, Only.refl _ _⟩
      case round =>
        obtain ⟨k, carry, dn, rest, hk, hcy, rfl, rfl, hrel, hblk, hon⟩ := hrel
        have HBQ := Lib.hid hblk
        have HON := Lib.hid hon
        have hblq := Lib.hid (hbl.trans (hon.below (Nat.le_refl _) hws))
        clear hblk hon
        by_cases hltk : k < m
        · obtain ⟨r, hr, hstep⟩ := hrel.step E2.out hltk
          subst hr
          have HL := Lib.hid hrel.len
          have HST := Lib.hid hstep
          clear hrel hstep
          have h2 := (mag_wds y).getD k
          have hmul := mul_bound h1 h2
          have hm0 : (0 : Int) ≤ (wd : Int) * (gd (mag y) k : Int) := Int.mul_nonneg (Int.natCast_nonneg _) (Int.natCast_nonneg _)
          have hm1 : (wd : Int) * (gd (mag y) k : Int) ≤ 18446744065119617025 := by rw [← Int.natCast_mul]; omega
          have i0 : (0 : Int) ≤ (k : Int) := by omega
          have i1 : (k : Int) < m := by omega
          have j0 : (0 : Int) ≤ (i : Int) := by omega
          have hcell := HBQ.out.cell (i := (lo.take i).length + k) (by simp [HL.out])
          rw [List.cons_append, gd_mid (lo.take i) dn _ k HL.out, show gd (gd (lo.drop i) k :: (r ++ hi)) 0 = gd (lo.drop i) k from rfl, E1.out] at hcell
          have h3 : gd (lo.drop i) k < 4294967296 := HBQ.out.2 _ (by simp)
          have hfro := HBQ.out.frozen (i + k)
          obtain ⟨ax, hax, _, hca⟩ := (HA.out.below hblq.out).cell hlt
          obtain ⟨bx, hbx, _, hcb⟩ := (HB.out.below hblq.out).cell hltk
          subst hax hbx
          rw [← HWD.out] at hca
          go_wp2_with fail
          go_quiet (fail)
          go_wp2
          go_roundw
          case rel =>
            have eT : (wd : Int) * (gd (mag y) k : Int) + (gd (lo.drop i) k : Int) + (carry : Int) = ((carry + (gd (mag y) k * wd + gd (lo.drop i) k) : Nat) : Int) := by
              rw [Int.natCast_add, Int.natCast_add, Int.natCast_mul]; grind
            have hset := (HBQ.out.drewN nq).set_i ((lo.take i).length + k) ((carry + (gd (mag y) k * wd + gd (lo.drop i) k)) % 4294967296) (j := ((wd : Int) * (gd (mag y) k : Int) + (gd (lo.drop i) k : Int) + (carry : Int)) % 4294967296) (by rw [eT]; simp) (Nat.mod_lt _ (by omega))
            rw [List.cons_append, set_mid (lo.take i) dn (r ++ hi) _ _ k HL.out, E1.out] at hset
            refine ⟨k + 1, (carry + (gd (mag y) k * wd + gd (lo.drop i) k)) / 4294967296, _, r, by omega, ?_, by rw [eT]; simp, by go_num, HST.out, hset, Only.set_ (g := w.heap.size) (only_drewN HON.out _) _ _⟩
            have hmul2 : gd (mag y) k * wd = wd * gd (mag y) k := Nat.mul_comm _ _
            omega
          case measure => simp [intOf]; omega
        · obtain rfl : k = m := by omega
          have hkk : decide ((k : Int) < k) = false := by simp
          have HR3 := Lib.hid hrel
          have hrest : rest = [] := List.eq_nil_of_length_eq_zero (by have := hrel.restlen; omega)
          subst hrest
          have he : val dn + pw k * carry = val (lo.drop i) + val (mag y) * gd (mag x) i := by
            have h3 := hrel.eq
            rw [val_take_all _ _ (by rw [E2.out]; omega), val_take_all _ _ (by rw [HB.out.len]; omega), HWD.out] at h3
            exact h3
          obtain ⟨r, hr, hstep⟩ := HR.out.step HB.out.len hlt hrel.len he
          subst hr
          have hpl : (lo.take i ++ dn).length = i + k := by rw [List.length_append, E1.out, hrel.len]
          have hb4 : Blk wr w.heap.size (lo.take i ++ dn ++ 0 :: r) := by have := HBQ.out; rwa [List.nil_append] at this
          have hcell := hb4.cell (i := i + k) (by rw [List.length_append, hpl]; simp)
          have hg0 : gd (lo.take i ++ dn ++ 0 :: r) (i + k) = 0 := by rw [gd_eq, List.getElem?_append_right (by omega), hpl, Nat.sub_self]; rfl
          rw [hg0] at hcell
          have hfro := hb4.frozen (i + k)
          have HBF : Hid (Blk (wr.setCell ⟨w.heap.size, i + k, none⟩ (.int .u32 (carry : Nat))) w.heap.size (lo.take i ++ dn ++ [carry] ++ r)) := by
            have := hb4.set_ (i + k) carry hcy
            rw [List.set_append_right _ _ (by omega), hpl, Nat.sub_self] at this
            simpa [Hid] using this
          have HST := Lib.hid hstep
          clear hb4 he hpl hstep hg0 hrel
          have hck : ¬ (n + k = i + k) := by omega
          go_wp2
          go_roundw
          case rel => exact ⟨i + 1, _, r, by omega, by go_num, HST.out, HBF.out, hblq.out.setCell (Nat.le_refl _) _⟩
          case measure => simp [intOf]; omega
    · obtain rfl : i = n := by omega
      have hz : hi = [] := List.eq_nil_of_length_eq_zero (by have := HR.out.hilen; omega)
      subst hz
      have hv : Hid (val lo = y * x) := by
        have := HR.out.eq
        rwa [val_take_all _ _ (by rw [HA.out.len]; omega), val_mag] at this
      have hlen := Lib.hid HR.out.len
      have HBL : Hid (Blk V w.heap.size lo) := by have := HBK.out; rwa [List.append_nil] at this
      have h1' : decide ((i : Int) < i) = false := by simp
      go_wp2_with fail
      refine (rtrim_any _ (i + m) (i + m) lo _ (by have := HBL.out.whole; rwa [hlen.out, Nat.add_comm m i] at this) (by omega) (by omega)).mono ?_
      rintro e w' ⟨q, hq, rfl, ht, rfl⟩
      have HT := Lib.hid ht
      clear ht
      go_wp2
      go_ret
      have h1 := HBL.out.whole.mg (c := i + m) hq (by rw [hlen.out]; omega) (by omega) HT.out
      rw [hv.out] at h1
      exact ⟨_, rfl, h1, hbl⟩
end Go.Proofs.YtfigimfdojbkeaaGreat
end

section
namespace Go.Proofs.YtfigimfdojbkeaaGreat
open Go.RowKit
attribute [local go_sem ↓] Go.wp_at_zero Go.wp_at_succ

end Go.Proofs.YtfigimfdojbkeaaGreat
end

section
namespace Go.Proofs.YtfigimfdojbkeaaGreat
open Go.RowKit
attribute [local go_sem ↓] Go.wp_at_zero Go.wp_at_succ

def I64 (z : Int) : Prop := -9223372036854775808 ≤ z ∧ z ≤ 9223372036854775807
theorem I64.sz {z : Int} (h : I64 z) : Sz z 2 := ⟨by
  have h1 := h.1
  have h2 := h.2
  have e : pw 2 = 18446744073709551616 := by decide
  rw [e]; omega⟩

end Go.Proofs.YtfigimfdojbkeaaGreat
end
