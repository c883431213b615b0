/-
  Minimal.
-/
import Derived.Test.YtchkaaeipafdnaaMonH
namespace Go.Proofs.Ytchkaaeipafdnaa
open Go.RowKit
attribute [local go_sem ↓] Go.wp_at_zero Go.wp_at_succ

theorem kp_drop_keep {s : List Mn} {k : Nat} (hk : k < s.length) (h : anyDv (mg s k) (s.drop (k + 1)) = true) : kp (s.drop k) = kp (s.drop (k + 1)) := by
  have e : s.drop k = mg s k :: s.drop (k + 1) := by rw [List.drop_eq_getElem_cons hk]; congr 1; simp [mg, hk]
  rw [e, kp, if_pos h]
theorem kp_drop_out {s : List Mn} {k : Nat} (hk : k < s.length) (h : anyDv (mg s k) (s.drop (k + 1)) = false) : kp (s.drop k) = mg s k :: kp (s.drop (k + 1)) := by
  have e : s.drop k = mg s k :: s.drop (k + 1) := by rw [List.drop_eq_getElem_cons hk]; congr 1; simp [mg, hk]
  rw [e, kp, if_neg (by rw [h]; simp)]
def MinP (l l' : List Mn) : Prop := MinOf l l' ∧ l'.length ≤ l.length
set_option maxHeartbeats 1000000 in
theorem minimal_any (v : Value) (l : List Mn) (w : World) (hl : Sl w v l) (hn : l.length ≤ 1000000) : Calls Try.prog 33 #[v] w (RetS w (MinP l)) := by
  have HL := Lib.hid hl; have HN := Lib.hid hn
  clear hl hn
  go_enter Try.func33, Try.ntmps33
  go_wp2_with fail
  refine (decreasing_any l.length v l _ HL.out ⟨Nat.le_refl _, HN.out⟩).mono ?_
  rintro e w1 ⟨v1, s, rfl, ⟨A, n, c, rfl, h1, h2, h3, h4⟩, ⟨hp, hsrt⟩, hb1⟩
  have S0 := Lib.hid h4; have HP := Lib.hid hp; have HS := Lib.hid hsrt; have B1 := Lib.hid hb1; have HA := Lib.hid h3
  have SL := Lib.hid h4.len
  have NL := Lib.hid (show n ≤ 1000000 by have := h4.len; have := hp.length_eq; have := HN.out; omega)
  clear h4 hp hsrt hb1 h3
  go_wp2_with fail
  obtain ⟨W1, hW1⟩ : ∃ W1, W1 = w1.alloc (Obj.cells #[Value.slice A n c] 42) := ⟨_, rfl⟩
  rw [← hW1]
  have SB := Lib.hid (show SBox W1 w1.heap.size (.slice A n c) by rw [hW1]; exact SBox.new _ _)
  have S1 := Lib.hid (show Ms W1 A n s by rw [hW1]; exact S0.out.alloc _)
  have D1 := Lib.hid (show Below w.heap.size w W1 by rw [hW1]; exact B1.out.alloc B1.out.size _)
  generalize w1.heap.size = g at *
  clear hW1 S0 B1
  go_loopw [5, 6, 7, 13] (fun s5 _ _ i wr => ∃ (k : Nat) (o : List Mn), k ≤ n ∧ i = .int .i64 k ∧ wr.ownsRow W1.heap.size 27 8 s5 o.length (cs o) ∧ Below W1.heap.size W1 wr ∧ o ++ kp (s.drop k) = kp s) (fun _ _ _ i _ => n - (intOf i).toNat)
  case atStart => exact ⟨0, [], by omega, rfl, World.ownsRow_nil _ _ _ _, Below.refl _ _, rfl⟩
  case round =>
    obtain ⟨k, o, hk, rfl, ho, hd, hkp⟩ := hrel
    have OW := Lib.hid ho; have DD := Lib.hid hd; have KP := Lib.hid hkp
    have LO := Lib.hid (show o.length ≤ 1000000 by
      have e1 := congrArg List.length hkp
      have e2 := kp_len s
      have := SL.out
      have := NL.out
      simp at e1
      omega)
    clear ho hd hkp
    by_cases hlt : k < n
    · obtain ⟨b, q, rfl, hbl, hrg⟩ := S1.out.at_ hlt
      have HR := Lib.hid (rangeAt_keep hrg (DD.out.block _ hbl))
      clear hrg hbl
      go_upto_region 7 with (refine ldm _ b (q + k * 8) HR.out rfl rfl rfl ?_)
      have O6 := Lib.hid (OW.out.alloc (Obj.cells (cls (mg s k)) 27)); have R6 := Lib.hid (Row.new wr (mg s k))
      have D6 := Lib.hid (DD.out.alloc DD.out.size (Obj.cells (cls (mg s k)) 27))
      have Z6 := Lib.hid (show W1.heap.size ≤ (wr.alloc (Obj.cells (cls (mg s k)) 27)).heap.size by have := DD.out.size; simp; omega)
      generalize wr.heap.size = g6 at *
      generalize wr.alloc (Obj.cells (cls (mg s k)) 27) = W6 at *
      have SB6 := Lib.hid (show SBox W6 g (.slice (some ⟨b, q, none⟩) n c) from (D6.out.block _ SB.out.lt).trans SB.out)
      have S6 := Lib.hid (S1.out.keep D6.out.size (fun b _ _ hlt => D6.out.block b hlt))
      go_wp2_with fail
      cases hdv : anyDv (mg s k) (s.drop (k + 1)) with
      | true =>
        have HD := Lib.hid hdv
        clear hdv
        refine (divided_any k n c g _ s true _ SB6.out S6.out hlt NL.out h1 HD.out).mono ?_
        rintro e w2 ⟨rfl, hb2⟩
        have B2 := Lib.hid hb2
        clear hb2
        go_wp2_with fail
        go_roundw
        case rel => exact ⟨k + 1, o, by omega, by go_num, O6.out.kept (row := none) ⟨B2.out.os, B2.out.tape, B2.out.output, B2.out.size, fun k hk _ => B2.out.block k hk⟩ (by cases u5.ownBlock <;> simp), below_link D6.out B2.out Z6.out, by rw [← kp_drop_keep (by have := SL.out; omega) HD.out]; exact KP.out⟩
        case measure => simp [intOf]; omega
      | false =>
        have HD := Lib.hid hdv
        clear hdv
        refine (divided_any k n c g _ s false _ SB6.out S6.out hlt NL.out h1 HD.out).mono ?_
        rintro e w2 ⟨rfl, hb2⟩
        have O2 := Lib.hid (O6.out.kept (w' := w2) (row := none) ⟨hb2.os, hb2.tape, hb2.output, hb2.size, fun k hk _ => hb2.block k hk⟩ (by cases u5.ownBlock <;> simp))
        have D2 := Lib.hid (below_link D6.out hb2 Z6.out)
        have R2 := Lib.hid (R6.out.below hb2 R6.out.lt)
        have Z2 := Lib.hid (show W1.heap.size ≤ w2.heap.size by have := hb2.size; have := Z6.out; omega)
        clear hb2
        go_wp2_with (first | (refine ld _ g6 R2.out rfl rfl rfl ?_) | (at_builtin; refine app _ _ W1.heap.size (l := [mg s k]) (O2.out.alloc _) (one_sl w2 (mg s k)) (by have := LO.out; simp; omega) (by have := Z2.out; simp; omega) rfl rfl rfl rfl ?_; intro v' w' g1 g2 _; have G1 := Lib.hid g1; have G2 := Lib.hid g2; clear g1 g2))
        have D3 := Lib.hid ((D2.out.alloc Z2.out (Obj.cells (cls (mg s k)) 27)).grown G2.out (by have := Z2.out; simp; omega) (fun k hk => (O2.out.lt k hk).1))
        go_roundw
        case rel => exact ⟨k + 1, o ++ [mg s k], by omega, by go_num, G1.out, D3.out, by rw [List.append_assoc]; have := KP.out; rw [kp_drop_out (by have := SL.out; omega) HD.out] at this; exact this⟩
        case measure => simp [intOf]; omega
    · obtain rfl : k = n := by omega
      go_wp2
      go_ret
      have e : o = kp s := by
        have := KP.out
        rw [List.drop_of_length_le (by rw [SL.out]; omega)] at this
        simpa [kp] using this
      refine ⟨_, o, rfl, Sl.of_own OW.out, ⟨by rw [e]; exact minOf_kp HP.out HS.out, by rw [e, ← HP.out.length_eq]; exact kp_len s⟩, D1.out.trans (DD.out.mono D1.out.size)⟩
end Go.Proofs.Ytchkaaeipafdnaa
