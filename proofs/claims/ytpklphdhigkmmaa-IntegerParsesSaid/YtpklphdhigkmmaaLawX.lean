/-
  The law IntegerParses: the walk.
-/
import Derived.Test.YtpklphdhigkmmaaRefG
import Derived.Test.YtpklphdhigkmmaaLawB
import Derived.Test.YtpklphdhigkmmaaSanB
import Derived.Test.YtpklphdhigkmmaaRegE
import Derived.Deep.DeepCutAuto
import Derived.Handy
namespace Go.Proofs.Ytpklphdhigkmmaa
open Go.RowKit
attribute [local go_sem ↓] Go.wp_at_zero Go.wp_at_succ

/-- The same answer of both Parses. -/
theorem both_parse (s : ByteArray) (hs : s.size ≤ 4000) : ∃ z c : Int, Sz z 4000 ∧ (∀ w, Calls Try.prog 42 #[.string s] w (RetE z c w)) ∧ (∀ w, Calls Try.prog 43 #[.string s] w (RetE z c w)) := by
  by_cases h : pok s.data.toList
  · exact ⟨_, 0, pval_sz hs h, fun w => parse_ok s w hs h, fun w => rparse_ok s w hs h⟩
  · exact ⟨0, 3, Sz.mono (I64.sz ⟨by omega, by omega⟩) (by omega), fun w => parse_no s w hs h, fun w => rparse_no s w hs h⟩

/-- The texts that are tried. -/
def texts5 (s : ByteArray) : Array Value := #[Value.string s, Value.string ({ data := #[45] } ++ s), Value.string ({ data := #[48] } ++ s), Value.string (s ++ { data := #[55] }), Value.string ({ data := #[52] } ++ s)]
theorem texts5_get {s : ByteArray} {i : Nat} (hi : i < 5) (hs : s.size ≤ 60) : ∃ t : ByteArray, (texts5 s)[i]? = some (.string t) ∧ t.size ≤ 61 := by
  have e : ∀ a b : ByteArray, (a ++ b).size = a.size + b.size := fun a b => ByteArray.size_append
  match i, hi with
  | 0, _ => exact ⟨_, rfl, by omega⟩
  | 1, _ => exact ⟨_, rfl, by rw [e, show (ByteArray.mk #[45]).size = 1 from rfl]; omega⟩
  | 2, _ => exact ⟨_, rfl, by rw [e, show (ByteArray.mk #[48]).size = 1 from rfl]; omega⟩
  | 3, _ => exact ⟨_, rfl, by rw [e, show (ByteArray.mk #[55]).size = 1 from rfl]; omega⟩
  | 4, _ => exact ⟨_, rfl, by rw [e, show (ByteArray.mk #[52]).size = 1 from rfl]; omega⟩

set_option maxHeartbeats 8000000 in
set_option maxRecDepth 100000 in
theorem lawParses_any (s : ByteArray) (k : Int) (w : World) (hs : s.size ≤ 9223372036854775807) (hk : 0 ≤ k ∧ k ≤ 65535) :
    Calls Try.prog 5 #[.string s, .int .u16 k] w fun e w' => e = .returned (.bool true) ∧ Below w.heap.size w w' := by
  obtain ⟨k0, k1⟩ := hk
  by_cases hlong : 60 < s.size
  · have h1 : (60 : Int) < (s.size : Int) := by omega
    go_enter Try.func5, Try.ntmps5
    go_wp2_with fail
    refine (sanity_any _).mono ?_
    rintro e w1 ⟨rfl, hb1⟩
    go_wp2
    go_ret
    exact ⟨rfl, hb1⟩
  · have h1 : decide ((60 : Int) < (s.size : Int)) = false := by rw [decide_eq_false_iff_not]; omega
    have h60 : s.size ≤ 60 := by omega
    clear hlong hs
    go_enter Try.func5, Try.ntmps5
    go_wp2_with fail
    refine (sanity_any _).mono ?_
    rintro e w1 ⟨rfl, hb1⟩
    go_wp2_with fail
    have AX : CBox (w1.alloc (Obj.cells (texts5 s) 9)) w1.heap.size (texts5 s) 9 := CBox.new _ _ _
    have DW : Below w.heap.size w (w1.alloc (Obj.cells (texts5 s) 9)) := hb1.alloc hb1.size _
    unfold texts5 at AX DW
    generalize hW : w1.alloc _ = W at *
    generalize hgg : w1.heap.size = gg at *
    clear hW hb1
    go_loopw [7] (fun t wr => ∃ i : Nat, i ≤ 5 ∧ t = .int .i64 i ∧ CBox wr gg (texts5 s) 9 ∧ Below w.heap.size w wr) (fun t _ => 5 - (intOf t).toNat)
    case atStart => exact ⟨0, by omega, rfl, AX, DW⟩
    case round =>
      obtain ⟨i, hi, rfl, hax, hbl⟩ := hrel
      have HAX := Lib.hid hax
      have HBL := Lib.hid hbl
      clear hax hbl
      by_cases hlt : i < 5
      · obtain ⟨t, ht, htz⟩ := texts5_get hlt h60
        obtain ⟨z, c, sz, p1, p2⟩ := both_parse t (by omega)
        have SZ := Lib.hid sz
        have P1 := Lib.hid p1
        have P2 := Lib.hid p2
        have HT := Lib.hid ht
        have hc := (HAX.out.cell i).trans ht
        have i0 : (0 : Int) ≤ (i : Int) := by omega
        have i1 : (i : Int) < 5 := by omega
        clear sz p1 p2 ht
        go_wp2_with fail
        refine (P1.out _).mono ?_
        rintro e w2 ⟨_, rfl, hq, hb⟩
        obtain ⟨X2, p2, q2, rfl, _, _, _⟩ := hq.form
        have Q := Lib.hid hq; have B := Lib.hid hb; clear hq hb hc
        generalize hs1 : decide ((z : Int) < 0) = s2 at *
        clear hs1
        go_upto_region 11 with fail
        obtain ⟨W2, hW⟩ : ∃ W2, W2 = w2.alloc (Obj.cells #[Value.bool s2, Value.slice X2 p2 q2] 27) := ⟨_, rfl⟩
        rw [← hW]
        have BX2 : Hid (Box W2 w2.heap.size s2 (.slice X2 p2 q2)) := by rw [hW]; exact Box.new _ _ _
        have IV2 : Hid (Iv W2 (.agg #[.bool s2, .slice X2 p2 q2]) z) := by rw [hW]; exact Q.out.alloc _
        have hd : Below wr.heap.size wr W2 := by rw [hW]; exact B.out.alloc B.out.size _
        clear hW Q B
        generalize hgn : w2.heap.size = g2 at *
        clear hgn
        replace HAX := Lib.hid (HAX.out.next hd rfl)
        replace HBL := Lib.hid (link_below HBL.out hd (by have := HBL.out.size; omega) rfl rfl rfl rfl)
        clear hd
        have hc := (HAX.out.cell i).trans HT.out
        go_wp2_with fail
        refine (P2.out _).mono ?_
        rintro e w3 ⟨_, rfl, hq, hb⟩
        obtain ⟨X3, p3, q3, rfl, _, _, _⟩ := hq.form
        have Q := Lib.hid hq; have B := Lib.hid hb; clear hq hb hc
        generalize hs1 : decide ((z : Int) < 0) = s3 at *
        clear hs1
        go_upto_region 12 with fail
        obtain ⟨W3, hW⟩ : ∃ W3, W3 = w3.alloc (Obj.cells #[Value.bool s3, Value.slice X3 p3 q3] 27) := ⟨_, rfl⟩
        rw [← hW]
        have BX3 : Hid (Box W3 w3.heap.size s3 (.slice X3 p3 q3)) := by rw [hW]; exact Box.new _ _ _
        have IV3 : Hid (Iv W3 (.agg #[.bool s3, .slice X3 p3 q3]) z) := by rw [hW]; exact Q.out.alloc _
        have hd : Below W2.heap.size W2 W3 := by rw [hW]; exact B.out.alloc B.out.size _
        clear hW Q B
        generalize hgn : w3.heap.size = g3 at *
        clear hgn
        replace HAX := Lib.hid (HAX.out.next hd rfl)
        replace HBL := Lib.hid (link_below HBL.out hd (by have := HBL.out.size; omega) rfl rfl rfl rfl)
        replace BX2 := Lib.hid (BX2.out.next hd rfl)
        replace IV2 := Lib.hid (iv_next IV2.out hd rfl)
        clear hd
        have u1 := BX2.out.cell0; have u2 := BX2.out.cell1; have u3 := BX3.out.cell0; have u4 := BX3.out.cell1
        go_wp2_with fail
        clear u1 u2 u3 u4
        refine (same_true _ _ z z _ IV2.out IV3.out (SZ.out.mono (by omega)) rfl).mono ?_
        rintro e w4 ⟨rfl, hb⟩
        replace HAX := Lib.hid (HAX.out.next hb rfl)
        replace HBL := Lib.hid (link_below HBL.out hb (by have := HBL.out.size; omega) rfl rfl rfl rfl)
        go_wp2
        go_roundw
        case rel => exact ⟨i + 1, by omega, by go_num, HAX.out, HBL.out⟩
        case measure => simp [intOf]; omega
      · have hge : decide ((i : Int) < 5) = false := by rw [decide_eq_false_iff_not]; omega
        clear hlt hi
        obtain ⟨N, hN⟩ : ∃ N : Nat, (4001 : Int) + k % 100 = (N : Int) := ⟨(4001 + k % 100).toNat, by omega⟩
        have HN := Lib.hid hN
        have hN1 : 4001 ≤ N := by omega
        have hN2 : N ≤ 4101 := by omega
        have hkm : k % 100 = (N : Int) - 4001 := by omega
        clear hN
        go_wp2_with fail
        go_loopw [12, 13] (fun t v wq => ∃ (i : Nat) (u : ByteArray), i ≤ N ∧ t = .string u ∧ v = .int .i64 i ∧ u.size = s.size + i ∧ wq = wr) (fun _ v _ => N - (intOf v).toNat)
        case atStart => exact ⟨0, s, by omega, rfl, rfl, rfl, rfl⟩
        case round =>
          obtain ⟨i, u, hi, rfl, rfl, hu, rfl⟩ := hrel
          have HU := Lib.hid hu
          have hu5 : u.size ≤ 4200 := by omega
          have hu6 : (u.size : Int) ≤ 4200 := by omega
          clear hu
          by_cases hlt : i < N
          · have i1 : (i : Int) < (N : Int) := by omega
            go_wp2
            go_roundw
            case rel => exact ⟨i + 1, u ++ ⟨#[49]⟩, by omega, rfl, by go_num, by rw [ByteArray.size_append, HU.out]; show _ + 1 = _; omega, trivial⟩
            case measure => simp [intOf]; omega
          · have i1 : decide ((i : Int) < (N : Int)) = false := by rw [decide_eq_false_iff_not]; omega
            have i2 : decide ((i : Int) < 4001 + ((N : Int) - 4001)) = false := by rw [decide_eq_false_iff_not]; omega
            have i3 : ¬ (i : Int) < (N : Int) := by omega
            have i4 : N ≤ i := by omega
            have hbig : 4000 < u.size := by rw [HU.out]; omega
            clear hlt hi
            go_wp2_with fail
            refine (parse_big u _ hbig).mono ?_
            rintro e w5 ⟨_, rfl, hq, hb⟩
            obtain ⟨X5, p5, q5, rfl, _, _, _⟩ := hq.form
            have hp5 : p5 = 0 := hq.len0.2 rfl
            subst hp5
            have hl := link_below HBL.out hb (by have := HBL.out.size; omega) rfl rfl rfl rfl
            go_wp2
            go_ret
            exact ⟨by simp, hl.alloc hl.size _⟩
end Go.Proofs.Ytpklphdhigkmmaa
