/-
  Contract of Parse.
-/
import Derived.Test.YtloiabkopacfgaaParseC
import Derived.Test.YtloiabkopacfgaaParseA
import Derived.Test.YtloiabkopacfgaaIntD
import Derived.Handy
namespace Go.Proofs.Ytloiabkopacfgaa
open Go.RowKit
attribute [local go_sem ↓] Go.wp_at_zero Go.wp_at_succ

/-- A result with an error's number. -/
def RetE (z c : Int) (w : World) (e : Ending) (w' : World) : Prop := ∃ v, e = .returned (.tuple #[v, .int .i64 c]) ∧ Iv w' v z ∧ Below w.heap.size w w'
theorem num_digits {D : ByteArray} (h : IsNum D.data.toList) : ∀ j (hj : j < D.size), 48 ≤ D[j].toNat ∧ D[j].toNat ≤ 57 := fun j hj => h.1 D[j] (List.mem_of_getElem? (byte_at D j hj))

set_option maxHeartbeats 4000000 in
theorem parse_big (s : ByteArray) (w : World) (hs : 4000 < s.size) : Calls Try.prog 45 #[.string s] w (RetE 0 2 w) := by
  have h1 : (4000 : Int) < (s.size : Int) := by omega
  go_enter Try.func45, Try.ntmps45
  go_wp2
  refine bodyPost_ret (v := .tuple #[zeroI, .int .i64 2]) (by simp [results, Try.results45, go_sem, zeroI]) rfl ⟨_, rfl, Iv.zero _, ?_⟩
  exact (Below.refl _ _).alloc (Nat.le_refl _) _

set_option maxHeartbeats 4000000 in
theorem parseNeg_bad (s : ByteArray) (w : World) (hs : s.size ≤ 4000) (h0 : 0 < s.size) (hm : s[0].toNat = 45) (hb : ¬ IsNum (s.extract 1 s.size).data.toList) : Calls Try.prog 45 #[.string s] w (RetE 0 3 w) := by
  have h1 : decide ((4000 : Int) < (s.size : Int)) = false := by simp; omega
  have h2 : (0 : Int) < (s.size : Int) := by omega
  have h3 : (((s[0].toNat : Nat) : Int) == 45) = true := by rw [hm]; rfl
  go_enter Try.func45, Try.ntmps45
  go_wp2_with fail
  have hsz : (s.extract 1 s.size).size ≤ 4000 := by have e : (s.extract 1 s.size).size = min s.size s.size - 1 := ByteArray.size_extract ..; omega
  refine (isNumeral_no (s.extract 1 s.size) _ (by omega) hb).mono ?_
  rintro e w1 ⟨rfl, hb1⟩
  have hbx := Lib.hid ((Box.new w false (.slice none 0 0)).below hb1 (by simp))
  have q0 := hbx.out.cell0
  have q1 := hbx.out.cell1
  have q2 := hbx.out.frozen 0
  have q3 := hbx.out.frozen 1
  have hbl := below_new hb1
  clear hb hb1
  go_wp2
  refine bodyPost_ret (v := .tuple #[zeroI, .int .i64 3]) (by simp [results, Try.results45, go_sem, zeroI, q0, q1]) rfl ⟨_, rfl, Iv.zero _, ?_⟩
  exact (hbl.setCell (Nat.le_refl _) _).setCell (Nat.le_refl _) _

set_option maxHeartbeats 4000000 in
theorem parseNeg_mz (s : ByteArray) (w : World) (hs : s.size ≤ 4000) (h0 : 0 < s.size) (hm : s[0].toNat = 45) (hb : IsNum (s.extract 1 s.size).data.toList) (hz : s.toList = [45, 48]) : Calls Try.prog 45 #[.string s] w (RetE 0 3 w) := by
  have h1 : decide ((4000 : Int) < (s.size : Int)) = false := by simp; omega
  have h2 : (0 : Int) < (s.size : Int) := by omega
  have h3 : (((s[0].toNat : Nat) : Int) == 45) = true := by rw [hm]; rfl
  go_enter Try.func45, Try.ntmps45
  go_wp2_with fail
  have hsz : (s.extract 1 s.size).size ≤ 4000 := by have e : (s.extract 1 s.size).size = min s.size s.size - 1 := ByteArray.size_extract ..; omega
  refine (isNumeral_yes (s.extract 1 s.size) _ (by omega) hb).mono ?_
  rintro e w1 ⟨rfl, hb1⟩
  have hbx := Lib.hid ((Box.new w false (.slice none 0 0)).below hb1 (by simp))
  have q0 := hbx.out.cell0
  have q1 := hbx.out.cell1
  have q2 := hbx.out.frozen 0
  have q3 := hbx.out.frozen 1
  have hbl := below_new hb1
  have hzz : (s.toList == [45, 48]) = true := by rw [hz]; rfl
  clear hb hb1 hz
  go_wp2
  refine bodyPost_ret (v := .tuple #[zeroI, .int .i64 3]) (by simp [results, Try.results45, go_sem, zeroI, q0, q1]) rfl ⟨_, rfl, Iv.zero _, ?_⟩
  exact (hbl.setCell (Nat.le_refl _) _).setCell (Nat.le_refl _) _

set_option maxHeartbeats 4000000 in
theorem parseNeg_ok (s : ByteArray) (w : World) (hs : s.size ≤ 4000) (h0 : 0 < s.size) (hm : s[0].toNat = 45) (hb : IsNum (s.extract 1 s.size).data.toList) (hz : s.toList ≠ [45, 48]) : Calls Try.prog 45 #[.string s] w (RetE (sgn true (dv (s.extract 1 s.size).data.toList)) 0 w) := by
  have HB := Lib.hid hb
  have hzz : (s.toList == [45, 48]) = false := by rw [beq_eq_false_iff_ne]; exact hz
  clear hz
  have h1 : decide ((4000 : Int) < (s.size : Int)) = false := by simp; omega
  have h2 : (0 : Int) < (s.size : Int) := by omega
  have h3 : (((s[0].toNat : Nat) : Int) == 45) = true := by rw [hm]; rfl
  go_enter Try.func45, Try.ntmps45
  go_wp2_with fail
  have hsz : (s.extract 1 s.size).size ≤ 4000 := by have e : (s.extract 1 s.size).size = min s.size s.size - 1 := ByteArray.size_extract ..; omega
  refine (isNumeral_yes (s.extract 1 s.size) _ (by omega) hb).mono ?_
  rintro e w1 ⟨rfl, hb1⟩
  clear hb
  go_wp2_with fail
  refine (read_any (s.extract 1 s.size) _ hsz (num_digits HB.out)).mono ?_
  rintro e w2 ⟨v2, rfl, ⟨A2, n2, c2, rfl, a1, a2, a3⟩, hb2⟩
  have A3 := Lib.hid a3
  have hn2 : n2 ≤ 4000 := by
    rw [← a3.len]
    have e1 : (s.extract 1 s.size).data.toList.length = (s.extract 1 s.size).size := by rw [Array.length_toList]; rfl
    exact mag_length_le (lt_pw (dv_lt _ _ rfl HB.out.1) (by omega))
  clear a3
  go_wp2_with fail
  refine (signed_mg true A2 n2 c2 _ _ A3.out (by omega) a1 a2).mono ?_
  rintro e w3 ⟨v3, rfl, hv3, hb3⟩
  obtain ⟨A4, n4, c4, rfl, k1, k2, k3⟩ := hv3.form
  have HV := Lib.hid hv3
  have hl1 := below_new hb1
  have hl2 := link_below hl1 hb2 hl1.size rfl rfl rfl rfl
  have hl3 := link_below hl2 hb3 hl2.size rfl rfl rfl rfl
  have hbx := Lib.hid ((((Box.new w false (.slice none 0 0)).below hb1 (by simp)).next hb2 rfl).next hb3 rfl)
  have q0 := hbx.out.cell0
  have q1 := hbx.out.cell1
  have q2 := hbx.out.frozen 0
  have q3 := hbx.out.frozen 1
  clear k3 hv3 hb1 hb2 hb3
  generalize sgn true (dv (s.extract 1 s.size).data.toList) = z at *
  generalize hdz : decide (z < 0) = dz at *
  go_wp2
  refine bodyPost_ret (v := .tuple #[.agg #[.bool dz, .slice A4 n4 c4], .int .i64 0]) (by simp [results, Try.results45, go_sem, q0, q1]) rfl ⟨_, rfl, ?_, (hl3.setCell (Nat.le_refl _) _).setCell (Nat.le_refl _) _⟩
  rw [← hdz] at HV ⊢
  exact iv_keep HV.out hbx.out _

set_option maxHeartbeats 4000000 in
theorem parsePos_bad (s : ByteArray) (w : World) (hs : s.size ≤ 4000) (h0 : 0 < s.size) (hm : s[0].toNat ≠ 45) (hb : ¬ IsNum s.data.toList) : Calls Try.prog 45 #[.string s] w (RetE 0 3 w) := by
  have h1 : decide ((4000 : Int) < (s.size : Int)) = false := by simp; omega
  have h2 : (0 : Int) < (s.size : Int) := by omega
  have h3 : (((s[0].toNat : Nat) : Int) == 45) = false := by simp; omega
  go_enter Try.func45, Try.ntmps45
  go_wp2_with fail
  have hsz : s.size ≤ 4000 := by omega
  refine (isNumeral_no s _ (by omega) hb).mono ?_
  rintro e w1 ⟨rfl, hb1⟩
  have hbx := Lib.hid ((Box.new w false (.slice none 0 0)).below hb1 (by simp))
  have q0 := hbx.out.cell0
  have q1 := hbx.out.cell1
  have q2 := hbx.out.frozen 0
  have q3 := hbx.out.frozen 1
  have hbl := below_new hb1
  clear hb hb1
  go_wp2
  refine bodyPost_ret (v := .tuple #[zeroI, .int .i64 3]) (by simp [results, Try.results45, go_sem, zeroI, q0, q1]) rfl ⟨_, rfl, Iv.zero _, ?_⟩
  exact (hbl.setCell (Nat.le_refl _) _).setCell (Nat.le_refl _) _

set_option maxHeartbeats 4000000 in
theorem parsePos_ok (s : ByteArray) (w : World) (hs : s.size ≤ 4000) (h0 : 0 < s.size) (hm : s[0].toNat ≠ 45) (hb : IsNum s.data.toList) (hz : s.toList ≠ [45, 48]) : Calls Try.prog 45 #[.string s] w (RetE (sgn false (dv s.data.toList)) 0 w) := by
  have HB := Lib.hid hb
  have hzz : (s.toList == [45, 48]) = false := by rw [beq_eq_false_iff_ne]; exact hz
  clear hz
  have h1 : decide ((4000 : Int) < (s.size : Int)) = false := by simp; omega
  have h2 : (0 : Int) < (s.size : Int) := by omega
  have h3 : (((s[0].toNat : Nat) : Int) == 45) = false := by simp; omega
  go_enter Try.func45, Try.ntmps45
  go_wp2_with fail
  have hsz : s.size ≤ 4000 := by omega
  refine (isNumeral_yes s _ (by omega) hb).mono ?_
  rintro e w1 ⟨rfl, hb1⟩
  clear hb
  go_wp2_with fail
  refine (read_any s _ hsz (num_digits HB.out)).mono ?_
  rintro e w2 ⟨v2, rfl, ⟨A2, n2, c2, rfl, a1, a2, a3⟩, hb2⟩
  have A3 := Lib.hid a3
  have hn2 : n2 ≤ 4000 := by
    rw [← a3.len]
    have e1 : s.data.toList.length = s.size := by rw [Array.length_toList]; rfl
    exact mag_length_le (lt_pw (dv_lt _ _ rfl HB.out.1) (by omega))
  clear a3
  go_wp2_with fail
  refine (signed_mg false A2 n2 c2 _ _ A3.out (by omega) a1 a2).mono ?_
  rintro e w3 ⟨v3, rfl, hv3, hb3⟩
  obtain ⟨A4, n4, c4, rfl, k1, k2, k3⟩ := hv3.form
  have HV := Lib.hid hv3
  have hl1 := below_new hb1
  have hl2 := link_below hl1 hb2 hl1.size rfl rfl rfl rfl
  have hl3 := link_below hl2 hb3 hl2.size rfl rfl rfl rfl
  have hbx := Lib.hid ((((Box.new w false (.slice none 0 0)).below hb1 (by simp)).next hb2 rfl).next hb3 rfl)
  have q0 := hbx.out.cell0
  have q1 := hbx.out.cell1
  have q2 := hbx.out.frozen 0
  have q3 := hbx.out.frozen 1
  clear k3 hv3 hb1 hb2 hb3
  generalize sgn false (dv s.data.toList) = z at *
  generalize hdz : decide (z < 0) = dz at *
  go_wp2
  refine bodyPost_ret (v := .tuple #[.agg #[.bool dz, .slice A4 n4 c4], .int .i64 0]) (by simp [results, Try.results45, go_sem, q0, q1]) rfl ⟨_, rfl, ?_, (hl3.setCell (Nat.le_refl _) _).setCell (Nat.le_refl _) _⟩
  rw [← hdz] at HV ⊢
  exact iv_keep HV.out hbx.out _

set_option maxHeartbeats 4000000 in
theorem parseNil_bad (s : ByteArray) (w : World) (hs : s.size ≤ 4000) (h0 : s.size = 0) (hb : ¬ IsNum s.data.toList) : Calls Try.prog 45 #[.string s] w (RetE 0 3 w) := by
  have h1 : decide ((4000 : Int) < (s.size : Int)) = false := by simp; omega
  have h2 : decide ((0 : Int) < (s.size : Int)) = false := by rw [decide_eq_false_iff_not]; omega
  go_enter Try.func45, Try.ntmps45
  go_wp2_with fail
  have hsz : s.size ≤ 4000 := by omega
  refine (isNumeral_no s _ (by omega) hb).mono ?_
  rintro e w1 ⟨rfl, hb1⟩
  have hbx := Lib.hid ((Box.new w false (.slice none 0 0)).below hb1 (by simp))
  have q0 := hbx.out.cell0
  have q1 := hbx.out.cell1
  have q2 := hbx.out.frozen 0
  have q3 := hbx.out.frozen 1
  have hbl := below_new hb1
  clear hb hb1
  go_wp2
  refine bodyPost_ret (v := .tuple #[zeroI, .int .i64 3]) (by simp [results, Try.results45, go_sem, zeroI, q0, q1]) rfl ⟨_, rfl, Iv.zero _, ?_⟩
  exact (hbl.setCell (Nat.le_refl _) _).setCell (Nat.le_refl _) _

set_option maxHeartbeats 4000000 in
theorem parseNil_ok (s : ByteArray) (w : World) (hs : s.size ≤ 4000) (h0 : s.size = 0) (hb : IsNum s.data.toList) (hz : s.toList ≠ [45, 48]) : Calls Try.prog 45 #[.string s] w (RetE (sgn false (dv s.data.toList)) 0 w) := by
  have HB := Lib.hid hb
  have hzz : (s.toList == [45, 48]) = false := by rw [beq_eq_false_iff_ne]; exact hz
  clear hz
  have h1 : decide ((4000 : Int) < (s.size : Int)) = false := by simp; omega
  have h2 : decide ((0 : Int) < (s.size : Int)) = false := by rw [decide_eq_false_iff_not]; omega
  go_enter Try.func45, Try.ntmps45
  go_wp2_with fail
  have hsz : s.size ≤ 4000 := by omega
  refine (isNumeral_yes s _ (by omega) hb).mono ?_
  rintro e w1 ⟨rfl, hb1⟩
  clear hb
  go_wp2_with fail
  refine (read_any s _ hsz (num_digits HB.out)).mono ?_
  rintro e w2 ⟨v2, rfl, ⟨A2, n2, c2, rfl, a1, a2, a3⟩, hb2⟩
  have A3 := Lib.hid a3
  have hn2 : n2 ≤ 4000 := by
    rw [← a3.len]
    have e1 : s.data.toList.length = s.size := by rw [Array.length_toList]; rfl
    exact mag_length_le (lt_pw (dv_lt _ _ rfl HB.out.1) (by omega))
  clear a3
  go_wp2_with fail
  refine (signed_mg false A2 n2 c2 _ _ A3.out (by omega) a1 a2).mono ?_
  rintro e w3 ⟨v3, rfl, hv3, hb3⟩
  obtain ⟨A4, n4, c4, rfl, k1, k2, k3⟩ := hv3.form
  have HV := Lib.hid hv3
  have hl1 := below_new hb1
  have hl2 := link_below hl1 hb2 hl1.size rfl rfl rfl rfl
  have hl3 := link_below hl2 hb3 hl2.size rfl rfl rfl rfl
  have hbx := Lib.hid ((((Box.new w false (.slice none 0 0)).below hb1 (by simp)).next hb2 rfl).next hb3 rfl)
  have q0 := hbx.out.cell0
  have q1 := hbx.out.cell1
  have q2 := hbx.out.frozen 0
  have q3 := hbx.out.frozen 1
  clear k3 hv3 hb1 hb2 hb3
  generalize sgn false (dv s.data.toList) = z at *
  generalize hdz : decide (z < 0) = dz at *
  go_wp2
  refine bodyPost_ret (v := .tuple #[.agg #[.bool dz, .slice A4 n4 c4], .int .i64 0]) (by simp [results, Try.results45, go_sem, q0, q1]) rfl ⟨_, rfl, ?_, (hl3.setCell (Nat.le_refl _) _).setCell (Nat.le_refl _) _⟩
  rw [← hdz] at HV ⊢
  exact iv_keep HV.out hbx.out _
end Go.Proofs.Ytloiabkopacfgaa
