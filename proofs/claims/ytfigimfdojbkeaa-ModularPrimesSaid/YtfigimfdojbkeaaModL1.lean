/-
  Layer 3: ModularInverts.
-/
import Derived.Test.YtfigimfdojbkeaaModZ4
import Derived.Deep.DeepCutAuto
import Derived.Handy
set_option linter.unusedSimpArgs false
set_option linter.unusedVariables false
namespace Go.Proofs.Ytfigimfdojbkeaa
open Go.RowKit
attribute [local go_sem ↓] Go.wp_at_zero Go.wp_at_succ

section
variable {o : Oper} {w : World} {ρ : Operand → Value} {x y : Operand} {t u : TypeId}
theorem run_mul64 {a b r : Nat} (ho : o.op = .binOp .mul t x y u) (hx : ρ x = .int .u64 (a : Nat)) (hy : ρ y = .int .u64 (b : Nat)) (hr : r < 18446744073709551616) (h : a * b = r) : (execOp ρ o).run Try.prog w = .ok (.value (.int .u64 (r : Nat))) w := by
  subst h
  have e1 : IntKind.u64.wrap ((a : Int) * b) = ((a * b : Nat) : Int) := by rw [← Int.natCast_mul]; exact IntWalk.u64_in _ (by omega)
  have e2 : IntKind.u64.wrap ((a : Int) * b) = (a : Int) * (b : Int) := by rw [e1, Int.natCast_mul]
  simp [execOp, ho, hx, hy, go_sem, e2]
theorem run_eql64 {k : IntKind} {m n : Int} {r : Bool} (ho : o.op = .binOp .eql t x y u) (hx : ρ x = .int k m) (hy : ρ y = .int k n) (h : (m == n) = r) : (execOp ρ o).run Try.prog w = .ok (.value (.bool r)) w := h ▸ run_eql_int ho hx hy
end
theorem opow_is (a n p r : Nat) (w : World) (ha : a < 18446744073709551616) (hn : n < 18446744073709551616) (hp0 : 0 < p) (hp : p ≤ 4294967296) (h : a ^ n % p = r) : Calls Try.prog 57 #[.int .u64 a, .int .u64 n, .int .u64 p] w (RetV (.int .u64 (r : Nat)) w) := h ▸ opow_any a n p w ha hn hp0 hp
theorem iv_mul {p a : Nat} (h : IsPr p) (ha : a % p ≠ 0) : a ^ (p - 2) % p * (a % p) % p = 1 := by
  have h2 := h.1
  have e : a ^ (p - 2) * a = a ^ (p - 1) := by rw [← Nat.pow_succ]; congr 1; omega
  rw [← Nat.mul_mod, e]
  exact fermat h ha
theorem iv_ne {p a : Nat} (h : IsPr p) (ha : a % p ≠ 0) : a ^ (p - 2) % p % p ≠ 0 := by
  intro e
  have h1 := iv_mul h ha
  rw [Nat.mod_mod] at e
  rw [e, Nat.zero_mul, Nat.zero_mod] at h1
  omega
theorem iv_back {p a : Nat} (h : IsPr p) (ha : a % p ≠ 0) : (a ^ (p - 2) % p) ^ (p - 2) % p = a % p := by
  have h1 := iv_mul h ha
  have h2 := iv_mul h (iv_ne h ha)
  rw [Nat.mod_mod] at h2
  have hp : 0 < p := by have := h.1; omega
  generalize a ^ (p - 2) % p = i at *
  generalize hb : i ^ (p - 2) % p = b at *
  have hbp : b < p := by rw [← hb]; exact Nat.mod_lt _ hp
  have e : b * (i * (a % p)) % p = a % p := by rw [← Nat.mul_assoc, Nat.mul_mod, h2, Nat.one_mul, Nat.mod_mod, Nat.mod_mod]
  rw [Nat.mul_mod, h1, Nat.mul_one, Nat.mod_mod, Nat.mod_eq_of_lt hbp] at e
  exact e
theorem pw_prod (a b k p : Nat) : (a % p * (b % p)) ^ k % p = a ^ k % p * (b ^ k % p) % p := by
  rw [Nat.pow_mod, ← Nat.mul_mod, ← Nat.pow_mod, Nat.mul_pow, Nat.mul_mod]
theorem pw_sum (a j k p : Nat) : a ^ j % p * (a ^ k % p) % p = a ^ (j + k) % p := by rw [← Nat.mul_mod, Nat.pow_add]


set_option maxHeartbeats 8000000 in
set_option maxRecDepth 100000 in
theorem lawInv_any (N a b : Nat) (w : World) (hN : N < 4294967296) (ha : a < 18446744073709551616) (hb : b < 18446744073709551616) : Calls Try.prog 9 #[.int .u32 (N : Nat), .int .u64 (a : Nat), .int .u64 (b : Nat)] w (RetV (.bool true) w) := by
  obtain ⟨K, hK⟩ : ∃ K, N % 2147483647 = K := ⟨_, rfl⟩
  have hK1 : K < 2147483647 := by omega
  have hK2 : (N : Int) % 2147483647 = (K : Int) := by omega
  have HA := Lib.hid ha; have HB := Lib.hid hb
  clear ha hb
  go_enter Try.func9, Try.ntmps9
  have DW : Hid (Below w.heap.size w w) := Below.refl _ _
  obtain ⟨g, hg⟩ : ∃ g, w.heap.size = g := ⟨_, rfl⟩
  rw [hg] at DW
  replace hg := Lib.hid hg
  go_wp2_with fail
  refine (sanity3_any _).mono ?_
  rintro e y1 ⟨rfl, hb⟩
  replace DW := nxd DW hg hb rfl rfl rfl rfl
  clear hb
  go_wp2_with fail
  try rw [hK2]
  refine (enext_any K _ hK1).mono ?_
  rintro e y2 ⟨p, rfl, _, hpr, _, hb⟩
  replace DW := nxd DW hg hb rfl rfl rfl rfl
  clear hb
  have p2 : Hid (2 ≤ p ∧ p ≤ 2147483647) := ⟨hpr.1, hpr.small⟩
  have HPR := Lib.hid hpr
  clear hpr hK hK1 hK2
  have hz : ((p : Int) == 0) = false := by have := p2.out; simp; omega
  have hz2 : ¬ (p : Int) = 0 := by have := p2.out; omega
  obtain ⟨r, hr⟩ : ∃ r, a % p = r := ⟨_, rfl⟩
  have hri : (a : Int) % (p : Int) = (r : Int) := by rw [← Int.natCast_emod, hr]
  have HRL : Hid (r < p) := by rw [← hr]; exact Nat.mod_lt _ (by have := p2.out; omega)
  by_cases h0 : r = 0
  · have e0 : ((a : Int) % (p : Int) == 0) = true := by rw [hri, h0]; rfl
    go_wp2_with fail
    refine (oinv_zero a p _ (by have := p2.out; omega) (by have := p2.out; omega) (hr.trans h0)).mono ?_
    rintro e y3 ⟨rfl, hb⟩
    replace DW := nxd DW hg hb rfl rfl rfl rfl
    clear hb
    go_wp2
    go_ret
    exact ⟨rfl, by rw [hg.out]; exact DW.out⟩
  · have e0 : ((a : Int) % (p : Int) == 0) = false := by rw [hri, beq_eq_false_iff_ne]; omega
    have ha0 : Hid (a % p ≠ 0) := by rw [hr]; exact h0
    obtain ⟨iv, hiv⟩ : ∃ i, a ^ (p - 2) % p = i := ⟨_, rfl⟩
    have m1 : Hid (iv * r % p = 1) := by rw [← hiv, ← hr]; exact iv_mul HPR.out ha0.out
    have m2 : Hid (iv % p ≠ 0) := by rw [← hiv]; exact iv_ne HPR.out ha0.out
    have m3 : Hid (iv ^ (p - 2) % p = r) := by rw [← hiv, ← hr]; exact iv_back HPR.out ha0.out
    have ivl : Hid (iv < p) := by rw [← hiv]; exact Nat.mod_lt _ (by have := p2.out; omega)
    replace hiv := Lib.hid hiv; replace hr := Lib.hid hr
    go_wp2_with fail
    refine (oinv_is a p iv _ HA.out (by have := p2.out; omega) (by have := p2.out; omega) ha0.out hiv.out).mono ?_
    rintro e y3 ⟨rfl, hb⟩
    replace DW := nxd DW hg hb rfl rfl rfl rfl
    clear hb
    go_wp2_with fail
    refine (oinv_is iv p r _ (by have := ivl.out; have := p2.out; omega) (by have := p2.out; omega) (by have := p2.out; omega) m2.out m3.out).mono ?_
    rintro e y4 ⟨rfl, hb⟩
    replace DW := nxd DW hg hb rfl rfl rfl rfl
    clear hb
    have f0 : decide ((iv : Int) < 1) = false := by
      have h := m2.out
      rw [Nat.mod_eq_of_lt ivl.out] at h
      exact decide_eq_false (by omega)
    have f1 : decide ((p : Int) ≤ (iv : Int)) = false := decide_eq_false (by have := ivl.out; omega)
    have f2 : IntKind.u64.wrap ((iv : Int) * (r : Int)) = (iv : Int) * (r : Int) := by
      have h := mul_lt64 ivl.out HRL.out (by have := p2.out; omega)
      exact IntWalk.u64_in _ ⟨by rw [← Int.natCast_mul]; omega, by rw [← Int.natCast_mul]; omega⟩
    have f3e : (iv : Int) * (r : Int) % (p : Int) = 1 := by
      rw [← Int.natCast_mul, ← Int.natCast_emod, m1.out]; rfl
    have f3 : ((iv : Int) * (r : Int)).tmod (p : Int) = 1 := by
      rw [Int.tmod_eq_emod_of_nonneg (by rw [← Int.natCast_mul]; omega)]; exact f3e
    have f5 : (IntKind.u64.wrap ((iv : Int) * (r : Int))).tmod (p : Int) = 1 := by rw [f2, f3]
    obtain ⟨rb, hrb⟩ : ∃ r, b % p = r := ⟨_, rfl⟩
    obtain ⟨P, hP⟩ : ∃ x, r * rb = x := ⟨_, rfl⟩
    obtain ⟨pw, hpw⟩ : ∃ x, P ^ 5 % p = x := ⟨_, rfl⟩
    obtain ⟨a5, ha5⟩ : ∃ x, a ^ 5 % p = x := ⟨_, rfl⟩
    obtain ⟨b5, hb5⟩ : ∃ x, b ^ 5 % p = x := ⟨_, rfl⟩
    obtain ⟨ab, hab⟩ : ∃ x, a5 * b5 = x := ⟨_, rfl⟩
    obtain ⟨c, hc⟩ : ∃ x, b % 100 = x := ⟨_, rfl⟩
    obtain ⟨s, hsm⟩ : ∃ x, 12 + c = x := ⟨_, rfl⟩
    obtain ⟨a12, ha12⟩ : ∃ x, a ^ 12 % p = x := ⟨_, rfl⟩
    obtain ⟨ac, hac⟩ : ∃ x, a ^ c % p = x := ⟨_, rfl⟩
    obtain ⟨aas, has⟩ : ∃ x, a12 * ac = x := ⟨_, rfl⟩
    obtain ⟨av, hav⟩ : ∃ x, a ^ s % p = x := ⟨_, rfl⟩
    have w1 : Hid (ab % p = pw) := by rw [← hab, ← ha5, ← hb5, ← hpw, ← hP, ← hr.out, ← hrb]; exact (pw_prod a b 5 p).symm
    have w2 : Hid (aas % p = av) := by rw [← has, ← ha12, ← hac, ← hav, ← hsm]; exact pw_sum a 12 c p
    have hp0 : 0 < p := by have := p2.out; omega
    have hc1 : Hid (c < 100) := by rw [← hc]; exact Nat.mod_lt _ (by omega)
    have z1 : Hid (P < 18446744073709551616) := by rw [← hP]; exact mul_lt64 HRL.out (by rw [← hrb]; exact Nat.mod_lt _ hp0) (by have := p2.out; omega)
    have z2 : Hid (ab < 18446744073709551616) := by rw [← hab]; exact mul_lt64 (by rw [← ha5]; exact Nat.mod_lt _ hp0) (by rw [← hb5]; exact Nat.mod_lt _ hp0) (by have := p2.out; omega)
    have z3 : Hid (aas < 18446744073709551616) := by rw [← has]; exact mul_lt64 (by rw [← ha12]; exact Nat.mod_lt _ hp0) (by rw [← hac]; exact Nat.mod_lt _ hp0) (by have := p2.out; omega)
    replace hrb := Lib.hid hrb; replace hP := Lib.hid hP; replace hpw := Lib.hid hpw; replace ha5 := Lib.hid ha5; replace hb5 := Lib.hid hb5; replace hab := Lib.hid hab; replace hc := Lib.hid hc; replace hsm := Lib.hid hsm; replace ha12 := Lib.hid ha12; replace hac := Lib.hid hac; replace has := Lib.hid has; replace hav := Lib.hid hav
    have pL : Hid (p ≤ 4294967296) := by have := p2.out; exact Lib.hid (by omega)
    replace hp0 := Lib.hid hp0
    go_upto_region 11 with fail
    clear hz hz2 e0 f0 f1 f2 f3e f3 f5 hri h0
    refine Rg.region_gg y4 [.is (Value.int IntKind.u64 (a : Nat)), .is (Value.int IntKind.u64 (p : Nat)), .is (Value.int IntKind.u64 (r : Nat)), .is (Value.int IntKind.u64 (b : Nat)), .is (Value.int IntKind.u64 (p : Nat)), .is (Value.int IntKind.u64 (rb : Nat)), .is (Value.int IntKind.u64 (P : Nat)), .is (Value.int IntKind.u64 (p : Nat)), .is (Value.int IntKind.u64 (pw : Nat)), .is (Value.int IntKind.u64 (pw : Nat))] [] [some 82, some 83, some 84, some 85, some 86, some 87, some 88, some 89, some 90, some 14] (by kernel_rfl) (by kernel_rfl) (by kernel_rfl) (by kernel_rfl) (by kernel_rfl) (by simp [Rg.stos]) (by rfl) (by rfl) (by kernel_rfl) (by simp) ((Below.refl _ _).drew) (fun Q' => ?_) (fun K hK wn hs => ?_)
    · refine ⟨?_, ?_, ?_, ?_, ?_, ?_, ?_, ?_, ?_, ?_, trivial⟩
      · intro a' w' ha hs hw hold
        have eo1 : a'.tmps[1]? = some (Value.int IntKind.u64 (a : Nat)) := (ha.rest 1 (by kernel_rfl)).trans rfl
        exact ⟨rfl, .inl ⟨wanted_none rfl, wp_val (run_move rfl (ev_tmp eo1)) ⟨rfl, Below.refl _ _⟩⟩⟩
      · intro a' w' ha hs hw hold
        have eo8 : a'.tmps[8]? = some (Value.int IntKind.u64 (p : Nat)) := (ha.rest 8 (by kernel_rfl)).trans rfl
        exact ⟨rfl, .inl ⟨wanted_none rfl, wp_val (run_move rfl (ev_tmp eo8)) ⟨rfl, Below.refl _ _⟩⟩⟩
      · intro a' w' ha hs hw hold
        have e0 : a'.tmps[82]? = some (Value.int IntKind.u64 (a : Nat)) := Rg.slot_get rfl rfl (hw 0 (by kernel_rfl) _ rfl)
        have e1 : a'.tmps[83]? = some (Value.int IntKind.u64 (p : Nat)) := Rg.slot_get rfl rfl (hw 1 (by kernel_rfl) _ rfl)
        exact ⟨rfl, .inl ⟨wanted_none rfl, wp_val (run_rem64 rfl (ev_tmp e0) (ev_tmp e1) hp0.out HA.out hr.out) ⟨rfl, Below.refl _ _⟩⟩⟩
      · intro a' w' ha hs hw hold
        have eo2 : a'.tmps[2]? = some (Value.int IntKind.u64 (b : Nat)) := (ha.rest 2 (by kernel_rfl)).trans rfl
        exact ⟨rfl, .inl ⟨wanted_none rfl, wp_val (run_move rfl (ev_tmp eo2)) ⟨rfl, Below.refl _ _⟩⟩⟩
      · intro a' w' ha hs hw hold
        have eo8 : a'.tmps[8]? = some (Value.int IntKind.u64 (p : Nat)) := (ha.rest 8 (by kernel_rfl)).trans rfl
        exact ⟨rfl, .inl ⟨wanted_none rfl, wp_val (run_move rfl (ev_tmp eo8)) ⟨rfl, Below.refl _ _⟩⟩⟩
      · intro a' w' ha hs hw hold
        have e3 : a'.tmps[85]? = some (Value.int IntKind.u64 (b : Nat)) := Rg.slot_get rfl rfl (hw 3 (by kernel_rfl) _ rfl)
        have e4 : a'.tmps[86]? = some (Value.int IntKind.u64 (p : Nat)) := Rg.slot_get rfl rfl (hw 4 (by kernel_rfl) _ rfl)
        exact ⟨rfl, .inl ⟨wanted_none rfl, wp_val (run_rem64 rfl (ev_tmp e3) (ev_tmp e4) hp0.out HB.out hrb.out) ⟨rfl, Below.refl _ _⟩⟩⟩
      · intro a' w' ha hs hw hold
        have e2 : a'.tmps[84]? = some (Value.int IntKind.u64 (r : Nat)) := Rg.slot_get rfl rfl (hw 2 (by kernel_rfl) _ rfl)
        have e5 : a'.tmps[87]? = some (Value.int IntKind.u64 (rb : Nat)) := Rg.slot_get rfl rfl (hw 5 (by kernel_rfl) _ rfl)
        exact ⟨rfl, .inl ⟨wanted_none rfl, wp_val (run_mul64 rfl (ev_tmp e2) (ev_tmp e5) z1.out hP.out) ⟨rfl, Below.refl _ _⟩⟩⟩
      · intro a' w' ha hs hw hold
        have eo8 : a'.tmps[8]? = some (Value.int IntKind.u64 (p : Nat)) := (ha.rest 8 (by kernel_rfl)).trans rfl
        exact ⟨rfl, .inl ⟨wanted_none rfl, wp_val (run_move rfl (ev_tmp eo8)) ⟨rfl, Below.refl _ _⟩⟩⟩
      · intro a' w' ha hs hw hold
        have e6 : a'.tmps[88]? = some (Value.int IntKind.u64 (P : Nat)) := Rg.slot_get rfl rfl (hw 6 (by kernel_rfl) _ rfl)
        have e7 : a'.tmps[89]? = some (Value.int IntKind.u64 (p : Nat)) := Rg.slot_get rfl rfl (hw 7 (by kernel_rfl) _ rfl)
        exact ⟨rfl, .inl ⟨wanted_none rfl, call_step rfl Try.func57 (by kernel_rfl) rfl (map_three (ev_tmp e6) rfl (ev_tmp e7)) (opow_is P 5 p pw _ z1.out (by omega) hp0.out pL.out hpw.out) (fun e w2 he => by obtain ⟨rfl, hb⟩ := he; exact ⟨_, rfl, rfl, hb⟩)⟩⟩
      · intro a' w' ha hs hw hold
        have e8 : a'.tmps[90]? = some (Value.int IntKind.u64 (pw : Nat)) := Rg.slot_get rfl rfl (hw 8 (by kernel_rfl) _ rfl)
        exact ⟨rfl, .inl ⟨wanted_none rfl, wp_val (run_assign rfl (ev_tmp e8)) ⟨rfl, Below.refl _ _⟩⟩⟩
    simp only [Rg.allG]
    simp only [setOpt, Rg.setOpt, List.set_cons_succ, List.set_cons_zero]
    refine hK _ _ ?_
    clear hK K
    replace hs := hs.below
    replace DW := nxd DW hg hs rfl rfl rfl rfl
    clear hs
    go_upto_region 12 with fail
    refine Rg.region_gg wn [.is (Value.int IntKind.u64 (pw : Nat)), .is (Value.int IntKind.u64 (a : Nat)), .is (Value.int IntKind.u64 (p : Nat)), .is (Value.int IntKind.u64 (a5 : Nat)), .is (Value.int IntKind.u64 (b : Nat)), .is (Value.int IntKind.u64 (p : Nat)), .is (Value.int IntKind.u64 (b5 : Nat)), .is (Value.int IntKind.u64 (ab : Nat)), .is (Value.int IntKind.u64 (p : Nat)), .is (Value.int IntKind.u64 (pw : Nat)), .is (Value.bool true), .is (Value.bool true), .is (Value.int IntKind.u64 (a : Nat)), .is (Value.int IntKind.u64 (p : Nat)), .is (Value.int IntKind.u64 (a12 : Nat)), .is (Value.int IntKind.u64 (a : Nat)), .is (Value.int IntKind.u64 (b : Nat)), .is (Value.int IntKind.u64 (c : Nat)), .is (Value.int IntKind.u64 (p : Nat)), .is (Value.int IntKind.u64 (ac : Nat)), .is (Value.int IntKind.u64 (aas : Nat)), .is (Value.int IntKind.u64 (p : Nat)), .is (Value.int IntKind.u64 (av : Nat)), .is (Value.int IntKind.u64 (a : Nat)), .is (Value.int IntKind.u64 (b : Nat)), .is (Value.int IntKind.u64 (c : Nat)), .is (Value.int IntKind.u64 (s : Nat)), .is (Value.int IntKind.u64 (p : Nat)), .is (Value.int IntKind.u64 (av : Nat)), .is (Value.bool true), .is (Value.bool true), .is (Value.bool true), .is (Value.bool true), .is (Value.bool true), .is (Value.bool true)] [] [some 91, some 92, some 93, some 94, some 95, some 96, some 97, some 98, some 99, some 100, some 101, some 102, some 103, some 104, some 105, some 106, some 107, some 108, some 109, some 110, some 111, some 112, some 113, some 114, some 115, some 116, some 117, some 118, some 119, some 120, some 121, some 122, some 123, some 124, some 6] (by kernel_rfl) (by kernel_rfl) (by kernel_rfl) (by kernel_rfl) (by kernel_rfl) (by simp [Rg.stos]) (by rfl) (by rfl) (by kernel_rfl) (by simp) ((Below.refl _ _).drew) (fun Q' => ?_) (fun K hK wn hs => ?_)
    · refine ⟨?_, ?_, ?_, ?_, ?_, ?_, ?_, ?_, ?_, ?_, ?_, ?_, ?_, ?_, ?_, ?_, ?_, ?_, ?_, ?_, ?_, ?_, ?_, ?_, ?_, ?_, ?_, ?_, ?_, ?_, ?_, ?_, ?_, ?_, ?_, trivial⟩
      · intro a' w' ha hs hw hold
        have eo14 : a'.tmps[14]? = some (Value.int IntKind.u64 (pw : Nat)) := (ha.rest 14 (by kernel_rfl)).trans rfl
        exact ⟨rfl, .inl ⟨wanted_none rfl, wp_val (run_move rfl (ev_tmp eo14)) ⟨rfl, Below.refl _ _⟩⟩⟩
      · intro a' w' ha hs hw hold
        have eo1 : a'.tmps[1]? = some (Value.int IntKind.u64 (a : Nat)) := (ha.rest 1 (by kernel_rfl)).trans rfl
        exact ⟨rfl, .inl ⟨wanted_none rfl, wp_val (run_move rfl (ev_tmp eo1)) ⟨rfl, Below.refl _ _⟩⟩⟩
      · intro a' w' ha hs hw hold
        have eo8 : a'.tmps[8]? = some (Value.int IntKind.u64 (p : Nat)) := (ha.rest 8 (by kernel_rfl)).trans rfl
        exact ⟨rfl, .inl ⟨wanted_none rfl, wp_val (run_move rfl (ev_tmp eo8)) ⟨rfl, Below.refl _ _⟩⟩⟩
      · intro a' w' ha hs hw hold
        have e1 : a'.tmps[92]? = some (Value.int IntKind.u64 (a : Nat)) := Rg.slot_get rfl rfl (hw 1 (by kernel_rfl) _ rfl)
        have e2 : a'.tmps[93]? = some (Value.int IntKind.u64 (p : Nat)) := Rg.slot_get rfl rfl (hw 2 (by kernel_rfl) _ rfl)
        exact ⟨rfl, .inl ⟨wanted_none rfl, call_step rfl Try.func57 (by kernel_rfl) rfl (map_three (ev_tmp e1) rfl (ev_tmp e2)) (opow_is a 5 p a5 _ HA.out (by omega) hp0.out pL.out ha5.out) (fun e w2 he => by obtain ⟨rfl, hb⟩ := he; exact ⟨_, rfl, rfl, hb⟩)⟩⟩
      · intro a' w' ha hs hw hold
        have eo2 : a'.tmps[2]? = some (Value.int IntKind.u64 (b : Nat)) := (ha.rest 2 (by kernel_rfl)).trans rfl
        exact ⟨rfl, .inl ⟨wanted_none rfl, wp_val (run_move rfl (ev_tmp eo2)) ⟨rfl, Below.refl _ _⟩⟩⟩
      · intro a' w' ha hs hw hold
        have eo8 : a'.tmps[8]? = some (Value.int IntKind.u64 (p : Nat)) := (ha.rest 8 (by kernel_rfl)).trans rfl
        exact ⟨rfl, .inl ⟨wanted_none rfl, wp_val (run_move rfl (ev_tmp eo8)) ⟨rfl, Below.refl _ _⟩⟩⟩
      · intro a' w' ha hs hw hold
        have e4 : a'.tmps[95]? = some (Value.int IntKind.u64 (b : Nat)) := Rg.slot_get rfl rfl (hw 4 (by kernel_rfl) _ rfl)
        have e5 : a'.tmps[96]? = some (Value.int IntKind.u64 (p : Nat)) := Rg.slot_get rfl rfl (hw 5 (by kernel_rfl) _ rfl)
        exact ⟨rfl, .inl ⟨wanted_none rfl, call_step rfl Try.func57 (by kernel_rfl) rfl (map_three (ev_tmp e4) rfl (ev_tmp e5)) (opow_is b 5 p b5 _ HB.out (by omega) hp0.out pL.out hb5.out) (fun e w2 he => by obtain ⟨rfl, hb⟩ := he; exact ⟨_, rfl, rfl, hb⟩)⟩⟩
      · intro a' w' ha hs hw hold
        have e3 : a'.tmps[94]? = some (Value.int IntKind.u64 (a5 : Nat)) := Rg.slot_get rfl rfl (hw 3 (by kernel_rfl) _ rfl)
        have e6 : a'.tmps[97]? = some (Value.int IntKind.u64 (b5 : Nat)) := Rg.slot_get rfl rfl (hw 6 (by kernel_rfl) _ rfl)
        exact ⟨rfl, .inl ⟨wanted_none rfl, wp_val (run_mul64 rfl (ev_tmp e3) (ev_tmp e6) z2.out hab.out) ⟨rfl, Below.refl _ _⟩⟩⟩
      · intro a' w' ha hs hw hold
        have eo8 : a'.tmps[8]? = some (Value.int IntKind.u64 (p : Nat)) := (ha.rest 8 (by kernel_rfl)).trans rfl
        exact ⟨rfl, .inl ⟨wanted_none rfl, wp_val (run_move rfl (ev_tmp eo8)) ⟨rfl, Below.refl _ _⟩⟩⟩
      · intro a' w' ha hs hw hold
        have e7 : a'.tmps[98]? = some (Value.int IntKind.u64 (ab : Nat)) := Rg.slot_get rfl rfl (hw 7 (by kernel_rfl) _ rfl)
        have e8 : a'.tmps[99]? = some (Value.int IntKind.u64 (p : Nat)) := Rg.slot_get rfl rfl (hw 8 (by kernel_rfl) _ rfl)
        exact ⟨rfl, .inl ⟨wanted_none rfl, wp_val (run_rem64 rfl (ev_tmp e7) (ev_tmp e8) hp0.out z2.out w1.out) ⟨rfl, Below.refl _ _⟩⟩⟩
      · intro a' w' ha hs hw hold
        have e0 : a'.tmps[91]? = some (Value.int IntKind.u64 (pw : Nat)) := Rg.slot_get rfl rfl (hw 0 (by kernel_rfl) _ rfl)
        have e9 : a'.tmps[100]? = some (Value.int IntKind.u64 (pw : Nat)) := Rg.slot_get rfl rfl (hw 9 (by kernel_rfl) _ rfl)
        exact ⟨rfl, .inl ⟨wanted_none rfl, wp_val (run_eql64 rfl (ev_tmp e0) (ev_tmp e9) (beq_self_eq_true _)) ⟨rfl, Below.refl _ _⟩⟩⟩
      · intro a' w' ha hs hw hold
        have e10 : a'.tmps[101]? = some (Value.bool true) := Rg.slot_get rfl rfl (hw 10 (by kernel_rfl) _ rfl)
        exact ⟨rfl, .inl ⟨wanted_none rfl, wp_val (run_move rfl (ev_tmp e10)) ⟨rfl, Below.refl _ _⟩⟩⟩
      · intro a' w' ha hs hw hold
        have e11 : a'.tmps[102]? = some (Value.bool true) := Rg.slot_get rfl rfl (hw 11 (by kernel_rfl) _ rfl)
        have eo1 : a'.tmps[1]? = some (Value.int IntKind.u64 (a : Nat)) := (ha.rest 1 (by kernel_rfl)).trans rfl
        exact ⟨rfl, .inl ⟨wanted_some rfl rfl rfl e11, wp_val (run_move rfl (ev_tmp eo1)) ⟨rfl, Below.refl _ _⟩⟩⟩
      · intro a' w' ha hs hw hold
        have e11 : a'.tmps[102]? = some (Value.bool true) := Rg.slot_get rfl rfl (hw 11 (by kernel_rfl) _ rfl)
        have eo8 : a'.tmps[8]? = some (Value.int IntKind.u64 (p : Nat)) := (ha.rest 8 (by kernel_rfl)).trans rfl
        exact ⟨rfl, .inl ⟨wanted_some rfl rfl rfl e11, wp_val (run_move rfl (ev_tmp eo8)) ⟨rfl, Below.refl _ _⟩⟩⟩
      · intro a' w' ha hs hw hold
        have e11 : a'.tmps[102]? = some (Value.bool true) := Rg.slot_get rfl rfl (hw 11 (by kernel_rfl) _ rfl)
        have e12 : a'.tmps[103]? = some (Value.int IntKind.u64 (a : Nat)) := Rg.slot_get rfl rfl (hw 12 (by kernel_rfl) _ rfl)
        have e13 : a'.tmps[104]? = some (Value.int IntKind.u64 (p : Nat)) := Rg.slot_get rfl rfl (hw 13 (by kernel_rfl) _ rfl)
        exact ⟨rfl, .inl ⟨wanted_some rfl rfl rfl e11, call_step rfl Try.func57 (by kernel_rfl) rfl (map_three (ev_tmp e12) rfl (ev_tmp e13)) (opow_is a 12 p a12 _ HA.out (by omega) hp0.out pL.out ha12.out) (fun e w2 he => by obtain ⟨rfl, hb⟩ := he; exact ⟨_, rfl, rfl, hb⟩)⟩⟩
      · intro a' w' ha hs hw hold
        have e11 : a'.tmps[102]? = some (Value.bool true) := Rg.slot_get rfl rfl (hw 11 (by kernel_rfl) _ rfl)
        have eo1 : a'.tmps[1]? = some (Value.int IntKind.u64 (a : Nat)) := (ha.rest 1 (by kernel_rfl)).trans rfl
        exact ⟨rfl, .inl ⟨wanted_some rfl rfl rfl e11, wp_val (run_move rfl (ev_tmp eo1)) ⟨rfl, Below.refl _ _⟩⟩⟩
      · intro a' w' ha hs hw hold
        have e11 : a'.tmps[102]? = some (Value.bool true) := Rg.slot_get rfl rfl (hw 11 (by kernel_rfl) _ rfl)
        have eo2 : a'.tmps[2]? = some (Value.int IntKind.u64 (b : Nat)) := (ha.rest 2 (by kernel_rfl)).trans rfl
        exact ⟨rfl, .inl ⟨wanted_some rfl rfl rfl e11, wp_val (run_move rfl (ev_tmp eo2)) ⟨rfl, Below.refl _ _⟩⟩⟩
      · intro a' w' ha hs hw hold
        have e11 : a'.tmps[102]? = some (Value.bool true) := Rg.slot_get rfl rfl (hw 11 (by kernel_rfl) _ rfl)
        have e16 : a'.tmps[107]? = some (Value.int IntKind.u64 (b : Nat)) := Rg.slot_get rfl rfl (hw 16 (by kernel_rfl) _ rfl)
        exact ⟨rfl, .inl ⟨wanted_some rfl rfl rfl e11, wp_val (run_rem64 (b := 100) rfl (ev_tmp e16) rfl (by omega) HB.out hc.out) ⟨rfl, Below.refl _ _⟩⟩⟩
      · intro a' w' ha hs hw hold
        have e11 : a'.tmps[102]? = some (Value.bool true) := Rg.slot_get rfl rfl (hw 11 (by kernel_rfl) _ rfl)
        have eo8 : a'.tmps[8]? = some (Value.int IntKind.u64 (p : Nat)) := (ha.rest 8 (by kernel_rfl)).trans rfl
        exact ⟨rfl, .inl ⟨wanted_some rfl rfl rfl e11, wp_val (run_move rfl (ev_tmp eo8)) ⟨rfl, Below.refl _ _⟩⟩⟩
      · intro a' w' ha hs hw hold
        have e11 : a'.tmps[102]? = some (Value.bool true) := Rg.slot_get rfl rfl (hw 11 (by kernel_rfl) _ rfl)
        have e15 : a'.tmps[106]? = some (Value.int IntKind.u64 (a : Nat)) := Rg.slot_get rfl rfl (hw 15 (by kernel_rfl) _ rfl)
        have e17 : a'.tmps[108]? = some (Value.int IntKind.u64 (c : Nat)) := Rg.slot_get rfl rfl (hw 17 (by kernel_rfl) _ rfl)
        have e18 : a'.tmps[109]? = some (Value.int IntKind.u64 (p : Nat)) := Rg.slot_get rfl rfl (hw 18 (by kernel_rfl) _ rfl)
        exact ⟨rfl, .inl ⟨wanted_some rfl rfl rfl e11, call_step rfl Try.func57 (by kernel_rfl) rfl (map_three (ev_tmp e15) (ev_tmp e17) (ev_tmp e18)) (opow_is a c p ac _ HA.out (by have := hc1.out; omega) hp0.out pL.out hac.out) (fun e w2 he => by obtain ⟨rfl, hb⟩ := he; exact ⟨_, rfl, rfl, hb⟩)⟩⟩
      · intro a' w' ha hs hw hold
        have e11 : a'.tmps[102]? = some (Value.bool true) := Rg.slot_get rfl rfl (hw 11 (by kernel_rfl) _ rfl)
        have e14 : a'.tmps[105]? = some (Value.int IntKind.u64 (a12 : Nat)) := Rg.slot_get rfl rfl (hw 14 (by kernel_rfl) _ rfl)
        have e19 : a'.tmps[110]? = some (Value.int IntKind.u64 (ac : Nat)) := Rg.slot_get rfl rfl (hw 19 (by kernel_rfl) _ rfl)
        exact ⟨rfl, .inl ⟨wanted_some rfl rfl rfl e11, wp_val (run_mul64 rfl (ev_tmp e14) (ev_tmp e19) z3.out has.out) ⟨rfl, Below.refl _ _⟩⟩⟩
      · intro a' w' ha hs hw hold
        have e11 : a'.tmps[102]? = some (Value.bool true) := Rg.slot_get rfl rfl (hw 11 (by kernel_rfl) _ rfl)
        have eo8 : a'.tmps[8]? = some (Value.int IntKind.u64 (p : Nat)) := (ha.rest 8 (by kernel_rfl)).trans rfl
        exact ⟨rfl, .inl ⟨wanted_some rfl rfl rfl e11, wp_val (run_move rfl (ev_tmp eo8)) ⟨rfl, Below.refl _ _⟩⟩⟩
      · intro a' w' ha hs hw hold
        have e11 : a'.tmps[102]? = some (Value.bool true) := Rg.slot_get rfl rfl (hw 11 (by kernel_rfl) _ rfl)
        have e20 : a'.tmps[111]? = some (Value.int IntKind.u64 (aas : Nat)) := Rg.slot_get rfl rfl (hw 20 (by kernel_rfl) _ rfl)
        have e21 : a'.tmps[112]? = some (Value.int IntKind.u64 (p : Nat)) := Rg.slot_get rfl rfl (hw 21 (by kernel_rfl) _ rfl)
        exact ⟨rfl, .inl ⟨wanted_some rfl rfl rfl e11, wp_val (run_rem64 rfl (ev_tmp e20) (ev_tmp e21) hp0.out z3.out w2.out) ⟨rfl, Below.refl _ _⟩⟩⟩
      · intro a' w' ha hs hw hold
        have e11 : a'.tmps[102]? = some (Value.bool true) := Rg.slot_get rfl rfl (hw 11 (by kernel_rfl) _ rfl)
        have eo1 : a'.tmps[1]? = some (Value.int IntKind.u64 (a : Nat)) := (ha.rest 1 (by kernel_rfl)).trans rfl
        exact ⟨rfl, .inl ⟨wanted_some rfl rfl rfl e11, wp_val (run_move rfl (ev_tmp eo1)) ⟨rfl, Below.refl _ _⟩⟩⟩
      · intro a' w' ha hs hw hold
        have e11 : a'.tmps[102]? = some (Value.bool true) := Rg.slot_get rfl rfl (hw 11 (by kernel_rfl) _ rfl)
        have eo2 : a'.tmps[2]? = some (Value.int IntKind.u64 (b : Nat)) := (ha.rest 2 (by kernel_rfl)).trans rfl
        exact ⟨rfl, .inl ⟨wanted_some rfl rfl rfl e11, wp_val (run_move rfl (ev_tmp eo2)) ⟨rfl, Below.refl _ _⟩⟩⟩
      · intro a' w' ha hs hw hold
        have e11 : a'.tmps[102]? = some (Value.bool true) := Rg.slot_get rfl rfl (hw 11 (by kernel_rfl) _ rfl)
        have e24 : a'.tmps[115]? = some (Value.int IntKind.u64 (b : Nat)) := Rg.slot_get rfl rfl (hw 24 (by kernel_rfl) _ rfl)
        exact ⟨rfl, .inl ⟨wanted_some rfl rfl rfl e11, wp_val (run_rem64 (b := 100) rfl (ev_tmp e24) rfl (by omega) HB.out hc.out) ⟨rfl, Below.refl _ _⟩⟩⟩
      · intro a' w' ha hs hw hold
        have e11 : a'.tmps[102]? = some (Value.bool true) := Rg.slot_get rfl rfl (hw 11 (by kernel_rfl) _ rfl)
        have e25 : a'.tmps[116]? = some (Value.int IntKind.u64 (c : Nat)) := Rg.slot_get rfl rfl (hw 25 (by kernel_rfl) _ rfl)
        exact ⟨rfl, .inl ⟨wanted_some rfl rfl rfl e11, wp_val (run_bin64 (a := 12) rfl rfl (ev_tmp e25) (by have := hc1.out; have := hsm.out; omega) hsm.out) ⟨rfl, Below.refl _ _⟩⟩⟩
      · intro a' w' ha hs hw hold
        have e11 : a'.tmps[102]? = some (Value.bool true) := Rg.slot_get rfl rfl (hw 11 (by kernel_rfl) _ rfl)
        have eo8 : a'.tmps[8]? = some (Value.int IntKind.u64 (p : Nat)) := (ha.rest 8 (by kernel_rfl)).trans rfl
        exact ⟨rfl, .inl ⟨wanted_some rfl rfl rfl e11, wp_val (run_move rfl (ev_tmp eo8)) ⟨rfl, Below.refl _ _⟩⟩⟩
      · intro a' w' ha hs hw hold
        have e11 : a'.tmps[102]? = some (Value.bool true) := Rg.slot_get rfl rfl (hw 11 (by kernel_rfl) _ rfl)
        have e23 : a'.tmps[114]? = some (Value.int IntKind.u64 (a : Nat)) := Rg.slot_get rfl rfl (hw 23 (by kernel_rfl) _ rfl)
        have e26 : a'.tmps[117]? = some (Value.int IntKind.u64 (s : Nat)) := Rg.slot_get rfl rfl (hw 26 (by kernel_rfl) _ rfl)
        have e27 : a'.tmps[118]? = some (Value.int IntKind.u64 (p : Nat)) := Rg.slot_get rfl rfl (hw 27 (by kernel_rfl) _ rfl)
        exact ⟨rfl, .inl ⟨wanted_some rfl rfl rfl e11, call_step rfl Try.func57 (by kernel_rfl) rfl (map_three (ev_tmp e23) (ev_tmp e26) (ev_tmp e27)) (opow_is a s p av _ HA.out (by have := hc1.out; have := hsm.out; omega) hp0.out pL.out hav.out) (fun e w2 he => by obtain ⟨rfl, hb⟩ := he; exact ⟨_, rfl, rfl, hb⟩)⟩⟩
      · intro a' w' ha hs hw hold
        have e11 : a'.tmps[102]? = some (Value.bool true) := Rg.slot_get rfl rfl (hw 11 (by kernel_rfl) _ rfl)
        have e22 : a'.tmps[113]? = some (Value.int IntKind.u64 (av : Nat)) := Rg.slot_get rfl rfl (hw 22 (by kernel_rfl) _ rfl)
        have e28 : a'.tmps[119]? = some (Value.int IntKind.u64 (av : Nat)) := Rg.slot_get rfl rfl (hw 28 (by kernel_rfl) _ rfl)
        exact ⟨rfl, .inl ⟨wanted_some rfl rfl rfl e11, wp_val (run_eql64 rfl (ev_tmp e22) (ev_tmp e28) (beq_self_eq_true _)) ⟨rfl, Below.refl _ _⟩⟩⟩
      · intro a' w' ha hs hw hold
        have e11 : a'.tmps[102]? = some (Value.bool true) := Rg.slot_get rfl rfl (hw 11 (by kernel_rfl) _ rfl)
        have e29 : a'.tmps[120]? = some (Value.bool true) := Rg.slot_get rfl rfl (hw 29 (by kernel_rfl) _ rfl)
        exact ⟨rfl, .inl ⟨wanted_none rfl, wp_val (run_pick (b := true) rfl (ev_tmp e11) (ev_tmp e29)) ⟨rfl, Below.refl _ _⟩⟩⟩
      · intro a' w' ha hs hw hold
        have e30 : a'.tmps[121]? = some (Value.bool true) := Rg.slot_get rfl rfl (hw 30 (by kernel_rfl) _ rfl)
        exact ⟨rfl, .inl ⟨wanted_none rfl, wp_val (run_move rfl (ev_tmp e30)) ⟨rfl, Below.refl _ _⟩⟩⟩
      · intro a' w' ha hs hw hold
        have e31 : a'.tmps[122]? = some (Value.bool true) := Rg.slot_get rfl rfl (hw 31 (by kernel_rfl) _ rfl)
        have eo7 : a'.tmps[7]? = some (Value.bool true) := (ha.rest 7 (by kernel_rfl)).trans rfl
        exact ⟨rfl, .inl ⟨wanted_some rfl rfl rfl e31, wp_val (run_move rfl (ev_tmp eo7)) ⟨rfl, Below.refl _ _⟩⟩⟩
      · intro a' w' ha hs hw hold
        have e31 : a'.tmps[122]? = some (Value.bool true) := Rg.slot_get rfl rfl (hw 31 (by kernel_rfl) _ rfl)
        have e32 : a'.tmps[123]? = some (Value.bool true) := Rg.slot_get rfl rfl (hw 32 (by kernel_rfl) _ rfl)
        exact ⟨rfl, .inl ⟨wanted_none rfl, wp_val (run_pick (b := true) rfl (ev_tmp e31) (ev_tmp e32)) ⟨rfl, Below.refl _ _⟩⟩⟩
      · intro a' w' ha hs hw hold
        have e33 : a'.tmps[124]? = some (Value.bool true) := Rg.slot_get rfl rfl (hw 33 (by kernel_rfl) _ rfl)
        exact ⟨rfl, .inl ⟨wanted_none rfl, wp_val (run_assign rfl (ev_tmp e33)) ⟨rfl, Below.refl _ _⟩⟩⟩
    simp only [Rg.allG]
    simp only [setOpt, Rg.setOpt, List.set_cons_succ, List.set_cons_zero]
    refine hK _ _ ?_
    clear hK K
    replace hs := hs.below
    replace DW := nxd DW hg hs rfl rfl rfl rfl
    clear hs
    go_wp2
    go_ret
    exact ⟨rfl, by rw [hg.out]; exact DW.out⟩
end Go.Proofs.Ytfigimfdojbkeaa
