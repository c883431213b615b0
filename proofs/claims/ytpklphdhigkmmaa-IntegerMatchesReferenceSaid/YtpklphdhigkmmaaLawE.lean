/-
  Small things for the law IntegerDivisors: divides, the reference's Sign, facts on divisors.
-/
import Derived.Test.YtpklphdhigkmmaaLehF
import Derived.Test.YtpklphdhigkmmaaRegD
import Derived.Test.YtpklphdhigkmmaaBezC
import Derived.Test.YtpklphdhigkmmaaSanB
import Derived.Test.YtpklphdhigkmmaaRefB
namespace Go.Proofs.Ytpklphdhigkmmaa
open Go.RowKit
attribute [local go_sem ↓] Go.wp_at_zero Go.wp_at_succ

theorem mul_is (va vb : Value) (a b c : Int) (w : World) (ha : Iv w va a) (hb : Iv w vb b) (sa : Sz a 1000000) (sb : Sz b 1000000) (h : a * b = c) : Calls Try.prog 30 #[va, vb] w (RetIv c w) := by
  subst h; exact mul_any va vb a b w ha hb sa sb
theorem gcd_is (va vb : Value) (a b g : Int) (w : World) (ha : Iv w va a) (hb : Iv w vb b) (sa : Sz a 1000000) (sb : Sz b 1000000) (h : (Int.gcd a b : Int) = g) : Calls Try.prog 21 #[va, vb] w (RetIv g w) := by
  subst h; exact gcdI_any va vb a b w ha hb sa sb

set_option maxHeartbeats 1000000 in
theorem divides_zero (vg va : Value)  (w : World) (hg : Iv w vg 0) (ha : Iv w va 0) : Calls Try.prog 39 #[vg, va] w (RetV (.bool true) w) := by
  obtain ⟨A, n, c, rfl, h1, h2, h3⟩ := hg.form
  obtain ⟨B, m, d, rfl, k1, k2, k3⟩ := ha.form
  have hn : n = 0 := hg.len0.2 rfl
  have hm : m = 0 := ha.len0.2 rfl
  subst hn hm
  have HG := Lib.hid hg
  have HA := Lib.hid ha
  have hs0 : Sz 0 1000000 := Sz.mono (I64.sz ⟨by omega, by omega⟩) (by omega)
  clear h3 k3 hg ha
  generalize decide ((0 : Int) < 0) = sg at *
  go_enter Try.func39, Try.ntmps39
  go_wp2_with fail
  obtain ⟨W, hW⟩ : ∃ W, W = (w.alloc (Obj.cells #[Value.bool sg, Value.slice A 0 c] 27)).alloc (Obj.cells #[Value.bool sg, Value.slice B 0 d] 27) := ⟨_, rfl⟩
  rw [← hW]
  have b0 : Box W w.heap.size sg (.slice A 0 c) := by rw [hW]; exact (Box.new _ _ _).alloc _
  have b1 : Box W (w.heap.size + 1) sg (.slice B 0 d) := by rw [hW]; have := Box.new (w.alloc (Obj.cells #[Value.bool sg, Value.slice A 0 c] 27)) sg (.slice B 0 d); simpa using this
  have i0 : Iv W (.agg #[.bool sg, .slice A 0 c]) 0 := by rw [hW]; exact (HG.out.alloc _).alloc _
  have i1 : Iv W (.agg #[.bool sg, .slice B 0 d]) 0 := by rw [hW]; exact (HA.out.alloc _).alloc _
  have hbW : Below w.heap.size w W := by rw [hW]; exact ((Below.refl _ _).alloc (Nat.le_refl _) _).alloc (by simp) _
  have HBW := Lib.hid hbW
  have I0 := Lib.hid i0
  have I1 := Lib.hid i1
  clear hW i0 i1
  refine (divMod_zero _ _ 0 _ I1.out I0.out hs0).mono ?_
  unfold zeroI
  rintro e w1 ⟨rfl, hb⟩
  have c1 := Lib.hid (b1.next hb rfl)
  have hl := Lib.hid (link_below HBW.out hb HBW.out.size rfl rfl rfl rfl)
  have hs1 : w.heap.size + 1 < w1.heap.size := c1.out.lt
  clear b0 b1 hbW
  generalize hg0 : w.heap.size = g at *
  clear hs1
  go_upto_region 2 with fail
  obtain ⟨W2, hW2⟩ : ∃ W2, W2 = (w1.alloc (Obj.cells #[Value.bool false, Value.slice none 0 0] 27)).alloc (Obj.cells #[Value.bool false, Value.slice none 0 0] 27) := ⟨_, rfl⟩
  rw [← hW2]
  have hb2 : Below w1.heap.size w1 W2 := by rw [hW2]; exact ((Below.refl _ _).alloc (Nat.le_refl _) _).alloc (by simp) _
  have x1 : Box W2 (w1.heap.size + 1) false (.slice none 0 0) := by rw [hW2]; have := Box.new (w1.alloc (Obj.cells #[Value.bool false, Value.slice none 0 0] 27)) false (.slice none 0 0); simpa using this
  have x0 := c1.out.next hb2 rfl
  have hl2 := Lib.hid (link_below hl.out hb2 (by have := hl.out.size; omega) rfl rfl rfl rfl)
  clear hW2
  have q0 := x0.cell0
  have q1 := x0.cell1
  have q2 := x1.cell0
  have q3 := x1.cell1
  go_wp2
  go_ret
  exact ⟨by first | rfl | (simp; done), by rw [hg0]; exact hl2.out⟩

set_option maxHeartbeats 1000000 in
theorem divides_nil (vg va : Value) (g0 : Int) (hg0n : g0 ≠ 0) (sgz : Sz g0 1000000) (w : World) (hg : Iv w vg g0) (ha : Iv w va 0) : Calls Try.prog 39 #[vg, va] w (RetV (.bool true) w) := by
  obtain ⟨A, n, c, rfl, h1, h2, h3⟩ := hg.form
  obtain ⟨B, m, d, rfl, k1, k2, k3⟩ := ha.form
  have hm : m = 0 := ha.len0.2 rfl
  subst hm
  have HG := Lib.hid hg
  have HA := Lib.hid ha
  have hs0 : Sz 0 1000000 := Sz.mono (I64.sz ⟨by omega, by omega⟩) (by omega)
  clear h3 k3 hg ha
  generalize decide ((g0 : Int) < 0) = sg at *
  generalize decide ((0 : Int) < 0) = sa at *
  go_enter Try.func39, Try.ntmps39
  go_wp2_with fail
  obtain ⟨W, hW⟩ : ∃ W, W = (w.alloc (Obj.cells #[Value.bool sg, Value.slice A n c] 27)).alloc (Obj.cells #[Value.bool sa, Value.slice B 0 d] 27) := ⟨_, rfl⟩
  rw [← hW]
  have b0 : Box W w.heap.size sg (.slice A n c) := by rw [hW]; exact (Box.new _ _ _).alloc _
  have b1 : Box W (w.heap.size + 1) sa (.slice B 0 d) := by rw [hW]; have := Box.new (w.alloc (Obj.cells #[Value.bool sg, Value.slice A n c] 27)) sa (.slice B 0 d); simpa using this
  have i0 : Iv W (.agg #[.bool sg, .slice A n c]) g0 := by rw [hW]; exact (HG.out.alloc _).alloc _
  have i1 : Iv W (.agg #[.bool sa, .slice B 0 d]) 0 := by rw [hW]; exact (HA.out.alloc _).alloc _
  have hbW : Below w.heap.size w W := by rw [hW]; exact ((Below.refl _ _).alloc (Nat.le_refl _) _).alloc (by simp) _
  have HBW := Lib.hid hbW
  have I0 := Lib.hid i0
  have I1 := Lib.hid i1
  clear hW i0 i1
  refine (divMod_any _ _ 0 g0 _ I1.out I0.out hs0 sgz hg0n).mono ?_
  rintro e w1 ⟨v1, u1, rfl, hq, hr, hb⟩
  obtain ⟨Xq, pq, qq, rfl, _, _, _⟩ := hq.form
  obtain ⟨Xr, pr, qr, rfl, _, _, _⟩ := hr.form
  clear hq hr
  generalize decide (_ / _ < (0 : Int)) = sq at *
  generalize decide (_ % _ < (0 : Int)) = sr at *
  have c1 := Lib.hid (b1.next hb rfl)
  have hl := Lib.hid (link_below HBW.out hb HBW.out.size rfl rfl rfl rfl)
  have hs1 : w.heap.size + 1 < w1.heap.size := c1.out.lt
  clear b0 b1 hbW
  generalize hg0 : w.heap.size = g at *
  clear hs1
  go_upto_region 2 with fail
  obtain ⟨W2, hW2⟩ : ∃ W2, W2 = (w1.alloc (Obj.cells #[Value.bool sq, Value.slice Xq pq qq] 27)).alloc (Obj.cells #[Value.bool sr, Value.slice Xr pr qr] 27) := ⟨_, rfl⟩
  rw [← hW2]
  have hb2 : Below w1.heap.size w1 W2 := by rw [hW2]; exact ((Below.refl _ _).alloc (Nat.le_refl _) _).alloc (by simp) _
  have x1 : Box W2 (w1.heap.size + 1) sr (.slice Xr pr qr) := by rw [hW2]; have := Box.new (w1.alloc (Obj.cells #[Value.bool sq, Value.slice Xq pq qq] 27)) sr (.slice Xr pr qr); simpa using this
  have x0 := c1.out.next hb2 rfl
  have hl2 := Lib.hid (link_below hl.out hb2 (by have := hl.out.size; omega) rfl rfl rfl rfl)
  clear hW2
  have q0 := x0.cell0
  have q1 := x0.cell1
  have q2 := x1.cell0
  have q3 := x1.cell1
  go_wp2
  go_ret
  exact ⟨by first | rfl | (simp; done), by rw [hg0]; exact hl2.out⟩

set_option maxHeartbeats 1000000 in
theorem divides_some (vg va : Value) (g0 a0 : Int) (hg0n : g0 ≠ 0) (ha0n : a0 ≠ 0) (hd : a0 % g0 = 0) (sgz : Sz g0 1000000) (saz : Sz a0 1000000) (w : World) (hg : Iv w vg g0) (ha : Iv w va a0) : Calls Try.prog 39 #[vg, va] w (RetV (.bool true) w) := by
  obtain ⟨A, n, c, rfl, h1, h2, h3⟩ := hg.form
  obtain ⟨B, m, d, rfl, k1, k2, k3⟩ := ha.form
  have hm : ((m : Int) == 0) = false := by have h1 := ha.len0; simp; intro e; exact ha0n (h1.1 e)
  have HG := Lib.hid hg
  have HA := Lib.hid ha
  have hs0 : Sz 0 1000000 := Sz.mono (I64.sz ⟨by omega, by omega⟩) (by omega)
  clear h3 k3 hg ha
  generalize decide ((g0 : Int) < 0) = sg at *
  generalize decide ((a0 : Int) < 0) = sa at *
  go_enter Try.func39, Try.ntmps39
  go_wp2_with fail
  obtain ⟨W, hW⟩ : ∃ W, W = (w.alloc (Obj.cells #[Value.bool sg, Value.slice A n c] 27)).alloc (Obj.cells #[Value.bool sa, Value.slice B m d] 27) := ⟨_, rfl⟩
  rw [← hW]
  have b0 : Box W w.heap.size sg (.slice A n c) := by rw [hW]; exact (Box.new _ _ _).alloc _
  have b1 : Box W (w.heap.size + 1) sa (.slice B m d) := by rw [hW]; have := Box.new (w.alloc (Obj.cells #[Value.bool sg, Value.slice A n c] 27)) sa (.slice B m d); simpa using this
  have i0 : Iv W (.agg #[.bool sg, .slice A n c]) g0 := by rw [hW]; exact (HG.out.alloc _).alloc _
  have i1 : Iv W (.agg #[.bool sa, .slice B m d]) a0 := by rw [hW]; exact (HA.out.alloc _).alloc _
  have hbW : Below w.heap.size w W := by rw [hW]; exact ((Below.refl _ _).alloc (Nat.le_refl _) _).alloc (by simp) _
  have HBW := Lib.hid hbW
  have I0 := Lib.hid i0
  have I1 := Lib.hid i1
  clear hW i0 i1
  refine (divMod_any _ _ a0 g0 _ I1.out I0.out saz sgz hg0n).mono ?_
  rintro e w1 ⟨v1, u1, rfl, hq, hr, hb⟩
  obtain ⟨Xq, pq, qq, rfl, _, _, _⟩ := hq.form
  obtain ⟨Xr, pr, qr, rfl, _, _, _⟩ := hr.form
  have hpr : pr = 0 := hr.len0.2 hd
  subst hpr
  clear hq hr
  generalize decide (_ / _ < (0 : Int)) = sq at *
  generalize decide (_ % _ < (0 : Int)) = sr at *
  have c1 := Lib.hid (b1.next hb rfl)
  have hl := Lib.hid (link_below HBW.out hb HBW.out.size rfl rfl rfl rfl)
  have hs1 : w.heap.size + 1 < w1.heap.size := c1.out.lt
  clear b0 b1 hbW
  generalize hg0 : w.heap.size = g at *
  clear hs1
  go_upto_region 2 with fail
  obtain ⟨W2, hW2⟩ : ∃ W2, W2 = (w1.alloc (Obj.cells #[Value.bool sq, Value.slice Xq pq qq] 27)).alloc (Obj.cells #[Value.bool sr, Value.slice Xr 0 qr] 27) := ⟨_, rfl⟩
  rw [← hW2]
  have hb2 : Below w1.heap.size w1 W2 := by rw [hW2]; exact ((Below.refl _ _).alloc (Nat.le_refl _) _).alloc (by simp) _
  have x1 : Box W2 (w1.heap.size + 1) sr (.slice Xr 0 qr) := by rw [hW2]; have := Box.new (w1.alloc (Obj.cells #[Value.bool sq, Value.slice Xq pq qq] 27)) sr (.slice Xr 0 qr); simpa using this
  have x0 := c1.out.next hb2 rfl
  have hl2 := Lib.hid (link_below hl.out hb2 (by have := hl.out.size; omega) rfl rfl rfl rfl)
  clear hW2
  have q0 := x0.cell0
  have q1 := x0.cell1
  have q2 := x1.cell0
  have q3 := x1.cell1
  go_wp2
  go_ret
  exact ⟨by first | rfl | (simp; done), by rw [hg0]; exact hl2.out⟩

theorem divides_true (vg va : Value) (g a : Int) (w : World) (hg : Iv w vg g) (ha : Iv w va a) (sg : Sz g 1000000) (sa : Sz a 1000000) (h : g ∣ a) : Calls Try.prog 39 #[vg, va] w (RetV (.bool true) w) := by
  by_cases h0 : g = 0
  · subst h0
    have : a = 0 := Int.zero_dvd.1 h
    subst this
    exact divides_zero vg va w hg ha
  · by_cases h1 : a = 0
    · subst h1
      exact divides_nil vg va g h0 sg w hg ha
    · exact divides_some vg va g a h0 h1 (Int.emod_eq_zero_of_dvd h) sg sa w hg ha

set_option maxHeartbeats 1000000 in
theorem rsign_any (va : Value) (a : Int) (w : World) (ha : Iv w va a) : Calls Try.prog 41 #[va] w (RetV (.int .i64 (sg a)) w) := by
  obtain ⟨A, n, c, rfl, h1, h2, h3⟩ := ha.form
  have hl := ha.len0
  rcases sg_cases a with ⟨h, e⟩ | ⟨h, e⟩ | ⟨h, e⟩
  · rw [e, decide_eq_true h]
    clear e h h3 ha hl
    go_enter Try.func41, Try.ntmps41
    go_wp2
    go_ret
    exact ⟨rfl, (Below.refl _ _).alloc (Nat.le_refl _) _⟩
  · rw [e, decide_eq_false (show ¬ a < 0 by omega)]
    have hn : n = 0 := hl.2 h
    subst hn
    clear e h h3 ha hl
    go_enter Try.func41, Try.ntmps41
    go_wp2
    go_ret
    exact ⟨rfl, (Below.refl _ _).alloc (Nat.le_refl _) _⟩
  · rw [e, decide_eq_false (show ¬ a < 0 by omega)]
    have hn : n ≠ 0 := fun e => by have := hl.1 e; omega
    have hn1 : (1 : Int) ≤ (n : Int) := by omega
    clear e h h3 ha hl hn
    go_enter Try.func41, Try.ntmps41
    go_wp2
    all_goals
      go_ret
      exact ⟨by first | rfl | exact ret_int (by omega) | (simp; omega), (Below.refl _ _).alloc (Nat.le_refl _) _⟩

theorem bez_sz {a b u v : Int} {N : Nat} (h : BezDone a b u v) (hb : b ≠ 0) (sa : Sz a N) (sb : Sz b N) : Sz u N ∧ Sz v (2 * N + 1) := by
  have hg : (0 : Int) < (Int.gcd a b : Int) := by have := Int.gcd_pos_of_ne_zero_right a hb; omega
  have hu : u ≤ (b.natAbs : Int) := by
    have h1 := h.lt
    have h2 : u * 1 ≤ u * (Int.gcd a b : Int) := Int.mul_le_mul_of_nonneg_left (by omega) h.nn
    omega
  have h0 := h.nn
  have su : Sz u N := ⟨by have := sb.lt; omega⟩
  refine ⟨su, ?_⟩
  have e : v = ((Int.gcd a b : Int) - u * a) / b := by
    have := h.eq
    rw [← this, show u * a + v * b - u * a = v * b by omega, Int.mul_ediv_cancel _ hb]
  rw [e]
  refine Sz.ediv ?_ hb
  refine Sz.sub (N := 2 * N) (Sz.mono (M := 2 * N) (N := N) ⟨?_⟩ (by omega)) (Sz.mono (su.mul sa) (by omega))
  have h3 : Int.gcd a b ≤ b.natAbs := Nat.le_of_dvd (by omega) (by unfold Int.gcd; exact Nat.gcd_dvd_right _ _)
  have := sb.lt
  rw [Int.natAbs_natCast]
  omega
theorem sz_gcd {a b : Int} {N : Nat} (sa : Sz a N) (sb : Sz b N) : Sz (Int.gcd a b : Int) (N + 1) := by
  refine ⟨?_⟩
  rw [Int.natAbs_natCast]
  have h1 := gcd_le_add a.natAbs b.natAbs
  have h2 := sa.lt
  have h3 := sb.lt
  unfold Int.gcd
  rw [pw_succ]
  omega
theorem gcd_turn (a b : Int) : (Int.gcd b (-a) : Int) = (Int.gcd a b : Int) := by rw [Int.gcd_neg, Int.gcd_comm]
theorem dvd_gcd_mul (x y c : Int) : c ∣ (Int.gcd (x * c) (y * c) : Int) := Int.dvd_coe_gcd (Int.dvd_mul_left _ _) (Int.dvd_mul_left _ _)

theorem bez_lt {a b u v g : Int} (h : BezDone a b u v) (hg : (Int.gcd a b : Int) = g) (hb : b ≠ 0) : u < (b.natAbs : Int) / g := by
  have h1 := h.lt
  have h2 : (0 : Int) < (Int.gcd a b : Int) := by have := Int.gcd_pos_of_ne_zero_right a hb; omega
  have h3 : (Int.gcd a b : Int) ∣ (b.natAbs : Int) := Int.dvd_natAbs.2 (Int.gcd_dvd_right ..)
  rw [hg] at h1 h2 h3
  obtain ⟨s, hs⟩ := h3
  rw [hs, Int.mul_ediv_cancel_left _ (by omega)]
  rw [hs, Int.mul_comm g s] at h1
  exact Int.lt_of_mul_lt_mul_right h1 (by omega)
theorem gcd_zero_abs {a b g : Int} (hg : (Int.gcd a b : Int) = g) (hb : b = 0) : (a.natAbs : Int) = g := by rw [← hg, hb, Int.gcd_zero_right]
theorem sg_mul_abs (a b g v : Int) (hg : (Int.gcd a b : Int) = g) (hb : b = 0) : sg a * a + v * b = g := by
  rw [← gcd_zero_abs hg hb, hb, Int.mul_zero, Int.add_zero]
  rcases sg_cases a with ⟨h, e⟩ | ⟨h, e⟩ | ⟨h, e⟩ <;> rw [e] <;> omega
theorem bezout_zero_is (va vb : Value) (a b g : Int) (w : World) (ha : Iv w va a) (hb : Iv w vb b) (sa : Sz a 1000000) (h0 : b = 0) (hg : (Int.gcd a b : Int) = g) : Calls Try.prog 17 #[va, vb] w (RetBez g (sg a) 0 w) := by
  rw [← gcd_zero_abs hg h0]
  subst h0
  exact bezout_zero va vb a w ha hb sa

section
variable {o : Oper} {a : Act} {w : World} {K : Act → World → Prop} {Q : Exit → Act → World → Prop} {ρ : Operand → Value} {x : Operand}
theorem run_loadR {g : Nat} {b : Bool} {s : Value} (ho : o.op = .load 24 x) (hx : ρ x = ptr g) (hb : RBox w g b s) : (execOp ρ o).run Try.prog w = .ok (.value (.agg #[.bool b, s])) w := by
  have h0 := hb.cell0
  have h1 := hb.cell1
  simp [execOp, ho, hx, go_sem, ptr, h0, h1]
theorem run_len {A : Option Addr} {n c : Nat} {m : Int} (ho : o.op = .call { callee := .builtin .len, args := #[x], argTypes := #[22] }) (hx : ρ x = .slice A n c) (hm : (n : Int) = m) : (execOp ρ o).run Try.prog w = .ok (.value (.int .i64 m)) w := by
  subst hm
  simp [execOp, ho, hx, go_sem, Builtin.len_, run_underlying Try.underlying22]
end
end Go.Proofs.Ytpklphdhigkmmaa
