/-
  Layer 3: steps on numbers of 64 bits.
  Layer 3: Chinese remainders.
-/
import Derived.Test.YtfigimfdojbkeaaModW
import Derived.Test.YtfigimfdojbkeaaRatG
import Derived.Deep.DeepCutAuto
import Derived.Handy
set_option linter.unusedSimpArgs false
set_option linter.unusedVariables false
section
namespace Go.Proofs.Ytfigimfdojbkeaa
open Go.RowKit
attribute [local go_sem ↓] Go.wp_at_zero Go.wp_at_succ

/-- A cell with a number of 64 bits. -/
def C64 (w : World) (b k v : Nat) : Prop := b < w.heap.size ∧ w.cell? ⟨b, k, none⟩ = some (.int .u64 (v : Nat))
theorem C64.lt {w : World} {b k v : Nat} (h : C64 w b k v) : b < w.heap.size := h.1
theorem cell_heap {w w' : World} {b k : Nat} (e : w'.heap[b]? = w.heap[b]?) : w'.cell? ⟨b, k, none⟩ = w.cell? ⟨b, k, none⟩ := by simp [World.cell?, e]
theorem C64.of {w w' : World} {b k v : Nat} (h : C64 w b k v) (hs : b < w'.heap.size) (e : w'.heap[b]? = w.heap[b]?) : C64 w' b k v := ⟨hs, (cell_heap e).trans h.2⟩
theorem C64.next {w w1 w' : World} {b k v : Nat} (h : C64 w b k v) (hb : Below w1.heap.size w1 w') (e : w1.heap = w.heap) : C64 w' b k v := by
  have h1 : b < w1.heap.size := by rw [e]; exact h.1
  exact h.of (Nat.lt_of_lt_of_le h1 hb.size) ((hb.block b h1).trans (by rw [e]))
theorem C64.bel {O : List Nat} {V w : World} {b k v : Nat} (h : C64 V b k v) (hb : Rg.Bel O V w) (hn : b ∉ O) : C64 w b k v := by
  have e := hb.block b h.1 hn
  refine h.of ?_ e
  rcases Nat.lt_or_ge b w.heap.size with h1 | h1
  · exact h1
  · rw [Array.getElem?_eq_none h1, Array.getElem?_eq_getElem h.1] at e; cases e
section
variable {o : Oper} {w : World} {ρ : Operand → Value} {x y i : Operand} {t u : TypeId}
theorem run_idx64 {b off n c k : Nat} (ho : o.op = .indexAddr 72 x i) (hx : ρ x = .slice (some ⟨b, off, none⟩) n c) (hi : ρ i = .int .i64 (k : Int)) (hk : k < n) : (execOp ρ o).run Try.prog w = .ok (.value (.pointer (some ⟨b, off + k, none⟩))) w := by
  have h1 : (k : Int) < n := by omega
  simp [execOp, ho, hx, hi, go_sem, h1]
theorem run_ld64 {b k v : Nat} (ho : o.op = .load 52 x) (hx : ρ x = .pointer (some ⟨b, k, none⟩)) (hc : C64 w b k v) : (execOp ρ o).run Try.prog w = .ok (.value (.int .u64 (v : Nat))) w := by
  have h := hc.2
  simp [execOp, ho, hx, go_sem, h]
theorem run_rem64 {a b r : Nat} (ho : o.op = .binOp .rem t x y u) (hx : ρ x = .int .u64 (a : Nat)) (hy : ρ y = .int .u64 (b : Nat)) (h0 : 0 < b) (ha : a < 18446744073709551616) (h : a % b = r) : (execOp ρ o).run Try.prog w = .ok (.value (.int .u64 (r : Nat))) w := by
  subst h
  have hz : ¬ b = 0 := by omega
  have e1 : (a : Int).tmod (b : Int) = (a : Int) % (b : Int) := Int.tmod_eq_emod_of_nonneg (by omega)
  simp [execOp, ho, hx, hy, go_sem, hz, e1]
end

end Go.Proofs.Ytfigimfdojbkeaa
end

section
namespace Go.Proofs.Ytfigimfdojbkeaa
open Go.RowKit
attribute [local go_sem ↓] Go.wp_at_zero Go.wp_at_succ

theorem run_bin64 {o : Oper} {w : World} {ρ : Operand → Value} {x y : Operand} {t u : TypeId} {a b r : Nat} (ho : o.op = .binOp .add t x y u) (hx : ρ x = .int .u64 (a : Nat)) (hy : ρ y = .int .u64 (b : Nat)) (hr : r < 18446744073709551616) (h : a + b = r) : (execOp ρ o).run Try.prog w = .ok (.value (.int .u64 (r : Nat))) w := by
  subst h
  have e1 : IntKind.u64.wrap ((a : Int) + b) = ((a + b : Nat) : Int) := by rw [← Int.natCast_add]; exact IntWalk.u64_in _ (by omega)
  simp [execOp, ho, hx, hy, go_sem, e1]
theorem run_sub64 {o : Oper} {w : World} {ρ : Operand → Value} {x y : Operand} {t u : TypeId} {a b r : Nat} (ho : o.op = .binOp .sub t x y u) (hx : ρ x = .int .u64 (a : Nat)) (hy : ρ y = .int .u64 (b : Nat)) (ha : a < 18446744073709551616) (hb : b ≤ a) (h : a - b = r) : (execOp ρ o).run Try.prog w = .ok (.value (.int .u64 (r : Nat))) w := by
  subst h
  have e1 : IntKind.u64.wrap ((a : Int) - b) = ((a - b : Nat) : Int) := by rw [IntWalk.u64_in _ (by omega)]; omega
  simp [execOp, ho, hx, hy, go_sem, e1]
/-- Chinese remainders, one prime after the other. -/
def crt (ls ps : List Nat) : Nat → Nat × Nat
  | 0 => (0, 1)
  | i + 1 => ((crt ls ps i).1 + (crt ls ps i).2 * (((gd ls i % gd ps i + gd ps i - (crt ls ps i).1 % gd ps i) % gd ps i * (((crt ls ps i).2 % gd ps i) ^ (gd ps i - 2) % gd ps i)) % gd ps i), (crt ls ps i).2 * gd ps i)
theorem crt_lt {ls ps : List Nat} {n : Nat} (hp : ∀ i, i < n → 0 < gd ps i) : ∀ i, i ≤ n → (crt ls ps i).1 < (crt ls ps i).2 := by
  intro i
  induction i with
  | zero => intro _; simp [crt]
  | succ i ih =>
    intro hi
    have h := ih (by omega)
    have h0 := hp i (by omega)
    have ht := Nat.mod_lt ((gd ls i % gd ps i + gd ps i - (crt ls ps i).1 % gd ps i) % gd ps i * (((crt ls ps i).2 % gd ps i) ^ (gd ps i - 2) % gd ps i)) h0
    unfold crt
    simp only
    generalize ((gd ls i % gd ps i + gd ps i - (crt ls ps i).1 % gd ps i) % gd ps i * (((crt ls ps i).2 % gd ps i) ^ (gd ps i - 2) % gd ps i)) % gd ps i = t at *
    generalize crt ls ps i = um at *
    generalize gd ps i = p at *
    have h1 : um.2 * (t + 1) ≤ um.2 * p := Nat.mul_le_mul_left _ (by omega)
    rw [Nat.mul_add, Nat.mul_one] at h1
    omega
theorem crt_pw {ls ps : List Nat} {n : Nat} (hp : ∀ i, i < n → gd ps i ≤ 2147483647) : ∀ i, i ≤ n → (crt ls ps i).2 ≤ pw i := by
  intro i
  induction i with
  | zero => intro _; simp [crt, pw]
  | succ i ih =>
    intro hi
    have h := ih (by omega)
    have h0 := hp i (by omega)
    unfold crt
    simp only
    rw [pw_succ, Nat.mul_comm]
    exact Nat.mul_le_mul (by omega) h
theorem crt_sz {ls ps : List Nat} {n : Nat} (hp0 : ∀ i, i < n → 0 < gd ps i) (hp : ∀ i, i < n → gd ps i ≤ 2147483647) {i : Nat} (hi : i ≤ n) (hn : n ≤ 100) : Sz ((crt ls ps i).1 : Nat) 101 ∧ Sz ((crt ls ps i).2 : Nat) 101 := by
  have h1 := crt_lt (ls := ls) hp0 i hi
  have h2 := crt_pw (ls := ls) hp i hi
  have h3 := pw_lt (show i < 101 by omega)
  exact ⟨⟨by rw [Int.natAbs_natCast]; omega⟩, ⟨by rw [Int.natAbs_natCast]; omega⟩⟩
theorem ic_of {w : World} {g : Nat} {b : Bool} {A : Option Addr} {i c : Nat} {z : Int} (h : Box w g b (.slice A i c)) (k : Iv w (.agg #[.bool b, .slice A i c]) z) : IC w g z := by
  have e := k.signq
  subst e
  exact ⟨A, i, c, h, k⟩
theorem residue_is (va : Value) (z : Int) (p r : Nat) (w : World) (ha : Iv w va z) (sa : Sz z 1000) (hp0 : 0 < p) (hp : p ≤ 2147483648) (h : (z % (p : Int)).toNat = r) : Calls Try.prog 122 #[va, .int .u64 p] w (RetV (.int .u64 (r : Nat)) w) := h ▸ residue_any va z p w ha sa hp0 hp
theorem oinv_is (a p r : Nat) (w : World) (ha : a < 18446744073709551616) (hp0 : 0 < p) (hp : p ≤ 4294967296) (h : a % p ≠ 0) (e : a ^ (p - 2) % p = r) : Calls Try.prog 53 #[.int .u64 a, .int .u64 p] w (RetV (.tuple #[.int .u64 (r : Nat), .int .i64 0]) w) := e ▸ oinv_any a p w ha hp0 hp h
theorem res_nat {z : Int} {M p r : Nat} (h : z = (M : Nat)) (e : M % p = r) : (z % (p : Int)).toNat = r := by rw [h, ← Int.natCast_emod, Int.toNat_natCast, e]


set_option maxHeartbeats 8000000 in
set_option maxRecDepth 100000 in
theorem ochinese_any (A : Option Addr) (n c : Nat) (ls : List Nat) (B : Option Addr) (d : Nat) (ps : List Nat) (w : World) (hl : U64s w A n ls) (hq : U64s w B n ps) (hn : n ≤ 100) (hp : ∀ x ∈ ps, IsPr x) (hd : ps.Nodup) (hm : ∀ i, i < n → (crt ls ps i).2 % gd ps i ≠ 0) : Calls Try.prog 63 #[.slice A n c, .slice B n d] w (fun e w' => ∃ v x, e = .returned (.tuple #[v, x, .int .i64 0]) ∧ Iv w' v ((crt ls ps n).1 : Nat) ∧ Iv w' x ((crt ls ps n).2 : Nat) ∧ Below w.heap.size w w') := by
  have HP : Hid (∀ i, i < n → IsPr (gd ps i)) := fun i hi => by
    have hil : i < ps.length := by rw [hq.1]; exact hi
    have e : gd ps i = ps[i] := by rw [gd_eq, List.getElem?_eq_getElem hil]; rfl
    rw [e]; exact hp _ (List.getElem_mem hil)
  have HP0 : Hid (∀ i, i < n → 0 < gd ps i) := fun i hi => by have := (HP.out i hi).1; omega
  have HP1 : Hid (∀ i, i < n → gd ps i ≤ 2147483647) := fun i hi => (HP.out i hi).small
  have HL := Lib.hid hl; have HQ := Lib.hid hq; have HM := Lib.hid hm; have HPS := Lib.hid hp; have HD := Lib.hid hd; have HN := Lib.hid hn
  clear hl hq hm hp hd
  have hnn : ((n : Int) != (n : Int)) = false := by simp
  go_enter Try.func63, Try.ntmps63
  go_wp2_with fail
  obtain ⟨W, hW⟩ : ∃ W, W = ((w.alloc (Obj.cells #[Value.bool false, Value.slice none 0 0] 27)).alloc (Obj.cells #[Value.bool false, Value.slice none 0 0] 27)) := ⟨_, rfl⟩
  rw [← hW]
  have RXr : Hid (Box W (w.heap.size) false (.slice none 0 0)) := by rw [hW]; have := (Box.new w false (Value.slice none 0 0)).alloc (Obj.cells #[Value.bool false, Value.slice none 0 0] 27); simpa [Hid] using this
  have RXx : Hid (Box W (w.heap.size + 1) false (.slice none 0 0)) := by rw [hW]; have := Box.new (w.alloc (Obj.cells #[Value.bool false, Value.slice none 0 0] 27)) false (Value.slice none 0 0); simpa [Hid] using this
  have DW : Hid (Below w.heap.size w W) := by rw [hW]; exact ((Below.refl _ _).alloc (by simp <;> omega) _).alloc (by simp <;> omega) _
  clear hW
  generalize hg : w.heap.size = g at *
  replace hg := Lib.hid hg
  go_upto_region 1 with fail
  go_wp2_with fail
  refine (diffPrimes_true B n d ps _ (HQ.out.below (by have h := DW.out; rw [← hg.out] at h; exact h)) (by have := HN.out; omega) HPS.out HD.out).mono ?_
  rintro e y1 ⟨rfl, hb⟩
  replace RXr := Lib.hid (RXr.out.next hb rfl)
  replace RXx := Lib.hid (RXx.out.next hb rfl)
  replace DW := nxd DW hg hb rfl rfl rfl rfl
  clear hb
  clear hnn
  go_upto_region 3 with fail
  go_wp2_with fail
  refine (of_any 0 _ (by omega) (by omega)).mono ?_
  rintro e y50 ⟨v50, rfl, hv50, hb⟩
  replace hv50 := Lib.hid hv50
  replace RXr := Lib.hid (RXr.out.next hb rfl)
  replace RXx := Lib.hid (RXx.out.next hb rfl)
  replace DW := nxd DW hg hb rfl rfl rfl rfl
  clear hb
  go_wp2_with fail
  refine (of_any 1 _ (by omega) (by omega)).mono ?_
  rintro e y51 ⟨v51, rfl, hv51, hb⟩
  replace hv50 := Lib.hid (iv_next hv50.out hb rfl)
  replace hv51 := Lib.hid hv51
  replace hv50 := hv50.out; replace hv51 := hv51.out
  obtain ⟨cc0, hcc0⟩ : ∃ c : Int, c = 0 := ⟨_, rfl⟩
  replace hv50 : Iv y51 v50 cc0 := by rw [hcc0]; exact hv50
  replace hcc0 := Lib.hid hcc0
  obtain ⟨cc1, hcc1⟩ : ∃ c : Int, c = 1 := ⟨_, rfl⟩
  replace hv51 : Iv y51 v51 cc1 := by rw [hcc1]; exact hv51
  replace hcc1 := Lib.hid hcc1
  obtain ⟨Xu, pu, qu, rfl, _, _, _⟩ := hv50.form
  have Qu := Lib.hid hv50; clear hv50
  obtain ⟨Xm, pm, qm, rfl, _, _, _⟩ := hv51.form
  have Qm := Lib.hid hv51; clear hv51
  have B := Lib.hid hb; clear hb
  generalize hs : decide ((cc0 : Int) < 0) = su at *
  clear hs
  generalize hs : decide ((cc1 : Int) < 0) = sm at *
  clear hs
  go_upto_region 4 with fail
  obtain ⟨W2, hW⟩ : ∃ W2, W2 = ((y51.alloc (Obj.cells #[Value.bool su, Value.slice Xu pu qu] 27)).alloc (Obj.cells #[Value.bool sm, Value.slice Xm pm qm] 27)) := ⟨_, rfl⟩
  rw [← hW]
  have BXu : Hid (Box W2 (y51.heap.size) su (.slice Xu pu qu)) := by rw [hW]; have := (Box.new y51 su (.slice Xu pu qu)).alloc (Obj.cells #[Value.bool sm, Value.slice Xm pm qm] 27); simpa [Hid] using this
  have IVu : Hid (Iv W2 (.agg #[.bool su, .slice Xu pu qu]) (cc0)) := by rw [hW]; exact ((Qu.out).alloc _).alloc _
  have BXm : Hid (Box W2 (y51.heap.size + 1) sm (.slice Xm pm qm)) := by rw [hW]; have := Box.new (y51.alloc (Obj.cells #[Value.bool su, Value.slice Xu pu qu] 27)) sm (.slice Xm pm qm); simpa [Hid] using this
  have IVm : Hid (Iv W2 (.agg #[.bool sm, .slice Xm pm qm]) (cc1)) := by rw [hW]; exact ((Qm.out).alloc _).alloc _
  have hd : Below y50.heap.size y50 W2 := by rw [hW]; exact ((B.out).alloc (by have := B.out.size; simp <;> omega) _).alloc (by have := B.out.size; simp <;> omega) _
  have NEmr : Hid ((y51.heap.size + 1) ≠ g) := by have := RXr.out.lt; have := B.out.size; unfold Hid; omega
  have NEmx : Hid ((y51.heap.size + 1) ≠ (g + 1)) := by have := RXx.out.lt; have := B.out.size; unfold Hid; omega
  have NEur : Hid ((y51.heap.size) ≠ g) := by have := RXr.out.lt; have := B.out.size; unfold Hid; omega
  have NEux : Hid ((y51.heap.size) ≠ (g + 1)) := by have := RXx.out.lt; have := B.out.size; unfold Hid; omega
  have GBu : Hid (g ≤ y51.heap.size) := by have := DW.out.size; have := hg.out; have := B.out.size; unfold Hid; omega
  have LTru : Hid (g < y51.heap.size) := by have := RXr.out.lt; have := B.out.size; unfold Hid; omega
  have LTxu : Hid ((g + 1) < y51.heap.size) := by have := RXx.out.lt; have := B.out.size; unfold Hid; omega
  have GBm : Hid (g ≤ y51.heap.size + 1) := by have := DW.out.size; have := hg.out; have := B.out.size; unfold Hid; omega
  have LTrm : Hid (g < y51.heap.size + 1) := by have := RXr.out.lt; have := B.out.size; unfold Hid; omega
  have LTxm : Hid ((g + 1) < y51.heap.size + 1) := by have := RXx.out.lt; have := B.out.size; unfold Hid; omega
  have LTum : Hid (y51.heap.size < y51.heap.size + 1) := by unfold Hid; omega
  clear hW B Qu Qm
  generalize hgn2 : y51.heap.size + 1 = gm at *
  clear hgn2
  generalize hgn2 : y51.heap.size = gu at *
  clear hgn2
  replace RXr := Lib.hid (RXr.out.next hd rfl)
  replace RXx := Lib.hid (RXx.out.next hd rfl)
  replace DW := nxd DW hg hd rfl rfl rfl rfl
  clear hd
  go_wp2_with fail
  go_loopw [30] (fun v wr => ∃ i : Nat, i ≤ n ∧ v = .int .i64 i ∧ IC wr gu ((crt ls ps i).1 : Nat) ∧ IC wr gm ((crt ls ps i).2 : Nat) ∧ Box wr g false (.slice none 0 0) ∧ Box wr (g + 1) false (.slice none 0 0) ∧ Below g w wr) (fun v _ => n - (intOf v).toNat)
  case atStart => exact ⟨0, by omega, rfl, (by have h := ic_of BXu.out IVu.out; rw [hcc0.out] at h; exact h), (by have h := ic_of BXm.out IVm.out; rw [hcc1.out] at h; exact h), RXr.out, RXx.out, DW.out⟩
  case round =>
    clear BXu IVu BXm IVm RXr RXx DW
    obtain ⟨i, hi, rfl, hiu, him, hrr, hrx, hbl⟩ := hrel
    have SZ := crt_sz (ls := ls) HP0.out HP1.out hi hn
    obtain ⟨zu, hzu⟩ : ∃ z : Int, z = ((crt ls ps i).1 : Nat) := ⟨_, rfl⟩
    obtain ⟨zm, hzm⟩ : ∃ z : Int, z = ((crt ls ps i).2 : Nat) := ⟨_, rfl⟩
    rw [← hzu, ← hzm] at SZ
    rw [← hzu] at hiu
    rw [← hzm] at him
    obtain ⟨SZu, SZm⟩ := SZ
    replace SZu := Lib.hid SZu; replace SZm := Lib.hid SZm; replace hzu := Lib.hid hzu; replace hzm := Lib.hid hzm
    obtain ⟨Xu, pu, qu, BXu, IVu⟩ := hiu
    obtain ⟨Xm, pm, qm, BXm, IVm⟩ := him
    generalize decide (zu < 0) = su at *
    generalize decide (zm < 0) = sm at *
    replace BXu := Lib.hid BXu; replace IVu := Lib.hid IVu; replace BXm := Lib.hid BXm; replace IVm := Lib.hid IVm
    have RXr := Lib.hid hrr; have RXx := Lib.hid hrx; have DW := Lib.hid hbl
    clear hrr hrx hbl
    by_cases hin : i < n
    · skip
      obtain ⟨bl, ol, rfl, hll, hcl⟩ := HL.out.2.2 i hin
      obtain ⟨bp, op, rfl, hlp, hcp⟩ := HQ.out.2.2 i hin
      obtain ⟨p, hpe⟩ : ∃ p, gd ps i = p := ⟨_, rfl⟩
      obtain ⟨l, hle⟩ : ∃ l, gd ls i = l := ⟨_, rfl⟩
      have hl64 : Hid (l < 18446744073709551616) := by
        rw [← hle]
        have hil : i < ls.length := by rw [HL.out.1]; exact hin
        have e : gd ls i = ls[i] := by rw [gd_eq, List.getElem?_eq_getElem hil]; rfl
        rw [e]; exact HL.out.2.1 _ (List.getElem_mem hil)
      have hpr := HP.out i hin
      rw [hpe] at hpr hcp
      rw [hle] at hcl
      have p2 : Hid (2 ≤ p ∧ p ≤ 2147483647) := ⟨hpr.1, hpr.small⟩
      obtain ⟨rm, hrm⟩ : ∃ r, (crt ls ps i).2 % p = r := ⟨_, rfl⟩
      obtain ⟨ru, hru⟩ : ∃ r, (crt ls ps i).1 % p = r := ⟨_, rfl⟩
      have HRM : Hid ((zm % (p : Int)).toNat = rm) := res_nat hzm.out hrm
      have HRU : Hid ((zu % (p : Int)).toNat = ru) := res_nat hzu.out hru
      have rmp : Hid (rm < p) := by rw [← hrm]; exact Nat.mod_lt _ (by have := p2.out; omega)
      have rup : Hid (ru < p) := by rw [← hru]; exact Nat.mod_lt _ (by have := p2.out; omega)
      have rm0 : Hid (rm % p ≠ 0) := by
        have h := HM.out i hin
        rw [hpe, hrm] at h
        rw [Nat.mod_eq_of_lt rmp.out]; exact h
      obtain ⟨iv, hiv⟩ : ∃ r, rm ^ (p - 2) % p = r := ⟨_, rfl⟩
      have ivp : Hid (iv < p) := by rw [← hiv]; exact Nat.mod_lt _ (by have := p2.out; omega)
      obtain ⟨lr, hlr⟩ : ∃ r, l % p = r := ⟨_, rfl⟩
      have lrp : Hid (lr < p) := by rw [← hlr]; exact Nat.mod_lt _ (by have := p2.out; omega)
      obtain ⟨sm1, hsm1⟩ : ∃ r, lr + p = r := ⟨_, rfl⟩
      obtain ⟨df, hdf⟩ : ∃ r, sm1 - ru = r := ⟨_, rfl⟩
      obtain ⟨gp, hgp⟩ : ∃ r, df % p = r := ⟨_, rfl⟩
      have gpp : Hid (gp < p) := by rw [← hgp]; exact Nat.mod_lt _ (by have := p2.out; omega)
      obtain ⟨t, hte⟩ : ∃ r, gp * iv % p = r := ⟨_, rfl⟩
      have tp : Hid (t < p) := by rw [← hte]; exact Nat.mod_lt _ (by have := p2.out; omega)
      have NEXT : Hid (crt ls ps (i + 1) = ((crt ls ps i).1 + (crt ls ps i).2 * t, (crt ls ps i).2 * p)) := by
        show ((crt ls ps i).1 + (crt ls ps i).2 * (((gd ls i % gd ps i + gd ps i - (crt ls ps i).1 % gd ps i) % gd ps i * (((crt ls ps i).2 % gd ps i) ^ (gd ps i - 2) % gd ps i)) % gd ps i), (crt ls ps i).2 * gd ps i) = _
        rw [hpe, hle, hrm, hru, hiv, hlr, hsm1, hdf, hgp, hte]
      have CP : Hid (C64 wr bp (op + i) p) := ⟨by have := DW.out.size; have := hg.out; omega, by
        have h := DW.out; rw [← hg.out] at h
        exact (h.cell (p := ⟨bp, op + i, none⟩) hlp).trans hcp⟩
      have CL : Hid (C64 wr bl (ol + i) l) := ⟨by have := DW.out.size; have := hg.out; omega, by
        have h := DW.out; rw [← hg.out] at h
        exact (h.cell (p := ⟨bl, ol + i, none⟩) hll).trans hcl⟩
      have NQcpu : Hid (bp ≠ gu) := by have := GBu.out; have := hg.out; unfold Hid; omega
      have NQcpm : Hid (bp ≠ gm) := by have := GBm.out; have := hg.out; unfold Hid; omega
      have NQclu : Hid (bl ≠ gu) := by have := GBu.out; have := hg.out; unfold Hid; omega
      have NQclm : Hid (bl ≠ gm) := by have := GBm.out; have := hg.out; unfold Hid; omega
      have HIN := Lib.hid hin
      replace hiv := Lib.hid hiv; replace hlr := Lib.hid hlr; replace hsm1 := Lib.hid hsm1; replace hdf := Lib.hid hdf; replace hgp := Lib.hid hgp; replace hte := Lib.hid hte
      clear hcp hcl hpr hpe hle hrm hru hll hlp
      go_upto_region 7 with fail
      refine Rg.region_gg wr [.is (.agg #[.bool sm, .slice Xm pm qm]), .is (Value.slice (some ⟨bp, op, none⟩) n d), .is (Value.int IntKind.i64 (i : Int)), .is (.pointer (some ⟨bp, op + i, none⟩)), .is (Value.int IntKind.u64 (p : Nat)), .is (Value.int IntKind.u64 (rm : Nat)), .is (Value.slice (some ⟨bp, op, none⟩) n d), .is (Value.int IntKind.i64 (i : Int)), .is (.pointer (some ⟨bp, op + i, none⟩)), .is (Value.int IntKind.u64 (p : Nat)), .is (Value.tuple #[Value.int IntKind.u64 (iv : Nat), Value.int IntKind.i64 0]), .is (Value.tuple #[Value.int IntKind.u64 (iv : Nat), Value.int IntKind.i64 0]), .is (Value.int IntKind.u64 (iv : Nat)), .is (Value.int IntKind.i64 0), .is (Value.int IntKind.u64 (iv : Nat)), .is (Value.int IntKind.i64 0)] [] [some 34, some 35, some 36, some 37, some 38, some 39, some 40, some 41, some 42, some 43, some 44, some 33, some 45, some 46, some 10, some 11] (by kernel_rfl) (by kernel_rfl) (by kernel_rfl) (by kernel_rfl) (by kernel_rfl) (by simp [Rg.stos]) (by rfl) (by rfl) (by kernel_rfl) (by simp) ((Below.refl _ _).drew) (fun Q' => ?_) (fun K hK wn hs => ?_)
      · refine ⟨?_, ?_, ?_, ?_, ?_, ?_, ?_, ?_, ?_, ?_, ?_, ?_, ?_, ?_, ?_, ?_, trivial⟩
        · intro a' w' ha hs hw hold
          have eo8 : a'.tmps[8]? = some (ptr gm) := (ha.rest 8 (by kernel_rfl)).trans rfl
          exact ⟨rfl, .inl ⟨wanted_none rfl, wp_val (run_pload rfl (ev_tmp eo8) (BXm.out.bel hs (by simp))) ⟨rfl, Below.refl _ _⟩⟩⟩
        · intro a' w' ha hs hw hold
          have eo1 : a'.tmps[1]? = some (Value.slice (some ⟨bp, op, none⟩) n d) := (ha.rest 1 (by kernel_rfl)).trans rfl
          exact ⟨rfl, .inl ⟨wanted_none rfl, wp_val (run_move rfl (ev_tmp eo1)) ⟨rfl, Below.refl _ _⟩⟩⟩
        · intro a' w' ha hs hw hold
          have eo9 : a'.tmps[9]? = some (Value.int IntKind.i64 (i : Int)) := (ha.rest 9 (by kernel_rfl)).trans rfl
          exact ⟨rfl, .inl ⟨wanted_none rfl, wp_val (run_move rfl (ev_tmp eo9)) ⟨rfl, Below.refl _ _⟩⟩⟩
        · intro a' w' ha hs hw hold
          have e1 : a'.tmps[35]? = some (Value.slice (some ⟨bp, op, none⟩) n d) := Rg.slot_get rfl rfl (hw 1 (by kernel_rfl) _ rfl)
          have e2 : a'.tmps[36]? = some (Value.int IntKind.i64 (i : Int)) := Rg.slot_get rfl rfl (hw 2 (by kernel_rfl) _ rfl)
          exact ⟨rfl, .inl ⟨wanted_none rfl, wp_val (run_idx64 rfl (ev_tmp e1) (ev_tmp e2) HIN.out) ⟨rfl, Below.refl _ _⟩⟩⟩
        · intro a' w' ha hs hw hold
          have e3 : a'.tmps[37]? = some (.pointer (some ⟨bp, op + i, none⟩)) := Rg.slot_get rfl rfl (hw 3 (by kernel_rfl) _ rfl)
          exact ⟨rfl, .inl ⟨wanted_none rfl, wp_val (run_ld64 rfl (ev_tmp e3) (CP.out.bel hs (by simp))) ⟨rfl, Below.refl _ _⟩⟩⟩
        · intro a' w' ha hs hw hold
          have e0 : a'.tmps[34]? = some (.agg #[.bool sm, .slice Xm pm qm]) := Rg.slot_get rfl rfl (hw 0 (by kernel_rfl) _ rfl)
          have e4 : a'.tmps[38]? = some (Value.int IntKind.u64 (p : Nat)) := Rg.slot_get rfl rfl (hw 4 (by kernel_rfl) _ rfl)
          exact ⟨rfl, .inl ⟨wanted_none rfl, call_step rfl Try.func122 (by kernel_rfl) rfl (map_two (ev_tmp e0) (ev_tmp e4)) (residue_is _ zm p rm _ (IVm.out.kn hs.kn) (SZm.out.mono (by omega)) (by have := p2.out; omega) (by have := p2.out; omega) HRM.out) (fun e w2 he => by obtain ⟨rfl, hb⟩ := he; exact ⟨_, rfl, rfl, hb⟩)⟩⟩
        · intro a' w' ha hs hw hold
          have eo1 : a'.tmps[1]? = some (Value.slice (some ⟨bp, op, none⟩) n d) := (ha.rest 1 (by kernel_rfl)).trans rfl
          exact ⟨rfl, .inl ⟨wanted_none rfl, wp_val (run_move rfl (ev_tmp eo1)) ⟨rfl, Below.refl _ _⟩⟩⟩
        · intro a' w' ha hs hw hold
          have eo9 : a'.tmps[9]? = some (Value.int IntKind.i64 (i : Int)) := (ha.rest 9 (by kernel_rfl)).trans rfl
          exact ⟨rfl, .inl ⟨wanted_none rfl, wp_val (run_move rfl (ev_tmp eo9)) ⟨rfl, Below.refl _ _⟩⟩⟩
        · intro a' w' ha hs hw hold
          have e6 : a'.tmps[40]? = some (Value.slice (some ⟨bp, op, none⟩) n d) := Rg.slot_get rfl rfl (hw 6 (by kernel_rfl) _ rfl)
          have e7 : a'.tmps[41]? = some (Value.int IntKind.i64 (i : Int)) := Rg.slot_get rfl rfl (hw 7 (by kernel_rfl) _ rfl)
          exact ⟨rfl, .inl ⟨wanted_none rfl, wp_val (run_idx64 rfl (ev_tmp e6) (ev_tmp e7) HIN.out) ⟨rfl, Below.refl _ _⟩⟩⟩
        · intro a' w' ha hs hw hold
          have e8 : a'.tmps[42]? = some (.pointer (some ⟨bp, op + i, none⟩)) := Rg.slot_get rfl rfl (hw 8 (by kernel_rfl) _ rfl)
          exact ⟨rfl, .inl ⟨wanted_none rfl, wp_val (run_ld64 rfl (ev_tmp e8) (CP.out.bel hs (by simp))) ⟨rfl, Below.refl _ _⟩⟩⟩
        · intro a' w' ha hs hw hold
          have e5 : a'.tmps[39]? = some (Value.int IntKind.u64 (rm : Nat)) := Rg.slot_get rfl rfl (hw 5 (by kernel_rfl) _ rfl)
          have e9 : a'.tmps[43]? = some (Value.int IntKind.u64 (p : Nat)) := Rg.slot_get rfl rfl (hw 9 (by kernel_rfl) _ rfl)
          exact ⟨rfl, .inl ⟨wanted_none rfl, call_step rfl Try.func53 (by kernel_rfl) rfl (map_two (ev_tmp e5) (ev_tmp e9)) (oinv_is rm p iv _ (by have := rmp.out; have := p2.out; omega) (by have := p2.out; omega) (by have := p2.out; omega) rm0.out hiv.out) (fun e w2 he => by obtain ⟨rfl, hb⟩ := he; exact ⟨_, rfl, rfl, hb⟩)⟩⟩
        · intro a' w' ha hs hw hold
          have e10 : a'.tmps[44]? = some (Value.tuple #[Value.int IntKind.u64 (iv : Nat), Value.int IntKind.i64 0]) := Rg.slot_get rfl rfl (hw 10 (by kernel_rfl) _ rfl)
          exact ⟨rfl, .inl ⟨wanted_none rfl, wp_val (run_move rfl (ev_tmp e10)) ⟨rfl, Below.refl _ _⟩⟩⟩
        · intro a' w' ha hs hw hold
          have e11 : a'.tmps[33]? = some (Value.tuple #[Value.int IntKind.u64 (iv : Nat), Value.int IntKind.i64 0]) := Rg.slot_get rfl rfl (hw 11 (by kernel_rfl) _ rfl)
          exact ⟨rfl, .inl ⟨wanted_none rfl, wp_val (run_extract (vs := [Value.int IntKind.u64 (iv : Nat), Value.int IntKind.i64 0]) rfl (ev_tmp e11) rfl) ⟨rfl, Below.refl _ _⟩⟩⟩
        · intro a' w' ha hs hw hold
          have e11 : a'.tmps[33]? = some (Value.tuple #[Value.int IntKind.u64 (iv : Nat), Value.int IntKind.i64 0]) := Rg.slot_get rfl rfl (hw 11 (by kernel_rfl) _ rfl)
          exact ⟨rfl, .inl ⟨wanted_none rfl, wp_val (run_extract (vs := [Value.int IntKind.u64 (iv : Nat), Value.int IntKind.i64 0]) rfl (ev_tmp e11) rfl) ⟨rfl, Below.refl _ _⟩⟩⟩
        · intro a' w' ha hs hw hold
          have e12 : a'.tmps[45]? = some (Value.int IntKind.u64 (iv : Nat)) := Rg.slot_get rfl rfl (hw 12 (by kernel_rfl) _ rfl)
          exact ⟨rfl, .inl ⟨wanted_none rfl, wp_val (run_assign rfl (ev_tmp e12)) ⟨rfl, Below.refl _ _⟩⟩⟩
        · intro a' w' ha hs hw hold
          have e13 : a'.tmps[46]? = some (Value.int IntKind.i64 0) := Rg.slot_get rfl rfl (hw 13 (by kernel_rfl) _ rfl)
          exact ⟨rfl, .inl ⟨wanted_none rfl, wp_val (run_assign rfl (ev_tmp e13)) ⟨rfl, Below.refl _ _⟩⟩⟩
      simp only [Rg.allG]
      simp only [setOpt, Rg.setOpt, List.set_cons_succ, List.set_cons_zero]
      refine hK _ _ ?_
      clear hK K
      replace hs := hs.below
      replace BXu := nxb BXu hs rfl; replace IVu := nxv IVu hs rfl
      replace BXm := nxb BXm hs rfl; replace IVm := nxv IVm hs rfl
      replace RXr := Lib.hid (RXr.out.next hs rfl)
      replace RXx := Lib.hid (RXx.out.next hs rfl)
      replace CP := Lib.hid (CP.out.next hs rfl)
      replace CL := Lib.hid (CL.out.next hs rfl)
      replace DW := nxd DW hg hs rfl rfl rfl rfl
      clear hs
      go_upto_region 8 with fail
      refine Rg.region_gg wn [.is (Value.slice (some ⟨bl, ol, none⟩) n c), .is (Value.int IntKind.i64 (i : Int)), .is (.pointer (some ⟨bl, ol + i, none⟩)), .is (Value.int IntKind.u64 (l : Nat)), .is (Value.slice (some ⟨bp, op, none⟩) n d), .is (Value.int IntKind.i64 (i : Int)), .is (.pointer (some ⟨bp, op + i, none⟩)), .is (Value.int IntKind.u64 (p : Nat)), .is (Value.int IntKind.u64 (lr : Nat)), .is (Value.slice (some ⟨bp, op, none⟩) n d), .is (Value.int IntKind.i64 (i : Int)), .is (.pointer (some ⟨bp, op + i, none⟩)), .is (Value.int IntKind.u64 (p : Nat)), .is (Value.int IntKind.u64 (sm1 : Nat)), .is (.agg #[.bool su, .slice Xu pu qu]), .is (Value.slice (some ⟨bp, op, none⟩) n d), .is (Value.int IntKind.i64 (i : Int)), .is (.pointer (some ⟨bp, op + i, none⟩)), .is (Value.int IntKind.u64 (p : Nat)), .is (Value.int IntKind.u64 (ru : Nat)), .is (Value.int IntKind.u64 (df : Nat)), .is (Value.slice (some ⟨bp, op, none⟩) n d), .is (Value.int IntKind.i64 (i : Int)), .is (.pointer (some ⟨bp, op + i, none⟩)), .is (Value.int IntKind.u64 (p : Nat)), .is (Value.int IntKind.u64 (gp : Nat)), .is (Value.int IntKind.u64 (gp : Nat))] [] [some 47, some 48, some 49, some 50, some 51, some 52, some 53, some 54, some 55, some 56, some 57, some 58, some 59, some 60, some 61, some 62, some 63, some 64, some 65, some 66, some 67, some 68, some 69, some 70, some 71, some 72, some 12] (by kernel_rfl) (by kernel_rfl) (by kernel_rfl) (by kernel_rfl) (by kernel_rfl) (by simp [Rg.stos]) (by rfl) (by rfl) (by kernel_rfl) (by simp) ((Below.refl _ _).drew) (fun Q' => ?_) (fun K hK wn hs => ?_)
      · refine ⟨?_, ?_, ?_, ?_, ?_, ?_, ?_, ?_, ?_, ?_, ?_, ?_, ?_, ?_, ?_, ?_, ?_, ?_, ?_, ?_, ?_, ?_, ?_, ?_, ?_, ?_, ?_, trivial⟩
        · intro a' w' ha hs hw hold
          have eo0 : a'.tmps[0]? = some (Value.slice (some ⟨bl, ol, none⟩) n c) := (ha.rest 0 (by kernel_rfl)).trans rfl
          exact ⟨rfl, .inl ⟨wanted_none rfl, wp_val (run_move rfl (ev_tmp eo0)) ⟨rfl, Below.refl _ _⟩⟩⟩
        · intro a' w' ha hs hw hold
          have eo9 : a'.tmps[9]? = some (Value.int IntKind.i64 (i : Int)) := (ha.rest 9 (by kernel_rfl)).trans rfl
          exact ⟨rfl, .inl ⟨wanted_none rfl, wp_val (run_move rfl (ev_tmp eo9)) ⟨rfl, Below.refl _ _⟩⟩⟩
        · intro a' w' ha hs hw hold
          have e0 : a'.tmps[47]? = some (Value.slice (some ⟨bl, ol, none⟩) n c) := Rg.slot_get rfl rfl (hw 0 (by kernel_rfl) _ rfl)
          have e1 : a'.tmps[48]? = some (Value.int IntKind.i64 (i : Int)) := Rg.slot_get rfl rfl (hw 1 (by kernel_rfl) _ rfl)
          exact ⟨rfl, .inl ⟨wanted_none rfl, wp_val (run_idx64 rfl (ev_tmp e0) (ev_tmp e1) HIN.out) ⟨rfl, Below.refl _ _⟩⟩⟩
        · intro a' w' ha hs hw hold
          have e2 : a'.tmps[49]? = some (.pointer (some ⟨bl, ol + i, none⟩)) := Rg.slot_get rfl rfl (hw 2 (by kernel_rfl) _ rfl)
          exact ⟨rfl, .inl ⟨wanted_none rfl, wp_val (run_ld64 rfl (ev_tmp e2) (CL.out.bel hs (by simp))) ⟨rfl, Below.refl _ _⟩⟩⟩
        · intro a' w' ha hs hw hold
          have eo1 : a'.tmps[1]? = some (Value.slice (some ⟨bp, op, none⟩) n d) := (ha.rest 1 (by kernel_rfl)).trans rfl
          exact ⟨rfl, .inl ⟨wanted_none rfl, wp_val (run_move rfl (ev_tmp eo1)) ⟨rfl, Below.refl _ _⟩⟩⟩
        · intro a' w' ha hs hw hold
          have eo9 : a'.tmps[9]? = some (Value.int IntKind.i64 (i : Int)) := (ha.rest 9 (by kernel_rfl)).trans rfl
          exact ⟨rfl, .inl ⟨wanted_none rfl, wp_val (run_move rfl (ev_tmp eo9)) ⟨rfl, Below.refl _ _⟩⟩⟩
        · intro a' w' ha hs hw hold
          have e4 : a'.tmps[51]? = some (Value.slice (some ⟨bp, op, none⟩) n d) := Rg.slot_get rfl rfl (hw 4 (by kernel_rfl) _ rfl)
          have e5 : a'.tmps[52]? = some (Value.int IntKind.i64 (i : Int)) := Rg.slot_get rfl rfl (hw 5 (by kernel_rfl) _ rfl)
          exact ⟨rfl, .inl ⟨wanted_none rfl, wp_val (run_idx64 rfl (ev_tmp e4) (ev_tmp e5) HIN.out) ⟨rfl, Below.refl _ _⟩⟩⟩
        · intro a' w' ha hs hw hold
          have e6 : a'.tmps[53]? = some (.pointer (some ⟨bp, op + i, none⟩)) := Rg.slot_get rfl rfl (hw 6 (by kernel_rfl) _ rfl)
          exact ⟨rfl, .inl ⟨wanted_none rfl, wp_val (run_ld64 rfl (ev_tmp e6) (CP.out.bel hs (by simp))) ⟨rfl, Below.refl _ _⟩⟩⟩
        · intro a' w' ha hs hw hold
          have e3 : a'.tmps[50]? = some (Value.int IntKind.u64 (l : Nat)) := Rg.slot_get rfl rfl (hw 3 (by kernel_rfl) _ rfl)
          have e7 : a'.tmps[54]? = some (Value.int IntKind.u64 (p : Nat)) := Rg.slot_get rfl rfl (hw 7 (by kernel_rfl) _ rfl)
          exact ⟨rfl, .inl ⟨wanted_none rfl, wp_val (run_rem64 rfl (ev_tmp e3) (ev_tmp e7) (by have := p2.out; omega) hl64.out hlr.out) ⟨rfl, Below.refl _ _⟩⟩⟩
        · intro a' w' ha hs hw hold
          have eo1 : a'.tmps[1]? = some (Value.slice (some ⟨bp, op, none⟩) n d) := (ha.rest 1 (by kernel_rfl)).trans rfl
          exact ⟨rfl, .inl ⟨wanted_none rfl, wp_val (run_move rfl (ev_tmp eo1)) ⟨rfl, Below.refl _ _⟩⟩⟩
        · intro a' w' ha hs hw hold
          have eo9 : a'.tmps[9]? = some (Value.int IntKind.i64 (i : Int)) := (ha.rest 9 (by kernel_rfl)).trans rfl
          exact ⟨rfl, .inl ⟨wanted_none rfl, wp_val (run_move rfl (ev_tmp eo9)) ⟨rfl, Below.refl _ _⟩⟩⟩
        · intro a' w' ha hs hw hold
          have e9 : a'.tmps[56]? = some (Value.slice (some ⟨bp, op, none⟩) n d) := Rg.slot_get rfl rfl (hw 9 (by kernel_rfl) _ rfl)
          have e10 : a'.tmps[57]? = some (Value.int IntKind.i64 (i : Int)) := Rg.slot_get rfl rfl (hw 10 (by kernel_rfl) _ rfl)
          exact ⟨rfl, .inl ⟨wanted_none rfl, wp_val (run_idx64 rfl (ev_tmp e9) (ev_tmp e10) HIN.out) ⟨rfl, Below.refl _ _⟩⟩⟩
        · intro a' w' ha hs hw hold
          have e11 : a'.tmps[58]? = some (.pointer (some ⟨bp, op + i, none⟩)) := Rg.slot_get rfl rfl (hw 11 (by kernel_rfl) _ rfl)
          exact ⟨rfl, .inl ⟨wanted_none rfl, wp_val (run_ld64 rfl (ev_tmp e11) (CP.out.bel hs (by simp))) ⟨rfl, Below.refl _ _⟩⟩⟩
        · intro a' w' ha hs hw hold
          have e8 : a'.tmps[55]? = some (Value.int IntKind.u64 (lr : Nat)) := Rg.slot_get rfl rfl (hw 8 (by kernel_rfl) _ rfl)
          have e12 : a'.tmps[59]? = some (Value.int IntKind.u64 (p : Nat)) := Rg.slot_get rfl rfl (hw 12 (by kernel_rfl) _ rfl)
          exact ⟨rfl, .inl ⟨wanted_none rfl, wp_val (run_bin64 rfl (ev_tmp e8) (ev_tmp e12) (by have := p2.out; have := lrp.out; have := hsm1.out; omega) hsm1.out) ⟨rfl, Below.refl _ _⟩⟩⟩
        · intro a' w' ha hs hw hold
          have eo7 : a'.tmps[7]? = some (ptr gu) := (ha.rest 7 (by kernel_rfl)).trans rfl
          exact ⟨rfl, .inl ⟨wanted_none rfl, wp_val (run_pload rfl (ev_tmp eo7) (BXu.out.bel hs (by simp))) ⟨rfl, Below.refl _ _⟩⟩⟩
        · intro a' w' ha hs hw hold
          have eo1 : a'.tmps[1]? = some (Value.slice (some ⟨bp, op, none⟩) n d) := (ha.rest 1 (by kernel_rfl)).trans rfl
          exact ⟨rfl, .inl ⟨wanted_none rfl, wp_val (run_move rfl (ev_tmp eo1)) ⟨rfl, Below.refl _ _⟩⟩⟩
        · intro a' w' ha hs hw hold
          have eo9 : a'.tmps[9]? = some (Value.int IntKind.i64 (i : Int)) := (ha.rest 9 (by kernel_rfl)).trans rfl
          exact ⟨rfl, .inl ⟨wanted_none rfl, wp_val (run_move rfl (ev_tmp eo9)) ⟨rfl, Below.refl _ _⟩⟩⟩
        · intro a' w' ha hs hw hold
          have e15 : a'.tmps[62]? = some (Value.slice (some ⟨bp, op, none⟩) n d) := Rg.slot_get rfl rfl (hw 15 (by kernel_rfl) _ rfl)
          have e16 : a'.tmps[63]? = some (Value.int IntKind.i64 (i : Int)) := Rg.slot_get rfl rfl (hw 16 (by kernel_rfl) _ rfl)
          exact ⟨rfl, .inl ⟨wanted_none rfl, wp_val (run_idx64 rfl (ev_tmp e15) (ev_tmp e16) HIN.out) ⟨rfl, Below.refl _ _⟩⟩⟩
        · intro a' w' ha hs hw hold
          have e17 : a'.tmps[64]? = some (.pointer (some ⟨bp, op + i, none⟩)) := Rg.slot_get rfl rfl (hw 17 (by kernel_rfl) _ rfl)
          exact ⟨rfl, .inl ⟨wanted_none rfl, wp_val (run_ld64 rfl (ev_tmp e17) (CP.out.bel hs (by simp))) ⟨rfl, Below.refl _ _⟩⟩⟩
        · intro a' w' ha hs hw hold
          have e14 : a'.tmps[61]? = some (.agg #[.bool su, .slice Xu pu qu]) := Rg.slot_get rfl rfl (hw 14 (by kernel_rfl) _ rfl)
          have e18 : a'.tmps[65]? = some (Value.int IntKind.u64 (p : Nat)) := Rg.slot_get rfl rfl (hw 18 (by kernel_rfl) _ rfl)
          exact ⟨rfl, .inl ⟨wanted_none rfl, call_step rfl Try.func122 (by kernel_rfl) rfl (map_two (ev_tmp e14) (ev_tmp e18)) (residue_is _ zu p ru _ (IVu.out.kn hs.kn) (SZu.out.mono (by omega)) (by have := p2.out; omega) (by have := p2.out; omega) HRU.out) (fun e w2 he => by obtain ⟨rfl, hb⟩ := he; exact ⟨_, rfl, rfl, hb⟩)⟩⟩
        · intro a' w' ha hs hw hold
          have e13 : a'.tmps[60]? = some (Value.int IntKind.u64 (sm1 : Nat)) := Rg.slot_get rfl rfl (hw 13 (by kernel_rfl) _ rfl)
          have e19 : a'.tmps[66]? = some (Value.int IntKind.u64 (ru : Nat)) := Rg.slot_get rfl rfl (hw 19 (by kernel_rfl) _ rfl)
          exact ⟨rfl, .inl ⟨wanted_none rfl, wp_val (run_sub64 rfl (ev_tmp e13) (ev_tmp e19) (by have := p2.out; have := lrp.out; have := hsm1.out; omega) (by have := rup.out; have := hsm1.out; omega) hdf.out) ⟨rfl, Below.refl _ _⟩⟩⟩
        · intro a' w' ha hs hw hold
          have eo1 : a'.tmps[1]? = some (Value.slice (some ⟨bp, op, none⟩) n d) := (ha.rest 1 (by kernel_rfl)).trans rfl
          exact ⟨rfl, .inl ⟨wanted_none rfl, wp_val (run_move rfl (ev_tmp eo1)) ⟨rfl, Below.refl _ _⟩⟩⟩
        · intro a' w' ha hs hw hold
          have eo9 : a'.tmps[9]? = some (Value.int IntKind.i64 (i : Int)) := (ha.rest 9 (by kernel_rfl)).trans rfl
          exact ⟨rfl, .inl ⟨wanted_none rfl, wp_val (run_move rfl (ev_tmp eo9)) ⟨rfl, Below.refl _ _⟩⟩⟩
        · intro a' w' ha hs hw hold
          have e21 : a'.tmps[68]? = some (Value.slice (some ⟨bp, op, none⟩) n d) := Rg.slot_get rfl rfl (hw 21 (by kernel_rfl) _ rfl)
          have e22 : a'.tmps[69]? = some (Value.int IntKind.i64 (i : Int)) := Rg.slot_get rfl rfl (hw 22 (by kernel_rfl) _ rfl)
          exact ⟨rfl, .inl ⟨wanted_none rfl, wp_val (run_idx64 rfl (ev_tmp e21) (ev_tmp e22) HIN.out) ⟨rfl, Below.refl _ _⟩⟩⟩
        · intro a' w' ha hs hw hold
          have e23 : a'.tmps[70]? = some (.pointer (some ⟨bp, op + i, none⟩)) := Rg.slot_get rfl rfl (hw 23 (by kernel_rfl) _ rfl)
          exact ⟨rfl, .inl ⟨wanted_none rfl, wp_val (run_ld64 rfl (ev_tmp e23) (CP.out.bel hs (by simp))) ⟨rfl, Below.refl _ _⟩⟩⟩
        · intro a' w' ha hs hw hold
          have e20 : a'.tmps[67]? = some (Value.int IntKind.u64 (df : Nat)) := Rg.slot_get rfl rfl (hw 20 (by kernel_rfl) _ rfl)
          have e24 : a'.tmps[71]? = some (Value.int IntKind.u64 (p : Nat)) := Rg.slot_get rfl rfl (hw 24 (by kernel_rfl) _ rfl)
          exact ⟨rfl, .inl ⟨wanted_none rfl, wp_val (run_rem64 rfl (ev_tmp e20) (ev_tmp e24) (by have := p2.out; omega) (by have := p2.out; have := lrp.out; have := hsm1.out; have := hdf.out; omega) hgp.out) ⟨rfl, Below.refl _ _⟩⟩⟩
        · intro a' w' ha hs hw hold
          have e25 : a'.tmps[72]? = some (Value.int IntKind.u64 (gp : Nat)) := Rg.slot_get rfl rfl (hw 25 (by kernel_rfl) _ rfl)
          exact ⟨rfl, .inl ⟨wanted_none rfl, wp_val (run_assign rfl (ev_tmp e25)) ⟨rfl, Below.refl _ _⟩⟩⟩
      simp only [Rg.allG]
      simp only [setOpt, Rg.setOpt, List.set_cons_succ, List.set_cons_zero]
      refine hK _ _ ?_
      clear hK K
      replace hs := hs.below
      replace BXu := nxb BXu hs rfl; replace IVu := nxv IVu hs rfl
      replace BXm := nxb BXm hs rfl; replace IVm := nxv IVm hs rfl
      replace RXr := Lib.hid (RXr.out.next hs rfl)
      replace RXx := Lib.hid (RXx.out.next hs rfl)
      replace CP := Lib.hid (CP.out.next hs rfl)
      replace CL := Lib.hid (CL.out.next hs rfl)
      replace DW := nxd DW hg hs rfl rfl rfl rfl
      clear hs
      go_upto_region 9 with fail
      have hc1 := CP.out.2
      have hi1 : (i : Int) < (n : Int) := by omega
      have hz : ((p : Int) == 0) = false := by have := p2.out; simp; omega
      have hz2 : ¬ (p : Int) = 0 := by have := p2.out; omega
      have hm1 : IntKind.u64.wrap ((gp : Int) * (iv : Int)) = ((gp * iv : Nat) : Int) := by rw [← Int.natCast_mul]; exact IntWalk.u64_in _ (by have := mul_lt64 gpp.out ivp.out (by have := p2.out; omega); omega)
      have hm2 : (gp : Int) * (iv : Int) % (p : Int) = (t : Int) := by rw [← Int.natCast_mul, ← Int.natCast_emod, hte.out]
      go_upto_region 10 with fail
      rw [hm2]
      clear hc1 hi1 hz hz2 hm1 hm2
      refine Rg.region_gg wn [.is (.agg #[.bool su, .slice Xu pu qu]), .is (.agg #[.bool sm, .slice Xm pm qm]), .is (Value.int IntKind.u64 (t : Nat)), .is (Value.int IntKind.i64 (t : Int)), .sat (pIv ((t : Int))) (pIv_keep _), .sat (pIv (zm * (t : Int))) (pIv_keep _), .sat (pIv (zu + zm * (t : Int))) (pIv_keep _), .sto gu (sI gu (zu + zm * (t : Int))) (sI_keep _ _)] [gu] [some 81, some 82, some 83, some 84, some 85, some 86, some 87, none] (by kernel_rfl) (by kernel_rfl) (by kernel_rfl) (by kernel_rfl) (by kernel_rfl) (by simp [Rg.stos]) (by rfl) (by rfl) (by kernel_rfl) (by intro g hg; simp only [List.mem_cons, List.not_mem_nil, or_false] at hg; subst hg; exact BXu.out.lt) ((Below.refl _ _).drew) (fun Q' => ?_) (fun K hK wn hs => ?_)
      · refine ⟨?_, ?_, ?_, ?_, ?_, ?_, ?_, ?_, trivial⟩
        · intro a' w' ha hs hw hold
          have eo7 : a'.tmps[7]? = some (ptr gu) := (ha.rest 7 (by kernel_rfl)).trans rfl
          exact ⟨rfl, .inl ⟨wanted_none rfl, wp_val (run_pload rfl (ev_tmp eo7) ((hold 7 _ _ _ _ (by rfl) (by rfl) (by kernel_rfl)).trans BXu.out)) ⟨rfl, Below.refl _ _⟩⟩⟩
        · intro a' w' ha hs hw hold
          have eo8 : a'.tmps[8]? = some (ptr gm) := (ha.rest 8 (by kernel_rfl)).trans rfl
          exact ⟨rfl, .inl ⟨wanted_none rfl, wp_val (run_pload rfl (ev_tmp eo8) (BXm.out.bel hs (by simp only [List.mem_cons, List.not_mem_nil, or_false, not_or]; exact (Nat.ne_of_gt LTum.out)))) ⟨rfl, Below.refl _ _⟩⟩⟩
        · intro a' w' ha hs hw hold
          have eo13 : a'.tmps[13]? = some (Value.int IntKind.u64 (t : Nat)) := (ha.rest 13 (by kernel_rfl)).trans rfl
          exact ⟨rfl, .inl ⟨wanted_none rfl, wp_val (run_move rfl (ev_tmp eo13)) ⟨rfl, Below.refl _ _⟩⟩⟩
        · intro a' w' ha hs hw hold
          have e2 : a'.tmps[83]? = some (Value.int IntKind.u64 (t : Nat)) := Rg.slot_get rfl rfl (hw 2 (by kernel_rfl) _ rfl)
          exact ⟨rfl, .inl ⟨wanted_none rfl, wp_val (run_conv_i64 rfl (ev_tmp e2) (by have := tp.out; have := p2.out; omega)) ⟨rfl, Below.refl _ _⟩⟩⟩
        · intro a' w' ha hs hw hold
          have e3 : a'.tmps[84]? = some (Value.int IntKind.i64 (t : Int)) := Rg.slot_get rfl rfl (hw 3 (by kernel_rfl) _ rfl)
          exact ⟨rfl, wanted_none rfl, call_step rfl Try.func103 (by kernel_rfl) rfl (map_one (ev_tmp e3)) (of_any (t : Int) _ (by have := tp.out; have := p2.out; omega) (by have := tp.out; have := p2.out; omega)) (fun e w2 he => by obtain ⟨v, rfl, hv, hb⟩ := he; exact ⟨v, rfl, v, rfl, hv, hb⟩)⟩
        · intro a' w' ha hs hw hold
          have e1 : a'.tmps[82]? = some (.agg #[.bool sm, .slice Xm pm qm]) := Rg.slot_get rfl rfl (hw 1 (by kernel_rfl) _ rfl)
          obtain ⟨v4, e4, q4⟩ := hw 4 (by kernel_rfl) _ rfl
          replace e4 : a'.tmps[85]? = some v4 := Rg.slot_get rfl rfl e4
          exact ⟨rfl, wanted_none rfl, call_step rfl Try.func34 (by kernel_rfl) rfl (map_two (ev_tmp e1) (ev_tmp e4)) (mul_any _ _ zm (t : Int) _ (IVm.out.kn hs.kn) q4 (SZm.out.mono (by omega)) ((Sz.small (by have := tp.out; have := p2.out; omega) (by have := tp.out; have := p2.out; omega)).mono (by omega))) (fun e w2 he => by obtain ⟨v, rfl, hv, hb⟩ := he; exact ⟨v, rfl, v, rfl, hv, hb⟩)⟩
        · intro a' w' ha hs hw hold
          have e0 : a'.tmps[81]? = some (.agg #[.bool su, .slice Xu pu qu]) := Rg.slot_get rfl rfl (hw 0 (by kernel_rfl) _ rfl)
          obtain ⟨v5, e5, q5⟩ := hw 5 (by kernel_rfl) _ rfl
          replace e5 : a'.tmps[86]? = some v5 := Rg.slot_get rfl rfl e5
          exact ⟨rfl, wanted_none rfl, call_step rfl Try.func30 (by kernel_rfl) rfl (map_two (ev_tmp e0) (ev_tmp e5)) (add_any _ _ zu (zm * (t : Int)) _ (IVu.out.kn hs.kn) q5 (SZu.out.mono (by omega)) ((SZm.out.mul (Sz.small (by have := tp.out; have := p2.out; omega) (by have := tp.out; have := p2.out; omega))).mono (by omega))) (fun e w2 he => by obtain ⟨v, rfl, hv, hb⟩ := he; exact ⟨v, rfl, v, rfl, hv, hb⟩)⟩
        · intro a' w' ha hs hw hold
          obtain ⟨v6, e6, q6⟩ := hw 6 (by kernel_rfl) _ rfl
          replace e6 : a'.tmps[87]? = some v6 := Rg.slot_get rfl rfl e6
          have eo7 : a'.tmps[7]? = some (ptr gu) := (ha.rest 7 (by kernel_rfl)).trans rfl
          exact ⟨rfl, wanted_none rfl, fun he => step_stoi rfl rfl (ev_tmp eo7) (ev_tmp e6) q6 BXu.out he⟩
      simp only [Rg.allG]
      intro r5x4 _
      intro r5x5 _
      intro r5x6 _
      intro hSu
      simp only [setOpt, Rg.setOpt, List.set_cons_succ, List.set_cons_zero]
      refine hK _ _ ?_
      clear hK K
      replace BXm := Lib.hid (BXm.out.bel hs (by simp only [List.mem_cons, List.not_mem_nil, or_false, not_or]; exact (Nat.ne_of_gt LTum.out))); replace IVm := Lib.hid (IVm.out.kn hs.kn)
      replace RXr := Lib.hid (RXr.out.bel hs (by simp only [List.mem_cons, List.not_mem_nil, or_false, not_or]; exact (Nat.ne_of_lt LTru.out)))
      replace RXx := Lib.hid (RXx.out.bel hs (by simp only [List.mem_cons, List.not_mem_nil, or_false, not_or]; exact (Nat.ne_of_lt LTxu.out)))
      replace CP := Lib.hid (CP.out.bel hs (by simp only [List.mem_cons, List.not_mem_nil, or_false, not_or]; exact NQcpu.out))
      replace CL := Lib.hid (CL.out.bel hs (by simp only [List.mem_cons, List.not_mem_nil, or_false, not_or]; exact NQclu.out))
      replace DW := Lib.hid (hs.base DW.out (by have := hg.out; omega) (by intro x hx; simp only [List.mem_cons, List.not_mem_nil, or_false] at hx; subst hx; first | (have := GBu.out; omega) | omega))
      clear BXu IVu
      obtain ⟨Xuy, puy, quy, BXu, IVu⟩ := hSu
      generalize hsg : decide ((zu + zm * (t : Int) : Int) < 0) = suy at *
      clear hsg
      replace BXu := Lib.hid BXu; replace IVu := Lib.hid IVu
      clear hs
      go_upto_region 11 with fail
      refine Rg.region_gg wn [.is (.agg #[.bool sm, .slice Xm pm qm]), .is (Value.slice (some ⟨bp, op, none⟩) n d), .is (Value.int IntKind.i64 (i : Int)), .is (.pointer (some ⟨bp, op + i, none⟩)), .is (Value.int IntKind.u64 (p : Nat)), .is (Value.int IntKind.i64 (p : Int)), .sat (pIv ((p : Int))) (pIv_keep _), .sat (pIv (zm * (p : Int))) (pIv_keep _), .sto gm (sI gm (zm * (p : Int))) (sI_keep _ _)] [gm] [some 88, some 89, some 90, some 91, some 92, some 93, some 94, some 95, none] (by kernel_rfl) (by kernel_rfl) (by kernel_rfl) (by kernel_rfl) (by kernel_rfl) (by simp [Rg.stos]) (by rfl) (by rfl) (by kernel_rfl) (by intro g hg; simp only [List.mem_cons, List.not_mem_nil, or_false] at hg; subst hg; exact BXm.out.lt) ((Below.refl _ _).drew) (fun Q' => ?_) (fun K hK wn hs => ?_)
      · refine ⟨?_, ?_, ?_, ?_, ?_, ?_, ?_, ?_, ?_, trivial⟩
        · intro a' w' ha hs hw hold
          have eo8 : a'.tmps[8]? = some (ptr gm) := (ha.rest 8 (by kernel_rfl)).trans rfl
          exact ⟨rfl, .inl ⟨wanted_none rfl, wp_val (run_pload rfl (ev_tmp eo8) ((hold 8 _ _ _ _ (by rfl) (by rfl) (by kernel_rfl)).trans BXm.out)) ⟨rfl, Below.refl _ _⟩⟩⟩
        · intro a' w' ha hs hw hold
          have eo1 : a'.tmps[1]? = some (Value.slice (some ⟨bp, op, none⟩) n d) := (ha.rest 1 (by kernel_rfl)).trans rfl
          exact ⟨rfl, .inl ⟨wanted_none rfl, wp_val (run_move rfl (ev_tmp eo1)) ⟨rfl, Below.refl _ _⟩⟩⟩
        · intro a' w' ha hs hw hold
          have eo9 : a'.tmps[9]? = some (Value.int IntKind.i64 (i : Int)) := (ha.rest 9 (by kernel_rfl)).trans rfl
          exact ⟨rfl, .inl ⟨wanted_none rfl, wp_val (run_move rfl (ev_tmp eo9)) ⟨rfl, Below.refl _ _⟩⟩⟩
        · intro a' w' ha hs hw hold
          have e1 : a'.tmps[89]? = some (Value.slice (some ⟨bp, op, none⟩) n d) := Rg.slot_get rfl rfl (hw 1 (by kernel_rfl) _ rfl)
          have e2 : a'.tmps[90]? = some (Value.int IntKind.i64 (i : Int)) := Rg.slot_get rfl rfl (hw 2 (by kernel_rfl) _ rfl)
          exact ⟨rfl, .inl ⟨wanted_none rfl, wp_val (run_idx64 rfl (ev_tmp e1) (ev_tmp e2) HIN.out) ⟨rfl, Below.refl _ _⟩⟩⟩
        · intro a' w' ha hs hw hold
          have e3 : a'.tmps[91]? = some (.pointer (some ⟨bp, op + i, none⟩)) := Rg.slot_get rfl rfl (hw 3 (by kernel_rfl) _ rfl)
          exact ⟨rfl, .inl ⟨wanted_none rfl, wp_val (run_ld64 rfl (ev_tmp e3) (CP.out.bel hs (by simp only [List.mem_cons, List.not_mem_nil, or_false, not_or]; exact NQcpm.out))) ⟨rfl, Below.refl _ _⟩⟩⟩
        · intro a' w' ha hs hw hold
          have e4 : a'.tmps[92]? = some (Value.int IntKind.u64 (p : Nat)) := Rg.slot_get rfl rfl (hw 4 (by kernel_rfl) _ rfl)
          exact ⟨rfl, .inl ⟨wanted_none rfl, wp_val (run_conv_i64 rfl (ev_tmp e4) (by have := p2.out; have := p2.out; omega)) ⟨rfl, Below.refl _ _⟩⟩⟩
        · intro a' w' ha hs hw hold
          have e5 : a'.tmps[93]? = some (Value.int IntKind.i64 (p : Int)) := Rg.slot_get rfl rfl (hw 5 (by kernel_rfl) _ rfl)
          exact ⟨rfl, wanted_none rfl, call_step rfl Try.func103 (by kernel_rfl) rfl (map_one (ev_tmp e5)) (of_any (p : Int) _ (by have := p2.out; omega) (by have := p2.out; omega)) (fun e w2 he => by obtain ⟨v, rfl, hv, hb⟩ := he; exact ⟨v, rfl, v, rfl, hv, hb⟩)⟩
        · intro a' w' ha hs hw hold
          have e0 : a'.tmps[88]? = some (.agg #[.bool sm, .slice Xm pm qm]) := Rg.slot_get rfl rfl (hw 0 (by kernel_rfl) _ rfl)
          obtain ⟨v6, e6, q6⟩ := hw 6 (by kernel_rfl) _ rfl
          replace e6 : a'.tmps[94]? = some v6 := Rg.slot_get rfl rfl e6
          exact ⟨rfl, wanted_none rfl, call_step rfl Try.func34 (by kernel_rfl) rfl (map_two (ev_tmp e0) (ev_tmp e6)) (mul_any _ _ zm (p : Int) _ (IVm.out.kn hs.kn) q6 (SZm.out.mono (by omega)) ((Sz.small (by have := p2.out; omega) (by have := p2.out; omega)).mono (by omega))) (fun e w2 he => by obtain ⟨v, rfl, hv, hb⟩ := he; exact ⟨v, rfl, v, rfl, hv, hb⟩)⟩
        · intro a' w' ha hs hw hold
          obtain ⟨v7, e7, q7⟩ := hw 7 (by kernel_rfl) _ rfl
          replace e7 : a'.tmps[95]? = some v7 := Rg.slot_get rfl rfl e7
          have eo8 : a'.tmps[8]? = some (ptr gm) := (ha.rest 8 (by kernel_rfl)).trans rfl
          exact ⟨rfl, wanted_none rfl, fun he => step_stoi rfl rfl (ev_tmp eo8) (ev_tmp e7) q7 BXm.out he⟩
      simp only [Rg.allG]
      intro r6x6 _
      intro r6x7 _
      intro hSm
      simp only [setOpt, Rg.setOpt, List.set_cons_succ, List.set_cons_zero]
      refine hK _ _ ?_
      clear hK K
      replace BXu := Lib.hid (BXu.out.bel hs (by simp only [List.mem_cons, List.not_mem_nil, or_false, not_or]; exact (Nat.ne_of_lt LTum.out))); replace IVu := Lib.hid (IVu.out.kn hs.kn)
      replace RXr := Lib.hid (RXr.out.bel hs (by simp only [List.mem_cons, List.not_mem_nil, or_false, not_or]; exact (Nat.ne_of_lt LTrm.out)))
      replace RXx := Lib.hid (RXx.out.bel hs (by simp only [List.mem_cons, List.not_mem_nil, or_false, not_or]; exact (Nat.ne_of_lt LTxm.out)))
      replace CP := Lib.hid (CP.out.bel hs (by simp only [List.mem_cons, List.not_mem_nil, or_false, not_or]; exact NQcpm.out))
      replace CL := Lib.hid (CL.out.bel hs (by simp only [List.mem_cons, List.not_mem_nil, or_false, not_or]; exact NQclm.out))
      replace DW := Lib.hid (hs.base DW.out (by have := hg.out; omega) (by intro x hx; simp only [List.mem_cons, List.not_mem_nil, or_false] at hx; subst hx; first | (have := GBm.out; omega) | omega))
      clear BXm IVm
      obtain ⟨Xmy, pmy, qmy, BXm, IVm⟩ := hSm
      generalize hsg : decide ((zm * (p : Int) : Int) < 0) = smy at *
      clear hsg
      replace BXm := Lib.hid BXm; replace IVm := Lib.hid IVm
      clear hs
      go_wp2
      go_roundw
      case rel =>
        refine ⟨i + 1, by omega, by go_num, ?_, ?_, RXr.out, RXx.out, DW.out⟩
        · have h := ic_of BXu.out IVu.out
          have e : zu + zm * (t : Int) = (((crt ls ps i).1 + (crt ls ps i).2 * t : Nat) : Int) := by rw [hzu.out, hzm.out, Int.natCast_add, Int.natCast_mul]
          rw [e] at h
          rw [NEXT.out]
          exact h
        · have h := ic_of BXm.out IVm.out
          have e : zm * (p : Int) = (((crt ls ps i).2 * p : Nat) : Int) := by rw [hzm.out, Int.natCast_mul]
          rw [e] at h
          rw [NEXT.out]
          exact h
      case measure => simp [intOf]; omega
    · skip
      have hin2 : i = n := by omega
      subst hin2
      have e0 : decide ((i : Int) < (i : Int)) = false := decide_eq_false (by omega)
      go_upto_region 13 with fail
      refine Rg.region_gg wr [.is (.agg #[.bool su, .slice Xu pu qu]), .is (.agg #[.bool sm, .slice Xm pm qm]), .sto g (sI g (zu)) (sI_keep _ _), .sto (g + 1) (sI (g + 1) (zm)) (sI_keep _ _), .is (Value.int IntKind.i64 0)] [g, (g + 1)] [some 97, some 98, none, none, some 6] (by kernel_rfl) (by kernel_rfl) (by kernel_rfl) (by kernel_rfl) (by kernel_rfl) (by simp only [Rg.stos, List.nodup_cons, List.mem_cons, List.not_mem_nil, or_false, not_or, List.nodup_nil, and_true, not_false_eq_true]; exact (by omega)) (by rfl) (by rfl) (by kernel_rfl) (by intro g hg; simp only [List.mem_cons, List.not_mem_nil, or_false] at hg; rcases hg with rfl | rfl <;> first | exact RXr.out.lt | exact RXx.out.lt) ((Below.refl _ _).drew) (fun Q' => ?_) (fun K hK wn hs => ?_)
      · refine ⟨?_, ?_, ?_, ?_, ?_, trivial⟩
        · intro a' w' ha hs hw hold
          have eo7 : a'.tmps[7]? = some (ptr gu) := (ha.rest 7 (by kernel_rfl)).trans rfl
          exact ⟨rfl, .inl ⟨wanted_none rfl, wp_val (run_pload rfl (ev_tmp eo7) (BXu.out.bel hs (by simp only [List.mem_cons, List.not_mem_nil, or_false, not_or]; exact ⟨(Nat.ne_of_gt LTru.out), (Nat.ne_of_gt LTxu.out)⟩))) ⟨rfl, Below.refl _ _⟩⟩⟩
        · intro a' w' ha hs hw hold
          have eo8 : a'.tmps[8]? = some (ptr gm) := (ha.rest 8 (by kernel_rfl)).trans rfl
          exact ⟨rfl, .inl ⟨wanted_none rfl, wp_val (run_pload rfl (ev_tmp eo8) (BXm.out.bel hs (by simp only [List.mem_cons, List.not_mem_nil, or_false, not_or]; exact ⟨(Nat.ne_of_gt LTrm.out), (Nat.ne_of_gt LTxm.out)⟩))) ⟨rfl, Below.refl _ _⟩⟩⟩
        · intro a' w' ha hs hw hold
          have e0 : a'.tmps[97]? = some (.agg #[.bool su, .slice Xu pu qu]) := Rg.slot_get rfl rfl (hw 0 (by kernel_rfl) _ rfl)
          have eo4 : a'.tmps[4]? = some (ptr g) := (ha.rest 4 (by kernel_rfl)).trans rfl
          exact ⟨rfl, wanted_none rfl, fun he => step_stoi rfl rfl (ev_tmp eo4) (ev_tmp e0) (IVu.out.kn hs.kn) RXr.out he⟩
        · intro a' w' ha hs hw hold
          have e1 : a'.tmps[98]? = some (.agg #[.bool sm, .slice Xm pm qm]) := Rg.slot_get rfl rfl (hw 1 (by kernel_rfl) _ rfl)
          have eo5 : a'.tmps[5]? = some (ptr (g + 1)) := (ha.rest 5 (by kernel_rfl)).trans rfl
          exact ⟨rfl, wanted_none rfl, fun he => step_stoi rfl rfl (ev_tmp eo5) (ev_tmp e1) (IVm.out.kn hs.kn) RXx.out he⟩
        · intro a' w' ha hs hw hold
          exact ⟨rfl, .inl ⟨wanted_none rfl, wp_val (run_assign rfl rfl) ⟨rfl, Below.refl _ _⟩⟩⟩
      simp only [Rg.allG]
      intro hSr
      intro hSx
      simp only [setOpt, Rg.setOpt, List.set_cons_succ, List.set_cons_zero]
      refine hK _ _ ?_
      clear hK K
      have DN : Hid (Below g w wn) := hs.base DW.out (by have := hg.out; omega) (by simp only [List.mem_cons, List.not_mem_nil, or_false]; omega)
      obtain ⟨Ar, ir, cr, hcr, hir⟩ := hSr
      have kra := hcr.cell0; have krb := hcr.cell1
      have HIr := Lib.hid hir; clear hir
      obtain ⟨Ax, ix, cx, hcx, hix⟩ := hSx
      have kxa := hcx.cell0; have kxb := hcx.cell1
      have HIx := Lib.hid hix; clear hix
      go_wp2
      exact bodyPost_ret (v := .tuple #[.agg #[.bool (decide (zu < 0)), .slice Ar ir cr], .agg #[.bool (decide (zm < 0)), .slice Ax ix cx], .int .i64 0]) (by simp [results, Try.results63, go_sem, kra, krb, kxa, kxb]) rfl ⟨_, _, rfl, (by rw [← hzu.out]; exact HIr.out), (by rw [← hzm.out]; exact HIx.out), by rw [hg.out]; exact DN.out⟩
end Go.Proofs.Ytfigimfdojbkeaa
end
