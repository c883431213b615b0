/-
  Layer 3: the law's sanity.
-/
import Derived.Test.YtfigimfdojbkeaaModZ3
import Derived.Test.YtfigimfdojbkeaaModV
import Derived.Deep.DeepCutAuto
import Derived.Handy
set_option linter.unusedSimpArgs false
set_option linter.unusedVariables false
namespace Go.Proofs.Ytfigimfdojbkeaa
open Go.RowKit
attribute [local go_sem ↓] Go.wp_at_zero Go.wp_at_succ

theorem map_three {α β : Type} {f : α → β} {x y z : α} {v u t : β} (h : f x = v) (k : f y = u) (l : f z = t) : #[x, y, z].map f = #[v, u, t] := by simp [h, k, l]
theorem map_none {α β : Type} {f : α → β} : (#[] : Array α).map f = #[] := by simp
theorem u64s_new (w : World) (T : TypeId) (a b : Nat) (ha : a < 18446744073709551616) (hb : b < 18446744073709551616) : U64s (w.alloc (.cells #[.int .u64 (a : Nat), .int .u64 (b : Nat)] T)) (some ⟨w.heap.size, 0, none⟩) 2 [a, b] := by
  refine ⟨rfl, ?_, fun i hi => ⟨w.heap.size, 0, rfl, by simp, ?_⟩⟩
  · intro x hx
    simp only [List.mem_cons, List.not_mem_nil, or_false] at hx
    rcases hx with rfl | rfl <;> assumption
  · rw [cell_of_row _ _ _ _ _ _ (heap_alloc_new w _)]
    rcases (by omega : i = 0 ∨ i = 1) with rfl | rfl <;> rfl
theorem isPr_small {p : Nat} (h : p = 2 ∨ p = 3 ∨ p = 5) : IsPr p := by
  refine ⟨by omega, by omega, fun d h2 hd => ?_⟩
  rcases h with rfl | rfl | rfl
  · have : d = 0 ∨ d = 1 := by rcases (by omega : d = 0 ∨ d = 1 ∨ 2 ≤ d) with k | k | k <;> first | (left; exact k) | (right; exact k) | (have := Nat.mul_le_mul k k; omega)
    omega
  · have : d = 0 ∨ d = 1 := by rcases (by omega : d = 0 ∨ d = 1 ∨ 2 ≤ d) with k | k | k <;> first | (left; exact k) | (right; exact k) | (have := Nat.mul_le_mul k k; omega)
    omega
  · rcases (by omega : d = 2 ∨ 3 ≤ d) with rfl | k
    · decide
    · have := Nat.mul_le_mul k k; omega
theorem reduce_half (v : Value) (w : World) (h : Qv w v 1 2) : Calls Try.prog 55 #[v, .int .u64 7] w (RetV (.tuple #[.int .u64 4, .int .i64 0]) w) := by
  obtain ⟨A, n, c, B, m, d, rfl, h1, h2⟩ := h
  exact oreduce_any _ _ A B n c m d 1 2 7 w h1 ((Sz.small (by omega) (by omega)).mono (by omega)) h2 ((Sz.small (by omega) (by omega)).mono (by omega)) (by omega) (by omega) (by decide)
theorem chin_ex : crt [2, 3] [3, 5] 2 = (8, 15) := by decide
theorem fsh_ex1 : Row.fsh ((101 : Int).toNat + 1) (7 : Nat) 101 0 (51 % 101) 1 = (1, 2) := by decide
theorem fsh_ex2 : Row.fsh ((7 : Int).toNat + 1) (1 : Nat) 7 0 (4 % 7) 1 = (1, 2) := by decide
theorem prime9 (w : World) : Calls Try.prog 50 #[.int .u64 9] w (RetV (.bool false) w) := by
  refine oprime_not 9 1 w (by omega) (by omega) (by omega) (by decide) (fun j hj => ?_) (by decide)
  obtain rfl : j = 0 := by omega
  decide
theorem pow_ex (w : World) : Calls Try.prog 57 #[.int .u64 2, .int .u64 10, .int .u64 1000] w (RetV (.int .u64 24) w) := opow_any 2 10 1000 w (by omega) (by omega) (by omega) (by omega)
theorem inv_ex (w : World) : Calls Try.prog 53 #[.int .u64 3, .int .u64 7] w (RetV (.tuple #[.int .u64 5, .int .i64 0]) w) := oinv_any 3 7 w (by omega) (by omega) (by omega) (by decide)
theorem rof_z (k z : Int) (w : World) (h1 : -9223372036854775808 ≤ k) (h2 : k ≤ 9223372036854775807) (h : z = k) : Calls Try.prog 64 #[.int .i64 k] w (RetIv z w) := by rw [h]; exact rof_any k w h1 h2
theorem chin_call (A B : Option Addr) (c d : Nat) (z8 z15 : Int) (w : World) (h1 : U64s w A 2 [2, 3]) (h2 : U64s w B 2 [3, 5]) (e8 : z8 = 8) (e15 : z15 = 15) : Calls Try.prog 63 #[.slice A 2 c, .slice B 2 d] w (fun e w' => ∃ v x, e = .returned (.tuple #[v, x, .int .i64 0]) ∧ Iv w' v z8 ∧ Iv w' x z15 ∧ Below w.heap.size w w') := by
  have h := ochinese_any A 2 c [2, 3] B d [3, 5] w h1 h2 (by omega) (fun x hx => isPr_small (by simp only [List.mem_cons, List.not_mem_nil, or_false] at hx; omega)) (by decide) (fun i hi => by rcases (by omega : i = 0 ∨ i = 1) with rfl | rfl <;> decide)
  rw [chin_ex] at h
  rw [e8, e15]
  exact h
theorem reb1 (vu vm : Value) (zu zm n d : Int) (w : World) (hu : Iv w vu zu) (hm : Iv w vm zm) (h1 : zu = 51) (h2 : zm = 101) (h3 : n = 1) (h4 : d = 2) : Calls Try.prog 68 #[vu, vm] w (RetQB n d true w) := by
  subst h1 h2 h3 h4
  exact rebuild_ok vu vm 51 101 1 2 50 7 w hu ((Sz.small (by omega) (by omega)).mono (by omega)) hm ((Sz.small (by omega) (by omega)).mono (by omega)) (by omega) (by decide) (by decide) (by decide) (by omega) fsh_ex1 ((Sz.small (by omega) (by omega)).mono (by omega)) ((Sz.small (by omega) (by omega)).mono (by omega)) (by omega) (by omega) (by decide)
theorem reb2 (vu vm : Value) (zu zm n d : Int) (w : World) (hu : Iv w vu zu) (hm : Iv w vm zm) (h1 : zu = 4) (h2 : zm = 7) (h3 : n = 0) (h4 : d = 0) : Calls Try.prog 68 #[vu, vm] w (RetQB n d false w) := by
  subst h1 h2 h3 h4
  exact rebuild_big vu vm 4 7 1 2 3 1 w hu ((Sz.small (by omega) (by omega)).mono (by omega)) hm ((Sz.small (by omega) (by omega)).mono (by omega)) (by omega) (by decide) (by decide) (by decide) (by omega) fsh_ex2 ((Sz.small (by omega) (by omega)).mono (by omega)) ((Sz.small (by omega) (by omega)).mono (by omega)) (by omega) (by omega)
theorem szc {z : Int} {k : Int} (h : z = k) (h1 : -9223372036854775808 ≤ k) (h2 : k ≤ 9223372036854775807) {N : Nat} (hN : 2 ≤ N) : Sz z N := by rw [h]; exact (Sz.small h1 (by omega)).mono hN


set_option maxHeartbeats 8000000 in
set_option maxRecDepth 100000 in
theorem sanity3_any (w : World) : Calls Try.prog 47 #[] w (RetV (.bool true) w) := by

  obtain ⟨k1, hk1⟩ : ∃ z : Int, z = 1 := ⟨_, rfl⟩
  replace hk1 := Lib.hid hk1
  obtain ⟨k2, hk2⟩ : ∃ z : Int, z = 2 := ⟨_, rfl⟩
  replace hk2 := Lib.hid hk2
  obtain ⟨k8, hk8⟩ : ∃ z : Int, z = 8 := ⟨_, rfl⟩
  replace hk8 := Lib.hid hk8
  obtain ⟨k15, hk15⟩ : ∃ z : Int, z = 15 := ⟨_, rfl⟩
  replace hk15 := Lib.hid hk15
  obtain ⟨k51, hk51⟩ : ∃ z : Int, z = 51 := ⟨_, rfl⟩
  replace hk51 := Lib.hid hk51
  obtain ⟨k101, hk101⟩ : ∃ z : Int, z = 101 := ⟨_, rfl⟩
  replace hk101 := Lib.hid hk101
  obtain ⟨k4, hk4⟩ : ∃ z : Int, z = 4 := ⟨_, rfl⟩
  replace hk4 := Lib.hid hk4
  obtain ⟨k7, hk7⟩ : ∃ z : Int, z = 7 := ⟨_, rfl⟩
  replace hk7 := Lib.hid hk7
  obtain ⟨o0, ho0⟩ : ∃ z : Int, z = 0 := ⟨_, rfl⟩
  replace ho0 := Lib.hid ho0
  obtain ⟨o1, ho1⟩ : ∃ z : Int, z = 0 := ⟨_, rfl⟩
  replace ho1 := Lib.hid ho1
  obtain ⟨o2, ho2⟩ : ∃ z : Int, z = 0 := ⟨_, rfl⟩
  replace ho2 := Lib.hid ho2
  obtain ⟨o3, ho3⟩ : ∃ z : Int, z = 0 := ⟨_, rfl⟩
  replace ho3 := Lib.hid ho3
  go_enter Try.func47, Try.ntmps47
  have DW : Hid (Below w.heap.size w w) := Below.refl _ _
  obtain ⟨g, hg⟩ : ∃ g, w.heap.size = g := ⟨_, rfl⟩
  rw [hg] at DW
  replace hg := Lib.hid hg
  go_wp2_with fail
  refine (onext_7 _).mono ?_
  rintro e y1 ⟨rfl, hb⟩
  replace DW := nxd DW hg hb rfl rfl rfl rfl
  clear hb
  go_wp2_with fail
  refine (inv_ex _).mono ?_
  rintro e y2 ⟨rfl, hb⟩
  replace DW := nxd DW hg hb rfl rfl rfl rfl
  clear hb
  go_wp2_with fail
  refine (rof_z 1 k1 _ (by omega) (by omega) hk1.out).mono ?_
  rintro e y3 ⟨_, rfl, hq1, hb⟩
  replace hq1 := Lib.hid hq1
  replace DW := nxd DW hg hb rfl rfl rfl rfl
  clear hb
  go_wp2_with fail
  refine (rof_z 2 k2 _ (by omega) (by omega) hk2.out).mono ?_
  rintro e y4 ⟨_, rfl, hq2, hb⟩
  replace hq1 := Lib.hid (iv_next hq1.out hb rfl); replace hq2 := Lib.hid hq2
  replace DW := nxd DW hg hb rfl rfl rfl rfl
  clear hb
  obtain ⟨X1, p1, q1, rfl, _, _, _⟩ := hq1.out.form
  obtain ⟨X2, p2, q2, rfl, _, _, _⟩ := hq2.out.form
  have QH : Hid (Qv y4 (.agg #[.bool (decide (k1 < 0)), .slice X1 p1 q1, .bool (decide (k2 < 0)), .slice X2 p2 q2]) 1 2) := by have h := qv_of hq1.out hq2.out; rw [hk1.out, hk2.out] at h; rw [hk1.out, hk2.out]; exact h
  generalize hs : decide (k1 < 0) = s1 at *
  clear hs
  generalize hs : decide (k2 < 0) = s2 at *
  clear hs
  go_wp2_with fail
  refine (reduce_half _ _ QH.out).mono ?_
  rintro e y5 ⟨rfl, hb⟩
  replace DW := nxd DW hg hb rfl rfl rfl rfl
  clear hb
  clear QH hq1 hq2
  go_wp2_with fail
  obtain ⟨W40, hW⟩ : ∃ W40, W40 = (y5.alloc (Obj.cells #[Value.int IntKind.u64 2, Value.int IntKind.u64 3] 52)).alloc (Obj.cells #[Value.int IntKind.u64 3, Value.int IntKind.u64 5] 52) := ⟨_, rfl⟩
  rw [← hW]
  have C1 : Hid (U64s W40 (some ⟨y5.heap.size, 0, none⟩) 2 [2, 3]) := by rw [hW]; exact (u64s_new y5 _ 2 3 (by omega) (by omega)).below ((Below.refl _ _).alloc (Nat.le_refl _) _)
  have C2 : Hid (U64s W40 (some ⟨y5.heap.size + 1, 0, none⟩) 2 [3, 5]) := by
    rw [hW]
    have h := u64s_new (y5.alloc (Obj.cells #[Value.int IntKind.u64 2, Value.int IntKind.u64 3] 52)) 52 3 5 (by omega) (by omega)
    simpa [Hid] using h
  have hd : Below y5.heap.size y5 W40 := by rw [hW]; exact ((Below.refl _ _).alloc (Nat.le_refl _) _).alloc (by simp) _
  clear hW
  replace DW := nxd DW hg hd rfl rfl rfl rfl
  clear hd
  refine (chin_call _ _ 2 2 k8 k15 _ C1.out C2.out hk8.out hk15.out).mono ?_
  rintro e y6 ⟨_, _, rfl, hq0, hq1, hb⟩
  clear C1 C2
  obtain ⟨Xu, pu, qu, rfl, _, _, _⟩ := hq0.form
  have Qu := Lib.hid hq0; clear hq0
  obtain ⟨Xm, pm, qm, rfl, _, _, _⟩ := hq1.form
  have Qm := Lib.hid hq1; clear hq1
  have B := Lib.hid hb; clear hb
  generalize hs : decide ((k8 : Int) < 0) = su at *
  clear hs
  generalize hs : decide ((k15 : Int) < 0) = sm at *
  clear hs
  go_upto_region 5 with fail
  obtain ⟨W1, hW⟩ : ∃ W1, W1 = ((y6.alloc (Obj.cells #[Value.bool su, Value.slice Xu pu qu] 27)).alloc (Obj.cells #[Value.bool sm, Value.slice Xm pm qm] 27)) := ⟨_, rfl⟩
  rw [← hW]
  have BXu : Hid (Box W1 (y6.heap.size) su (.slice Xu pu qu)) := by rw [hW]; have := (Box.new y6 su (.slice Xu pu qu)).alloc (Obj.cells #[Value.bool sm, Value.slice Xm pm qm] 27); simpa [Hid] using this
  have IVu : Hid (Iv W1 (.agg #[.bool su, .slice Xu pu qu]) (k8)) := by rw [hW]; exact ((Qu.out).alloc _).alloc _
  have BXm : Hid (Box W1 (y6.heap.size + 1) sm (.slice Xm pm qm)) := by rw [hW]; have := Box.new (y6.alloc (Obj.cells #[Value.bool su, Value.slice Xu pu qu] 27)) sm (.slice Xm pm qm); simpa [Hid] using this
  have IVm : Hid (Iv W1 (.agg #[.bool sm, .slice Xm pm qm]) (k15)) := by rw [hW]; exact ((Qm.out).alloc _).alloc _
  have hd : Below W40.heap.size W40 W1 := by rw [hW]; exact ((B.out).alloc (by have := B.out.size; simp <;> omega) _).alloc (by have := B.out.size; simp <;> omega) _
  clear hW B Qu Qm
  generalize hgn1 : y6.heap.size + 1 = gm at *
  clear hgn1
  generalize hgn1 : y6.heap.size = gu at *
  clear hgn1
  replace DW := nxd DW hg hd rfl rfl rfl rfl
  clear hd
  go_wp2_with fail
  refine (rof_z 51 k51 _ (by omega) (by omega) hk51.out).mono ?_
  rintro e y7 ⟨_, rfl, hq1, hb⟩
  replace hq1 := Lib.hid hq1
  replace BXu := nxb BXu hb rfl; replace IVu := nxv IVu hb rfl
  replace BXm := nxb BXm hb rfl; replace IVm := nxv IVm hb rfl
  replace DW := nxd DW hg hb rfl rfl rfl rfl
  clear hb
  go_wp2_with fail
  refine (rof_z 101 k101 _ (by omega) (by omega) hk101.out).mono ?_
  rintro e y8 ⟨_, rfl, hq2, hb⟩
  replace hq1 := Lib.hid (iv_next hq1.out hb rfl); replace hq2 := Lib.hid hq2
  replace BXu := nxb BXu hb rfl; replace IVu := nxv IVu hb rfl
  replace BXm := nxb BXm hb rfl; replace IVm := nxv IVm hb rfl
  replace DW := nxd DW hg hb rfl rfl rfl rfl
  clear hb
  go_wp2_with fail
  refine (reb1 _ _ k51 k101 k1 k2 _ hq1.out hq2.out hk51.out hk101.out hk1.out hk2.out).mono ?_
  rintro e y9 ⟨_, rfl, hq, hb⟩
  clear hq1 hq2
  obtain ⟨Xxn, pxn, qxn, Xxd, pxd, qxd, rfl, hxn, hxd⟩ := hq
  have Qxn := Lib.hid hxn; have Qxd := Lib.hid hxd; clear hxn hxd
  have B := Lib.hid hb; clear hb
  generalize hs : decide ((k1 : Int) < 0) = sxn at *
  clear hs
  generalize hs : decide ((k2 : Int) < 0) = sxd at *
  clear hs
  go_upto_region 6 with fail
  obtain ⟨W2, hW⟩ : ∃ W2, W2 = y9.alloc (Obj.cells #[Value.bool sxn, Value.slice Xxn pxn qxn, Value.bool sxd, Value.slice Xxd pxd qxd] 60) := ⟨_, rfl⟩
  rw [← hW]
  have QXx : Hid (QBox W2 y9.heap.size sxn (.slice Xxn pxn qxn) sxd (.slice Xxd pxd qxd)) := by rw [hW]; exact QBox.new _ _ _ _ _
  have IVnx : Hid (Iv W2 (.agg #[.bool sxn, .slice Xxn pxn qxn]) (k1)) := by rw [hW]; exact Qxn.out.alloc _
  have IVdx : Hid (Iv W2 (.agg #[.bool sxd, .slice Xxd pxd qxd]) (k2)) := by rw [hW]; exact Qxd.out.alloc _
  have hd : Below y8.heap.size y8 W2 := by rw [hW]; exact B.out.alloc (by have := B.out.size; omega) _
  clear hW B Qxn Qxd
  generalize hgn2 : y9.heap.size = gx at *
  clear hgn2
  replace BXu := nxb BXu hd rfl; replace IVu := nxv IVu hd rfl
  replace BXm := nxb BXm hd rfl; replace IVm := nxv IVm hd rfl
  replace DW := nxd DW hg hd rfl rfl rfl rfl
  clear hd
  go_wp2_with fail
  refine (rof_z 4 k4 _ (by omega) (by omega) hk4.out).mono ?_
  rintro e y10 ⟨_, rfl, hq1, hb⟩
  replace hq1 := Lib.hid hq1
  replace BXu := nxb BXu hb rfl; replace IVu := nxv IVu hb rfl
  replace BXm := nxb BXm hb rfl; replace IVm := nxv IVm hb rfl
  replace QXx := nxq QXx hb rfl; replace IVnx := nxv IVnx hb rfl; replace IVdx := nxv IVdx hb rfl
  replace DW := nxd DW hg hb rfl rfl rfl rfl
  clear hb
  go_wp2_with fail
  refine (rof_z 7 k7 _ (by omega) (by omega) hk7.out).mono ?_
  rintro e y11 ⟨_, rfl, hq2, hb⟩
  replace hq1 := Lib.hid (iv_next hq1.out hb rfl); replace hq2 := Lib.hid hq2
  replace BXu := nxb BXu hb rfl; replace IVu := nxv IVu hb rfl
  replace BXm := nxb BXm hb rfl; replace IVm := nxv IVm hb rfl
  replace QXx := nxq QXx hb rfl; replace IVnx := nxv IVnx hb rfl; replace IVdx := nxv IVdx hb rfl
  replace DW := nxd DW hg hb rfl rfl rfl rfl
  clear hb
  go_wp2_with fail
  refine (reb2 _ _ k4 k7 o0 o1 _ hq1.out hq2.out hk4.out hk7.out ho0.out ho1.out).mono ?_
  rintro e y12 ⟨_, rfl, hq, hb⟩
  clear hq1 hq2
  obtain ⟨Xyn, pyn, qyn, Xyd, pyd, qyd, rfl, hyn, hyd⟩ := hq
  have Qyn := Lib.hid hyn; have Qyd := Lib.hid hyd; clear hyn hyd
  have B := Lib.hid hb; clear hb
  generalize hs : decide ((o0 : Int) < 0) = syn at *
  clear hs
  generalize hs : decide ((o1 : Int) < 0) = syd at *
  clear hs
  go_upto_region 7 with fail
  obtain ⟨W3, hW⟩ : ∃ W3, W3 = y12.alloc (Obj.cells #[Value.bool syn, Value.slice Xyn pyn qyn, Value.bool syd, Value.slice Xyd pyd qyd] 60) := ⟨_, rfl⟩
  rw [← hW]
  have QXy : Hid (QBox W3 y12.heap.size syn (.slice Xyn pyn qyn) syd (.slice Xyd pyd qyd)) := by rw [hW]; exact QBox.new _ _ _ _ _
  have IVny : Hid (Iv W3 (.agg #[.bool syn, .slice Xyn pyn qyn]) (o0)) := by rw [hW]; exact Qyn.out.alloc _
  have IVdy : Hid (Iv W3 (.agg #[.bool syd, .slice Xyd pyd qyd]) (o1)) := by rw [hW]; exact Qyd.out.alloc _
  have hd : Below y11.heap.size y11 W3 := by rw [hW]; exact B.out.alloc (by have := B.out.size; omega) _
  clear hW B Qyn Qyd
  generalize hgn3 : y12.heap.size = gy at *
  clear hgn3
  replace BXu := nxb BXu hd rfl; replace IVu := nxv IVu hd rfl
  replace BXm := nxb BXm hd rfl; replace IVm := nxv IVm hd rfl
  replace QXx := nxq QXx hd rfl; replace IVnx := nxv IVnx hd rfl; replace IVdx := nxv IVdx hd rfl
  replace DW := nxd DW hg hd rfl rfl rfl rfl
  clear hd
  go_upto_region 8 with fail
  refine Rg.region_gg W3 [.is (Value.bool true), .is (Value.bool true), .is (Value.bool true), .is (Value.bool true), .is (Value.bool true), .is (Value.bool false), .is (Value.bool true), .is (Value.bool true), .is (Value.bool true), .is (Value.int IntKind.u64 11), .is (Value.bool true), .is (Value.bool true), .is (Value.bool true), .is (Value.int IntKind.u64 5), .is (Value.bool true), .is (Value.bool true), .is (Value.bool true), .is (Value.int IntKind.u64 4), .is (Value.bool true), .is (Value.bool true), .is (Value.bool true), .is (.agg #[.bool su, .slice Xu pu qu]), .sat (pIv (k8)) (pIv_keep _), .is (Value.bool true), .is (Value.bool true), .is (Value.bool true), .is (.agg #[.bool sm, .slice Xm pm qm]), .sat (pIv (k15)) (pIv_keep _), .is (Value.bool true), .is (Value.bool true), .is (Value.bool true), .is (Value.bool true), .is (Value.bool true), .is (Value.bool true), .is (.pointer (some ⟨gx, 0, none⟩)), .is (.agg #[.bool sxn, .slice Xxn pxn qxn]), .sat (pIv (k1)) (pIv_keep _), .is (Value.bool true), .is (Value.bool true), .is (Value.bool true), .is (.pointer (some ⟨gx, 2, none⟩)), .is (.agg #[.bool sxd, .slice Xxd pxd qxd]), .sat (pIv (k2)) (pIv_keep _), .is (Value.bool true), .is (Value.bool true), .is (Value.bool true), .is (Value.bool false), .is (Value.bool true), .is (Value.bool true), .is (Value.bool true), .is (Value.int IntKind.u64 24), .is (Value.bool true), .is (Value.bool true), .is (Value.bool true)] [] [some 63, some 64, some 65, some 66, some 67, some 68, some 69, some 70, some 71, some 72, some 73, some 74, some 75, some 76, some 77, some 78, some 79, some 80, some 81, some 82, some 83, some 84, some 85, some 86, some 87, some 88, some 89, some 90, some 91, some 92, some 93, some 94, some 95, some 96, some 97, some 98, some 99, some 100, some 101, some 102, some 103, some 104, some 105, some 106, some 107, some 108, some 109, some 110, some 111, some 112, some 113, some 114, some 115, some 0] (by kernel_rfl) (by kernel_rfl) (by kernel_rfl) (by kernel_rfl) (by kernel_rfl) (by simp [Rg.stos]) (by rfl) (by rfl) (by kernel_rfl) (by simp) ((Below.refl _ _).drew) (fun Q' => ?_) (fun K hK wn hs => ?_)
  · refine ⟨?_, ?_, ?_, ?_, ?_, ?_, ?_, ?_, ?_, ?_, ?_, ?_, ?_, ?_, ?_, ?_, ?_, ?_, ?_, ?_, ?_, ?_, ?_, ?_, ?_, ?_, ?_, ?_, ?_, ?_, ?_, ?_, ?_, ?_, ?_, ?_, ?_, ?_, ?_, ?_, ?_, ?_, ?_, ?_, ?_, ?_, ?_, ?_, ?_, ?_, ?_, ?_, ?_, ?_, trivial⟩
    · intro a' w' ha hs hw hold
      have eo14 : a'.tmps[14]? = some (Value.bool true) := (ha.rest 14 (by kernel_rfl)).trans rfl
      exact ⟨rfl, .inl ⟨wanted_none rfl, wp_val (run_move rfl (ev_tmp eo14)) ⟨rfl, Below.refl _ _⟩⟩⟩
    · intro a' w' ha hs hw hold
      have e0 : a'.tmps[63]? = some (Value.bool true) := Rg.slot_get rfl rfl (hw 0 (by kernel_rfl) _ rfl)
      exact ⟨rfl, .inl ⟨wanted_none rfl, wp_val (run_move rfl (ev_tmp e0)) ⟨rfl, Below.refl _ _⟩⟩⟩
    · intro a' w' ha hs hw hold
      have e1 : a'.tmps[64]? = some (Value.bool true) := Rg.slot_get rfl rfl (hw 1 (by kernel_rfl) _ rfl)
      exact ⟨rfl, .inl ⟨wanted_some rfl rfl rfl e1, call_step rfl Try.func50 (by kernel_rfl) rfl (map_one rfl) (oprime_pr 2 _ (isPr_small (by omega))) (fun e w2 he => by obtain ⟨rfl, hb⟩ := he; exact ⟨_, rfl, rfl, hb⟩)⟩⟩
    · intro a' w' ha hs hw hold
      have e1 : a'.tmps[64]? = some (Value.bool true) := Rg.slot_get rfl rfl (hw 1 (by kernel_rfl) _ rfl)
      have e2 : a'.tmps[65]? = some (Value.bool true) := Rg.slot_get rfl rfl (hw 2 (by kernel_rfl) _ rfl)
      exact ⟨rfl, .inl ⟨wanted_none rfl, wp_val (run_pick (b := true) rfl (ev_tmp e1) (ev_tmp e2)) ⟨rfl, Below.refl _ _⟩⟩⟩
    · intro a' w' ha hs hw hold
      have e3 : a'.tmps[66]? = some (Value.bool true) := Rg.slot_get rfl rfl (hw 3 (by kernel_rfl) _ rfl)
      exact ⟨rfl, .inl ⟨wanted_none rfl, wp_val (run_move rfl (ev_tmp e3)) ⟨rfl, Below.refl _ _⟩⟩⟩
    · intro a' w' ha hs hw hold
      have e4 : a'.tmps[67]? = some (Value.bool true) := Rg.slot_get rfl rfl (hw 4 (by kernel_rfl) _ rfl)
      exact ⟨rfl, .inl ⟨wanted_some rfl rfl rfl e4, call_step rfl Try.func50 (by kernel_rfl) rfl (map_one rfl) (prime9 _) (fun e w2 he => by obtain ⟨rfl, hb⟩ := he; exact ⟨_, rfl, rfl, hb⟩)⟩⟩
    · intro a' w' ha hs hw hold
      have e4 : a'.tmps[67]? = some (Value.bool true) := Rg.slot_get rfl rfl (hw 4 (by kernel_rfl) _ rfl)
      have e5 : a'.tmps[68]? = some (Value.bool false) := Rg.slot_get rfl rfl (hw 5 (by kernel_rfl) _ rfl)
      exact ⟨rfl, .inl ⟨wanted_some rfl rfl rfl e4, wp_val (run_not rfl (ev_tmp e5)) ⟨rfl, Below.refl _ _⟩⟩⟩
    · intro a' w' ha hs hw hold
      have e4 : a'.tmps[67]? = some (Value.bool true) := Rg.slot_get rfl rfl (hw 4 (by kernel_rfl) _ rfl)
      have e6 : a'.tmps[69]? = some (Value.bool true) := Rg.slot_get rfl rfl (hw 6 (by kernel_rfl) _ rfl)
      exact ⟨rfl, .inl ⟨wanted_none rfl, wp_val (run_pick (b := true) rfl (ev_tmp e4) (ev_tmp e6)) ⟨rfl, Below.refl _ _⟩⟩⟩
    · intro a' w' ha hs hw hold
      have e7 : a'.tmps[70]? = some (Value.bool true) := Rg.slot_get rfl rfl (hw 7 (by kernel_rfl) _ rfl)
      exact ⟨rfl, .inl ⟨wanted_none rfl, wp_val (run_move rfl (ev_tmp e7)) ⟨rfl, Below.refl _ _⟩⟩⟩
    · intro a' w' ha hs hw hold
      have e8 : a'.tmps[71]? = some (Value.bool true) := Rg.slot_get rfl rfl (hw 8 (by kernel_rfl) _ rfl)
      have eo1 : a'.tmps[1]? = some (Value.int IntKind.u64 11) := (ha.rest 1 (by kernel_rfl)).trans rfl
      exact ⟨rfl, .inl ⟨wanted_some rfl rfl rfl e8, wp_val (run_move rfl (ev_tmp eo1)) ⟨rfl, Below.refl _ _⟩⟩⟩
    · intro a' w' ha hs hw hold
      have e8 : a'.tmps[71]? = some (Value.bool true) := Rg.slot_get rfl rfl (hw 8 (by kernel_rfl) _ rfl)
      have e9 : a'.tmps[72]? = some (Value.int IntKind.u64 11) := Rg.slot_get rfl rfl (hw 9 (by kernel_rfl) _ rfl)
      exact ⟨rfl, .inl ⟨wanted_some rfl rfl rfl e8, wp_val (show _ = _ from (run_eql_int rfl (ev_tmp e9) rfl).trans (by rfl)) ⟨rfl, Below.refl _ _⟩⟩⟩
    · intro a' w' ha hs hw hold
      have e8 : a'.tmps[71]? = some (Value.bool true) := Rg.slot_get rfl rfl (hw 8 (by kernel_rfl) _ rfl)
      have e10 : a'.tmps[73]? = some (Value.bool true) := Rg.slot_get rfl rfl (hw 10 (by kernel_rfl) _ rfl)
      exact ⟨rfl, .inl ⟨wanted_none rfl, wp_val (run_pick (b := true) rfl (ev_tmp e8) (ev_tmp e10)) ⟨rfl, Below.refl _ _⟩⟩⟩
    · intro a' w' ha hs hw hold
      have e11 : a'.tmps[74]? = some (Value.bool true) := Rg.slot_get rfl rfl (hw 11 (by kernel_rfl) _ rfl)
      exact ⟨rfl, .inl ⟨wanted_none rfl, wp_val (run_move rfl (ev_tmp e11)) ⟨rfl, Below.refl _ _⟩⟩⟩
    · intro a' w' ha hs hw hold
      have e12 : a'.tmps[75]? = some (Value.bool true) := Rg.slot_get rfl rfl (hw 12 (by kernel_rfl) _ rfl)
      have eo3 : a'.tmps[3]? = some (Value.int IntKind.u64 5) := (ha.rest 3 (by kernel_rfl)).trans rfl
      exact ⟨rfl, .inl ⟨wanted_some rfl rfl rfl e12, wp_val (run_move rfl (ev_tmp eo3)) ⟨rfl, Below.refl _ _⟩⟩⟩
    · intro a' w' ha hs hw hold
      have e12 : a'.tmps[75]? = some (Value.bool true) := Rg.slot_get rfl rfl (hw 12 (by kernel_rfl) _ rfl)
      have e13 : a'.tmps[76]? = some (Value.int IntKind.u64 5) := Rg.slot_get rfl rfl (hw 13 (by kernel_rfl) _ rfl)
      exact ⟨rfl, .inl ⟨wanted_some rfl rfl rfl e12, wp_val (show _ = _ from (run_eql_int rfl (ev_tmp e13) rfl).trans (by rfl)) ⟨rfl, Below.refl _ _⟩⟩⟩
    · intro a' w' ha hs hw hold
      have e12 : a'.tmps[75]? = some (Value.bool true) := Rg.slot_get rfl rfl (hw 12 (by kernel_rfl) _ rfl)
      have e14 : a'.tmps[77]? = some (Value.bool true) := Rg.slot_get rfl rfl (hw 14 (by kernel_rfl) _ rfl)
      exact ⟨rfl, .inl ⟨wanted_none rfl, wp_val (run_pick (b := true) rfl (ev_tmp e12) (ev_tmp e14)) ⟨rfl, Below.refl _ _⟩⟩⟩
    · intro a' w' ha hs hw hold
      have e15 : a'.tmps[78]? = some (Value.bool true) := Rg.slot_get rfl rfl (hw 15 (by kernel_rfl) _ rfl)
      exact ⟨rfl, .inl ⟨wanted_none rfl, wp_val (run_move rfl (ev_tmp e15)) ⟨rfl, Below.refl _ _⟩⟩⟩
    · intro a' w' ha hs hw hold
      have e16 : a'.tmps[79]? = some (Value.bool true) := Rg.slot_get rfl rfl (hw 16 (by kernel_rfl) _ rfl)
      have eo5 : a'.tmps[5]? = some (Value.int IntKind.u64 4) := (ha.rest 5 (by kernel_rfl)).trans rfl
      exact ⟨rfl, .inl ⟨wanted_some rfl rfl rfl e16, wp_val (run_move rfl (ev_tmp eo5)) ⟨rfl, Below.refl _ _⟩⟩⟩
    · intro a' w' ha hs hw hold
      have e16 : a'.tmps[79]? = some (Value.bool true) := Rg.slot_get rfl rfl (hw 16 (by kernel_rfl) _ rfl)
      have e17 : a'.tmps[80]? = some (Value.int IntKind.u64 4) := Rg.slot_get rfl rfl (hw 17 (by kernel_rfl) _ rfl)
      exact ⟨rfl, .inl ⟨wanted_some rfl rfl rfl e16, wp_val (show _ = _ from (run_eql_int rfl (ev_tmp e17) rfl).trans (by rfl)) ⟨rfl, Below.refl _ _⟩⟩⟩
    · intro a' w' ha hs hw hold
      have e16 : a'.tmps[79]? = some (Value.bool true) := Rg.slot_get rfl rfl (hw 16 (by kernel_rfl) _ rfl)
      have e18 : a'.tmps[81]? = some (Value.bool true) := Rg.slot_get rfl rfl (hw 18 (by kernel_rfl) _ rfl)
      exact ⟨rfl, .inl ⟨wanted_none rfl, wp_val (run_pick (b := true) rfl (ev_tmp e16) (ev_tmp e18)) ⟨rfl, Below.refl _ _⟩⟩⟩
    · intro a' w' ha hs hw hold
      have e19 : a'.tmps[82]? = some (Value.bool true) := Rg.slot_get rfl rfl (hw 19 (by kernel_rfl) _ rfl)
      exact ⟨rfl, .inl ⟨wanted_none rfl, wp_val (run_move rfl (ev_tmp e19)) ⟨rfl, Below.refl _ _⟩⟩⟩
    · intro a' w' ha hs hw hold
      have e20 : a'.tmps[83]? = some (Value.bool true) := Rg.slot_get rfl rfl (hw 20 (by kernel_rfl) _ rfl)
      have eo7 : a'.tmps[7]? = some (ptr gu) := (ha.rest 7 (by kernel_rfl)).trans rfl
      exact ⟨rfl, .inl ⟨wanted_some rfl rfl rfl e20, wp_val (run_pload rfl (ev_tmp eo7) (BXu.out.bel hs (by simp))) ⟨rfl, Below.refl _ _⟩⟩⟩
    · intro a' w' ha hs hw hold
      have e20 : a'.tmps[83]? = some (Value.bool true) := Rg.slot_get rfl rfl (hw 20 (by kernel_rfl) _ rfl)
      exact ⟨rfl, wanted_some rfl rfl rfl e20, call_step rfl Try.func64 (by kernel_rfl) rfl (map_one rfl) (rof_z 8 k8 _ (by omega) (by omega) hk8.out) (fun e w2 he => by obtain ⟨v, rfl, hv, hb⟩ := he; exact ⟨v, rfl, v, rfl, hv, hb⟩)⟩
    · intro a' w' ha hs hw hold
      have e20 : a'.tmps[83]? = some (Value.bool true) := Rg.slot_get rfl rfl (hw 20 (by kernel_rfl) _ rfl)
      have e21 : a'.tmps[84]? = some (.agg #[.bool su, .slice Xu pu qu]) := Rg.slot_get rfl rfl (hw 21 (by kernel_rfl) _ rfl)
      obtain ⟨v22, e22, q22⟩ := hw 22 (by kernel_rfl) _ rfl
      replace e22 : a'.tmps[85]? = some v22 := Rg.slot_get rfl rfl e22
      exact ⟨rfl, .inl ⟨wanted_some rfl rfl rfl e20, call_step rfl Try.func66 (by kernel_rfl) rfl (map_two (ev_tmp e21) (ev_tmp e22)) (esame_true _ _ k8 k8 _ (IVu.out.kn hs.kn) q22 (szc hk8.out (by omega) (by omega) (by omega)) rfl) (fun e w2 he => by obtain ⟨rfl, hb⟩ := he; exact ⟨_, rfl, rfl, hb⟩)⟩⟩
    · intro a' w' ha hs hw hold
      have e20 : a'.tmps[83]? = some (Value.bool true) := Rg.slot_get rfl rfl (hw 20 (by kernel_rfl) _ rfl)
      have e23 : a'.tmps[86]? = some (Value.bool true) := Rg.slot_get rfl rfl (hw 23 (by kernel_rfl) _ rfl)
      exact ⟨rfl, .inl ⟨wanted_none rfl, wp_val (run_pick (b := true) rfl (ev_tmp e20) (ev_tmp e23)) ⟨rfl, Below.refl _ _⟩⟩⟩
    · intro a' w' ha hs hw hold
      have e24 : a'.tmps[87]? = some (Value.bool true) := Rg.slot_get rfl rfl (hw 24 (by kernel_rfl) _ rfl)
      exact ⟨rfl, .inl ⟨wanted_none rfl, wp_val (run_move rfl (ev_tmp e24)) ⟨rfl, Below.refl _ _⟩⟩⟩
    · intro a' w' ha hs hw hold
      have e25 : a'.tmps[88]? = some (Value.bool true) := Rg.slot_get rfl rfl (hw 25 (by kernel_rfl) _ rfl)
      have eo8 : a'.tmps[8]? = some (ptr gm) := (ha.rest 8 (by kernel_rfl)).trans rfl
      exact ⟨rfl, .inl ⟨wanted_some rfl rfl rfl e25, wp_val (run_pload rfl (ev_tmp eo8) (BXm.out.bel hs (by simp))) ⟨rfl, Below.refl _ _⟩⟩⟩
    · intro a' w' ha hs hw hold
      have e25 : a'.tmps[88]? = some (Value.bool true) := Rg.slot_get rfl rfl (hw 25 (by kernel_rfl) _ rfl)
      exact ⟨rfl, wanted_some rfl rfl rfl e25, call_step rfl Try.func64 (by kernel_rfl) rfl (map_one rfl) (rof_z 15 k15 _ (by omega) (by omega) hk15.out) (fun e w2 he => by obtain ⟨v, rfl, hv, hb⟩ := he; exact ⟨v, rfl, v, rfl, hv, hb⟩)⟩
    · intro a' w' ha hs hw hold
      have e25 : a'.tmps[88]? = some (Value.bool true) := Rg.slot_get rfl rfl (hw 25 (by kernel_rfl) _ rfl)
      have e26 : a'.tmps[89]? = some (.agg #[.bool sm, .slice Xm pm qm]) := Rg.slot_get rfl rfl (hw 26 (by kernel_rfl) _ rfl)
      obtain ⟨v27, e27, q27⟩ := hw 27 (by kernel_rfl) _ rfl
      replace e27 : a'.tmps[90]? = some v27 := Rg.slot_get rfl rfl e27
      exact ⟨rfl, .inl ⟨wanted_some rfl rfl rfl e25, call_step rfl Try.func66 (by kernel_rfl) rfl (map_two (ev_tmp e26) (ev_tmp e27)) (esame_true _ _ k15 k15 _ (IVm.out.kn hs.kn) q27 (szc hk15.out (by omega) (by omega) (by omega)) rfl) (fun e w2 he => by obtain ⟨rfl, hb⟩ := he; exact ⟨_, rfl, rfl, hb⟩)⟩⟩
    · intro a' w' ha hs hw hold
      have e25 : a'.tmps[88]? = some (Value.bool true) := Rg.slot_get rfl rfl (hw 25 (by kernel_rfl) _ rfl)
      have e28 : a'.tmps[91]? = some (Value.bool true) := Rg.slot_get rfl rfl (hw 28 (by kernel_rfl) _ rfl)
      exact ⟨rfl, .inl ⟨wanted_none rfl, wp_val (run_pick (b := true) rfl (ev_tmp e25) (ev_tmp e28)) ⟨rfl, Below.refl _ _⟩⟩⟩
    · intro a' w' ha hs hw hold
      have e29 : a'.tmps[92]? = some (Value.bool true) := Rg.slot_get rfl rfl (hw 29 (by kernel_rfl) _ rfl)
      exact ⟨rfl, .inl ⟨wanted_none rfl, wp_val (run_move rfl (ev_tmp e29)) ⟨rfl, Below.refl _ _⟩⟩⟩
    · intro a' w' ha hs hw hold
      have e30 : a'.tmps[93]? = some (Value.bool true) := Rg.slot_get rfl rfl (hw 30 (by kernel_rfl) _ rfl)
      have eo11 : a'.tmps[11]? = some (Value.bool true) := (ha.rest 11 (by kernel_rfl)).trans rfl
      exact ⟨rfl, .inl ⟨wanted_some rfl rfl rfl e30, wp_val (run_move rfl (ev_tmp eo11)) ⟨rfl, Below.refl _ _⟩⟩⟩
    · intro a' w' ha hs hw hold
      have e30 : a'.tmps[93]? = some (Value.bool true) := Rg.slot_get rfl rfl (hw 30 (by kernel_rfl) _ rfl)
      have e31 : a'.tmps[94]? = some (Value.bool true) := Rg.slot_get rfl rfl (hw 31 (by kernel_rfl) _ rfl)
      exact ⟨rfl, .inl ⟨wanted_none rfl, wp_val (run_pick (b := true) rfl (ev_tmp e30) (ev_tmp e31)) ⟨rfl, Below.refl _ _⟩⟩⟩
    · intro a' w' ha hs hw hold
      have e32 : a'.tmps[95]? = some (Value.bool true) := Rg.slot_get rfl rfl (hw 32 (by kernel_rfl) _ rfl)
      exact ⟨rfl, .inl ⟨wanted_none rfl, wp_val (run_move rfl (ev_tmp e32)) ⟨rfl, Below.refl _ _⟩⟩⟩
    · intro a' w' ha hs hw hold
      have e33 : a'.tmps[96]? = some (Value.bool true) := Rg.slot_get rfl rfl (hw 33 (by kernel_rfl) _ rfl)
      have eo10 : a'.tmps[10]? = some (ptr gx) := (ha.rest 10 (by kernel_rfl)).trans rfl
      exact ⟨rfl, .inl ⟨wanted_some rfl rfl rfl e33, wp_val (run_qfield0 rfl (ev_tmp eo10)) ⟨rfl, Below.refl _ _⟩⟩⟩
    · intro a' w' ha hs hw hold
      have e33 : a'.tmps[96]? = some (Value.bool true) := Rg.slot_get rfl rfl (hw 33 (by kernel_rfl) _ rfl)
      have e34 : a'.tmps[97]? = some (.pointer (some ⟨gx, 0, none⟩)) := Rg.slot_get rfl rfl (hw 34 (by kernel_rfl) _ rfl)
      exact ⟨rfl, .inl ⟨wanted_some rfl rfl rfl e33, wp_val (run_qload0 rfl (ev_tmp e34) (QXx.out.bel hs (by simp))) ⟨rfl, Below.refl _ _⟩⟩⟩
    · intro a' w' ha hs hw hold
      have e33 : a'.tmps[96]? = some (Value.bool true) := Rg.slot_get rfl rfl (hw 33 (by kernel_rfl) _ rfl)
      exact ⟨rfl, wanted_some rfl rfl rfl e33, call_step rfl Try.func64 (by kernel_rfl) rfl (map_one rfl) (rof_z 1 k1 _ (by omega) (by omega) hk1.out) (fun e w2 he => by obtain ⟨v, rfl, hv, hb⟩ := he; exact ⟨v, rfl, v, rfl, hv, hb⟩)⟩
    · intro a' w' ha hs hw hold
      have e33 : a'.tmps[96]? = some (Value.bool true) := Rg.slot_get rfl rfl (hw 33 (by kernel_rfl) _ rfl)
      have e35 : a'.tmps[98]? = some (.agg #[.bool sxn, .slice Xxn pxn qxn]) := Rg.slot_get rfl rfl (hw 35 (by kernel_rfl) _ rfl)
      obtain ⟨v36, e36, q36⟩ := hw 36 (by kernel_rfl) _ rfl
      replace e36 : a'.tmps[99]? = some v36 := Rg.slot_get rfl rfl e36
      exact ⟨rfl, .inl ⟨wanted_some rfl rfl rfl e33, call_step rfl Try.func66 (by kernel_rfl) rfl (map_two (ev_tmp e35) (ev_tmp e36)) (esame_true _ _ k1 k1 _ (IVnx.out.kn hs.kn) q36 (szc hk1.out (by omega) (by omega) (by omega)) rfl) (fun e w2 he => by obtain ⟨rfl, hb⟩ := he; exact ⟨_, rfl, rfl, hb⟩)⟩⟩
    · intro a' w' ha hs hw hold
      have e33 : a'.tmps[96]? = some (Value.bool true) := Rg.slot_get rfl rfl (hw 33 (by kernel_rfl) _ rfl)
      have e37 : a'.tmps[100]? = some (Value.bool true) := Rg.slot_get rfl rfl (hw 37 (by kernel_rfl) _ rfl)
      exact ⟨rfl, .inl ⟨wanted_none rfl, wp_val (run_pick (b := true) rfl (ev_tmp e33) (ev_tmp e37)) ⟨rfl, Below.refl _ _⟩⟩⟩
    · intro a' w' ha hs hw hold
      have e38 : a'.tmps[101]? = some (Value.bool true) := Rg.slot_get rfl rfl (hw 38 (by kernel_rfl) _ rfl)
      exact ⟨rfl, .inl ⟨wanted_none rfl, wp_val (run_move rfl (ev_tmp e38)) ⟨rfl, Below.refl _ _⟩⟩⟩
    · intro a' w' ha hs hw hold
      have e39 : a'.tmps[102]? = some (Value.bool true) := Rg.slot_get rfl rfl (hw 39 (by kernel_rfl) _ rfl)
      have eo10 : a'.tmps[10]? = some (ptr gx) := (ha.rest 10 (by kernel_rfl)).trans rfl
      exact ⟨rfl, .inl ⟨wanted_some rfl rfl rfl e39, wp_val (run_qfield1 rfl (ev_tmp eo10)) ⟨rfl, Below.refl _ _⟩⟩⟩
    · intro a' w' ha hs hw hold
      have e39 : a'.tmps[102]? = some (Value.bool true) := Rg.slot_get rfl rfl (hw 39 (by kernel_rfl) _ rfl)
      have e40 : a'.tmps[103]? = some (.pointer (some ⟨gx, 2, none⟩)) := Rg.slot_get rfl rfl (hw 40 (by kernel_rfl) _ rfl)
      exact ⟨rfl, .inl ⟨wanted_some rfl rfl rfl e39, wp_val (run_qload1 rfl (ev_tmp e40) (QXx.out.bel hs (by simp))) ⟨rfl, Below.refl _ _⟩⟩⟩
    · intro a' w' ha hs hw hold
      have e39 : a'.tmps[102]? = some (Value.bool true) := Rg.slot_get rfl rfl (hw 39 (by kernel_rfl) _ rfl)
      exact ⟨rfl, wanted_some rfl rfl rfl e39, call_step rfl Try.func64 (by kernel_rfl) rfl (map_one rfl) (rof_z 2 k2 _ (by omega) (by omega) hk2.out) (fun e w2 he => by obtain ⟨v, rfl, hv, hb⟩ := he; exact ⟨v, rfl, v, rfl, hv, hb⟩)⟩
    · intro a' w' ha hs hw hold
      have e39 : a'.tmps[102]? = some (Value.bool true) := Rg.slot_get rfl rfl (hw 39 (by kernel_rfl) _ rfl)
      have e41 : a'.tmps[104]? = some (.agg #[.bool sxd, .slice Xxd pxd qxd]) := Rg.slot_get rfl rfl (hw 41 (by kernel_rfl) _ rfl)
      obtain ⟨v42, e42, q42⟩ := hw 42 (by kernel_rfl) _ rfl
      replace e42 : a'.tmps[105]? = some v42 := Rg.slot_get rfl rfl e42
      exact ⟨rfl, .inl ⟨wanted_some rfl rfl rfl e39, call_step rfl Try.func66 (by kernel_rfl) rfl (map_two (ev_tmp e41) (ev_tmp e42)) (esame_true _ _ k2 k2 _ (IVdx.out.kn hs.kn) q42 (szc hk2.out (by omega) (by omega) (by omega)) rfl) (fun e w2 he => by obtain ⟨rfl, hb⟩ := he; exact ⟨_, rfl, rfl, hb⟩)⟩⟩
    · intro a' w' ha hs hw hold
      have e39 : a'.tmps[102]? = some (Value.bool true) := Rg.slot_get rfl rfl (hw 39 (by kernel_rfl) _ rfl)
      have e43 : a'.tmps[106]? = some (Value.bool true) := Rg.slot_get rfl rfl (hw 43 (by kernel_rfl) _ rfl)
      exact ⟨rfl, .inl ⟨wanted_none rfl, wp_val (run_pick (b := true) rfl (ev_tmp e39) (ev_tmp e43)) ⟨rfl, Below.refl _ _⟩⟩⟩
    · intro a' w' ha hs hw hold
      have e44 : a'.tmps[107]? = some (Value.bool true) := Rg.slot_get rfl rfl (hw 44 (by kernel_rfl) _ rfl)
      exact ⟨rfl, .inl ⟨wanted_none rfl, wp_val (run_move rfl (ev_tmp e44)) ⟨rfl, Below.refl _ _⟩⟩⟩
    · intro a' w' ha hs hw hold
      have e45 : a'.tmps[108]? = some (Value.bool true) := Rg.slot_get rfl rfl (hw 45 (by kernel_rfl) _ rfl)
      have eo13 : a'.tmps[13]? = some (Value.bool false) := (ha.rest 13 (by kernel_rfl)).trans rfl
      exact ⟨rfl, .inl ⟨wanted_some rfl rfl rfl e45, wp_val (run_move rfl (ev_tmp eo13)) ⟨rfl, Below.refl _ _⟩⟩⟩
    · intro a' w' ha hs hw hold
      have e45 : a'.tmps[108]? = some (Value.bool true) := Rg.slot_get rfl rfl (hw 45 (by kernel_rfl) _ rfl)
      have e46 : a'.tmps[109]? = some (Value.bool false) := Rg.slot_get rfl rfl (hw 46 (by kernel_rfl) _ rfl)
      exact ⟨rfl, .inl ⟨wanted_some rfl rfl rfl e45, wp_val (run_not rfl (ev_tmp e46)) ⟨rfl, Below.refl _ _⟩⟩⟩
    · intro a' w' ha hs hw hold
      have e45 : a'.tmps[108]? = some (Value.bool true) := Rg.slot_get rfl rfl (hw 45 (by kernel_rfl) _ rfl)
      have e47 : a'.tmps[110]? = some (Value.bool true) := Rg.slot_get rfl rfl (hw 47 (by kernel_rfl) _ rfl)
      exact ⟨rfl, .inl ⟨wanted_none rfl, wp_val (run_pick (b := true) rfl (ev_tmp e45) (ev_tmp e47)) ⟨rfl, Below.refl _ _⟩⟩⟩
    · intro a' w' ha hs hw hold
      have e48 : a'.tmps[111]? = some (Value.bool true) := Rg.slot_get rfl rfl (hw 48 (by kernel_rfl) _ rfl)
      exact ⟨rfl, .inl ⟨wanted_none rfl, wp_val (run_move rfl (ev_tmp e48)) ⟨rfl, Below.refl _ _⟩⟩⟩
    · intro a' w' ha hs hw hold
      have e49 : a'.tmps[112]? = some (Value.bool true) := Rg.slot_get rfl rfl (hw 49 (by kernel_rfl) _ rfl)
      exact ⟨rfl, .inl ⟨wanted_some rfl rfl rfl e49, call_step rfl Try.func57 (by kernel_rfl) rfl (map_three rfl rfl rfl) (pow_ex _) (fun e w2 he => by obtain ⟨rfl, hb⟩ := he; exact ⟨_, rfl, rfl, hb⟩)⟩⟩
    · intro a' w' ha hs hw hold
      have e49 : a'.tmps[112]? = some (Value.bool true) := Rg.slot_get rfl rfl (hw 49 (by kernel_rfl) _ rfl)
      have e50 : a'.tmps[113]? = some (Value.int IntKind.u64 24) := Rg.slot_get rfl rfl (hw 50 (by kernel_rfl) _ rfl)
      exact ⟨rfl, .inl ⟨wanted_some rfl rfl rfl e49, wp_val (show _ = _ from (run_eql_int rfl (ev_tmp e50) rfl).trans (by rfl)) ⟨rfl, Below.refl _ _⟩⟩⟩
    · intro a' w' ha hs hw hold
      have e49 : a'.tmps[112]? = some (Value.bool true) := Rg.slot_get rfl rfl (hw 49 (by kernel_rfl) _ rfl)
      have e51 : a'.tmps[114]? = some (Value.bool true) := Rg.slot_get rfl rfl (hw 51 (by kernel_rfl) _ rfl)
      exact ⟨rfl, .inl ⟨wanted_none rfl, wp_val (run_pick (b := true) rfl (ev_tmp e49) (ev_tmp e51)) ⟨rfl, Below.refl _ _⟩⟩⟩
    · intro a' w' ha hs hw hold
      have e52 : a'.tmps[115]? = some (Value.bool true) := Rg.slot_get rfl rfl (hw 52 (by kernel_rfl) _ rfl)
      exact ⟨rfl, .inl ⟨wanted_none rfl, wp_val (run_assign rfl (ev_tmp e52)) ⟨rfl, Below.refl _ _⟩⟩⟩
  simp only [Rg.allG]
  intro r4x22 _
  intro r4x27 _
  intro r4x36 _
  intro r4x42 _
  simp only [setOpt, Rg.setOpt, List.set_cons_succ, List.set_cons_zero]
  refine hK _ _ ?_
  clear hK K
  replace hs := hs.below
  replace BXu := nxb BXu hs rfl; replace IVu := nxv IVu hs rfl
  replace BXm := nxb BXm hs rfl; replace IVm := nxv IVm hs rfl
  replace QXx := nxq QXx hs rfl; replace IVnx := nxv IVnx hs rfl; replace IVdx := nxv IVdx hs rfl
  replace QXy := nxq QXy hs rfl; replace IVny := nxv IVny hs rfl; replace IVdy := nxv IVdy hs rfl
  replace DW := nxd DW hg hs rfl rfl rfl rfl
  clear hs
  go_wp2
  go_ret
  exact ⟨rfl, by rw [hg.out]; exact DW.out⟩
end Go.Proofs.Ytfigimfdojbkeaa
