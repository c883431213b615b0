/-
  Layer 3: contract of residue.
-/
import Derived.RangeFuncFrom
import Derived.Test.YtfigimfdojbkeaaModR
set_option linter.unusedSimpArgs false
set_option linter.unusedVariables false
namespace Go.Proofs.Ytfigimfdojbkeaa
open Go.RowKit Go.Shelf
attribute [local go_sem] Oper.semAt_some

set_option maxHeartbeats 1000000 in
theorem back_in (F : Fence) (n : Nat) (h : F.fn 157) (hro : F.round = none) (A : Option Addr) (len cap : Nat) (w : World) :
    CallsIn F n Try.prog 157 #[.slice A len cap] w fun e w' => e = .returned (.func (.func 170) #[] #[.pointer (some ⟨w.heap.size, 0, none⟩)]) ∧ w' = w.alloc (.cells #[.slice A len cap] 22) := by
  refine callsIn_of_wp Try.func157 rfl h ?_ hro
  simp only [Try.ntmps157, List.size_toArray, List.length_cons, List.length_nil, Nat.reduceAdd, Nat.reduceSub, Array.replicate_succ, Array.replicate_zero, List.push_toArray, List.append_toArray, List.nil_append, List.cons_append]
  gi_wp2
  go_ret
  exact ⟨rfl, rfl⟩

theorem kpb_t {n₀ Bs : Nat} {A B C : World} (h : Kpb n₀ Bs A B) (k : Kpb n₀ Bs B C) : Kpb n₀ Bs A C := ⟨h.1.trans k.1, k.2.trans h.2⟩
theorem kpb_b {n₀ Bs : Nat} {w : World} (hn : n₀ ≤ w.heap.size) (hB : Bs < w.heap.size) (W : World) (l : Nat) (o o' : Obj) (hl : w.heap.size ≤ l) (h : W.heap[l]? = some o) (h1 : o.isCells = false) (h2 : o.isWalk = false) : Kpb n₀ Bs W (W.putObj l o') :=
  ⟨belowK_b hn W l o o' hl h h1 h2, (belowK_b (n₀ := Bs + 1) (by omega) W l o o' hl h h1 h2).cell (p := ⟨Bs, 0, none⟩) (by simp)⟩
theorem back_stops (F : Fence) (n : Nat) (h8 : F.fn 170) (hro : F.round = none) (hn : 1 ≤ n) (Bs len cap : Nat) (A : Option Addr) (ws : List Nat) (w0 w : World) (hws : Wd w0 A len ws) (hl : len ≤ 1000000000) (hBs : Bs < w.heap.size) (hb : Below w0.heap.size w0 w)
    (hc : w.cell? ⟨Bs, 0, none⟩ = some (.slice A len cap)) :
    SeqStopsK F n Try.prog 170 #[.pointer (some ⟨Bs, 0, none⟩)] (fun x : Nat × Nat => #[Value.int .i64 (x.1 : Int), Value.int .u32 ((x.2 % 4294967296 : Nat) : Int)]) (Kpb w0.heap.size Bs) (fun ys => ys = bks ws len)
      (fun pre => ∃ k, k ≤ len ∧ pre = bks ws k) len w := fun l J Jx W hW _ _ hY h0 =>
  back1_in F n h8 hro hn l Bs len cap A ws w0 hws hl J Jx hY W (hb.trans (hW.mono hb.size)) ((hW.cell (p := ⟨Bs, 0, none⟩) hBs).trans hc) h0

/-- The residue, word for word. -/
def rsd (p : Nat) (l : List (Nat × Nat)) : Nat := l.foldl (fun r x => (x.2 % 4294967296 + 4294967296 * r) % p) 0
theorem rsd_snoc (p : Nat) (l : List (Nat × Nat)) (x : Nat × Nat) : rsd p (l ++ [x]) = (x.2 % 4294967296 + 4294967296 * rsd p l) % p := by simp [rsd]
theorem rsd_lt {p : Nat} (hp : 0 < p) (l : List (Nat × Nat)) : rsd p l < p := by
  rcases List.eq_nil_or_concat l with rfl | ⟨l', x, rfl⟩
  · exact hp
  · rw [List.concat_eq_append, rsd_snoc]; exact Nat.mod_lt _ hp
theorem rsd_bks (p : Nat) (ws : List Nat) (hw : Wds ws) : ∀ k, k ≤ ws.length → rsd p (bks ws k) % p = val (ws.drop (ws.length - k)) % p
  | 0, _ => by simp [bks, rsd, val]
  | k + 1, h => by
    have ih := rsd_bks p ws hw k (by omega)
    rw [bks_succ, rsd_snoc, Nat.mod_mod, Nat.mod_eq_of_lt (hw.getD (ws.length - 1 - k))]
    have hd : ws.drop (ws.length - (k + 1)) = gd ws (ws.length - 1 - k) :: ws.drop (ws.length - k) := by
      have e1 : ws.length - (k + 1) = ws.length - 1 - k := by omega
      rw [e1, List.drop_eq_getElem_cons (show ws.length - 1 - k < ws.length by omega), gd_eq, List.getElem?_eq_getElem (by omega), show ws.length - 1 - k + 1 = ws.length - k by omega]
      rfl
    rw [hd, val, Nat.add_mod, Nat.mul_mod, ih, ← Nat.mul_mod, ← Nat.add_mod]

theorem res_pos {z : Int} {p R : Nat} (hz : ¬ z < 0) (h : (z % (p : Int)).toNat = R) : z.natAbs % p = R := by
  obtain ⟨x, rfl⟩ : ∃ x : Nat, z = (x : Int) := ⟨z.toNat, by omega⟩
  rw [← h, ← Int.natCast_emod, Int.natAbs_natCast, Int.toNat_natCast]
theorem res_neg {z : Int} {p R : Nat} (hp : 0 < p) (hz : z < 0) (h : (z % (p : Int)).toNat = R) : (p - z.natAbs % p) % p = R := by
  obtain ⟨x, rfl⟩ : ∃ x : Nat, z = -(x : Int) := ⟨z.natAbs, by omega⟩
  rw [← h, Int.natAbs_neg, Int.natAbs_natCast]
  have h1 := Nat.mod_lt x hp
  have e : -(x : Int) % (p : Int) = (((p - x % p) % p : Nat) : Int) := by
    rw [Int.natCast_emod, Int.natCast_sub (Nat.le_of_lt h1), Int.natCast_emod]
    have e1 := Int.emod_add_mul_ediv (x : Int) (p : Int)
    have e2 : (p : Int) - (x : Int) % (p : Int) = -(x : Int) + (p : Int) * (1 + (x : Int) / (p : Int)) := by
      rw [Int.mul_add, Int.mul_one]; omega
    rw [e2, Int.add_mul_emod_self_left]
  rw [e, Int.toNat_natCast]

set_option maxRecDepth 100000 in
set_option maxHeartbeats 4000000 in
theorem residue_any (va : Value) (z : Int) (p : Nat) (w : World) (ha : Iv w va z) (sa : Sz z 1000) (hp0 : 0 < p) (hp : p ≤ 2147483648) : Calls Try.prog 122 #[va, .int .u64 p] w (RetV (.int .u64 ((z % (p : Int)).toNat : Nat)) w) := by
  obtain ⟨A, n, c, rfl, h1, h2, h3⟩ := ha.form
  have H3 := Lib.hid h3
  have hn : n ≤ 1000 := by rw [← h3.len]; exact sa.len
  obtain ⟨R, hR⟩ : ∃ R : Nat, (z % (p : Int)).toNat = R := ⟨_, rfl⟩
  rw [hR]
  have HR := Lib.hid hR
  generalize hs : decide (z < 0) = sz at *
  have HS := Lib.hid hs
  clear h3 ha sa hs hR
  refine (callsIn_wide (n := 5)).1 ?_
  refine callsIn_of_wp_marks Try.func122 rfl trivial ?_ rfl
  simp only [Try.ntmps122, List.size_toArray, List.length_cons, List.length_nil, Nat.reduceAdd, Nat.reduceSub, Array.replicate_succ, Array.replicate_zero, List.push_toArray, List.append_toArray, List.nil_append, List.cons_append]
  gi_wp2_with (refine ⟨trivial, ?_⟩; gi_at_call 157; refine (back_in _ 4 trivial rfl A n c _).mono ?_; rintro e w' ⟨rfl, rfl⟩)
  obtain ⟨W, hW⟩ : ∃ W, W = ((((w.alloc (Obj.cells #[Value.bool sz, Value.slice A n c] 27)).alloc (Obj.cells #[Value.int IntKind.u64 (p : Int)] 52)).alloc (Obj.cells #[Value.int IntKind.u64 0] 52)).alloc (Obj.cells #[Value.slice A n c] 22)) := ⟨_, rfl⟩
  rw [← hW]
  have DW : Below w.heap.size w W := by rw [hW]; exact ((((Below.refl _ _).alloc (Nat.le_refl _) _).alloc (by simp) _).alloc (by simp; omega) _).alloc (by simp; omega) _
  have c0 : W.cell? ⟨w.heap.size, 0, none⟩ = some (.bool sz) := by rw [hW]; simp [go_sem]
  have c1 : W.cell? ⟨w.heap.size + 1, 0, none⟩ = some (.int .u64 (p : Int)) := by rw [hW]; simp [go_sem]
  have c2 : W.cell? ⟨w.heap.size + 1 + 1, 0, none⟩ = some (.int .u64 0) := by rw [hW]; simp [go_sem]
  have c3 : W.cell? ⟨w.heap.size + 1 + 1 + 1, 0, none⟩ = some (.slice A n c) := by rw [hW]; simp [go_sem]
  have f2 : W.frozen? ⟨w.heap.size + 1 + 1, 0, none⟩ = false := by rw [hW]; simp [go_sem]
  have hsz : W.heap.size = w.heap.size + 4 := by rw [hW]; simp
  clear hW
  refine wpIn_rangeFunc_ownF rfl (show 1 ≤ 5 by omega) (gf := 170) (lb := #[.pointer (some ⟨w.heap.size + 1 + 1 + 1, 0, none⟩)]) rfl trivial (enters_of Try.func170 (by kernel_rfl) rfl)
    (back_stops Fence.wide 4 trivial rfl (by omega) (w.heap.size + 1 + 1 + 1) n c A (mag z.natAbs) w W H3.out (by omega) (by omega) DW c3) kpb_t (kpb_b (by omega) (by omega)) (Below.refl _ _) (fun _ => rfl)
    (fun pre V => (V.cell? ⟨w.heap.size, 0, none⟩ = some (.bool sz) ∧ V.cell? ⟨w.heap.size + 1, 0, none⟩ = some (.int .u64 (p : Int)) ∧ V.cell? ⟨w.heap.size + 1 + 1, 0, none⟩ = some (.int .u64 (rsd p pre : Nat)) ∧ V.frozen? ⟨w.heap.size + 1 + 1, 0, none⟩ = false) ∧ Below w.heap.size w V)
    (fun _ _ _ => False)
    (OwnFrom.and (Own.from (fun s A B row hs hg hr => ⟨cell_kept hs.1 hg hr, cell_kept hs.2.1 hg hr, cell_kept hs.2.2.1 hg hr, (frozen_kept hs.2.2.1 hg hr).trans hs.2.2.2⟩) _) (ownFrom_below (Nat.le_refl _) (by omega)))
    (fun _ _ _ _ _ hs _ _ => hs)
    ⟨⟨c0, c1, c2, f2⟩, DW⟩
    (fun x => { tmps := #[.agg #[.bool sz, .slice A n c], .int .u64 (p : Int), .pointer (some ⟨w.heap.size, 0, none⟩), .pointer (some ⟨w.heap.size + 1, 0, none⟩), .int .u64 0, .pointer (some ⟨w.heap.size + 1 + 1, 0, none⟩), undef, .int .u32 ((x.2 % 4294967296 : Nat) : Int), .pointer (some ⟨w.heap.size, 1, none⟩), .slice A n c, .func (.func 170) #[] #[.pointer (some ⟨w.heap.size + 1 + 1 + 1, 0, none⟩)], .int .i64 (x.1 : Int), .int .u32 ((x.2 % 4294967296 : Nat) : Int), undef, undef, undef, undef, undef, undef, undef, undef, undef, undef, undef, undef, undef, undef, undef], defers := [] }) ?assign ?body ?done ?stop
  case assign =>
    intro l x V K hK
    gi_wp2
    exact hK
  case body =>
    rintro l pre x V ⟨⟨e0, e1, e2, e3⟩, hB⟩ _
    have hr := rsd_lt hp0 pre
    have hx : x.2 % 4294967296 < 4294967296 := Nat.mod_lt _ (by omega)
    have hst := rsd_snoc p pre x
    have HST := Lib.hid hst
    clear hst
    generalize rsd p pre = r at *
    generalize x.2 % 4294967296 = b at *
    have hor := or_high b r hx (by omega)
    have hz2 : ¬ (p : Int) = 0 := by omega
    gi_wp2
    refine ⟨KeepsOthers.setCell _ _ _, ⟨(Below.refl _ V).setCell (p := ⟨w.heap.size + 1 + 1, 0, none⟩) (by simp; omega) _, ?_⟩, ⟨?_, ?_, ?_, ?_⟩, hB.setCell (p := ⟨w.heap.size + 1 + 1, 0, none⟩) (by simp; omega) _⟩
    · exact World.cell?_setCell_other _ _ _ _ (fun e => by have h := congrArg Addr.block e; first | (simp at h; done) | (simp at h; omega) | (dsimp only at h; omega))
    · exact (World.cell?_setCell_other _ _ _ _ (fun e => by have h := congrArg Addr.block e; first | (simp at h; done) | (simp at h; omega) | (dsimp only at h; omega))).trans e0
    · exact (World.cell?_setCell_other _ _ _ _ (fun e => by have h := congrArg Addr.block e; first | (simp at h; done) | (simp at h; omega) | (dsimp only at h; omega))).trans e1
    · rw [HST.out]
      refine (World.cell?_setCell_same' _ _ _ (by rw [e2]; rfl)).trans ?_
      simp
    · rw [World.frozen?_setCell]; exact e3
  case done =>
    rintro D ys V hD rfl ⟨⟨e0, e1, e2, e3⟩, hB⟩ hK
    have hws := H3.out
    have hlen : (mag z.natAbs).length = n := hws.len
    have hr := rsd_bks p (mag z.natAbs) hws.wds n (by omega)
    rw [Nat.mod_eq_of_lt (rsd_lt hp0 _), hlen, Nat.sub_self, List.drop_zero, val_mag] at hr
    rw [hr] at e2
    clear hws hlen hr
    have hDB : Below w.heap.size w (V.putObj D (.deferred none)) := hB.trans (belowK_b (w := W) (by omega) V D _ _ hD hK rfl rfl)
    have hrp : z.natAbs % p < p := Nat.mod_lt _ hp0
    have hz2 : ¬ (p : Int) = 0 := by omega
    cases sz
    · have hfin := Lib.hid (res_pos (p := p) (of_decide_eq_false HS.out) HR.out)
      generalize z.natAbs % p = r at *
      gi_wp2
      refine ⟨by simp, .inl ⟨_, _, rfl, run_takeDeferred hK, ?_⟩⟩
      exact ⟨_, results_tmp rfl _ _ _, by rw [← hfin.out]; rfl, hDB⟩
    · have hfin := Lib.hid (res_neg hp0 (of_decide_eq_true HS.out) HR.out)
      generalize z.natAbs % p = r at *
      have hsb : IntKind.u64.wrap ((p : Int) - (r : Int)) = ((p - r : Nat) : Int) := by rw [IntWalk.u64_in _ (by omega)]; omega
      gi_wp2
      refine ⟨by simp, .inl ⟨_, _, rfl, run_takeDeferred hK, ?_⟩⟩
      exact ⟨_, results_tmp rfl _ _ _, by rw [← hfin.out]; simp, hDB⟩
  case stop =>
    rintro D c pre V _ _ h _
    exact h.elim
end Go.Proofs.Ytfigimfdojbkeaa
