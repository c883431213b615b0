/-
  Contracts of the reference's Made and Valid.
-/
import Derived.Test.YtpklphdhigkmmaaTextB
namespace Go.Proofs.Ytpklphdhigkmmaa
open Go.RowKit
attribute [local go_sem ↓] Go.wp_at_zero Go.wp_at_succ

/-- Block g is the cell of a raw integer. -/
def RBox (w : World) (g : Nat) (b : Bool) (s : Value) : Prop := w.heap[g]? = some (.cells #[.bool b, s] 24 (0, 0))
theorem RBox.new (w : World) (b : Bool) (s : Value) : RBox (w.alloc (.cells #[.bool b, s] 24)) w.heap.size b s := heap_alloc_new w _
theorem RBox.lt {w : World} {g : Nat} {b : Bool} {s : Value} (h : RBox w g b s) : g < w.heap.size := by
  rcases Nat.lt_or_ge g w.heap.size with hlt | hge
  · exact hlt
  · unfold RBox at h; rw [Array.getElem?_eq_none hge] at h; cases h
theorem RBox.cell0 {w : World} {g : Nat} {b : Bool} {s : Value} (h : RBox w g b s) : w.cell? ⟨g, 0, none⟩ = some (.bool b) := cell_of_row w g 0 _ _ (0, 0) h
theorem RBox.cell1 {w : World} {g : Nat} {b : Bool} {s : Value} (h : RBox w g b s) : w.cell? ⟨g, 1, none⟩ = some s := cell_of_row w g 1 _ _ (0, 0) h
theorem RBox.alloc {w : World} {g : Nat} {b : Bool} {s : Value} (h : RBox w g b s) (o : Obj) : RBox (w.alloc o) g b s := (Below.heap_alloc w o g h.lt).trans h
theorem RBox.below {w w' : World} {g B : Nat} {b : Bool} {s : Value} (h : RBox w g b s) (hb : Below B w w') (hg : g < B) : RBox w' g b s := (hb.block g hg).trans h
theorem RBox.next {w w1 w' : World} {g : Nat} {b : Bool} {s : Value} (h : RBox w g b s) (hb : Below w1.heap.size w1 w') (e : w1.heap = w.heap) : RBox w' g b s := by
  have h1 : RBox w1 g b s := by unfold RBox; rw [e]; exact h
  exact h1.below hb h1.lt

theorem own_wd {w : World} {base i : Nat} {v : Value} {l : List Nat} (h : w.ownsRow base 50 1 v i (l.map cv)) (hl : Wds l) :
    ∃ A c, v = .slice A i c ∧ i ≤ c ∧ c ≤ 9223372036854775807 ∧ Wd w A i l := by
  have hlen : l.length = i := by have := h.1; simpa using this
  rcases Nat.eq_zero_or_pos i with h0 | h0
  · subst h0
    have : l = [] := List.eq_nil_of_length_eq_zero hlen
    subst this
    rcases h.2 with ⟨rfl, _⟩ | ⟨g, cap, cur, hv, hb, hg, h1, h2, _⟩
    · exact ⟨none, 0, rfl, Nat.le_refl _, by omega, Wd.nil _ _⟩
    · exact ⟨_, cap, hv, h1, by unfold maxLen at h2; omega, Wd.nil _ _⟩
  · rcases h.2 with ⟨_, e⟩ | ⟨g, cap, cur, hv, hb, hg, h1, h2, h3, h4⟩
    · omega
    · refine ⟨_, cap, hv, h1, by unfold maxLen at h2; omega, hlen, hl, fun _ => ⟨_, rfl, ?_, fun k hk => ?_⟩⟩
      · rcases Nat.lt_or_ge g w.heap.size with hlt | hge
        · exact hlt
        · rw [Array.getElem?_eq_none hge] at hg; cases hg
      · exact World.ownsRow.cells h (g := g) (by rw [hv]; rfl) k (cv (gd l k)) (by rw [List.getElem?_map, gd_eq, List.getElem?_eq_getElem (by omega)]; rfl)

theorem cv_one (l : List Nat) : ∀ u ∈ l.map cv, u.oneCell' = true := by
  intro u hu
  simp only [List.mem_map] at hu
  obtain ⟨x, _, rfl⟩ := hu
  rfl

set_option maxHeartbeats 4000000 in
set_option maxRecDepth 100000 in
theorem rmade_raw (b : Bool) (A : Option Addr) (n c most : Nat) (zm : Int) (ws : List Nat) (w : World) (h : Wd w A n ws) (hz : zm = (most : Int)) (hm : most ≤ 1000) (hn : n ≤ 9223372036854775807) :
    Calls Try.prog 14 #[.agg #[.bool b, .slice A n c], .int .i64 zm] w (RetIv (sgn b (val (ws.take most))) w) := by
  subst hz
  have H := Lib.hid h
  clear h
  obtain ⟨M, hM⟩ : ∃ M, M = min n most := ⟨_, rfl⟩
  have hMn : M ≤ n := by omega
  have hMm : M ≤ most := by omega
  have hMe : Hid (M = n ∨ M = most) := by unfold Hid; omega
  have htk : Hid (ws.take most = ws.take M) := by
    unfold Hid
    have hl := H.out.len
    rcases Nat.lt_or_ge n most with h | h
    · rw [List.take_of_length_le (by omega), List.take_of_length_le (by omega)]
    · rw [show M = most by omega]
  clear hM
  go_enter Try.func14, Try.ntmps14
  go_wp2_with fail
  obtain ⟨W, hW⟩ : ∃ W, W = ((w.alloc (Obj.cells #[Value.bool b, Value.slice A n c] 24)).alloc (Obj.cells #[Value.bool false, Value.slice none 0 0] 27)).alloc (Obj.cells #[] 50) := ⟨_, rfl⟩
  rw [← hW]
  have b0 : RBox W w.heap.size b (.slice A n c) := by rw [hW]; exact ((RBox.new w _ _).alloc _).alloc _
  have b1 : Box W (w.heap.size + 1) false (.slice none 0 0) := by rw [hW]; exact (new_at (by simp)).alloc _
  have hown : W.ownsRow (w.heap.size + 1 + 1) 50 1 (.slice (some ⟨w.heap.size + 1 + 1, 0, none⟩) 0 0) 0 [] := by
    rw [hW]
    have := World.ownsRow_lit (base := w.heap.size + 1 + 1) (e := 50) (size := 1) ((w.alloc (Obj.cells #[Value.bool b, Value.slice A n c] 24)).alloc (Obj.cells #[Value.bool false, Value.slice none 0 0] 27)) #[] 0 (by simp) (by omega) (by simp)
    simpa using this
  have hbW : Below w.heap.size w W := by rw [hW]; exact (((Below.refl _ _).alloc (Nat.le_refl _) _).alloc (by simp) _).alloc (by simp; omega) _
  have hWs : W.heap.size = w.heap.size + 3 := by rw [hW]; simp
  have HW : Hid (Wd W A n ws) := by rw [hW]; exact ((H.out.alloc _).alloc _).alloc _
  have HWS := Lib.hid hWs
  clear hW hWs
  generalize hg : w.heap.size = g at *
  have hml : most + 1 ≤ maxLen := by unfold maxLen; omega
  obtain ⟨i5, hi5, hz50, hz51, hz52⟩ := info_parts u32_info
  go_loopg [5, 6] M (fun k v5 v6 wr => ∃ i : Nat, i + k = M ∧ v6 = .int .i64 i ∧ wr.ownsRow (g + 1 + 1) 50 1 v5 i ((ws.take i).map cv) ∧ Below (g + 1 + 1) W wr ∧ W.heap.size ≤ wr.heap.size)
  case atStart => exact ⟨0, by omega, rfl, by simpa using hown, Below.refl _ _, Nat.le_refl _⟩
  case round =>
    obtain ⟨i, hik, rfl, ho, hbl, hsz⟩ := hrel
    have B0 := Lib.hid (b0.below hbl (by omega))
    have B1 := Lib.hid (b1.below hbl (by omega))
    have HO := Lib.hid ho
    have HBL := Lib.hid hbl
    have c0 := B0.out.cell0
    have c1 := B0.out.cell1
    clear ho hbl
    have HA : Hid (Wd wr A n ws) := H.out.below (by rw [hg]; exact hbW.trans (HBL.out.mono (by omega)))
    by_cases hk : gk = 0
    · obtain ⟨Av, cv', hv5, q1, q2, q3⟩ := own_wd HO.out (HW.out.wds.take i)
      subst hv5
      have Q3 := Lib.hid q3
      have hiM : Hid (i = M) := by unfold Hid; omega
      clear q3
      by_cases hin : i < n
      · have him : decide (i < most) = false := by
          have := hMe.out
          have := hiM.out
          simp; omega
        have hin2 : (i : Int) < (n : Int) := by omega
        go_wp2_with fail
        refine (made_any b Av i cv' (ws.take i) _ Q3.out (by omega) q1 q2).mono ?_
        rintro e w2 ⟨v2, rfl, hv2, hbl2⟩
        have ez : sgn b (val (ws.take i)) = sgn b (val (ws.take most)) := by rw [htk.out, ← hiM.out]
        rw [ez] at hv2
        obtain ⟨A2, n2, c2, rfl, _, _, _⟩ := hv2.form
        have HV := Lib.hid hv2
        have hbx2 := Lib.hid (B1.out.next hbl2 rfl)
        have k0 := hbx2.out.cell0
        have k1 := hbx2.out.cell1
        have k2 := hbx2.out.frozen 0
        have k3 := hbx2.out.frozen 1
        have hbl02 : Below g w w2 := by
          have e1 := hbW.trans (HBL.out.mono (by omega))
          exact e1.trans (hbl2.mono (by have := e1.size; omega))
        clear hv2 ez
        generalize sgn b (val (ws.take most)) = z at *
        generalize hdz : decide (z < 0) = dz at *
        go_wp2
        refine bodyPost_ret (v := .agg #[.bool dz, .slice A2 n2 c2]) (by simp [results, Try.results14, go_sem, k0, k1]) rfl ⟨_, rfl, ?_, ?_⟩
        · rw [← hdz]
          rw [← hdz] at HV
          exact iv_keep HV.out hbx2.out _
        · rw [hg]
          exact (hbl02.setCell (by simp) _).setCell (by simp) _
      · have hin2 : decide ((i : Int) < (n : Int)) = false := by simp; omega
        go_wp2_with fail
        refine (made_any b Av i cv' (ws.take i) _ Q3.out (by omega) q1 q2).mono ?_
        rintro e w2 ⟨v2, rfl, hv2, hbl2⟩
        have ez : sgn b (val (ws.take i)) = sgn b (val (ws.take most)) := by rw [htk.out, ← hiM.out]
        rw [ez] at hv2
        obtain ⟨A2, n2, c2, rfl, _, _, _⟩ := hv2.form
        have HV := Lib.hid hv2
        have hbx2 := Lib.hid (B1.out.next hbl2 rfl)
        have k0 := hbx2.out.cell0
        have k1 := hbx2.out.cell1
        have k2 := hbx2.out.frozen 0
        have k3 := hbx2.out.frozen 1
        have hbl02 : Below g w w2 := by
          have e1 := hbW.trans (HBL.out.mono (by omega))
          exact e1.trans (hbl2.mono (by have := e1.size; omega))
        clear hv2 ez
        generalize sgn b (val (ws.take most)) = z at *
        generalize hdz : decide (z < 0) = dz at *
        go_wp2
        refine bodyPost_ret (v := .agg #[.bool dz, .slice A2 n2 c2]) (by simp [results, Try.results14, go_sem, k0, k1]) rfl ⟨_, rfl, ?_, ?_⟩
        · rw [← hdz]
          rw [← hdz] at HV
          exact iv_keep HV.out hbx2.out _
        · rw [hg]
          exact (hbl02.setCell (by simp) _).setCell (by simp) _
    · have hin : i < n := by omega
      have him : i < most := by omega
      obtain ⟨bb, oo, rfl, hlt0, hcs⟩ := HA.out.cells (show 0 < n by omega)
      have hcell := hcs i hin
      clear hcs
      have hgs := HWS.out
      go_wp2_with (first
        | (at_builtin; refine wpList_append_lies _ rfl (.tmp 20) (.tmp 26) 22 rfl (g + 1 + 1) 50 i5 (.int .u32 0) 1 4 Try.underlying22 hi5 hz50 hz51 hz52 rfl (by omega) _ i ((ws.take i).map cv) rfl (HO.out.alloc _) ⟨wr.heap.size, 0, none⟩ 1 1 ([gd ws i].map cv) rfl rfl (fun k u hu => World.news_of_block (heap_alloc_new wr _) k u (by simpa [cv] using hu)) (cv_one _) (by omega) (by omega) (by omega) (by simp; omega) (wr.heap.size + 1) (by simp) ?_; intro g5 cap5 w5 hown5 hgrow5 hat5 hlt5))
      go_roundg (gk - 1)
      case measure => omega
      case rel =>
        have e1 : (ws.take i).map cv ++ [gd ws i].map cv = (ws.take (i + 1)).map cv := by
          rw [← List.map_append, take_snoc ws i (by rw [HW.out.len]; exact hin)]
        rw [e1] at hown5
        have e2 : Below (g + 1 + 1) wr w5 := ((Below.refl _ _).alloc (by omega) _).trans (grown_below hgrow5 (fun k hk => (HO.out.lt k hk).1) (by simp; omega))
        exact ⟨i + 1, by omega, by simp, hown5, HBL.out.trans e2, by have := e2.size; omega⟩

theorem sz_take (b : Bool) (ws : List Nat) (m : Nat) (h : Wds ws) : Sz (sgn b (val (ws.take m))) m := ⟨by
  rw [sgn_abs]
  have h1 := val_lt (h.take m)
  exact Nat.lt_of_lt_of_le h1 (pw_le (by rw [List.length_take]; omega))⟩

set_option maxHeartbeats 1000000 in
theorem rvalid_any (va : Value) (z : Int) (w : World) (ha : Iv w va z) (sa : Sz z 1000000) : Calls Try.prog 37 #[va] w (RetV (.bool true) w) := by
  obtain ⟨A, n, c, rfl, h1, h2, h3⟩ := ha.form
  have hn : n ≤ 1000000 := by rw [← h3.len]; exact sa.len
  by_cases h0 : n = 0
  · have hz := h3.pos_iff.1 h0
    subst h0
    subst hz
    clear h3 sa ha
    go_enter Try.func37, Try.ntmps37
    go_wp2
    go_ret
    exact ⟨by simp, (Below.refl _ _).alloc (Nat.le_refl _) _⟩
  · have hc := (mag_can z.natAbs).2.resolve_left (fun e => h0 (by have := h3.len; rw [e] at this; simpa using this.symm))
    rw [h3.len] at hc
    obtain ⟨b, o, rfl, hlt, hcell⟩ := h3.cells (by omega)
    have c0 := hcell (n - 1) (by omega)
    have c1 : (w.alloc (.cells #[.bool (decide (z < 0)), .slice (some ⟨b, o, none⟩) n c] 27)).cell? ⟨b, o + (n - 1), none⟩ = some (.int .u32 (gd (mag z.natAbs) (n - 1) : Nat)) := by
      rw [World.cell?_alloc_past _ _ _ hlt]; exact c0
    have hne : ((gd (mag z.natAbs) (n - 1) : Nat) : Int) != 0 := by simp; exact hc
    have ht : ((n : Int) == 0) = false := by simp; omega
    have i0 : (0 : Int) ≤ (n : Int) - 1 := by omega
    have i1 : (n : Int) - 1 < n := by omega
    generalize gd (mag z.natAbs) (n - 1) = top at *
    clear h3 sa ha hc hcell c0
    go_enter Try.func37, Try.ntmps37
    go_wp2
    go_ret
    exact ⟨by rw [← hne]; rfl, (Below.refl _ _).alloc (Nat.le_refl _) _⟩
end Go.Proofs.Ytpklphdhigkmmaa
