/-
  Contract of Bezout.
-/
import Derived.Test.YtpklphdhigkmmaaBezA
import Derived.Deep.LoopGhost
import Derived.RegionTactic
namespace Go.Proofs.Ytpklphdhigkmmaa
open Go.RowKit
attribute [local go_sem ↓] Go.wp_at_zero Go.wp_at_succ

theorem new_at {W : World} {b : Bool} {A : Option Addr} {n c g : Nat} (hg : W.heap.size = g) : Box (W.alloc (Obj.cells #[Value.bool b, Value.slice A n c] 27)) g b (.slice A n c) := by
  subst hg; exact Box.new W _ _

theorem five_boxes {w W : World} {sa sb : Bool} {A B : Option Addr} {n c m d : Nat} {a b : Int}
    (ha : Iv w (.agg #[.bool sa, .slice A n c]) a) (hb : Iv w (.agg #[.bool sb, .slice B m d]) b)
    (hW : W = ((((w.alloc (Obj.cells #[Value.bool sa, Value.slice A n c] 27)).alloc (Obj.cells #[Value.bool sb, Value.slice B m d] 27)).alloc (Obj.cells #[Value.bool false, Value.slice none 0 0] 27)).alloc (Obj.cells #[Value.bool false, Value.slice none 0 0] 27)).alloc (Obj.cells #[Value.bool false, Value.slice none 0 0] 27)) :
    IB W w.heap.size a ∧ IB W (w.heap.size + 1) b ∧ Box W (w.heap.size + 1 + 1) false (.slice none 0 0) ∧ Box W (w.heap.size + 1 + 1 + 1) false (.slice none 0 0) ∧ Box W (w.heap.size + 1 + 1 + 1 + 1) false (.slice none 0 0) ∧
    Box W w.heap.size sa (.slice A n c) ∧ Box W (w.heap.size + 1) sb (.slice B m d) ∧ Iv W (.agg #[.bool sa, .slice A n c]) a ∧ Iv W (.agg #[.bool sb, .slice B m d]) b ∧ Below w.heap.size w W ∧ W.heap.size = w.heap.size + 5 := by
  subst hW
  refine ⟨((((IB.new ha).alloc _).alloc _).alloc _).alloc _, ?_, ?_, ?_, ?_, ((((Box.new w _ _).alloc _).alloc _).alloc _).alloc _, ?_, ((((ha.alloc _).alloc _).alloc _).alloc _).alloc _, ((((hb.alloc _).alloc _).alloc _).alloc _).alloc _, (((((Below.refl _ _).alloc (Nat.le_refl _) _).alloc (by simp) _).alloc (by simp; omega) _).alloc (by simp; omega) _).alloc (by simp; omega) _, by simp⟩
  · have := (((IB.new (hb.alloc (Obj.cells #[Value.bool sa, Value.slice A n c] 27))).alloc (Obj.cells #[Value.bool false, Value.slice none 0 0] 27)).alloc (Obj.cells #[Value.bool false, Value.slice none 0 0] 27)).alloc (Obj.cells #[Value.bool false, Value.slice none 0 0] 27)
    simpa using this
  · exact ((new_at (by simp)).alloc _).alloc _
  · exact (new_at (by simp)).alloc _
  · exact new_at (by simp)
  · exact (((new_at (by simp)).alloc _).alloc _).alloc _

def RetBez (g u v : Int) (w : World) (e : Ending) (w' : World) : Prop := ∃ x y z, e = .returned (.tuple #[x, y, z]) ∧ Iv w' x g ∧ Iv w' y u ∧ Iv w' z v ∧ Below w.heap.size w w'

set_option maxHeartbeats 4000000 in
set_option maxRecDepth 100000 in
theorem bezout_zero (va vb : Value) (a : Int) (w : World) (ha : Iv w va a) (hb : Iv w vb 0) (sa : Sz a 1000000) : Calls Try.prog 17 #[va, vb] w (RetBez (a.natAbs : Int) (sg a) 0 w) := by
  obtain ⟨A, n, c, rfl, h1, h2, h3⟩ := ha.form
  obtain ⟨B, m, d, rfl, k1, k2, k3⟩ := hb.form
  have HA := Lib.hid ha
  have HB := Lib.hid hb
  have W3 := Lib.hid h3
  have V3 := Lib.hid k3
  have SA := Lib.hid sa
  have hn : n ≤ 1000000 := by rw [← h3.len]; exact sa.len
  have hm0 : m = 0 := k3.pos_iff.2 rfl
  subst hm0
  generalize decide (a < 0) = na at *
  generalize decide ((0 : Int) < 0) = nb at *
  clear h3 k3 sa ha hb
  go_enter Try.func17, Try.ntmps17
  go_wp2_with fail
  obtain ⟨W, hW⟩ : ∃ W, W = ((((w.alloc (Obj.cells #[Value.bool na, Value.slice A n c] 27)).alloc (Obj.cells #[Value.bool nb, Value.slice B 0 d] 27)).alloc (Obj.cells #[Value.bool false, Value.slice none 0 0] 27)).alloc (Obj.cells #[Value.bool false, Value.slice none 0 0] 27)).alloc (Obj.cells #[Value.bool false, Value.slice none 0 0] 27) := ⟨_, rfl⟩
  rw [← hW]
  obtain ⟨i0, i1, b2, b3, b4, b0, b1, v0, v1, hbW, hWs⟩ := five_boxes HA.out HB.out hW
  have B0 := Lib.hid b0
  have B2 := Lib.hid b2
  have B3 := Lib.hid b3
  have B4 := Lib.hid b4
  have V0 := Lib.hid v0
  have V1 := Lib.hid v1
  have hwa : Hid (Wd W A n (mag a.natAbs)) := by rw [hW]; exact ((((W3.out.alloc _).alloc _).alloc _).alloc _).alloc _
  have hwb : Hid (Wd W B 0 (mag (0 : Int).natAbs)) := by rw [hW]; exact ((((V3.out.alloc _).alloc _).alloc _).alloc _).alloc _
  clear hW i0 i1 b0 b1 b2 b3 b4 v0 v1
  have hgW := hbW.size
  generalize hg0 : w.heap.size = g at *
  refine (words_int nb B 0 d _ W hwb.out (by omega) k1).mono ?_
  rintro e w1 ⟨rfl, hbl1⟩
  have hwa1 := Lib.hid (hwa.out.next hbl1 rfl)
  have V01 := Lib.hid (iv_next V0.out hbl1 rfl)
  have B01 := Lib.hid (B0.out.next hbl1 rfl)
  have c0 := (B0.out.next hbl1 rfl).cell0
  have c1 := (B0.out.next hbl1 rfl).cell1
  go_wp2
  go_region_held3 (fun w' => w'.cell? ⟨g, 0, none⟩ = some (.bool na) ∧ w'.cell? ⟨g, 1, none⟩ = some (.slice A n c)) (go_keep)
    (first
      | (go_at_call 75; refine (words_int na A n c a.natAbs _ (by exact hwa1.out) (by omega) h1).mono ?_; rintro e w2 ⟨rfl, hbl2⟩
         have p0 := (B01.out.next hbl2 rfl).cell0
         have p1 := (B01.out.next hbl2 rfl).cell1)
      | (go_at_call 83; refine (clone_any A n c (mag a.natAbs) _ (by exact hwa1.out.next hbl2 rfl) (by omega)).mono ?_; rintro e w3 ⟨rfl, hbc, hbl3⟩
         have HBC := Lib.hid hbc
         have q0 := ((B01.out.next hbl2 rfl).next hbl3 rfl).cell0
         have q1 := ((B01.out.next hbl2 rfl).next hbl3 rfl).cell1
         clear hbc)
      | (go_at_call 79; refine (signed_mg false _ n n a.natAbs _ (by have := HBC.out.whole; rw [hwa.out.len] at this; exact this) (by omega) (Nat.le_refl _) (by omega)).mono ?_; rintro e w4 ⟨v4, rfl, hv4, hbl4⟩
         have hv4' : Iv w4 v4 (a.natAbs : Int) := by exact hv4
         obtain ⟨A4, n4, c4, rfl, x1, x2, x3⟩ := hv4'.form
         have HV4 := Lib.hid hv4'
         have r0 := (((B01.out.next hbl2 rfl).next hbl3 rfl).next hbl4 rfl).cell0
         have r1 := (((B01.out.next hbl2 rfl).next hbl3 rfl).next hbl4 rfl).cell1
         clear hv4 hv4' x3)
      | (go_at_call 73; refine (sign_any _ a _ (by exact iv_next (iv_next (iv_next V01.out hbl2 rfl) hbl3 rfl) hbl4 rfl) SA.out).mono ?_; rintro e w5 ⟨rfl, hbl5⟩
         have s0 := ((((B01.out.next hbl2 rfl).next hbl3 rfl).next hbl4 rfl).next hbl5 rfl).cell0
         have s1 := ((((B01.out.next hbl2 rfl).next hbl3 rfl).next hbl4 rfl).next hbl5 rfl).cell1)
      | (go_at_call 84; refine (of_any (sg a) _ (by rcases sg_cases a with ⟨_, e⟩ | ⟨_, e⟩ | ⟨_, e⟩ <;> omega) (by rcases sg_cases a with ⟨_, e⟩ | ⟨_, e⟩ | ⟨_, e⟩ <;> omega)).mono ?_; rintro e w6 ⟨v6, rfl, hv6, hbl6⟩
         obtain ⟨A6, n6, c6, rfl, y1, y2, y3⟩ := hv6.form
         have HV6 := Lib.hid hv6
         have z6 := (by exact ((((B01.out.next hbl2 rfl).next hbl3 rfl).next hbl4 rfl).next hbl5 rfl).next hbl6 rfl : Box w6 g na (.slice A n c))
         have t0 := z6.cell0
         have t1 := z6.cell1
         have d2 := (by exact (((((B2.out.next hbl1 rfl).next hbl2 rfl).next hbl3 rfl).next hbl4 rfl).next hbl5 rfl).next hbl6 rfl : Box w6 (g + 1 + 1) false (.slice none 0 0))
         have d3 := (by exact (((((B3.out.next hbl1 rfl).next hbl2 rfl).next hbl3 rfl).next hbl4 rfl).next hbl5 rfl).next hbl6 rfl : Box w6 (g + 1 + 1 + 1) false (.slice none 0 0))
         have d4 := (by exact (((((B4.out.next hbl1 rfl).next hbl2 rfl).next hbl3 rfl).next hbl4 rfl).next hbl5 rfl).next hbl6 rfl : Box w6 (g + 1 + 1 + 1 + 1) false (.slice none 0 0))
         have D2 := Lib.hid d2; have D3 := Lib.hid d3; have D4 := Lib.hid d4
         have e0 := d2.cell0; have e1 := d2.cell1; have e2 := d3.cell0; have e3 := d3.cell1; have e4 := d4.cell0; have e5 := d4.cell1
         have f0 := d2.frozen 0; have f1 := d2.frozen 1; have f2 := d3.frozen 0; have f3 := d3.frozen 1; have f4 := d4.frozen 0; have f5 := d4.frozen 1
         have zz1 : ¬ g + 1 + 1 = g := by omega
         have zz2 : ¬ g + 1 + 1 + 1 = g := by omega
         have zz3 : ¬ g + 1 + 1 + 1 + 1 = g := by omega
         clear d2 d3 d4 hv6 y3 z6))
  go_wp2
  have j4 := iv_next (iv_next HV4.out hbl5 rfl) hbl6 rfl
  generalize hsgn : sg a = sga at *
  have st0 : ∀ {x : Value} {t : Int}, Iv w6 x t → Iv (((((((w6.setCell ⟨g + 1 + 1, 0, none⟩ (.bool (decide (((a.natAbs : Nat) : Int) < 0)))).setCell ⟨g + 1 + 1, 1, none⟩ (.slice A4 n4 c4)).setCell ⟨g + 1 + 1 + 1, 0, none⟩ (.bool (decide (sga < 0)))).setCell ⟨g + 1 + 1 + 1, 1, none⟩ (.slice A6 n6 c6)).setCell ⟨g + 1 + 1 + 1 + 1, 0, none⟩ (.bool false)).setCell ⟨g + 1 + 1 + 1 + 1, 1, none⟩ (.slice none 0 0))) x t := fun hx =>
    iv_keep (iv_keep (iv_keep hx D2.out _) ((D3.out.far (by first | (simp; done) | (simp; omega)) _).far (by first | (simp; done) | (simp; omega)) _) _) ((((D4.out.far (by first | (simp; done) | (simp; omega)) _).far (by first | (simp; done) | (simp; omega)) _).far (by first | (simp; done) | (simp; omega)) _).far (by first | (simp; done) | (simp; omega)) _) _
  have hall : Below g w w6 := by
    have x1 := link_below hbW hbl1 hgW rfl rfl rfl rfl
    have g1 := Nat.le_trans hgW hbl1.size
    have x2 := link_below x1 hbl2 g1 rfl rfl rfl rfl
    have g2 := Nat.le_trans g1 hbl2.size
    have x3 := link_below x2 hbl3 g2 rfl rfl rfl rfl
    have g3 := Nat.le_trans g2 hbl3.size
    have x4 := link_below x3 hbl4 g3 rfl rfl rfl rfl
    have g4 := Nat.le_trans g3 hbl4.size
    have x5 := link_below x4 hbl5 g4 rfl rfl rfl rfl
    exact link_below x5 hbl6 (Nat.le_trans g4 hbl5.size) rfl rfl rfl rfl
  refine bodyPost_ret (v := .tuple #[.agg #[.bool (decide (((a.natAbs : Nat) : Int) < 0)), .slice A4 n4 c4], .agg #[.bool (decide (sga < 0)), .slice A6 n6 c6], .agg #[.bool false, .slice none 0 0]]) (by simp [results, Try.results17, go_sem, e0, e1, e2, e3, e4, e5]) rfl ⟨_, _, _, rfl, st0 j4, st0 HV6.out, st0 (Iv.zero w6), ?_⟩
  rw [hg0]
  exact (((((hall.setCell (by simp; omega) _).setCell (by simp; omega) _).setCell (by simp; omega) _).setCell (by simp; omega) _).setCell (by simp; omega) _).setCell (by simp; omega) _
end Go.Proofs.Ytpklphdhigkmmaa
