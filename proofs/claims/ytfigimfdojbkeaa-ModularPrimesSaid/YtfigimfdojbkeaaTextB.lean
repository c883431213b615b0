/-
  Texts: the nine digits of a chunk.
  Decimal digits: plain facts.
  Contract of Text.
-/
import Derived.Test.YtfigimfdojbkeaaIntC
import Derived.Handy
import Derived.Deep.AppendLies
import Derived.OwnWalk
import Derived.Deep.LoopGhost
import Derived.Deep.DeepCutAuto
set_option linter.unusedSimpArgs false
set_option linter.unusedVariables false
section
namespace Go.Proofs.Ytfigimfdojbkeaa
open Go.RowKit
attribute [local go_sem ↓] Go.wp_at_zero Go.wp_at_succ

/-- The bytes of k decimal digits of n, the last one first. -/
def dgs : Nat → Nat → List Nat
  | 0, _ => []
  | k + 1, n => (48 + n % 10) :: dgs k (n / 10)
/-- Bytes as cells. -/
def bv (l : List Nat) : List Value := l.map (fun x => Value.int .u8 (x : Nat))
theorem bv_len (l : List Nat) : (bv l).length = l.length := by simp [bv]
theorem dgs_len : ∀ (k n : Nat), (dgs k n).length = k
  | 0, _ => rfl
  | k + 1, n => by simp [dgs, dgs_len k]

set_option maxHeartbeats 4000000 in
theorem digitsOf_any (n : Nat) (w : World) (hn : n < 4294967296) :
    Calls Try.prog 134 #[.int .u32 (n : Nat)] w fun e w' => e = .returned (.agg (bv (dgs 9 n)).toArray) ∧ Below w.heap.size w w' := by
  go_enter Try.func134, Try.ntmps134
  go_wp2
  go_rounds 10
  refine bodyPost_ret (v := .agg (bv (dgs 9 n)).toArray) (by simp [results, Try.results134, go_sem, bv, dgs]) rfl ⟨rfl, ?_⟩
  exact ((Below.refl _ _).alloc (Nat.le_refl _) _).alloc (by simp) _
end Go.Proofs.Ytfigimfdojbkeaa
end

namespace Go.Proofs.Ytfigimfdojbkeaa

/-- The decimal digits of n as bytes, the last one first, none for 0. -/
def rd (n : Nat) : List Nat := if h : n = 0 then [] else (48 + n % 10) :: rd (n / 10)
termination_by n
decreasing_by omega
theorem rd_zero : rd 0 = [] := by rw [rd]; simp
theorem rd_pos {n : Nat} (h : 0 < n) : rd n = (48 + n % 10) :: rd (n / 10) := by rw [rd]; simp [Nat.ne_of_gt h]
theorem rd_len_pos {n : Nat} (h : 0 < n) : 0 < (rd n).length := by rw [rd_pos h]; simp

theorem dgs_zero (k : Nat) : dgs k 0 = List.replicate k 48 := by
  induction k with
  | zero => rfl
  | succ k ih => simp [dgs, ih, List.replicate_succ]

theorem dgs_add : ∀ (a b n : Nat), dgs (a + b) n = dgs a n ++ dgs b (n / 10 ^ a)
  | 0, b, n => by simp [dgs]
  | a + 1, b, n => by
    rw [show a + 1 + b = (a + b) + 1 by omega]
    simp only [dgs, List.cons_append]
    rw [dgs_add a b (n / 10), Nat.div_div_eq_div_mul, show 10 * 10 ^ a = 10 ^ (a + 1) by rw [Nat.pow_succ, Nat.mul_comm]]

theorem rd_len_le : ∀ (m n : Nat), n < 10 ^ m → (rd n).length ≤ m
  | 0, n, h => by
    have : n = 0 := by simp at h; omega
    subst this; simp [rd_zero]
  | m + 1, n, h => by
    rcases Nat.eq_zero_or_pos n with rfl | hp
    · simp [rd_zero]
    · rw [rd_pos hp]
      have : n / 10 < 10 ^ m := by rw [Nat.pow_succ] at h; omega
      have := rd_len_le m (n / 10) this
      simp; omega

theorem dgs_split : ∀ (m n : Nat), n < 10 ^ m → dgs m n = rd n ++ List.replicate (m - (rd n).length) 48
  | 0, n, h => by
    have : n = 0 := by simp at h; omega
    subst this; simp [rd_zero, dgs]
  | m + 1, n, h => by
    rcases Nat.eq_zero_or_pos n with rfl | hp
    · simp [rd_zero, dgs_zero]
    · have h2 : n / 10 < 10 ^ m := by rw [Nat.pow_succ] at h; omega
      rw [rd_pos hp, dgs, dgs_split m (n / 10) h2]
      simp

/-- The first digit is not 0. -/
theorem rd_last : ∀ (n : Nat), 0 < n → ∀ b, (rd n)[(rd n).length - 1]? = some b → b ≠ 48 := by
  intro n
  induction n using Nat.strongRecOn with
  | _ n ih =>
    intro hp b hb
    rw [rd_pos hp] at hb
    rcases Nat.eq_zero_or_pos (n / 10) with h0 | h0
    · rw [h0, rd_zero] at hb
      simp at hb
      omega
    · have hl := rd_len_pos h0
      have e : (rd (n / 10)).length + 1 - 1 = ((rd (n / 10)).length - 1) + 1 := by omega
      rw [List.length_cons, e, List.getElem?_cons_succ] at hb
      exact ih (n / 10) (by omega) h0 b hb

theorem dgs_byte : ∀ (m n x : Nat), x ∈ dgs m n → 48 ≤ x ∧ x < 58
  | 0, _, x, h => by simp [dgs] at h
  | m + 1, n, x, h => by
    simp only [dgs, List.mem_cons] at h
    rcases h with rfl | h
    · omega
    · exact dgs_byte m (n / 10) x h
theorem rd_byte {n x : Nat} (h : x ∈ rd n) : 48 ≤ x ∧ x < 58 := by
  have h1 : n < 10 ^ n := Nat.lt_pow_self (by omega)
  exact dgs_byte n n x (by rw [dgs_split n n h1]; simp [h])

theorem dg_front {m n k : Nat} (h : n < 10 ^ m) (hk : k < (rd n).length) : gd (dgs m n) k = gd (rd n) k := by
  rw [dgs_split m n h, gd_eq, gd_eq, List.getElem?_append_left hk]
theorem dg_rest {m n k : Nat} (h : n < 10 ^ m) (h1 : (rd n).length ≤ k) (h2 : k < m) : gd (dgs m n) k = 48 := by
  rw [dgs_split m n h, gd_eq, List.getElem?_append_right h1, List.getElem?_replicate, if_pos (by omega)]
  rfl
theorem dg_last {m n : Nat} (h : n < 10 ^ m) (hn : 0 < n) : gd (dgs m n) ((rd n).length - 1) ≠ 48 := by
  have hl := rd_len_pos hn
  rw [dg_front h (by omega), gd_eq, List.getElem?_eq_getElem (by omega)]
  exact rd_last n hn _ (List.getElem?_eq_getElem (by omega))
theorem gd_byte {m n k : Nat} (hk : k < m) : 48 ≤ gd (dgs m n) k ∧ gd (dgs m n) k < 58 := by
  rw [gd_eq, List.getElem?_eq_getElem (by rw [dgs_len]; exact hk)]
  exact dgs_byte m n _ (List.getElem_mem _)

/-- The bytes of the text of z. -/
def txb (z : Int) : List Nat := if z = 0 then [48] else (if z < 0 then [45] else []) ++ (rd z.natAbs).reverse
end Go.Proofs.Ytfigimfdojbkeaa

section
namespace Go.Proofs.Ytfigimfdojbkeaa
open Go.RowKit
attribute [local go_sem ↓] Go.wp_at_zero Go.wp_at_succ

theorem ten_words {x m N : Nat} (h1 : 10 ^ m ≤ x) (h2 : x < pw N) : m < 10 * N := by
  have h3 : pw N ≤ 10 ^ (10 * N) := by
    unfold pw
    rw [Nat.pow_mul]
    exact Nat.pow_le_pow_left (by omega) N
  exact (Nat.pow_lt_pow_iff_right (by omega)).1 (Nat.lt_of_le_of_lt h1 (Nat.lt_of_lt_of_le h2 h3))

theorem below_grown {w w' : World} (h : Below w.heap.size w w') (row : Option Nat) : w.grownBy w' row := ⟨h.os, h.tape, h.output, h.size, fun k hk _ => h.block k hk⟩
theorem own_ne {w : World} {g e size n : Nat} {v : Value} {xs : List Value} (h : w.ownsRow (g + 1) e size v n xs) : v.ownBlock = none ∨ v.ownBlock ≠ some g := by
  rcases hk : v.ownBlock with _ | k
  · exact .inl rfl
  · refine .inr (fun e => ?_)
    have := (h.lt k hk).1
    injection e with e
    omega
theorem grown_below {w w' : World} {row : Option Nat} {B : Nat} (h : w.grownBy w' row) (hr : ∀ k, row = some k → B ≤ k) (hB : B ≤ w.heap.size) : Below B w w' :=
  ⟨h.os, h.tape, h.output, h.size, fun k hk => h.block k (by omega) (fun e => by have := hr k e.symm; omega)⟩
theorem own_form {w : World} {base e size n : Nat} {v : Value} {xs : List Value} (h : w.ownsRow base e size v n xs) (hn : 0 < n) :
    ∃ g cap, v = .slice (some ⟨g, 0, none⟩) n cap ∧ base ≤ g ∧ g < w.heap.size ∧ n ≤ cap ∧ cap ≤ 9223372036854775807 := by
  rcases h.2 with ⟨_, h0⟩ | ⟨g, cap, cur, hv, hb, hg, h1, h2, _⟩
  · omega
  · refine ⟨g, cap, hv, hb, ?_, h1, by unfold maxLen at h2; omega⟩
    rcases Nat.lt_or_ge g w.heap.size with hlt | hge
    · exact hlt
    · rw [Array.getElem?_eq_none hge] at hg; cases hg
theorem own_front {w : World} {base e g n cap m : Nat} {xs : List Value} (h : w.ownsRow base e 1 (.slice (some ⟨g, 0, none⟩) n cap) n xs) (hm : m ≤ n) :
    w.ownsRow base e 1 (.slice (some ⟨g, 0, none⟩) m cap) m (xs.take m) := by
  have h0 := h.1
  refine ⟨by rw [List.length_take]; omega, ?_⟩
  rcases h.2 with ⟨h0, _⟩ | ⟨g', cap', cur, hv, hb, hg, h1, h2, h3, h4⟩
  · cases h0
  · simp only [Value.slice.injEq, Option.some.injEq, Addr.mk.injEq] at hv
    obtain ⟨⟨rfl, _⟩, _, rfl⟩ := hv
    refine .inr ⟨g, cap, cur, rfl, hb, hg, by omega, h2, h3, ?_⟩
    rw [← h4, List.take_take, show min m (n * 1) = m * 1 by omega]
theorem own_frozen {w : World} {base e size n g cap : Nat} {xs : List Value} (h : w.ownsRow base e size (.slice (some ⟨g, 0, none⟩) n cap) n xs) (t : Nat) : w.frozen? ⟨g, t, none⟩ = false := by
  rcases h.2 with ⟨h0, _⟩ | ⟨g', cap', cur, hv, hb, hg, _⟩
  · cases h0
  · simp only [Value.slice.injEq, Option.some.injEq, Addr.mk.injEq] at hv
    obtain ⟨⟨rfl, _⟩, _⟩ := hv
    simp [World.frozen?, hg]
theorem bv_app (a b : List Nat) : bv (a ++ b) = bv a ++ bv b := by simp [bv]
theorem bv_one (l : List Nat) : ∀ u ∈ bv l, u.oneCell' = true := by
  intro u hu
  simp only [bv, List.mem_map] at hu
  obtain ⟨x, _, rfl⟩ := hu
  rfl
theorem dgs_mod : ∀ (k n : Nat), dgs k (n % 10 ^ k) = dgs k n
  | 0, _ => rfl
  | k + 1, n => by
    have e1 : n % 10 ^ (k + 1) % 10 = n % 10 := Nat.mod_mod_of_dvd _ ⟨10 ^ k, by rw [Nat.pow_succ, Nat.mul_comm]⟩
    have e2 : n % 10 ^ (k + 1) / 10 = n / 10 % 10 ^ k := by
      rw [Nat.pow_succ, Nat.mul_comm, Nat.mod_mul_right_div_self]
    simp only [dgs]
    rw [e1, e2, dgs_mod k (n / 10)]

def swv (l : List Nat) (M i t : Nat) : Nat := if t < i ∨ M ≤ t + i then gd l (M - 1 - t) else gd l t
theorem swv_zero {l : List Nat} {M t : Nat} (h : t < M) : swv l M 0 t = gd l t := by unfold swv; rw [if_neg (by omega)]
theorem swv_next {l : List Nat} {K i t : Nat} (h1 : t ≠ i) (h2 : t ≠ K) : swv l (K + i + 1) (i + 1) t = swv l (K + i + 1) i t := by
  unfold swv
  by_cases h : t < i ∨ K + i + 1 ≤ t + i
  · rw [if_pos h, if_pos (by omega)]
  · rw [if_neg h, if_neg (by omega)]
theorem swap_cells {w : World} {G K i a b : Nat} {l : List Nat} (hc : ∀ t, t < K + i + 1 → w.cell? ⟨G, t, none⟩ = some (.int .u8 (swv l (K + i + 1) i t : Nat))) (hi : i < K) (ha : a = gd l K) (hb : b = gd l i) :
    ∀ t, t < K + i + 1 → ((w.setCell ⟨G, i, none⟩ (.int .u8 (a : Nat))).setCell ⟨G, K, none⟩ (.int .u8 (b : Nat))).cell? ⟨G, t, none⟩ = some (.int .u8 (swv l (K + i + 1) (i + 1) t : Nat)) := by
  intro t ht
  subst ha hb
  have e1 : swv l (K + i + 1) (i + 1) i = gd l K := by unfold swv; rw [if_pos (by omega)]; congr 1; omega
  have e2 : swv l (K + i + 1) (i + 1) K = gd l i := by unfold swv; rw [if_pos (by omega)]; congr 1; omega
  by_cases h2 : t = K
  · subst h2
    rw [World.cell?_setCell_same _ _ _ (by rw [World.cell?_setCell_other _ _ _ _ (fun e => by have h := congrArg Addr.off e; change i = t at h; omega)]; exact hc t ht), e2]
  · rw [World.cell?_setCell_other _ _ _ _ (fun e => by have h := congrArg Addr.off e; change K = t at h; omega)]
    by_cases h1 : t = i
    · subst h1
      rw [World.cell?_setCell_same _ _ _ (hc t ht), e1]
    · rw [World.cell?_setCell_other _ _ _ _ (fun e => by have h := congrArg Addr.off e; change i = t at h; omega), hc t ht, swv_next h1 h2]
theorem u8_back {x : Nat} (h : x < 256) : (UInt8.ofNat x).toNat = x := by
  have e : (UInt8.ofNat x).toNat = x % 256 := by simp
  rw [e]; omega
theorem swv_done {l : List Nat} {M t : Nat} (hM : M = l.length) (ht : t < M) : swv l M (M / 2) t = gd l.reverse t := by
  have e : gd l.reverse t = gd l (M - 1 - t) := by
    rw [gd_eq, gd_eq, List.getElem?_reverse (by omega), hM]
  rw [e]
  unfold swv
  by_cases h : t < M / 2 ∨ M ≤ t + M / 2
  · rw [if_pos h]
  · rw [if_neg h]; congr 1; omega
def gs (l : List Nat) : Value := .string ⟨(l.map UInt8.ofNat).toArray⟩

theorem u8_info : (Try.prog.info? 5).map (fun i => (i.zero, i.size, i.bytes)) = some (some (.int .u8 0), 1, 1) := by kernel_rfl

set_option maxHeartbeats 4000000 in
set_option maxRecDepth 100000 in
theorem text_any (v : Value) (z : Int) (w : World) (hv : Iv w v z) (hz : Sz z 200000) :
    Calls Try.prog 91 #[v] w fun e w' => e = .returned (gs (txb z)) ∧ Below w.heap.size w w' := by
  obtain ⟨A, n, c, rfl, h1, h2, h3⟩ := hv.form
  have H3 := Lib.hid h3
  have HV := Lib.hid hv
  have HZ := Lib.hid hz
  have hn : n ≤ 200000 := by rw [← h3.len]; exact hz.len
  generalize hs : decide (z < 0) = sz at *
  clear h3 hv hz
  go_enter Try.func91, Try.ntmps91
  go_wp2_with fail
  obtain ⟨W, hW⟩ : ∃ W, W = w.alloc (Obj.cells #[Value.bool sz, Value.slice A n c] 27) := ⟨_, rfl⟩
  rw [← hW]
  have b0 : Box W w.heap.size sz (.slice A n c) := by rw [hW]; exact Box.new w _ _
  have hwd : Wd W A n (mag z.natAbs) := by rw [hW]; exact H3.out.alloc _
  have hbW : Below w.heap.size w W := by rw [hW]; exact (Below.refl _ _).alloc (Nat.le_refl _) _
  have hWs : w.heap.size < W.heap.size := b0.lt
  clear hW
  generalize hg0 : w.heap.size = g at *
  refine (words_int sz A n c z.natAbs W hwd (by omega) h1).mono ?_
  rintro e w1 ⟨rfl, hbl1⟩
  go_wp2_with fail
  refine (clone_any A n c (mag z.natAbs) _ (hwd.next hbl1 rfl) (by omega)).mono ?_
  rintro e w2 ⟨rfl, hblk, hbl2⟩
  have hlw : (mag z.natAbs).length = n := H3.out.len
  have hbl : Below W.heap.size W w2 := link_below hbl1 hbl2 hbl1.size rfl rfl rfl rfl
  have B0 := Lib.hid (b0.next hbl rfl)
  have hb2 : Below g w w2 := hbW.trans (hbl.mono (by omega))
  have HBLK := Lib.hid hblk
  have hg1 : Hid (g < w1.heap.size ∧ w1.heap.size < w2.heap.size) := ⟨by have := hbl1.size; omega, hblk.lt⟩
  clear b0 hwd hbW hWs hblk hbl hbl1 hbl2
  generalize w1.heap.size = g1 at *
  rcases Nat.eq_zero_or_pos n with hn0 | hn0
  · have hz0 : z = 0 := by
      have e1 : z.natAbs = 0 := by
        have e2 := val_mag z.natAbs
        rw [List.eq_nil_of_length_eq_zero (by omega : (mag z.natAbs).length = 0)] at e2
        simpa [val] using e2.symm
      omega
    subst hn0
    go_wp2
    refine bodyPost_ret (v := .string ⟨#[48]⟩) (by simp [results, Try.results91, go_sem]) rfl ⟨?_, ?_⟩
    · rw [hz0]; simp [txb, gs]
    · rw [hg0]; exact hb2
  · have ht : ((n : Int) == 0) = false := by simp; omega
    go_wp2_with fail
    clear ht
    go_loopg [3, 4] z.natAbs (fun k v3 v4 wr => ∃ (j n' : Nat) (post : List Nat), k = z.natAbs / 10 ^ (9 * j) ∧ v3 = .slice (some ⟨g1, 0, none⟩) n' n ∧ n' ≤ n ∧ Blk wr g1 (mag k ++ post) ∧ (mag k).length = n' ∧ wr.ownsRow (g1 + 1) 5 1 v4 (9 * j) (bv (dgs (9 * j) z.natAbs)) ∧ Below g w wr ∧ Box wr g sz (.slice A n c) ∧ (k = 0 → 0 < j) ∧ 9 * j ≤ 2000008)
    case atStart =>
      refine ⟨0, n, [], by simp, rfl, Nat.le_refl _, by rw [List.append_nil]; exact HBLK.out, hlw, ?_, hb2, B0.out, fun h => ?_, by omega⟩
      · exact World.ownsRow_nil _ _ _ _
      · rw [h, mag_zero] at hlw; simp at hlw; omega
    case round =>
      obtain ⟨j, n', post, hk, rfl, hn', hblk, hlen, hown, hbl, hbx, hj, hj8⟩ := hrel
      have HBK := Lib.hid hblk
      have HOWN := Lib.hid hown
      have HBL := Lib.hid hbl
      have HBX := Lib.hid hbx
      have HK := Lib.hid hk
      have HJ := Lib.hid hj
      have HLEN := Lib.hid hlen
      clear hblk hown hbl hbx hk hj hlen
      by_cases hgk : gk = 0
      · have hn0' : n' = 0 := by have := HLEN.out; rw [hgk, mag_zero] at this; simpa using this.symm
        subst hn0'
        have hx0 : 0 < z.natAbs := by
          rcases Nat.eq_zero_or_pos z.natAbs with e | e
          · rw [e, mag_zero] at hlw; simp at hlw; omega
          · exact e
        have hxl : z.natAbs < 10 ^ (9 * j) := by
          rcases Nat.lt_or_ge z.natAbs (10 ^ (9 * j)) with h | h
          · exact h
          · have h1 := HK.out
            have h2 := Nat.div_pos h (Nat.pow_pos (by omega : 0 < 10))
            omega
        have hj0 := HJ.out hgk
        obtain ⟨G, cap, rfl, hGb, hGl, hcp1, hcp2⟩ := own_form HOWN.out (by omega)
        have hcells : Hid (∀ k, k < 9 * j → wr.cell? ⟨G, k, none⟩ = some (.int .u8 (gd (dgs (9 * j) z.natAbs) k : Nat))) := by
          intro k hk
          have h1 := World.ownsRow.cells HOWN.out (g := G) rfl k (.int .u8 (gd (dgs (9 * j) z.natAbs) k : Nat)) (by
            rw [bv, List.getElem?_map, gd_eq]
            rw [List.getElem?_eq_getElem (by rw [dgs_len]; exact hk)]
            rfl)
          have e : (Addr.add ⟨G, 0, none⟩ k) = ⟨G, 0 + k, none⟩ := by unfold Addr.add; split <;> simp_all
          rw [e, Nat.zero_add] at h1
          exact h1
        have hspl := dgs_split (9 * j) z.natAbs hxl
        have HSPL := Lib.hid hspl
        have hrl := rd_len_le (9 * j) z.natAbs hxl
        have hrp := rd_len_pos hx0
        have HX0 := Lib.hid hx0
        have HXL := Lib.hid hxl
        clear hspl hxl hx0
        generalize hRL : (rd z.natAbs).length = RL at *
        have HRL := Lib.hid hRL
        clear hRL
        go_wp2_with fail
        go_loopg [4] (9 * j) (fun L v4 w' => w' = wr ∧ v4 = .slice (some ⟨G, 0, none⟩) L cap ∧ RL ≤ L ∧ L ≤ 9 * j)
        case atStart => exact ⟨rfl, rfl, hrl, Nat.le_refl _⟩
        case round =>
          obtain ⟨rfl, rfl, hL1, hL2⟩ := hrel
          obtain ⟨L, rfl⟩ : ∃ L, gk = L + 1 := ⟨gk - 1, by omega⟩
          have hb := hcells.out L (by omega)
          by_cases hx : gd (dgs (9 * j) z.natAbs) L = 48
          · have hge : RL ≤ L := by
              rcases Nat.lt_or_ge L RL with h | h
              · exfalso
                have h1 := dg_last HXL.out HX0.out
                rw [HRL.out, show RL - 1 = L by omega] at h1
                exact h1 hx
              · exact h
            rw [hx] at hb
            clear hx
            go_wp2
            go_roundg L
            case measure => omega
            case rel => exact ⟨rfl, rfl, hge, by omega⟩
          · have hbb := gd_byte (n := z.natAbs) (show L < 9 * j by omega)
            have hx2 : (((gd (dgs (9 * j) z.natAbs) L : Nat) : Int) == 48) = false := by rw [beq_eq_false_iff_ne]; omega
            have hLR : L + 1 = RL := by
              rcases Nat.lt_or_ge L RL with h | h
              · omega
              · exact absurd (dg_rest HXL.out (by rw [HRL.out]; exact h) (by omega)) hx
            have HLR := Lib.hid hLR
            clear hx hLR hbb
            have o0 := HBX.out.cell0
            go_upto_if 38 with fail
            have hp : wr.ownsRow (g1 + 1) 5 1 (.slice (some ⟨G, 0, none⟩) (L + 1) cap) (L + 1) (bv (rd z.natAbs)) := by
              have h1 := own_front HOWN.out (m := L + 1) (by omega)
              have h2 : (bv (dgs (9 * j) z.natAbs)).take (L + 1) = bv (rd z.natAbs) := by
                rw [HSPL.out, bv_app, List.take_left' (by rw [bv_len, HRL.out]; exact HLR.out.symm)]
              rw [h2] at h1
              exact h1
            have HP := Lib.hid hp
            have hll : Hid ((rd z.natAbs).length = L + 1) := HRL.out.trans HLR.out.symm
            clear hp hb
            obtain ⟨i5, hi5, hz50, hz51, hz52⟩ := info_parts u8_info
            have hml : L + 1 + 1 ≤ maxLen := by unfold maxLen; omega
            have hg1s : g1 + 1 ≤ wr.heap.size := HBK.out.lt
            go_cut [4] (fun s4 wx => ∃ (G' cap' : Nat), s4 = .slice (some ⟨G', 0, none⟩) (rd z.natAbs ++ (if sz then [45] else [])).length cap' ∧ wx.ownsRow (g1 + 1) 5 1 s4 (rd z.natAbs ++ (if sz then [45] else [])).length (bv (rd z.natAbs ++ (if sz then [45] else []))) ∧ Below g w wx)
            case first =>
              cases sz
              · go_wp2_with fail
                go_meet
                refine ⟨G, cap, by simp [hll.out], ?_, HBL.out⟩
                simp only [Bool.false_eq_true, if_false, List.append_nil]
                rw [hll.out]
                exact HP.out
              · go_wp2_with (first
                  | (at_builtin; refine wpList_append_lies _ rfl (.tmp 39) (.tmp 40) 145 rfl (g1 + 1) 5 i5 (.int .u8 0) 1 1 Try.underlying145 hi5 hz50 hz51 hz52 rfl (by omega) _ (L + 1) (bv (rd z.natAbs)) rfl (HP.out.alloc _) ⟨wr.heap.size, 0, none⟩ 1 1 (bv [45]) rfl rfl (fun k u hu => World.news_of_block (heap_alloc_new wr _) k u (by simpa [bv] using hu)) (bv_one _) (by omega) hml (by omega) (by simp; omega) (wr.heap.size + 1) (by simp) ?_; intro g5 cap5 w5 hown5 hgrow5 hat5 hlt5))
                go_meet
                refine ⟨g5, cap5, by simp [hll.out], ?_, ?_⟩
                · have e1 : List.length (rd z.natAbs ++ [45]) = L + 1 + 1 := by simp [hll.out]
                  simp only [if_true]
                  rw [e1, bv_app]
                  exact hown5
                · refine (HBL.out.alloc (by have := HBX.out.lt; omega) _).trans (grown_below hgrow5 (fun k hk => ?_) (by have := HBX.out.lt; simp; omega))
                  have h3 := (HP.out.lt k hk).1
                  have := hg1.out
                  omega
            case rest =>
              obtain ⟨G', cap', rfl, hown, hbl⟩ := hcut
              have hMl : Hid ((rd z.natAbs ++ (if sz then [45] else [])).length ≤ 2000010) := by
                unfold Hid
                rw [List.length_append, hll.out]
                cases sz <;> simp <;> omega
              have hM0 : Hid (0 < (rd z.natAbs ++ (if sz then [45] else [])).length) := by
                unfold Hid
                rw [List.length_append, hll.out]
                omega
              have htx : Hid (txb z = (rd z.natAbs ++ (if sz then [45] else [])).reverse) := by
                unfold Hid txb
                rw [if_neg (by have := HX0.out; omega), ← hs]
                by_cases h0 : z < 0 <;> simp [h0]
              have hby : Hid (∀ x, x ∈ rd z.natAbs ++ (if sz then [45] else []) → x < 256) := by
                intro x hx
                rcases List.mem_append.1 hx with h | h
                · have := rd_byte h; omega
                · cases sz <;> simp at h; omega
              generalize rd z.natAbs ++ (if sz then [45] else []) = l at *
              obtain ⟨M, hM⟩ : ∃ M, M = l.length := ⟨_, rfl⟩
              rw [← hM] at hown hMl hM0 ⊢
              have HM := Lib.hid hM
              have HOW := Lib.hid hown
              have HBW := Lib.hid hbl
              have hMl' := hMl.out
              have hM0' := hM0.out
              clear hM hown hbl
              go_wp2_with fail
              obtain ⟨G'', cap'', hfm, hGb', hGl', hcp1', hcp2'⟩ := own_form HOW.out hM0'
              simp only [Value.slice.injEq, Option.some.injEq, Addr.mk.injEq, true_and, and_true] at hfm
              obtain ⟨rfl, rfl⟩ := hfm
              have hcs : Hid (∀ k, k < M → wc.cell? ⟨G', k, none⟩ = some (.int .u8 (gd l k : Nat))) := by
                intro k hk
                have h1 := World.ownsRow.cells HOW.out (g := G') rfl k (.int .u8 (gd l k : Nat)) (by
                  rw [bv, List.getElem?_map, gd_eq]
                  rw [List.getElem?_eq_getElem (by rw [← HM.out]; exact hk)]
                  rfl)
                have e : (Addr.add ⟨G', 0, none⟩ k) = ⟨G', 0 + k, none⟩ := by unfold Addr.add; split <;> simp_all
                rw [e, Nat.zero_add] at h1
                exact h1
              go_loopg [45] (M / 2) (fun k v45 w' => ∃ i : Nat, k = M / 2 - i ∧ i ≤ M / 2 ∧ v45 = .int .i64 i ∧ (∀ t, t < M → w'.cell? ⟨G', t, none⟩ = some (.int .u8 (swv l M i t : Nat))) ∧ (∀ t, w'.frozen? ⟨G', t, none⟩ = false) ∧ Below g w w' ∧ G' < w'.heap.size)
              case atStart =>
                refine ⟨0, by omega, by omega, rfl, fun t ht => ?_, fun t => ?_, HBW.out, hGl'⟩
                · rw [swv_zero ht]; exact hcs.out t ht
                · exact own_frozen HOW.out t
              case round =>
                obtain ⟨i, hk, hi, rfl, hcl, hfr, hbl, hgl⟩ := hrel
                have HCL := Lib.hid hcl
                have HFR := Lib.hid hfr
                have HBL2 := Lib.hid hbl
                clear hcl hfr hbl
                by_cases hik : gk = 0
                · have hie : i = M / 2 := by omega
                  subst hie
                  have hcv := run_convert_bytes_back (P := Try.prog) wr 145 9 5 ⟨G', 0, none⟩ cap' (l.reverse.map UInt8.ofNat) Try.underlying145 (by kernel_rfl) (by kernel_rfl) (fun t ht => by
                    have htM : t < M := by rw [List.length_map, List.length_reverse, ← HM.out] at ht; exact ht
                    have e : (Addr.add ⟨G', 0, none⟩ t) = ⟨G', 0 + t, none⟩ := by unfold Addr.add; split <;> simp_all
                    rw [e, Nat.zero_add, HCL.out t htM, swv_done HM.out htM]
                    have hl : t < l.reverse.length := by rw [List.length_reverse, ← HM.out]; exact htM
                    have hb := hby.out (l.reverse[t]) (by have := List.getElem_mem hl; exact List.mem_reverse.1 this)
                    rw [gd_eq, List.getElem?_eq_getElem hl, List.getElem_map]
                    have e2 : (UInt8.ofNat l.reverse[t]).toNat = l.reverse[t] := u8_back hb
                    rw [e2]
                    rfl)
                  rw [show (l.reverse.map UInt8.ofNat).length = M by rw [List.length_map, List.length_reverse, HM.out]] at hcv
                  go_wp2
                  refine bodyPost_ret (v := gs l.reverse) (by simp [results, Try.results91, go_sem, gs]) rfl ⟨?_, ?_⟩
                  · rw [htx.out]
                  · rw [hg0]; exact HBL2.out
                · obtain ⟨K, hK⟩ : ∃ K, M = K + i + 1 := ⟨M - 1 - i, by omega⟩
                  have e1 : swv l M i i = gd l i := by unfold swv; rw [if_neg (by omega)]
                  have e2 : swv l M i K = gd l K := by unfold swv; rw [if_neg (by omega)]
                  have c1 := HCL.out i (by omega)
                  have c2 := HCL.out K (by omega)
                  rw [e1] at c1
                  rw [e2] at c2
                  have f1 := HFR.out i
                  have f2 := HFR.out K
                  have hiM : i < K := by omega
                  have hMl2 : K + i + 1 ≤ 2000010 := by omega
                  have hcq : K + i + 1 ≤ cap' := by omega
                  clear e1 e2
                  subst hK
                  go_wp2_with fail
                  go_region
                  go_wp2
                  go_roundg (gk - 1)
                  case measure => omega
                  case rel =>
                    refine ⟨i + 1, by omega, by omega, by simp, swap_cells HCL.out hiM rfl rfl, fun t => ?_, ?_, by simpa [World.setCell] using hgl⟩
                    · have := HFR.out t
                      simpa using this
                    · have hgG : g ≤ G' := by have := hg1.out; omega
                      exact ((HBL2.out.setCell (by simpa using hgG) _).setCell (by simpa using hgG) _).drew
      · have hn0' : 0 < n' := by
          have h1 := HLEN.out
          rcases Nat.eq_zero_or_pos n' with e | e
          · rw [e] at h1
            have h2 := val_mag gk
            rw [List.eq_nil_of_length_eq_zero h1] at h2
            simp [val] at h2; omega
          · exact e
        go_wp2_with fail
        refine (divideByWord_any g1 n' n 1000000000 (mag gk) post wr HBK.out HLEN.out (by omega) (by omega) (by omega)).mono ?_
        rintro e w3 ⟨q, rfl, hq1, hq2, hq3, hon3, hs3⟩
        rw [val_mag] at hq2
        have HQ := Lib.hid hq3
        have HQ1 := Lib.hid hq1
        have HQ2 := Lib.hid hq2
        have HON := Lib.hid hon3
        have HS3 := Lib.hid hs3
        clear hq1 hq2 hq3 hon3 hs3
        rw [val_mag]
        obtain ⟨r, hr⟩ : ∃ r, r = gk % 1000000000 := ⟨_, rfl⟩
        have hr9 : r < 1000000000 := by omega
        rw [← hr]
        have HR := Lib.hid hr
        clear hr
        go_wp2_with fail
        refine (digitsOf_any r w3 (by omega)).mono ?_
        rintro e w4 ⟨rfl, hbl4⟩
        have HB4 := Lib.hid hbl4
        clear hbl4
        simp only [bv, dgs, List.map_cons, List.map_nil]
        obtain ⟨i5, hi5, hz50, hz51, hz52⟩ := info_parts u8_info
        have hj9 : 9 * j < 2000000 := by
          have h2 : 10 ^ (9 * j) ≤ z.natAbs := by
            rcases Nat.lt_or_ge z.natAbs (10 ^ (9 * j)) with h | h
            · exact absurd (HK.out.trans (Nat.div_eq_of_lt h)) hgk
            · exact h
          exact ten_words h2 HZ.out.lt
        have own4 : w4.ownsRow (g1 + 1) 5 1 u4 (9 * j) (bv (dgs (9 * j) z.natAbs)) := (HOWN.out.kept HON.out (own_ne HOWN.out)).kept (below_grown HB4.out none) (by cases u4.ownBlock <;> simp)
        have hs4 : g1 + 1 ≤ w4.heap.size := by have h1 := HB4.out.size; have h2 := HS3.out; have h3 := HBK.out.lt; omega
        have hml : 9 * j + 9 ≤ maxLen := by unfold maxLen; omega
        go_wp2_with (first
          | (at_builtin; refine wpList_append_lies _ rfl (.tmp 20) (.tmp 21) 145 rfl (g1 + 1) 5 i5 (.int .u8 0) 1 1 Try.underlying145 hi5 hz50 hz51 hz52 rfl (by omega) _ (9 * j) (bv (dgs (9 * j) z.natAbs)) rfl (own4.alloc _) ⟨w4.heap.size, 0, none⟩ 9 9 (bv (dgs 9 r)) rfl rfl (fun k u hu => World.news_of_block (heap_alloc_new w4 _) k u (by simpa [bv, dgs] using hu)) (bv_one _) (by omega) hml (by omega) (by simp; omega) (w4.heap.size + 1) (by simp) ?_; intro g5 cap w5 hown5 hgrow5 hat5 hlt5))
        have hne5 : some g1 ≠ u4.ownBlock := by rcases own_ne HOWN.out with e | e <;> (intro e2; rw [← e2] at e; simp at e)
        have hbk6 : Blk w5 g1 (q ++ post) := Blk.grown ((HQ.out.below HB4.out (by have h1 := HS3.out; have h2 := HBK.out.lt; omega)).alloc _) hgrow5 hne5
        have hqw : Wd w5 (some ⟨g1, 0, none⟩) n' q := by
          have h1 := hbk6.front (n := n') (by have h2 := HQ1.out; have h3 := HLEN.out; simp; omega)
          rwa [List.take_left' (by have h2 := HQ1.out; have h3 := HLEN.out; omega)] at h1
        have hgb : Below (g + 1) wr w5 := by
          have e1 : Below (g + 1) wr w3 := HON.out.below (by have := hg1.out; omega) (by have := HBX.out.lt; omega)
          have e2 : Below (g + 1) w3 w4 := HB4.out.mono (by have h1 := HS3.out; have h2 := HBX.out.lt; omega)
          refine ((e1.trans e2).alloc (by have h1 := (e1.trans e2).size; have h2 := HBX.out.lt; omega) _).trans (grown_below hgrow5 (fun k hk => ?_) (by have h1 := (e1.trans e2).size; have h2 := HBX.out.lt; simp; omega))
          have h3 := (HOWN.out.lt k hk).1
          have := hg1.out
          omega
        have HB5 := Lib.hid hbk6
        have HGB := Lib.hid hgb
        have HO5 := Lib.hid hown5
        clear hbk6 hgb hown5 hgrow5 hat5 own4
        refine (trim_any (some ⟨g1, 0, none⟩) n' n q w5 hqw (by omega) (by omega)).mono ?_
        rintro e w6 ⟨m, hm1, rfl, hm2, rfl⟩
        have HM1 := Lib.hid hm1
        have HM2 := Lib.hid hm2
        clear hm1 hm2 hqw
        go_wp2
        go_roundg (gk / 1000000000)
        case measure => omega
        case rel =>
          have hm2 := HM2.out
          rw [HQ2.out] at hm2
          have hd : gk / 1000000000 = z.natAbs / 10 ^ (9 * (j + 1)) := by
            rw [HK.out, Nat.div_div_eq_div_mul, show 9 * (j + 1) = 9 * j + 9 by omega, Nat.pow_add]
          have hdg : bv (dgs (9 * j) z.natAbs) ++ bv (dgs 9 r) = bv (dgs (9 * (j + 1)) z.natAbs) := by
            rw [show 9 * (j + 1) = 9 * j + 9 by omega, dgs_add, bv_app, ← HK.out, HR.out, show (1000000000 : Nat) = 10 ^ 9 by rfl, dgs_mod]
          have hl : (q.take m).length = m := by rw [List.length_take]; have := HM1.out; omega
          refine ⟨j + 1, m, q.drop m ++ post, hd, rfl, ?_, ?_, ?_, ?_, ?_, HBX.out.below HGB.out (by omega), fun _ => by omega, by omega⟩
          · have h1 := HM1.out; have h2 := HQ1.out; have h3 := HLEN.out; omega
          · rw [← hm2, ← List.append_assoc, List.take_append_drop]; exact HB5.out
          · rw [← hm2]; exact hl
          · have h1 := HO5.out
            rw [hdg] at h1
            rw [show 9 * (j + 1) = 9 * j + 9 by omega] at h1 ⊢
            exact h1
          · exact HBL.out.trans (HGB.out.mono (by omega))
end Go.Proofs.Ytfigimfdojbkeaa
end
