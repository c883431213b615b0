/-
  Laws for making and copying rows of words. No function of the program is named here.
-/
import Derived.OwnWalk
import Derived.Deep.OwnRows
import Derived.Laws.CopyOwn
import Derived.Test.YtpklphdhigkmmaaMem
namespace Go.Proofs.Ytpklphdhigkmmaa
open Go.RowKit

theorem made_words (n : Nat) : madeCells #[Value.int .u32 0] n = ((List.replicate n 0).map cv).toArray := by
  apply Array.ext
  · simp [madeCells]
  · intro i h1 h2
    simp [madeCells, cv, Nat.mod_one]

theorem run_make_blk {P : Program} (t : TypeId) (hu : P.underlying t = some (.slice 50)) (hinfo : (P.info? 50).map (fun i => (i.zero, i.size, i.bytes)) = some (some (.int .u32 0), 1, 4))
    (kl kc : IntKind) (n : Nat) (hn : n ≤ 17592186044416) (w : World) :
    ∃ w', (Instr.makeSlice t (.int kl (n : Int)) (.int kc (n : Int))).run P w = .ok (.slice (some ⟨w.heap.size, 0, none⟩) n n) w' ∧ Blk w' w.heap.size (List.replicate n 0) ∧ w'.heap.size = w.heap.size + 1 ∧ Below w.heap.size w w' := by
  refine ⟨_, run_make_row' t 50 _ 4 hu hinfo rfl kl kc n (by omega) (by omega) w, ⟨?_, Wds.replicate n⟩, by simp, (Below.refl _ _).alloc (Nat.le_refl _) _⟩
  rw [heap_alloc_new, made_words]

theorem wpList_make_blk {P : Program} {w : World} {ops : Array Oper} {rest : List Oper} {o : Oper} {a : Act} {Q : Exit → Act → World → Prop}
    (hg : o.guard = none) (l c : Operand) (t : TypeId) (hop : o.op = Op.makeSlice t l c)
    (hu : P.underlying t = some (.slice 50)) (hinfo : (P.info? 50).map (fun i => (i.zero, i.size, i.bytes)) = some (some (.int .u32 0), 1, 4))
    (kl kc : IntKind) (L C : Int) (n : Nat) (hl : a.eval l = .int kl L) (hc : a.eval c = .int kc C) (hL : L = (n : Int)) (hC : C = (n : Int)) (hn : n ≤ 17592186044416)
    (hK : ∀ w', Blk w' w.heap.size (List.replicate n 0) → w'.heap.size = w.heap.size + 1 → Below w.heap.size w w' → wpList P ops Q rest (a.put o.dst (.slice (some ⟨w.heap.size, 0, none⟩) n n)) w') :
    wpList P ops Q (o :: rest) a w := by
  refine wpList_plain hg fun K hK' => ?_
  obtain ⟨w', hrun, r1, r2, r3⟩ := run_make_blk (P := P) t hu hinfo kl kc n hn w
  subst hL
  subst hC
  unfold Oper.wp
  simp [execOp, hop, hl, hc, hrun, Result.andThen]
  exact hK' _ _ (hK w' r1 r2 r3)

theorem splice_map (z xs : List Nat) (off : Nat) : splice (z.map cv) off (xs.map cv) = (splice z off xs).map cv := by
  simp [splice, List.map_take, List.map_drop]
theorem splice_wds {z xs : List Nat} (hz : Wds z) (hx : Wds xs) (off : Nat) : Wds (splice z off xs) := by
  unfold splice
  exact (hz.take _).append (hx.append (hz.drop _))

/-- copy(out[off:..], src): the words of the source lie in the block afterwards. -/
theorem wpList_copy_blk {P : Program} {w : World} {ops : Array Oper} {rest : List Oper} {o : Oper} {a : Act} {Q : Exit → Act → World → Prop} (hgd : o.guard = none) (d s : Operand) (dT sT : TypeId)
    (ho : o.op = .call { callee := .builtin .copy, args := #[d, s], argTypes := #[dT, sT] }) (hu : P.underlying dT = some (.slice 50)) (hsz : (P.info? 50).map (·.size) = some 1)
    (g off : Nat) (dLen dCap : Nat) (A : Option Addr) (n sCap : Nat) (hd : a.eval d = .slice (some ⟨g, off, none⟩) dLen dCap) (hs : a.eval s = .slice A n sCap)
    (z xs : List Nat) (hb : Blk w g z) (hx : Wd w A n xs) (hn : n ≤ dLen) (hfit : off + n ≤ z.length) (B : Nat) (w0 : World) (hw : Below B w0 w) (hBg : B ≤ g)
    (h : ∀ w', Blk w' g (splice z off xs) → Below B w0 w' → wpList P ops Q rest (a.put o.dst (goInt n)) w') :
    wpList P ops Q (o :: rest) a w := by
  have hl : (xs.map cv).length = n := by rw [List.length_map, hx.len]
  refine wpList_copy_splice hgd d s dT sT ho 50 hu hsz _ A dLen dCap n sCap hd hs g off (z.map cv) 50 hb.1 (xs.map cv) (by rw [hl]; exact (Nat.min_eq_left hn).symm) ?_ (by rw [hl, List.length_map]; exact hfit) ?_ B w0 hw hBg ?_
  · intro h0
    rw [hl] at h0
    obtain ⟨ad, e, _, hc⟩ := hx.2.2 h0
    refine ⟨rfl, ad, e, fun j v hv => ?_⟩
    have hj : j < n := by
      have := (List.getElem?_eq_some_iff.1 hv).1
      rwa [hl] at this
    rw [hc j hj, ← hv, List.getElem?_map, gd_eq, List.getElem?_eq_getElem (by rw [hx.len]; exact hj)]
    rfl
  · intro v hv
    obtain ⟨x, _, rfl⟩ := List.mem_map.1 hv
    rfl
  · intro w' h1 h2
    rw [hl]
    refine h w' ⟨?_, splice_wds hb.2 hx.wds off⟩ h2
    rw [← splice_map]
    exact h1.out
theorem splice_full (z xs : List Nat) (h : z.length = xs.length) : splice z 0 xs = xs := by
  simp [splice, h]
end Go.Proofs.Ytpklphdhigkmmaa
