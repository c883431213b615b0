/-
  Layer 2's law of the texts.
-/
import Derived.Test.YtfigimfdojbkeaaGreatRatU
import Derived.Test.YtfigimfdojbkeaaGreatRatJ
import Derived.Deep.DeepCutAuto
import Derived.Handy
set_option linter.unusedSimpArgs false
set_option linter.unusedVariables false
namespace Go.Proofs.YtfigimfdojbkeaaGreat
open Go.RowKit
attribute [local go_sem ↓] Go.wp_at_zero Go.wp_at_succ

theorem pok_no {l : List UInt8} (h : pok l) : (47 : UInt8) ∉ l ∧ (43 : UInt8) ∉ l := by
  obtain ⟨⟨h1, _, _⟩, _⟩ := h
  have hb : ∀ b ∈ l, b = 45 ∨ (48 ≤ b.toNat ∧ b.toNat ≤ 57) := by
    intro b hm
    unfold pdig at h1
    split at h1
    · rename_i h0
      cases l with
      | nil => cases hm
      | cons c l =>
        simp at h0
        rcases List.mem_cons.1 hm with e | e
        · left; rw [e, h0]
        · right; exact h1 b (by simpa using e)
    · right; exact h1 b hm
  refine ⟨fun e => ?_, fun e => ?_⟩ <;> rcases hb _ e with h | h <;> revert h <;> decide
theorem ix_no {l : List UInt8} (h : (47 : UInt8) ∉ l) : Lib.indexByte l 47 = -1 := by
  rcases ixB_cases l 47 with h1 | ⟨i, _, _, h3, _⟩
  · exact h1.1
  · exact absurd (List.mem_of_getElem? h3) h
theorem ix_at {l r : List UInt8} (h : (47 : UInt8) ∉ l) : Lib.indexByte (l ++ 47 :: r) 47 = (l.length : Int) := by
  rcases ixB_cases (l ++ 47 :: r) 47 with ⟨_, h1⟩ | ⟨i, h1, h2, h3, h4⟩
  · exact absurd (by simp) h1
  · have e : i = l.length := by
      rcases Nat.lt_trichotomy i l.length with k | k | k
      · rw [List.getElem?_append_left k] at h3
        exact absurd (List.mem_of_getElem? h3) h
      · exact k
      · exact absurd (List.mem_of_getElem? (i := l.length) (by rw [List.getElem?_take, if_pos k]; simp)) h4
    rw [h2, e]
theorem txs_data (z : Int) : pok (txs z).data.toList ∧ pval (txs z).data.toList = z := pok_text z
theorem qtx_one {a : Rat} (h : (a.den : Int) = 1) : qtx a = txs a.num := if_pos h
theorem qtx_two {a : Rat} (h : (a.den : Int) ≠ 1) : qtx a = txs a.num ++ slash ++ txs a.den := if_neg h
theorem two_data (n d : ByteArray) : (n ++ slash ++ d).data.toList = n.data.toList ++ 47 :: d.data.toList := by simp [slash]
theorem ext_data (s : ByteArray) (i j : Nat) : (s.extract i j).data.toList = (s.data.toList.take j).drop i := by
  rw [ByteArray.data_extract, Array.toList_extract, List.extract_eq_take_drop, List.take_drop]
  by_cases h : i ≤ j
  · rw [show i + (j - i) = j by omega]
  · rw [List.drop_eq_nil_of_le (by simp; omega), List.drop_eq_nil_of_le (by simp; omega)]
theorem size_len (s : ByteArray) : s.data.toList.length = s.size := by simp
theorem qtx_size {a : Rat} (sa : Sr a 100) : (qtx a).size ≤ 3000 := by
  have h1 := txs_size sa.num
  have h2 := txs_size sa.den
  by_cases h : (a.den : Int) = 1
  · rw [qtx_one h]; omega
  · rw [qtx_two h, ByteArray.size_append, ByteArray.size_append]
    have : slash.size = 1 := rfl
    omega
theorem qp_text (a : Rat) (w : World) (sa : Sr a 100) : Calls Tryz.prog 47 #[.string (qtx a)] w (RetQE a.num a.den w) := by
  have hs := qtx_size sa
  by_cases h : (a.den : Int) = 1
  · rw [qtx_one h] at hs ⊢
    have e := txs_data a.num
    have k := qparse_int (txs a.num) w (by omega) (ix_no (pok_no e.1).1) e.1
    rw [e.2] at k
    rw [h]
    exact k
  · rw [qtx_two h] at hs ⊢
    have e := txs_data a.num
    have e2 := txs_data (a.den : Int)
    have hl := two_data (txs a.num) (txs a.den)
    have hn := size_len (txs a.num)
    have hz := size_len (txs a.num ++ slash ++ txs a.den)
    have hi : (txs a.num).size < (txs a.num ++ slash ++ txs a.den).size := by
      rw [ByteArray.size_append, ByteArray.size_append]
      have : slash.size = 1 := rfl
      omega
    have x1 : ((txs a.num ++ slash ++ txs a.den).extract 0 (txs a.num).size).data.toList = (txs a.num).data.toList := by
      rw [ext_data, hl, List.drop_zero, ← hn, List.take_left]
    have x2 : ((txs a.num ++ slash ++ txs a.den).extract ((txs a.num).size + 1) (txs a.num ++ slash ++ txs a.den).size).data.toList = (txs a.den).data.toList := by
      rw [ext_data, ← hz, List.take_length, hl, ← hn]
      rw [show (txs a.num).data.toList ++ 47 :: (txs a.den).data.toList = ((txs a.num).data.toList ++ [47]) ++ (txs a.den).data.toList by simp]
      rw [show (txs a.num).data.toList.length + 1 = ((txs a.num).data.toList ++ [47]).length by simp, List.drop_left]
    have k := qparse_frac (txs a.num ++ slash ++ txs a.den) w (by omega) (txs a.num).size hi (by rw [hl, ix_at (pok_no e.1).1, hn]) (by rw [x1]; exact e.1) (by rw [x2]; exact e2.1) (by rw [x2, e2.2]; exact den_cast a) (by rw [x1, x2, e.2, e2.2, Int.natAbs_natCast]; exact gcd_num a) (by rw [x2, e2.2]; exact h)
    rw [x1, x2, e.2, e2.2] at k
    exact k
def plus : ByteArray := ⟨#[43]⟩
theorem plus_data (s : ByteArray) : (plus ++ s).data.toList = 43 :: s.data.toList := by simp [plus]
theorem no_plus (l : List UInt8) : ¬ pok (43 :: l) := fun h => (pok_no h).2 (by simp)
theorem qp_plus (a : Rat) (w : World) (sa : Sr a 100) : Calls Tryz.prog 47 #[.string (plus ++ qtx a)] w (RetV (.tuple #[zeroQ, .int .i64 3]) w) := by
  have hs : (plus ++ qtx a).size ≤ 4000 := by
    have := qtx_size sa
    rw [ByteArray.size_append]
    have : plus.size = 1 := rfl
    omega
  by_cases h : (a.den : Int) = 1
  · have e := txs_data a.num
    refine qparse_badint _ w hs ?_ (by rw [plus_data]; exact no_plus _)
    rw [plus_data, qtx_one h]
    apply ix_no
    simp only [List.mem_cons, not_or]
    exact ⟨by decide, (pok_no e.1).1⟩
  · have e := txs_data a.num
    have hl : (plus ++ qtx a).data.toList = (43 :: (txs a.num).data.toList) ++ 47 :: (txs a.den).data.toList := by rw [plus_data, qtx_two h, two_data]; rfl
    have hz := size_len (plus ++ qtx a)
    have hm : (47 : UInt8) ∉ (43 :: (txs a.num).data.toList) := by
      simp only [List.mem_cons, not_or]
      exact ⟨by decide, (pok_no e.1).1⟩
    refine qparse_bad1 _ w hs (43 :: (txs a.num).data.toList).length ?_ (by rw [hl]; exact ix_at hm) ?_
    · rw [← hz, hl]; simp
    · rw [ext_data, hl, List.drop_zero, List.take_left]; exact no_plus _
theorem qtx_inj {a b : Rat} (h : qtx a = qtx b) : a = b := by
  have ea := txs_data a.num; have eb := txs_data b.num
  by_cases h1 : (a.den : Int) = 1 <;> by_cases h2 : (b.den : Int) = 1
  · rw [qtx_one h1, qtx_one h2] at h
    exact Rat.ext (txs_inj h) (by omega)
  · exfalso
    have k := congrArg (fun s : ByteArray => Lib.indexByte s.data.toList 47) h
    try dsimp only at k
    rw [qtx_one h1, qtx_two h2, two_data, ix_no (pok_no ea.1).1, ix_at (pok_no eb.1).1] at k
    omega
  · exfalso
    have k := congrArg (fun s : ByteArray => Lib.indexByte s.data.toList 47) h
    try dsimp only at k
    rw [qtx_two h1, qtx_one h2, two_data, ix_no (pok_no eb.1).1, ix_at (pok_no ea.1).1] at k
    omega
  · have k := congrArg (fun s : ByteArray => Lib.indexByte s.data.toList 47) h
    have d := congrArg (fun s : ByteArray => s.data.toList) h
    try dsimp only at k d
    rw [qtx_two h1, qtx_two h2, two_data, two_data, ix_at (pok_no ea.1).1, ix_at (pok_no eb.1).1] at k
    rw [qtx_two h1, qtx_two h2, two_data, two_data] at d
    obtain ⟨d1, d2⟩ := List.append_inj d (by omega)
    have d3 := (List.cons.inj d2).2
    have n1 := ea.2; rw [d1, eb.2] at n1
    have n2 := (txs_data (a.den : Int)).2; rw [d3, (txs_data (b.den : Int)).2] at n2
    exact Rat.ext n1.symm (by omega)
theorem qtx_eq (a b : Rat) : ((qtx a).toList == (qtx b).toList) = decide (a = b) := by
  by_cases h : a = b
  · rw [h, decide_eq_true rfl]; simp
  · rw [decide_eq_false h, beq_eq_false_iff_ne]
    intro e
    rw [ByteArray.toList_eq, ByteArray.toList_eq] at e
    exact h (qtx_inj (by cases hh : qtx a; cases kk : qtx b; rw [hh, kk] at e; simpa using Array.toList_inj.1 e))
section
variable {o : Oper} {w : World} {ρ : Operand → Value} {x y : Operand} {t u : TypeId}
theorem run_eqlS {a b : ByteArray} {r : Bool} (ho : o.op = .binOp .eql t x y u) (hx : ρ x = .string a) (hy : ρ y = .string b) (h : (a.toList == b.toList) = r) : (execOp ρ o).run Tryz.prog w = .ok (.value (.bool r)) w := h ▸ run_eql_str ho hx hy
set_option maxRecDepth 100000 in
theorem run_eqlB {b : Bool} (ho : o.op = .binOp .eql 4 x y u) (hx : ρ x = .bool b) (hy : ρ y = .bool b) : (execOp ρ o).run Tryz.prog w = .ok (.value (.bool true)) w := by
  have h : (binOp .eql 4 (.bool b) (.bool b)).run Tryz.prog w = .ok (.bool true) w := by cases b <;> rfl
  simp [execOp, ho, hx, hy, go_sem, h]
end

end Go.Proofs.YtfigimfdojbkeaaGreat
