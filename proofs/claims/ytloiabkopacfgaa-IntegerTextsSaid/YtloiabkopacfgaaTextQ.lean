/-
  Parse, by what its text is.
-/
import Derived.Test.YtloiabkopacfgaaTextP
import Derived.Test.YtloiabkopacfgaaRegE
namespace Go.Proofs.Ytloiabkopacfgaa
open Go.RowKit

theorem ext_one (s : ByteArray) : (s.extract 1 s.size).data.toList = s.data.toList.drop 1 := by
  rw [ByteArray.data_extract, Array.toList_extract, List.extract_eq_take_drop]
  exact List.take_of_length_le (by rw [List.length_drop, Array.length_toList]; exact Nat.le_refl _)
theorem byte_zero {s : ByteArray} (h : 0 < s.size) : s.data.toList[0]? = some 45 ↔ s[0].toNat = 45 := by
  rw [byte_at s 0 h]
  constructor
  · intro e
    rw [Option.some.inj e]; rfl
  · intro e
    congr 1
    exact UInt8.toNat_inj.1 e
theorem parse_ok (s : ByteArray) (w : World) (hs : s.size ≤ 4000) (h : pok s.data.toList) : Calls Try.prog 45 #[.string s] w (RetE (pval s.data.toList) 0 w) := by
  have hz : s.toList ≠ [45, 48] := by rw [ByteArray.toList_eq]; exact h.2
  rcases Nat.eq_zero_or_pos s.size with h0 | h0
  · exfalso
    have : s.data.toList = [] := List.eq_nil_of_length_eq_zero (by rw [Array.length_toList]; exact h0)
    have h1 := h.1.2.1
    rw [this] at h1
    exact h1 rfl
  · by_cases hm : s[0].toNat = 45
    · have e1 := (byte_zero h0).2 hm
      have e2 : pdig s.data.toList = (s.extract 1 s.size).data.toList := by rw [ext_one]; unfold pdig; rw [if_pos e1]
      have h1 := h.1
      unfold pval
      rw [e2] at h1 ⊢
      rw [decide_eq_true e1]
      exact parseNeg_ok s w hs h0 hm h1 hz
    · have e1 : ¬ s.data.toList[0]? = some 45 := fun e => hm ((byte_zero h0).1 e)
      have e2 : pdig s.data.toList = s.data.toList := by unfold pdig; rw [if_neg e1]
      have h1 := h.1
      unfold pval
      rw [e2] at h1 ⊢
      rw [decide_eq_false e1]
      exact parsePos_ok s w hs h0 hm h1 hz
theorem parse_no (s : ByteArray) (w : World) (hs : s.size ≤ 4000) (h : ¬ pok s.data.toList) : Calls Try.prog 45 #[.string s] w (RetE 0 3 w) := by
  rcases Nat.eq_zero_or_pos s.size with h0 | h0
  · refine parseNil_bad s w hs h0 (fun hn => ?_)
    have : s.data.toList = [] := List.eq_nil_of_length_eq_zero (by rw [Array.length_toList]; exact h0)
    exact hn.2.1 this
  · by_cases hm : s[0].toNat = 45
    · have e1 := (byte_zero h0).2 hm
      have e2 : pdig s.data.toList = (s.extract 1 s.size).data.toList := by rw [ext_one]; unfold pdig; rw [if_pos e1]
      by_cases hn : IsNum (s.extract 1 s.size).data.toList
      · refine parseNeg_mz s w hs h0 hm hn ?_
        rw [ByteArray.toList_eq]
        by_cases hz : s.data.toList = [45, 48]
        · exact hz
        · exact absurd ⟨by rw [e2]; exact hn, hz⟩ h
      · exact parseNeg_bad s w hs h0 hm hn
    · have e1 : ¬ s.data.toList[0]? = some 45 := fun e => hm ((byte_zero h0).1 e)
      have e2 : pdig s.data.toList = s.data.toList := by unfold pdig; rw [if_neg e1]
      refine parsePos_bad s w hs h0 hm (fun hn => h ⟨by rw [e2]; exact hn, fun e => ?_⟩)
      exact e1 (by rw [e]; rfl)
/-- The text of an integer as Text returns it. -/
def txs (z : Int) : ByteArray := ⟨((txb z).map UInt8.ofNat).toArray⟩
theorem gs_txs (z : Int) : gs (txb z) = .string (txs z) := rfl
theorem txs_list (z : Int) : (txs z).data.toList = u8 (txb z) := rfl
theorem txs_inj {a b : Int} (h : txs a = txs b) : a = b := by
  have e := congrArg (fun s : ByteArray => s.data.toList) h
  simp only [txs_list] at e
  have h1 := (pok_text a).2
  rw [e, (pok_text b).2] at h1
  exact h1.symm
theorem txb_len {z : Int} {N : Nat} (h : Sz z N) : (txb z).length ≤ 10 * N + 2 := by
  unfold txb
  split
  · simp
  · have h1 : z.natAbs < 10 ^ (10 * N) := by
      refine Nat.lt_of_lt_of_le h.lt ?_
      unfold pw
      rw [Nat.pow_mul]
      exact Nat.pow_le_pow_left (by omega) N
    have h2 := rd_len_le _ _ h1
    rw [List.length_append, List.length_reverse]
    split <;> simp <;> omega
end Go.Proofs.Ytloiabkopacfgaa

namespace Go.Proofs.Ytloiabkopacfgaa
open Go.RowKit

theorem text_is (v : Value) (z : Int) (w : World) (hv : Iv w v z) (hz : Sz z 200000) : Calls Try.prog 44 #[v] w (RetV (.string (txs z)) w) :=
  (text_any v z w hv hz).mono fun e w' ⟨h, hb⟩ => ⟨by rw [h, gs_txs], hb⟩
theorem txs_size {z : Int} {N : Nat} (h : Sz z N) : (txs z).size ≤ 10 * N + 2 := by
  have e : (txs z).size = (txb z).length := by
    show (((txb z).map UInt8.ofNat).toArray).size = _
    simp
  rw [e]
  exact txb_len h
theorem parse_text (z : Int) (w : World) (h : Sz z 300) : Calls Try.prog 45 #[.string (txs z)] w (RetE z 0 w) := by
  have h1 := parse_ok (txs z) w (by have := txs_size h; omega) (pok_text z).1
  rwa [txs_list, (pok_text z).2] at h1
theorem same_false (va vb : Value) (a b : Int) (w : World) (ha : Iv w va a) (hb : Iv w vb b) (sa : Sz a 1000000) (sb : Sz b 1000000) (h : a ≠ b) : Calls Try.prog 19 #[va, vb] w (RetV (.bool false) w) := by
  have := same_any va vb a b w ha hb sa sb
  rwa [decide_eq_false h] at this
theorem run_eql_str {o : Oper} {w : World} {ρ : Operand → Value} {x y : Operand} {t u : TypeId} {a b : ByteArray} (ho : o.op = .binOp .eql t x y u) (hx : ρ x = .string a) (hy : ρ y = .string b) : (execOp ρ o).run Try.prog w = .ok (.value (.bool (a.toList == b.toList))) w := by
  simp [execOp, ho, hx, hy, go_sem]
theorem run_neq_bool {o : Oper} {w : World} {ρ : Operand → Value} {x y : Operand} {u : TypeId} {a b : Bool} (ho : o.op = .binOp .neq 4 x y u) (hx : ρ x = .bool a) (hy : ρ y = .bool b) : (execOp ρ o).run Try.prog w = .ok (.value (.bool (a != b))) w := by
  simp [execOp, ho, hx, hy, go_sem, Try.underlying4]
  cases a <;> cases b <;> rfl
theorem txs_ne {a b : Int} (h : a ≠ b) : ((txs a).toList == (txs b).toList) = false := by
  rw [beq_eq_false_iff_ne]
  intro e
  rw [ByteArray.toList_eq, ByteArray.toList_eq] at e
  apply h
  have h1 := (pok_text a).2
  rw [show u8 (txb a) = u8 (txb b) from e, (pok_text b).2] at h1
  exact h1.symm
theorem odd_ne {s : ByteArray} {z : Int} (h : ¬ pok s.data.toList) : (s.toList == (txs z).toList) = false := by
  rw [beq_eq_false_iff_ne]
  intro e
  rw [ByteArray.toList_eq, ByteArray.toList_eq] at e
  apply h
  rw [e]
  exact (pok_text z).1
theorem txs_back {s : ByteArray} (h : pok s.data.toList) : txs (pval s.data.toList) = s := by
  have e := text_pok h
  obtain ⟨⟨l⟩⟩ := s
  show ByteArray.mk ((txb _).map UInt8.ofNat).toArray = _
  congr 1
  congr 1
theorem pval_sz {s : ByteArray} (hs : s.size ≤ 4000) (h : pok s.data.toList) : Sz (pval s.data.toList) 4000 := ⟨by
  unfold pval
  rw [sgn_abs]
  have h1 := dv_lt _ _ rfl h.1.1
  have h2 : (pdig s.data.toList).length ≤ 4000 := by
    have h3 : s.data.toList.length = s.size := by rw [Array.length_toList]; rfl
    unfold pdig
    split
    · rw [List.length_drop]; omega
    · omega
  exact lt_pw h1 h2⟩
end Go.Proofs.Ytloiabkopacfgaa
