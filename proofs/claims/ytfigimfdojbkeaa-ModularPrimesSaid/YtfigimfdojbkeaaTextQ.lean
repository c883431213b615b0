/-
  Texts and numbers: there and back.
  Parse, by what its text is.
-/
import Derived.Test.YtfigimfdojbkeaaParseD
import Derived.Test.YtfigimfdojbkeaaLawE
set_option linter.unusedSimpArgs false
set_option linter.unusedVariables false
namespace Go.Proofs.Ytfigimfdojbkeaa
open Go.RowKit

def u8 (l : List Nat) : List UInt8 := l.map UInt8.ofNat
theorem u8_app (a b : List Nat) : u8 (a ++ b) = u8 a ++ u8 b := by simp [u8]
theorem u8_nat {x : Nat} (h : x < 256) : (UInt8.ofNat x).toNat = x := u8_back h
theorem of_toNat (b : UInt8) : UInt8.ofNat b.toNat = b := by
  apply UInt8.toNat_inj.1
  exact u8_back (UInt8.toNat_lt b)

theorem dv_rd : ∀ (n x : Nat), x ≤ n → dv (u8 (rd x).reverse) = x
  | 0, x, h => by
    obtain rfl : x = 0 := by omega
    rw [rd_zero]; rfl
  | n + 1, x, h => by
    rcases Nat.eq_zero_or_pos x with rfl | hx
    · rw [rd_zero]; rfl
    · rw [rd_pos hx, List.reverse_cons, u8_app]
      show dv (u8 (rd (x / 10)).reverse ++ [UInt8.ofNat (48 + x % 10)]) = x
      rw [dv_snoc, dv_rd n (x / 10) (by omega), u8_nat (by omega)]
      omega
theorem num_rd {x : Nat} (hx : 0 < x) : IsNum (u8 (rd x).reverse) := by
  refine ⟨fun b hb => ?_, ?_, .inr ?_⟩
  · obtain ⟨y, hy, rfl⟩ := List.mem_map.1 hb
    have := rd_byte (List.mem_reverse.1 hy)
    rw [u8_nat (by omega)]
    omega
  · intro e
    have h1 : (u8 (rd x).reverse).length = 0 := by rw [e]; rfl
    rw [u8, List.length_map, List.length_reverse] at h1
    have := rd_len_pos hx
    omega
  · intro e
    have h1 := rd_len_pos hx
    have h2 : (u8 (rd x).reverse)[0]? = some (UInt8.ofNat ((rd x)[(rd x).length - 1]'(by omega))) := by
      rw [u8, List.getElem?_map, List.getElem?_reverse (by omega), List.getElem?_eq_getElem (by omega)]
      simp
    rw [h2] at e
    have h3 := Option.some.inj e
    have h4 := rd_last x hx _ (List.getElem?_eq_getElem (by omega))
    have h5 := rd_byte (List.getElem_mem (show (rd x).length - 1 < (rd x).length by omega))
    apply h4
    have h6 := congrArg UInt8.toNat h3
    exact (u8_nat (by omega)).symm.trans h6
theorem rd_dv : ∀ (n : Nat) (l : List UInt8), l.length = n → (∀ b ∈ l, 48 ≤ b.toNat ∧ b.toNat ≤ 57) → l[0]? ≠ some 48 → u8 (rd (dv l)).reverse = l
  | 0, l, h, _, _ => by
    rw [List.eq_nil_of_length_eq_zero h, dv_nil, rd_zero]; rfl
  | n + 1, l, h, hb, h0 => by
    rcases List.eq_nil_or_concat l with rfl | ⟨l', b, rfl⟩
    · simp at h
    · simp only [List.concat_eq_append] at *
      simp at h
      have hbb := hb b (by simp)
      have e48 : 48 + (b.toNat - 48) = b.toNat := by omega
      rcases Nat.eq_zero_or_pos n with hn | hn
      · have : l' = [] := List.eq_nil_of_length_eq_zero (by omega)
        subst this
        simp only [List.nil_append] at *
        have hne : b.toNat ≠ 48 := fun e => h0 (by
          have : b = 48 := UInt8.toNat_inj.1 e
          rw [this]; rfl)
        have e1 : dv [b] = b.toNat - 48 := by simp [dv]
        rw [e1, rd_pos (by omega), show (b.toNat - 48) / 10 = 0 by omega, rd_zero, show (b.toNat - 48) % 10 = b.toNat - 48 by omega, e48]
        simp [u8]
      · have ih := rd_dv n l' h (fun c hc => hb c (by simp [hc])) (by
          rw [List.getElem?_append_left (by omega)] at h0
          exact h0)
        have hp : 0 < dv l' := by
          rcases Nat.eq_zero_or_pos (dv l') with e | e
          · rw [e, rd_zero] at ih
            have := congrArg List.length ih
            simp [u8] at this
            omega
          · exact e
        rw [dv_snoc, rd_pos (by omega), show (10 * dv l' + (b.toNat - 48)) / 10 = dv l' by omega, show (10 * dv l' + (b.toNat - 48)) % 10 = b.toNat - 48 by omega, List.reverse_cons, u8_app, ih, e48]
        simp [u8]

/-- What Parse takes, and its value. -/
def pdig (l : List UInt8) : List UInt8 := if l[0]? = some 45 then l.drop 1 else l
def pok (l : List UInt8) : Prop := IsNum (pdig l) ∧ l ≠ [45, 48]
def pval (l : List UInt8) : Int := sgn (decide (l[0]? = some 45)) (dv (pdig l))

theorem pok_text (z : Int) : pok (u8 (txb z)) ∧ pval (u8 (txb z)) = z := by
  unfold txb
  by_cases h0 : z = 0
  · subst h0
    rw [if_pos rfl]
    have e : u8 [48] = [48] := rfl
    rw [e]
    exact ⟨⟨⟨by decide, by decide, .inl rfl⟩, by decide⟩, rfl⟩
  · rw [if_neg h0]
    have hx : 0 < z.natAbs := by omega
    by_cases hn : z < 0
    · rw [if_pos hn]
      have e : u8 ([45] ++ (rd z.natAbs).reverse) = 45 :: u8 (rd z.natAbs).reverse := rfl
      rw [e]
      have e1 : pdig (45 :: u8 (rd z.natAbs).reverse) = u8 (rd z.natAbs).reverse := by simp [pdig]
      refine ⟨⟨by rw [e1]; exact num_rd hx, fun e2 => ?_⟩, ?_⟩
      · have e3 : u8 (rd z.natAbs).reverse = [48] := by simpa using e2
        have e4 := dv_rd _ z.natAbs (Nat.le_refl _)
        rw [e3] at e4
        simp [dv] at e4
        omega
      · unfold pval
        rw [e1, dv_rd _ _ (Nat.le_refl _)]
        simp [sgn]
        omega
    · rw [if_neg hn]
      simp only [List.nil_append]
      have hnum := num_rd hx
      have hd : (u8 (rd z.natAbs).reverse)[0]? ≠ some 45 := fun e => by
        have := hnum.1 45 (List.mem_of_getElem? e)
        simp at this
      have e1 : pdig (u8 (rd z.natAbs).reverse) = u8 (rd z.natAbs).reverse := by unfold pdig; rw [if_neg hd]
      refine ⟨⟨by rw [e1]; exact hnum, fun e2 => hd (by rw [e2]; rfl)⟩, ?_⟩
      unfold pval
      rw [e1, dv_rd _ _ (Nat.le_refl _), decide_eq_false hd]
      simp [sgn]
      omega
theorem text_pok {l : List UInt8} (h : pok l) : u8 (txb (pval l)) = l := by
  unfold pval
  by_cases hd : l[0]? = some 45
  · rw [decide_eq_true hd]
    obtain ⟨t, rfl⟩ : ∃ t, l = 45 :: t := by
      cases l with
      | nil => simp at hd
      | cons a t => simp at hd; exact ⟨t, by rw [hd]⟩
    have e1 : pdig (45 :: t) = t := by simp [pdig]
    have hn := h.1
    rw [e1] at hn ⊢
    have ht : t ≠ [48] := fun e => h.2 (by rw [e])
    have h0 : t[0]? ≠ some 48 := hn.2.2.resolve_left ht
    have hb := rd_dv t.length t rfl hn.1 h0
    have hp : 0 < dv t := by
      rcases Nat.eq_zero_or_pos (dv t) with e | e
      · rw [e, rd_zero] at hb
        exact absurd hb.symm hn.2.1
      · exact e
    unfold txb
    rw [if_neg (by simp [sgn]; omega), if_pos (by simp [sgn]; omega), sgn_abs, u8_app, hb]
    rfl
  · rw [decide_eq_false hd]
    have e1 : pdig l = l := by unfold pdig; rw [if_neg hd]
    have hn := h.1
    rw [e1] at hn ⊢
    rcases hn.2.2 with e | h0
    · subst e
      rfl
    · have hb := rd_dv l.length l rfl hn.1 h0
      have hp : 0 < dv l := by
        rcases Nat.eq_zero_or_pos (dv l) with e | e
        · rw [e, rd_zero] at hb
          exact absurd hb.symm hn.2.1
        · exact e
      unfold txb
      rw [if_neg (by simp [sgn]; omega), if_neg (by simp [sgn]), sgn_abs, List.nil_append, hb]
end Go.Proofs.Ytfigimfdojbkeaa

namespace Go.Proofs.Ytfigimfdojbkeaa
open Go.RowKit

theorem ext_one (s : ByteArray) : (s.extract 1 s.size).data.toList = s.data.toList.drop 1 := by
  rw [ByteArray.data_extract, Array.toList_extract, List.extract_eq_take_drop]
  exact List.take_of_length_le (by rw [List.length_drop, Array.length_toList]; exact Nat.le_refl _)
theorem byte_zero {s : ByteArray} (h : 0 < s.size) : s.data.toList[0]? = some 45 ↔ s[0].toNat = 45 := by
  rw [byte_at s 0 h]
  constructor
  · intro e
    rw [Option.some.inj e]; rfl
  · intro e
    congr 1
    exact UInt8.toNat_inj.1 e
theorem parse_ok (s : ByteArray) (w : World) (hs : s.size ≤ 4000) (h : pok s.data.toList) : Calls Try.prog 45 #[.string s] w (RetE (pval s.data.toList) 0 w) := by
  have hz : s.toList ≠ [45, 48] := by rw [ByteArray.toList_eq]; exact h.2
  rcases Nat.eq_zero_or_pos s.size with h0 | h0
  · exfalso
    have : s.data.toList = [] := List.eq_nil_of_length_eq_zero (by rw [Array.length_toList]; exact h0)
    have h1 := h.1.2.1
    rw [this] at h1
    exact h1 rfl
  · by_cases hm : s[0].toNat = 45
    · have e1 := (byte_zero h0).2 hm
      have e2 : pdig s.data.toList = (s.extract 1 s.size).data.toList := by rw [ext_one]; unfold pdig; rw [if_pos e1]
      have h1 := h.1
      unfold pval
      rw [e2] at h1 ⊢
      rw [decide_eq_true e1]
      exact parseNeg_ok s w hs h0 hm h1 hz
    · have e1 : ¬ s.data.toList[0]? = some 45 := fun e => hm ((byte_zero h0).1 e)
      have e2 : pdig s.data.toList = s.data.toList := by unfold pdig; rw [if_neg e1]
      have h1 := h.1
      unfold pval
      rw [e2] at h1 ⊢
      rw [decide_eq_false e1]
      exact parsePos_ok s w hs h0 hm h1 hz
theorem parse_no (s : ByteArray) (w : World) (hs : s.size ≤ 4000) (h : ¬ pok s.data.toList) : Calls Try.prog 45 #[.string s] w (RetE 0 3 w) := by
  rcases Nat.eq_zero_or_pos s.size with h0 | h0
  · refine parseNil_bad s w hs h0 (fun hn => ?_)
    have : s.data.toList = [] := List.eq_nil_of_length_eq_zero (by rw [Array.length_toList]; exact h0)
    exact hn.2.1 this
  · by_cases hm : s[0].toNat = 45
    · have e1 := (byte_zero h0).2 hm
      have e2 : pdig s.data.toList = (s.extract 1 s.size).data.toList := by rw [ext_one]; unfold pdig; rw [if_pos e1]
      by_cases hn : IsNum (s.extract 1 s.size).data.toList
      · refine parseNeg_mz s w hs h0 hm hn ?_
        rw [ByteArray.toList_eq]
        by_cases hz : s.data.toList = [45, 48]
        · exact hz
        · exact absurd ⟨by rw [e2]; exact hn, hz⟩ h
      · exact parseNeg_bad s w hs h0 hm hn
    · have e1 : ¬ s.data.toList[0]? = some 45 := fun e => hm ((byte_zero h0).1 e)
      have e2 : pdig s.data.toList = s.data.toList := by unfold pdig; rw [if_neg e1]
      refine parsePos_bad s w hs h0 hm (fun hn => h ⟨by rw [e2]; exact hn, fun e => ?_⟩)
      exact e1 (by rw [e]; rfl)
/-- The text of an integer as Text returns it. -/
def txs (z : Int) : ByteArray := ⟨((txb z).map UInt8.ofNat).toArray⟩
theorem gs_txs (z : Int) : gs (txb z) = .string (txs z) := rfl
theorem txs_list (z : Int) : (txs z).data.toList = u8 (txb z) := rfl
theorem txs_inj {a b : Int} (h : txs a = txs b) : a = b := by
  have e := congrArg (fun s : ByteArray => s.data.toList) h
  simp only [txs_list] at e
  have h1 := (pok_text a).2
  rw [e, (pok_text b).2] at h1
  exact h1.symm
theorem txb_len {z : Int} {N : Nat} (h : Sz z N) : (txb z).length ≤ 10 * N + 2 := by
  unfold txb
  split
  · simp
  · have h1 : z.natAbs < 10 ^ (10 * N) := by
      refine Nat.lt_of_lt_of_le h.lt ?_
      unfold pw
      rw [Nat.pow_mul]
      exact Nat.pow_le_pow_left (by omega) N
    have h2 := rd_len_le _ _ h1
    rw [List.length_append, List.length_reverse]
    split <;> simp <;> omega
end Go.Proofs.Ytfigimfdojbkeaa

namespace Go.Proofs.Ytfigimfdojbkeaa
open Go.RowKit

theorem text_is (v : Value) (z : Int) (w : World) (hv : Iv w v z) (hz : Sz z 200000) : Calls Try.prog 91 #[v] w (RetV (.string (txs z)) w) :=
  (text_any v z w hv hz).mono fun e w' ⟨h, hb⟩ => ⟨by rw [h, gs_txs], hb⟩
theorem txs_size {z : Int} {N : Nat} (h : Sz z N) : (txs z).size ≤ 10 * N + 2 := by
  have e : (txs z).size = (txb z).length := by
    show (((txb z).map UInt8.ofNat).toArray).size = _
    simp
  rw [e]
  exact txb_len h
theorem parse_text (z : Int) (w : World) (h : Sz z 300) : Calls Try.prog 45 #[.string (txs z)] w (RetE z 0 w) := by
  have h1 := parse_ok (txs z) w (by have := txs_size h; omega) (pok_text z).1
  rwa [txs_list, (pok_text z).2] at h1
theorem same_false (va vb : Value) (a b : Int) (w : World) (ha : Iv w va a) (hb : Iv w vb b) (sa : Sz a 1000000) (sb : Sz b 1000000) (h : a ≠ b) : Calls Try.prog 23 #[va, vb] w (RetV (.bool false) w) := by
  have := same_any va vb a b w ha hb sa sb
  rwa [decide_eq_false h] at this
theorem run_eql_str {o : Oper} {w : World} {ρ : Operand → Value} {x y : Operand} {t u : TypeId} {a b : ByteArray} (ho : o.op = .binOp .eql t x y u) (hx : ρ x = .string a) (hy : ρ y = .string b) : (execOp ρ o).run Try.prog w = .ok (.value (.bool (a.toList == b.toList))) w := by
  simp [execOp, ho, hx, hy, go_sem]
theorem run_neq_bool {o : Oper} {w : World} {ρ : Operand → Value} {x y : Operand} {u : TypeId} {a b : Bool} (ho : o.op = .binOp .neq 4 x y u) (hx : ρ x = .bool a) (hy : ρ y = .bool b) : (execOp ρ o).run Try.prog w = .ok (.value (.bool (a != b))) w := by
  simp [execOp, ho, hx, hy, go_sem, Try.underlying4]
  cases a <;> cases b <;> rfl
theorem txs_ne {a b : Int} (h : a ≠ b) : ((txs a).toList == (txs b).toList) = false := by
  rw [beq_eq_false_iff_ne]
  intro e
  rw [ByteArray.toList_eq, ByteArray.toList_eq] at e
  apply h
  have h1 := (pok_text a).2
  rw [show u8 (txb a) = u8 (txb b) from e, (pok_text b).2] at h1
  exact h1.symm
theorem odd_ne {s : ByteArray} {z : Int} (h : ¬ pok s.data.toList) : (s.toList == (txs z).toList) = false := by
  rw [beq_eq_false_iff_ne]
  intro e
  rw [ByteArray.toList_eq, ByteArray.toList_eq] at e
  apply h
  rw [e]
  exact (pok_text z).1
theorem txs_back {s : ByteArray} (h : pok s.data.toList) : txs (pval s.data.toList) = s := by
  have e := text_pok h
  obtain ⟨⟨l⟩⟩ := s
  show ByteArray.mk ((txb _).map UInt8.ofNat).toArray = _
  congr 1
  congr 1
theorem pval_sz {s : ByteArray} (hs : s.size ≤ 4000) (h : pok s.data.toList) : Sz (pval s.data.toList) 4000 := ⟨by
  unfold pval
  rw [sgn_abs]
  have h1 := dv_lt _ _ rfl h.1.1
  have h2 : (pdig s.data.toList).length ≤ 4000 := by
    have h3 : s.data.toList.length = s.size := by rw [Array.length_toList]; rfl
    unfold pdig
    split
    · rw [List.length_drop]; omega
    · omega
  exact lt_pw h1 h2⟩
end Go.Proofs.Ytfigimfdojbkeaa

