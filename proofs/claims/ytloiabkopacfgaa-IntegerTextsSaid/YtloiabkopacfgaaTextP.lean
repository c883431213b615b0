/-
  Texts and numbers: there and back.
-/
import Derived.Test.YtloiabkopacfgaaParseD
namespace Go.Proofs.Ytloiabkopacfgaa
open Go.RowKit

def u8 (l : List Nat) : List UInt8 := l.map UInt8.ofNat
theorem u8_app (a b : List Nat) : u8 (a ++ b) = u8 a ++ u8 b := by simp [u8]
theorem u8_nat {x : Nat} (h : x < 256) : (UInt8.ofNat x).toNat = x := u8_back h
theorem of_toNat (b : UInt8) : UInt8.ofNat b.toNat = b := by
  apply UInt8.toNat_inj.1
  exact u8_back (UInt8.toNat_lt b)

theorem dv_rd : ∀ (n x : Nat), x ≤ n → dv (u8 (rd x).reverse) = x
  | 0, x, h => by
    obtain rfl : x = 0 := by omega
    rw [rd_zero]; rfl
  | n + 1, x, h => by
    rcases Nat.eq_zero_or_pos x with rfl | hx
    · rw [rd_zero]; rfl
    · rw [rd_pos hx, List.reverse_cons, u8_app]
      show dv (u8 (rd (x / 10)).reverse ++ [UInt8.ofNat (48 + x % 10)]) = x
      rw [dv_snoc, dv_rd n (x / 10) (by omega), u8_nat (by omega)]
      omega
theorem num_rd {x : Nat} (hx : 0 < x) : IsNum (u8 (rd x).reverse) := by
  refine ⟨fun b hb => ?_, ?_, .inr ?_⟩
  · obtain ⟨y, hy, rfl⟩ := List.mem_map.1 hb
    have := rd_byte (List.mem_reverse.1 hy)
    rw [u8_nat (by omega)]
    omega
  · intro e
    have h1 : (u8 (rd x).reverse).length = 0 := by rw [e]; rfl
    rw [u8, List.length_map, List.length_reverse] at h1
    have := rd_len_pos hx
    omega
  · intro e
    have h1 := rd_len_pos hx
    have h2 : (u8 (rd x).reverse)[0]? = some (UInt8.ofNat ((rd x)[(rd x).length - 1]'(by omega))) := by
      rw [u8, List.getElem?_map, List.getElem?_reverse (by omega), List.getElem?_eq_getElem (by omega)]
      simp
    rw [h2] at e
    have h3 := Option.some.inj e
    have h4 := rd_last x hx _ (List.getElem?_eq_getElem (by omega))
    have h5 := rd_byte (List.getElem_mem (show (rd x).length - 1 < (rd x).length by omega))
    apply h4
    have h6 := congrArg UInt8.toNat h3
    exact (u8_nat (by omega)).symm.trans h6
theorem rd_dv : ∀ (n : Nat) (l : List UInt8), l.length = n → (∀ b ∈ l, 48 ≤ b.toNat ∧ b.toNat ≤ 57) → l[0]? ≠ some 48 → u8 (rd (dv l)).reverse = l
  | 0, l, h, _, _ => by
    rw [List.eq_nil_of_length_eq_zero h, dv_nil, rd_zero]; rfl
  | n + 1, l, h, hb, h0 => by
    rcases List.eq_nil_or_concat l with rfl | ⟨l', b, rfl⟩
    · simp at h
    · simp only [List.concat_eq_append] at *
      simp at h
      have hbb := hb b (by simp)
      have e48 : 48 + (b.toNat - 48) = b.toNat := by omega
      rcases Nat.eq_zero_or_pos n with hn | hn
      · have : l' = [] := List.eq_nil_of_length_eq_zero (by omega)
        subst this
        simp only [List.nil_append] at *
        have hne : b.toNat ≠ 48 := fun e => h0 (by
          have : b = 48 := UInt8.toNat_inj.1 e
          rw [this]; rfl)
        have e1 : dv [b] = b.toNat - 48 := by simp [dv]
        rw [e1, rd_pos (by omega), show (b.toNat - 48) / 10 = 0 by omega, rd_zero, show (b.toNat - 48) % 10 = b.toNat - 48 by omega, e48]
        simp [u8, of_toNat]
      · have ih := rd_dv n l' h (fun c hc => hb c (by simp [hc])) (by
          rw [List.getElem?_append_left (by omega)] at h0
          exact h0)
        have hp : 0 < dv l' := by
          rcases Nat.eq_zero_or_pos (dv l') with e | e
          · rw [e, rd_zero] at ih
            have := congrArg List.length ih
            simp [u8] at this
            omega
          · exact e
        rw [dv_snoc, rd_pos (by omega), show (10 * dv l' + (b.toNat - 48)) / 10 = dv l' by omega, show (10 * dv l' + (b.toNat - 48)) % 10 = b.toNat - 48 by omega, List.reverse_cons, u8_app, ih, e48]
        simp [u8, of_toNat]

/-- What Parse takes, and its value. -/
def pdig (l : List UInt8) : List UInt8 := if l[0]? = some 45 then l.drop 1 else l
def pok (l : List UInt8) : Prop := IsNum (pdig l) ∧ l ≠ [45, 48]
def pval (l : List UInt8) : Int := sgn (decide (l[0]? = some 45)) (dv (pdig l))

theorem pok_text (z : Int) : pok (u8 (txb z)) ∧ pval (u8 (txb z)) = z := by
  unfold txb
  by_cases h0 : z = 0
  · subst h0
    rw [if_pos rfl]
    have e : u8 [48] = [48] := rfl
    rw [e]
    exact ⟨⟨⟨by decide, by decide, .inl rfl⟩, by decide⟩, rfl⟩
  · rw [if_neg h0]
    have hx : 0 < z.natAbs := by omega
    by_cases hn : z < 0
    · rw [if_pos hn]
      have e : u8 ([45] ++ (rd z.natAbs).reverse) = 45 :: u8 (rd z.natAbs).reverse := rfl
      rw [e]
      have e1 : pdig (45 :: u8 (rd z.natAbs).reverse) = u8 (rd z.natAbs).reverse := by simp [pdig]
      refine ⟨⟨by rw [e1]; exact num_rd hx, fun e2 => ?_⟩, ?_⟩
      · have e3 : u8 (rd z.natAbs).reverse = [48] := by simpa using e2
        have e4 := dv_rd _ z.natAbs (Nat.le_refl _)
        rw [e3] at e4
        simp [dv] at e4
        omega
      · unfold pval
        rw [e1, dv_rd _ _ (Nat.le_refl _)]
        simp [sgn]
        omega
    · rw [if_neg hn]
      simp only [List.nil_append]
      have hnum := num_rd hx
      have hd : (u8 (rd z.natAbs).reverse)[0]? ≠ some 45 := fun e => by
        have := hnum.1 45 (List.mem_of_getElem? e)
        simp at this
      have e1 : pdig (u8 (rd z.natAbs).reverse) = u8 (rd z.natAbs).reverse := by unfold pdig; rw [if_neg hd]
      refine ⟨⟨by rw [e1]; exact hnum, fun e2 => hd (by rw [e2]; rfl)⟩, ?_⟩
      unfold pval
      rw [e1, dv_rd _ _ (Nat.le_refl _), decide_eq_false hd]
      simp [sgn]
      omega
theorem text_pok {l : List UInt8} (h : pok l) : u8 (txb (pval l)) = l := by
  unfold pval
  by_cases hd : l[0]? = some 45
  · rw [decide_eq_true hd]
    obtain ⟨t, rfl⟩ : ∃ t, l = 45 :: t := by
      cases l with
      | nil => simp at hd
      | cons a t => simp at hd; exact ⟨t, by rw [hd]⟩
    have e1 : pdig (45 :: t) = t := by simp [pdig]
    have hn := h.1
    rw [e1] at hn ⊢
    have ht : t ≠ [48] := fun e => h.2 (by rw [e])
    have h0 : t[0]? ≠ some 48 := hn.2.2.resolve_left ht
    have hb := rd_dv t.length t rfl hn.1 h0
    have hp : 0 < dv t := by
      rcases Nat.eq_zero_or_pos (dv t) with e | e
      · rw [e, rd_zero] at hb
        exact absurd hb.symm hn.2.1
      · exact e
    unfold txb
    rw [if_neg (by simp [sgn]; omega), if_pos (by simp [sgn]; omega), sgn_abs, u8_app, hb]
    rfl
  · rw [decide_eq_false hd]
    have e1 : pdig l = l := by unfold pdig; rw [if_neg hd]
    have hn := h.1
    rw [e1] at hn ⊢
    rcases hn.2.2 with e | h0
    · subst e
      rfl
    · have hb := rd_dv l.length l rfl hn.1 h0
      have hp : 0 < dv l := by
        rcases Nat.eq_zero_or_pos (dv l) with e | e
        · rw [e, rd_zero] at hb
          exact absurd hb.symm hn.2.1
        · exact e
      unfold txb
      rw [if_neg (by simp [sgn]; omega), if_neg (by simp [sgn]), sgn_abs, List.nil_append, hb]
end Go.Proofs.Ytloiabkopacfgaa
