/-
  RationalForms: both Valid on any words, both Parse, the law.
-/
import Derived.Test.YtfigimfdojbkeaaGreatRfB
import Derived.Deep.DeepCutAuto
import Derived.Handy
set_option linter.unusedSimpArgs false
set_option linter.unusedVariables false
namespace Go.Proofs.YtfigimfdojbkeaaGreat
open Go.RowKit
attribute [local go_sem ↓] Go.wp_at_zero Go.wp_at_succ

theorem tl_eq {a b : ByteArray} (h : a = b) : (a.toList == b.toList) = true := by rw [h]; simp
theorem tl_ne {a b : ByteArray} (h : a.size ≠ b.size) : (a.toList == b.toList) = false := by
  rw [beq_eq_false_iff_ne]
  intro e
  rw [ByteArray.toList_eq, ByteArray.toList_eq] at e
  have e2 := congrArg List.length e
  simp at e2
  exact h e2
theorem cut_back {s : ByteArray} {i : Nat} (hi : i < s.size) (h : s[i].toNat = 47) : s.extract 0 i ++ slash ++ s.extract (i + 1) s.size = s := by
  have e : (s.extract 0 i ++ slash ++ s.extract (i + 1) s.size).data.toList = s.data.toList := by
    have hz := size_len s
    rw [two_data, ext_data, ext_data, List.drop_zero, ← hz, List.take_length]
    have h1 := byte_at s i hi
    have h2 : s[i] = 47 := UInt8.toNat_inj.1 (by rw [h]; rfl)
    rw [h2] at h1
    have h3 : i < s.data.toList.length := by rw [hz]; exact hi
    rw [List.getElem?_eq_getElem h3] at h1
    have h4 := Option.some.inj h1
    conv => rhs; rw [← List.take_append_drop i s.data.toList, List.drop_eq_getElem_cons h3, h4]
  cases hh : (s.extract 0 i ++ slash ++ s.extract (i + 1) s.size)
  cases kk : s
  rw [hh, kk] at e
  simpa using Array.toList_inj.1 e
theorem pair_parse (s : ByteArray) (hs : s.size ≤ 4000) : ∃ n d c : Int, Hid (Sz n 5000) ∧ Hid (Sz d 5000) ∧ (c = 0 ∨ c = 3 ∧ n = 0 ∧ d = 0) ∧ Hid (∀ w, Calls Tryz.prog 47 #[.string s] w (RetQC n d c w)) ∧ Hid (∀ w, Calls Tryz.prog 48 #[.string s] w (RetQC n d c w)) := by
  have Z0 : ∀ N, 1 < N → Sz 0 N := fun N h => (Sz.small (a := 0) (by omega) (by omega)).mono (by omega)
  have hge := Lib.indexByte_ge s.data.toList 47
  rcases (by omega : Lib.indexByte s.data.toList 47 = -1 ∨ 0 ≤ Lib.indexByte s.data.toList 47) with hx | hx
  · by_cases h : pok s.data.toList
    · have e1 : (((pval s.data.toList : Int) : Rat)).num = pval s.data.toList := Rat.num_intCast _
      have e2 : ((((pval s.data.toList : Int) : Rat)).den : Int) = 1 := by rw [Rat.den_intCast]; rfl
      have hz := pval_sz hs h
      refine ⟨(((pval s.data.toList : Int) : Rat)).num, (((pval s.data.toList : Int) : Rat)).den, 0, by rw [e1]; exact hz.mono (by omega), by rw [e2]; exact szs (by omega) (by omega), .inl rfl, fun w => ?_, fun w => ?_⟩
      · rw [e1, e2]; exact qparse_int s w hs hx h
      · exact rqp_n1 s w hs s.size rfl (ix_miss hx) ((pval s.data.toList : Int) : Rat) ⟨by rw [e1]; exact hz, by rw [e2]; exact szs (by omega) (by omega)⟩ (fun w => by rw [e1]; exact rparse_ok s w hs h) e2 s (by rw [qtx_one e2, e1]; exact txs_back h) (tl_eq rfl)
    · exact ⟨0, 0, 3, Z0 _ (by omega), Z0 _ (by omega), .inr ⟨rfl, rfl, rfl⟩, fun w => (qparse_badint s w hs hx h).mono fun _ _ k => retqc k, fun w => rqp_n3 s w hs s.size rfl (ix_miss hx) 0 1 (Z0 _ (by omega)) (szs (by omega) (by omega)) (fun w => rparse_no s w hs h) rfl⟩
  · obtain ⟨i, hi⟩ : ∃ i : Nat, Lib.indexByte s.data.toList 47 = i := ⟨(Lib.indexByte s.data.toList 47).toNat, by omega⟩
    have his : i < s.size := by
      have h1 := (Lib.indexByte_some hi).1
      have h2 := (List.getElem?_eq_some_iff.1 h1).1
      rwa [size_len] at h2
    have HX := ix_hit hi his
    have b1 : (s.extract 0 i).size ≤ 4000 := Nat.le_trans (ext_size _ _ _) hs
    have b2 : (s.extract (i + 1) s.size).size ≤ 4000 := Nat.le_trans (ext_size _ _ _) hs
    by_cases h1 : pok (s.extract 0 i).data.toList
    · by_cases h2 : pok (s.extract (i + 1) s.size).data.toList
      · have s1 := pval_sz b1 h1
        have s2 := pval_sz b2 h2
        by_cases hp : 0 < pval (s.extract (i + 1) s.size).data.toList
        · by_cases hg : Nat.gcd (pval (s.extract 0 i).data.toList).natAbs (pval (s.extract (i + 1) s.size).data.toList).natAbs = 1
          · have P1 : ∀ w, Calls Tryz.prog 119 #[.string (s.extract 0 i)] w (RetE (pval (s.extract 0 i).data.toList) 0 w) := fun w => rparse_ok _ w b1 h1
            have P2 : ∀ w, Calls Tryz.prog 119 #[.string (s.extract (i + 1) s.size)] w (RetE (pval (s.extract (i + 1) s.size).data.toList) 0 w) := fun w => rparse_ok _ w b2 h2
            obtain ⟨A, a1, a2⟩ : ∃ A : Rat, A.num = pval (s.extract 0 i).data.toList ∧ (A.den : Int) = pval (s.extract (i + 1) s.size).data.toList :=
              ⟨Rat.mk' (pval (s.extract 0 i).data.toList) (pval (s.extract (i + 1) s.size).data.toList).natAbs (by omega) hg, rfl, by show (((pval (s.extract (i + 1) s.size).data.toList).natAbs : Nat) : Int) = _; omega⟩
            have sA : Sr A 4000 := ⟨by rw [a1]; exact s1, by rw [a2]; exact s2⟩
            have t1 := txs_back h1
            have t2 := txs_back h2
            by_cases hd : pval (s.extract (i + 1) s.size).data.toList = 1
            · refine ⟨0, 0, 3, Z0 _ (by omega), Z0 _ (by omega), .inr ⟨rfl, rfl, rfl⟩, fun w => (qparse_badone s w hs i his hi h1 h2 hp hg hd).mono fun _ _ k => retqc k, fun w => rqp_txt s w hs i his HX A sA (fun w => by rw [a1]; exact P1 w) (fun w => by rw [a2]; exact P2 w) (s.extract 0 i) (by rw [qtx_one (by rw [a2, hd]), a1, t1]) (tl_ne ?_)⟩
              have : (s.extract 0 i).size = min i s.size - 0 := ByteArray.size_extract ..
              omega
            · exact ⟨_, _, 0, s1.mono (by omega), s2.mono (by omega), .inl rfl, fun w => qparse_frac s w hs i his hi h1 h2 hp hg hd, fun w => by
                have k := rqp_ok s w hs i his HX A sA (fun w => by rw [a1]; exact P1 w) (fun w => by rw [a2]; exact P2 w) s (by rw [qtx_two (by rw [a2]; exact hd), a1, a2, t1, t2]; exact cut_back his HX.1) (tl_eq rfl)
                rw [a1, a2] at k
                exact k⟩
          · exact ⟨0, 0, 3, Z0 _ (by omega), Z0 _ (by omega), .inr ⟨rfl, rfl, rfl⟩, fun w => (qparse_badgcd s w hs i his hi h1 h2 hp hg).mono fun _ _ k => retqc k, fun w => rqp_inv s w hs i his HX _ _ s1 s2 (fun w => rparse_ok _ w b1 h1) (fun w => rparse_ok _ w b2 h2) (.inr hg)⟩
        · exact ⟨0, 0, 3, Z0 _ (by omega), Z0 _ (by omega), .inr ⟨rfl, rfl, rfl⟩, fun w => (qparse_badneg s w hs i his hi h1 h2 (by omega)).mono fun _ _ k => retqc k, fun w => rqp_inv s w hs i his HX _ _ s1 s2 (fun w => rparse_ok _ w b1 h1) (fun w => rparse_ok _ w b2 h2) (.inl (by omega))⟩
      · exact ⟨0, 0, 3, Z0 _ (by omega), Z0 _ (by omega), .inr ⟨rfl, rfl, rfl⟩, fun w => (qparse_bad2 s w hs i his hi h1 h2).mono fun _ _ k => retqc k, fun w => rqp_e2 s w hs i his HX _ 0 (pval_sz b1 h1) (Z0 _ (by omega)) (fun w => rparse_ok _ w b1 h1) (fun w => rparse_no _ w b2 h2)⟩
    · refine ⟨0, 0, 3, Z0 _ (by omega), Z0 _ (by omega), .inr ⟨rfl, rfl, rfl⟩, fun w => (qparse_bad1 s w hs i his hi h1).mono fun _ _ k => retqc k, fun w => ?_⟩
      by_cases h2 : pok (s.extract (i + 1) s.size).data.toList
      · exact rqp_e1 s w hs i his HX 0 _ (Z0 _ (by omega)) (pval_sz b2 h2) (fun w => rparse_no _ w b1 h1) (fun w => rparse_ok _ w b2 h2)
      · exact rqp_e13 s w hs i his HX 0 0 (Z0 _ (by omega)) (Z0 _ (by omega)) (fun w => rparse_no _ w b1 h1) (fun w => rparse_no _ w b2 h2)
theorem parse_len (t : ByteArray) : ∃ n d c : Int, (c = 0 ∧ t.size ≤ 4000 ∨ c = 3 ∧ t.size ≤ 4000 ∧ n = 0 ∧ d = 0 ∨ c = 2 ∧ 4000 < t.size ∧ n = 0 ∧ d = 0) ∧ Hid (∀ w, Calls Tryz.prog 47 #[.string t] w (RetQC n d c w)) := by
  by_cases h : t.size ≤ 4000
  · obtain ⟨n, d, c, _, _, hc, hq, _⟩ := pair_parse t h
    refine ⟨n, d, c, ?_, hq⟩
    rcases hc with k | ⟨k, k1, k2⟩
    · exact .inl ⟨k, h⟩
    · exact .inr (.inl ⟨k, h, k1, k2⟩)
  · exact ⟨0, 0, 2, .inr (.inr ⟨rfl, by omega, rfl, rfl⟩), fun w => (qpb_dec t w (by omega)).mono fun _ _ k => retqc k⟩

end Go.Proofs.YtfigimfdojbkeaaGreat
