/-
  The guess of a word of a quotient: plain facts.
-/
import Derived.Test.YtpklphdhigkmmaaMath
namespace Go.Proofs.Ytpklphdhigkmmaa

/-- The guess is too great. -/
theorem guess_over {P v1 v0 vl u2 u1 u0 ul gs rs : Nat} (hul : ul < P) (ht : gs * v1 + rs = u1 + 4294967296 * u2) (h : u0 + 4294967296 * rs < gs * v0) :
    (u0 + 4294967296 * (u1 + 4294967296 * u2)) * P + ul < gs * ((v0 + 4294967296 * v1) * P + vl) := by
  have e1 : gs * (v0 + 4294967296 * v1) = gs * v0 + 4294967296 * (gs * v1) := by rw [Nat.mul_add, Nat.mul_left_comm]
  have e2 : u0 + 4294967296 * (u1 + 4294967296 * u2) + 1 ≤ gs * (v0 + 4294967296 * v1) := by rw [e1, ← ht]; omega
  have e3 := Nat.mul_le_mul_right P e2
  have e4 : gs * ((v0 + 4294967296 * v1) * P + vl) = gs * (v0 + 4294967296 * v1) * P + gs * vl := by rw [Nat.mul_add, Nat.mul_assoc]
  rw [Nat.add_mul] at e3
  omega

/-- The guess is too great by 1 at most. -/
theorem guess_near {P v1 v0 vl u2 u1 u0 ul g rs : Nat} (hvl : vl < P) (ht : (g + 1) * v1 + rs = u1 + 4294967296 * u2) (h : (g + 1) * v0 ≤ u0 + 4294967296 * rs) (hg : g ≤ v0 + 4294967296 * v1) :
    g * ((v0 + 4294967296 * v1) * P + vl) ≤ (u0 + 4294967296 * (u1 + 4294967296 * u2)) * P + ul := by
  have e1 : (g + 1) * (v0 + 4294967296 * v1) = (g + 1) * v0 + 4294967296 * ((g + 1) * v1) := by rw [Nat.mul_add, Nat.mul_left_comm]
  have e2 : g * (v0 + 4294967296 * v1 + 1) ≤ u0 + 4294967296 * (u1 + 4294967296 * u2) := by
    have e5 : (g + 1) * (v0 + 4294967296 * v1) ≤ u0 + 4294967296 * (u1 + 4294967296 * u2) := by rw [e1, ← ht]; omega
    rw [Nat.add_mul] at e5
    rw [Nat.mul_add]
    omega
  have e3 := Nat.mul_le_mul_right P e2
  have e4 : g * ((v0 + 4294967296 * v1) * P + vl) ≤ g * ((v0 + 4294967296 * v1 + 1) * P) := by
    refine Nat.mul_le_mul_left _ ?_
    rw [Nat.add_mul (v0 + 4294967296 * v1) 1]
    omega
  rw [← Nat.mul_assoc] at e4
  omega

theorem val_top2 (a : List Nat) (p : Nat) (h : a.length = p + 2) : val a = (gd a p + 4294967296 * gd a (p + 1)) * pw p + val (a.take p) := by
  have h1 := val_take_succ a (p + 1)
  have h2 := val_take_succ a p
  rw [val_take_all a (p + 1 + 1) (by omega), h2, pw_succ] at h1
  rw [h1]
  grind
theorem val_top3 (a : List Nat) (p : Nat) (h : a.length = p + 3) : val a = (gd a p + 4294967296 * (gd a (p + 1) + 4294967296 * gd a (p + 2))) * pw p + val (a.take p) := by
  have h1 := val_take_succ a (p + 2)
  have h2 := val_take_succ a (p + 1)
  have h3 := val_take_succ a p
  rw [val_take_all a (p + 2 + 1) (by omega), h2, h3, show pw (p + 2) = pw (p + 1 + 1) from rfl, pw_succ (p + 1), pw_succ p] at h1
  rw [h1]
  grind

/-- What is known of a guess in the loop: it is not less than the quotient. -/
structure Guess (mid vs : List Nat) (p gs rs : Nat) : Prop where
  sum : gs * gd vs (p + 1) + rs = gd mid (p + 1) + 4294967296 * gd mid (p + 2)
  ge : val mid / val vs ≤ gs

theorem div_pos_of_top {vs : List Nat} {p : Nat} (hn : vs.length = p + 2) (h : 0 < gd vs (p + 1)) : 0 < val vs := by
  rw [val_top2 vs p hn]
  have h1 := pw_pos p
  have h2 : 1 * 1 ≤ (gd vs p + 4294967296 * gd vs (p + 1)) * pw p := Nat.mul_le_mul (by omega) h1
  omega

theorem Guess.less {mid vs : List Nat} {p gs rs : Nat} (h : Guess mid vs p (gs + 1) rs) (hm : mid.length = p + 3) (hn : vs.length = p + 2) (wm : Wds mid) (hv : 0 < gd vs (p + 1)) (hq : val mid < 4294967296 * val vs)
    (hlt : 4294967295 < gs + 1 ∨ gd mid p + 4294967296 * rs < (gs + 1) * gd vs p) : Guess mid vs p gs (rs + gd vs (p + 1)) := by
  refine ⟨by have := h.sum; rw [Nat.add_mul] at this; omega, ?_⟩
  have hpos := div_pos_of_top hn hv
  rcases hlt with h1 | h1
  · have : val mid / val vs < 4294967296 := by rw [Nat.div_lt_iff_lt_mul hpos]; exact hq
    omega
  · have h2 := guess_over (P := pw p) (vl := val (vs.take p)) (val_take_lt wm p) h.sum h1
    rw [← val_top2 vs p hn, ← val_top3 mid p hm] at h2
    have : val mid / val vs < gs + 1 := by rw [Nat.div_lt_iff_lt_mul hpos]; exact h2
    omega

theorem Guess.done {mid vs : List Nat} {p gs rs : Nat} (h : Guess mid vs p gs rs) (hm : mid.length = p + 3) (hn : vs.length = p + 2) (wv : Wds vs) (hv : 0 < gd vs (p + 1)) (hg : gs ≤ 4294967295)
    (hle : gs * gd vs p ≤ gd mid p + 4294967296 * rs) : gs ≤ val mid / val vs + 1 := by
  cases gs with
  | zero => exact Nat.zero_le _
  | succ g =>
    have hpos := div_pos_of_top hn hv
    have h2 := guess_near (P := pw p) (ul := val (mid.take p)) (val_take_lt wv p) h.sum hle (by omega)
    rw [← val_top2 vs p hn, ← val_top3 mid p hm] at h2
    have := (Nat.le_div_iff_mul_le hpos).2 h2
    omega

theorem top_le {mid vs : List Nat} {p : Nat} (hm : mid.length = p + 3) (hn : vs.length = p + 2) (wv : Wds vs) (hq : val mid < 4294967296 * val vs) : gd mid (p + 2) ≤ gd vs (p + 1) := by
  rw [val_top3 mid p hm, val_top2 vs p hn] at hq
  have h1 := val_take_lt wv p
  have h2 := wv.getD p
  rcases Nat.lt_or_ge (gd vs (p + 1)) (gd mid (p + 2)) with h | h
  · exfalso
    have h3 : gd vs p + 4294967296 * gd vs (p + 1) + 1 ≤ 4294967296 * gd mid (p + 2) := by omega
    have h4 := Nat.mul_le_mul_right (pw p) h3
    have h5 : 4294967296 * (4294967296 * gd mid (p + 2) * pw p) ≤ (gd mid p + 4294967296 * (gd mid (p + 1) + 4294967296 * gd mid (p + 2))) * pw p := by
      rw [← Nat.mul_assoc]
      exact Nat.mul_le_mul_right _ (by omega)
    rw [Nat.add_mul, Nat.one_mul] at h4
    omega
  · exact h

theorem Guess.start {mid vs : List Nat} {p : Nat} (hm : mid.length = p + 3) (hn : vs.length = p + 2) (wm : Wds mid) (hv : 0 < gd vs (p + 1)) :
    Guess mid vs p ((gd mid (p + 1) + 4294967296 * gd mid (p + 2)) / gd vs (p + 1)) ((gd mid (p + 1) + 4294967296 * gd mid (p + 2)) % gd vs (p + 1)) := by
  refine ⟨by rw [Nat.mul_comm]; exact Nat.div_add_mod _ _, ?_⟩
  rw [Nat.le_div_iff_mul_le hv]
  have hpos := div_pos_of_top hn hv
  have h1 := Nat.div_mul_le_self (val mid) (val vs)
  have h2 := wm.getD p
  have h3 := val_take_lt wm p
  have h0 := pw_pos p
  generalize val mid / val vs = q at *
  rw [val_top2 vs p hn, val_top3 mid p hm] at h1
  generalize gd mid (p + 1) + 4294967296 * gd mid (p + 2) = t at *
  have h4 : q * (4294967296 * gd vs (p + 1) * pw p) ≤ q * ((gd vs p + 4294967296 * gd vs (p + 1)) * pw p + val (vs.take p)) := by
    refine Nat.mul_le_mul_left _ (Nat.le_trans (Nat.mul_le_mul_right _ ?_) (Nat.le_add_right _ _))
    omega
  have h5 : (gd mid p + 4294967296 * t) * pw p + val (mid.take p) < 4294967296 * (t + 1) * pw p := by
    have : (gd mid p + 4294967296 * t + 1) * pw p ≤ 4294967296 * (t + 1) * pw p := Nat.mul_le_mul_right _ (by omega)
    rw [Nat.add_mul _ 1] at this
    omega
  have h6 : 4294967296 * (q * gd vs (p + 1)) * pw p < 4294967296 * (t + 1) * pw p := by
    have e : q * (4294967296 * gd vs (p + 1) * pw p) = 4294967296 * (q * gd vs (p + 1)) * pw p := by grind
    omega
  have h7 := Nat.lt_of_mul_lt_mul_right h6
  omega

theorem Guess.le {mid vs : List Nat} {p gs rs : Nat} (h : Guess mid vs p gs rs) (wm : Wds mid) (hu : gd mid (p + 2) ≤ gd vs (p + 1)) (hv : 2147483648 ≤ gd vs (p + 1)) : gs ≤ 4294967297 := by
  have h1 := h.sum
  have h2 := wm.getD (p + 1)
  rcases Nat.lt_or_ge 4294967297 gs with hl | hl
  · exfalso
    have : 4294967298 * gd vs (p + 1) ≤ gs * gd vs (p + 1) := Nat.mul_le_mul_right _ hl
    omega
  · exact hl
theorem Guess.brk {mid vs : List Nat} {p gs rs : Nat} (h : Guess mid vs p gs rs) (wm : Wds mid) (hu : gd mid (p + 2) ≤ gd vs (p + 1)) (hr : 4294967295 < rs) : gs ≤ 4294967295 := by
  have h1 := h.sum
  have h2 := wm.getD (p + 1)
  rcases Nat.lt_or_ge 4294967295 gs with hl | hl
  · exfalso
    have : 4294967296 * gd vs (p + 1) ≤ gs * gd vs (p + 1) := Nat.mul_le_mul_right _ hl
    omega
  · exact hl
theorem Guess.out {mid vs : List Nat} {p gs rs : Nat} (h : Guess mid vs p gs rs) (hm : mid.length = p + 3) (hn : vs.length = p + 2) (wv : Wds vs) (hv : 0 < gd vs (p + 1)) (hg : gs ≤ 4294967295)
    (hx : gs * gd vs p ≤ gd mid p + 4294967296 * rs ∨ 4294967295 < rs) : val mid / val vs ≤ gs ∧ gs ≤ val mid / val vs + 1 := by
  refine ⟨h.ge, h.done hm hn wv hv hg ?_⟩
  rcases hx with hx | hx
  · exact hx
  · have h1 := wv.getD p
    have : gs * gd vs p ≤ 4294967295 * 4294967295 := Nat.mul_le_mul hg (by omega)
    omega

/-- After the subtraction: the remainder, if the guess was the quotient. -/
theorem step_exact {U V gs r q : Nat} (hq : q = U / V) (h1 : q ≤ gs) (h2 : gs ≤ q + 1) (hV : 0 < V) (hnn : ¬ U < V * gs) (he : r + V * gs = U) : gs = q ∧ r = U % V := by
  have hd := Nat.div_add_mod U V
  have hm := Nat.mod_lt U hV
  subst hq
  rcases (show gs = U / V ∨ gs = U / V + 1 by omega) with e | e
  · refine ⟨e, ?_⟩
    rw [e] at he
    omega
  · exfalso
    rw [e, Nat.mul_add] at hnn
    omega
/-- .. and if it was too great by 1. -/
theorem step_over {U V gs q lo x lo2 cy P : Nat} (hq : q = U / V) (h1 : q ≤ gs) (h2 : gs ≤ q + 1) (hV : 0 < V) (_ : V < P) (hneg : U < V * gs)
    (he : lo + P * x + V * gs = U + 4294967296 * P) (ha : lo2 + P * cy = lo + V * 1) (hlo : lo2 < P) (hx : x < 4294967296) (hcy : cy < 4294967296) :
    gs = q + 1 ∧ lo2 + P * ((x + cy) % 4294967296) = U % V := by
  have hd := Nat.div_add_mod U V
  have hm := Nat.mod_lt U hV
  subst hq
  have hgs : gs = U / V + 1 := by
    rcases (show gs = U / V ∨ gs = U / V + 1 by omega) with e | e
    · rw [e] at hneg; omega
    · exact e
  refine ⟨hgs, ?_⟩
  rw [hgs, Nat.mul_add] at he
  have e1 : lo2 + P * (x + cy) = U % V + 4294967296 * P := by rw [Nat.mul_add]; omega
  have e2 : 4294967296 ≤ x + cy := by
    rcases Nat.lt_or_ge (x + cy) 4294967296 with h | h
    · exfalso
      have h3 : P * (x + cy + 1) ≤ P * 4294967296 := Nat.mul_le_mul_left _ h
      rw [Nat.mul_add, Nat.mul_comm P 4294967296] at h3
      omega
    · exact h
  obtain ⟨y, hy⟩ : ∃ y, x + cy = y + 4294967296 := ⟨x + cy - 4294967296, by omega⟩
  rw [hy, Nat.add_mod_right, Nat.mod_eq_of_lt (by omega)]
  rw [hy, Nat.mul_add, Nat.mul_comm P 4294967296] at e1
  omega
end Go.Proofs.Ytpklphdhigkmmaa
