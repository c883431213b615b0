/-
  Plain mathematics: the list of all monomials of a degree.
-/
import Derived.Test.YtchkaaeipafdnaaMonY
namespace Go.Proofs.Ytchkaaeipafdnaa

/-- x i + .. + x (i + d - 1). -/
def sg (x : Mn) : Nat → Nat → Int
  | _, 0 => 0
  | i, d + 1 => x i + sg x (i + 1) d
theorem sm_sg (x : Mn) : ∀ (d i : Nat), sm x (i + d) = sm x i + sg x i d
  | 0, i => by simp [sg]
  | d + 1, i => by
    have h := sm_sg x d (i + 1)
    rw [show i + (d + 1) = i + 1 + d by omega, h]
    simp only [sm, sg]
    omega
theorem sg_zero {x : Mn} : ∀ {d i : Nat}, (∀ j, i ≤ j → j < i + d → x j = 0) → sg x i d = 0
  | 0, i, _ => rfl
  | d + 1, i, h => by
    rw [sg, sg_zero (fun j h1 h2 => h j (by omega) (by omega)), h i (by omega) (by omega)]
    rfl
theorem mem_dn {F : Nat → List Mn} {x : Mn} : ∀ {r : Nat}, x ∈ dn F r ↔ ∃ e, e ≤ r ∧ x ∈ F e
  | 0 => by
    constructor
    · intro h; exact ⟨0, Nat.le_refl _, h⟩
    · rintro ⟨e, h1, h2⟩
      obtain rfl : e = 0 := by omega
      exact h2
  | r + 1 => by
    rw [dn, List.mem_append, mem_dn]
    constructor
    · rintro (h | ⟨e, h1, h2⟩)
      · exact ⟨r + 1, Nat.le_refl _, h⟩
      · exact ⟨e, by omega, h2⟩
    · rintro ⟨e, h1, h2⟩
      by_cases h : e = r + 1
      · subst h; exact .inl h2
      · exact .inr ⟨e, by omega, h2⟩
theorem rs_prop : ∀ (d i r : Nat) (m x : Mn), x ∈ rs d i r m → (∀ j, j < i ∨ i + d ≤ j → x j = m j) ∧ (∀ j, i ≤ j → j < i + d → 0 ≤ x j ∧ x j ≤ r) ∧ sg x i d = r
  | 0, i, r, m, x, h => by
    unfold rs at h
    split at h
    · rename_i e
      simp at h
      subst h
      exact ⟨fun _ _ => rfl, fun j h1 h2 => by omega, by rw [e]; rfl⟩
    · cases h
  | d + 1, i, r, m, x, h => by
    obtain ⟨e, h1, h2⟩ := mem_dn.1 (show x ∈ dn _ r from h)
    obtain ⟨p1, p2, p3⟩ := rs_prop d (i + 1) (r - e) (put m i e) x h2
    have hi : x i = e := by rw [p1 i (by omega)]; simp [put]
    refine ⟨fun j hj => ?_, fun j h3 h4 => ?_, ?_⟩
    · rw [p1 j (by omega)]
      unfold put
      rw [if_neg (by omega)]
    · by_cases e2 : j = i
      · subst e2; rw [hi]; omega
      · have := p2 j (by omega) (by omega); omega
    · rw [sg, p3, hi]; omega
theorem rs_mem : ∀ (d i r : Nat) (m x : Mn), (∀ j, j < i ∨ i + d ≤ j → x j = m j) → (∀ j, i ≤ j → j < i + d → 0 ≤ x j) → sg x i d = r → x ∈ rs d i r m
  | 0, i, r, m, x, h1, _, h3 => by
    have hr : r = 0 := by simp only [sg] at h3; omega
    unfold rs
    rw [if_pos hr]
    have : x = m := by funext j; exact h1 j (by omega)
    rw [this]; exact List.mem_singleton.2 rfl
  | d + 1, i, r, m, x, h1, h2, h3 => by
    have hx := h2 i (by omega) (by omega)
    have hs : 0 ≤ sg x (i + 1) d := by
      have key : ∀ (d i : Nat), (∀ j, i ≤ j → j < i + d → 0 ≤ x j) → 0 ≤ sg x i d := by
        intro d
        induction d with
        | zero => intro i _; simp [sg]
        | succ d ih =>
          intro i h
          have := ih (i + 1) (fun j h1 h2 => h j (by omega) (by omega))
          have := h i (by omega) (by omega)
          simp only [sg]
          omega
      exact key d (i + 1) (fun j h4 h5 => h2 j (by omega) (by omega))
    obtain ⟨e, he⟩ := Int.eq_ofNat_of_zero_le hx
    rw [sg, he] at h3
    refine mem_dn.2 ⟨e, by omega, rs_mem d (i + 1) (r - e) (put m i e) x (fun j hj => ?_) (fun j h4 h5 => h2 j (by omega) (by omega)) (by omega)⟩
    unfold put
    by_cases e2 : j = i
    · subst e2; rw [if_pos rfl]; exact he
    · rw [if_neg e2]; exact h1 j (by omega)
theorem rs_strict : ∀ (d i r : Nat) (m : Mn), i + d ≤ 8 → Strict (rs d i r m)
  | 0, i, r, m, _ => by
    unfold rs Strict
    split
    · exact List.pairwise_singleton _ _
    · exact List.Pairwise.nil
  | d + 1, i, r, m, h => by
    have key : ∀ e, e ≤ r → Strict (dn (fun e => rs d (i + 1) (r - e) (put m i e)) e) := by
      intro e
      induction e with
      | zero => intro _; exact rs_strict d (i + 1) _ _ (by omega)
      | succ e ih =>
        intro he
        unfold Strict
        rw [dn, List.pairwise_append]
        refine ⟨rs_strict d (i + 1) _ _ (by omega), ih (by omega), fun a ha b hb => ?_⟩
        obtain ⟨e2, h1, h2⟩ := mem_dn.1 hb
        have pa := (rs_prop d (i + 1) _ _ a ha).1
        have pb := (rs_prop d (i + 1) _ _ b h2).1
        refine ⟨i, by omega, fun j hj => ?_, ?_⟩
        · rw [pa j (by omega), pb j (by omega)]
          unfold put
          rw [if_neg (by omega), if_neg (by omega)]
        · rw [pa i (by omega), pb i (by omega)]
          simp [put]
          omega
    exact key r (Nat.le_refl _)
/-- How many there are. -/
def sumTo (F : Nat → Nat) : Nat → Nat
  | 0 => F 0
  | e + 1 => F (e + 1) + sumTo F e
def rl : Nat → Nat → Nat
  | 0, r => if r = 0 then 1 else 0
  | d + 1, r => sumTo (fun e => rl d (r - e)) r
theorem dn_length {F : Nat → List Mn} {G : Nat → Nat} (h : ∀ e, (F e).length = G e) : ∀ r, (dn F r).length = sumTo G r
  | 0 => h 0
  | r + 1 => by rw [dn, List.length_append, h, dn_length h r]; rfl
theorem rs_length : ∀ (d i r : Nat) (m : Mn), (rs d i r m).length = rl d r
  | 0, i, r, m => by unfold rs rl; split <;> rfl
  | d + 1, i, r, m => dn_length (fun e => rs_length d (i + 1) (r - e) (put m i e)) r
/-- The number that the law reckons, before round i. -/
def mny (d : Nat) : Nat → Nat
  | 0 => 1
  | 1 => 1
  | i + 2 => mny d (i + 1) * (d + (i + 1)) / (i + 1)
theorem mny_bd : ∀ d, d < 13 → ∀ i, i < 9 → mny d i ≤ 1000000 := by decide +kernel
theorem mny_rl : ∀ v, v < 9 → ∀ d, d < 13 → (v ≤ 4 ∨ d ≤ 4) → 1 ≤ v → rl v d = mny d v := by decide +kernel
theorem rl_none : ∀ d, d < 13 → rl 0 d = if 0 < d then 0 else 1 := by decide +kernel
theorem mny_next (d i : Nat) (h : 1 ≤ i) : mny d (i + 1) = mny d i * (d + i) / i := by
  obtain ⟨k, rfl⟩ : ∃ k, i = k + 1 := ⟨i - 1, by omega⟩
  rfl
end Go.Proofs.Ytchkaaeipafdnaa
