/-
  Plain facts on natural numbers in base 2^32: the value of a list of words, and the words of a value. No program is named here.
-/
set_option linter.unusedSimpArgs false
set_option linter.unusedVariables false
namespace Go.Proofs.Ytfigimfdojbkeaa

/-- The value of words, the least one first. -/
def val : List Nat → Nat
  | [] => 0
  | x :: r => x + 4294967296 * val r

/-- The words of a value. -/
def mag (n : Nat) : List Nat := if h : n = 0 then [] else (n % 4294967296) :: mag (n / 4294967296)
termination_by n
decreasing_by exact Nat.div_lt_self (by omega) (by omega)

def Wds (ws : List Nat) : Prop := ∀ x, x ∈ ws → x < 4294967296

/-- The word with an index; 0 behind the last one. -/
def gd (ws : List Nat) (k : Nat) : Nat := ws[k]?.getD 0
theorem gd_eq (ws : List Nat) (k : Nat) : gd ws k = ws[k]?.getD 0 := rfl

def pw (k : Nat) : Nat := 4294967296 ^ k

theorem pw_zero : pw 0 = 1 := rfl
theorem pw_succ (k : Nat) : pw (k + 1) = 4294967296 * pw k := by unfold pw; rw [Nat.pow_succ, Nat.mul_comm]
theorem pw_one : pw 1 = 4294967296 := by rw [pw_succ, pw_zero]
theorem pw_pos (k : Nat) : 0 < pw k := by unfold pw; exact Nat.pow_pos (by omega)
theorem pw_add (a b : Nat) : pw (a + b) = pw a * pw b := by unfold pw; exact Nat.pow_add _ _ _
theorem pw_le {a b : Nat} (h : a ≤ b) : pw a ≤ pw b := by unfold pw; exact Nat.pow_le_pow_right (by omega) h
theorem pw_lt {a b : Nat} (h : a < b) : pw a < pw b := by unfold pw; exact Nat.pow_lt_pow_right (by omega) h

theorem Wds.nil : Wds [] := fun _ h => by cases h
theorem Wds.cons {x : Nat} {r : List Nat} (hx : x < 4294967296) (h : Wds r) : Wds (x :: r) := by
  intro y hy
  rcases List.mem_cons.1 hy with rfl | hy
  · exact hx
  · exact h y hy
theorem Wds.head {x : Nat} {r : List Nat} (h : Wds (x :: r)) : x < 4294967296 := h x (by simp)
theorem Wds.tail {x : Nat} {r : List Nat} (h : Wds (x :: r)) : Wds r := fun y hy => h y (by simp [hy])
theorem Wds.append {a b : List Nat} (h : Wds a) (k : Wds b) : Wds (a ++ b) := by
  intro y hy
  rcases List.mem_append.1 hy with hy | hy
  · exact h y hy
  · exact k y hy
theorem Wds.left {a b : List Nat} (h : Wds (a ++ b)) : Wds a := fun y hy => h y (by simp [hy])
theorem Wds.right {a b : List Nat} (h : Wds (a ++ b)) : Wds b := fun y hy => h y (by simp [hy])
theorem Wds.take {a : List Nat} (h : Wds a) (k : Nat) : Wds (a.take k) := fun y hy => h y (List.mem_of_mem_take hy)
theorem Wds.drop {a : List Nat} (h : Wds a) (k : Nat) : Wds (a.drop k) := fun y hy => h y (List.mem_of_mem_drop hy)
theorem Wds.getD {a : List Nat} (h : Wds a) (k : Nat) : gd a k < 4294967296 := by
  rw [gd_eq]
  cases e : a[k]? with
  | none => simp
  | some x => exact h x (List.mem_of_getElem? e)
theorem Wds.set {a : List Nat} (h : Wds a) (k v : Nat) (hv : v < 4294967296) : Wds (a.set k v) := by
  intro y hy
  rcases List.mem_or_eq_of_mem_set hy with hy | rfl
  · exact h y hy
  · exact hv
theorem Wds.replicate (n : Nat) : Wds (List.replicate n 0) := by
  intro y hy
  rw [List.eq_of_mem_replicate hy]; omega

theorem val_append (a b : List Nat) : val (a ++ b) = val a + pw a.length * val b := by
  induction a with
  | nil => simp [val, pw_zero]
  | cons x r ih =>
    simp only [List.cons_append, val, ih, List.length_cons, pw_succ]
    rw [Nat.mul_add, ← Nat.mul_assoc]; omega

theorem val_lt {a : List Nat} (h : Wds a) : val a < pw a.length := by
  induction a with
  | nil => simp [val, pw_zero]
  | cons x r ih =>
    have h1 := ih h.tail
    have h2 := h.head
    simp only [val, List.length_cons, pw_succ]
    omega

theorem val_replicate (n : Nat) : val (List.replicate n 0) = 0 := by
  induction n with
  | zero => rfl
  | succ n ih => simp only [List.replicate_succ, val, ih]

theorem mag_zero : mag 0 = [] := by rw [mag]; simp
theorem mag_pos {n : Nat} (h : n ≠ 0) : mag n = (n % 4294967296) :: mag (n / 4294967296) := by rw [mag]; simp [h]
theorem mag_wds (n : Nat) : Wds (mag n) := by
  induction n using Nat.strongRecOn with
  | ind n ih =>
    by_cases h : n = 0
    · subst h; rw [mag_zero]; exact Wds.nil
    · rw [mag_pos h]
      exact Wds.cons (Nat.mod_lt _ (by omega)) (ih _ (Nat.div_lt_self (by omega) (by omega)))
theorem val_mag (n : Nat) : val (mag n) = n := by
  induction n using Nat.strongRecOn with
  | ind n ih =>
    by_cases h : n = 0
    · subst h; rw [mag_zero]; rfl
    · rw [mag_pos h, val, ih _ (Nat.div_lt_self (by omega) (by omega))]
      omega

/-- Words with none at the end that is 0. -/
def Can (ws : List Nat) : Prop := Wds ws ∧ (ws = [] ∨ gd ws (ws.length - 1) ≠ 0)

theorem val_pos_of_last : ∀ {ws : List Nat}, ws ≠ [] → gd ws (ws.length - 1) ≠ 0 → pw (ws.length - 1) ≤ val ws := by
  intro ws
  induction ws with
  | nil => intro h; exact absurd rfl h
  | cons x r ih =>
    intro _ hl
    cases r with
    | nil => simp only [List.length_cons, List.length_nil, Nat.zero_add, Nat.sub_self, pw_zero, val]; simp [gd] at hl; omega
    | cons y r =>
      have h1 := ih (by simp) (by simpa [gd] using hl)
      have e : (x :: y :: r).length - 1 = ((y :: r).length - 1) + 1 := by simp
      rw [e, pw_succ, val]
      omega

theorem mag_length_le {n k : Nat} (h : n < pw k) : (mag n).length ≤ k := by
  induction k generalizing n with
  | zero => rw [pw_zero] at h; have : n = 0 := by omega
            subst this; rw [mag_zero]; simp
  | succ k ih =>
    by_cases h0 : n = 0
    · subst h0; rw [mag_zero]; simp
    · rw [mag_pos h0, List.length_cons]
      rw [pw_succ] at h
      have := @ih (n / 4294967296) (by omega)
      omega
theorem lt_pw_mag (n : Nat) : n < pw (mag n).length := by
  have := val_lt (mag_wds n)
  rwa [val_mag] at this
theorem mag_length_lt {n k : Nat} (h : pw k ≤ n) : k < (mag n).length := by
  rcases Nat.lt_or_ge k (mag n).length with h1 | h1
  · exact h1
  · have := pw_le h1
    have := lt_pw_mag n
    omega
theorem mag_can (n : Nat) : Can (mag n) := by
  refine ⟨mag_wds n, ?_⟩
  induction n using Nat.strongRecOn with
  | ind n ih =>
    by_cases h : n = 0
    · subst h; rw [mag_zero]; exact .inl rfl
    · right
      rw [mag_pos h]
      by_cases h1 : n / 4294967296 = 0
      · rw [h1, mag_zero]
        have h3 : n % 4294967296 ≠ 0 := by omega
        simpa [gd] using h3
      · rcases ih (n / 4294967296) (Nat.div_lt_self (Nat.pos_of_ne_zero h) (by omega)) with h2 | h2
        · have := congrArg val h2
          rw [val_mag] at this
          exact absurd this h1
        · rw [List.length_cons, Nat.add_sub_cancel]
          have e : (mag (n / 4294967296)).length ≠ 0 := by
            intro e0
            have := congrArg val (List.eq_nil_of_length_eq_zero e0)
            rw [val_mag] at this
            exact h1 this
          generalize mag (n / 4294967296) = l at *
          cases l with
          | nil => exact absurd rfl e
          | cons y l => simpa [gd] using h2

theorem mag_val {ws : List Nat} (h : Can ws) : mag (val ws) = ws := by
  induction ws with
  | nil => exact mag_zero
  | cons x r ih =>
    obtain ⟨hw, hl⟩ := h
    have hx := hw.head
    have hl := hl.resolve_left (by simp)
    have hr : Can r := by
      refine ⟨hw.tail, ?_⟩
      cases r with
      | nil => exact .inl rfl
      | cons y r => right; simpa [gd] using hl
    have hne : val (x :: r) ≠ 0 := by
      have := val_pos_of_last (ws := x :: r) (by simp) hl
      have := pw_pos ((x :: r).length - 1)
      omega
    rw [mag_pos hne]
    have e1 : val (x :: r) % 4294967296 = x := by rw [val]; omega
    have e2 : val (x :: r) / 4294967296 = val r := by rw [val]; omega
    rw [e1, e2, ih hr]

theorem mag_inj {a b : Nat} (h : mag a = mag b) : a = b := by
  have := congrArg val h
  rwa [val_mag, val_mag] at this

theorem val_snoc (a : List Nat) (x : Nat) : val (a ++ [x]) = val a + pw a.length * x := by
  rw [val_append]; simp [val]
theorem take_snoc (a : List Nat) (k : Nat) (h : k < a.length) : a.take (k + 1) = a.take k ++ [gd a k] := by
  rw [List.take_succ_eq_append_getElem h, gd_eq, List.getElem?_eq_getElem h]; rfl
theorem val_take_succ (a : List Nat) (k : Nat) : val (a.take (k + 1)) = val (a.take k) + pw k * gd a k := by
  rcases Nat.lt_or_ge k a.length with h | h
  · rw [take_snoc a k h, val_snoc, List.length_take, Nat.min_eq_left (Nat.le_of_lt h)]
  · rw [List.take_of_length_le h, List.take_of_length_le (by omega), gd_eq, List.getElem?_eq_none h]; simp
theorem val_take_all (a : List Nat) (k : Nat) (h : a.length ≤ k) : val (a.take k) = val a := by rw [List.take_of_length_le h]
theorem val_take_lt {a : List Nat} (h : Wds a) (k : Nat) : val (a.take k) < pw k := by
  have h1 := val_lt (h.take k)
  have h2 := pw_le (show (a.take k).length ≤ k from List.length_take_le _ _)
  omega
theorem take_set_succ (a : List Nat) (k v : Nat) (h : k < a.length) : (a.set k v).take (k + 1) = a.take k ++ [v] := by
  rw [take_snoc _ _ (by simpa using h), gd_eq, List.getElem?_set_self h, List.take_set_of_le (Nat.le_refl k)]; rfl
theorem val_take_set (a : List Nat) (k v : Nat) (h : k < a.length) : val ((a.set k v).take (k + 1)) = val (a.take k) + pw k * v := by
  rw [take_set_succ a k v h, val_snoc, List.length_take, Nat.min_eq_left (Nat.le_of_lt h)]

/-- What 'trim' makes. -/
def cut0 (ws : List Nat) (n : Nat) : List Nat := ws.take n
theorem val_drop_zero (ws : List Nat) (n : Nat) (h : ∀ k, n ≤ k → k < ws.length → gd ws k = 0) : val (ws.take n) = val ws := by
  rcases Nat.lt_or_ge n ws.length with hl | hl
  · obtain ⟨d, hd⟩ : ∃ d, ws.length = n + d := ⟨ws.length - n, by omega⟩
    have key : ∀ d', d' ≤ d → val (ws.take (n + d')) = val (ws.take n) := by
      intro d'
      induction d' with
      | zero => intro _; rfl
      | succ d' ih =>
        intro hd'
        rw [show n + (d' + 1) = (n + d') + 1 from by omega, val_take_succ, h (n + d') (by omega) (by omega), ih (by omega)]; omega
    rw [← key d (Nat.le_refl _), ← hd, List.take_length]
  · rw [List.take_of_length_le hl]

theorem mag_one {x : Nat} (h : x ≠ 0) (hx : x < 4294967296) : mag x = [x] := by
  rw [mag_pos h, Nat.mod_eq_of_lt hx, Nat.div_eq_of_lt hx, mag_zero]
theorem mag_length_zero {n : Nat} : (mag n).length = 0 ↔ n = 0 := by
  constructor
  · intro h
    have := congrArg val (List.eq_nil_of_length_eq_zero h)
    rwa [val_mag] at this
  · rintro rfl; rw [mag_zero]; rfl
end Go.Proofs.Ytfigimfdojbkeaa

