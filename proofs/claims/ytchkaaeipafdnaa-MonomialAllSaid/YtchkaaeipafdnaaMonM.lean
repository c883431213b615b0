/-
  Plain mathematics of monomials: the lexicographic order, lists. No function of the program is named here.
-/
namespace Go.Proofs.Ytchkaaeipafdnaa

/-- a is lexicographically less than b. -/
def Lt (a b : Nat → Int) : Prop := ∃ n, n < 8 ∧ (∀ k, k < n → a k = b k) ∧ a n < b n
def Eqv (a b : Nat → Int) : Prop := ∀ k, k < 8 → a k = b k
theorem Lt.trans {a b c : Nat → Int} (h : Lt a b) (k : Lt b c) : Lt a c := by
  obtain ⟨n, hn, e, l⟩ := h
  obtain ⟨m, hm, e', l'⟩ := k
  rcases Nat.lt_trichotomy n m with h | h | h
  · exact ⟨n, hn, fun j hj => (e j hj).trans (e' j (by omega)), by have := e' n h; omega⟩
  · subst h; exact ⟨n, hn, fun j hj => (e j hj).trans (e' j hj), by omega⟩
  · exact ⟨m, hm, fun j hj => (e j (by omega)).trans (e' j hj), by have := e m h; omega⟩
theorem Lt.irrefl {a : Nat → Int} (h : Lt a a) : False := by
  obtain ⟨n, _, _, l⟩ := h
  omega
theorem Lt.asymm {a b : Nat → Int} (h : Lt a b) (k : Lt b a) : False := (h.trans k).irrefl
theorem Lt.left {a b c : Nat → Int} (h : Eqv a b) (k : Lt b c) : Lt a c := by
  obtain ⟨n, hn, e, l⟩ := k
  exact ⟨n, hn, fun j hj => (h j (by omega)).trans (e j hj), by rw [h n hn]; exact l⟩
theorem Lt.right {a b c : Nat → Int} (k : Lt a b) (h : Eqv b c) : Lt a c := by
  obtain ⟨n, hn, e, l⟩ := k
  exact ⟨n, hn, fun j hj => (e j hj).trans (h j (by omega)), by rw [← h n hn]; exact l⟩
theorem Eqv.symm {a b : Nat → Int} (h : Eqv a b) : Eqv b a := fun k hk => (h k hk).symm
theorem Eqv.trans {a b c : Nat → Int} (h : Eqv a b) (k : Eqv b c) : Eqv a c := fun j hj => (h j hj).trans (k j hj)
theorem Eqv.rfl' (a : Nat → Int) : Eqv a a := fun _ _ => rfl
theorem first_diff (a b : Nat → Int) : ∀ n, (∀ k, k < n → a k = b k) ∨ ∃ m, m < n ∧ (∀ k, k < m → a k = b k) ∧ a m ≠ b m
  | 0 => .inl fun k hk => by omega
  | n + 1 => by
    rcases first_diff a b n with h | ⟨m, h1, h2, h3⟩
    · by_cases e : a n = b n
      · exact .inl fun k hk => by
          by_cases e2 : k = n
          · subst e2; exact e
          · exact h k (by omega)
      · exact .inr ⟨n, by omega, h, e⟩
    · exact .inr ⟨m, by omega, h2, h3⟩
theorem lex_total (a b : Nat → Int) : Lt a b ∨ Eqv a b ∨ Lt b a := by
  rcases first_diff a b 8 with h | ⟨m, h1, h2, h3⟩
  · exact .inr (.inl h)
  · rcases Int.lt_or_gt_of_ne h3 with h | h
    · exact .inl ⟨m, h1, h2, h⟩
    · exact .inr (.inr ⟨m, h1, fun k hk => (h2 k hk).symm, h⟩)
/-- What the comparison answers. -/
def CM (a b : Nat → Int) (o : Int) : Prop := (Lt a b ∧ o = -1) ∨ (Eqv a b ∧ o = 0) ∨ (Lt b a ∧ o = 1)
theorem CM.ex (a b : Nat → Int) : ∃ o, CM a b o := by
  rcases lex_total a b with h | h | h
  · exact ⟨-1, .inl ⟨h, rfl⟩⟩
  · exact ⟨0, .inr (.inl ⟨h, rfl⟩)⟩
  · exact ⟨1, .inr (.inr ⟨h, rfl⟩)⟩
/-- b is less than a, or they are equal. -/
def Ge (a b : Nat → Int) : Prop := ¬ Lt a b
theorem Ge.trans {a b c : Nat → Int} (h : Ge a b) (k : Ge b c) : Ge a c := by
  intro hl
  rcases lex_total b c with h1 | h1 | h1
  · exact k h1
  · exact h (hl.right h1.symm)
  · exact h (hl.trans h1)
theorem Ge.refl (a : Nat → Int) : Ge a a := fun h => h.irrefl
/-- A decreasing list, and a strictly decreasing one. -/
def Srt (l : List (Nat → Int)) : Prop := l.Pairwise Ge
def Strict (l : List (Nat → Int)) : Prop := l.Pairwise fun a b => Lt b a
/-- What a merge keeps: out is decreasing, and not less than what is left. -/
structure MI (la lb x y out : List (Nat → Int)) : Prop where
  perm : (out ++ (x ++ y)).Perm (la ++ lb)
  so : Srt out
  sx : Srt x
  sy : Srt y
  ge : ∀ a ∈ out, ∀ b ∈ x ++ y, Ge a b
theorem MI.start {la lb : List (Nat → Int)} (ha : Srt la) (hb : Srt lb) : MI la lb la lb [] :=
  ⟨List.Perm.refl _, List.Pairwise.nil, ha, hb, fun a h => by cases h⟩
theorem MI.swap {la lb x y out : List (Nat → Int)} (h : MI la lb x y out) : MI la lb y x out :=
  ⟨(List.Perm.append_left _ List.perm_append_comm).trans h.perm, h.so, h.sy, h.sx, fun a ha b hb => h.ge a ha b (by simp at hb ⊢; exact hb.symm)⟩
theorem srt_snoc {l : List (Nat → Int)} {m : Nat → Int} (h : Srt l) (hm : ∀ a ∈ l, Ge a m) : Srt (l ++ [m]) := by
  unfold Srt
  rw [List.pairwise_append]
  exact ⟨h, List.pairwise_singleton _ _, fun a ha b hb => by simp at hb; subst hb; exact hm a ha⟩
/-- The greater head goes out. -/
theorem MI.step {la lb x y out : List (Nat → Int)} {m p : Nat → Int} (h : MI la lb (m :: x) (p :: y) out) (hg : Ge m p) : MI la lb x (p :: y) (out ++ [m]) := by
  have hx := List.pairwise_cons.1 h.sx
  have hy := List.pairwise_cons.1 h.sy
  refine ⟨?_, srt_snoc h.so (fun a ha => h.ge a ha m (by simp)), hx.2, h.sy, ?_⟩
  · simpa using h.perm
  · intro a ha b hb
    rw [List.mem_append] at ha
    rcases ha with ha | ha
    · exact h.ge a ha b (by simp at hb ⊢; rcases hb with h | h | h <;> simp [h])
    · simp at ha
      subst ha
      rw [List.mem_append] at hb
      rcases hb with hb | hb
      · exact hx.1 b hb
      · rw [List.mem_cons] at hb
        rcases hb with rfl | hb
        · exact hg
        · exact Ge.trans hg (hy.1 b hb)
theorem srt_append {a b : List (Nat → Int)} (ha : Srt a) (hb : Srt b) (h : ∀ x ∈ a, ∀ y ∈ b, Ge x y) : Srt (a ++ b) := by
  unfold Srt
  rw [List.pairwise_append]
  exact ⟨ha, hb, h⟩
theorem MI.left {la lb x out : List (Nat → Int)} (h : MI la lb x [] out) : (out ++ x).Perm (la ++ lb) ∧ Srt (out ++ x) := by
  refine ⟨by simpa using h.perm, srt_append h.so h.sx (fun a ha b hb => h.ge a ha b (by simp [hb]))⟩
theorem MI.right {la lb y out : List (Nat → Int)} (h : MI la lb [] y out) : (out ++ y).Perm (la ++ lb) ∧ Srt (out ++ y) := by
  refine ⟨by simpa using h.perm, srt_append h.so h.sy (fun a ha b hb => h.ge a ha b (by simp [hb]))⟩
theorem MI.len {la lb x y out : List (Nat → Int)} (h : MI la lb x y out) : out.length + (x.length + y.length) = la.length + lb.length := by
  simpa using h.perm.length_eq

/-- a divides b. -/
def dv (a b : Nat → Int) : Prop := ∀ k, k < 8 → a k ≤ b k
instance (a b : Nat → Int) : Decidable (dv a b) := by unfold dv; infer_instance
/-- An element of l divides m. -/
def anyDv (m : Nat → Int) (l : List (Nat → Int)) : Bool := l.any fun d => decide (dv d m)
theorem anyDv_true {m : Nat → Int} {l : List (Nat → Int)} : anyDv m l = true ↔ ∃ d ∈ l, dv d m := by simp [anyDv]

theorem dv_lex {a b : Nat → Int} (h : dv a b) (l : Lt b a) : False := by
  obtain ⟨n, hn, _, hl⟩ := l
  have := h n hn
  omega
theorem dv.trans {a b c : Nat → Int} (h : dv a b) (k : dv b c) : dv a c := fun j hj => Int.le_trans (h j hj) (k j hj)
theorem dv.refl (a : Nat → Int) : dv a a := fun _ _ => Int.le_refl _
theorem dv.antisymm {a b : Nat → Int} (h : dv a b) (k : dv b a) : Eqv a b := fun j hj => Int.le_antisymm (h j hj) (k j hj)
/-- The elements of a list that no later one divides. -/
def kp : List (Nat → Int) → List (Nat → Int)
  | [] => []
  | a :: l => if anyDv a l then kp l else a :: kp l
theorem kp_mem {l : List (Nat → Int)} {x : Nat → Int} (h : x ∈ kp l) : x ∈ l := by
  induction l with
  | nil => exact h
  | cons a l ih =>
    unfold kp at h
    split at h
    · exact List.mem_cons_of_mem _ (ih h)
    · rcases List.mem_cons.1 h with h | h
      · exact h ▸ List.mem_cons_self
      · exact List.mem_cons_of_mem _ (ih h)
theorem kp_cover : ∀ {l : List (Nat → Int)} {x : Nat → Int}, x ∈ l → ∃ d ∈ kp l, dv d x
  | [], x, h => by cases h
  | a :: l, x, h => by
    have hl : ∀ y ∈ l, ∃ d ∈ kp (a :: l), dv d y := fun y hy => by
      obtain ⟨d, h1, h2⟩ := kp_cover hy
      refine ⟨d, ?_, h2⟩
      unfold kp
      split
      · exact h1
      · exact List.mem_cons_of_mem _ h1
    rcases List.mem_cons.1 h with h | h
    · subst h
      by_cases ha : anyDv x l = true
      · obtain ⟨d, h1, h2⟩ := anyDv_true.1 ha
        obtain ⟨e, h3, h4⟩ := hl d h1
        exact ⟨e, h3, h4.trans h2⟩
      · refine ⟨x, ?_, dv.refl x⟩
        unfold kp
        rw [if_neg ha]
        exact List.mem_cons_self
    · exact hl x h
/-- What the minimal elements are. -/
structure MinOf (l out : List (Nat → Int)) : Prop where
  strict : Strict out
  mem : ∀ x ∈ out, x ∈ l
  cover : ∀ x ∈ l, ∃ d ∈ out, dv d x
  free : out.Pairwise fun a b => ¬ dv a b ∧ ¬ dv b a
theorem kp_pair : ∀ {l : List (Nat → Int)}, Srt l → (kp l).Pairwise fun a b => Lt b a ∧ ¬ dv a b ∧ ¬ dv b a
  | [], _ => List.Pairwise.nil
  | a :: l, h => by
    have h1 := List.pairwise_cons.1 h
    unfold kp
    split
    · exact kp_pair h1.2
    · rename_i ha
      rw [List.pairwise_cons]
      refine ⟨fun b hb => ?_, kp_pair h1.2⟩
      have hbl := kp_mem hb
      have hn : ¬ dv b a := fun hd => ha (anyDv_true.2 ⟨b, hbl, hd⟩)
      have hlt : Lt b a := by
        rcases lex_total b a with h2 | h2 | h2
        · exact h2
        · exact absurd (fun k hk => by rw [h2 k hk]; exact Int.le_refl _) hn
        · exact absurd h2 (h1.1 b hbl)
      exact ⟨hlt, fun hd => dv_lex hd hlt, hn⟩
theorem minOf_kp {l s : List (Nat → Int)} (hp : s.Perm l) (hs : Srt s) : MinOf l (kp s) := by
  have h := kp_pair hs
  exact ⟨h.imp (fun h => h.1), fun x hx => hp.mem_iff.1 (kp_mem hx), fun x hx => kp_cover (hp.mem_iff.2 hx), h.imp (fun h => h.2)⟩
theorem kp_len : ∀ (l : List (Nat → Int)), (kp l).length ≤ l.length
  | [] => by simp [kp]
  | a :: l => by
    unfold kp
    have := kp_len l
    split <;> simp <;> omega
/-- F e, F (e - 1) .. F 0. -/
def dn (F : Nat → List (Nat → Int)) : Nat → List (Nat → Int)
  | 0 => F 0
  | e + 1 => F (e + 1) ++ dn F e
def put (a : Nat → Int) (k : Nat) (v : Int) : Nat → Int := fun j => if j = k then v else a j
/-- The monomials that begin as m does, of degree r in the d variables from i on. -/
def rs : Nat → Nat → Nat → (Nat → Int) → List (Nat → Int)
  | 0, _, r, m => if r = 0 then [m] else []
  | d + 1, i, r, m => dn (fun e => rs d (i + 1) (r - e) (put m i e)) r
theorem dn_len {F : Nat → List (Nat → Int)} {B : Nat} : ∀ {e : Nat}, (∀ k, k ≤ e → (F k).length ≤ B) → (dn F e).length ≤ (e + 1) * B
  | 0, h => by have := h 0 (by omega); simpa [dn] using this
  | e + 1, h => by
    have h1 := h (e + 1) (by omega)
    have h2 := dn_len (F := F) (e := e) (fun k hk => h k (by omega))
    have e3 : (e + 1 + 1) * B = (e + 1) * B + B := by rw [Nat.add_mul (e + 1) 1 B, Nat.one_mul]
    simp only [dn, List.length_append]
    omega
theorem rs_len : ∀ (d i r : Nat) (m : Nat → Int), r ≤ 12 → (rs d i r m).length ≤ 13 ^ d
  | 0, i, r, m, h => by unfold rs; split <;> simp
  | d + 1, i, r, m, h => by
    have h1 := dn_len (F := fun e => rs d (i + 1) (r - e) (put m i e)) (B := 13 ^ d) (e := r) (fun k hk => rs_len d (i + 1) (r - k) _ (by omega))
    have h2 : (r + 1) * 13 ^ d ≤ 13 * 13 ^ d := Nat.mul_le_mul_right _ (by omega)
    show (dn _ r).length ≤ 13 ^ (d + 1)
    rw [Nat.pow_succ, Nat.mul_comm (13 ^ d) 13]
    omega
/-- Two lists are equal, element by element. -/
def Alike : List (Nat → Int) → List (Nat → Int) → Prop
  | [], [] => True
  | a :: l, b :: m => Eqv a b ∧ Alike l m
  | _, _ => False
theorem Alike.len : ∀ {a b : List (Nat → Int)}, Alike a b → a.length = b.length
  | [], [], _ => rfl
  | _ :: _, _ :: _, h => by simp [Alike.len h.2]
theorem Alike.at_ : ∀ {a b : List (Nat → Int)}, Alike a b → ∀ (k : Nat) (x y : Nat → Int), a[k]? = some x → b[k]? = some y → Eqv x y
  | [], [], _, k, x, y, h, _ => by simp at h
  | p :: l, q :: m, h, 0, x, y, hx, hy => by
    simp at hx hy
    subst hx hy
    exact h.1
  | p :: l, q :: m, h, k + 1, x, y, hx, hy => Alike.at_ h.2 k x y (by simpa using hx) (by simpa using hy)
theorem strict_same : ∀ {a b : List (Nat → Int)}, Strict a → Strict b → (∀ x ∈ a, ∃ y ∈ b, Eqv x y) → (∀ y ∈ b, ∃ x ∈ a, Eqv x y) → Alike a b
  | [], [], _, _, _, _ => trivial
  | [], q :: m, _, _, _, h => by obtain ⟨x, hx, _⟩ := h q List.mem_cons_self; cases hx
  | p :: l, [], _, _, h, _ => by obtain ⟨x, hx, _⟩ := h p List.mem_cons_self; cases hx
  | p :: l, q :: m, sa, sb, h, k => by
    have ha := List.pairwise_cons.1 sa
    have hb := List.pairwise_cons.1 sb
    have e : Eqv p q := by
      obtain ⟨y, hy, e1⟩ := h p List.mem_cons_self
      obtain ⟨x, hx, e2⟩ := k q List.mem_cons_self
      rcases List.mem_cons.1 hy with rfl | hy
      · exact e1
      · rcases List.mem_cons.1 hx with rfl | hx
        · exact e2
        · exfalso
          have l1 := hb.1 y hy
          have l2 := ha.1 x hx
          exact ((Lt.left e1 l1).asymm (Lt.left e2.symm l2))
    refine ⟨e, strict_same ha.2 hb.2 (fun x hx => ?_) (fun y hy => ?_)⟩
    · obtain ⟨y, hy, e1⟩ := h x (List.mem_cons_of_mem _ hx)
      rcases List.mem_cons.1 hy with rfl | hy
      · exact absurd (Lt.left e1.symm (ha.1 x hx)) (fun hl => (hl.right e).irrefl)
      · exact ⟨y, hy, e1⟩
    · obtain ⟨x, hx, e1⟩ := k y (List.mem_cons_of_mem _ hy)
      rcases List.mem_cons.1 hx with rfl | hx
      · exact absurd (Lt.left e1 (hb.1 y hy)) (fun hl => (hl.right e.symm).irrefl)
      · exact ⟨x, hx, e1⟩
theorem free_eq : ∀ {l : List (Nat → Int)}, (l.Pairwise fun a b => ¬ dv a b ∧ ¬ dv b a) → ∀ {x y : Nat → Int}, x ∈ l → y ∈ l → dv x y → x = y
  | [], _, x, y, h, _, _ => by cases h
  | a :: l, hp, x, y, hx, hy, hd => by
    have h := List.pairwise_cons.1 hp
    rcases List.mem_cons.1 hx with h1 | h1 <;> rcases List.mem_cons.1 hy with h2 | h2
    · rw [h1, h2]
    · subst h1; exact absurd hd (h.1 y h2).1
    · subst h2; exact absurd hd (h.1 x h1).2
    · exact free_eq h.2 h1 h2 hd
theorem dv.left {a b c : Nat → Int} (h : Eqv a b) (k : dv b c) : dv a c := fun j hj => by rw [h j hj]; exact k j hj
theorem dv.right {a b c : Nat → Int} (k : dv a b) (h : Eqv b c) : dv a c := fun j hj => by rw [← h j hj]; exact k j hj
theorem min_half {la lb a b : List (Nat → Int)} (ha : MinOf la a) (hb : MinOf lb b) (h : ∀ x ∈ la, ∃ y ∈ lb, Eqv x y) (k : ∀ y ∈ lb, ∃ x ∈ la, Eqv x y) : ∀ x ∈ a, ∃ y ∈ b, Eqv x y := by
  intro x hx
  obtain ⟨y, hy, e1⟩ := h x (ha.mem x hx)
  obtain ⟨d, hd, h1⟩ := hb.cover y hy
  obtain ⟨z, hz, e2⟩ := k d (hb.mem d hd)
  obtain ⟨d', hd', h2⟩ := ha.cover z hz
  have h3 : dv d' d := h2.right e2
  have h4 : dv d x := h1.right e1.symm
  have e3 := free_eq ha.free hd' hx (h3.trans h4)
  subst e3
  exact ⟨d, hd, dv.antisymm h3 h4⟩
theorem min_same {la lb a b : List (Nat → Int)} (ha : MinOf la a) (hb : MinOf lb b) (h : ∀ x ∈ la, ∃ y ∈ lb, Eqv x y) (k : ∀ y ∈ lb, ∃ x ∈ la, Eqv x y) : Alike a b :=
  strict_same ha.strict hb.strict (min_half ha hb h k) (fun y hy => by
    obtain ⟨x, hx, e⟩ := min_half hb ha (fun y hy => by obtain ⟨x, hx, e⟩ := k y hy; exact ⟨x, hx, e.symm⟩) (fun x hx => by obtain ⟨y, hy, e⟩ := h x hx; exact ⟨y, hy, e.symm⟩) y hy
    exact ⟨x, hx, e.symm⟩)
/-- The monomial with three exponents. -/
def tri (a b c : Int) : Nat → Int := fun k => if k = 0 then a else if k = 1 then b else if k = 2 then c else 0
theorem tri_lt {a b c x y z : Int} (h : a < x ∨ (a = x ∧ b < y) ∨ (a = x ∧ b = y ∧ c < z)) : Lt (tri a b c) (tri x y z) := by
  rcases h with h | ⟨rfl, h⟩ | ⟨rfl, rfl, h⟩
  · exact ⟨0, by omega, fun k hk => by omega, by simpa [tri] using h⟩
  · exact ⟨1, by omega, fun k hk => by obtain rfl : k = 0 := by omega
                                       rfl, by simpa [tri] using h⟩
  · exact ⟨2, by omega, fun k hk => by rcases (show k = 0 ∨ k = 1 by omega) with rfl | rfl <;> rfl, by simpa [tri] using h⟩
theorem tri_dv {a b c x y z : Int} : dv (tri a b c) (tri x y z) ↔ a ≤ x ∧ b ≤ y ∧ c ≤ z := by
  constructor
  · intro h
    have h0 := h 0 (by omega); have h1 := h 1 (by omega); have h2 := h 2 (by omega)
    simp [tri] at h0 h1 h2
    exact ⟨h0, h1, h2⟩
  · rintro ⟨h0, h1, h2⟩ k hk
    unfold tri
    split
    · exact h0
    · split
      · exact h1
      · split
        · exact h2
        · exact Int.le_refl _
def five : List (Nat → Int) := [tri 1 2 0, tri 2 0 0, tri 1 1 0, tri 2 0 0, tri 1 2 0]
theorem min_five : MinOf five [tri 2 0 0, tri 1 1 0] := by
  refine ⟨?_, ?_, ?_, ?_⟩
  · exact List.pairwise_cons.2 ⟨fun b hb => by simp at hb; subst hb; exact tri_lt (by omega), List.pairwise_singleton _ _⟩
  · intro x hx
    simp [five] at hx ⊢
    rcases hx with rfl | rfl <;> simp
  · intro x hx
    simp [five] at hx
    rcases hx with rfl | rfl | rfl | rfl | rfl
    · exact ⟨tri 1 1 0, by simp, tri_dv.2 (by omega)⟩
    · exact ⟨tri 2 0 0, by simp, tri_dv.2 (by omega)⟩
    · exact ⟨tri 1 1 0, by simp, tri_dv.2 (by omega)⟩
    · exact ⟨tri 2 0 0, by simp, tri_dv.2 (by omega)⟩
    · exact ⟨tri 1 1 0, by simp, tri_dv.2 (by omega)⟩
  · exact List.pairwise_cons.2 ⟨fun b hb => by simp at hb; subst hb; exact ⟨fun h => by have := tri_dv.1 h; omega, fun h => by have := tri_dv.1 h; omega⟩, List.pairwise_singleton _ _⟩
theorem five_min {m : List (Nat → Int)} (h : MinOf five m) : Alike m [tri 2 0 0, tri 1 1 0] :=
  min_same h min_five (fun x hx => ⟨x, hx, Eqv.rfl' x⟩) (fun x hx => ⟨x, hx, Eqv.rfl' x⟩)
end Go.Proofs.Ytchkaaeipafdnaa
