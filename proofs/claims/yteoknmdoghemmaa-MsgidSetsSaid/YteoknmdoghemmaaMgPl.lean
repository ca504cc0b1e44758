/- Sets as strictly ascending lists; merging two of them. -/
import Derived.Test.YteoknmdoghemmaaSet
namespace Mid
def Asc' (l : List Id) : Prop := l.Pairwise fun x y => cfI x y < 0
theorem cfI_neg (x y : Id) : cfI y x = - cfI x y := by unfold cfI; exact cmpL_neg _ _
theorem cfI_self (x : Id) : cfI x x = 0 := by unfold cfI; exact cmpL_self _
theorem cfI_zero {x y : Id} (h : cfI x y = 0) : x = y := cfI_eq x y (by omega) (by rw [cfI_neg]; omega)
theorem cfI_trans {x y z : Id} (h : cfI x y < 0) (k : cfI y z < 0) : cfI x z < 0 := by unfold cfI at *; exact cmpL_trans_lt _ _ _ h k
theorem cfI_range (x y : Id) : cfI x y = -1 ∨ cfI x y = 0 ∨ cfI x y = 1 := by unfold cfI; exact cmpL_range _ _
/-- one set has one ascending list -/
theorem uniq : ∀ (l m : List Id), Asc' l → Asc' m → (∀ x, x ∈ l ↔ x ∈ m) → l = m
  | [], [], _, _, _ => rfl
  | [], y :: m, _, _, h => absurd ((h y).2 (by simp)) (by simp)
  | x :: l, [], _, _, h => absurd ((h x).1 (by simp)) (by simp)
  | x :: l, y :: m, hl, hm, h => by
    have hl' := List.pairwise_cons.1 hl
    have hm' := List.pairwise_cons.1 hm
    have e : x = y := by
      rcases List.mem_cons.1 ((h x).1 (by simp)) with e | e
      · exact e
      · rcases List.mem_cons.1 ((h y).2 (by simp)) with e2 | e2
        · exact e2.symm
        · have h1 := hm'.1 x e
          have h2 := hl'.1 y e2
          have := cfI_neg x y
          omega
    subst e
    rw [uniq l m hl'.2 hm'.2 (fun u => ?_)]
    constructor
    · intro hu
      rcases List.mem_cons.1 ((h u).1 (by simp [hu])) with e | e
      · subst e; have := hl'.1 u hu; rw [cfI_self] at this; omega
      · exact e
    · intro hu
      rcases List.mem_cons.1 ((h u).2 (by simp [hu])) with e | e
      · subst e; have := hm'.1 u hu; rw [cfI_self] at this; omega
      · exact e
theorem dd_from (ls : List Id) (m : Nat) (hm : m ≤ ls.length) (y : Id) (hy : y ∈ dd ls m) : ∃ i, i < m ∧ y = ls[i]! := by
  rw [dd_mem ls y m hm] at hy
  obtain ⟨i, hi, e⟩ := List.mem_take_iff_getElem.1 hy
  refine ⟨i, by omega, ?_⟩
  rw [getElem!_pos ls i (by omega), e]
theorem dd_asc (ls : List Id) (hs : ∀ i j, i < j → j < ls.length → ¬ cfI ls[j]! ls[i]! < 0) : ∀ m, m ≤ ls.length → Asc' (dd ls m)
  | 0, _ => by simp [dd, Asc']
  | 1, _ => by
    show List.Pairwise _ (ls.take 1)
    match ls with
    | [] => simp
    | a :: l => simp
  | m + 2, hm => by
    have ih := dd_asc ls hs (m + 1) (by omega)
    rw [dd]
    split
    · exact ih
    · rename_i hne
      unfold Asc' at *
      rw [List.pairwise_append]
      refine ⟨ih, by simp, fun y hy z hz => ?_⟩
      rw [List.mem_singleton] at hz
      subst hz
      obtain ⟨i, hi, rfl⟩ := dd_from ls (m + 1) (by omega) y hy
      have h1 := hs i (m + 1) (by omega) (by omega)
      have h2 := hs m (m + 1) (by omega) (by omega)
      have n1 := cfI_neg ls[i]! ls[m + 1]!
      have n2 := cfI_neg ls[m]! ls[m + 1]!
      have h3 : cfI ls[m]! ls[m + 1]! < 0 := by
        by_cases e : cfI ls[m]! ls[m + 1]! = 0
        · exact absurd (cfI_zero e).symm hne
        · omega
      by_cases e : i = m
      · subst e; exact h3
      · have h4 := hs i m (by omega) (by omega)
        have n3 := cfI_neg ls[i]! ls[m]!
        by_cases e2 : cfI ls[i]! ls[m]! = 0
        · rw [cfI_zero e2]; exact h3
        · exact cfI_trans (by omega) h3

/-- merging -/
def mg (kf : Bool → Bool → Bool) : List Id → List Id → List Id
  | [], [] => []
  | x :: p, [] => (if kf true false = true then [x] else []) ++ mg kf p []
  | [], y :: q => (if kf false true = true then [y] else []) ++ mg kf [] q
  | x :: p, y :: q =>
    if cfI x y < 0 then (if kf true false = true then [x] else []) ++ mg kf p (y :: q)
    else if 0 < cfI x y then (if kf false true = true then [y] else []) ++ mg kf (x :: p) q
    else (if kf true true = true then [y] else []) ++ mg kf p q
termination_by p q => p.length + q.length
theorem mem_ite (b : Bool) (x u : Id) : u ∈ (if b = true then [x] else []) ↔ b = true ∧ u = x := by
  cases b <;> simp
theorem asc_out {x : Id} {p : List Id} (h : Asc' (x :: p)) : x ∉ p := by
  intro hx
  have := (List.pairwise_cons.1 h).1 x hx
  rw [cfI_self] at this
  omega
theorem asc_less {x y : Id} {q : List Id} (h : Asc' (y :: q)) (hxy : cfI x y < 0) : ∀ u ∈ y :: q, cfI x u < 0 := by
  intro u hu
  rcases List.mem_cons.1 hu with e | e
  · rw [e]; exact hxy
  · exact cfI_trans hxy ((List.pairwise_cons.1 h).1 u e)
theorem less_out {x : Id} {q : List Id} (h : ∀ u ∈ q, cfI x u < 0) : x ∉ q := by
  intro hx
  have := h x hx
  rw [cfI_self] at this
  omega
theorem mg_mem (kf : Bool → Bool → Bool) : ∀ (n : Nat) (p q : List Id), p.length + q.length ≤ n → Asc' p → Asc' q → ∀ u, u ∈ mg kf p q ↔ (u ∈ p ∨ u ∈ q) ∧ kf (decide (u ∈ p)) (decide (u ∈ q)) = true := by
  intro n
  induction n with
  | zero =>
    intro p q h _ _ u
    obtain rfl : p = [] := List.eq_nil_of_length_eq_zero (by omega)
    obtain rfl : q = [] := List.eq_nil_of_length_eq_zero (by omega)
    simp [mg]
  | succ n ih =>
    intro p q h hp hq u
    match p, q with
    | [], [] => simp [mg]
    | x :: p, [] =>
      have ihu := ih p [] (by simp at h ⊢; omega) (List.pairwise_cons.1 hp).2 hq u
      rw [mg, List.mem_append, mem_ite, ihu]
      by_cases e : u = x
      · subst e; simp [asc_out hp]
      · simp [e]
    | [], y :: q =>
      have ihu := ih [] q (by simp at h ⊢; omega) hp (List.pairwise_cons.1 hq).2 u
      rw [mg, List.mem_append, mem_ite, ihu]
      by_cases e : u = y
      · subst e; simp [asc_out hq]
      · simp [e]
    | x :: p, y :: q =>
      rw [mg]
      split
      · rename_i hlt
        have ihu := ih p (y :: q) (by simp at h ⊢; omega) (List.pairwise_cons.1 hp).2 hq u
        rw [List.mem_append, mem_ite, ihu]
        have hxo := less_out (asc_less hq hlt)
        by_cases e : u = x
        · subst e; simp [asc_out hp, hxo]
        · simp [e]
      · rename_i hnl
        split
        · rename_i hgt
          have hyx : cfI y x < 0 := by rw [cfI_neg]; omega
          have ihu := ih (x :: p) q (by simp at h ⊢; omega) hp (List.pairwise_cons.1 hq).2 u
          rw [List.mem_append, mem_ite, ihu]
          have hyo := less_out (asc_less hp hyx)
          by_cases e : u = y
          · subst e; simp [asc_out hq, hyo]
          · simp [e]
        · rename_i hng
          have hxy : x = y := cfI_zero (by omega)
          subst hxy
          have ihu := ih p q (by simp at h ⊢; omega) (List.pairwise_cons.1 hp).2 (List.pairwise_cons.1 hq).2 u
          rw [List.mem_append, mem_ite, ihu]
          by_cases e : u = x
          · subst e; simp [asc_out hp, asc_out hq]
          · simp [e]
theorem asc_ite (b : Bool) (x : Id) (r : List Id) (hr : Asc' r) (h : ∀ u ∈ r, cfI x u < 0) : Asc' ((if b = true then [x] else []) ++ r) := by
  cases b with
  | true => exact List.pairwise_cons.2 ⟨h, hr⟩
  | false => exact hr
theorem mg_asc (kf : Bool → Bool → Bool) : ∀ (n : Nat) (p q : List Id), p.length + q.length ≤ n → Asc' p → Asc' q → Asc' (mg kf p q) := by
  intro n
  induction n with
  | zero =>
    intro p q h _ _
    obtain rfl : p = [] := List.eq_nil_of_length_eq_zero (by omega)
    obtain rfl : q = [] := List.eq_nil_of_length_eq_zero (by omega)
    simp [mg, Asc']
  | succ n ih =>
    intro p q h hp hq
    match p, q with
    | [], [] => simp [mg, Asc']
    | x :: p, [] =>
      have hp' := List.pairwise_cons.1 hp
      rw [mg]
      refine asc_ite _ _ _ (ih p [] (by simp at h ⊢; omega) hp'.2 hq) (fun u hu => ?_)
      rw [mg_mem kf _ p [] (Nat.le_refl _) hp'.2 hq] at hu
      rcases hu.1 with h1 | h1
      · exact hp'.1 u h1
      · simp at h1
    | [], y :: q =>
      have hq' := List.pairwise_cons.1 hq
      rw [mg]
      refine asc_ite _ _ _ (ih [] q (by simp at h ⊢; omega) hp hq'.2) (fun u hu => ?_)
      rw [mg_mem kf _ [] q (Nat.le_refl _) hp hq'.2] at hu
      rcases hu.1 with h1 | h1
      · simp at h1
      · exact hq'.1 u h1
    | x :: p, y :: q =>
      have hp' := List.pairwise_cons.1 hp
      have hq' := List.pairwise_cons.1 hq
      rw [mg]
      split
      · rename_i hlt
        refine asc_ite _ _ _ (ih p (y :: q) (by simp at h ⊢; omega) hp'.2 hq) (fun u hu => ?_)
        rw [mg_mem kf _ p (y :: q) (Nat.le_refl _) hp'.2 hq] at hu
        rcases hu.1 with h1 | h1
        · exact hp'.1 u h1
        · exact asc_less hq hlt u h1
      · split
        · rename_i hgt
          have hyx : cfI y x < 0 := by rw [cfI_neg]; omega
          refine asc_ite _ _ _ (ih (x :: p) q (by simp at h ⊢; omega) hp hq'.2) (fun u hu => ?_)
          rw [mg_mem kf _ (x :: p) q (Nat.le_refl _) hp hq'.2] at hu
          rcases hu.1 with h1 | h1
          · exact asc_less hp hyx u h1
          · exact hq'.1 u h1
        · have hxy : x = y := cfI_zero (by omega)
          subst hxy
          refine asc_ite _ _ _ (ih p q (by simp at h ⊢; omega) hp'.2 hq'.2) (fun u hu => ?_)
          rw [mg_mem kf _ p q (Nat.le_refl _) hp'.2 hq'.2] at hu
          rcases hu.1 with h1 | h1
          · exact hp'.1 u h1
          · exact hq'.1 u h1
theorem mg_len (kf : Bool → Bool → Bool) : ∀ (n : Nat) (p q : List Id), p.length + q.length ≤ n → (mg kf p q).length ≤ p.length + q.length := by
  have hi : ∀ (b : Bool) (x : Id), (if b = true then [x] else []).length ≤ 1 := fun b x => by cases b <;> simp
  intro n
  induction n with
  | zero =>
    intro p q h
    obtain rfl : p = [] := List.eq_nil_of_length_eq_zero (by omega)
    obtain rfl : q = [] := List.eq_nil_of_length_eq_zero (by omega)
    simp [mg]
  | succ n ih =>
    intro p q h
    match p, q with
    | [], [] => simp [mg]
    | x :: p, [] =>
      have := ih p [] (by simp at h ⊢; omega)
      have := hi (kf true false) x
      rw [mg, List.length_append]; simp only [List.length_cons, List.length_nil] at *; omega
    | [], y :: q =>
      have := ih [] q (by simp at h ⊢; omega)
      have := hi (kf false true) y
      rw [mg, List.length_append]; simp only [List.length_cons, List.length_nil] at *; omega
    | x :: p, y :: q =>
      have h1 := ih p (y :: q) (by simp at h ⊢; omega)
      have h2 := ih (x :: p) q (by simp at h ⊢; omega)
      have h3 := ih p q (by simp at h ⊢; omega)
      have i1 := hi (kf true false) x
      have i2 := hi (kf false true) y
      have i3 := hi (kf true true) y
      rw [mg]
      split
      · rw [List.length_append]; simp only [List.length_cons] at *; omega
      · split
        · rw [List.length_append]; simp only [List.length_cons] at *; omega
        · rw [List.length_append]; simp only [List.length_cons] at *; omega
end Mid
