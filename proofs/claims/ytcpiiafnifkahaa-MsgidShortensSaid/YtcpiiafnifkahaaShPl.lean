/- Shorten, plainly. -/
import Derived.Test.YtcpiiafnifkahaaRslvRef
namespace Mid
/-- how many digits two texts share at their beginnings -/
def com : List UInt8 → List UInt8 → Nat
  | a :: l, b :: m => if a = b then com l m + 1 else 0
  | _, _ => 0
theorem com_take : ∀ (l m : List UInt8) (n : Nat), n ≤ l.length → n ≤ m.length → (l.take n = m.take n ↔ n ≤ com l m)
  | _, _, 0, _, _ => by simp
  | [], _, n + 1, h, _ => by simp at h
  | _ :: _, [], n + 1, _, h => by simp at h
  | a :: l, b :: m, n + 1, h1, h2 => by
    have ih := com_take l m n (by simpa using h1) (by simpa using h2)
    rw [List.take_succ_cons, List.take_succ_cons, com]
    by_cases e : a = b
    · subst e
      rw [if_pos rfl]
      simp only [List.cons.injEq, true_and]
      rw [ih]
      omega
    · rw [if_neg e]
      simp [e]
theorem com_le : ∀ (l m : List UInt8), com l m ≤ l.length
  | [], _ => by simp [com]
  | _ :: _, [] => by simp [com]
  | a :: l, b :: m => by
    have := com_le l m
    rw [com]
    split
    · simp; omega
    · simp
/-- the digits of an identity -/
def hx (x : Id) : List UInt8 := Asc.hexL x.1
theorem hx_len (x : Id) : (hx x).length = 64 := by unfold hx; rw [hexL_length, x.2.1]
theorem hx_inj {x y : Id} (h : hx x = hx y) : x = y := Subtype.ext (hexL_inj x.1 y.1 x.2.2 y.2.2 h)
theorem hx_ok (x : Id) (n : Nat) : ((hx x).take n).any (fun c => !hxB c) = false := by
  rw [List.any_eq_false]
  intro c hc
  obtain ⟨j, hj, rfl⟩ := List.mem_iff_getElem.1 (List.mem_of_mem_take hc)
  have := nib_hexL x.1 x.2.2 j hj
  unfold hxB
  rw [show (hx x)[j] = (Asc.hexL x.1)[j] from rfl, decide_eq_true this]
  decide
/-- two identities share fewer than all digits -/
theorem com_ne (x y : Id) (h : y ≠ x) : com (hx x) (hx y) < 64 := by
  rcases Nat.lt_or_ge (com (hx x) (hx y)) 64 with h1 | h1
  · exact h1
  · have h2 := (com_take (hx x) (hx y) 64 (by rw [hx_len]; exact Nat.le_refl _) (by rw [hx_len]; exact Nat.le_refl _)).2 h1
    rw [List.take_of_length_le (by rw [hx_len]; exact Nat.le_refl _), List.take_of_length_le (by rw [hx_len]; exact Nat.le_refl _)] at h2
    exact absurd (hx_inj h2).symm h
/-- the number of digits that tell an identity from the first k of a list -/
def shN (x : Id) (ls : List Id) : Nat → Nat
  | 0 => 4
  | k + 1 => if ls[k]! = x then shN x ls k else max (shN x ls k) (com (hx x) (hx ls[k]!) + 1)
theorem shN_le (x : Id) (ls : List Id) (n : Nat) : ∀ k, shN x ls k ≤ n ↔ 4 ≤ n ∧ ∀ j, j < k → ls[j]! ≠ x → com (hx x) (hx ls[j]!) < n
  | 0 => by simp [shN]
  | k + 1 => by
    have ih := shN_le x ls n k
    rw [shN]
    split
    · rename_i h
      rw [ih]
      constructor
      · rintro ⟨h1, h2⟩
        refine ⟨h1, fun j hj hne => ?_⟩
        rcases Nat.lt_succ_iff_lt_or_eq.1 hj with e | e
        · exact h2 j e hne
        · subst e; exact absurd h hne
      · rintro ⟨h1, h2⟩
        exact ⟨h1, fun j hj hne => h2 j (by omega) hne⟩
    · rename_i h
      rw [Nat.max_le, ih]
      constructor
      · rintro ⟨⟨h1, h2⟩, h3⟩
        refine ⟨h1, fun j hj hne => ?_⟩
        rcases Nat.lt_succ_iff_lt_or_eq.1 hj with e | e
        · exact h2 j e hne
        · subst e; exact h3
      · rintro ⟨h1, h2⟩
        exact ⟨⟨h1, fun j hj hne => h2 j (by omega) hne⟩, h2 k (Nat.lt_succ_self k) h⟩
theorem shN_ge (x : Id) (ls : List Id) (k : Nat) : 4 ≤ shN x ls k := ((shN_le x ls _ k).1 (Nat.le_refl _)).1
theorem shN_64 (x : Id) (ls : List Id) (k : Nat) : shN x ls k ≤ 64 := (shN_le x ls 64 k).2 ⟨by decide, fun j _ h => com_ne x _ h⟩
/-- when a prefix of an identity's digits resolves to it -/
theorem only_eq (F : List Id) (x : Id) : only F = (x, 0) ↔ x ∈ F ∧ ∀ y ∈ F, y = x := by
  cases F with
  | nil => simp [only]
  | cons z r =>
    rw [only]
    by_cases h : r.all (fun y => decide (y = z)) = true
    · rw [if_pos h]
      rw [List.all_eq_true] at h
      constructor
      · intro e
        injection e with e _
        subst e
        exact ⟨by simp, fun y hy => (List.mem_cons.1 hy).elim id (fun h2 => of_decide_eq_true (h y h2))⟩
      · rintro ⟨_, h2⟩
        rw [h2 z (by simp)]
    · rw [if_neg h]
      constructor
      · intro e; injection e with _ e; cases e
      · rintro ⟨_, h2⟩
        refine absurd ?_ h
        rw [List.all_eq_true]
        intro y hy
        rw [h2 y (by simp [hy]), h2 z (by simp)]
        simp
theorem resolve_hx (x : Id) (ls : List Id) (n : Nat) (h4 : 4 ≤ n) (h64 : n ≤ 64) : resolve ((hx x).take n) ls = (x, 0) ↔ x ∈ ls ∧ shN x ls ls.length ≤ n := by
  have hl : ((hx x).take n).length = n := by rw [List.length_take, hx_len]; omega
  have hp : ∀ y, pre ((hx x).take n) y = true ↔ n ≤ com (hx x) (hx y) := fun y => by
    unfold pre
    rw [hl, decide_eq_true_eq, ← com_take (hx x) (hx y) n (by rw [hx_len]; exact h64) (by rw [hx_len]; exact h64)]
    exact eq_comm
  rw [resolve, if_neg (by rw [hl]; omega), if_neg (by rw [hl]; omega), if_neg (by rw [hx_ok]; decide), only_eq, shN_le]
  constructor
  · rintro ⟨h1, h2⟩
    refine ⟨(List.mem_filter.1 h1).1, h4, fun j hj hne => ?_⟩
    rcases Nat.lt_or_ge (com (hx x) (hx ls[j]!)) n with h | h
    · exact h
    · refine absurd (h2 ls[j]! (List.mem_filter.2 ⟨?_, (hp _).2 h⟩)) hne
      rw [getElem!_pos ls j hj]; exact List.getElem_mem hj
  · rintro ⟨h1, _, h2⟩
    refine ⟨List.mem_filter.2 ⟨h1, (hp x).2 ?_⟩, fun y hy => ?_⟩
    · exact (com_take (hx x) (hx x) n (by rw [hx_len]; exact h64) (by rw [hx_len]; exact h64)).1 rfl
    · obtain ⟨hm, hpy⟩ := List.mem_filter.1 hy
      obtain ⟨j, hj, rfl⟩ := List.mem_iff_getElem.1 hm
      have h3 := h2 j hj
      rw [getElem!_pos ls j hj] at h3
      have h5 := (hp _).1 hpy
      by_cases e : ls[j] = x
      · exact e
      · have := h3 e; omega
/-- the answer of Shorten -/
def shorten (x : Id) (ls : List Id) : List UInt8 × Nat := if x ∈ ls then ((hx x).take (shN x ls ls.length), 0) else ([], 8)
end Mid
