/- Plain mathematics of cutting: where an encoding begins no byte continues; the greatest boundary below a limit, found from behind and found from the front. -/
import Derived.Test.YtbjhomihmlijiaaDoorDecPlain
import Derived.Test.YtbjhomihmlijiaaDoorAll
namespace U8
theorem conts_cont (r j : Nat) : ∀ x ∈ conts r j, cont x = true := by
  induction j with
  | zero => simp [conts]
  | succ j ih =>
    intro x hx
    simp only [conts, List.mem_cons] at hx
    rcases hx with rfl | hx
    · simp [cont]; omega
    · exact ih x hx

theorem mark_ge (n : Nat) : 192 ≤ mark n := by
  unfold mark
  repeat' split
  all_goals omega

theorem enc_shape (r : Nat) : ∃ c t, enc r = c :: t ∧ cont c = false ∧ ∀ x ∈ t, cont x = true := by
  unfold enc
  split
  · rename_i h
    have : r < 128 := by rcases esize_cases r with g | g | g | g <;> omega
    exact ⟨r, [], rfl, by simp [cont]; omega, by simp⟩
  · refine ⟨_, _, rfl, ?_, conts_cont _ _⟩
    have h1 := mark_ge (esize r)
    obtain ⟨q, hq⟩ : ∃ q, q = r / 64 ^ (esize r - 1) := ⟨_, rfl⟩
    rw [← hq]
    simp [cont]
    omega

theorem take_shape (l : List Nat) (p z : Nat) (c : Nat) (t : List Nat) (h : (l.drop p).take z = c :: t) : l.getD p 0 = c ∧ ∀ j, p < j → j < p + z → j < l.length → l.getD j 0 ∈ t := by
  have hg : ∀ i, i < z → (c :: t)[i]? = l[p + i]? := by
    intro i hi
    rw [← h, List.getElem?_take_of_lt hi, List.getElem?_drop]
  have hz : 0 < z := by
    cases z with
    | zero => simp at h
    | succ z => omega
  constructor
  · have := hg 0 hz
    simp at this
    rw [List.getD_eq_getElem?_getD, ← this]
    rfl
  · intro j h1 h2 h3
    have := hg (j - p) (by omega)
    rw [show p + (j - p) = j by omega, show j - p = (j - p - 1) + 1 by omega, List.getElem?_cons_succ, List.getElem?_eq_getElem h3] at this
    rw [List.getD_eq_getElem?_getD, List.getElem?_eq_getElem h3]
    exact List.mem_of_getElem? this

theorem offs (l : List Nat) (hb : ∀ x ∈ l, x < 256) : ∀ f p, p ≤ l.length → l.length - p ≤ f → (allF l f p).2.2.2 = 0 →
    (∀ o ∈ (allF l f p).2.1, p ≤ o ∧ o < l.length) ∧ ∀ j, p ≤ j → j < l.length → (j ∈ (allF l f p).2.1 ↔ cont (l.getD j 0) = false) := by
  intro f
  induction f with
  | zero =>
    intro p hp hf _
    refine ⟨by simp [allF], fun j h1 h2 => by omega⟩
  | succ f ih =>
    intro p hp hf he
    by_cases hlt : p < l.length
    · rw [allF, if_pos hlt] at he ⊢
      obtain ⟨⟨r, z, e⟩, hx⟩ : ∃ x, first (l.drop p) = x := ⟨_, rfl⟩
      rw [hx] at he ⊢
      simp only at he ⊢
      by_cases h0 : e = 0
      · subst h0
        rw [if_pos rfl] at he ⊢
        simp only at he ⊢
        have hne : l.drop p ≠ [] := by
          intro h
          have := congrArg List.length h
          simp only [List.length_drop, List.length_nil] at this
          omega
        have hb2 : ∀ x ∈ l.drop p, x < 256 := fun x hx => hb x (List.mem_of_mem_drop hx)
        obtain ⟨hz1, hz2, hn⟩ := first_size (l.drop p) (by rw [List.length_drop]; omega) hb2 r z hx
        rw [List.length_drop] at hz2
        obtain ⟨_, henc⟩ := next_enc (l.drop p) hne r z hn
        obtain ⟨c, t, hs, hc, ht⟩ := enc_shape r
        rw [hs] at henc
        obtain ⟨g1, g2⟩ := take_shape l p z c t henc.symm
        obtain ⟨i1, i2⟩ := ih (p + z) (by omega) (by omega) he
        refine ⟨?_, ?_⟩
        · intro o ho
          simp only [List.mem_cons] at ho
          rcases ho with rfl | ho
          · exact ⟨Nat.le_refl _, hlt⟩
          · have := i1 o ho
            omega
        · intro j h1 h2
          rw [List.mem_cons]
          by_cases hj : j = p
          · subst hj
            rw [g1, hc]
            simp
          · by_cases hj2 : j < p + z
            · have h3 := ht _ (g2 j (by omega) hj2 h2)
              rw [h3]
              constructor
              · rintro (h | h)
                · exact absurd h hj
                · have := i1 j h
                  omega
              · simp
            · rw [← i2 j (by omega) h2]
              constructor
              · rintro (h | h)
                · exact absurd h hj
                · exact h
              · exact .inr
      · rw [if_neg h0] at he
        exact absurd he h0
    · rw [allF, if_neg hlt]
      refine ⟨by simp, fun j h1 h2 => by omega⟩

/-- a place where an encoding begins, or the end -/
def edge (l : List Nat) (j : Nat) : Prop := j = l.length ∨ (j < l.length ∧ cont (l.getD j 0) = false)

/-- the last of some numbers that is at most a limit -/
def lastLe (m : Nat) (os : List Nat) : Nat := os.foldl (fun a o => if o ≤ m then o else a) 0

theorem foldLe (m : Nat) (os : List Nat) : ∀ a, a ≤ m → (∀ o ∈ os, a ≤ o) → os.Pairwise (· ≤ ·) →
    os.foldl (fun a o => if o ≤ m then o else a) a ≤ m ∧ (os.foldl (fun a o => if o ≤ m then o else a) a = a ∨ os.foldl (fun a o => if o ≤ m then o else a) a ∈ os) ∧ a ≤ os.foldl (fun a o => if o ≤ m then o else a) a ∧ ∀ o ∈ os, o ≤ m → o ≤ os.foldl (fun a o => if o ≤ m then o else a) a := by
  induction os with
  | nil => intro a ha _ _; simp [ha]
  | cons o os ih =>
    intro a ha hle hp
    rw [List.pairwise_cons] at hp
    rw [List.foldl_cons]
    by_cases ho : o ≤ m
    · rw [if_pos ho]
      obtain ⟨h1, h2, h3, h4⟩ := ih o ho hp.1 hp.2
      refine ⟨h1, ?_, Nat.le_trans (hle o (by simp)) h3, ?_⟩
      · rcases h2 with h | h
        · right; rw [h]; simp
        · right; simp [h]
      · intro x hx hxm
        simp only [List.mem_cons] at hx
        rcases hx with rfl | hx
        · exact h3
        · exact h4 x hx hxm
    · rw [if_neg ho]
      obtain ⟨h1, h2, h3, h4⟩ := ih a ha (fun x hx => hle x (by simp [hx])) hp.2
      refine ⟨h1, ?_, h3, ?_⟩
      · rcases h2 with h | h
        · exact .inl h
        · right; simp [h]
      · intro x hx hxm
        simp only [List.mem_cons] at hx
        rcases hx with rfl | hx
        · exact absurd hxm ho
        · exact h4 x hx hxm

theorem edge_only (l : List Nat) (m a b : Nat) (ha : edge l a) (hb : edge l b) (ham : a ≤ m) (hbm : b ≤ m) (h1 : ∀ j, edge l j → j ≤ m → j ≤ a) (h2 : ∀ j, edge l j → j ≤ m → j ≤ b) : a = b :=
  Nat.le_antisymm (h2 a ha ham) (h1 b hb hbm)
end U8
