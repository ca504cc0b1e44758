/- The boundaries of a text without error are the offsets and its length; the last that is at most a limit is the greatest. -/
import Derived.Test.YtjjkpokombdamaaDoorCutPlain
namespace U8
theorem offs_sorted (l : List Nat) : ∀ f p, (∀ o ∈ (allF l f p).2.1, p ≤ o) ∧ (allF l f p).2.1.Pairwise (· ≤ ·) := by
  intro f
  induction f with
  | zero => intro p; simp [allF]
  | succ f ih =>
    intro p
    rw [allF]
    split
    · split
      · obtain ⟨h1, h2⟩ := ih (p + (first (l.drop p)).2.1)
        refine ⟨?_, ?_⟩
        · intro o ho
          simp only [List.mem_cons] at ho
          rcases ho with rfl | ho
          · exact Nat.le_refl _
          · exact Nat.le_trans (Nat.le_add_right _ _) (h1 o ho)
        · simp only [List.pairwise_cons]
          exact ⟨fun o ho => Nat.le_trans (Nat.le_add_right _ _) (h1 o ho), h2⟩
      · simp
    · simp

theorem edges (l : List Nat) (hb : ∀ x ∈ l, x < 256) (he : (allF l l.length 0).2.2.2 = 0) (j : Nat) : edge l j ↔ j ∈ (allF l l.length 0).2.1 ++ [l.length] := by
  obtain ⟨h1, h2⟩ := offs l hb l.length 0 (Nat.zero_le _) (Nat.le_refl _) he
  rw [List.mem_append, List.mem_singleton]
  constructor
  · rintro (h | ⟨h, g⟩)
    · exact .inr h
    · exact .inl ((h2 j (Nat.zero_le _) h).2 g)
  · rintro (h | h)
    · have := h1 j h
      exact .inr ⟨this.2, (h2 j (Nat.zero_le _) this.2).1 h⟩
    · exact .inl h

theorem zero_edge (l : List Nat) (hb : ∀ x ∈ l, x < 256) (he : (allF l l.length 0).2.2.2 = 0) : edge l 0 := by
  rw [edges l hb he]
  cases hl : l.length with
  | zero => simp [allF]
  | succ n =>
    rw [hl] at he
    rw [allF, if_pos (by omega)] at he ⊢
    split at he
    · rename_i h
      rw [if_pos h]
      simp
    · rename_i h
      exact absurd he h

/-- the boundary that a limit gives -/
def cutAt (l : List Nat) (m : Nat) : Nat := lastLe m ((allF l l.length 0).2.1 ++ [l.length])

theorem cutAt_good (l : List Nat) (hb : ∀ x ∈ l, x < 256) (he : (allF l l.length 0).2.2.2 = 0) (m : Nat) :
    edge l (cutAt l m) ∧ cutAt l m ≤ m ∧ ∀ j, edge l j → j ≤ m → j ≤ cutAt l m := by
  have hs := offs_sorted l l.length 0
  have h1 := (offs l hb l.length 0 (Nat.zero_le _) (Nat.le_refl _) he).1
  have hp : ((allF l l.length 0).2.1 ++ [l.length]).Pairwise (· ≤ ·) := by
    rw [List.pairwise_append]
    refine ⟨hs.2, by simp, fun a ha b hb => ?_⟩
    simp only [List.mem_singleton] at hb
    subst hb
    exact Nat.le_of_lt (h1 a ha).2
  obtain ⟨g1, g2, _, g4⟩ := foldLe m _ 0 (Nat.zero_le _) (fun o _ => Nat.zero_le o) hp
  refine ⟨?_, g1, fun j hj hjm => g4 j ((edges l hb he j).1 hj) hjm⟩
  rcases g2 with h | h
  · have : cutAt l m = 0 := h
    rw [this]
    exact zero_edge l hb he
  · exact (edges l hb he _).2 h

theorem offs_len (l : List Nat) : ∀ f p, (allF l f p).2.1.length ≤ f := by
  intro f
  induction f with
  | zero => intro p; simp [allF]
  | succ f ih =>
    intro p
    rw [allF]
    split
    · split
      · have := ih (p + (first (l.drop p)).2.1)
        simp only [List.length_cons]
        omega
      · simp
    · simp

theorem lastLe_snoc (m : Nat) (l : List Nat) (o : Nat) : lastLe m (l ++ [o]) = if o ≤ m then o else lastLe m l := by
  simp [lastLe]
end U8
