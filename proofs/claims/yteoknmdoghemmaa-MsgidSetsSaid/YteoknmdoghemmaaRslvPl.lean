/- Resolve, plainly. -/
import Derived.Test.YteoknmdoghemmaaSet
namespace Mid
/-- whether an identity's digits begin with a text -/
def pre (p : List UInt8) (x : Id) : Bool := decide ((Asc.hexL x.1).take p.length = p)
/-- the only identity of a list, or what is wrong with it -/
def only : List Id → Id × Nat
  | [] => (default, 8)
  | x :: r => if r.all (fun y => decide (y = x)) = true then (x, 0) else (default, 7)
def resolve (p : List UInt8) (ls : List Id) : Id × Nat :=
  if p.length < 4 then (default, 4) else if 64 < p.length then (default, 5) else if p.any (fun c => !hxB c) = true then (default, 6) else only (ls.filter (pre p))

theorem only_none (F : List Id) (h : ∀ x, x ∈ ([] : List Id) ↔ x ∈ F) : only F = (default, 8) := by
  cases F with
  | nil => rfl
  | cons x r => exact absurd ((h x).2 (by simp)) (by simp)
theorem only_one (F : List Id) (x : Id) (h : ∀ y, y ∈ [x] ↔ y ∈ F) : only F = (x, 0) := by
  cases F with
  | nil => exact absurd ((h x).1 (by simp)) (by simp)
  | cons z r =>
    have hz : z = x := by simpa using (h z).2 (by simp)
    subst hz
    rw [only, if_pos]
    rw [List.all_eq_true]
    intro y hy
    have : y = z := by simpa using (h y).2 (by simp [hy])
    simp [this]
theorem only_two (D F : List Id) (h : ∀ y, y ∈ D ↔ y ∈ F) (hd : ∃ x ∈ D, ∃ y ∈ D, x ≠ y) : only F = (default, 7) := by
  obtain ⟨x, hx, y, hy, hne⟩ := hd
  cases F with
  | nil => exact absurd ((h x).1 hx) (by simp)
  | cons z r =>
    rw [only, if_neg]
    intro ha
    rw [List.all_eq_true] at ha
    have key : ∀ u, u ∈ D → u = z := by
      intro u hu
      rcases List.mem_cons.1 ((h u).1 hu) with e | e
      · exact e
      · exact of_decide_eq_true (ha u e)
    exact hne ((key x hx).trans (key y hy).symm)
theorem dd_two (ls : List Id) : ∀ m, m ≤ ls.length → 2 ≤ (dd ls m).length → ∃ x ∈ ls, ∃ y ∈ ls, x ≠ y
  | 0, _, h => by simp [dd] at h
  | 1, _, h => by have := dd_len ls 1; omega
  | m + 2, hm, h => by
    by_cases e : ls[m + 1]! = ls[m]!
    · rw [dd, if_pos e] at h
      exact dd_two ls (m + 1) (by omega) h
    · refine ⟨ls[m + 1]!, ?_, ls[m]!, ?_, e⟩
      · rw [getElem!_pos ls (m + 1) (by omega)]; exact List.getElem_mem _
      · rw [getElem!_pos ls m (by omega)]; exact List.getElem_mem _
theorem filter_step (ls : List Id) (k : Nat) (h : k < ls.length) (f : Id → Bool) : (ls.take (k + 1)).filter f = if f ls[k]! = true then (ls.take k).filter f ++ [ls[k]!] else (ls.take k).filter f := by
  rw [List.take_succ_eq_append_getElem h, List.filter_append, getElem!_pos ls k h]
  by_cases e : f ls[k] = true
  · rw [if_pos e]; simp [e]
  · rw [if_neg e]; simp [e]
/-- what Set's list of the ones found says -/
theorem only_set (F ms : List Id) (hp : ms.Perm F) : 
    ((dd ms ms.length).length = 0 → only F = (default, 8)) ∧ (∀ x, dd ms ms.length = [x] → only F = (x, 0)) ∧ (2 ≤ (dd ms ms.length).length → only F = (default, 7)) := by
  have hm : ∀ y, y ∈ dd ms ms.length ↔ y ∈ F := fun y => by
    rw [dd_mem ms y _ (Nat.le_refl _), List.take_of_length_le (Nat.le_refl _)]
    exact hp.mem_iff
  refine ⟨fun h => ?_, fun x h => ?_, fun h => ?_⟩
  · rw [List.eq_nil_of_length_eq_zero h] at hm
    exact only_none F hm
  · rw [h] at hm
    exact only_one F x hm
  · obtain ⟨x, hx, y, hy, hne⟩ := dd_two ms ms.length (Nat.le_refl _) h
    exact only_two _ F hm ⟨x, (hm x).2 (hp.mem_iff.1 hx), y, (hm y).2 (hp.mem_iff.1 hy), hne⟩
end Mid
