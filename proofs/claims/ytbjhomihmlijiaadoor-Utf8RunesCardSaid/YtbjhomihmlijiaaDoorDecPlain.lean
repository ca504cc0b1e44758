/- Plain mathematics: what next answers is a code point whose encoding stands at the beginning; the reference looks at eight bytes at most. -/
import Derived.Test.YtbjhomihmlijiaaDoorEnc
import Derived.Test.YtbjhomihmlijiaaDoorFirst
namespace U8
theorem len_one (c : Nat) (h : len c = 1) : c < 128 := by
  unfold len at h
  repeat' split at h
  all_goals omega
theorem len_two (c : Nat) (h : len c = 2) : 192 ≤ c ∧ c < 224 := by
  unfold len at h
  repeat' split at h
  all_goals omega
theorem len_three (c : Nat) (h : len c = 3) : 224 ≤ c ∧ c < 240 := by
  unfold len at h
  repeat' split at h
  all_goals omega
theorem len_four (c : Nat) (h : len c = 4) : 240 ≤ c ∧ c < 248 := by
  unfold len at h
  repeat' split at h
  all_goals omega

theorem next_enc (l : List Nat) (hl : l ≠ []) (r z : Nat) (hh : next l = (r, z, 0)) : ok r ∧ enc r = l.take z := by
  match l, hl with
  | c :: rest, _ =>
    rcases len_cases c with h | h | h | h | h
    · simp [next, h] at hh
    · have := len_one c h
      simp [next, h] at hh
      obtain ⟨rfl, rfl⟩ := hh
      refine ⟨by unfold ok; omega, ?_⟩
      have he : esize c = 1 := by unfold esize; rw [if_pos this]
      simp [enc, he]
    · have hc := len_two c h
      match rest with
      | [] =>
        cases hq : beg (c % 32) 2 1 <;> simp [next, h, more, hq] at hh
      | d :: rest =>
        cases hd : cont d <;> cases hq : beg (c % 32) 2 1 <;> cases hq2 : beg (c % 32 * 64 + d % 64) 2 0 <;> simp [next, h, more, hd, hq, hq2] at hh
        obtain ⟨rfl, rfl⟩ := hh
        simp [beg, bnd] at hq2
        simp [cont] at hd
        obtain ⟨x, hx⟩ : ∃ x, x = c % 32 * 64 + d % 64 := ⟨_, rfl⟩
        rw [← hx] at hq2 ⊢
        have he : esize x = 2 := by
          rcases esize_cases x with g | g | g | g <;> omega
        refine ⟨by unfold ok; omega, ?_⟩
        simp [enc, he, conts, mark]
        omega
    · have hc := len_three c h
      match rest with
      | [] =>
        cases hq : beg (c % 16) 3 2 <;> simp [next, h, more, hq] at hh
      | [d] =>
        cases hd : cont d <;> cases hq : beg (c % 16) 3 2 <;> cases hq2 : beg (c % 16 * 64 + d % 64) 3 1 <;> simp [next, h, more, hd, hq, hq2] at hh
      | d :: e :: rest =>
        cases hd : cont d <;> cases hq : beg (c % 16) 3 2 <;> cases hq2 : beg (c % 16 * 64 + d % 64) 3 1 <;> cases he : cont e <;> cases hq3 : beg ((c % 16 * 64 + d % 64) * 64 + e % 64) 3 0 <;> simp [next, h, more, hd, he, hq, hq2, hq3] at hh
        obtain ⟨rfl, rfl⟩ := hh
        simp [beg, bnd] at hq3
        simp [cont] at hd he
        obtain ⟨x, hx⟩ : ∃ x, x = (c % 16 * 64 + d % 64) * 64 + e % 64 := ⟨_, rfl⟩
        rw [← hx] at hq3 ⊢
        have hes : esize x = 3 := by
          rcases esize_cases x with g | g | g | g <;> omega
        refine ⟨by unfold ok; omega, ?_⟩
        simp [enc, hes, conts, mark]
        omega
    · have hc := len_four c h
      match rest with
      | [] =>
        cases hq : beg (c % 8) 4 3 <;> simp [next, h, more, hq] at hh
      | [d] =>
        cases hd : cont d <;> cases hq : beg (c % 8) 4 3 <;> cases hq2 : beg (c % 8 * 64 + d % 64) 4 2 <;> simp [next, h, more, hd, hq, hq2] at hh
      | [d, e] =>
        cases hd : cont d <;> cases hq : beg (c % 8) 4 3 <;> cases hq2 : beg (c % 8 * 64 + d % 64) 4 2 <;> cases he : cont e <;> cases hq3 : beg ((c % 8 * 64 + d % 64) * 64 + e % 64) 4 1 <;> simp [next, h, more, hd, he, hq, hq2, hq3] at hh
      | d :: e :: f :: rest =>
        cases hd : cont d <;> cases hq : beg (c % 8) 4 3 <;> cases hq2 : beg (c % 8 * 64 + d % 64) 4 2 <;> cases he : cont e <;> cases hq3 : beg ((c % 8 * 64 + d % 64) * 64 + e % 64) 4 1 <;> cases hf : cont f <;> cases hq4 : beg (((c % 8 * 64 + d % 64) * 64 + e % 64) * 64 + f % 64) 4 0 <;> simp [next, h, more, hd, he, hf, hq, hq2, hq3, hq4] at hh
        obtain ⟨rfl, rfl⟩ := hh
        simp [beg, bnd] at hq4
        simp [cont] at hd he hf
        obtain ⟨x, hx⟩ : ∃ x, x = ((c % 8 * 64 + d % 64) * 64 + e % 64) * 64 + f % 64 := ⟨_, rfl⟩
        rw [← hx] at hq4 ⊢
        have hes : esize x = 4 := by
          rcases esize_cases x with g | g | g | g <;> omega
        refine ⟨by unfold ok; omega, ?_⟩
        simp [enc, hes, conts, mark]
        omega

theorem first_take (l : List Nat) : first (l.take 8) = first l := by
  by_cases h : l.length ≤ 8
  · rw [List.take_of_length_le h]
  · unfold first
    simp only [List.take_take, List.length_take]
    rw [show min 1 8 = 1 from rfl]
    obtain ⟨⟨b, n, v⟩, hb⟩ : ∃ x, begins (l.take 1) = x := ⟨_, rfl⟩
    rw [hb]
    cases b with
    | false => rfl
    | true =>
      have := begins_len _ n v hb
      simp only [Bool.not_true, Bool.false_eq_true, if_false]
      have e1 : n ≤ min 8 l.length := by omega
      have e2 : n ≤ l.length := by omega
      have e3 : min n 8 = n := by omega
      simp only [e1, e2, e3, if_true]
end U8
