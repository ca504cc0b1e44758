/- Plain mathematics of layer 1: texts in lower case, comparison, the words of a text, blanks at both ends. No program. -/
import Derived.Lib.Index
import Derived.Lib.Join
namespace Asc
open Go.Lib (compareBytes index occAt)

/-- a byte in lower case -/
def lowC (c : UInt8) : UInt8 := if 65 ≤ c.toNat ∧ c.toNat ≤ 90 then c + 32 else c
def low (l : List UInt8) : List UInt8 := l.map lowC

theorem lowC_toNat (c : UInt8) : (lowC c).toNat = if 65 ≤ c.toNat ∧ c.toNat ≤ 90 then c.toNat + 32 else c.toNat := by
  unfold lowC
  split
  · rw [UInt8.toNat_add]
    have : (32 : UInt8).toNat = 32 := rfl
    omega
  · rfl

theorem lowC_lowC (c : UInt8) : lowC (lowC c) = lowC c := by
  apply UInt8.toNat_inj.1
  have h1 := lowC_toNat (lowC c)
  have h2 := lowC_toNat c
  by_cases h : 65 ≤ c.toNat ∧ c.toNat ≤ 90
  · rw [if_pos h] at h2
    rw [if_neg (by omega)] at h1
    exact h1
  · rw [if_neg h] at h2
    rw [if_neg (by omega)] at h1
    exact h1

theorem low_low (l : List UInt8) : low (low l) = low l := by
  unfold low
  rw [List.map_map]
  congr 1
  funext c
  exact lowC_lowC c

theorem low_length (l : List UInt8) : (low l).length = l.length := by simp [low]

/-! ### comparison -/
theorem cmp_self (a : List UInt8) : compareBytes a a = 0 := by
  induction a with
  | nil => rfl
  | cons x a ih => simp [compareBytes, UInt8.lt_irrefl, ih]

theorem cmp_zero : ∀ (a b : List UInt8), compareBytes a b = 0 → a = b
  | [], [], _ => rfl
  | [], _ :: _, h => by simp [compareBytes] at h
  | _ :: _, [], h => by simp [compareBytes] at h
  | x :: a, y :: b, h => by
    unfold compareBytes at h
    by_cases h1 : x < y
    · simp [h1] at h
    · by_cases h2 : y < x
      · simp [h1, h2] at h
      · simp [h1, h2] at h
        have : x = y := UInt8.le_antisymm (UInt8.not_lt.1 h2) (UInt8.not_lt.1 h1)
        rw [this, cmp_zero a b h]

theorem cmp_flip : ∀ (a b : List UInt8), compareBytes b a = - compareBytes a b
  | [], [] => rfl
  | [], _ :: _ => rfl
  | _ :: _, [] => rfl
  | x :: a, y :: b => by
    unfold compareBytes
    by_cases h1 : x < y
    · have h2 : ¬ y < x := UInt8.lt_asymm h1
      simp [h1, h2]
    · by_cases h2 : y < x
      · simp [h1, h2]
      · simp [h1, h2, cmp_flip a b]

theorem cmp_range : ∀ (a b : List UInt8), compareBytes a b = -1 ∨ compareBytes a b = 0 ∨ compareBytes a b = 1
  | [], [] => by simp [compareBytes]
  | [], _ :: _ => by simp [compareBytes]
  | _ :: _, [] => by simp [compareBytes]
  | x :: a, y :: b => by
    unfold compareBytes
    split
    · simp
    · split
      · simp
      · exact cmp_range a b

theorem cmp_trans : ∀ (a b c : List UInt8), compareBytes a b ≤ 0 → compareBytes b c ≤ 0 → compareBytes a c ≤ 0
  | [], _, [], _, _ => by simp [compareBytes]
  | [], _, _ :: _, _, _ => by simp [compareBytes]
  | _ :: _, [], _, h, _ => by simp [compareBytes] at h
  | _ :: _, _ :: _, [], _, h => by simp [compareBytes] at h
  | x :: a, y :: b, z :: c, h, k => by
    unfold compareBytes at h k ⊢
    by_cases h1 : x < y
    · by_cases k1 : y < z
      · simp [UInt8.lt_trans h1 k1]
      · by_cases k2 : z < y
        · simp [k1, k2] at k
        · have : y = z := UInt8.le_antisymm (UInt8.not_lt.1 k2) (UInt8.not_lt.1 k1)
          subst this
          simp [h1]
    · by_cases h2 : y < x
      · simp [h1, h2] at h
      · have : x = y := UInt8.le_antisymm (UInt8.not_lt.1 h2) (UInt8.not_lt.1 h1)
        subst this
        simp only [h1, if_false] at h
        by_cases k1 : x < z
        · simp [k1]
        · by_cases k2 : z < x
          · simp [k1, k2] at k
          · simp only [k1, k2, if_false] at k ⊢
            exact cmp_trans a b c h k

theorem cmp_drop (a b : List UInt8) (k : Nat) (ha : k < a.length) (hb : k < b.length) :
    compareBytes (a.drop k) (b.drop k) = if a[k] < b[k] then -1 else if b[k] < a[k] then 1 else compareBytes (a.drop (k + 1)) (b.drop (k + 1)) := by
  rw [List.drop_eq_getElem_cons ha, List.drop_eq_getElem_cons hb]
  rfl

theorem cmp_end (a b : List UInt8) (k : Nat) (h : a.length ≤ k ∨ b.length ≤ k) (hk : k ≤ a.length) (hk2 : k ≤ b.length) :
    compareBytes (a.drop k) (b.drop k) = if a.length < b.length then -1 else if b.length < a.length then 1 else 0 := by
  rcases h with h | h
  · rw [List.drop_eq_nil_of_le h]
    by_cases hb : b.length ≤ k
    · rw [List.drop_eq_nil_of_le hb, if_neg (by omega), if_neg (by omega)]; rfl
    · rw [if_pos (by omega), List.drop_eq_getElem_cons (by omega)]; rfl
  · rw [List.drop_eq_nil_of_le h]
    by_cases ha : a.length ≤ k
    · rw [List.drop_eq_nil_of_le ha, if_neg (by omega), if_neg (by omega)]; rfl
    · rw [if_neg (by omega), if_pos (by omega), List.drop_eq_getElem_cons (by omega)]; rfl

/-! ### words -/
def blank (c : UInt8) : Bool := c == 32 || c == 9

/-- the words of a text, behind the bytes cur of a word under way -/
def wordsF (cur : List UInt8) : List UInt8 → List (List UInt8)
  | [] => if cur = [] then [] else [cur]
  | c :: r => if blank c then (if cur = [] then wordsF [] r else cur :: wordsF [] r) else wordsF (cur ++ [c]) r

def wordsL (l : List UInt8) : List (List UInt8) := wordsF [] l

/-- how many bytes at the beginning are of a class -/
def span (p : UInt8 → Bool) : List UInt8 → Nat
  | [] => 0
  | c :: r => if p c then span p r + 1 else 0

theorem span_le (p : UInt8 → Bool) : ∀ l, span p l ≤ l.length
  | [] => Nat.le_refl _
  | c :: r => by
    unfold span
    have := span_le p r
    split <;> simp <;> omega

theorem span_step (p : UInt8 → Bool) (l : List UInt8) (k : Nat) (hk : k < l.length) (hp : p l[k] = true) : span p (l.drop k) = span p (l.drop (k + 1)) + 1 := by
  rw [List.drop_eq_getElem_cons hk, span, if_pos hp]

theorem span_stop (p : UInt8 → Bool) (l : List UInt8) (k : Nat) (hk : k < l.length) (hp : p l[k] = false) : span p (l.drop k) = 0 := by
  rw [List.drop_eq_getElem_cons hk, span, if_neg (by rw [hp]; decide)]

theorem span_all (p : UInt8 → Bool) : ∀ (l : List UInt8) (j : Nat) (h : j < l.length), j < span p l → p l[j] = true
  | c :: r, 0, _, h2 => by
    unfold span at h2
    split at h2
    · assumption
    · omega
  | c :: r, j + 1, h, h2 => by
    unfold span at h2
    split at h2
    · exact span_all p r j (by simpa using h) (by omega)
    · omega

theorem span_next (p : UInt8 → Bool) : ∀ (l : List UInt8) (h : span p l < l.length), p l[span p l] = false
  | c :: r, h => by
    by_cases hc : p c = true
    · have e : span p (c :: r) = span p r + 1 := by rw [span, if_pos hc]
      simp only [e, List.getElem_cons_succ]
      exact span_next p r (by rw [e] at h; simpa using h)
    · have e : span p (c :: r) = 0 := by rw [span, if_neg hc]
      simp only [e, List.getElem_cons_zero]
      simpa using hc

theorem wordsF_word (cur : List UInt8) : ∀ (l : List UInt8), wordsF cur l = wordsF (cur ++ l.take (span (fun c => !blank c) l)) (l.drop (span (fun c => !blank c) l))
  | [] => by simp [span]
  | c :: r => by
    by_cases hc : blank c = true
    · have e : span (fun c => !blank c) (c :: r) = 0 := by rw [span, if_neg (by simp [hc])]
      rw [e]; simp
    · have e : span (fun c => !blank c) (c :: r) = span (fun c => !blank c) r + 1 := by rw [span, if_pos (by simp [hc])]
      rw [e, wordsF, if_neg hc, wordsF_word (cur ++ [c]) r]
      simp

theorem wordsF_blanks : ∀ (l : List UInt8), wordsF [] l = wordsF [] (l.drop (span blank l))
  | [] => by simp [span]
  | c :: r => by
    by_cases hc : blank c = true
    · have e : span blank (c :: r) = span blank r + 1 := by rw [span, if_pos hc]
      rw [e, wordsF, if_pos hc, if_pos rfl, wordsF_blanks r]
      simp
    · have e : span blank (c :: r) = 0 := by rw [span, if_neg hc]
      rw [e]; simp

/-- behind a word stands the end or a blank -/
theorem wordsF_cut (cur l : List UInt8) (h : l = [] ∨ ∃ c r, l = c :: r ∧ blank c = true) : wordsF cur l = (if cur = [] then [] else [cur]) ++ wordsF [] l := by
  rcases h with rfl | ⟨c, r, rfl, hc⟩
  · by_cases h0 : cur = [] <;> simp [wordsF, h0]
  · by_cases h0 : cur = [] <;> simp [wordsF, h0, hc]

theorem drop_blank (l : List UInt8) (k : Nat) (h : k = l.length ∨ ∃ hk : k < l.length, blank l[k] = true) : l.drop k = [] ∨ ∃ c r, l.drop k = c :: r ∧ blank c = true := by
  rcases h with h | ⟨hk, hb⟩
  · exact .inl (List.drop_eq_nil_of_le (by omega))
  · exact .inr ⟨_, _, List.drop_eq_getElem_cons hk, hb⟩

/-- the program's round: a word, then blanks -/
theorem words_round (l : List UInt8) (k t f : Nat) (hk : k ≤ l.length) (ht : t = k + span (fun c => !blank c) (l.drop k)) (hf : f = t + span blank (l.drop t)) :
    wordsF [] (l.drop k) = (if k < t then [(l.drop k).take (t - k)] else []) ++ wordsF [] (l.drop f) := by
  have h1 := wordsF_word [] (l.drop k)
  have hsp : t - k = span (fun c => !blank c) (l.drop k) := by omega
  rw [← hsp, List.nil_append, List.drop_drop] at h1
  have hkt : k + (t - k) = t := by omega
  rw [hkt] at h1
  have hle := span_le (fun c => !blank c) (l.drop k)
  rw [List.length_drop] at hle
  rw [h1, wordsF_cut]
  · have hb := wordsF_blanks (l.drop t)
    rw [List.drop_drop, ← hf] at hb
    rw [hb]
    congr 1
    by_cases h : k < t
    · have : (l.drop k).take (t - k) ≠ [] := by
        intro e
        have := congrArg List.length e
        simp only [List.length_take, List.length_drop, List.length_nil] at this
        omega
      rw [if_neg this, if_pos h]
    · have : (l.drop k).take (t - k) = [] := by rw [show t - k = 0 by omega]; rfl
      rw [if_pos this, if_neg h]
  · apply drop_blank
    by_cases h : t < l.length
    · right
      refine ⟨h, ?_⟩
      have hs := span_next (fun c => !blank c) (l.drop k) (by rw [List.length_drop]; omega)
      simp only [List.getElem_drop, ← hsp, hkt] at hs
      simpa using hs
    · left; omega

theorem words_round_end (l : List UInt8) (k : Nat) (h : l.length ≤ k) : wordsF [] (l.drop k) = [] := by
  rw [List.drop_eq_nil_of_le h]; simp [wordsF]
end Asc
