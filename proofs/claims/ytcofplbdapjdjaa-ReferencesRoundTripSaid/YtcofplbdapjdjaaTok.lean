/- The tokens of a text and what Parse makes of them, in plain lists. -/
import Derived.Test.YtcofplbdapjdjaaParseGo
import Derived.Test.YtcofplbdapjdjaaIds
namespace Mid
def bl (c : UInt8) : Bool := c == 32 || c == 9
/-- the tokens from place i on, with their places -/
inductive Toks (s : List UInt8) : Nat → List (Nat × List UInt8) → Prop
  | done (i : Nat) (h : s.length ≤ i) : Toks s i []
  | skip (i : Nat) (L) (h : i < s.length) (hb : bl (s.getD i 0) = true) (t : Toks s (i + 1) L) : Toks s i L
  | tok (i k : Nat) (L) (h1 : i < k) (h2 : k ≤ s.length) (h3 : ∀ j, i ≤ j → j < k → bl (s.getD j 0) = false) (h4 : k = s.length ∨ bl (s.getD k 0) = true) (t : Toks s k L) : Toks s i ((i, (s.drop i).take (k - i)) :: L)

theorem Toks.inv_done {s : List UInt8} {i : Nat} {R} (h : Toks s i R) (hi : s.length ≤ i) : R = [] := by
  cases h with
  | done _ => rfl
  | skip _ _ h hb t => omega
  | tok _ k L h1 h2 => omega
theorem Toks.inv_skip {s : List UInt8} {i : Nat} {R} (h : Toks s i R) (hi : i < s.length) (hb : bl (s.getD i 0) = true) : Toks s (i + 1) R := by
  cases h with
  | done _ h => omega
  | skip _ _ h hb t => exact t
  | tok _ k L h1 h2 h3 => have := h3 i (Nat.le_refl _) h1; rw [hb] at this; cases this
theorem Toks.inv_tok {s : List UInt8} {i k : Nat} {R} (h : Toks s i R) (h1 : i < k) (h2 : k ≤ s.length) (h3 : ∀ j, i ≤ j → j < k → bl (s.getD j 0) = false) (h4 : k = s.length ∨ bl (s.getD k 0) = true) :
    ∃ R', R = (i, (s.drop i).take (k - i)) :: R' ∧ Toks s k R' := by
  cases h with
  | done _ h => omega
  | skip _ _ h hb t => have := h3 i (Nat.le_refl _) h1; rw [hb] at this; cases this
  | tok _ k' L a1 a2 a3 a4 t =>
    have e : k' = k := by
      rcases Nat.lt_trichotomy k' k with hlt | rfl | hlt
      · have := h3 k' (by omega) hlt
        rcases a4 with rfl | a4
        · omega
        · rw [a4] at this; cases this
      · rfl
      · have := a3 k (by omega) hlt
        rcases h4 with rfl | h4
        · omega
        · rw [h4] at this; cases this
    subst e
    exact ⟨L, rfl, t⟩
theorem end_of (s : List UInt8) : ∀ (n i : Nat), s.length - i = n → i < s.length → bl (s.getD i 0) = false → ∃ k, i < k ∧ k ≤ s.length ∧ (∀ j, i ≤ j → j < k → bl (s.getD j 0) = false) ∧ (k = s.length ∨ bl (s.getD k 0) = true) := by
  intro n
  induction n with
  | zero => intro i h1 h2; omega
  | succ n ih =>
    intro i h1 h2 h3
    by_cases he : i + 1 = s.length
    · exact ⟨i + 1, by omega, by omega, fun j a b => (show j = i by omega) ▸ h3, Or.inl he⟩
    · by_cases hb : bl (s.getD (i + 1) 0) = true
      · exact ⟨i + 1, by omega, by omega, fun j a b => (show j = i by omega) ▸ h3, Or.inr hb⟩
      · obtain ⟨k, k1, k2, k3, k4⟩ := ih (i + 1) (by omega) (by omega) (by simpa using hb)
        exact ⟨k, by omega, k2, fun j a b => by
          by_cases e : j = i
          · subst e; exact h3
          · exact k3 j (by omega) b, k4⟩
theorem toks_ex (s : List UInt8) : ∀ (n i : Nat), s.length - i ≤ n → ∃ R, Toks s i R := by
  intro n
  induction n with
  | zero => intro i h; exact ⟨[], .done i (by omega)⟩
  | succ n ih =>
    intro i h
    by_cases hi : i < s.length
    · by_cases hb : bl (s.getD i 0) = true
      · obtain ⟨R, hR⟩ := ih (i + 1) (by omega)
        exact ⟨R, .skip i R hi hb hR⟩
      · obtain ⟨k, k1, k2, k3, k4⟩ := end_of s _ i rfl hi (by simpa using hb)
        obtain ⟨R, hR⟩ := ih k (by omega)
        exact ⟨_, .tok i k R k1 k2 k3 k4 hR⟩
    · exact ⟨[], .done i (by omega)⟩
/-- the identity of a token, and whether it has one -/
def idT (t : List UInt8) : Id := ⟨(parse t).1, parse_len t _ _ _ rfl⟩
def okT (t : List UInt8) : Bool := decide ((parse t).2.2 = 0)
def prs : List (Nat × List UInt8) → List Id → List Id × Nat × Nat
  | [], L => (L, 0, 0)
  | (at', t) :: r, L => if L.length = 20 then ([], at', 9) else if okT t = false then ([], at', 3) else if idT t = default then ([], at', 1) else if idT t ∈ L then ([], at', 7) else prs r (L ++ [idT t])
end Mid
