/- Plain mathematics of the reference's encoding: bits one by one; it gives the same text. -/
import Derived.Test.YtbojodgeknjpjaaDoorPlain
namespace B64

/-- the bits of a byte as numbers, the most significant first -/
def bitL (c : Nat) : List Nat := [c / 128 % 2, c / 64 % 2, c / 32 % 2, c / 16 % 2, c / 8 % 2, c / 4 % 2, c / 2 % 2, c / 1 % 2]

def bitsOf (l : List Nat) : List Nat := l.flatMap bitL

theorem bitL_lt (c : Nat) : ∀ x ∈ bitL c, x < 2 := by
  intro x hx
  simp only [bitL, List.mem_cons, List.not_mem_nil, or_false] at hx
  omega

theorem bitsOf_lt (l : List Nat) : ∀ x ∈ bitsOf l, x < 2 ^ 1 := by
  intro x hx
  simp only [bitsOf, List.mem_flatMap] at hx
  obtain ⟨c, _, h⟩ := hx
  exact bitL_lt c x h

theorem spell_bitL (c : Nat) : spell 1 (bitL c) = bits 8 c := by
  simp [spell, bitL, bits]

theorem spell_bitsOf (l : List Nat) : spell 1 (bitsOf l) = spell 8 l := by
  induction l with
  | nil => rfl
  | cons c l ih =>
    have : bitsOf (c :: l) = bitL c ++ bitsOf l := rfl
    rw [this, spell_append, spell_cons, ih, spell_bitL]

theorem bitsOf_length (l : List Nat) : (bitsOf l).length = 8 * l.length := by
  have := congrArg List.length (spell_bitsOf l)
  simpa using this

theorem bitsOf_snoc (l : List Nat) (c : Nat) : bitsOf (l ++ [c]) = bitsOf l ++ bitL c := by simp [bitsOf]

/-- one bit more -/
theorem put_bit_full (E : List Nat) (h b : Nat) : put 6 (E, h, 5) b 1 = (E ++ [2 * h + b], 0, 0) := by
  simp [put, drain, Nat.mod_one]
  omega

theorem put_bit_more (E : List Nat) (h b c : Nat) (hc : c < 5) : put 6 (E, h, c) b 1 = (E, 2 * h + b, c + 1) := by
  have h1 : ¬ 6 ≤ c + 1 := by omega
  simp [put, drain, h1]
  omega

/-- the groups of the reference -/
def refG (l : List Nat) : List Nat :=
  if (feed 6 1 (bitsOf l)).2.2 = 0 then (feed 6 1 (bitsOf l)).1 else (feed 6 1 (bitsOf l)).1 ++ [(feed 6 1 (bitsOf l)).2.1 * 2 ^ (6 - (feed 6 1 (bitsOf l)).2.2)]

theorem refG_eq (l : List Nat) (hl : ∀ x ∈ l, x < 256) : refG l = groups l := by
  obtain ⟨z, z1, z2, z3, z4⟩ := groups_spec l hl
  obtain ⟨f1, f2⟩ := feed_spec 6 1 (by omega) (bitsOf l) (bitsOf_lt l)
  obtain ⟨c1, c2⟩ := feed_count 6 1 (by omega) (bitsOf l) (bitsOf_lt l)
  rw [spell_bitsOf] at f1
  rw [bitsOf_length] at c1 c2
  unfold refG
  generalize hst : feed 6 1 (bitsOf l) = st at *
  obtain ⟨E, h, c⟩ := st
  obtain ⟨g1, g2, g3⟩ := f2
  simp only at *
  by_cases h0 : c = 0
  · rw [if_pos h0]
    subst h0
    have hz : z = 0 := by omega
    subst hz
    have : spell 6 E ++ [] = spell 6 (groups l) ++ [] := by rw [z3, f1]; simp [bits]
    exact (spell_inj 6 (by omega) _ _ _ _ g3 z4 (by simp) (by simp) this).1
  · rw [if_neg h0]
    have hz : z = 6 - c := by omega
    have hlt : h * 2 ^ (6 - c) < 2 ^ 6 := by
      have : (h + 1) * 2 ^ (6 - c) ≤ 2 ^ c * 2 ^ (6 - c) := Nat.mul_le_mul_right _ g2
      rw [← Nat.pow_add, show c + (6 - c) = 6 by omega, Nat.add_mul] at this
      have hp := Nat.two_pow_pos (6 - c)
      omega
    have hb : bits 6 (h * 2 ^ (6 - c)) = bits c h ++ List.replicate (6 - c) false := by
      have := bits_cat c (6 - c) h 0 (Nat.two_pow_pos _)
      rw [show c + (6 - c) = 6 by omega, Nat.add_zero, bits_zero] at this
      exact this
    have : spell 6 (E ++ [h * 2 ^ (6 - c)]) ++ [] = spell 6 (groups l) ++ [] := by
      rw [z3, f1, spell_append, spell_cons, spell_nil, hb, hz]
      simp
    refine (spell_inj 6 (by omega) _ _ _ _ ?_ z4 (by simp) (by simp) this).1
    intro x hx
    simp only [List.mem_append, List.mem_singleton] at hx
    rcases hx with hx | rfl
    · exact g3 x hx
    · exact hlt
end B64
