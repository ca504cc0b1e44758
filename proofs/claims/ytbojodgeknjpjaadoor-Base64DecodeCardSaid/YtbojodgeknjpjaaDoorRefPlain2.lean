/- Plain mathematics of the reference's decoding: bits one by one; it gives the same answer. -/
import Derived.Test.YtbojodgeknjpjaaDoorPlain
namespace B64

/-- the six bits of a value -/
def bit6 (v : Nat) : List Nat := [v / 32 % 2, v / 16 % 2, v / 8 % 2, v / 4 % 2, v / 2 % 2, v / 1 % 2]

def bits6 (l : List Nat) : List Nat := l.flatMap bit6

theorem bit6_lt (c : Nat) : ∀ x ∈ bit6 c, x < 2 := by
  intro x hx
  simp only [bit6, List.mem_cons, List.not_mem_nil, or_false] at hx
  omega

theorem bits6_lt (l : List Nat) : ∀ x ∈ bits6 l, x < 2 ^ 1 := by
  intro x hx
  simp only [bits6, List.mem_flatMap] at hx
  obtain ⟨c, _, h⟩ := hx
  exact bit6_lt c x h

theorem spell_bit6 (c : Nat) : spell 1 (bit6 c) = bits 6 c := by simp [spell, bit6, bits]

theorem spell_bits6 (l : List Nat) : spell 1 (bits6 l) = spell 6 l := by
  induction l with
  | nil => rfl
  | cons c l ih =>
    have : bits6 (c :: l) = bit6 c ++ bits6 l := rfl
    rw [this, spell_append, spell_cons, ih, spell_bit6]

theorem bits6_length (l : List Nat) : (bits6 l).length = 6 * l.length := by
  have := congrArg List.length (spell_bits6 l)
  simpa using this

theorem bits6_snoc (l : List Nat) (c : Nat) : bits6 (l ++ [c]) = bits6 l ++ bit6 c := by simp [bits6]

theorem put8_full (E : List Nat) (h b : Nat) : put 8 (E, h, 7) b 1 = (E ++ [2 * h + b], 0, 0) := by
  simp [put, drain, Nat.mod_one]
  omega

theorem put8_more (E : List Nat) (h b c : Nat) (hc : c < 7) : put 8 (E, h, c) b 1 = (E, 2 * h + b, c + 1) := by
  have h1 : ¬ 8 ≤ c + 1 := by omega
  simp [put, drain, h1]
  omega

/-- both collectors hold the same -/
theorem feed_bits6 (l : List Nat) (hl : ∀ x ∈ l, x < 64) : feed 8 1 (bits6 l) = feed 8 6 l := by
  obtain ⟨f1, f2⟩ := feed_spec 8 1 (by omega) (bits6 l) (bits6_lt l)
  obtain ⟨g1, g2⟩ := feed_spec 8 6 (by omega) l hl
  obtain ⟨c1, _⟩ := feed_count 8 1 (by omega) (bits6 l) (bits6_lt l)
  obtain ⟨d1, _⟩ := feed_count 8 6 (by omega) l hl
  rw [spell_bits6] at f1
  rw [bits6_length, Nat.one_mul] at c1
  rw [f1] at g1
  generalize feed 8 1 (bits6 l) = s at *
  generalize feed 8 6 l = t at *
  obtain ⟨E, h, c⟩ := s
  obtain ⟨E', h', c'⟩ := t
  obtain ⟨a1, a2, a3⟩ := f2
  obtain ⟨b1, b2, b3⟩ := g2
  simp only at *
  have hc : c = c' := by rw [c1, d1]
  subst hc
  obtain ⟨e1, e2⟩ := spell_inj 8 (by omega) _ _ _ _ a3 b3 (by simpa using a1) (by simpa using b1) g1
  rw [e1, bits_inj c h h' a2 b2 e2]

/-- a bit is held just where the last character has one too many -/
theorem held_zero (s : List UInt8) (h4 : s.length % 4 = 0) : (feed 8 6 (vals (data s))).2.1 = 0 ↔ ((vals (data s)).getLastD 0) % 2 ^ (2 * pads s) = 0 := by
  have hd := congrArg List.length (data_pads s)
  have hp := pads_le s
  simp at hd
  have hvl : (vals (data s)).length = (data s).length := by simp [vals]
  obtain ⟨f1, f2⟩ := feed_spec 8 6 (by omega) (vals (data s)) (vals_lt _)
  obtain ⟨c1, c2⟩ := feed_count 8 6 (by omega) (vals (data s)) (vals_lt _)
  generalize feed 8 6 (vals (data s)) = st at *
  obtain ⟨b, hh, c⟩ := st
  obtain ⟨a1, a2, a3⟩ := f2
  simp only at *
  have hc : c = 2 * pads s := by omega
  rw [← hc, low_zero (vals (data s)) c (by omega) (by
    by_cases hn : vals (data s) = []
    · right
      have : (data s).length = 0 := by rw [← hvl, hn]; rfl
      omega
    · exact .inl hn) _ (bits c hh) (by simp) f1]
  constructor
  · intro h; rw [h, bits_zero]
  · intro h
    rw [← bits_zero c] at h
    exact bits_inj c hh 0 a2 (Nat.two_pow_pos c) h

/-- which places hold padding -/
def placeB (s : List UInt8) (i : Nat) : Bool :=
  decide (s.length % 4 = 0) && (s[i]? == some 61) && (decide (i + 1 = s.length) || (decide (i + 2 = s.length) && (s[i + 1]? == some 61)))

theorem place_data (s : List UInt8) (i : Nat) (h : i < (data s).length) : placeB s i = false := by
  have hd := congrArg List.length (data_pads s)
  simp at hd
  have hp := pads_le s
  cases hpl : placeB s i with
  | false => rfl
  | true =>
    exfalso
    simp only [placeB, Bool.and_eq_true, Bool.or_eq_true, decide_eq_true_eq, beq_iff_eq] at hpl
    obtain ⟨⟨h4, hi⟩, hr⟩ := hpl
    have hil : i < s.length := by omega
    have hsi : s[i] = 61 := by rw [List.getElem?_eq_getElem hil] at hi; simpa using hi
    rcases hr with hr | ⟨hr, hn⟩
    · have : [61] <:+ s := ⟨s.take i, by
        have h1 := List.take_append_drop i s
        rw [List.drop_eq_getElem_cons hil, hsi, List.drop_eq_nil_of_le (by omega)] at h1
        exact h1⟩
      have hpos : 0 < pads s := by
        unfold pads
        rw [if_pos ⟨h4, this⟩]
        split <;> omega
      omega
    · have hil2 : i + 1 < s.length := by omega
      have hsi2 : s[i + 1] = 61 := by rw [List.getElem?_eq_getElem hil2] at hn; simpa using hn
      have h2 : [61, 61] <:+ s := ⟨s.take i, by
        have h1 := List.take_append_drop i s
        rw [List.drop_eq_getElem_cons hil, hsi, List.drop_eq_getElem_cons hil2, hsi2, List.drop_eq_nil_of_le (by omega)] at h1
        exact h1⟩
      have h3 : [61] <:+ s := by
        obtain ⟨t, ht⟩ := h2
        exact ⟨t ++ [61], by simpa using ht⟩
      have hpos : pads s = 2 := by
        unfold pads
        rw [if_pos ⟨h4, h3⟩, if_pos h2]
      omega

theorem place_pad (s : List UInt8) (i : Nat) (h : (data s).length ≤ i) (hi : i < s.length) : placeB s i = true ∧ s[i]? = some 61 := by
  have hdp := data_pads s
  have hd := congrArg List.length hdp
  simp at hd
  have hp := pads_le s
  have h4 : s.length % 4 = 0 := by
    unfold pads at hd
    by_cases hc : s.length % 4 = 0 ∧ [61] <:+ s
    · exact hc.1
    · rw [if_neg hc] at hd; omega
  have hget : ∀ j, (data s).length ≤ j → j < s.length → s[j]? = some 61 := by
    intro j h1 h2
    rw [hdp, List.getElem?_append_right h1, List.getElem?_replicate]
    rw [if_pos (by omega)]
  refine ⟨?_, hget i h hi⟩
  simp only [placeB, Bool.and_eq_true, Bool.or_eq_true, decide_eq_true_eq, beq_iff_eq]
  refine ⟨⟨h4, hget i h hi⟩, ?_⟩
  by_cases h1 : i + 1 = s.length
  · exact .inl h1
  · exact .inr ⟨by omega, hget (i + 1) (by omega) (by omega)⟩

theorem data_get (s : List UInt8) (i : Nat) (h : i < (data s).length) : (data s)[i]? = s[i]? := by
  have hd : i < s.length - pads s := by
    have : (data s).length ≤ s.length - pads s := by unfold data; exact List.length_take_le _ _
    omega
  unfold data
  rw [List.getElem?_take_of_lt hd]
end B64
