/- IndexAny of the two blanks, in whatever string. -/
import Derived.Test.YtcofplbdapjdjaaIdx
namespace Go.Proofs.Ytcofplbdapjdjaa
open Go.RowKit Go.Lib

theorem decode_bytes (s : ByteArray) (pos : Nat) (h : pos < s.size) (ha : 128 ≤ (s[pos]'h).toNat) : ∀ j, j < (Utf8.decode s pos).2 → pos + j < s.size ∧ 128 ≤ (s.get! (pos + j)).toNat := by
  have hn : ¬ (s[pos]'h).toNat < 128 := by omega
  have h0 : 128 ≤ (s.get! (pos + 0)).toNat := by rw [get_at s pos h]; exact ha
  have key : ∀ k, (decide (pos + k < s.size) && ((s.get! (pos + k)).toNat / 64 == 2)) = true → pos + k < s.size ∧ 128 ≤ (s.get! (pos + k)).toNat := by
    intro k hk
    simp at hk
    exact ⟨hk.1, by omega⟩
  have z : pos + 0 < s.size ∧ 128 ≤ (s.get! (pos + 0)).toNat := ⟨h, h0⟩
  intro j hj
  have one : ∀ k, k = 1 → j < k → pos + j < s.size ∧ 128 ≤ (s.get! (pos + j)).toNat := fun k hk hj => by
    obtain rfl : j = 0 := by omega
    exact z
  unfold Utf8.decode at hj
  simp only at hj
  split at hj
  · exact one _ rfl hj
  · split at hj
    · rename_i h1
      rw [Bool.and_eq_true] at h1
      have a1 := key 1 h1.2
      split at hj
      · have : j = 0 ∨ j = 1 := by simp at hj; omega
        rcases this with rfl | rfl
        · exact z
        · exact a1
      · exact one _ rfl hj
    · split at hj
      · rename_i h1
        rw [Bool.and_eq_true, Bool.and_eq_true] at h1
        have a1 := key 1 h1.1.2
        have a2 := key 2 h1.2
        split at hj
        · have : j = 0 ∨ j = 1 ∨ j = 2 := by simp at hj; omega
          rcases this with rfl | rfl | rfl
          · exact z
          · exact a1
          · exact a2
        · exact one _ rfl hj
      · split at hj
        · rename_i h1
          rw [Bool.and_eq_true, Bool.and_eq_true, Bool.and_eq_true] at h1
          have a1 := key 1 h1.1.1.2
          have a2 := key 2 h1.1.2
          have a3 := key 3 h1.2
          split at hj
          · have : j = 0 ∨ j = 1 ∨ j = 2 ∨ j = 3 := by simp at hj; omega
            rcases this with rfl | rfl | rfl | rfl
            · exact z
            · exact a1
            · exact a2
            · exact a3
          · exact one _ rfl hj
        · exact one _ rfl hj

theorem noAny_step {s : ByteArray} {i k : Nat} (h : NoAny s.data.toList [32, 9] i) (hb : ∀ j, j < k → i + j < s.size ∧ 128 ≤ (s.get! (i + j)).toNat) : NoAny s.data.toList [32, 9] (i + k) := by
  intro j b hj hx
  by_cases h1 : j < i
  · exact h j b h1 hx
  · obtain ⟨h2, h3⟩ := hb (j - i) (by omega)
    rw [show i + (j - i) = j by omega] at h2 h3
    have e : s.get! j = b := by
      rw [show s.get! j = s.get! (j + 0) from rfl, get_at s j h2]
      have := data_getElem? s j h2
      rw [hx] at this
      exact (Option.some.inj this).symm
    rw [e] at h3
    have n1 : b ≠ 32 := by rintro rfl; simp at h3
    have n2 : b ≠ 9 := by rintro rfl; simp at h3
    simp [n1, n2]

theorem idxRune_any (r : Int) (h : 128 ≤ r) (w : World) : Calls Try.prog 65 #[.string ⟨#[32, 9]⟩, .int .i32 r] w fun e w' => e = .returned (.int .i64 (-1)) ∧ Below w.heap.size w w' := by
  by_cases hr : r = 65533
  · subst hr; exact idxRune_err w
  · exact idxRune_high r h hr w
end Go.Proofs.Ytcofplbdapjdjaa
