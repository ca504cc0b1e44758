/- Plain mathematics: what next answers to an encoding, whatever follows. -/
import Derived.Test.YtbjhomihmlijiaaDoorEnc
namespace U8
theorem len_of (c n : Nat) (h : n = 2 ∧ 192 ≤ c ∧ c < 224 ∨ n = 3 ∧ 224 ≤ c ∧ c < 240 ∨ n = 4 ∧ 240 ≤ c ∧ c < 248) : len c = n := by
  unfold len
  rcases h with ⟨rfl, h⟩ | ⟨rfl, h⟩ | ⟨rfl, h⟩
  · rw [if_neg (by omega), if_neg (by omega), if_neg (by omega), if_pos (by omega)]
  · rw [if_neg (by omega), if_neg (by omega), if_pos (by omega)]
  · rw [if_neg (by omega), if_pos (by omega)]

/-- next reads an encoding back, whatever follows -/
theorem next_back (r : Nat) (h : ok r) (m : List Nat) : next (enc r ++ m) = (r, esize r, 0) := by
  obtain ⟨hmax, hsur⟩ := h
  rcases esize_cases r with ⟨h, g⟩ | ⟨h, g⟩ | ⟨h, g⟩ | ⟨h, g⟩
  · have hl : len r = 1 := by
      unfold len
      rw [if_neg (by omega), if_neg (by omega), if_neg (by omega), if_neg (by omega), if_pos g]
    simp [enc, h, next, hl]
  · obtain ⟨c, hc⟩ : ∃ c, c = 192 + r / 64 := ⟨_, rfl⟩
    obtain ⟨d, hd⟩ : ∃ d, d = 128 + r % 64 := ⟨_, rfl⟩
    have he : enc r = [c, d] := by simp [enc, h, conts, mark, hc, hd]
    have hl : len c = 2 := len_of c 2 (by omega)
    have hcd : cont d = true := by simp [cont]; omega
    have hr : c % 32 * 64 + d % 64 = r := by omega
    have hb2 : beg (c % 32 * 64 + d % 64) 2 0 = true := by rw [hr]; simp [beg, bnd]; omega
    have hb1 := beg_mono (c % 32) (d % 64) 2 0 (by omega) hb2
    rw [hr] at hb2
    rw [he]
    simp [next, hl, more, hcd, hb1, hb2, hr, h]
  · obtain ⟨c, hc⟩ : ∃ c, c = 224 + r / 4096 := ⟨_, rfl⟩
    obtain ⟨d, hd⟩ : ∃ d, d = 128 + r / 64 % 64 := ⟨_, rfl⟩
    obtain ⟨e, he⟩ : ∃ e, e = 128 + r % 64 := ⟨_, rfl⟩
    have hen : enc r = [c, d, e] := by simp [enc, h, conts, mark, hc, hd, he]
    have hl : len c = 3 := len_of c 3 (by omega)
    have hcd : cont d = true := by simp [cont]; omega
    have hce : cont e = true := by simp [cont]; omega
    have hr : (c % 16 * 64 + d % 64) * 64 + e % 64 = r := by omega
    have hb3 : beg ((c % 16 * 64 + d % 64) * 64 + e % 64) 3 0 = true := by rw [hr]; simp [beg, bnd]; omega
    have hb2 := beg_mono _ (e % 64) 3 0 (by omega) hb3
    have hb1 := beg_mono _ (d % 64) 3 1 (by omega) hb2
    rw [hr] at hb3
    rw [hen]
    simp [next, hl, more, hcd, hce, hb1, hb2, hb3, hr, h]
  · obtain ⟨c, hc⟩ : ∃ c, c = 240 + r / 262144 := ⟨_, rfl⟩
    obtain ⟨d, hd⟩ : ∃ d, d = 128 + r / 4096 % 64 := ⟨_, rfl⟩
    obtain ⟨e, he⟩ : ∃ e, e = 128 + r / 64 % 64 := ⟨_, rfl⟩
    obtain ⟨f, hf⟩ : ∃ f, f = 128 + r % 64 := ⟨_, rfl⟩
    have hen : enc r = [c, d, e, f] := by simp [enc, h, conts, mark, hc, hd, he, hf]
    have hl : len c = 4 := len_of c 4 (by omega)
    have hcd : cont d = true := by simp [cont]; omega
    have hce : cont e = true := by simp [cont]; omega
    have hcf : cont f = true := by simp [cont]; omega
    have hr : ((c % 8 * 64 + d % 64) * 64 + e % 64) * 64 + f % 64 = r := by omega
    have hb4 : beg (((c % 8 * 64 + d % 64) * 64 + e % 64) * 64 + f % 64) 4 0 = true := by rw [hr]; simp [beg, bnd]; omega
    have hb3 := beg_mono _ (f % 64) 4 0 (by omega) hb4
    have hb2 := beg_mono _ (e % 64) 4 1 (by omega) hb3
    have hb1 := beg_mono _ (d % 64) 4 2 (by omega) hb2
    rw [hr] at hb4
    rw [hen]
    simp [next, hl, more, hcd, hce, hcf, hb1, hb2, hb3, hb4, hr, h]
end U8
