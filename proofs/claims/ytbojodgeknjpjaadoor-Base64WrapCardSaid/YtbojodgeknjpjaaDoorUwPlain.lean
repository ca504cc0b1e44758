/- Plain mathematics of Unwrap: lines one after the other; the reference's scan meets the same lines. -/
import Derived.Lib.IndexLaws
namespace B64

/-- the length of the line that begins here -/
def lineLen (l : List UInt8) : Nat := l.findIdx (fun c => c == 10)

/-- is the line refused? -/
def badLine (len W pos n : Nat) : Bool := decide (n = 0) || decide (998 < n) || decide (W < n) || (decide (n < W) && decide (pos + n + 1 < len))

def uwLoop (s : List UInt8) (W : Nat) : Nat → Nat → List UInt8 → List UInt8 × Nat × Nat
  | 0, _, acc => (acc, 0, 0)
  | f + 1, pos, acc =>
    if pos < s.length then
      (if badLine s.length W pos (lineLen (s.drop pos)) then ([], pos, 3)
       else uwLoop s W f (pos + lineLen (s.drop pos) + 1) (acc ++ (s.drop pos).take (lineLen (s.drop pos))))
    else (acc, 0, 0)

/-- what Unwrap answers for a text of at most 1000 bytes -/
def uw (s : List UInt8) : List UInt8 × Nat × Nat :=
  if s = [] then ([], 0, 0)
  else if [10] <:+ s then uwLoop s (lineLen s) s.length 0 []
  else ([], s.length, 4)

theorem uwLoop_done (s : List UInt8) (W f pos : Nat) (acc : List UInt8) (h : ¬ pos < s.length) : uwLoop s W f pos acc = (acc, 0, 0) := by
  cases f with
  | zero => rfl
  | succ f => rw [uwLoop, if_neg h]

theorem lineLen_lt (s : List UInt8) (pos : Nat) (h : [10] <:+ s) (hp : pos < s.length) : pos + lineLen (s.drop pos) < s.length := by
  obtain ⟨t, rfl⟩ := h
  have : lineLen ((t ++ [10]).drop pos) < ((t ++ [10]).drop pos).length := by
    unfold lineLen
    rw [List.findIdx_lt_length]
    refine ⟨10, ?_, by simp⟩
    simp at hp
    rw [List.drop_append_of_le_length (by omega)]
    simp
  rw [List.length_drop] at this
  omega

theorem lineLen_eq (s : List UInt8) (pos n : Nat) (h10 : s[pos + n]? = some 10) (hb : ∀ j, j < n → s[pos + j]? ≠ some 10) : lineLen (s.drop pos) = n := by
  obtain ⟨hlt, hget⟩ := List.getElem?_eq_some_iff.1 h10
  unfold lineLen
  rw [List.findIdx_eq (by rw [List.length_drop]; omega)]
  refine ⟨by rw [List.getElem_drop, hget]; rfl, fun j hj => ?_⟩
  rw [List.getElem_drop]
  have := hb j hj
  rw [List.getElem?_eq_getElem (by omega)] at this
  simpa using this

theorem lineLen_at (s : List UInt8) (pos : Nat) (h : pos + lineLen (s.drop pos) < s.length) : s[pos + lineLen (s.drop pos)]? = some 10 := by
  unfold lineLen at h ⊢
  have hlt : (s.drop pos).findIdx (fun c : UInt8 => c == 10) < (s.drop pos).length := by rw [List.length_drop]; omega
  have h1 := List.findIdx_getElem (p := fun c : UInt8 => c == 10) (w := hlt)
  have h2 : (s.drop pos)[(s.drop pos).findIdx (fun c : UInt8 => c == 10)]? = some ((s.drop pos)[(s.drop pos).findIdx (fun c : UInt8 => c == 10)]'hlt) := List.getElem?_eq_getElem hlt
  rw [List.getElem?_drop] at h2
  rw [h2]
  simpa using h1

theorem indexByte_line (l : List UInt8) (h : lineLen l < l.length) : Go.Lib.indexByte l 10 = (lineLen l : Int) := by
  have hge := Go.Lib.indexByte_ge l 10
  have hat := lineLen_at l 0 (by simpa using h)
  simp at hat
  have hbefore : ∀ j, j < lineLen l → l[j]? ≠ some 10 := by
    intro j hj e
    unfold lineLen at hj
    have hjl : j < l.length := by unfold lineLen at h; omega
    have := List.not_of_lt_findIdx hj
    rw [List.getElem?_eq_getElem hjl] at e
    simp at e
    simp [e] at this
  by_cases hn : Go.Lib.indexByte l 10 = -1
  · exact absurd hat (Go.Lib.indexByte_none hn _)
  · obtain ⟨o, ho⟩ := Int.eq_ofNat_of_zero_le (show 0 ≤ Go.Lib.indexByte l 10 by omega)
    obtain ⟨h1, h2⟩ := Go.Lib.indexByte_some ho
    rw [ho]
    rcases Nat.lt_trichotomy o (lineLen l) with h | h | h
    · exact absurd h1 (hbefore o h)
    · rw [h]
    · exact absurd hat (h2 _ h)

theorem acc_le (s : List UInt8) (pos n : Nat) : ((s.drop pos).take n).length ≤ n := List.length_take_le _ _
end B64
