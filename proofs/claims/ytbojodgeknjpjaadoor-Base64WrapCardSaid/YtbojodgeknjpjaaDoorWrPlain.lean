/- Plain mathematics of Wrap: lines of a width; the reference's characters one by one are the same lines; Unwrap undoes them. -/
import Derived.Test.YtbojodgeknjpjaaDoorUwPlain
namespace B64

def wrapF (W : Nat) : Nat → List UInt8 → List UInt8
  | 0, _ => []
  | f + 1, l => if l = [] then [] else l.take W ++ 10 :: wrapF W f (l.drop W)

def wrapT (W : Nat) (l : List UInt8) : List UInt8 := wrapF W l.length l

theorem wrapF_nil (W f : Nat) : wrapF W f [] = [] := by cases f <;> simp [wrapF]

theorem wrapF_fuel (W : Nat) (hW : 0 < W) (f g : Nat) (l : List UInt8) (hf : l.length ≤ f) (hg : l.length ≤ g) : wrapF W f l = wrapF W g l := by
  induction f generalizing l g with
  | zero =>
    have : l = [] := List.eq_nil_of_length_eq_zero (by omega)
    rw [this, wrapF_nil, wrapF_nil]
  | succ f ih =>
    by_cases h : l = []
    · rw [h, wrapF_nil, wrapF_nil]
    · have hp := List.length_pos_iff.2 h
      obtain ⟨g', rfl⟩ : ∃ g', g = g' + 1 := ⟨g - 1, by omega⟩
      rw [wrapF, wrapF, if_neg h, if_neg h, ih g' (l.drop W) (by rw [List.length_drop]; omega) (by rw [List.length_drop]; omega)]

theorem wrapF_length (W : Nat) (hW : 0 < W) (f : Nat) (l : List UInt8) : (wrapF W f l).length ≤ 2 * l.length := by
  induction f generalizing l with
  | zero => simp [wrapF]
  | succ f ih =>
    by_cases h : l = []
    · rw [h, wrapF_nil]; simp
    · have hp := List.length_pos_iff.2 h
      have := ih (l.drop W)
      rw [wrapF, if_neg h, List.length_append, List.length_cons, List.length_take]
      rw [List.length_drop] at this
      omega

/-- the reference's text after k characters -/
def refOut (W : Nat) (l : List UInt8) : Nat → List UInt8
  | 0 => []
  | k + 1 => refOut W l k ++ (l[k]?).toList ++ (if (k + 1) % W = 0 ∨ k + 1 = l.length then [10] else [])

theorem refOut_line (W : Nat) (l : List UInt8) (pos n : Nat) (hp : pos % W = 0) (hn : n ≤ W) (hl : pos + n ≤ l.length) (h0 : 0 < n) :
    refOut W l (pos + n) = refOut W l pos ++ (l.drop pos).take n ++ (if n = W ∨ pos + n = l.length then [10] else []) := by
  induction n with
  | zero => omega
  | succ n ih =>
    have hget : l[pos + n]? = some (l[pos + n]'(by omega)) := List.getElem?_eq_getElem (by omega)
    have htake : (l.drop pos).take (n + 1) = (l.drop pos).take n ++ [l[pos + n]'(by omega)] := by
      rw [List.take_add_one, List.getElem?_drop, hget]
      rfl
    have hmod : ((pos + n + 1) % W = 0) ↔ n + 1 = W := by
      constructor
      · intro h
        have h1 := Nat.div_add_mod pos W
        have h2 := Nat.div_add_mod (pos + n + 1) W
        rw [hp] at h1
        rw [h] at h2
        by_cases he : n + 1 = W
        · exact he
        · exfalso
          have h3 : pos + n + 1 = W * (pos / W) + (n + 1) := by omega
          have h4 : (pos + n + 1) % W = n + 1 := by
            rw [h3, Nat.mul_add_mod, Nat.mod_eq_of_lt (by omega)]
          omega
      · intro h
        rw [show pos + n + 1 = pos + W by omega, Nat.add_mod_right, hp]
    rw [show pos + (n + 1) = (pos + n) + 1 by omega, refOut, hget, htake]
    by_cases hn0 : n = 0
    · subst hn0
      simp only [Nat.add_zero, List.take_zero, List.nil_append, Option.toList_some, Nat.zero_add]
      simp only [Nat.add_zero, Nat.zero_add] at hmod
      simp only [hmod]
    · rw [ih (by omega) (by omega) (by omega), if_neg (show ¬ (n = W ∨ pos + n = l.length) by omega)]
      simp only [List.append_nil, Option.toList_some, List.append_assoc]
      simp only [hmod]

theorem refOut_wrap (W : Nat) (hW : 0 < W) (l : List UInt8) (f pos : Nat) (hp : pos % W = 0 ∨ pos = l.length) (hl : pos ≤ l.length) (hf : l.length - pos ≤ f) :
    refOut W l pos ++ wrapF W f (l.drop pos) = refOut W l l.length := by
  induction f generalizing pos with
  | zero =>
    rw [show pos = l.length by omega]
    simp [wrapF]
  | succ f ih =>
    by_cases h : pos = l.length
    · rw [h, List.drop_length, wrapF_nil, List.append_nil]
    · have hne : l.drop pos ≠ [] := by
        intro e
        have := congrArg List.length e
        rw [List.length_drop] at this
        simp at this
        omega
      have hpm : pos % W = 0 := hp.resolve_right h
      rw [wrapF, if_neg hne, List.drop_drop]
      by_cases hw : pos + W ≤ l.length
      · have := refOut_line W l pos W hpm (Nat.le_refl _) hw hW
        rw [if_pos (Or.inl rfl)] at this
        have h2 := ih (pos + W) (Or.inl (by rw [Nat.add_mod_right, hpm])) hw (by omega)
        rw [this] at h2
        rw [← h2]
        simp
      · have := refOut_line W l pos (l.length - pos) hpm (by omega) (by omega) (by omega)
        rw [if_pos (Or.inr (by omega)), show pos + (l.length - pos) = l.length by omega] at this
        have e1 : l.drop (pos + W) = [] := List.drop_eq_nil_of_le (by omega)
        have e2 : (l.drop pos).take (l.length - pos) = l.drop pos := List.take_of_length_le (by rw [List.length_drop]; omega)
        have e3 : (l.drop pos).take W = l.drop pos := List.take_of_length_le (by rw [List.length_drop]; omega)
        rw [this, e1, wrapF_nil, e2, e3]
        simp

theorem refOut_eq (W : Nat) (hW : 0 < W) (l : List UInt8) : refOut W l l.length = wrapT W l := by
  have := refOut_wrap W hW l l.length 0 (Or.inl (Nat.zero_mod _)) (Nat.zero_le _) (by omega)
  rw [← this]
  simp [refOut, wrapT]

theorem lineLen_app (a b : List UInt8) (h : (10 : UInt8) ∉ a) : lineLen (a ++ 10 :: b) = a.length := by
  induction a with
  | nil => rfl
  | cons x a ih =>
    have hx : x ≠ 10 := fun e => h (by rw [e]; exact List.mem_cons_self)
    have := ih (fun e => h (List.mem_cons_of_mem _ e))
    unfold lineLen at this ⊢
    rw [List.cons_append, List.findIdx_cons, show (x == 10) = false by simpa using hx]
    simp [this]

theorem uwLoop_wrap (W W' : Nat) (hW : 0 < W) (hW2 : W ≤ 998) (s : List UInt8) (f : Nat) (r acc : List UInt8) (pos F : Nat) (hs : s.drop pos = wrapF W f r) (hf : r.length ≤ f) (h10 : (10 : UInt8) ∉ r)
    (hF : s.length - pos ≤ F) (hr : min W r.length ≤ W') (hW' : W' ≤ W) : uwLoop s W' F pos acc = (acc ++ r, 0, 0) := by
  induction f generalizing r acc pos F with
  | zero =>
    have hr0 : r = [] := List.eq_nil_of_length_eq_zero (by omega)
    rw [hr0, wrapF_nil] at hs
    have := congrArg List.length hs
    rw [List.length_drop] at this
    simp at this
    rw [uwLoop_done _ _ _ _ _ (by omega), hr0, List.append_nil]
  | succ f ih =>
    by_cases hr0 : r = []
    · rw [hr0, wrapF_nil] at hs
      have := congrArg List.length hs
      rw [List.length_drop] at this
      simp at this
      rw [uwLoop_done _ _ _ _ _ (by omega), hr0, List.append_nil]
    · have hpr := List.length_pos_iff.2 hr0
      rw [wrapF, if_neg hr0] at hs
      have hlen := congrArg List.length hs
      rw [List.length_drop, List.length_append, List.length_cons, List.length_take] at hlen
      obtain ⟨F', rfl⟩ : ∃ F', F = F' + 1 := ⟨F - 1, by omega⟩
      have hll : lineLen (s.drop pos) = min W r.length := by
        rw [hs, lineLen_app _ _ (fun e => h10 (List.mem_of_mem_take e)), List.length_take]
      have htake : (s.drop pos).take (min W r.length) = r.take W := by
        rw [hs, ← List.length_take, List.take_left]
      have hdrop : s.drop (pos + min W r.length + 1) = wrapF W f (r.drop W) := by
        have h1 := congrArg (List.drop (min W r.length + 1)) hs
        rw [List.drop_drop] at h1
        rw [show pos + min W r.length + 1 = pos + (min W r.length + 1) by omega, h1, ← List.length_take, ← List.drop_drop, List.drop_left, List.drop_one]
        rfl
      rw [uwLoop, if_pos (by omega), hll, htake, if_neg, ih (r.drop W) _ _ _ hdrop (by rw [List.length_drop]; omega) (fun e => h10 (List.mem_of_mem_drop e)) (by omega) (by rw [List.length_drop]; omega), List.append_assoc, List.take_append_drop]
      unfold badLine
      simp only [Bool.or_eq_true, Bool.and_eq_true, decide_eq_true_eq]
      rintro (((h | h) | h) | ⟨h, h2⟩)
      · omega
      · omega
      · omega
      · have h3 : W ≥ r.length := by omega
        rw [List.drop_eq_nil_of_le h3, wrapF_nil] at hlen
        simp at hlen
        omega

theorem suffix_wrap (W : Nat) (hW : 0 < W) (f : Nat) (l : List UInt8) (hf : l.length ≤ f) (h : l ≠ []) : [10] <:+ wrapF W f l := by
  induction f generalizing l with
  | zero => exact absurd (List.eq_nil_of_length_eq_zero (by omega)) h
  | succ f ih =>
    have hp := List.length_pos_iff.2 h
    rw [wrapF, if_neg h]
    by_cases hd : l.drop W = []
    · rw [hd, wrapF_nil]
      exact ⟨_, rfl⟩
    · obtain ⟨t, ht⟩ := ih (l.drop W) (by rw [List.length_drop]; omega) hd
      rw [← ht]
      exact ⟨l.take W ++ 10 :: t, by simp⟩

theorem uw_wrap (W : Nat) (hW : 0 < W) (hW2 : W ≤ 998) (l : List UInt8) (h10 : (10 : UInt8) ∉ l) : uw (wrapT W l) = (l, 0, 0) := by
  unfold wrapT
  by_cases h : l = []
  · rw [h]; simp [wrapF, uw]
  · have hp := List.length_pos_iff.2 h
    have hsuf := suffix_wrap W hW l.length l (Nat.le_refl _) h
    have hne : wrapF W l.length l ≠ [] := by
      intro e
      rw [e] at hsuf
      simp at hsuf
    have hll : lineLen (wrapF W l.length l) = min W l.length := by
      obtain ⟨f, hf⟩ : ∃ f, l.length = f + 1 := ⟨l.length - 1, by omega⟩
      rw [hf, wrapF, if_neg h, lineLen_app _ _ (fun e => h10 (List.mem_of_mem_take e)), List.length_take, hf]
    unfold uw
    rw [if_neg hne, if_pos hsuf, hll]
    exact uwLoop_wrap W _ hW hW2 _ l.length l [] 0 _ rfl (Nat.le_refl _) h10 (by omega) (Nat.le_refl _) (by omega)

/-- what Wrap answers for a text of at most 600 bytes -/
def wr (n : Int) (l : List UInt8) : List UInt8 × Nat :=
  if n < 1 ∨ 998 < n then ([], 2) else if (10 : UInt8) ∈ l then ([], 6) else (wrapT n.toNat l, 0)
end B64
