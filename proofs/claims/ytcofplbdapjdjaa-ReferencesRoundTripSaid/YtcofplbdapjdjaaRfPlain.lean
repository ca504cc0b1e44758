/- Plain mathematics of layer 14: lists of ancestors. No program. -/
import Derived.Test.YtcofplbdapjdjaaIds
namespace Mid
theorem getD0 (ls : List Id) (j : Nat) (h : j < ls.length) : ls[j]! = ls[j] := getElem!_pos ls j h

/-- a list trimmed to a positive number of elements, as the program makes it -/
def trimL (l : List Id) (m : Nat) : List Id := if m < l.length ∧ 1 < m then (l.drop (l.length - m)).set 0 l[0]! else l.drop (l.length - m)
/-- .. as the reference makes it -/
def cutL (l : List Id) (m : Nat) : List Id := if l.length ≤ m then l else if m = 1 then [l[l.length - 1]!] else l[0]! :: l.drop (l.length - m + 1)
theorem trimL_cut (l : List Id) (m : Nat) (hm : 1 ≤ m) : trimL l m = cutL l m := by
  unfold trimL cutL
  by_cases h : l.length ≤ m
  · rw [if_neg (by omega), if_pos h, show l.length - m = 0 by omega, List.drop_zero]
  · rw [if_neg h]
    by_cases h1 : m = 1
    · subst h1
      rw [if_neg (by omega), if_pos rfl]
      rw [List.drop_eq_getElem_cons (show l.length - 1 < l.length by omega), List.drop_eq_nil_of_le (by omega), getD0 _ _ (by omega)]
    · rw [if_pos ⟨by omega, by omega⟩, if_neg h1]
      rw [List.drop_eq_getElem_cons (show l.length - m < l.length by omega), List.set_cons_zero]
theorem trimL_len (l : List Id) (m : Nat) : (trimL l m).length = min m l.length := by
  unfold trimL
  split
  · rw [List.length_set, List.length_drop]; omega
  · rw [List.length_drop]; omega
theorem cutL_len (l : List Id) (m : Nat) (hm : 1 ≤ m) : (cutL l m).length = min m l.length := by rw [← trimL_cut l m hm, trimL_len]
theorem cutL_short (l : List Id) (m : Nat) (h : l.length ≤ m) : cutL l m = l := by unfold cutL; rw [if_pos h]

theorem cutL_one (l : List Id) (h : ¬ l.length ≤ 1) : cutL l 1 = [l[l.length - 1]!] := by unfold cutL; rw [if_neg h, if_pos rfl]
theorem cutL_big (l : List Id) (m : Nat) (h : ¬ l.length ≤ m) (h1 : m ≠ 1) : cutL l m = l[0]! :: l.drop (l.length - m + 1) := by unfold cutL; rw [if_neg h, if_neg h1]
/-- trimming twice -/
theorem cut_cut (l : List Id) (m n : Nat) (hn : 1 ≤ n) (h : n ≤ m) : cutL (cutL l m) n = cutL l n := by
  by_cases hl : l.length ≤ m
  · rw [cutL_short l m hl]
  · have hcl := cutL_len l m (by omega)
    have hcl2 : (cutL l m).length = m := by omega
    by_cases hnm : n = m
    · subst hnm
      rw [cutL_short (cutL l n) n (by omega)]
    · have hm1 : m ≠ 1 := by omega
      have e := cutL_big l m hl hm1
      by_cases hn1 : n = 1
      · subst hn1
        rw [cutL_one (cutL l m) (by omega), cutL_one l (by omega), hcl2]
        congr 1
        rw [getD0 _ _ (by omega), getD0 _ _ (by omega)]
        simp only [e]
        rw [List.getElem_cons, dif_neg (by omega), List.getElem_drop]
        congr 1
        omega
      · rw [cutL_big (cutL l m) n (by omega) hn1, cutL_big l n (by omega) hn1, hcl2, e]
        rw [show (l[0]! :: l.drop (l.length - m + 1))[0]! = l[0]! from rfl]
        congr 1
        rw [List.drop_succ_cons, List.drop_drop]
        congr 1
        omega

/-- may the one result from trimming the other? -/
def isTr (s l : List Id) : Bool := if s = [] then decide (l = []) else decide (s = cutL l s.length)
theorem isTr_ref (s l : List Id) : (decide (s = l) || (decide (0 < s.length) && decide (s = cutL l s.length))) = isTr s l := by
  unfold isTr
  by_cases h : s = []
  · subst h
    rw [if_pos rfl]
    simp only [List.length_nil, Nat.lt_irrefl, decide_false, Bool.false_and, Bool.or_false]
    rw [decide_eq_decide]
    exact eq_comm
  · rw [if_neg h]
    have h0 : 0 < s.length := List.length_pos_iff.2 h
    rw [decide_eq_true h0, Bool.true_and]
    by_cases e : s = l
    · subst e
      rw [cutL_short s _ (Nat.le_refl _)]
      simp
    · rw [decide_eq_false e, Bool.false_or]
end Mid
