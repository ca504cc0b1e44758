/- A valid list's text, parsed: whatever blanks are added. -/
import Derived.Test.YtcofplbdapjdjaaRPrs
import Derived.Test.YtcofplbdapjdjaaPrt
namespace Mid
def stp (st : List (List UInt8) × List UInt8) (c : UInt8) : List (List UInt8) × List UInt8 := if bl c = true then (if st.2 = [] then st else (st.1 ++ [st.2], [])) else (st.1, st.2 ++ [c])
def fld (s : List UInt8) (st : List (List UInt8) × List UInt8) := s.foldl stp st
def flush (st : List (List UInt8) × List UInt8) : List (List UInt8) := if st.2 = [] then st.1 else st.1 ++ [st.2]
theorem fld_cons (c : UInt8) (s : List UInt8) (st) : fld (c :: s) st = fld s (stp st c) := rfl
theorem fld_app (s t : List UInt8) (st) : fld (s ++ t) st = fld t (fld s st) := List.foldl_append ..
theorem stp_blank (D : List (List UInt8)) (c : UInt8) (h : bl c = true) : stp (D, []) c = (D, []) := by unfold stp; rw [if_pos h, if_pos rfl]
theorem stp_end (D : List (List UInt8)) (t : List UInt8) (c : UInt8) (h : bl c = true) (ht : t ≠ []) : stp (D, t) c = (D ++ [t], []) := by unfold stp; rw [if_pos h, if_neg ht]
theorem fld_nb : ∀ (t : List UInt8) (D cur), (∀ c ∈ t, bl c = false) → fld t (D, cur) = (D, cur ++ t)
  | [], D, cur, _ => by simp [fld]
  | c :: t, D, cur, h => by
    rw [fld_cons, show stp (D, cur) c = (D, cur ++ [c]) by unfold stp; rw [if_neg (by rw [h c (by simp)]; simp)], fld_nb t D _ (fun x hx => h x (by simp [hx]))]
    simp
theorem flush_end (D : List (List UInt8)) (t : List UInt8) (ht : t ≠ []) : flush (D, t) = D ++ [t] := by unfold flush; rw [if_neg ht]
theorem toks_fld {s : List UInt8} {i : Nat} {R} (h : Toks s i R) : ∀ D, flush (fld (s.drop i) (D, [])) = D ++ R.map (·.2) := by
  have gd : ∀ i, (h : i < s.length) → s.drop i = s.getD i 0 :: s.drop (i + 1) := fun i h => by
    rw [List.drop_eq_getElem_cons h, List.getD_eq_getElem?_getD, List.getElem?_eq_getElem h]; rfl
  induction h with
  | done i h => intro D; rw [List.drop_eq_nil_of_le h]; simp [fld, flush]
  | skip i L h hb t ih => intro D; rw [gd i h, fld_cons, stp_blank D _ hb]; exact ih D
  | tok i k L h1 h2 h3 h4 t ih =>
    intro D
    have e : s.drop i = (s.drop i).take (k - i) ++ s.drop k := by
      conv => lhs; rw [← List.take_append_drop (k - i) (s.drop i)]
      rw [List.drop_drop, show i + (k - i) = k by omega]
    have hne : (s.drop i).take (k - i) ≠ [] := by
      intro e0
      have := congrArg List.length e0
      rw [List.length_take, List.length_drop, List.length_nil] at this
      omega
    have hnb : ∀ c ∈ (s.drop i).take (k - i), bl c = false := by
      intro c hc
      obtain ⟨j, hj, rfl⟩ := List.mem_iff_getElem.1 hc
      rw [List.length_take, List.length_drop] at hj
      rw [List.getElem_take, List.getElem_drop]
      have := h3 (i + j) (by omega) (by omega)
      rwa [List.getD_eq_getElem?_getD, List.getElem?_eq_getElem (by omega)] at this
    have e2 : fld (s.drop i) (D, []) = fld (s.drop k) (D, (s.drop i).take (k - i)) := by
      conv => lhs; rw [e]
      rw [fld_app, fld_nb _ D [] hnb, List.nil_append]
    rw [e2, List.map_cons]
    clear e e2 hnb
    generalize (s.drop i).take (k - i) = tk at *
    rcases h4 with h4 | h4
    · have hd : s.drop k = [] := List.drop_eq_nil_of_le (by omega)
      have ih0 := ih D
      rw [hd] at ih0 ⊢
      have hL : L.map (·.2) = [] := by
        have : D = D ++ L.map (·.2) := ih0
        simpa using this
      rw [hL]
      exact flush_end D tk hne
    · by_cases hk : k < s.length
      · have ih1 := ih (D ++ [tk])
        rw [gd k hk, fld_cons, stp_blank _ _ h4] at ih1
        rw [gd k hk, fld_cons, stp_end D tk _ h4 hne, ih1]
        simp
      · have hd : s.drop k = [] := List.drop_eq_nil_of_le (by omega)
        have ih0 := ih D
        rw [hd] at ih0 ⊢
        have hL : L.map (·.2) = [] := by
          have : D = D ++ L.map (·.2) := ih0
          simpa using this
        rw [hL]
        exact flush_end D tk hne
theorem print_nb (x : Id) : ∀ c ∈ printL x.1, bl c = false := by
  intro c hc
  obtain ⟨j, hj, rfl⟩ := List.mem_iff_getElem.1 hc
  have hb := bad_print x.1 x.2.1 x.2.2
  rw [bad_none] at hb
  have hl := printL_71 x
  have hg := hb j hj (by omega)
  rw [Nat.zero_add] at hg
  generalize (printL x.1)[j] = c at *
  unfold good at hg
  by_cases h1 : j < 1
  · rw [if_pos h1, beq_iff_eq] at hg; subst hg; decide
  · rw [if_neg h1] at hg
    by_cases h2 : j < 65
    · rw [if_pos h2] at hg
      have h3 : 0 ≤ Asc.nib c := of_decide_eq_true hg
      cases hbl : bl c
      · rfl
      · exfalso
        unfold bl at hbl
        simp only [Bool.or_eq_true, beq_iff_eq] at hbl
        rcases hbl with rfl | rfl <;> revert h3 <;> decide
    · rw [if_neg h2, beq_iff_eq] at hg
      subst hg
      have : ∀ i : Fin 6, bl (tail6.getD i.val 0) = false := by decide
      exact this ⟨j - 65, by omega⟩
theorem parse_print (x : Id) : parse (printL x.1) = (x.1, 0, 0) := by
  rw [parse_ok _ (bad_print x.1 x.2.1 x.2.2) (printL_len x.1 x.2.1), id_print x.1 x.2.1 x.2.2]
theorem idT_print (x : Id) : idT (printL x.1) = x := by
  apply Subtype.ext
  unfold idT
  simp only [parse_print]
theorem okT_print (x : Id) : okT (printL x.1) = true := by
  unfold okT
  rw [parse_print]; rfl
theorem print_ne (x : Id) : printL x.1 ≠ [] := by
  intro h
  have := printL_71 x
  rw [h] at this; cases this
theorem join_fld : ∀ (ls : List Id) (D : List (List UInt8)), flush (fld (joinS ls) (D, [])) = D ++ ls.map fun x => printL x.1
  | [], D => by simp [joinS, fld, flush]
  | [x], D => by
    rw [joinS, fld_nb _ D [] (print_nb x), List.nil_append, flush_end D _ (print_ne x)]; rfl
  | x :: y :: r, D => by
    rw [joinS, fld_app, fld_nb _ D [] (print_nb x), List.nil_append, fld_cons, stp_end D _ 32 (by decide) (print_ne x), join_fld (y :: r)]
    simp
/-- a valid list's tokens give the list -/
theorem prs_valid (l : List Id) (hl : l.length ≤ 20) : ∀ (R : List (Nat × List UInt8)) (k : Nat), k ≤ l.length → chkAt l k (l.drop k) = 0 → R.map (·.2) = (l.drop k).map (fun x => printL x.1) → prs R (l.take k) = (l, 0, 0)
  | [], k, hk, _, hR => by
    have : (l.drop k).length = 0 := by have := congrArg List.length hR; simpa using this.symm
    rw [List.length_drop] at this
    rw [prs, List.take_of_length_le (by omega)]
  | (a, t) :: r, k, hk, hc, hR => by
    have hlt : k < l.length := by
      have := congrArg List.length hR
      simp at this; omega
    rw [List.drop_eq_getElem_cons hlt, List.map_cons, List.map_cons] at hR
    obtain ⟨h1, h2⟩ := List.cons.inj hR
    have h1 : t = printL l[k].1 := h1
    rw [chkAt_step l k hlt] at hc
    have e : l[k]! = l[k] := getElem!_pos l k hlt
    rw [e] at hc
    subst h1
    have n1 : ¬ l[k] = default := by intro h; rw [if_pos h] at hc; cases hc
    rw [if_neg n1] at hc
    have n2 : ¬ l[k] ∈ l.take k := by intro h; rw [if_pos h] at hc; cases hc
    rw [if_neg n2] at hc
    rw [prs, if_neg (by rw [List.length_take]; omega), okT_print, if_neg (by simp), idT_print, if_neg n1, if_neg n2, ← List.take_succ_eq_append_getElem hlt]
    exact prs_valid l hl r (k + 1) hlt hc h2
theorem prs_text (l : List Id) (h : chk l = 0) (s : List UInt8) (R) (hR : Toks s 0 R) (hs : flush (fld s ([], [])) = l.map fun x => printL x.1) : prs R [] = (l, 0, 0) := by
  have h20 := chk_len h
  have hc : chkAt l 0 l = 0 := by unfold chk at h; rwa [if_neg (by omega)] at h
  have := toks_fld hR []
  rw [List.drop_zero, hs, List.nil_append] at this
  exact prs_valid l h20 R 0 (Nat.zero_le _) hc (by rw [List.drop_zero]; exact this.symm)
end Mid
