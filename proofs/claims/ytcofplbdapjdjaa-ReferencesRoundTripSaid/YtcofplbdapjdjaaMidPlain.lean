/- Plain mathematics of layer 11: texts of identities, names of sites, the order of identities. No program. -/
import Derived.Test.YtcofplbdapjdjaaHexPlain
namespace Mid
open Asc

def tail6 : List UInt8 := [64, 104, 97, 115, 104, 62]
/-- the text of an identity -/
def printL (l : List Nat) : List UInt8 := 60 :: (hexL l ++ tail6)
/-- a byte that some text has at a place -/
def good (c : UInt8) (i : Nat) : Bool := if i < 1 then c == 60 else if i < 65 then decide (0 ≤ nib c) else c == tail6.getD (i - 65) 0
/-- the first wrong place, of those below 71 -/
def bad : Nat → List UInt8 → Option Nat
  | _, [] => none
  | i, c :: r => if i < 71 then (if good c i then bad (i + 1) r else some i) else none

theorem bad_step (s : List UInt8) (i : Nat) (h : i < s.length) (h7 : i < 71) : bad i (s.drop i) = if good s[i] i then bad (i + 1) (s.drop (i + 1)) else some i := by
  rw [List.drop_eq_getElem_cons h, bad, if_pos h7]

theorem bad_none : ∀ (r : List UInt8) (i : Nat), bad i r = none ↔ ∀ j (h : j < r.length), i + j < 71 → good r[j] (i + j) = true
  | [], i => by simp [bad]
  | c :: r, i => by
    rw [bad]
    by_cases h7 : i < 71
    · rw [if_pos h7]
      cases hg : good c i with
      | true =>
        simp only [if_true]
        rw [bad_none r (i + 1)]
        constructor
        · intro h j hj h71
          cases j with
          | zero => simpa using hg
          | succ j =>
            have := h j (by simpa using hj) (by omega)
            rw [show i + (j + 1) = i + 1 + j by omega]
            simpa using this
        · intro h j hj h71
          have := h (j + 1) (by simpa using hj) (by omega)
          rw [show i + (j + 1) = i + 1 + j by omega] at this
          simpa using this
      | false =>
        simp only [Bool.false_eq_true, if_false]
        constructor
        · intro h; cases h
        · intro h
          have := h 0 (by simp) (by omega)
          simp [hg] at this
    · rw [if_neg h7]
      constructor
      · intro _ j hj h71
        omega
      · intro _; rfl

theorem bad_some : ∀ (r : List UInt8) (i k : Nat), bad i r = some k → i ≤ k ∧ k < 71 ∧ ∃ h : k - i < r.length, good r[k - i] k = false
  | [], i, k, h => by simp [bad] at h
  | c :: r, i, k, h => by
    rw [bad] at h
    split at h
    · split at h
      · obtain ⟨h1, h2, h3, h4⟩ := bad_some r (i + 1) k h
        refine ⟨by omega, h2, by simp; omega, ?_⟩
        have e : k - i = (k - (i + 1)) + 1 := by omega
        simp only [e, List.getElem_cons_succ]
        exact h4
      · rename_i h7 hg
        cases h
        refine ⟨Nat.le_refl _, h7, by simp, ?_⟩
        simp only [Nat.sub_self, List.getElem_cons_zero]
        simpa using hg
    · cases h

/-- the bytes that a text's digits stand for -/
def dg (s : List UInt8) (j : Nat) : Nat := (nib (s.getD (j + 1) 0)).toNat
def idL (s : List UInt8) : List Nat := (List.range 32).map fun j => 16 * dg s (2 * j) + dg s (2 * j + 1)
theorem idL_len (s : List UInt8) : (idL s).length = 32 := by simp [idL]
theorem dg_lt (s : List UInt8) (j : Nat) : dg s j ≤ 15 := by
  have := nib_range (s.getD (j + 1) 0)
  unfold dg
  omega
theorem idL_lt (s : List UInt8) : ∀ x ∈ idL s, x < 256 := by
  intro x hx
  simp only [idL, List.mem_map, List.mem_range] at hx
  obtain ⟨j, _, rfl⟩ := hx
  have := dg_lt s (2 * j)
  have := dg_lt s (2 * j + 1)
  omega

theorem unhex_pairs : ∀ (n : Nat) (t : List UInt8), t.length = 2 * n → (∀ j (h : j < t.length), 0 ≤ nib t[j]) →
    unhexL t = some ((List.range n).map fun j => 16 * (nib (t.getD (2 * j) 0)).toNat + (nib (t.getD (2 * j + 1) 0)).toNat)
  | 0, t, h, _ => by
    obtain rfl : t = [] := List.eq_nil_of_length_eq_zero (by omega)
    rfl
  | n + 1, a :: b :: r, h, hn => by
    have ha := hn 0 (by simp)
    have hb := hn 1 (by simp)
    simp only [List.getElem_cons_zero] at ha
    simp only [List.getElem_cons_succ, List.getElem_cons_zero] at hb
    rw [unhexL, if_neg (by omega), unhex_pairs n r (by simp at h; omega) (fun j hj => by
      have := hn (j + 2) (by simp; omega)
      simpa using this)]
    have e : ∀ (j : Nat), (a :: b :: r).getD (2 * (j + 1)) 0 = r.getD (2 * j) 0 ∧ (a :: b :: r).getD (2 * (j + 1) + 1) 0 = r.getD (2 * j + 1) 0 := fun j => by
      rw [show 2 * (j + 1) = 2 * j + 1 + 1 by omega]
      simp
    rw [List.range_succ_eq_map, List.map_cons, List.map_map, Option.map_some]
    congr 2
  | n + 1, [], h, _ => by simp at h
  | n + 1, [_], h, _ => by simp at h; omega

theorem unhex_mid (s : List UInt8) (hl : s.length = 71) (hb : bad 0 s = none) : unhexL ((s.drop 1).take 64) = some (idL s) := by
  have hg := (bad_none s 0).1 hb
  have hlen : ((s.drop 1).take 64).length = 64 := by simp; omega
  rw [unhex_pairs 32 ((s.drop 1).take 64) (by omega) (fun j hj => ?_)]
  · congr 1
    apply List.map_congr_left
    intro j hj
    have hj := List.mem_range.1 hj
    have e : ∀ k, k < 64 → ((s.drop 1).take 64).getD k 0 = s.getD (k + 1) 0 := fun k hk => by
      rw [List.getD_eq_getElem?_getD, List.getElem?_take_of_lt hk, List.getElem?_drop, List.getD_eq_getElem?_getD, Nat.add_comm 1 k]
    rw [e _ (by omega), e _ (by omega)]
    rfl
  · have h1 := hg (j + 1) (by omega) (by omega)
    have e : ((s.drop 1).take 64)[j] = s[j + 1] := by simp
    rw [e]
    unfold good at h1
    rw [if_neg (by omega), if_pos (by omega)] at h1
    simpa using h1

theorem hexL_length (l : List Nat) : (hexL l).length = 2 * l.length := by
  induction l with
  | nil => rfl
  | cons x l ih =>
    have e : hexL (x :: l) = hc (x / 16) :: hc (x % 16) :: hexL l := by simp [hexL]
    rw [e]; simp [ih]; omega
theorem printL_len (l : List Nat) (h : l.length = 32) : (printL l).length = 71 := by
  simp [printL, hexL_length, h, tail6]

/-- what is accepted is printed unchanged -/
theorem print_id (s : List UInt8) (hl : s.length = 71) (hb : bad 0 s = none) : printL (idL s) = s := by
  have hg := (bad_none s 0).1 hb
  have hh := (hex_unhex _ _ (unhex_mid s hl hb)).1
  unfold printL
  rw [hh]
  apply List.ext_getElem
  · simp [tail6, hl]
  · intro i h1 h2
    have hgi := hg i h2 (by omega)
    rw [Nat.zero_add] at hgi
    match i with
    | 0 =>
      simp only [List.getElem_cons_zero]
      unfold good at hgi
      rw [if_pos (by omega)] at hgi
      exact (by simpa using hgi : s[0] = 60).symm
    | i + 1 =>
      simp only [List.getElem_cons_succ]
      by_cases h64 : i < 64
      · rw [List.getElem_append_left (by simp; omega)]
        simp
      · rw [List.getElem_append_right (by simp; omega)]
        unfold good at hgi
        rw [if_neg (by omega), if_neg (by omega)] at hgi
        have hgi : s[i + 1] = tail6.getD (i + 1 - 65) 0 := by simpa using hgi
        rw [hgi, List.getD_eq_getElem?_getD]
        have hlen : ((s.drop 1).take 64).length = 64 := by simp; omega
        have e : i - ((s.drop 1).take 64).length = i + 1 - 65 := by omega
        have h6 : i + 1 - 65 < tail6.length := by simp [tail6]; omega
        simp only [e]
        rw [List.getElem?_eq_getElem h6]
        rfl

theorem getD_print (l : List Nat) (hl : l.length = 32) (i : Nat) (hi : i < 71) : (printL l).getD i 0 = if i < 1 then 60 else if i < 65 then (hexL l).getD (i - 1) 0 else tail6.getD (i - 65) 0 := by
  have hh := hexL_length l
  unfold printL
  match i with
  | 0 => rfl
  | i + 1 =>
    rw [if_neg (by omega), List.getD_cons_succ]
    by_cases h : i + 1 < 65
    · rw [if_pos h, Nat.add_sub_cancel, List.getD_eq_getElem?_getD, List.getElem?_append_left (by omega), List.getD_eq_getElem?_getD]
    · rw [if_neg h, List.getD_eq_getElem?_getD, List.getElem?_append_right (by omega), List.getD_eq_getElem?_getD]
      congr 2
      omega

theorem nib_hexL : ∀ (l : List Nat), (∀ x ∈ l, x < 256) → ∀ j (h : j < (hexL l).length), 0 ≤ nib (hexL l)[j]
  | [], _, j, h => by simp [hexL] at h
  | x :: l, hb, j, h => by
    have e : hexL (x :: l) = hc (x / 16) :: hc (x % 16) :: hexL l := by simp [hexL]
    have hx := hb x (by simp)
    have n1 := nib_hc ⟨x / 16, by omega⟩
    have n2 := nib_hc ⟨x % 16, by omega⟩
    simp only at n1 n2
    simp only [e]
    match j with
    | 0 => simp only [List.getElem_cons_zero]; omega
    | 1 => simp only [List.getElem_cons_succ, List.getElem_cons_zero]; omega
    | j + 2 =>
      simp only [List.getElem_cons_succ]
      exact nib_hexL l (fun y hy => hb y (by simp [hy])) j (by simp [e] at h; omega)

theorem bad_print (l : List Nat) (hl : l.length = 32) (hb : ∀ x ∈ l, x < 256) : bad 0 (printL l) = none := by
  rw [bad_none]
  intro j hj h71
  have hp := getD_print l hl j (by omega)
  rw [List.getD_eq_getElem?_getD, List.getElem?_eq_getElem hj, Option.getD_some] at hp
  rw [hp, Nat.zero_add]
  unfold good
  by_cases h1 : j < 1
  · rw [if_pos h1, if_pos h1]; rfl
  · rw [if_neg h1, if_neg h1]
    by_cases h2 : j < 65
    · rw [if_pos h2, if_pos h2]
      have hh := hexL_length l
      have := nib_hexL l hb (j - 1) (by omega)
      rw [List.getD_eq_getElem?_getD, List.getElem?_eq_getElem (by omega), Option.getD_some]
      simpa using this
    · rw [if_neg h2, if_neg h2]
      simp

theorem hexL_inj : ∀ (l m : List Nat), (∀ x ∈ l, x < 256) → (∀ x ∈ m, x < 256) → hexL l = hexL m → l = m := by
  intro l m h1 h2 e
  have a := unhex_hex l h1
  have b := unhex_hex m h2
  rw [e, b] at a
  exact (Option.some.inj a).symm
theorem printL_inj (l m : List Nat) (hl : l.length = 32) (hm : m.length = 32) (h1 : ∀ x ∈ l, x < 256) (h2 : ∀ x ∈ m, x < 256) (e : printL l = printL m) : l = m := by
  unfold printL at e
  have e := List.cons.inj e |>.2
  have := List.append_inj e (by rw [hexL_length, hexL_length, hl, hm])
  exact hexL_inj l m h1 h2 this.1
theorem id_print (l : List Nat) (hl : l.length = 32) (hb : ∀ x ∈ l, x < 256) : idL (printL l) = l :=
  printL_inj _ _ (idL_len _) hl (idL_lt _) hb (print_id _ (printL_len l hl) (bad_print l hl hb))

/-- a text whose byte was changed -/
theorem spoilt (l : List Nat) (hl : l.length = 32) (hb : ∀ x ∈ l, x < 256) (at' : Nat) (hat : at' < 71) (c : UInt8) (hc : (printL l).getD at' 0 ≠ c) :
    bad 0 ((printL l).set at' c) = some at' ∨ (bad 0 ((printL l).set at' c) = none ∧ idL ((printL l).set at' c) ≠ l ∧ 1 ≤ at' ∧ at' ≤ 64) := by
  have hlen := printL_len l hl
  have hg := (bad_none _ 0).1 (bad_print l hl hb)
  have hc' : (printL l)[at']'(by omega) ≠ c := by
    rw [List.getD_eq_getElem?_getD, List.getElem?_eq_getElem (by omega)] at hc
    exact hc
  have hl2 : ((printL l).set at' c).length = 71 := by simp [hlen]
  cases hbd : bad 0 ((printL l).set at' c) with
  | none =>
    right
    have hg2 := (bad_none _ 0).1 hbd
    refine ⟨rfl, ?_, ?_⟩
    · intro e
      have h3 := print_id _ hl2 hbd
      rw [e] at h3
      apply hc'
      have : (printL l)[at']'(by omega) = ((printL l).set at' c)[at']'(by omega) := by
        congr 1
      rw [this]
      simp
    · have h4 := hg at' (by omega) (by omega)
      have h5 := hg2 at' (by omega) (by omega)
      rw [Nat.zero_add] at h4 h5
      simp only [List.getElem_set_self] at h5
      unfold good at h4 h5
      by_cases h1 : at' < 1
      · rw [if_pos h1] at h4 h5
        exact absurd ((by simpa using h4 : _ = (60 : UInt8)).trans (by simpa using h5 : c = 60).symm) hc'
      · by_cases h2 : at' < 65
        · omega
        · rw [if_neg h1, if_neg h2] at h4 h5
          exact absurd ((beq_iff_eq.1 h4).trans (beq_iff_eq.1 h5).symm) hc'
  | some k =>
    left
    obtain ⟨_, h71, h3, h4⟩ := bad_some _ _ _ hbd
    rw [Nat.sub_zero] at h3
    simp only [Nat.sub_zero] at h4
    by_cases e : at' = k
    · rw [e]
    · exfalso
      have h5 := hg k (by omega) (by omega)
      rw [Nat.zero_add] at h5
      rw [List.getElem_set_ne e] at h4
      rw [h5] at h4
      cases h4

/-! ### the order -/
/-- the order of lists of numbers, as -1, 0, 1 -/
def cmpL : List Nat → List Nat → Int
  | a :: l, b :: m => if a < b then -1 else if b < a then 1 else cmpL l m
  | [], [] => 0
  | [], _ => -1
  | _, [] => 1
theorem cmpL_self : ∀ l, cmpL l l = 0
  | [] => rfl
  | a :: l => by rw [cmpL, if_neg (by omega), if_neg (by omega), cmpL_self l]
theorem cmpL_neg : ∀ l m, cmpL m l = - cmpL l m
  | [], [] => rfl
  | [], _ :: _ => rfl
  | _ :: _, [] => rfl
  | a :: l, b :: m => by
    rw [cmpL, cmpL]
    by_cases h1 : a < b
    · simp [h1, show ¬ b < a by omega]
    · by_cases h2 : b < a
      · simp [h1, h2]
      · simp only [h1, h2, if_false]
        exact cmpL_neg l m
theorem cmpL_step (l m : List Nat) (k : Nat) (h1 : k < l.length) (h2 : k < m.length) : cmpL (l.drop k) (m.drop k) = if l[k] < m[k] then -1 else if m[k] < l[k] then 1 else cmpL (l.drop (k + 1)) (m.drop (k + 1)) := by
  rw [List.drop_eq_getElem_cons h1, List.drop_eq_getElem_cons h2, cmpL]
theorem cmpL_range : ∀ l m, cmpL l m = -1 ∨ cmpL l m = 0 ∨ cmpL l m = 1
  | [], [] => by simp [cmpL]
  | [], _ :: _ => by simp [cmpL]
  | _ :: _, [] => by simp [cmpL]
  | a :: l, b :: m => by
    rw [cmpL]
    split
    · simp
    · split
      · simp
      · exact cmpL_range l m

def lessU : List UInt8 → List UInt8 → Bool
  | a :: l, b :: m => if a < b then true else if b < a then false else lessU l m
  | [], _ :: _ => true
  | _, [] => false

theorem hc_lt : ∀ a b : Fin 16, (hc a.val < hc b.val ↔ a.val < b.val) := by decide +kernel

theorem less_hex : ∀ (l m : List Nat), l.length = m.length → (∀ x ∈ l, x < 256) → (∀ x ∈ m, x < 256) → ∀ t : List UInt8, (lessU (hexL l ++ t) (hexL m ++ t) = decide (cmpL l m = -1))
  | [], [], _, _, _, t => by
    simp only [hexL, List.flatMap_nil, List.nil_append]
    have : ∀ t : List UInt8, lessU t t = false := by
      intro t
      induction t with
      | nil => rfl
      | cons a t ih => rw [lessU, if_neg (by simp), if_neg (by simp), ih]
    rw [this]
    simp [cmpL]
  | [], _ :: _, h, _, _, _ => by simp at h
  | _ :: _, [], h, _, _, _ => by simp at h
  | x :: l, y :: m, h, hx, hy, t => by
    have x2 := hx x (by simp)
    have y2 := hy y (by simp)
    have ih := less_hex l m (by simpa using h) (fun z hz => hx z (by simp [hz])) (fun z hz => hy z (by simp [hz])) t
    have a1 := hc_lt ⟨x / 16, by omega⟩ ⟨y / 16, by omega⟩
    have a2 := hc_lt ⟨y / 16, by omega⟩ ⟨x / 16, by omega⟩
    have a3 := hc_lt ⟨x % 16, by omega⟩ ⟨y % 16, by omega⟩
    have a4 := hc_lt ⟨y % 16, by omega⟩ ⟨x % 16, by omega⟩
    simp only at a1 a2 a3 a4
    have e1 : hexL (x :: l) ++ t = hc (x / 16) :: hc (x % 16) :: (hexL l ++ t) := by simp [hexL]
    have e2 : hexL (y :: m) ++ t = hc (y / 16) :: hc (y % 16) :: (hexL m ++ t) := by simp [hexL]
    rw [e1, e2, lessU, lessU, cmpL]
    simp only [a1, a2, a3, a4, ih]
    by_cases h1 : x < y
    · rw [if_pos h1]
      by_cases h2 : x / 16 < y / 16
      · rw [if_pos h2]; simp
      · rw [if_neg h2, if_neg (by omega), if_pos (by omega)]; simp
    · rw [if_neg h1]
      by_cases h3 : y < x
      · rw [if_pos h3]
        rw [if_neg (by omega)]
        by_cases h2 : y / 16 < x / 16
        · rw [if_pos h2]; simp
        · rw [if_neg h2, if_neg (by omega), if_pos (by omega)]; simp
      · rw [if_neg h3, if_neg (by omega), if_neg (by omega), if_neg (by omega), if_neg (by omega)]

/-! ### names of sites -/
def siteB (c : UInt8) : Bool := (decide (97 ≤ c.toNat) && decide (c.toNat ≤ 122)) || (decide (48 ≤ c.toNat) && decide (c.toNat ≤ 57)) || c == 45 || c == 46
def lowB (c : UInt8) : Bool := decide (97 ≤ c.toNat) && decide (c.toNat ≤ 122)
def mis (s : List UInt8) (i : Nat) : Bool := (decide (i = 0) && !lowB (s.getD i 0)) || (decide (0 < i) && s.getD i 0 == 46 && s.getD (i - 1) 0 == 46) || (decide (i + 1 = s.length) && (s.getD i 0 == 45 || s.getD i 0 == 46))
/-- the first place from i on of which p is true -/
def findP (p : Nat → Bool) : Nat → Nat → Option Nat
  | _, 0 => none
  | i, n + 1 => if p i then some i else findP p (i + 1) n
def wrongB (s : List UInt8) : Option Nat := findP (fun i => !siteB (s.getD i 0)) 0 s.length
def wrongP (s : List UInt8) : Option Nat := findP (mis s) 0 s.length
theorem findP_step (p : Nat → Bool) (N i : Nat) (h : i < N) : findP p i (N - i) = if p i then some i else findP p (i + 1) (N - (i + 1)) := by
  rw [show N - i = (N - (i + 1)) + 1 by omega, findP]
/-- the answer of Site -/
def siteL (s : List UInt8) : Nat × Nat :=
  if s.length = 0 then (0, 4) else if 30 < s.length then (30, 5) else match wrongB s with
    | some i => (i, 6)
    | none => match wrongP s with
      | some i => (i, 12)
      | none => (0, 0)
end Mid
