/- Plain mathematics of layer 1, second part: the reference's words, squeezed texts, trimmed texts, decimal numbers, hexadecimal. No program. -/
import Derived.Test.YtgopcplcamljmaaDoorPlain
import Derived.Lib.AtoiAll
import Derived.Lib.ItoaNum
namespace Asc
open Go.Lib (join joinTail join_cons decDigits itoa atoiAll parseUint10 parseMag)

theorem wordsF_some (cur l : List UInt8) (k : Nat) (hk : k < l.length) (hb : blank l[k] = false) : wordsF cur (l.drop k) = wordsF (cur ++ [l[k]]) (l.drop (k + 1)) := by
  rw [List.drop_eq_getElem_cons hk, wordsF, if_neg (by rw [hb]; decide)]

theorem wordsF_gap (cur l : List UInt8) (k : Nat) (hk : k < l.length) (hb : blank l[k] = true) : wordsF cur (l.drop k) = (if cur = [] then [] else [cur]) ++ wordsF [] (l.drop (k + 1)) := by
  rw [List.drop_eq_getElem_cons hk, wordsF, if_pos hb]
  split <;> simp

theorem wordsF_end (cur l : List UInt8) (k : Nat) (hk : l.length ≤ k) : wordsF cur (l.drop k) = if cur = [] then [] else [cur] := by
  rw [List.drop_eq_nil_of_le hk]; rfl

theorem piece_snoc (l : List UInt8) (a k : Nat) (ha : a ≤ k) (hk : k < l.length) : (l.drop a).take (k - a) ++ [l[k]] = (l.drop a).take (k + 1 - a) := by
  rw [show k + 1 - a = (k - a) + 1 by omega, List.take_succ_eq_append_getElem (by rw [List.length_drop]; omega)]
  congr 2
  rw [List.getElem_drop]
  congr 1
  omega

theorem piece_ne (l : List UInt8) (a k : Nat) (ha : a < k) (hk : k ≤ l.length) : (l.drop a).take (k - a) ≠ [] := by
  intro e
  have := congrArg List.length e
  simp only [List.length_take, List.length_drop, List.length_nil] at this
  omega

/-- what a word is -/
def good (x : List UInt8) : Prop := x ≠ [] ∧ ∀ c ∈ x, blank c = false

theorem wordsF_good : ∀ (l cur : List UInt8), (∀ c ∈ cur, blank c = false) → ∀ x ∈ wordsF cur l, good x
  | [], cur, hc, x, hx => by
    unfold wordsF at hx
    split at hx
    · simp at hx
    · simp at hx; subst hx; exact ⟨by assumption, hc⟩
  | c :: r, cur, hc, x, hx => by
    unfold wordsF at hx
    split at hx
    · split at hx
      · exact wordsF_good r [] (by simp) x hx
      · simp at hx
        rcases hx with rfl | hx
        · exact ⟨by assumption, hc⟩
        · exact wordsF_good r [] (by simp) x hx
    · rename_i hb
      refine wordsF_good r (cur ++ [c]) (fun y hy => ?_) x hx
      simp at hy
      rcases hy with hy | rfl
      · exact hc y hy
      · simpa using hb

theorem wordsL_good (l : List UInt8) : ∀ x ∈ wordsL l, good x := wordsF_good l [] (by simp)

theorem wordsF_app (x : List UInt8) (hx : ∀ c ∈ x, blank c = false) : ∀ cur rest, wordsF cur (x ++ rest) = wordsF (cur ++ x) rest := by
  induction x with
  | nil => intro cur rest; simp
  | cons c x ih =>
    intro cur rest
    rw [List.cons_append, wordsF, if_neg (by rw [hx c (by simp)]; decide), ih (fun y hy => hx y (by simp [hy]))]
    simp

theorem wordsF_tail (r : List (List UInt8)) : ∀ (x : List UInt8), good x → (∀ y ∈ r, good y) → wordsF [] (x ++ joinTail [32] r) = x :: r := by
  induction r with
  | nil =>
    intro x hx _
    rw [wordsF_app x hx.2]
    simp [joinTail, wordsF, hx.1]
  | cons y r ih =>
    intro x hx hr
    rw [wordsF_app x hx.2]
    have e : joinTail [32] (y :: r) = 32 :: (y ++ joinTail [32] r) := by simp [joinTail]
    rw [e, wordsF, if_pos (by decide), if_neg (by simpa using hx.1), ih y (hr y (by simp)) (fun z hz => hr z (by simp [hz]))]
    simp

theorem words_join (ws : List (List UInt8)) (h : ∀ x ∈ ws, good x) : wordsL (join ws [32]) = ws := by
  cases ws with
  | nil => rfl
  | cons x r =>
    rw [join_cons, wordsL, wordsF_tail r x (h x (by simp)) (fun y hy => h y (by simp [hy]))]

/-- a text, squeezed -/
def squeeze (l : List UInt8) : List UInt8 := join (wordsL l) [32]

theorem words_squeeze (l : List UInt8) : wordsL (squeeze l) = wordsL l := words_join _ (wordsL_good l)
theorem squeeze_squeeze (l : List UInt8) : squeeze (squeeze l) = squeeze l := by
  have h := words_squeeze l
  show join (wordsL (squeeze l)) [32] = _
  rw [h]; rfl

theorem joinTail_snoc (r : List (List UInt8)) (y sep : List UInt8) : joinTail sep (r ++ [y]) = joinTail sep r ++ (sep ++ y) := by simp [joinTail]

theorem join_snoc (xs : List (List UInt8)) (y sep : List UInt8) (h : xs ≠ []) : join (xs ++ [y]) sep = join xs sep ++ (sep ++ y) := by
  cases xs with
  | nil => exact absurd rfl h
  | cons x r => rw [List.cons_append, join_cons, join_cons, joinTail_snoc, List.append_assoc]

/-! ### trim -/
/-- the end of a text without the blanks at its end, from the bound 'a' on -/
def backTo (l : List UInt8) (a : Nat) : Nat → Nat
  | 0 => 0
  | t + 1 => if a < t + 1 ∧ blank (l.getD t 0) = true then backTo l a t else t + 1

def trim (l : List UInt8) : List UInt8 := (l.drop (span blank l)).take (backTo l (span blank l) l.length - span blank l)

theorem backTo_go (l : List UInt8) (a t : Nat) (h : a < t) (hb : blank (l.getD (t - 1) 0) = true) : backTo l a t = backTo l a (t - 1) := by
  obtain ⟨u, rfl⟩ : ∃ u, t = u + 1 := ⟨t - 1, by omega⟩
  rw [backTo, if_pos ⟨h, by simpa using hb⟩]
  rfl

theorem backTo_stop (l : List UInt8) (a t : Nat) (h : ¬ a < t ∨ blank (l.getD (t - 1) 0) = false) : backTo l a t = t := by
  cases t with
  | zero => rfl
  | succ u =>
    rw [backTo, if_neg]
    rintro ⟨h1, h2⟩
    rcases h with h | h
    · exact h h1
    · simp at h; rw [List.getD_eq_getElem?_getD] at h2; rw [h] at h2; exact absurd h2 (by decide)

theorem backTo_le (l : List UInt8) (a : Nat) : ∀ t, backTo l a t ≤ t
  | 0 => Nat.le_refl _
  | t + 1 => by
    rw [backTo]
    have := backTo_le l a t
    split <;> omega

theorem trim_self (l : List UInt8) (h : l = [] ∨ (blank (l.getD 0 0) = false ∧ blank (l.getD (l.length - 1) 0) = false)) : trim l = l := by
  rcases h with rfl | ⟨h1, h2⟩
  · rfl
  · cases l with
    | nil => rfl
    | cons c r =>
      have hs : span blank (c :: r) = 0 := by
        rw [span, if_neg]
        simp at h1; simp [h1]
      unfold trim
      rw [hs, backTo_stop _ _ _ (.inr h2)]
      simp

theorem squeeze_ends (l : List UInt8) : squeeze l = [] ∨ (blank ((squeeze l).getD 0 0) = false ∧ blank ((squeeze l).getD ((squeeze l).length - 1) 0) = false) := by
  have hg := wordsL_good l
  unfold squeeze
  generalize wordsL l = ws at hg
  cases hws : ws with
  | nil => exact .inl rfl
  | cons x r =>
    subst hws
    right
    have hx := hg x (by simp)
    constructor
    · obtain ⟨c, x', rfl⟩ : ∃ c x', x = c :: x' := by
        cases x with
        | nil => exact absurd rfl hx.1
        | cons c x' => exact ⟨c, x', rfl⟩
      rw [join_cons]
      simpa using hx.2 c (by simp)
    · obtain ⟨init, y, hy⟩ : ∃ init y, x :: r = init ++ [y] := ⟨_, _, (List.dropLast_concat_getLast (by simp : x :: r ≠ [])).symm⟩
      have hgy := hg y (by rw [hy]; simp)
      rw [hy]
      obtain ⟨y', c, rfl⟩ : ∃ y' c, y = y' ++ [c] := ⟨_, _, (List.dropLast_concat_getLast hgy.1).symm⟩
      obtain ⟨p, hp⟩ : ∃ p, join (init ++ [y' ++ [c]]) [32] = p ++ [c] := by
        by_cases h0 : init = []
        · subst h0; exact ⟨y', Go.Lib.join_one _ _⟩
        · exact ⟨_, by rw [join_snoc _ _ _ h0, ← List.append_assoc, ← List.append_assoc]⟩
      rw [hp]
      simpa using hgy.2 c (by simp)

theorem trim_squeeze (l : List UInt8) : trim (squeeze l) = squeeze l := trim_self _ (squeeze_ends l)

/-! ### decimal numbers -/
def digB (c : UInt8) : Bool := decide (48 ≤ c.toNat) && decide (c.toNat ≤ 57)
def val (l : List UInt8) : Nat := l.foldl (fun a c => 10 * a + (c.toNat - 48)) 0
def isNum (l : List UInt8) : Bool := !l.isEmpty && l.all digB && !(decide (1 < l.length) && (l.getD 0 0 == 48))

theorem val_snoc (l : List UInt8) (c : UInt8) : val (l ++ [c]) = 10 * val l + (c.toNat - 48) := by simp [val]

theorem val_from (l : List UInt8) : ∀ a, l.foldl (fun a c => 10 * a + (c.toNat - 48)) a ≥ a := by
  induction l with
  | nil => intro a; exact Nat.le_refl _
  | cons c l ih =>
    intro a
    rw [List.foldl_cons]
    have := ih (10 * a + (c.toNat - 48))
    omega

theorem val_take (l : List UInt8) (k : Nat) (hk : k < l.length) : val (l.take (k + 1)) = 10 * val (l.take k) + (l[k].toNat - 48) := by
  rw [List.take_succ_eq_append_getElem hk, val_snoc]

theorem val_mono (l : List UInt8) (k : Nat) : val (l.take k) ≤ val l := by
  have e : val l = (l.drop k).foldl (fun a c => 10 * a + (c.toNat - 48)) (val (l.take k)) := by
    unfold val
    rw [← List.foldl_append, List.take_append_drop]
  rw [e]
  exact val_from _ _

theorem parse_digits : ∀ (l : List UInt8) (acc : Nat), l.all digB = true → acc < 18446744073709551616 →
    parseUint10 acc l = if l.foldl (fun a c => 10 * a + (c.toNat - 48)) acc < 18446744073709551616 then .ok (l.foldl (fun a c => 10 * a + (c.toNat - 48)) acc) else .range
  | [], acc, _, ha => by simp [parseUint10, ha]
  | c :: r, acc, hd, ha => by
    simp only [List.all_cons, Bool.and_eq_true] at hd
    have hc : 48 ≤ c.toNat ∧ c.toNat ≤ 57 := by simpa [digB] using hd.1
    have hge := val_from r (10 * acc + (c.toNat - 48))
    rw [parseUint10, if_pos hc, List.foldl_cons]
    by_cases h1 : 1844674407370955162 ≤ acc
    · rw [if_pos h1, if_neg (by omega)]
    · rw [if_neg h1]
      by_cases h2 : 18446744073709551616 ≤ acc * 10 + (c.toNat - 48)
      · rw [if_pos h2, if_neg (by omega)]
      · rw [if_neg h2, show acc * 10 + (c.toNat - 48) = 10 * acc + (c.toNat - 48) by omega]
        exact parse_digits r _ hd.2 (by omega)

theorem atoi_digits (l : List UInt8) (h0 : l ≠ []) (hd : l.all digB = true) : atoiAll l = if val l < 9223372036854775808 then .ok (val l : Int) else .range := by
  cases l with
  | nil => exact absurd rfl h0
  | cons c r =>
    have hc : 48 ≤ c.toNat ∧ c.toNat ≤ 57 := by
      simp only [List.all_cons, Bool.and_eq_true] at hd
      simpa [digB] using hd.1
    have hp : parseMag (c :: r) = if val (c :: r) < 18446744073709551616 then .ok (val (c :: r)) else .range := by
      unfold parseMag
      rw [if_neg (by simp)]
      exact parse_digits (c :: r) 0 hd (by decide)
    have n1 : ¬ c.toNat = 43 := by omega
    have n2 : ¬ c.toNat = 45 := by omega
    unfold atoiAll
    simp only [n1, n2, or_self, if_false, not_false_eq_true, true_and, false_and]
    rw [hp]
    by_cases h1 : val (c :: r) < 18446744073709551616
    · rw [if_pos h1]
      by_cases h2 : val (c :: r) < 9223372036854775808
      · rw [if_pos h2]
        simp only
        rw [if_neg (by omega)]
      · rw [if_neg h2]
        simp only
        rw [if_pos (by omega)]
    · rw [if_neg h1, if_neg (by omega)]

theorem all_snoc (l : List UInt8) (c : UInt8) : (l ++ [c]).all digB = (l.all digB && digB c) := by simp

theorem head_snoc (l : List UInt8) (c : UInt8) (h : l ≠ []) : (l ++ [c]).getD 0 0 = l.getD 0 0 := by
  cases l with
  | nil => exact absurd rfl h
  | cons x r => simp

theorem val_pos : ∀ (l : List UInt8), l ≠ [] → l.all digB = true → (l.getD 0 0) ≠ 48 → 1 ≤ val l
  | [], h, _, _ => absurd rfl h
  | c :: r, _, hd, hh => by
    simp only [List.all_cons, Bool.and_eq_true] at hd
    have hc : 48 ≤ c.toNat ∧ c.toNat ≤ 57 := by simpa [digB] using hd.1
    have hne : c.toNat ≠ 48 := fun e => hh (by simp; exact UInt8.toNat_inj.1 e)
    have := val_from r (10 * 0 + (c.toNat - 48))
    show 1 ≤ List.foldl _ _ _
    rw [List.foldl_cons]
    omega

theorem dec_val : ∀ (n : Nat) (l : List UInt8), l.length = n → l ≠ [] → l.all digB = true → (1 < l.length → l.getD 0 0 ≠ 48) → decDigits (val l) = l
  | 0, l, hn, h0, _, _ => absurd (List.length_eq_zero_iff.1 hn) h0
  | n + 1, l, hn, h0, hd, hh => by
    obtain ⟨l', c, rfl⟩ : ∃ l' c, l = l' ++ [c] := ⟨_, _, (List.dropLast_concat_getLast h0).symm⟩
    rw [all_snoc, Bool.and_eq_true] at hd
    have hc : 48 ≤ c.toNat ∧ c.toNat ≤ 57 := by simpa [digB] using hd.2
    have hcc : UInt8.ofNat (48 + (c.toNat - 48)) = c := by
      apply UInt8.toNat_inj.1
      rw [UInt8.toNat_ofNat']
      omega
    by_cases h1 : l' = []
    · subst h1
      rw [val_snoc]
      rw [decDigits, dif_pos (by simp [val]; omega)]
      simp [val, hcc]
    · have hl : 1 < (l' ++ [c]).length := by
        have : l'.length ≠ 0 := fun e => h1 (List.length_eq_zero_iff.1 e)
        simp; omega
      have hhd := hh hl
      rw [head_snoc _ _ h1] at hhd
      have hp := val_pos l' h1 hd.1 hhd
      have ih := dec_val n l' (by simpa using hn) h1 hd.1 (fun _ => hhd)
      rw [val_snoc, decDigits, dif_neg (by omega), show (10 * val l' + (c.toNat - 48)) / 10 = val l' by omega, ih, show (10 * val l' + (c.toNat - 48)) % 10 = c.toNat - 48 by omega, hcc]

theorem isNum_iff (l : List UInt8) : isNum l = true ↔ l ≠ [] ∧ l.all digB = true ∧ (1 < l.length → l.getD 0 0 ≠ 48) := by
  cases l with
  | nil => simp [isNum]
  | cons c r =>
    unfold isNum
    simp only [Bool.and_eq_true, Bool.not_eq_true', Bool.and_eq_false_iff, decide_eq_false_iff_not, List.isEmpty_cons, ne_eq, beq_eq_false_iff_ne]
    constructor
    · rintro ⟨⟨_, h2⟩, h3⟩
      exact ⟨by simp, h2, fun h => h3.resolve_left (fun g => g h)⟩
    · rintro ⟨_, h2, h3⟩
      refine ⟨⟨trivial, h2⟩, ?_⟩
      by_cases h : 1 < (c :: r).length
      · exact .inr (h3 h)
      · exact .inl h

theorem digits_val (l : List UInt8) (h : isNum l = true) : decDigits (val l) = l := by
  obtain ⟨h0, h1, h2⟩ := (isNum_iff l).1 h
  exact dec_val l.length l rfl h0 h1 h2

theorem dec_facts : ∀ (n : Nat), decDigits n ≠ [] ∧ (decDigits n).all digB = true ∧ val (decDigits n) = n ∧ (1 ≤ n → (decDigits n).getD 0 0 ≠ 48) := by
  intro n
  induction n using Nat.strongRecOn with
  | _ n ih =>
    have hof : ∀ k, k < 10 → (UInt8.ofNat (48 + k)).toNat = 48 + k := fun k hk => by rw [UInt8.toNat_ofNat']; omega
    have hdg : ∀ k, k < 10 → digB (UInt8.ofNat (48 + k)) = true := fun k hk => by simp only [digB, hof k hk]; simp; omega
    by_cases h : n < 10
    · rw [decDigits, dif_pos h]
      refine ⟨by simp, by rw [List.all_cons, hdg n h]; rfl, by simp only [val, List.foldl_cons, List.foldl_nil, hof n h]; omega, fun h1 e => ?_⟩
      have e2 : UInt8.ofNat (48 + n) = 48 := by simpa using e
      have := congrArg UInt8.toNat e2
      rw [hof n h] at this
      have e3 : (48 : UInt8).toNat = 48 := rfl
      omega
    · obtain ⟨i1, i2, i3, i4⟩ := ih (n / 10) (by omega)
      rw [decDigits, dif_neg h]
      refine ⟨by simp, by rw [all_snoc, i2, hdg _ (by omega)]; rfl, by rw [val_snoc, i3, hof _ (by omega)]; omega, fun _ => ?_⟩
      rw [head_snoc _ _ i1]
      exact i4 (by omega)

theorem dec_num (n : Nat) : isNum (decDigits n) = true := by
  obtain ⟨h0, h1, h2, h3⟩ := dec_facts n
  refine (isNum_iff _).2 ⟨h0, h1, fun h => ?_⟩
  by_cases hn : 1 ≤ n
  · exact h3 hn
  · have : n = 0 := by omega
    subst this
    rw [decDigits, dif_pos (by omega)] at h
    simp at h

theorem val_dec (n : Nat) : val (decDigits n) = n := (dec_facts n).2.2.1

/-! ### hexadecimal -/
def hexS : List UInt8 := [48, 49, 50, 51, 52, 53, 54, 55, 56, 57, 97, 98, 99, 100, 101, 102]
def hc (n : Nat) : UInt8 := hexS.getD n 0
def hexL (l : List Nat) : List UInt8 := l.flatMap fun c => [hc (c / 16), hc (c % 16)]

/-- the value of a character, or -1 -/
def nib (c : UInt8) : Int := if 48 ≤ c.toNat ∧ c.toNat ≤ 57 then (c.toNat : Int) - 48 else if 97 ≤ c.toNat ∧ c.toNat ≤ 102 then (c.toNat : Int) - 87 else -1

theorem nib_index : ∀ c : UInt8, Go.Lib.indexByte hexS c = nib c := by
  intro c
  have : ∀ k : Fin 256, Go.Lib.indexByte hexS (UInt8.ofNat k.val) = nib (UInt8.ofNat k.val) := by decide +kernel
  have h := this ⟨c.toNat, c.toNat_lt⟩
  simpa using h

theorem nib_range (c : UInt8) : -1 ≤ nib c ∧ nib c ≤ 15 := by
  unfold nib
  split
  · omega
  · split <;> omega

theorem nib_hc : ∀ n : Fin 16, nib (hc n.val) = (n.val : Int) := by decide +kernel
theorem hc_nib (c : UInt8) (h : 0 ≤ nib c) : hc (nib c).toNat = c := by
  have : ∀ k : Fin 256, 0 ≤ nib (UInt8.ofNat k.val) → hc (nib (UInt8.ofNat k.val)).toNat = UInt8.ofNat k.val := by decide +kernel
  have h2 := this ⟨c.toNat, c.toNat_lt⟩ (by simpa using h)
  simpa using h2

/-- the bytes of a hexadecimal text of even length, or none -/
def unhexL : List UInt8 → Option (List Nat)
  | a :: b :: r => if nib a < 0 ∨ nib b < 0 then none else (unhexL r).map fun t => (16 * (nib a).toNat + (nib b).toNat) :: t
  | [_] => none
  | [] => some []

theorem unhex_hex : ∀ (l : List Nat), (∀ x ∈ l, x < 256) → unhexL (hexL l) = some l
  | [], _ => rfl
  | c :: l, h => by
    have hcl := h c (by simp)
    have e : hexL (c :: l) = hc (c / 16) :: hc (c % 16) :: hexL l := by simp [hexL]
    have n1 := nib_hc ⟨c / 16, by omega⟩
    have n2 := nib_hc ⟨c % 16, by omega⟩
    simp only at n1 n2
    rw [e, unhexL, n1, n2, if_neg (by omega), unhex_hex l (fun x hx => h x (by simp [hx]))]
    simp
    omega

theorem hex_unhex : ∀ (s : List UInt8) (l : List Nat), unhexL s = some l → hexL l = s ∧ (∀ x ∈ l, x < 256) ∧ s.length = 2 * l.length
  | [], l, h => by simp [unhexL] at h; subst h; simp [hexL]
  | [_], l, h => by simp [unhexL] at h
  | a :: b :: r, l, h => by
    rw [unhexL] at h
    split at h
    · cases h
    · rename_i hn
      cases hr : unhexL r with
      | none => rw [hr] at h; cases h
      | some t =>
        rw [hr] at h
        simp only [Option.map_some, Option.some.injEq] at h
        subst h
        obtain ⟨h1, h2, h3⟩ := hex_unhex r t hr
        have ra := nib_range a
        have rb := nib_range b
        have ha : 0 ≤ nib a := by omega
        have hb : 0 ≤ nib b := by omega
        have d1 : (16 * (nib a).toNat + (nib b).toNat) / 16 = (nib a).toNat := by omega
        have d2 : (16 * (nib a).toNat + (nib b).toNat) % 16 = (nib b).toNat := by omega
        refine ⟨?_, ?_, by simp [h3]; omega⟩
        · have e : hexL ((16 * (nib a).toNat + (nib b).toNat) :: t) = hc ((16 * (nib a).toNat + (nib b).toNat) / 16) :: hc ((16 * (nib a).toNat + (nib b).toNat) % 16) :: hexL t := by simp [hexL]
          rw [e, d1, d2, hc_nib a ha, hc_nib b hb, h1]
        · intro x hx
          simp only [List.mem_cons] at hx
          rcases hx with rfl | hx
          · omega
          · exact h2 x hx
end Asc
