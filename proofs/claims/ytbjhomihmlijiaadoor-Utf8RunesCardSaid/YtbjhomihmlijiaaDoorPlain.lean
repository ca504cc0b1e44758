/- Plain mathematics of layer 3: the program's scan of one encoding agrees with the reference's. No program is named here. -/
namespace U8

/-- how many bytes an encoding has that begins with this byte -/
def len (c : Nat) : Nat := if 248 ≤ c then 0 else if 240 ≤ c then 4 else if 224 ≤ c then 3 else if 192 ≤ c then 2 else if c < 128 then 1 else 0

def bnd (n : Nat) : Nat := if n = 0 then 0 else if n = 1 then 128 else if n = 2 then 2048 else if n = 3 then 65536 else 1114112

/-- does an encoding of n bytes begin with these bits, where left bytes are missing? -/
def beg (u n left : Nat) : Bool :=
  !(decide (55296 ≤ u * 64 ^ left) && decide (u * 64 ^ left + (64 ^ left - 1) ≤ 57343)) && (decide (bnd (n - 1) ≤ u * 64 ^ left + (64 ^ left - 1)) && decide (u * 64 ^ left < bnd n))

def cont (c : Nat) : Bool := decide (128 ≤ c) && decide (c < 192)

/-- the loop over the further bytes: g rounds are left at most -/
def more (l : List Nat) (n : Nat) : Nat → Nat → Nat → Nat × Nat × Nat
  | 0, _, u => (u, n, 0)
  | g + 1, k, u =>
    if k = l.length then (0, k, 23)
    else if (!cont (l.getD k 0)) || !beg (u * 64 + l.getD k 0 % 64) n (n - 1 - k) then (0, k, 3)
    else more l n g (k + 1) (u * 64 + l.getD k 0 % 64)

/-- what next answers: the code point, the size, the error -/
def next (l : List Nat) : Nat × Nat × Nat :=
  let c := l.getD 0 0
  let n := len c
  if n = 1 then (c, 1, 0)
  else
    let u := c % 2 ^ (7 - n)
    if n = 0 || !beg u n (n - 1) then (0, 0, 6)
    else more l n (n - 1) 1 u

/-- the reference's beginning -/
def leadV (c : Nat) : Nat := if c < 128 then c else if 192 ≤ c ∧ c < 224 then c - 192 else if 224 ≤ c ∧ c < 240 then c - 224 else if 240 ≤ c ∧ c < 248 then c - 240 else 0
def leadN (c : Nat) : Nat := if c < 128 then 1 else if 192 ≤ c ∧ c < 224 then 2 else if 224 ≤ c ∧ c < 240 then 3 else if 240 ≤ c ∧ c < 248 then 4 else 0
def least (n : Nat) : Nat := if n = 2 then 128 else if n = 3 then 2048 else if n = 4 then 65536 else 0
def most (n : Nat) : Nat := if n = 1 then 127 else if n = 2 then 2047 else if n = 3 then 65535 else if n = 4 then 1114111 else 0

def refVal : List Nat → Nat → Nat
  | [], v => v
  | c :: l, v => refVal l (64 * v + c - 128)

def range (v n m : Nat) : Bool :=
  let low := max (v * 64 ^ (n - m)) (least n)
  let high := min (v * 64 ^ (n - m) + (64 ^ (n - m) - 1)) (most n)
  !((decide (55296 ≤ low) && decide (high ≤ 57343)) || decide (high < low))

def begins (l : List Nat) : Bool × Nat × Nat :=
  match l with
  | [] => (false, 0, 0)
  | c :: r =>
    if leadN c = 0 ∨ leadN c < (c :: r).length then (false, 0, 0)
    else if r.all cont then
      (if range (refVal r (leadV c)) (leadN c) (c :: r).length then (true, leadN c, refVal r (leadV c)) else (false, 0, 0))
    else (false, 0, 0)

def first (l : List Nat) : Nat × Nat × Nat :=
  let b := begins (l.take 1)
  if !b.1 then (0, 0, 6)
  else if b.2.1 ≤ l.length then
    (let d := begins (l.take b.2.1)
     if d.1 then (d.2.2, b.2.1, 0) else (0, 0, 3))
  else if (begins l).1 then (0, 0, 23) else (0, 0, 3)

theorem len_lead (c : Nat) (h : c < 256) : len c = leadN c ∧ (len c ≠ 0 → leadV c = if len c = 1 then c else c % 2 ^ (7 - len c)) := by
  unfold len leadN leadV
  by_cases h1 : 248 ≤ c
  · simp [h1, show ¬ c < 128 by omega, show ¬ (192 ≤ c ∧ c < 224) by omega, show ¬ (224 ≤ c ∧ c < 240) by omega, show ¬ (240 ≤ c ∧ c < 248) by omega]
  · by_cases h2 : 240 ≤ c
    · simp [h1, h2, show ¬ c < 128 by omega, show ¬ (192 ≤ c ∧ c < 224) by omega, show ¬ (224 ≤ c ∧ c < 240) by omega, show c < 248 by omega]; omega
    · by_cases h3 : 224 ≤ c
      · simp [h1, h2, h3, show ¬ c < 128 by omega, show ¬ (192 ≤ c ∧ c < 224) by omega, show c < 240 by omega]; omega
      · by_cases h4 : 192 ≤ c
        · simp [h1, h2, h3, h4, show ¬ c < 128 by omega, show c < 224 by omega]; omega
        · by_cases h5 : c < 128
          · simp [h1, h2, h3, h4, h5]
          · simp [h1, h2, h3, h4, h5]

theorem len_cases (c : Nat) : len c = 0 ∨ len c = 1 ∨ len c = 2 ∨ len c = 3 ∨ len c = 4 := by
  unfold len
  repeat' split
  all_goals simp

/-- the range that the reference asks is the range that the program asks -/
theorem range_beg (v n m : Nat) (hn : n = 2 ∨ n = 3 ∨ n = 4) (_hm : 1 ≤ m) (_hmn : m ≤ n) : range v n m = beg v n (n - m) := by
  have key : ∀ f l a b : Nat, f ≤ l → a ≤ b → ((a = 128 ∧ b = 2047) ∨ (a = 2048 ∧ b = 65535) ∨ (a = 65536 ∧ b = 1114111)) →
      (!((decide (55296 ≤ max f a) && decide (min l b ≤ 57343)) || decide (min l b < max f a))) = (!(decide (55296 ≤ f) && decide (l ≤ 57343)) && (decide (a ≤ l) && decide (f < b + 1))) := by
    intro f l a b hfl hab hc
    rw [Bool.eq_iff_iff]
    simp only [Bool.or_eq_false_iff, Bool.and_eq_false_imp, decide_eq_true_eq, decide_eq_false_iff_not, Bool.and_eq_true, Bool.not_eq_eq_eq_not, Bool.not_true]
    omega
  have hp : 0 < 64 ^ (n - m) := Nat.pow_pos (by omega)
  unfold range beg
  rcases hn with rfl | rfl | rfl
  · exact key _ _ 128 2047 (by omega) (by omega) (by simp)
  · exact key _ _ 2048 65535 (by omega) (by omega) (by simp)
  · exact key _ _ 65536 1114111 (by omega) (by omega) (by simp)

/-- what fails early fails later -/
theorem beg_mono (u x n left : Nat) (hx : x < 64) (h : beg (u * 64 + x) n left = true) : beg u n (left + 1) = true := by
  have hp : 0 < 64 ^ left := Nat.pow_pos (by omega)
  have e : 64 ^ (left + 1) = 64 * 64 ^ left := by rw [Nat.pow_succ, Nat.mul_comm]
  unfold beg at h ⊢
  rw [e]
  generalize 64 ^ left = q at *
  have e1 : (u * 64 + x) * q = u * (64 * q) + x * q := by rw [Nat.add_mul, Nat.mul_assoc]
  rw [e1] at h
  have hxq : x * q + q ≤ 64 * q := by
    have : (x + 1) * q ≤ 64 * q := Nat.mul_le_mul_right _ (by omega)
    rw [Nat.add_mul] at this
    omega
  generalize u * (64 * q) = f at *
  generalize x * q = y at *
  generalize 64 * q = z at *
  simp only [Bool.and_eq_true, Bool.not_eq_true', Bool.and_eq_false_imp, decide_eq_true_eq, decide_eq_false_iff_not] at h ⊢
  omega

theorem cont_val (c v : Nat) (h : cont c = true) : 64 * v + c - 128 = v * 64 + c % 64 ∧ c % 64 < 64 := by
  unfold cont at h
  simp at h
  omega

theorem more_two (l : List Nat) (n u : Nat) (hn : n = 2) : more l n 1 1 u =
    if 1 = l.length then (0, 1, 23) else if (!cont (l.getD 1 0)) || !beg (u * 64 + l.getD 1 0 % 64) 2 0 then (0, 1, 3) else (u * 64 + l.getD 1 0 % 64, 2, 0) := by
  subst hn
  simp only [more]

/-- THE PROGRAM's ANSWER IS THE REFERENCE's: the same error, and without one the same code point and size -/
theorem next_first (l : List Nat) (hl : l ≠ []) (hb : ∀ x ∈ l, x < 256) : (first l).2.2 = (next l).2.2 ∧ ((next l).2.2 = 0 → first l = next l) ∧ ((next l).2.2 ≠ 0 → (first l).1 = 0 ∧ (first l).2.1 = 0) := by
  match l, hl with
  | c :: r, _ =>
    have hc : c < 256 := hb c (by simp)
    obtain ⟨e1, e2⟩ := len_lead c hc
    rcases len_cases c with h | h | h | h | h
    · rw [h] at e1
      simp [first, next, begins, h, ← e1]
    · rw [h] at e1
      have hv := e2 (by omega)
      rw [h] at hv
      have hc2 : c < 128 := by
        unfold len at h
        repeat' split at h
        all_goals omega
      have hr : range c 1 1 = true := by
        simp [range, least, most]
        omega
      simp at hv
      simp [first, next, begins, h, ← e1, refVal, hv, hr]
    · rw [h] at e1
      have hv := e2 (by omega)
      rw [h] at hv
      simp at hv
      have rb := range_beg (c % 32) 2 1 (by omega) (by omega) (by omega)
      match r with
      | [] =>
        cases hq : beg (c % 32) 2 1 <;> simp [first, next, begins, h, ← e1, refVal, hv, more, rb, hq]
      | d :: r =>
        cases hd : cont d
        · cases hq : beg (c % 32) 2 1 <;> simp [first, next, begins, h, ← e1, refVal, hv, more, rb, hq, hd]
        · obtain ⟨d1, d2⟩ := cont_val d (c % 32) hd
          have rb2 := range_beg (c % 32 * 64 + d % 64) 2 2 (by omega) (by omega) (by omega)
          have mono := beg_mono (c % 32) (d % 64) 2 0 d2
          cases hq : beg (c % 32) 2 1 <;> cases hq2 : beg (c % 32 * 64 + d % 64) 2 0 <;> simp [first, next, begins, h, ← e1, refVal, hv, more, rb, rb2, hq, hq2, hd, d1] at mono ⊢
          all_goals simp_all
    · rw [h] at e1
      have hv := e2 (by omega)
      rw [h] at hv
      simp at hv
      have rb := range_beg (c % 16) 3 1 (by omega) (by omega) (by omega)
      match r with
      | [] =>
        cases hq : beg (c % 16) 3 2 <;> simp [first, next, begins, h, ← e1, refVal, hv, more, rb, hq]
      | d :: r =>
        cases hd : cont d
        · match r with
          | [] => cases hq : beg (c % 16) 3 2 <;> simp [first, next, begins, h, ← e1, refVal, hv, more, rb, hq, hd]
          | e :: r => cases hq : beg (c % 16) 3 2 <;> simp [first, next, begins, h, ← e1, refVal, hv, more, rb, hq, hd]
        · obtain ⟨d1, d2⟩ := cont_val d (c % 16) hd
          have rb2 := range_beg (c % 16 * 64 + d % 64) 3 2 (by omega) (by omega) (by omega)
          have mono := beg_mono (c % 16) (d % 64) 3 1 d2
          match r with
          | [] =>
            cases hq : beg (c % 16) 3 2 <;> cases hq2 : beg (c % 16 * 64 + d % 64) 3 1 <;> simp [first, next, begins, h, ← e1, refVal, hv, more, rb, rb2, hq, hq2, hd, d1] at mono ⊢
            all_goals simp_all
          | e :: r =>
            cases he : cont e
            · cases hq : beg (c % 16) 3 2 <;> cases hq2 : beg (c % 16 * 64 + d % 64) 3 1 <;> simp [first, next, begins, h, ← e1, refVal, hv, more, rb, hq, hq2, hd, he] at mono ⊢
              all_goals simp_all
            · obtain ⟨f1, f2⟩ := cont_val e (c % 16 * 64 + d % 64) he
              have rb3 := range_beg ((c % 16 * 64 + d % 64) * 64 + e % 64) 3 3 (by omega) (by omega) (by omega)
              have mono2 := beg_mono (c % 16 * 64 + d % 64) (e % 64) 3 0 f2
              cases hq : beg (c % 16) 3 2 <;> cases hq2 : beg (c % 16 * 64 + d % 64) 3 1 <;> cases hq3 : beg ((c % 16 * 64 + d % 64) * 64 + e % 64) 3 0 <;> simp [first, next, begins, h, ← e1, refVal, hv, more, rb, rb3, hq, hq2, hq3, hd, he, d1, f1] at mono mono2 ⊢
              all_goals simp_all
    · rw [h] at e1
      have hv := e2 (by omega)
      rw [h] at hv
      simp at hv
      have rb := range_beg (c % 8) 4 1 (by omega) (by omega) (by omega)
      match r with
      | [] =>
        cases hq : beg (c % 8) 4 3 <;> simp [first, next, begins, h, ← e1, refVal, hv, more, rb, hq]
      | d :: r =>
        cases hd : cont d
        · match r with
          | [] => cases hq : beg (c % 8) 4 3 <;> simp [first, next, begins, h, ← e1, refVal, hv, more, rb, hq, hd]
          | [e] => cases hq : beg (c % 8) 4 3 <;> simp [first, next, begins, h, ← e1, refVal, hv, more, rb, hq, hd]
          | e :: f :: r => cases hq : beg (c % 8) 4 3 <;> simp [first, next, begins, h, ← e1, refVal, hv, more, rb, hq, hd]
        · obtain ⟨d1, d2⟩ := cont_val d (c % 8) hd
          have rb2 := range_beg (c % 8 * 64 + d % 64) 4 2 (by omega) (by omega) (by omega)
          have mono := beg_mono (c % 8) (d % 64) 4 2 d2
          match r with
          | [] =>
            cases hq : beg (c % 8) 4 3 <;> cases hq2 : beg (c % 8 * 64 + d % 64) 4 2 <;> simp [first, next, begins, h, ← e1, refVal, hv, more, rb, rb2, hq, hq2, hd, d1] at mono ⊢
            all_goals simp_all
          | e :: r =>
            cases he : cont e
            · match r with
              | [] =>
                cases hq : beg (c % 8) 4 3 <;> cases hq2 : beg (c % 8 * 64 + d % 64) 4 2 <;> simp [first, next, begins, h, ← e1, refVal, hv, more, rb, hq, hq2, hd, he] at mono ⊢
                all_goals simp_all
              | f :: r =>
                cases hq : beg (c % 8) 4 3 <;> cases hq2 : beg (c % 8 * 64 + d % 64) 4 2 <;> simp [first, next, begins, h, ← e1, refVal, hv, more, rb, hq, hq2, hd, he] at mono ⊢
                all_goals simp_all
            · obtain ⟨f1, f2⟩ := cont_val e (c % 8 * 64 + d % 64) he
              have rb3 := range_beg ((c % 8 * 64 + d % 64) * 64 + e % 64) 4 3 (by omega) (by omega) (by omega)
              have mono2 := beg_mono (c % 8 * 64 + d % 64) (e % 64) 4 1 f2
              match r with
              | [] =>
                cases hq : beg (c % 8) 4 3 <;> cases hq2 : beg (c % 8 * 64 + d % 64) 4 2 <;> cases hq3 : beg ((c % 8 * 64 + d % 64) * 64 + e % 64) 4 1 <;> simp [first, next, begins, h, ← e1, refVal, hv, more, rb, rb3, hq, hq2, hq3, hd, he, d1, f1] at mono mono2 ⊢
                all_goals simp_all
              | f :: r =>
                cases hf : cont f
                · cases hq : beg (c % 8) 4 3 <;> cases hq2 : beg (c % 8 * 64 + d % 64) 4 2 <;> cases hq3 : beg ((c % 8 * 64 + d % 64) * 64 + e % 64) 4 1 <;> simp [first, next, begins, h, ← e1, refVal, hv, more, rb, hq, hq2, hq3, hd, he, hf] at mono mono2 ⊢
                  all_goals simp_all
                · obtain ⟨g1, g2⟩ := cont_val f ((c % 8 * 64 + d % 64) * 64 + e % 64) hf
                  have rb4 := range_beg (((c % 8 * 64 + d % 64) * 64 + e % 64) * 64 + f % 64) 4 4 (by omega) (by omega) (by omega)
                  have mono3 := beg_mono ((c % 8 * 64 + d % 64) * 64 + e % 64) (f % 64) 4 0 g2
                  cases hq : beg (c % 8) 4 3 <;> cases hq2 : beg (c % 8 * 64 + d % 64) 4 2 <;> cases hq3 : beg ((c % 8 * 64 + d % 64) * 64 + e % 64) 4 1 <;> cases hq4 : beg (((c % 8 * 64 + d % 64) * 64 + e % 64) * 64 + f % 64) 4 0 <;>
                    simp [first, next, begins, h, ← e1, refVal, hv, more, rb, rb4, hq, hq2, hq3, hq4, hd, he, hf, d1, f1, g1] at mono mono2 mono3 ⊢
                  all_goals simp_all

end U8
