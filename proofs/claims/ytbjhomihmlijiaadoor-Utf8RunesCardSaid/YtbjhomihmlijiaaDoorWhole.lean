/- Plain mathematics of layer 3: a text without error is a row of encodings; what the scans and Repair make of such a row; the order of bytes is that of code points. -/
import Derived.Test.YtbjhomihmlijiaaDoorBackPlain
import Derived.Test.YtbjhomihmlijiaaDoorDecPlain
import Derived.Test.YtbjhomihmlijiaaDoorRepair
import Derived.Test.YtbjhomihmlijiaaDoorAll
namespace U8
/-- encodings, one behind the other -/
def encs (rs : List Nat) : List Nat := rs.flatMap enc
/-- where they begin -/
def offsOf : Nat → List Nat → List Nat
  | _, [] => []
  | p, r :: rs => p :: offsOf (p + esize r) rs

theorem encs_cons (r : Nat) (rs : List Nat) : encs (r :: rs) = enc r ++ encs rs := by simp [encs]
theorem encs_append (rs ss : List Nat) : encs (rs ++ ss) = encs rs ++ encs ss := by simp [encs]
theorem esize_pos (r : Nat) : 1 ≤ esize r ∧ esize r ≤ 4 := by rcases esize_cases r with h | h | h | h <;> omega

theorem encs_lt (rs : List Nat) (h : ∀ r ∈ rs, ok r) : ∀ x ∈ encs rs, x < 256 := by
  intro x hx
  simp only [encs, List.mem_flatMap] at hx
  obtain ⟨r, hr, hx⟩ := hx
  exact enc_lt r (h r hr) x hx

theorem enc_ne (r : Nat) (m : List Nat) : enc r ++ m ≠ [] := by
  intro h
  have := congrArg List.length h
  rw [List.length_append, enc_len] at this
  have := esize_pos r
  simp at *
  omega

theorem first_back (r : Nat) (h : ok r) (m : List Nat) (hm : ∀ x ∈ m, x < 256) : first (enc r ++ m) = (r, esize r, 0) := by
  have hn := next_back r h m
  have := (next_first (enc r ++ m) (enc_ne r m) (by intro x hx; rcases List.mem_append.1 hx with hx | hx; exact enc_lt r h x hx; exact hm x hx)).2.1
  rw [hn] at this
  exact this rfl

theorem drop_more (l : List Nat) (p r : Nat) (m : List Nat) (h : l.drop p = enc r ++ m) : l.drop (p + esize r) = m ∧ p < l.length := by
  constructor
  · rw [← List.drop_drop, h, ← enc_len r, List.drop_left]
  · have := congrArg List.length h
    rw [List.length_drop, List.length_append, enc_len] at this
    have := esize_pos r
    omega

/-- the scan of encodings -/
theorem all_encs : ∀ (rs l : List Nat) (f p : Nat), (∀ r ∈ rs, ok r) → l.drop p = encs rs → l.length - p ≤ f → allF l f p = (rs, offsOf p rs, 0, 0)
  | [], l, f, p, _, hd, _ => by
    have : l.length ≤ p := by
      have := congrArg List.length hd
      simp [encs] at this
      omega
    cases f with
    | zero => rfl
    | succ f => rw [allF, if_neg (by omega)]; rfl
  | r :: rs, l, f, p, hr, hd, hf => by
    rw [encs_cons] at hd
    obtain ⟨h1, h2⟩ := drop_more l p r _ hd
    obtain ⟨f', rfl⟩ : ∃ f', f = f' + 1 := ⟨f - 1, by omega⟩
    have hb := first_back r (hr r (by simp)) (encs rs) (encs_lt rs (fun x hx => hr x (by simp [hx])))
    have := esize_pos r
    rw [allF, if_pos h2, hd, hb, if_pos rfl]
    simp only
    rw [all_encs rs l f' (p + esize r) (fun x hx => hr x (by simp [hx])) h1 (by omega)]
    rfl

/-- a text without error is a row of encodings -/
theorem encs_all (l : List Nat) (hb : ∀ x ∈ l, x < 256) : ∀ (f p : Nat), p ≤ l.length → l.length - p ≤ f → (allF l f p).2.2.2 = 0 → (∀ r ∈ (allF l f p).1, ok r) ∧ l.drop p = encs (allF l f p).1
  | 0, p, hp, hf, _ => by
    have : p = l.length := by omega
    subst this
    simp [allF, encs]
  | f + 1, p, hp, hf, he => by
    by_cases h : p < l.length
    · rw [allF, if_pos h] at he ⊢
      by_cases h0 : (first (l.drop p)).2.2 = 0
      · rw [if_pos h0] at he ⊢
        simp only at he ⊢
        obtain ⟨⟨r, z, e⟩, hx⟩ : ∃ x, first (l.drop p) = x := ⟨_, rfl⟩
        rw [hx] at he h0 ⊢
        simp only at he h0 ⊢
        subst h0
        obtain ⟨s1, s2, s3⟩ := first_size (l.drop p) (by rw [List.length_drop]; omega) (fun x hx => hb x (List.mem_of_mem_drop hx)) r z hx
        rw [List.length_drop] at s2
        obtain ⟨o1, o2⟩ := next_enc (l.drop p) (by intro e; have := congrArg List.length e; rw [List.length_drop] at this; simp at this; omega) r z s3
        obtain ⟨i1, i2⟩ := encs_all l hb f (p + z) (by omega) (by omega) he
        constructor
        · intro x hx
          rcases List.mem_cons.1 hx with hx | hx
          · rw [hx]; exact o1
          · exact i1 x hx
        · rw [encs_cons, o2, ← i2, ← List.drop_drop, List.take_append_drop]
      · rw [if_neg h0] at he
        exact absurd he h0
    · rw [allF, if_neg h] at he ⊢
      have : p = l.length := by omega
      subst this
      simp [encs]

theorem valid_encs (l : List Nat) (hb : ∀ x ∈ l, x < 256) (h : (check l l.length 0).2 = 0) : ∃ rs, (∀ r ∈ rs, ok r) ∧ l = encs rs := by
  rw [← all_check l hb] at h
  have := encs_all l hb l.length 0 (Nat.zero_le _) (by omega) h
  exact ⟨_, this.1, this.2⟩

theorem check_encs (rs : List Nat) (h : ∀ r ∈ rs, ok r) : check (encs rs) (encs rs).length 0 = (0, 0) := by
  rw [← all_check _ (encs_lt rs h), all_encs rs (encs rs) _ 0 h rfl (by omega)]

/-- what repairing makes is a row of encodings -/
theorem rep_form (l : List Nat) : ∀ f p, ∃ rs, (∀ r ∈ rs, ok r) ∧ rep l f p = encs rs
  | 0, p => ⟨[], by simp, rfl⟩
  | f + 1, p => by
    rw [rep]
    by_cases h : p < l.length
    · rw [if_pos h]
      obtain ⟨⟨r, z, e⟩, hx⟩ : ∃ x, next (l.drop p) = x := ⟨_, rfl⟩
      obtain ⟨rs, h1, h2⟩ := rep_form l f (p + max (next (l.drop p)).2.1 1)
      rw [h2, hx]
      by_cases h0 : e = 0
      · subst h0
        obtain ⟨o1, o2⟩ := next_enc (l.drop p) (by intro e; have := congrArg List.length e; rw [List.length_drop] at this; simp at this; omega) r z hx
        refine ⟨r :: rs, ?_, ?_⟩
        · intro x hx
          rcases List.mem_cons.1 hx with hx | hx
          · rw [hx]; exact o1
          · exact h1 x hx
        · rw [encs_cons, o2]; rfl
      · refine ⟨65533 :: rs, ?_, ?_⟩
        · intro x hx
          rcases List.mem_cons.1 hx with hx | hx
          · rw [hx]; unfold ok; omega
          · exact h1 x hx
        · rw [encs_cons]
          simp only
          rw [if_neg h0, show enc 65533 = [239, 191, 189] by decide]
    · rw [if_neg h]; exact ⟨[], by simp, rfl⟩

/-- encodings stay as they are -/
theorem rep_encs : ∀ (rs l : List Nat) (f p : Nat), (∀ r ∈ rs, ok r) → l.drop p = encs rs → l.length - p ≤ f → rep l f p = encs rs
  | [], l, f, p, _, hd, _ => by
    have : l.length ≤ p := by
      have := congrArg List.length hd
      simp [encs] at this
      omega
    cases f with
    | zero => rfl
    | succ f => rw [rep, if_neg (by omega)]; rfl
  | r :: rs, l, f, p, hr, hd, hf => by
    rw [encs_cons] at hd
    obtain ⟨h1, h2⟩ := drop_more l p r _ hd
    obtain ⟨f', rfl⟩ : ∃ f', f = f' + 1 := ⟨f - 1, by omega⟩
    have hb := next_back r (hr r (by simp)) (encs rs)
    have hp := esize_pos r
    rw [rep, if_pos h2, hd, hb]
    simp only
    rw [if_pos trivial, show max (esize r) 1 = esize r by omega, rep_encs rs l f' (p + esize r) (fun x hx => hr x (by simp [hx])) h1 (by omega), ← enc_len r, List.take_left, encs_cons]

theorem rep_len (l : List Nat) : ∀ f p, p ≤ l.length → (rep l f p).length ≤ 3 * (l.length - p)
  | 0, p, _ => by simp [rep]
  | f + 1, p, hp => by
    rw [rep]
    by_cases h : p < l.length
    · rw [if_pos h, List.length_append]
      obtain ⟨⟨r, z, e⟩, hx⟩ : ∃ x, next (l.drop p) = x := ⟨_, rfl⟩
      have hz := next_le (l.drop p) (by rw [List.length_drop]; omega)
      rw [List.length_drop] at hz
      rw [hx] at hz ⊢
      simp only at hz ⊢
      have := rep_len l f (p + max z 1) (by omega)
      have h2 : (if e = 0 then List.take z (List.drop p l) else [239, 191, 189]).length ≤ 3 * max z 1 := by
        split
        · rw [List.length_take]; omega
        · simp; omega
      omega
    · rw [if_neg h]; simp

/-- how far the reference goes on where it refuses -/
def skip2 (l : List Nat) : Nat := if 2 ≤ l.length ∧ (begins (l.take 2)).1 = true ∧ 2 < (begins (l.take 2)).2.1 then 2 else 1
def skip3 (l : List Nat) : Nat := if 3 ≤ l.length ∧ (begins (l.take 3)).1 = true ∧ 3 < (begins (l.take 3)).2.1 ∧ skip2 l = 2 then 3 else skip2 l
def skip (l : List Nat) : Nat := if (begins (l.take 1)).1 = true then skip3 l else 1

/-- what the reference's loop holds at its round j -/
def nk (l : List Nat) (j : Nat) : Nat := if j = 2 then 1 else if j = 3 then skip2 l else skip3 l
theorem nk_yes (l : List Nat) (j : Nat) (hj : j = 2 ∨ j = 3) (hl : j ≤ l.length) (b : Bool) (n v : Nat) (hb : begins (l.take j) = (b, n, v)) (h1 : b = true) (h2 : j < n) (h3 : nk l j = j - 1) : nk l (j + 1) = j := by
  rcases hj with rfl | rfl
  · simp [nk, skip2, hb, h1, h2, hl]
  · have : skip2 l = 2 := by simpa [nk] using h3
    simp [nk, skip3, hb, h1, h2, hl, this]
theorem nk_no (l : List Nat) (j : Nat) (hj : j = 2 ∨ j = 3) (b : Bool) (n v : Nat) (hb : begins (l.take j) = (b, n, v)) (h : ¬(b = true ∧ j < n ∧ nk l j = j - 1)) : nk l (j + 1) = nk l j := by
  rcases hj with rfl | rfl
  · have h' : ¬(b = true ∧ 2 < n) := fun x => h ⟨x.1, x.2, by simp [nk]⟩
    have : ¬(2 ≤ l.length ∧ b = true ∧ 2 < n) := fun x => h' x.2
    simp only [nk, skip2, hb]
    rw [if_neg this]
    simp
  · have : ¬(3 ≤ l.length ∧ b = true ∧ 3 < n ∧ skip2 l = 2) := fun x => h ⟨x.2.1, x.2.2.1, by simpa [nk] using x.2.2.2⟩
    simp only [nk, skip3, hb]
    rw [if_neg this]
    simp
theorem nk_out (l : List Nat) (j : Nat) (hj : j = 2 ∨ j = 3 ∨ j = 4) (h : ¬(j ≤ 3 ∧ j ≤ l.length)) : nk l j = skip3 l := by
  rcases hj with rfl | rfl | rfl
  · have h1 : ¬ 2 ≤ l.length := fun x => h ⟨by omega, x⟩
    simp [nk, skip3, skip2, h1]
  · have h1 : ¬ 3 ≤ l.length := fun x => h ⟨by omega, x⟩
    simp [nk, skip3, h1]
  · simp [nk]
theorem nk_le (l : List Nat) (j : Nat) : 1 ≤ nk l j ∧ nk l j ≤ 3 := by
  unfold nk skip3 skip2
  repeat' split
  all_goals omega

theorem cont_not (c : Nat) (h : cont c = true) : 128 ≤ c := by
  unfold cont at h
  simp at h
  exact h.1

theorem next_skip (l : List Nat) (hl : l ≠ []) (hb : ∀ x ∈ l, x < 256) (hee : (next l).2.2 ≠ 0) : skip l = max (next l).2.1 1 := by
  match l, hl with
  | c :: r, _ =>
    have hc : c < 256 := hb c (by simp)
    obtain ⟨e1, e2⟩ := len_lead c hc
    rcases len_cases c with h | h | h | h | h
    · rw [h] at e1
      simp [skip, next, begins, h, ← e1]
    · rw [h] at e1
      simp [next, h] at hee
    · rw [h] at e1
      have hv := e2 (by omega)
      rw [h] at hv
      simp at hv
      have rb := range_beg (c % 32) 2 1 (by omega) (by omega) (by omega)
      match r with
      | [] =>
        cases hq : beg (c % 32) 2 1 <;> simp [skip, skip3, skip2, next, begins, h, ← e1, refVal, hv, more, rb, hq]
      | [d] =>
        cases hq : beg (c % 32) 2 1 <;> cases hd : cont d <;> cases hq2 : beg (c % 32 * 64 + d % 64) 2 0 <;> cases hq3 : range (64 * (c % 32) + d - 128) 2 2 <;> simp [skip, skip3, skip2, next, begins, h, ← e1, refVal, hv, more, rb, hq, hd, hq2, hq3]
        all_goals (first | (exfalso; revert hee; simp [next, h, more, hq, hd, hq2]; done) | (simp_all; done) | skip)
      | d :: e :: r =>
        cases hq : beg (c % 32) 2 1 <;> cases hd : cont d <;> cases hq2 : beg (c % 32 * 64 + d % 64) 2 0 <;> cases hq3 : range (64 * (c % 32) + d - 128) 2 2 <;> simp [skip, skip3, skip2, next, begins, h, ← e1, refVal, hv, more, rb, hq, hd, hq2, hq3]
        all_goals (first | (exfalso; revert hee; simp [next, h, more, hq, hd, hq2]; done) | (simp_all; done) | skip)
    · rw [h] at e1
      have hv := e2 (by omega)
      rw [h] at hv
      simp at hv
      have rb := range_beg (c % 16) 3 1 (by omega) (by omega) (by omega)
      match r with
      | [] =>
        cases hq : beg (c % 16) 3 2 <;> simp [skip, skip3, skip2, next, begins, h, ← e1, refVal, hv, more, rb, hq]
      | d :: r =>
        cases hd : cont d
        · match r with
          | [] => cases hq : beg (c % 16) 3 2 <;> simp [skip, skip3, skip2, next, begins, h, ← e1, refVal, hv, more, rb, hq, hd]
          | e :: r => cases hq : beg (c % 16) 3 2 <;> simp [skip, skip3, skip2, next, begins, h, ← e1, refVal, hv, more, rb, hq, hd]
        · obtain ⟨d1, d2⟩ := cont_val d (c % 16) hd
          have rb2 := range_beg (c % 16 * 64 + d % 64) 3 2 (by omega) (by omega) (by omega)
          have mono := beg_mono (c % 16) (d % 64) 3 1 d2
          match r with
          | [] =>
            cases hq : beg (c % 16) 3 2 <;> cases hq2 : beg (c % 16 * 64 + d % 64) 3 1 <;> simp [skip, skip3, skip2, next, begins, h, ← e1, refVal, hv, more, rb, rb2, hq, hq2, hd, d1] at mono ⊢
            all_goals (first | (exfalso; revert hee; simp [next, h, more, hq, hq2, hd]; done) | (simp_all; done) | skip)
          | e :: r =>
            cases he : cont e
            · cases hq : beg (c % 16) 3 2 <;> cases hq2 : beg (c % 16 * 64 + d % 64) 3 1 <;> simp [skip, skip3, skip2, next, begins, h, ← e1, refVal, hv, more, rb, rb2, hq, hq2, hd, he, d1] at mono ⊢
              all_goals (first | (exfalso; revert hee; simp [next, h, more, hq, hq2, hd, he]; done) | (simp_all; done) | skip)
            · obtain ⟨f1, f2⟩ := cont_val e (c % 16 * 64 + d % 64) he
              have rb3 := range_beg ((c % 16 * 64 + d % 64) * 64 + e % 64) 3 3 (by omega) (by omega) (by omega)
              have mono2 := beg_mono (c % 16 * 64 + d % 64) (e % 64) 3 0 f2
              cases hq : beg (c % 16) 3 2 <;> cases hq2 : beg (c % 16 * 64 + d % 64) 3 1 <;> cases hq3 : beg ((c % 16 * 64 + d % 64) * 64 + e % 64) 3 0 <;> simp [skip, skip3, skip2, next, begins, h, ← e1, refVal, hv, more, rb, rb2, rb3, hq, hq2, hq3, hd, he, d1, f1] at mono mono2 ⊢
              all_goals (first | (exfalso; revert hee; simp [next, h, more, hq, hq2, hq3, hd, he]; done) | (simp_all; done) | skip)
    · rw [h] at e1
      have hv := e2 (by omega)
      rw [h] at hv
      simp at hv
      have rb := range_beg (c % 8) 4 1 (by omega) (by omega) (by omega)
      match r with
      | [] =>
        cases hq : beg (c % 8) 4 3 <;> simp [skip, skip3, skip2, next, begins, h, ← e1, refVal, hv, more, rb, hq]
      | d :: r =>
        cases hd : cont d
        · match r with
          | [] => cases hq : beg (c % 8) 4 3 <;> simp [skip, skip3, skip2, next, begins, h, ← e1, refVal, hv, more, rb, hq, hd]
          | e :: r => cases hq : beg (c % 8) 4 3 <;> simp [skip, skip3, skip2, next, begins, h, ← e1, refVal, hv, more, rb, hq, hd]
        · obtain ⟨d1, d2⟩ := cont_val d (c % 8) hd
          have rb2 := range_beg (c % 8 * 64 + d % 64) 4 2 (by omega) (by omega) (by omega)
          have mono := beg_mono (c % 8) (d % 64) 4 2 d2
          match r with
          | [] =>
            cases hq : beg (c % 8) 4 3 <;> cases hq2 : beg (c % 8 * 64 + d % 64) 4 2 <;> simp [skip, skip3, skip2, next, begins, h, ← e1, refVal, hv, more, rb, rb2, hq, hq2, hd, d1] at mono ⊢
            all_goals (first | (exfalso; revert hee; simp [next, h, more, hq, hq2, hd]; done) | (simp_all; done) | skip)
          | e :: r =>
            cases he : cont e
            · cases hq : beg (c % 8) 4 3 <;> cases hq2 : beg (c % 8 * 64 + d % 64) 4 2 <;> simp [skip, skip3, skip2, next, begins, h, ← e1, refVal, hv, more, rb, rb2, hq, hq2, hd, he, d1] at mono ⊢
              all_goals (first | (exfalso; revert hee; simp [next, h, more, hq, hq2, hd, he]; done) | (simp_all; done) | skip)
            · obtain ⟨f1, f2⟩ := cont_val e (c % 8 * 64 + d % 64) he
              have rb3 := range_beg ((c % 8 * 64 + d % 64) * 64 + e % 64) 4 3 (by omega) (by omega) (by omega)
              have mono2 := beg_mono (c % 8 * 64 + d % 64) (e % 64) 4 1 f2
              match r with
              | [] =>
                cases hq : beg (c % 8) 4 3 <;> cases hq2 : beg (c % 8 * 64 + d % 64) 4 2 <;> cases hq3 : beg ((c % 8 * 64 + d % 64) * 64 + e % 64) 4 1 <;> simp [skip, skip3, skip2, next, begins, h, ← e1, refVal, hv, more, rb, rb2, rb3, hq, hq2, hq3, hd, he, d1, f1] at mono mono2 ⊢
                all_goals (first | (exfalso; revert hee; simp [next, h, more, hq, hq2, hq3, hd, he]; done) | (simp_all; done) | skip)
              | f :: r =>
                cases hf : cont f
                · cases hq : beg (c % 8) 4 3 <;> cases hq2 : beg (c % 8 * 64 + d % 64) 4 2 <;> cases hq3 : beg ((c % 8 * 64 + d % 64) * 64 + e % 64) 4 1 <;> simp [skip, skip3, skip2, next, begins, h, ← e1, refVal, hv, more, rb, rb2, rb3, hq, hq2, hq3, hd, he, hf, d1, f1] at mono mono2 ⊢
                  all_goals (first | (exfalso; revert hee; simp [next, h, more, hq, hq2, hq3, hd, he, hf]; done) | (simp_all; done) | skip)
                · cases hq : beg (c % 8) 4 3 <;> cases hq2 : beg (c % 8 * 64 + d % 64) 4 2 <;> cases hq3 : beg ((c % 8 * 64 + d % 64) * 64 + e % 64) 4 1 <;> cases hq4 : beg (((c % 8 * 64 + d % 64) * 64 + e % 64) * 64 + f % 64) 4 0 <;> simp [skip, skip3, skip2, next, begins, h, ← e1, refVal, hv, more, rb, rb2, rb3, hq, hq2, hq3, hq4, hd, he, hf, d1, f1] at mono mono2 ⊢
                  all_goals (first | (exfalso; revert hee; simp [next, h, more, hq, hq2, hq3, hq4, hd, he, hf]; done) | (simp_all; done) | skip)

/-- one list precedes another, number by number -/
def lessN : List Nat → List Nat → Bool
  | _, [] => false
  | [], _ :: _ => true
  | a :: x, b :: y => decide (a < b) || (decide (a = b) && lessN x y)

theorem lessN_pre (p x y : List Nat) : lessN (p ++ x) (p ++ y) = lessN x y := by
  induction p with
  | nil => rfl
  | cons a p ih => simp [lessN, ih]

theorem lessN_at (p x y : List Nat) (a b : Nat) (h : a < b) : lessN (p ++ a :: x) (p ++ b :: y) = true ∧ lessN (p ++ b :: y) (p ++ a :: x) = false := by
  constructor
  · rw [lessN_pre]; simp [lessN, h]
  · rw [lessN_pre]; simp [lessN]; omega

theorem enc_one (r : Nat) (h : esize r = 1) : enc r = [r] := by simp [enc, h]
theorem enc_two (r : Nat) (h : esize r = 2) : enc r = [192 + r / 64, 128 + r % 64] := by simp [enc, h, conts, mark]
theorem enc_three (r : Nat) (h : esize r = 3) : enc r = [224 + r / 4096, 128 + r / 64 % 64, 128 + r % 64] := by simp [enc, h, conts, mark]
theorem enc_four (r : Nat) (h : esize r = 4) : enc r = [240 + r / 262144, 128 + r / 4096 % 64, 128 + r / 64 % 64, 128 + r % 64] := by simp [enc, h, conts, mark]

/-- a smaller code point has the smaller encoding: at the first byte in which they differ -/
theorem enc_parts (r s : Nat) (hr : ok r) (hs : ok s) (h : r < s) : ∃ p a b t u, enc r = p ++ a :: t ∧ enc s = p ++ b :: u ∧ a < b := by
  have hr1 := hr.1
  have hs1 := hs.1
  rcases esize_cases r with ⟨hn, g⟩ | ⟨hn, g⟩ | ⟨hn, g⟩ | ⟨hn, g⟩ <;> rcases esize_cases s with ⟨hm, g'⟩ | ⟨hm, g'⟩ | ⟨hm, g'⟩ | ⟨hm, g'⟩
  all_goals first | omega | skip
  · rw [enc_one r hn, enc_one s hm]; exact ⟨[], r, s, [], [], rfl, rfl, h⟩
  · rw [enc_one r hn, enc_two s hm]; exact ⟨[], _, _, _, _, rfl, rfl, by omega⟩
  · rw [enc_one r hn, enc_three s hm]; exact ⟨[], _, _, _, _, rfl, rfl, by omega⟩
  · rw [enc_one r hn, enc_four s hm]; exact ⟨[], _, _, _, _, rfl, rfl, by omega⟩
  · rw [enc_two r hn, enc_two s hm]
    by_cases h1 : r / 64 < s / 64
    · exact ⟨[], _, _, _, _, rfl, rfl, by omega⟩
    · have : r / 64 = s / 64 := by omega
      rw [this]
      exact ⟨[_], _, _, _, _, rfl, rfl, by omega⟩
  · rw [enc_two r hn, enc_three s hm]; exact ⟨[], _, _, _, _, rfl, rfl, by omega⟩
  · rw [enc_two r hn, enc_four s hm]; exact ⟨[], _, _, _, _, rfl, rfl, by omega⟩
  · rw [enc_three r hn, enc_three s hm]
    by_cases h1 : r / 4096 < s / 4096
    · exact ⟨[], _, _, _, _, rfl, rfl, by omega⟩
    · have e1 : r / 4096 = s / 4096 := by omega
      rw [e1]
      by_cases h2 : r / 64 % 64 < s / 64 % 64
      · exact ⟨[_], _, _, _, _, rfl, rfl, by omega⟩
      · have e2 : r / 64 % 64 = s / 64 % 64 := by omega
        rw [e2]
        exact ⟨[_, _], _, _, _, _, rfl, rfl, by omega⟩
  · rw [enc_three r hn, enc_four s hm]; exact ⟨[], _, _, _, _, rfl, rfl, by omega⟩
  · rw [enc_four r hn, enc_four s hm]
    by_cases h1 : r / 262144 < s / 262144
    · exact ⟨[], _, _, _, _, rfl, rfl, by omega⟩
    · have e1 : r / 262144 = s / 262144 := by omega
      rw [e1]
      by_cases h2 : r / 4096 % 64 < s / 4096 % 64
      · exact ⟨[_], _, _, _, _, rfl, rfl, by omega⟩
      · have e2 : r / 4096 % 64 = s / 4096 % 64 := by omega
        rw [e2]
        by_cases h3 : r / 64 % 64 < s / 64 % 64
        · exact ⟨[_, _], _, _, _, _, rfl, rfl, by omega⟩
        · have e3 : r / 64 % 64 = s / 64 % 64 := by omega
          rw [e3]
          exact ⟨[_, _, _], _, _, _, _, rfl, rfl, by omega⟩

/-- THE ORDER OF BYTES IS THAT OF CODE POINTS -/
theorem order_encs : ∀ (rs ss : List Nat), (∀ r ∈ rs, ok r) → (∀ r ∈ ss, ok r) → lessN (encs rs) (encs ss) = lessN rs ss
  | _, [], _, _ => by simp [encs, lessN]
  | [], s :: ss, _, _ => by
    rw [encs_cons]
    cases h : enc s ++ encs ss with
    | nil => exact absurd h (enc_ne s _)
    | cons a t => simp [encs, lessN]
  | r :: rs, s :: ss, hr, hs => by
    have ih := order_encs rs ss (fun x hx => hr x (by simp [hx])) (fun x hx => hs x (by simp [hx]))
    rw [encs_cons, encs_cons]
    rcases Nat.lt_trichotomy r s with h | h | h
    · obtain ⟨p, a, b, t, u, e1, e2, hab⟩ := enc_parts r s (hr r (by simp)) (hs s (by simp)) h
      rw [e1, e2, List.append_assoc, List.append_assoc, List.cons_append, List.cons_append, (lessN_at p _ _ a b hab).1]
      simp [lessN, h]
    · subst h
      rw [lessN_pre, ih]
      simp [lessN]
    · obtain ⟨p, a, b, t, u, e1, e2, hab⟩ := enc_parts s r (hs s (by simp)) (hr r (by simp)) h
      rw [e1, e2, List.append_assoc, List.append_assoc, List.cons_append, List.cons_append, (lessN_at p _ _ a b hab).2]
      simp [lessN]
      omega

/-- what the loop of the law finds: the first place in which they differ, or the shorter length -/
theorem lessN_first : ∀ (a b : List Nat) (i : Nat), i ≤ a.length → i ≤ b.length → (∀ j, j < i → a.getD j 0 = b.getD j 0) → (i < a.length → i < b.length → a.getD i 0 ≠ b.getD i 0) →
    lessN a b = if i < a.length ∧ i < b.length then decide (a.getD i 0 < b.getD i 0) else decide (a.length < b.length)
  | a, [], i, _, h, _, _ => by simp at h; subst h; simp [lessN]
  | [], b :: y, i, h, _, _, _ => by simp at h; subst h; simp [lessN]
  | a :: x, b :: y, 0, _, _, _, h => by
    have := h (by simp) (by simp)
    simp at this
    simp [lessN, this]
  | a :: x, b :: y, i + 1, h1, h2, h3, h4 => by
    have h0 := h3 0 (by omega)
    simp at h0
    subst h0
    have := lessN_first x y i (by simpa using h1) (by simpa using h2) (fun j hj => by simpa using h3 (j + 1) (by omega)) (by simpa using h4)
    simp [lessN, this]
theorem len_of' (c n : Nat) (h : n = 2 ∧ 192 ≤ c ∧ c < 224 ∨ n = 3 ∧ 224 ≤ c ∧ c < 240 ∨ n = 4 ∧ 240 ≤ c ∧ c < 248) : len c = n := by
  unfold len
  rcases h with ⟨rfl, h⟩ | ⟨rfl, h⟩ | ⟨rfl, h⟩
  · rw [if_neg (by omega), if_neg (by omega), if_neg (by omega), if_pos (by omega)]
  · rw [if_neg (by omega), if_neg (by omega), if_pos (by omega)]
  · rw [if_neg (by omega), if_pos (by omega)]

/-- a beginning of an encoding is refused as cut off -/
theorem next_trunc (r : Nat) (h : ok r) (n : Nat) (h0 : 0 < n) (hn : n < esize r) : next ((enc r).take n) = (0, n, 23) := by
  obtain ⟨hmax, hsur⟩ := h
  rcases esize_cases r with ⟨h, g⟩ | ⟨h, g⟩ | ⟨h, g⟩ | ⟨h, g⟩
  · omega
  · obtain ⟨c, hc⟩ : ∃ c, c = 192 + r / 64 := ⟨_, rfl⟩
    obtain ⟨d, hd⟩ : ∃ d, d = 128 + r % 64 := ⟨_, rfl⟩
    have he : enc r = [c, d] := by simp [enc, h, conts, mark, hc, hd]
    have hl : len c = 2 := len_of' c 2 (by omega)
    have hr : c % 32 * 64 + d % 64 = r := by omega
    have hb2 : beg (c % 32 * 64 + d % 64) 2 0 = true := by rw [hr]; simp [beg, bnd]; omega
    have hb1 := beg_mono (c % 32) (d % 64) 2 0 (by omega) hb2
    obtain rfl : n = 1 := by omega
    rw [he]
    simp [next, hl, more, hb1]
  · obtain ⟨c, hc⟩ : ∃ c, c = 224 + r / 4096 := ⟨_, rfl⟩
    obtain ⟨d, hd⟩ : ∃ d, d = 128 + r / 64 % 64 := ⟨_, rfl⟩
    obtain ⟨e, he'⟩ : ∃ e, e = 128 + r % 64 := ⟨_, rfl⟩
    have he : enc r = [c, d, e] := by simp [enc, h, conts, mark, hc, hd, he']
    have hl : len c = 3 := len_of' c 3 (by omega)
    have hcd : cont d = true := by simp [cont]; omega
    have hr : (c % 16 * 64 + d % 64) * 64 + e % 64 = r := by omega
    have hb3 : beg ((c % 16 * 64 + d % 64) * 64 + e % 64) 3 0 = true := by rw [hr]; simp [beg, bnd]; omega
    have hb2 := beg_mono (c % 16 * 64 + d % 64) (e % 64) 3 0 (by omega) hb3
    have hb1 := beg_mono (c % 16) (d % 64) 3 1 (by omega) hb2
    rw [he]
    rcases (show n = 1 ∨ n = 2 by omega) with rfl | rfl
    · simp [next, hl, more, hb1]
    · simp [next, hl, more, hb1, hb2, hcd]
  · obtain ⟨c, hc⟩ : ∃ c, c = 240 + r / 262144 := ⟨_, rfl⟩
    obtain ⟨d, hd⟩ : ∃ d, d = 128 + r / 4096 % 64 := ⟨_, rfl⟩
    obtain ⟨e, he'⟩ : ∃ e, e = 128 + r / 64 % 64 := ⟨_, rfl⟩
    obtain ⟨f, hf⟩ : ∃ f, f = 128 + r % 64 := ⟨_, rfl⟩
    have he : enc r = [c, d, e, f] := by simp [enc, h, conts, mark, hc, hd, he', hf]
    have hl : len c = 4 := len_of' c 4 (by omega)
    have hcd : cont d = true := by simp [cont]; omega
    have hce : cont e = true := by simp [cont]; omega
    have hr : ((c % 8 * 64 + d % 64) * 64 + e % 64) * 64 + f % 64 = r := by omega
    have hb4 : beg (((c % 8 * 64 + d % 64) * 64 + e % 64) * 64 + f % 64) 4 0 = true := by rw [hr]; simp [beg, bnd]; omega
    have hb3 := beg_mono ((c % 8 * 64 + d % 64) * 64 + e % 64) (f % 64) 4 0 (by omega) hb4
    have hb2 := beg_mono (c % 8 * 64 + d % 64) (e % 64) 4 1 (by omega) hb3
    have hb1 := beg_mono (c % 8) (d % 64) 4 2 (by omega) hb2
    rw [he]
    rcases (show n = 1 ∨ n = 2 ∨ n = 3 by omega) with rfl | rfl | rfl
    · simp [next, hl, more, hb1]
    · simp [next, hl, more, hb1, hb2, hcd]
    · simp [next, hl, more, hb1, hb2, hb3, hcd, hce]

theorem check_le (l : List Nat) : ∀ f p, p ≤ l.length → (check l f p).1 ≤ l.length
  | 0, p, _ => by simp [check]
  | f + 1, p, hp => by
    rw [check]
    by_cases h : p < l.length
    · rw [if_pos h]
      by_cases h0 : (next (l.drop p)).2.2 = 0
      · rw [if_pos h0]
        obtain ⟨⟨r, z, e⟩, hx⟩ : ∃ x, next (l.drop p) = x := ⟨_, rfl⟩
        have hz := next_le (l.drop p) (by rw [List.length_drop]; omega)
        rw [List.length_drop, hx] at hz
        rw [hx]
        simp only at hz ⊢
        exact check_le l f _ (by omega)
      · rw [if_neg h0]; omega
    · rw [if_neg h]; simp

/-- a beginning of a row of encodings: it is a row of encodings itself, or it is cut off behind one -/
theorem check_part : ∀ (rs : List Nat) (l : List Nat) (n f p : Nat), (∀ r ∈ rs, ok r) → l.drop p = (encs rs).take n → l.length - p ≤ f → p ≤ l.length →
    ∃ j, j ≤ rs.length ∧ ((check l f p = (0, 0) ∧ l.length = p + (encs (rs.take j)).length ∧ l.drop p = encs (rs.take j)) ∨
      (check l f p = (p + (encs (rs.take j)).length, 23) ∧ p + (encs (rs.take j)).length ≤ l.length ∧ (l.drop p).take (encs (rs.take j)).length = encs (rs.take j)))
  | [], l, n, f, p, _, hd, _, hp => by
    have hl : l.length = p := by
      have := congrArg List.length hd
      simp [encs] at this
      omega
    refine ⟨0, Nat.le_refl _, .inl ⟨?_, by simpa [encs] using hl, by rw [hd]; simp [encs]⟩⟩
    cases f with
    | zero => rfl
    | succ f => rw [check, if_neg (by omega)]
  | r :: rs, l, n, f, p, hr, hd, hf, hp => by
    have hok := hr r (by simp)
    have hlen : l.length - p = min n (encs (r :: rs)).length := by
      have := congrArg List.length hd
      rwa [List.length_drop, List.length_take] at this
    by_cases h0 : p < l.length
    · obtain ⟨f', rfl⟩ : ∃ f', f = f' + 1 := ⟨f - 1, by omega⟩
      rw [encs_cons] at hd hlen
      rw [List.length_append, enc_len] at hlen
      have he := esize_pos r
      by_cases hn : esize r ≤ n
      · have hd' : l.drop p = enc r ++ (encs rs).take (n - esize r) := by rw [hd, List.take_append, enc_len, List.take_of_length_le (by rw [enc_len]; exact hn)]
        obtain ⟨d1, d2⟩ := drop_more l p r _ hd'
        have hb := next_back r hok ((encs rs).take (n - esize r))
        have hpl : p + esize r ≤ l.length := by omega
        obtain ⟨j, hj, hc⟩ := check_part rs l (n - esize r) f' (p + esize r) (fun x hx => hr x (by simp [hx])) d1 (by omega) hpl
        have hch : check l (f' + 1) p = check l f' (p + esize r) := by rw [check, if_pos h0, hd', hb, if_pos rfl]
        refine ⟨j + 1, by simpa using hj, ?_⟩
        rw [hch, List.take_succ_cons, encs_cons, List.length_append, enc_len]
        rcases hc with ⟨c1, c2, c3⟩ | ⟨c1, c2, c3⟩
        · left
          refine ⟨c1, by omega, ?_⟩
          rw [hd', ← c3, d1]
        · right
          refine ⟨by rw [c1, Nat.add_assoc], by omega, ?_⟩
          rw [hd', List.take_append, enc_len, List.take_of_length_le (by rw [enc_len]; omega), ← d1, show esize r + (encs (List.take j rs)).length - esize r = (encs (List.take j rs)).length by omega, c3]
      · have hd' : l.drop p = (enc r).take n := by rw [hd, List.take_append, enc_len, show n - esize r = 0 by omega]; simp
        have ht := next_trunc r hok n (by omega) (by omega)
        refine ⟨0, Nat.zero_le _, .inr ⟨?_, by simp [encs]; omega, by simp [encs]⟩⟩
        rw [check, if_pos h0, hd', ht, if_neg (by simp)]
        simp [encs]
    · have hl : l.length = p := by omega
      refine ⟨0, Nat.zero_le _, .inl ⟨?_, by simpa [encs] using hl, by rw [← hl]; simp [encs]⟩⟩
      cases f with
      | zero => rfl
      | succ f => rw [check, if_neg (by omega)]
end U8
