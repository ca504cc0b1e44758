/- Plain mathematics of base64: groups of bits, encodings, decodings; no program is named here. -/
namespace B64

/-- the k low bits of v, the most significant first -/
def bits : Nat → Nat → List Bool
  | 0, _ => []
  | k + 1, v => (v / 2 ^ k % 2 == 1) :: bits k v

@[simp] theorem bits_length (k v : Nat) : (bits k v).length = k := by
  induction k with
  | zero => rfl
  | succ k ih => simp [bits, ih]

theorem bits_mod (k m v : Nat) (h : k ≤ m) : bits k (v % 2 ^ m) = bits k v := by
  induction k with
  | zero => rfl
  | succ k ih =>
    simp only [bits, ih (by omega)]
    congr 1
    have e : v % 2 ^ m / 2 ^ k % 2 = v / 2 ^ k % 2 := by
      obtain ⟨d, rfl⟩ : ∃ d, m = k + 1 + d := ⟨m - (k + 1), by omega⟩
      have h1 : v % 2 ^ (k + 1 + d) % 2 ^ (k + 1) = v % 2 ^ (k + 1) := Nat.mod_mod_of_dvd _ ⟨2 ^ d, by rw [← Nat.pow_add]⟩
      have key : ∀ x : Nat, x % 2 ^ (k + 1) / 2 ^ k = x / 2 ^ k % 2 := by
        intro x
        rw [Nat.pow_succ, Nat.mod_mul_right_div_self]
      rw [← key, h1, key]
    rw [e]

theorem bits_add (a b v : Nat) : bits (a + b) v = bits a (v / 2 ^ b) ++ bits b v := by
  induction a with
  | zero => simp [bits]
  | succ a ih =>
    rw [show a + 1 + b = (a + b) + 1 from by omega]
    simp only [bits, ih, List.cons_append]
    congr 2
    rw [Nat.div_div_eq_div_mul, ← Nat.pow_add, Nat.add_comm b a]

theorem bits_cat (a b h v : Nat) (hv : v < 2 ^ b) : bits (a + b) (h * 2 ^ b + v) = bits a h ++ bits b v := by
  rw [bits_add]
  congr 1
  · congr 1
    rw [Nat.mul_comm, Nat.mul_add_div (Nat.two_pow_pos b), Nat.div_eq_of_lt hv, Nat.add_zero]
  · rw [← bits_mod b b _ (Nat.le_refl _), Nat.mul_comm, Nat.mul_add_mod, bits_mod b b _ (Nat.le_refl _)]

theorem bits_inj (k u v : Nat) (hu : u < 2 ^ k) (hv : v < 2 ^ k) (h : bits k u = bits k v) : u = v := by
  induction k generalizing u v with
  | zero => simp at hu hv; omega
  | succ k ih =>
    simp only [bits, List.cons.injEq] at h
    obtain ⟨h1, h2⟩ := h
    have hp : 2 ^ (k + 1) = 2 * 2 ^ k := by rw [Nat.pow_succ]; omega
    have hk := Nat.two_pow_pos k
    have hqu : u / 2 ^ k < 2 := (Nat.div_lt_iff_lt_mul hk).2 (by omega)
    have hqv : v / 2 ^ k < 2 := (Nat.div_lt_iff_lt_mul hk).2 (by omega)
    have hq : u / 2 ^ k = v / 2 ^ k := by
      have h3 : u / 2 ^ k % 2 = 1 ↔ v / 2 ^ k % 2 = 1 := by
        rw [Bool.eq_iff_iff] at h1
        simpa using h1
      generalize u / 2 ^ k = a at *
      generalize v / 2 ^ k = b at *
      omega
    have hm : u % 2 ^ k = v % 2 ^ k := ih _ _ (Nat.mod_lt _ hk) (Nat.mod_lt _ hk) (by rw [bits_mod _ _ _ (Nat.le_refl _), bits_mod _ _ _ (Nat.le_refl _), h2])
    rw [← Nat.div_add_mod u (2 ^ k), ← Nat.div_add_mod v (2 ^ k), hq, hm]

theorem bits_zero (k : Nat) : bits k 0 = List.replicate k false := by
  induction k with
  | zero => rfl
  | succ k ih => simp [bits, ih, List.replicate_succ]

/-- all groups of size bits of a list of values -/
def spell (k : Nat) (l : List Nat) : List Bool := l.flatMap (bits k)

@[simp] theorem spell_nil (k : Nat) : spell k [] = [] := rfl
@[simp] theorem spell_cons (k x : Nat) (l : List Nat) : spell k (x :: l) = bits k x ++ spell k l := rfl
@[simp] theorem spell_append (k : Nat) (l m : List Nat) : spell k (l ++ m) = spell k l ++ spell k m := by simp [spell]
@[simp] theorem spell_length (k : Nat) (l : List Nat) : (spell k l).length = k * l.length := by
  induction l with
  | nil => simp
  | cons x l ih => simp [ih, Nat.mul_add, Nat.add_comm]

/-- the spelling determines the values and the rest -/
theorem spell_inj (k : Nat) (_hk : 0 < k) : ∀ (l m : List Nat) (r q : List Bool), (∀ x ∈ l, x < 2 ^ k) → (∀ x ∈ m, x < 2 ^ k) → r.length < k → q.length < k →
    spell k l ++ r = spell k m ++ q → l = m ∧ r = q := by
  intro l
  induction l with
  | nil =>
    intro m r q _ _ hr hq h
    cases m with
    | nil => exact ⟨rfl, by simpa using h⟩
    | cons y m =>
      have := congrArg List.length h
      simp at this
      omega
  | cons x l ih =>
    intro m r q hl hm hr hq h
    cases m with
    | nil =>
      have := congrArg List.length h
      simp at this
      omega
    | cons y m =>
      simp only [spell_cons, List.append_assoc] at h
      obtain ⟨h1, h2⟩ := List.append_inj h (by simp)
      have := bits_inj k x y (hl x (by simp)) (hm y (by simp)) h1
      obtain ⟨h3, h4⟩ := ih m r q (fun z hz => hl z (by simp [hz])) (fun z hz => hm z (by simp [hz])) hr hq h2
      exact ⟨by rw [this, h3], h4⟩

/-- what is emitted while at least size bits are held -/
def drain (size : Nat) : Nat → Nat → Nat → List Nat × Nat × Nat
  | 0, h, c => ([], h, c)
  | f + 1, h, c => if size ≤ c then
      let r := drain size f (h % 2 ^ (c - size)) (c - size)
      (h / 2 ^ (c - size) :: r.1, r.2.1, r.2.2)
    else ([], h, c)

theorem drain_spec (size : Nat) (hs : 0 < size) : ∀ (f h c : Nat), c ≤ f → h < 2 ^ c →
    bits c h = spell size (drain size f h c).1 ++ bits (drain size f h c).2.2 (drain size f h c).2.1 ∧ (drain size f h c).2.2 < size ∧ (drain size f h c).2.1 < 2 ^ (drain size f h c).2.2 ∧ ∀ x ∈ (drain size f h c).1, x < 2 ^ size := by
  intro f
  induction f with
  | zero =>
    intro h c hc hh
    obtain rfl : c = 0 := by omega
    refine ⟨?_, ?_, ?_, ?_⟩ <;> simp [drain, hs] <;> simpa using hh
  | succ f ih =>
    intro h c hc hh
    by_cases hle : size ≤ c
    · simp only [drain, if_pos hle]
      obtain ⟨i1, i2, i3, i4⟩ := ih (h % 2 ^ (c - size)) (c - size) (by omega) (Nat.mod_lt _ (Nat.two_pow_pos _))
      refine ⟨?_, i2, i3, ?_⟩
      · conv => lhs; rw [show c = size + (c - size) from by omega, bits_add]
        simp only [spell_cons, List.append_assoc]
        rw [← i1, bits_mod _ _ _ (Nat.le_refl _)]
      · intro x hx
        simp only [List.mem_cons] at hx
        rcases hx with rfl | hx
        · apply (Nat.div_lt_iff_lt_mul (Nat.two_pow_pos _)).2
          rw [← Nat.pow_add, show size + (c - size) = c from by omega]
          exact hh
        · exact i4 x hx
    · simp only [drain, if_neg hle]
      exact ⟨by simp, by omega, hh, by simp⟩

theorem drain_fuel (size : Nat) (hs : 0 < size) : ∀ (f g h c : Nat), c ≤ f → c ≤ g → drain size f h c = drain size g h c := by
  intro f
  induction f with
  | zero =>
    intro g h c hf hg
    obtain rfl : c = 0 := by omega
    cases g with
    | zero => rfl
    | succ g => simp only [drain]; rw [if_neg (by omega)]
  | succ f ih =>
    intro g h c hf hg
    cases g with
    | zero =>
      obtain rfl : c = 0 := by omega
      simp only [drain]; rw [if_neg (by omega)]
    | succ g =>
      simp only [drain]
      by_cases hle : size ≤ c
      · rw [if_pos hle, if_pos hle, ih g _ (c - size) (by omega) (by omega)]
      · rw [if_neg hle, if_neg hle]

theorem drain_step (size : Nat) (hs : 0 < size) (h c : Nat) (hle : size ≤ c) :
    drain size c h c = (h / 2 ^ (c - size) :: (drain size (c - size) (h % 2 ^ (c - size)) (c - size)).1, (drain size (c - size) (h % 2 ^ (c - size)) (c - size)).2) := by
  obtain ⟨d, rfl⟩ : ∃ d, c = d + 1 := ⟨c - 1, by omega⟩
  rw [drain, if_pos hle, drain_fuel size hs d (d + 1 - size) _ _ (by omega) (Nat.le_refl _)]

theorem drain_done (size h c : Nat) (hlt : c < size) : drain size c h c = ([], h, c) := by
  cases c with
  | zero => rfl
  | succ c => rw [drain, if_neg (by omega)]

/-- the state of a collector of bits: what was emitted, what is held, how many bits are held -/
abbrev St := List Nat × Nat × Nat

/-- a value of some bits is added -/
def put (size : Nat) (s : St) (v k : Nat) : St :=
  let r := drain size (s.2.2 + k) (s.2.1 * 2 ^ k + v) (s.2.2 + k)
  (s.1 ++ r.1, r.2.1, r.2.2)

/-- values of k bits each are added -/
def feed (size k : Nat) (l : List Nat) : St := l.foldl (fun s v => put size s v k) ([], 0, 0)

theorem feed_snoc (size k : Nat) (l : List Nat) (x : Nat) : feed size k (l ++ [x]) = put size (feed size k l) x k := by simp [feed]

def Good (size : Nat) (s : St) : Prop := s.2.2 < size ∧ s.2.1 < 2 ^ s.2.2 ∧ ∀ x ∈ s.1, x < 2 ^ size

theorem put_spec (size : Nat) (hs : 0 < size) (s : St) (v k : Nat) (g : Good size s) (hv : v < 2 ^ k) :
    spell size s.1 ++ bits s.2.2 s.2.1 ++ bits k v = spell size (put size s v k).1 ++ bits (put size s v k).2.2 (put size s v k).2.1 ∧ Good size (put size s v k) := by
  obtain ⟨g1, g2, g3⟩ := g
  have hb : s.2.1 * 2 ^ k + v < 2 ^ (s.2.2 + k) := by
    rw [Nat.pow_add]
    have : (s.2.1 + 1) * 2 ^ k ≤ 2 ^ s.2.2 * 2 ^ k := Nat.mul_le_mul_right _ g2
    rw [Nat.add_mul] at this
    omega
  obtain ⟨d1, d2, d3, d4⟩ := drain_spec size hs (s.2.2 + k) (s.2.1 * 2 ^ k + v) (s.2.2 + k) (Nat.le_refl _) hb
  refine ⟨?_, d2, d3, ?_⟩
  · simp only [put, spell_append, List.append_assoc]
    rw [← d1, bits_cat _ _ _ _ hv]
  · intro x hx
    simp only [put, List.mem_append] at hx
    rcases hx with hx | hx
    · exact g3 x hx
    · exact d4 x hx

theorem feed_spec (size k : Nat) (hs : 0 < size) : ∀ (l : List Nat), (∀ x ∈ l, x < 2 ^ k) →
    spell k l = spell size (feed size k l).1 ++ bits (feed size k l).2.2 (feed size k l).2.1 ∧ Good size (feed size k l) := by
  intro l
  suffices H : ∀ (l : List Nat) (s : St), Good size s → (∀ x ∈ l, x < 2 ^ k) →
      spell size s.1 ++ bits s.2.2 s.2.1 ++ spell k l = spell size (l.foldl (fun s v => put size s v k) s).1 ++ bits (l.foldl (fun s v => put size s v k) s).2.2 (l.foldl (fun s v => put size s v k) s).2.1 ∧ Good size (l.foldl (fun s v => put size s v k) s) by
    intro hl
    have := H l ([], 0, 0) ⟨hs, by simp, by simp⟩ hl
    simpa [bits, feed] using this
  intro l
  induction l with
  | nil => intro s g _; exact ⟨by simp, g⟩
  | cons x l ih =>
    intro s g hl
    obtain ⟨p1, p2⟩ := put_spec size hs s x k g (hl x (by simp))
    obtain ⟨i1, i2⟩ := ih (put size s x k) p2 (fun z hz => hl z (by simp [hz]))
    refine ⟨?_, i2⟩
    simp only [List.foldl_cons, spell_cons]
    rw [← i1, ← p1]
    simp [List.append_assoc]

/-- how many bits are held -/
theorem feed_count (size k : Nat) (hs : 0 < size) (l : List Nat) (hl : ∀ x ∈ l, x < 2 ^ k) : (feed size k l).2.2 = k * l.length % size ∧ size * (feed size k l).1.length + (feed size k l).2.2 = k * l.length := by
  obtain ⟨h1, h2, _, _⟩ := feed_spec size k hs l hl
  have h3 := congrArg List.length h1
  simp at h3
  refine ⟨?_, by omega⟩
  rw [h3, Nat.mul_add_mod, Nat.mod_eq_of_lt h2]

/-- the groups of an encoding -/
def groups (l : List Nat) : List Nat :=
  if 8 * l.length % 6 = 0 then (feed 6 8 l).1 else (put 6 (feed 6 8 l) 0 (6 - 8 * l.length % 6)).1

theorem groups_spec (l : List Nat) (hl : ∀ x ∈ l, x < 256) : ∃ z, z < 6 ∧ 6 * (groups l).length = 8 * l.length + z ∧ spell 6 (groups l) = spell 8 l ++ List.replicate z false ∧ ∀ x ∈ groups l, x < 64 := by
  have hl' : ∀ x ∈ l, x < 2 ^ 8 := hl
  obtain ⟨f1, f2⟩ := feed_spec 6 8 (by omega) l hl'
  obtain ⟨c1, c2⟩ := feed_count 6 8 (by omega) l hl'
  unfold groups
  by_cases h0 : 8 * l.length % 6 = 0
  · rw [if_pos h0]
    rw [h0] at c1
    refine ⟨0, by omega, by omega, ?_, f2.2.2⟩
    rw [f1, c1]
    simp [bits]
  · rw [if_neg h0]
    obtain ⟨p1, p2⟩ := put_spec 6 (by omega) (feed 6 8 l) 0 (6 - 8 * l.length % 6) f2 (Nat.two_pow_pos _)
    rw [← f1] at p1
    have hlen := congrArg List.length p1
    simp at hlen
    have hc := p2.1
    have hz : (put 6 (feed 6 8 l) 0 (6 - 8 * l.length % 6)).2.2 = 0 := by omega
    refine ⟨6 - 8 * l.length % 6, by omega, by omega, ?_, p2.2.2⟩
    rw [hz] at p1
    simp [bits] at p1
    rw [← p1, bits_zero]

theorem take_snoc (l : List Nat) (k : Nat) (h : k < l.length) : l.take (k + 1) = l.take k ++ [l.getD k 0] := by
  rw [List.take_succ_eq_append_getElem h, List.getD_eq_getElem?_getD, List.getElem?_eq_getElem h]; rfl

end B64
namespace B64

def alphaL : List UInt8 := [65, 66, 67, 68, 69, 70, 71, 72, 73, 74, 75, 76, 77, 78, 79, 80, 81, 82, 83, 84, 85, 86, 87, 88, 89, 90, 97, 98, 99, 100, 101, 102, 103, 104, 105, 106, 107, 108, 109, 110, 111, 112, 113, 114, 115, 116, 117, 118, 119, 120, 121, 122, 48, 49, 50, 51, 52, 53, 54, 55, 56, 57, 43, 47]

def alpha (i : Nat) : UInt8 := alphaL.getD i 0
def val (c : UInt8) : Option Nat := alphaL.idxOf? c

theorem val_alpha : ∀ i, i < 64 → val (alpha i) = some i := by decide
theorem val_pad : val 61 = none := by decide
theorem val_some (c : UInt8) (v : Nat) (h : val c = some v) : v < 64 ∧ alpha v = c := by
  unfold val at h
  rw [List.idxOf?, List.findIdx?_eq_some_iff_getElem] at h
  obtain ⟨h1, h2, _⟩ := h
  have : v < 64 := h1
  refine ⟨this, ?_⟩
  unfold alpha
  rw [List.getD_eq_getElem?_getD, List.getElem?_eq_getElem h1]
  simpa using h2

/-- the text of an encoding -/
def encT (l : List Nat) : List UInt8 := (groups l).map alpha ++ List.replicate ((4 - (groups l).length % 4) % 4) 61

/-- the equals signs in place -/
def pads (s : List UInt8) : Nat :=
  if s.length % 4 = 0 ∧ [61] <:+ s then (if [61, 61] <:+ s then 2 else 1) else 0

theorem pads_le (s : List UInt8) : pads s ≤ s.length ∧ pads s ≤ 2 := by
  unfold pads
  by_cases h : s.length % 4 = 0 ∧ [61] <:+ s
  · rw [if_pos h]
    by_cases h2 : [61, 61] <:+ s
    · rw [if_pos h2]; have := h2.length_le; simp at this; omega
    · rw [if_neg h2]; have := h.2.length_le; simp at this; omega
  · rw [if_neg h]; omega

def data (s : List UInt8) : List UInt8 := s.take (s.length - pads s)

/-- the values of the characters of the data -/
def vals (d : List UInt8) : List Nat := d.map fun c => (val c).getD 0

/-- what Decode answers: the bytes, the offset, the number of the error -/
def decT (s : List UInt8) : List Nat × Nat × Nat :=
  if 174764 < s.length then ([], 0, 5)
  else if (data s).findIdx (fun c => val c == none) < (data s).length then ([], (data s).findIdx (fun c => val c == none), 6)
  else if s.length % 4 ≠ 0 then ([], s.length, 4)
  else if ((vals (data s)).getLastD 0) % 2 ^ (2 * pads s) ≠ 0 then ([], (data s).length - 1, 3)
  else ((feed 8 6 (vals (data s))).1, 0, 0)

theorem data_pads (s : List UInt8) : s = data s ++ List.replicate (pads s) 61 := by
  unfold data pads
  by_cases h : s.length % 4 = 0 ∧ [61] <:+ s
  · rw [if_pos h]
    by_cases h2 : [61, 61] <:+ s
    · rw [if_pos h2]; obtain ⟨t, rfl⟩ := h2; simp
    · rw [if_neg h2]; obtain ⟨t, rfl⟩ := h.2; simp
  · rw [if_neg h]; simp

theorem vals_lt (d : List UInt8) : ∀ x ∈ vals d, x < 64 := by
  intro x hx
  simp only [vals, List.mem_map] at hx
  obtain ⟨c, _, rfl⟩ := hx
  cases h : val c with
  | none => simp
  | some v => exact (val_some c v h).1

theorem vals_alpha (d : List UInt8) (h : ¬ d.findIdx (fun c => val c == none) < d.length) : (vals d).map alpha = d := by
  rw [List.findIdx_lt_length] at h
  unfold vals
  rw [List.map_map]
  conv => rhs; rw [← List.map_id d]
  apply List.map_congr_left
  intro c hc
  cases hv : val c with
  | none => exact absurd ⟨c, hc, by simp [hv]⟩ h
  | some v => simp [hv, (val_some c v hv).2]

theorem vals_of_alpha (g : List Nat) (h : ∀ x ∈ g, x < 64) : vals (g.map alpha) = g := by
  unfold vals
  rw [List.map_map]
  conv => rhs; rw [← List.map_id g]
  apply List.map_congr_left
  intro x hx
  simp [val_alpha x (h x hx)]

theorem getLastD_snoc (l : List Nat) (x : Nat) : (l ++ [x]).getLastD 0 = x := by simp

/-- the low bits of the last value are the last bits -/
theorem low_zero (v : List Nat) (c : Nat) (hc : c ≤ 6) (hv : v ≠ [] ∨ c = 0) (p r : List Bool) (hr : r.length = c) (h : spell 6 v = p ++ r) :
    v.getLastD 0 % 2 ^ c = 0 ↔ r = List.replicate c false := by
  rcases List.eq_nil_or_concat v with rfl | ⟨u, x, rfl⟩
  · rcases hv with hv | rfl
    · exact absurd rfl hv
    · have : r = [] := List.eq_nil_of_length_eq_zero hr
      subst this
      simp
  · rw [List.concat_eq_append, getLastD_snoc]
    rw [List.concat_eq_append, spell_append, spell_cons, spell_nil, List.append_nil, show (6 : Nat) = (6 - c) + c from by omega, bits_add, ← List.append_assoc] at h
    have := List.append_inj' h (by simp [hr])
    rw [← this.2]
    constructor
    · intro h0
      rw [← bits_mod c c x (Nat.le_refl _), h0, bits_zero]
    · intro h0
      apply bits_inj c _ _ (Nat.mod_lt _ (Nat.two_pow_pos _)) (Nat.two_pow_pos _)
      rw [bits_mod _ _ _ (Nat.le_refl _), h0, bits_zero]

theorem encT_length (l : List Nat) (hl : ∀ x ∈ l, x < 256) : (encT l).length = (l.length + 2) / 3 * 4 := by
  obtain ⟨z, hz, hn, _, _⟩ := groups_spec l hl
  simp [encT]
  omega

/-- A TEXT THAT IS DECODED WITHOUT AN ERROR IS THE ENCODING OF THE RESULT -/
theorem canonical (s : List UInt8) (h : (decT s).2.2 = 0) : encT (decT s).1 = s ∧ (∀ x ∈ (decT s).1, x < 256) := by
  unfold decT at h ⊢
  by_cases h1 : 174764 < s.length
  · simp [h1] at h
  rw [if_neg h1] at h ⊢
  by_cases h2 : (data s).findIdx (fun c => val c == none) < (data s).length
  · rw [if_pos h2] at h; simp at h
  rw [if_neg h2] at h ⊢
  by_cases h3 : s.length % 4 ≠ 0
  · rw [if_pos h3] at h; simp at h
  rw [if_neg h3] at h ⊢
  by_cases h4 : ((vals (data s)).getLastD 0) % 2 ^ (2 * pads s) ≠ 0
  · rw [if_pos h4] at h; simp at h
  rw [if_neg h4] at h ⊢
  have hd := data_pads s
  have hp := pads_le s
  have hlen := congrArg List.length hd
  simp at hlen
  have hvl : (vals (data s)).length = (data s).length := by simp [vals]
  have hlt : ∀ x ∈ vals (data s), x < 2 ^ 6 := vals_lt _
  obtain ⟨f1, f2⟩ := feed_spec 8 6 (by omega) (vals (data s)) hlt
  obtain ⟨c1, c2⟩ := feed_count 8 6 (by omega) (vals (data s)) hlt
  generalize hst : feed 8 6 (vals (data s)) = st at *
  obtain ⟨b, hh, c⟩ := st
  simp only at *
  have hc : c = 2 * pads s := by omega
  have hz : bits c hh = List.replicate c false := by
    refine (low_zero (vals (data s)) c (by omega) ?_ _ _ (by simp) f1).1 (by rw [hc]; omega)
    by_cases hn : vals (data s) = []
    · right
      have : (data s).length = 0 := by rw [← hvl, hn]; rfl
      omega
    · exact .inl hn
  have hb : ∀ x ∈ b, x < 256 := f2.2.2
  refine ⟨?_, hb⟩
  obtain ⟨z, z1, z2, z3, z4⟩ := groups_spec b hb
  have hzc : z = c := by omega
  subst hzc
  have e : groups b = vals (data s) := by
    have : spell 6 (groups b) ++ [] = spell 6 (vals (data s)) ++ [] := by rw [z3, f1, hz]
    exact (spell_inj 6 (by omega) _ _ _ _ z4 hlt (by simp) (by simp) this).1
  unfold encT
  rw [e, vals_alpha _ h2, hvl]
  conv => rhs; rw [hd]
  congr 2
  omega

theorem suffix_snoc (l : List UInt8) (a b : UInt8) : [a] <:+ l ++ [b] ↔ a = b := by
  constructor
  · rintro ⟨t, ht⟩
    have := (List.append_inj' ht rfl).2
    simpa using this
  · rintro rfl; exact ⟨l, rfl⟩

theorem pads_alpha (g : List Nat) (hg : ∀ x ∈ g, x < 64) (p : Nat) (h4 : (g.length + p) % 4 = 0) (hp : p ≤ 2) :
    pads (g.map alpha ++ List.replicate p 61) = p := by
  have hne : ∀ x, x < 64 → alpha x ≠ 61 := by decide
  have key : ∀ t : List UInt8, t ++ [61] ≠ g.map alpha := by
    intro t h
    rcases List.eq_nil_or_concat g with rfl | ⟨u, x, rfl⟩
    · simp at h
    · rw [List.concat_eq_append, List.map_append] at h
      have := (List.append_inj' h rfl).2
      simp at this
      exact hne x (hg x (by simp)) this.symm
  have hl : (g.map alpha ++ List.replicate p 61).length % 4 = 0 := by simpa using h4
  unfold pads
  match p, hp with
  | 0, _ =>
    rw [if_neg]
    rintro ⟨_, t, ht⟩
    simp at ht
    exact key t ht
  | 1, _ =>
    rw [if_pos ⟨hl, ⟨g.map alpha, rfl⟩⟩, if_neg]
    rintro ⟨t, ht⟩
    have : (t ++ [61]) ++ [61] = g.map alpha ++ [61] := by simpa using ht
    exact key t (List.append_inj' this rfl).1
  | 2, _ =>
    rw [if_pos ⟨hl, ⟨g.map alpha ++ [61], by simp [List.replicate]⟩⟩, if_pos ⟨g.map alpha, rfl⟩]

/-- DECODING AN ENCODING GIVES THE BYTES -/
theorem round_trip (l : List Nat) (hl : ∀ x ∈ l, x < 256) (hn : l.length ≤ 131072) : decT (encT l) = (l, 0, 0) := by
  obtain ⟨z, z1, z2, z3, z4⟩ := groups_spec l hl
  have hlen := encT_length l hl
  generalize hp : (4 - (groups l).length % 4) % 4 = p at *
  have he : encT l = (groups l).map alpha ++ List.replicate p 61 := by rw [← hp]; rfl
  have hpad : pads (encT l) = p := by rw [he]; exact pads_alpha _ z4 p (by omega) (by omega)
  have hdata : data (encT l) = (groups l).map alpha := by
    unfold data
    rw [hpad, he]
    simp
  have hvals : vals (data (encT l)) = groups l := by rw [hdata]; exact vals_of_alpha _ z4
  unfold decT
  rw [if_neg (by omega)]
  rw [if_neg]
  · rw [if_neg (by omega), hvals, hpad]
    have hlt : ∀ x ∈ groups l, x < 2 ^ 6 := z4
    obtain ⟨f1, f2⟩ := feed_spec 8 6 (by omega) (groups l) hlt
    obtain ⟨c1, c2⟩ := feed_count 8 6 (by omega) (groups l) hlt
    generalize hst : feed 8 6 (groups l) = st at *
    obtain ⟨b, hh, c⟩ := st
    simp only at *
    have hc2 : c < 8 := f2.1
    have hzc : z = c := by omega
    subst hzc
    rw [z3] at f1
    obtain ⟨e1, e2⟩ := spell_inj 8 (by omega) l b _ _ hl f2.2.2 (by simp; omega) (by simp; omega) f1
    have hzp : z = 2 * p := by omega
    rw [if_neg, ← e1]
    rw [Classical.not_not, ← hzp]
    refine (low_zero (groups l) z (by omega) ?_ _ _ (by simp) z3).2 rfl
    by_cases hg : groups l = []
    · right
      have : (groups l).length = 0 := by rw [hg]; rfl
      omega
    · exact .inl hg
  · rw [List.findIdx_lt_length, hdata]
    rintro ⟨c, hc, h⟩
    simp only [List.mem_map] at hc
    obtain ⟨x, hx, rfl⟩ := hc
    rw [val_alpha x (z4 x hx)] at h
    simp at h

/-- ENCODINGS OF MULTIPLES OF THREE BYTES CAN BE CONCATENATED -/
theorem groups_append (a b : List Nat) (ha : ∀ x ∈ a, x < 256) (hb : ∀ x ∈ b, x < 256) (h3 : a.length % 3 = 0) : groups (a ++ b) = groups a ++ groups b := by
  have hab : ∀ x ∈ a ++ b, x < 256 := by
    intro x hx
    simp at hx
    exact hx.elim (ha x) (hb x)
  obtain ⟨z, z1, z2, z3, z4⟩ := groups_spec a ha
  obtain ⟨y, y1, y2, y3, y4⟩ := groups_spec b hb
  obtain ⟨u, u1, u2, u3, u4⟩ := groups_spec (a ++ b) hab
  simp at u2
  have hz : z = 0 := by omega
  subst hz
  have hyu : y = u := by omega
  subst hyu
  have : spell 6 (groups (a ++ b)) ++ [] = spell 6 (groups a ++ groups b) ++ [] := by
    rw [u3, spell_append, spell_append, z3, y3]
    simp
  exact (spell_inj 6 (by omega) _ _ _ _ u4 (by intro x hx; simp at hx; exact hx.elim (z4 x) (y4 x)) (by simp) (by simp) this).1

theorem encT_append (a b : List Nat) (ha : ∀ x ∈ a, x < 256) (hb : ∀ x ∈ b, x < 256) (h3 : a.length % 3 = 0) : encT (a ++ b) = encT a ++ encT b := by
  obtain ⟨z, z1, z2, z3, z4⟩ := groups_spec a ha
  have h4 : (groups a).length % 4 = 0 := by omega
  unfold encT
  rw [groups_append a b ha hb h3, List.length_append, List.map_append, h4]
  simp [h4, Nat.add_mod]

theorem decT_byte (s : List UInt8) (hl : s.length ≤ 174764) (k : Nat) (c : UInt8) (hk : (data s)[k]? = some c) (hv : val c = none) (hb : ∀ j c, j < k → (data s)[j]? = some c → val c ≠ none) : decT s = ([], k, 6) := by
  obtain ⟨hlt, hget⟩ := List.getElem?_eq_some_iff.1 hk
  have hf : (data s).findIdx (fun c => val c == none) = k := by
    rw [List.findIdx_eq hlt]
    refine ⟨by rw [hget, hv]; rfl, fun j hj => ?_⟩
    have := hb j _ hj (List.getElem?_eq_getElem (by omega))
    cases hv : val (data s)[j] with
    | none => exact absurd hv this
    | some v => rfl
  unfold decT
  rw [if_neg (by omega), hf, if_pos hlt]

theorem decT_rest (s : List UInt8) (hl : s.length ≤ 174764) (hb : ∀ j c, j < (data s).length → (data s)[j]? = some c → val c ≠ none) :
    decT s = if s.length % 4 ≠ 0 then ([], s.length, 4)
      else if ((vals (data s)).getLastD 0) % 2 ^ (2 * pads s) ≠ 0 then ([], (data s).length - 1, 3)
      else ((feed 8 6 (vals (data s))).1, 0, 0) := by
  have hf : ¬ (data s).findIdx (fun c => val c == none) < (data s).length := by
    rw [List.findIdx_lt_length]
    rintro ⟨c, hc, h⟩
    obtain ⟨j, hj, rfl⟩ := List.getElem_of_mem hc
    exact hb j _ hj (List.getElem?_eq_getElem hj) (by simpa using h)
  unfold decT
  rw [if_neg (by omega), if_neg hf]

theorem vals_snoc (d : List UInt8) (k : Nat) (c : UInt8) (v : Nat) (hk : d[k]? = some c) (hv : val c = some v) : vals (d.take (k + 1)) = vals (d.take k) ++ [v] := by
  obtain ⟨hlt, hget⟩ := List.getElem?_eq_some_iff.1 hk
  rw [List.take_succ_eq_append_getElem hlt, hget]
  simp [vals, hv]

end B64
