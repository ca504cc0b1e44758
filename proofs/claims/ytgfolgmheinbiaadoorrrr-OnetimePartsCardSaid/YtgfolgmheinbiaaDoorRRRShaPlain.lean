/- Plain mathematics of layer 5: SHA-256 over numbers as the model has them; blocks, padding, pieces. No program is named here. -/
import Derived.Laws.Entries
namespace S5
/-! words -/
def w32 (n : Int) : Int := n % 4294967296
def xorI (x y : Int) : Int := Go.bits .xor .u32 x y
def orI (x y : Int) : Int := Go.bits .or .u32 x y
def andI (x y : Int) : Int := Go.bits .and .u32 x y
def notI (x : Int) : Int := Go.bits .xor .u32 Go.IntKind.u32.max x

def rot (x : Int) (n : Nat) : Int := orI (w32 (x * 2 ^ (32 - n))) (x / 2 ^ n)
def big1 (e : Int) : Int := xorI (xorI (rot e 6) (rot e 11)) (rot e 25)
def big0 (a : Int) : Int := xorI (xorI (rot a 2) (rot a 13)) (rot a 22)
def ch (e f g : Int) : Int := xorI (andI e f) (andI (notI e) g)
def maj (a b c : Int) : Int := xorI (xorI (andI a b) (andI a c)) (andI b c)
def sm0 (y : Int) : Int := xorI (xorI (rot y 7) (rot y 18)) (y / 2 ^ 3)
def sm1 (x : Int) : Int := xorI (xorI (rot x 17) (rot x 19)) (x / 2 ^ 10)

structure St where
  a : Int
  b : Int
  c : Int
  d : Int
  e : Int
  f : Int
  g : Int
  h : Int

def tOne (s : St) (k w : Int) : Int := w32 (s.h + big1 s.e + ch s.e s.f s.g + k + w)
def tTwo (s : St) : Int := w32 (big0 s.a + maj s.a s.b s.c)
def step (s : St) (k w : Int) : St := ⟨w32 (tOne s k w + tTwo s), s.a, s.b, s.c, w32 (s.d + tOne s k w), s.e, s.f, s.g⟩

def plus (s v : St) : St := ⟨w32 (s.a + v.a), w32 (s.b + v.b), w32 (s.c + v.c), w32 (s.d + v.d), w32 (s.e + v.e), w32 (s.f + v.f), w32 (s.g + v.g), w32 (s.h + v.h)⟩

/-! the schedule: a window of sixteen words that goes on by one -/
def nw (x y z u : Int) : Int := w32 (sm1 x + z + sm0 y + u)
def wind (m : List Int) : Nat → List Int
  | 0 => m
  | n + 1 => (wind m n).drop 1 ++ [nw ((wind m n).getD 14 0) ((wind m n).getD 1 0) ((wind m n).getD 9 0) ((wind m n).getD 0 0)]
def W (m : List Int) (t : Nat) : Int := (wind m t).getD 0 0

theorem wind_len (m : List Int) (hm : m.length = 16) (t : Nat) : (wind m t).length = 16 := by
  induction t with
  | zero => exact hm
  | succ t ih => simp [wind, ih]

theorem wind_at (m : List Int) (hm : m.length = 16) (j : Nat) : ∀ t, j < 16 → (wind m t).getD j 0 = W m (t + j) := by
  induction j with
  | zero => intro t _; rfl
  | succ j ih =>
    intro t hj
    have h := ih (t + 1) (by omega)
    rw [show t + (j + 1) = t + 1 + j by omega, ← h]
    have hl := wind_len m hm t
    simp only [wind, List.getD_eq_getElem?_getD]
    rw [List.getElem?_append_left (by simp; omega), List.getElem?_drop, Nat.add_comm 1 j]

theorem W_next (m : List Int) (hm : m.length = 16) (t : Nat) : W m (t + 16) = nw (W m (t + 14)) (W m (t + 1)) (W m (t + 9)) (W m t) := by
  have h := wind_at m hm 15 (t + 1) (by omega)
  rw [show t + 1 + 15 = t + 16 by omega] at h
  have hl := wind_len m hm t
  rw [← h]
  simp only [wind, List.getD_eq_getElem?_getD]
  rw [List.getElem?_append_right (by simp; omega)]
  simp only [List.length_drop, hl, Nat.sub_self, List.getElem?_cons_zero, Option.getD_some]
  rw [← List.getD_eq_getElem?_getD, ← List.getD_eq_getElem?_getD, ← List.getD_eq_getElem?_getD, ← List.getD_eq_getElem?_getD, wind_at m hm 14 t (by omega), wind_at m hm 1 t (by omega), wind_at m hm 9 t (by omega), wind_at m hm 0 t (by omega)]
  rfl

theorem W_start (m : List Int) (hm : m.length = 16) (t : Nat) (ht : t < 16) : W m t = m.getD t 0 := by
  have := wind_at m hm t 0 ht
  rw [Nat.zero_add] at this
  rw [← this]; rfl

/-- one step of the program's expand, in place -/
def expS (w : List Int) (t : Nat) : List Int :=
  w.set t (w32 (w.getD t 0 + sm0 (w.getD ((t + 1) % 16) 0) + sm1 (w.getD ((t + 14) % 16) 0) + w.getD ((t + 9) % 16) 0))
def expN (w : List Int) : Nat → List Int
  | 0 => w
  | t + 1 => expS (expN w t) t

theorem expN_len (w : List Int) (n : Nat) : (expN w n).length = w.length := by
  induction n with
  | zero => rfl
  | succ n ih => simp [expN, expS, ih]

theorem nw_mod (x y z u : Int) : nw x y z u = w32 (u + sm0 y + sm1 x + z) := by
  unfold nw w32; omega

theorem expN_at (m : List Int) (hm : m.length = 16) (j : Nat) (w : List Int) (hw : w.length = 16) (hj : ∀ i, i < 16 → w.getD i 0 = W m (16 * j + i)) : ∀ n, n ≤ 16 → ∀ i, i < 16 → (expN w n).getD i 0 = if i < n then W m (16 * (j + 1) + i) else W m (16 * j + i)
  | 0, _, i, hi => by rw [if_neg (by omega)]; exact hj i hi
  | n + 1, hn, i, hi => by
    have ih := expN_at m hm j w hw hj n (by omega)
    have hl := (expN_len w n).trans hw
    have key : (expN w n).getD n 0 = W m (16 * j + n) := by rw [ih n (by omega), if_neg (by omega)]
    have k1 : (expN w n).getD ((n + 1) % 16) 0 = W m (16 * j + n + 1) := by
      rw [ih _ (by omega)]
      split
      · congr 1; omega
      · congr 1; omega
    have k2 : (expN w n).getD ((n + 14) % 16) 0 = W m (16 * j + n + 14) := by
      rw [ih _ (by omega)]
      split
      · congr 1; omega
      · congr 1; omega
    have k3 : (expN w n).getD ((n + 9) % 16) 0 = W m (16 * j + n + 9) := by
      rw [ih _ (by omega)]
      split
      · congr 1; omega
      · congr 1; omega
    rw [expN, expS, key, k1, k2, k3, ← nw_mod, ← W_next m hm, List.getD_eq_getElem?_getD, List.getElem?_set]
    by_cases h : n = i
    · subst h
      rw [if_pos rfl, if_pos (by omega), if_pos (by omega)]
      simp only [Option.getD_some]
      congr 1; omega
    · rw [if_neg h, ← List.getD_eq_getElem?_getD, ih i hi]
      by_cases h2 : i < n
      · rw [if_pos h2, if_pos (by omega)]
      · rw [if_neg h2, if_neg (by omega)]

theorem list_ext16 (a b : List Int) (ha : a.length = 16) (hb : b.length = 16) (h : ∀ i, i < 16 → a.getD i 0 = b.getD i 0) : a = b := by
  apply List.ext_getElem (by omega)
  intro i h1 h2
  have := h i (by omega)
  rw [List.getD_eq_getElem?_getD, List.getD_eq_getElem?_getD, List.getElem?_eq_getElem h1, List.getElem?_eq_getElem h2] at this
  exact this

/-- the words of sixteen rounds -/
def seg (m : List Int) (j : Nat) : List Int := (List.range 16).map fun i => W m (16 * j + i)
theorem seg_len (m : List Int) (j : Nat) : (seg m j).length = 16 := by simp [seg]
theorem seg_at (m : List Int) (j i : Nat) (h : i < 16) : (seg m j).getD i 0 = W m (16 * j + i) := by
  simp [seg, List.getD_eq_getElem?_getD, List.getElem?_range h]
theorem seg_zero (m : List Int) (hm : m.length = 16) : seg m 0 = m :=
  list_ext16 _ _ (seg_len m 0) hm (fun i hi => by rw [seg_at m 0 i hi, Nat.mul_zero, Nat.zero_add]; exact W_start m hm i hi)
theorem exp_seg (m : List Int) (hm : m.length = 16) (j : Nat) : expN (seg m j) 16 = seg m (j + 1) :=
  list_ext16 _ _ ((expN_len _ _).trans (seg_len m j)) (seg_len m (j + 1)) (fun i hi => by
    rw [expN_at m hm j (seg m j) (seg_len m j) (fun i hi => seg_at m j i hi) 16 (Nat.le_refl _) i hi, if_pos hi, seg_at _ _ _ hi])

/-! rounds: K the constants -/
def rnd (K : Nat → Int) (w : Nat → Int) (s : St) : Nat → St
  | 0 => s
  | n + 1 => step (rnd K w s n) (K n) (w n)

theorem rnd_add (K w : Nat → Int) (s : St) (a : Nat) : ∀ b, rnd K w s (a + b) = rnd (fun i => K (a + i)) (fun i => w (a + i)) (rnd K w s a) b
  | 0 => rfl
  | b + 1 => by
    show step (rnd K w s (a + b)) _ _ = _
    rw [rnd_add K w s a b]
    rfl

theorem rnd_congr (K w K' w' : Nat → Int) (s : St) : ∀ n, (∀ i, i < n → K i = K' i ∧ w i = w' i) → rnd K w s n = rnd K' w' s n
  | 0, _ => rfl
  | n + 1, h => by
    show step _ _ _ = step _ _ _
    rw [rnd_congr K w K' w' s n (fun i hi => h i (by omega)), (h n (by omega)).1, (h n (by omega)).2]

/-- the program's sixteen rounds from `from` on over a row of words -/
def rnd16 (K : Nat → Int) (s : St) (b : Nat) (w : List Int) : St := rnd (fun i => K (b + i)) (fun i => w.getD i 0) s 16

theorem rnd_seg (K : Nat → Int) (m : List Int) (s : St) (j : Nat) : rnd16 K (rnd K (W m) s (16 * j)) (16 * j) (seg m j) = rnd K (W m) s (16 * (j + 1)) := by
  rw [show 16 * (j + 1) = 16 * j + 16 by omega, rnd_add]
  exact rnd_congr _ _ _ _ _ 16 (fun i hi => ⟨rfl, seg_at m j i hi⟩)

theorem rnd_first (K : Nat → Int) (m : List Int) (hm : m.length = 16) (s : St) : rnd16 K s 0 m = rnd K (W m) s (16 * 1) := by
  unfold rnd16
  exact rnd_congr _ _ _ _ _ 16 (fun i hi => ⟨by rw [Nat.zero_add], (W_start m hm i hi).symm⟩)

def blk (K : Nat → Int) (s : St) (m : List Int) : St := plus s (rnd K (W m) s 64)

/-! bytes -/
def word (l : List Nat) (t : Nat) : Int :=
  orI (orI (orI (w32 ((l.getD (4 * t) 0 : Int) * 16777216)) (w32 ((l.getD (4 * t + 1) 0 : Int) * 65536))) (w32 ((l.getD (4 * t + 2) 0 : Int) * 256))) (l.getD (4 * t + 3) 0 : Int)
def words (l : List Nat) : List Int := (List.range 16).map (word l)
theorem words_len (l : List Nat) : (words l).length = 16 := by simp [words]
theorem words_at (l : List Nat) (t : Nat) (h : t < 16) : (words l).getD t 0 = word l t := by
  simp [words, List.getD_eq_getElem?_getD, List.getElem?_range h]

theorem getD_take (l : List Nat) (n i : Nat) (h : i < n) : (l.take n).getD i 0 = l.getD i 0 := by
  simp [List.getD_eq_getElem?_getD, h]

theorem words_take (l : List Nat) (n : Nat) (h : 64 ≤ n) : words (l.take n) = words l := by
  unfold words
  apply List.map_congr_left
  intro t ht
  have := List.mem_range.1 ht
  unfold word
  rw [getD_take l n _ (by omega), getD_take l n _ (by omega), getD_take l n _ (by omega), getD_take l n _ (by omega)]

/-- the state behind n blocks -/
def run (K : Nat → Int) : Nat → St → List Nat → St
  | 0, s, _ => s
  | n + 1, s, l => run K n (blk K s (words l)) (l.drop 64)

theorem run_add (K : Nat → Int) (m : Nat) : ∀ (n : Nat) (s : St) (l : List Nat), run K (n + m) s l = run K m (run K n s l) (l.drop (64 * n))
  | 0, s, l => by simp [run]
  | n + 1, s, l => by
    rw [show n + 1 + m = (n + m) + 1 by omega]
    show run K (n + m) _ _ = run K m (run K n _ _) _
    rw [run_add K m n, List.drop_drop, show 64 + 64 * n = 64 * (n + 1) by omega]

theorem run_take (K : Nat → Int) : ∀ (n : Nat) (s : St) (l : List Nat) (k : Nat), 64 * n ≤ k → run K n s (l.take k) = run K n s l
  | 0, _, _, _, _ => rfl
  | n + 1, s, l, k, h => by
    show run K n _ _ = run K n _ _
    rw [words_take l k (by omega), List.drop_take, run_take K n _ _ _ (by omega)]

/-- as many complete blocks as there are -/
def runAll (K : Nat → Int) (s : St) (l : List Nat) : St := run K (l.length / 64) s l

theorem run_left (K : Nat → Int) (s : St) (l r : List Nat) (n : Nat) (h : 64 * n ≤ l.length) : run K n s (l ++ r) = run K n s l := by
  rw [← run_take K n s (l ++ r) (l.length) h, List.take_left]

theorem runAll_append (K : Nat → Int) (s : St) (l r : List Nat) (n : Nat) (h : l.length = 64 * n) : runAll K s (l ++ r) = runAll K (runAll K s l) r := by
  unfold runAll
  rw [List.length_append, h, show (64 * n + r.length) / 64 = n + r.length / 64 by omega, show 64 * n / 64 = n by omega, run_add, run_left K s l r n (by omega), ← h, List.drop_left]

theorem runAll_step (K : Nat → Int) (s : St) (l : List Nat) (h : 64 ≤ l.length) : runAll K s l = runAll K (blk K s (words l)) (l.drop 64) := by
  unfold runAll
  rw [List.length_drop, show l.length / 64 = (l.length - 64) / 64 + 1 by omega]
  rfl

theorem runAll_end (K : Nat → Int) (s : St) (l : List Nat) (h : l.length < 64) : runAll K s l = s := by
  unfold runAll
  rw [Nat.div_eq_of_lt h]
  rfl

/-- what follows the complete blocks -/
def tail (l : List Nat) : List Nat := l.drop (l.length / 64 * 64)
theorem tail_len (l : List Nat) : (tail l).length = l.length % 64 := by unfold tail; rw [List.length_drop]; omega
theorem tail_step (l : List Nat) (h : 64 ≤ l.length) : tail l = tail (l.drop 64) := by
  unfold tail
  rw [List.length_drop, List.drop_drop]
  congr 1
  omega
theorem tail_end (l : List Nat) (h : l.length < 64) : tail l = l := by
  unfold tail; rw [Nat.div_eq_of_lt h]; simp

/-- the number of bits, in eight bytes -/
def bitsOf (n : Nat) : List Nat := (List.range 8).map fun i => n * 8 / 2 ^ (8 * (7 - i)) % 256
theorem bitsOf_len (n : Nat) : (bitsOf n).length = 8 := by simp [bitsOf]

/-- the padded bytes -/
def pad (l : List Nat) : List Nat := l ++ 128 :: List.replicate ((119 - l.length % 64) % 64) 0 ++ bitsOf l.length
/-- the last one or two blocks -/
def lastB (r : List Nat) (n : Nat) : List Nat := r ++ 128 :: List.replicate ((119 - r.length) % 64) 0 ++ bitsOf n

theorem pad_split (l : List Nat) : pad l = l.take (l.length / 64 * 64) ++ lastB (tail l) l.length := by
  unfold pad lastB
  rw [tail_len]
  unfold tail
  rw [← List.append_assoc, ← List.append_assoc, List.take_append_drop]

theorem lastB_len (r : List Nat) (n : Nat) (h : r.length < 64) : (lastB r n).length = if 56 ≤ r.length then 128 else 64 := by
  unfold lastB
  simp only [List.length_append, List.length_cons, List.length_replicate, bitsOf_len]
  split <;> omega

theorem pad_len (l : List Nat) : (pad l).length % 64 = 0 := by
  unfold pad
  simp only [List.length_append, List.length_cons, List.length_replicate, bitsOf_len]
  omega

theorem runAll_pad (K : Nat → Int) (s : St) (l : List Nat) : runAll K s (pad l) = runAll K (runAll K s l) (lastB (tail l) l.length) := by
  rw [pad_split, runAll_append K s _ _ (l.length / 64) (by rw [List.length_take]; omega)]
  congr 1
  unfold runAll
  rw [List.length_take, show min (l.length / 64 * 64) l.length / 64 = l.length / 64 by omega, run_take K _ _ _ _ (by omega)]

/-- a piece more -/
theorem runAll_more (K : Nat → Int) (s : St) (tot l : List Nat) : runAll K s (tot ++ l) = runAll K (runAll K s tot) (tail tot ++ l) ∧ tail (tot ++ l) = tail (tail tot ++ l) := by
  have h0 : tot ++ l = tot.take (tot.length / 64 * 64) ++ (tail tot ++ l) := by unfold tail; rw [← List.append_assoc, List.take_append_drop]
  have hl : (tot.take (tot.length / 64 * 64)).length = 64 * (tot.length / 64) := by rw [List.length_take]; omega
  constructor
  · rw [h0, runAll_append K s _ _ (tot.length / 64) hl]
    congr 1
    unfold runAll
    rw [List.length_take, show min (tot.length / 64 * 64) tot.length / 64 = tot.length / 64 by omega, run_take K _ _ _ _ (by omega)]
  · conv => lhs; rw [h0]
    unfold tail
    rw [List.length_append, hl, List.length_append, List.length_drop, List.drop_append, hl]
    rw [List.drop_eq_nil_of_le (by rw [hl]; omega), List.nil_append]
    congr 1
    omega

def b4 (w : Int) : List Int := [w / 2 ^ 24 % 256, w / 2 ^ 16 % 256, w / 2 ^ 8 % 256, w % 256]
def stL (s : St) : List Int := [s.a, s.b, s.c, s.d, s.e, s.f, s.g, s.h]
def digest (s : St) : List Int := (stL s).flatMap b4
def init : St := ⟨0x6a09e667, 0xbb67ae85, 0x3c6ef372, 0xa54ff53a, 0x510e527f, 0x9b05688c, 0x1f83d9ab, 0x5be0cd19⟩
def sha (K : Nat → Int) (l : List Nat) : List Int := digest (runAll K init (pad l))
theorem sha_eq (K : Nat → Int) (l : List Nat) : sha K l = digest (runAll K (runAll K init l) (lastB (tail l) l.length)) := by rw [sha, runAll_pad]
theorem digest_len (s : St) : (digest s).length = 32 := rfl

def kL : List Int := [
  0x428a2f98, 0x71374491, 0xb5c0fbcf, 0xe9b5dba5, 0x3956c25b, 0x59f111f1, 0x923f82a4, 0xab1c5ed5,
  0xd807aa98, 0x12835b01, 0x243185be, 0x550c7dc3, 0x72be5d74, 0x80deb1fe, 0x9bdc06a7, 0xc19bf174,
  0xe49b69c1, 0xefbe4786, 0x0fc19dc6, 0x240ca1cc, 0x2de92c6f, 0x4a7484aa, 0x5cb0a9dc, 0x76f988da,
  0x983e5152, 0xa831c66d, 0xb00327c8, 0xbf597fc7, 0xc6e00bf3, 0xd5a79147, 0x06ca6351, 0x14292967,
  0x27b70a85, 0x2e1b2138, 0x4d2c6dfc, 0x53380d13, 0x650a7354, 0x766a0abb, 0x81c2c92e, 0x92722c85,
  0xa2bfe8a1, 0xa81a664b, 0xc24b8b70, 0xc76c51a3, 0xd192e819, 0xd6990624, 0xf40e3585, 0x106aa070,
  0x19a4c116, 0x1e376c08, 0x2748774c, 0x34b0bcb5, 0x391c0cb3, 0x4ed8aa4a, 0x5b9cca4f, 0x682e6ff3,
  0x748f82ee, 0x78a5636f, 0x84c87814, 0x8cc70208, 0x90befffa, 0xa4506ceb, 0xbef9a3f7, 0xc67178f2]
def K (t : Nat) : Int := kL.getD t 0
end S5
