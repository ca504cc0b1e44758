/- Signatures that serve once, in plain numbers: halves of digests, chains, digits. -/
import Derived.Test.YtgfolgmheinbiaaDoorRRRHalf
namespace S7
def half (l : List Nat) : List Nat := ((S5.sha S5.K l).take 16).map Int.toNat
theorem half_spec (l : List Nat) : (half l).map (fun (x : Nat) => (x : Int)) = (S5.sha S5.K l).take 16 ∧ (half l).length = 16 ∧ ∀ x ∈ half l, x < 256 := by
  obtain ⟨d, hd, hl, hb⟩ := S5.sha_nat l
  have e : half l = d.take 16 := by
    unfold half
    rw [hd, ← List.map_take, List.map_map]
    conv => rhs; rw [← List.map_id (d.take 16)]
    apply List.map_congr_left
    intro x _
    simp
  refine ⟨by rw [e, hd, List.map_take], by rw [e, List.length_take, hl]; rfl, fun x hx => hb x ?_⟩
  rw [e] at hx
  exact List.mem_of_mem_take hx
theorem half_len (l : List Nat) : (half l).length = 16 := (half_spec l).2.1
theorem half_lt (l : List Nat) : ∀ x ∈ half l, x < 256 := (half_spec l).2.2
def hd (t leaf : Nat) : List Nat := [t, 0, 0, leaf / 256, leaf % 256]
def step (leaf c k : Nat) (v : List Nat) : List Nat := half (hd 3 leaf ++ [c, k] ++ v)
def adv (leaf c from' : Nat) : Nat → List Nat → List Nat
  | 0, v => v
  | n + 1, v => step leaf c (from' + n) (adv leaf c from' n v)
def sec (seed : List Nat) (leaf c : Nat) : List Nat := half (hd 2 leaf ++ [c] ++ seed)
def comp (leaf : Nat) (ends : List Nat) : List Nat := half (hd 4 leaf ++ ends)
theorem adv_len (leaf c a : Nat) (n : Nat) (v : List Nat) (h : v.length = 16) : (adv leaf c a n v).length = 16 := by
  cases n with
  | zero => exact h
  | succ n => exact half_len _
theorem adv_lt (leaf c a : Nat) (n : Nat) (v : List Nat) (h : ∀ x ∈ v, x < 256) : ∀ x ∈ adv leaf c a n v, x < 256 := by
  cases n with
  | zero => exact h
  | succ n => exact half_lt _
theorem adv_add (leaf c a : Nat) (n : Nat) (v : List Nat) : ∀ m, adv leaf c a (n + m) v = adv leaf c (a + n) m (adv leaf c a n v)
  | 0 => rfl
  | m + 1 => by
    rw [show n + (m + 1) = (n + m) + 1 by omega, adv, adv_add leaf c a n v m, adv, Nat.add_assoc]
/-- the digits of a digest -/
def nibs : List Nat → List Nat
  | [] => []
  | b :: d => b / 16 :: b % 16 :: nibs d
theorem nibs_len : ∀ d : List Nat, (nibs d).length = 2 * d.length
  | [] => rfl
  | b :: d => by rw [nibs, List.length_cons, List.length_cons, nibs_len d, List.length_cons]; omega
def gap : List Nat → Nat
  | [] => 0
  | x :: l => (15 - x) + gap l
def split (d : List Nat) : List Nat := nibs d ++ [gap (nibs d) / 256, gap (nibs d) / 16 % 16, gap (nibs d) % 16]
theorem split_len (d : List Nat) (h : d.length = 16) : (split d).length = 35 := by unfold split; rw [List.length_append, nibs_len, h]; rfl
theorem nibs_lt : ∀ (d : List Nat), (∀ x ∈ d, x < 256) → ∀ y ∈ nibs d, y ≤ 15
  | [], _, y, hy => by cases hy
  | b :: d, h, y, hy => by
    have hb := h b (by simp)
    rw [nibs, List.mem_cons, List.mem_cons] at hy
    rcases hy with rfl | rfl | hy
    · omega
    · omega
    · exact nibs_lt d (fun x hx => h x (by simp [hx])) y hy
theorem gap_le : ∀ l : List Nat, gap l ≤ 15 * l.length
  | [] => Nat.le_refl _
  | x :: l => by have := gap_le l; rw [gap, List.length_cons]; omega
/-- the first place at which b's digit is lower -/
def low : List Nat → List Nat → Option Nat
  | x :: a, y :: b => if y < x then some 0 else (low a b).map (· + 1)
  | _, _ => none
theorem low_some : ∀ (x y : List Nat) (i : Nat), i < x.length → i < y.length → (∀ j, j < i → x.getD j 0 ≤ y.getD j 0) → y.getD i 0 < x.getD i 0 → low x y = some i
  | [], _, _, h, _, _, _ => by cases h
  | _ :: _, [], _, _, h, _, _ => by cases h
  | a :: x, b :: y, 0, _, _, _, h => by
    have h : b < a := by simpa using h
    rw [low, if_pos h]
  | a :: x, b :: y, i + 1, h1, h2, h3, h4 => by
    have h0 : a ≤ b := by simpa using h3 0 (by omega)
    rw [low, if_neg (by omega), low_some x y i (by simpa using h1) (by simpa using h2) (fun j hj => by simpa using h3 (j + 1) (by omega)) (by simpa using h4)]
    rfl
theorem low_all : ∀ (x y : List Nat), (∀ j, j < x.length → x.getD j 0 ≤ y.getD j 0) → low x y = none
  | [], _, _ => by unfold low; rfl
  | _ :: _, [], _ => by unfold low; rfl
  | a :: x, b :: y, h => by
    have h0 : a ≤ b := by simpa using h 0 (by simp)
    rw [low, if_neg (by omega), low_all x y (fun j hj => by simpa using h (j + 1) (by simpa using hj))]
    rfl
theorem low_app : ∀ (a1 b1 a2 b2 : List Nat), a1.length = b1.length → low (a1 ++ a2) (b1 ++ b2) = none → low a1 b1 = none ∧ low a2 b2 = none
  | [], [], _, _, _, h => ⟨by unfold low; rfl, h⟩
  | [], _ :: _, _, _, h, _ => by cases h
  | _ :: _, [], _, _, h, _ => by cases h
  | x :: a1, y :: b1, a2, b2, hl, h => by
    rw [List.cons_append, List.cons_append, low] at h
    by_cases hxy : y < x
    · rw [if_pos hxy] at h; cases h
    · rw [if_neg hxy, Option.map_eq_none_iff] at h
      obtain ⟨h1, h2⟩ := low_app a1 b1 a2 b2 (by simpa using hl) h
      exact ⟨by rw [low, if_neg hxy, h1]; rfl, h2⟩
theorem gap_mono : ∀ (a b : List Nat), low a b = none → a.length = b.length → (∀ y ∈ b, y ≤ 15) → gap b ≤ gap a ∧ (gap b = gap a → a = b)
  | [], [], _, _, _ => ⟨Nat.le_refl _, fun _ => rfl⟩
  | [], _ :: _, _, h, _ => by cases h
  | _ :: _, [], _, h, _ => by cases h
  | x :: a, y :: b, h, hl, hb => by
    rw [low] at h
    by_cases hxy : y < x
    · rw [if_pos hxy] at h; cases h
    · rw [if_neg hxy, Option.map_eq_none_iff] at h
      obtain ⟨h1, h2⟩ := gap_mono a b h (by simpa using hl) (fun z hz => hb z (by simp [hz]))
      have hy := hb y (by simp)
      rw [gap, gap]
      refine ⟨by omega, fun he => ?_⟩
      rw [h2 (by omega), show x = y by omega]
theorem nibs_inj : ∀ (a b : List Nat), nibs a = nibs b → a = b
  | [], [], _ => rfl
  | [], _ :: _, h => by cases h
  | _ :: _, [], h => by cases h
  | x :: a, y :: b, h => by
    rw [nibs, nibs] at h
    obtain ⟨h1, h⟩ := List.cons.inj h
    obtain ⟨h2, h⟩ := List.cons.inj h
    rw [nibs_inj a b h, show x = y by omega]
theorem low3 (g f : Nat) (h : low [g / 256, g / 16 % 16, g % 16] [f / 256, f / 16 % 16, f % 16] = none) : g ≤ f := by
  unfold low at h
  by_cases h1 : f / 256 < g / 256
  · rw [if_pos h1] at h; cases h
  rw [if_neg h1, Option.map_eq_none_iff] at h
  unfold low at h
  by_cases h2 : f / 16 % 16 < g / 16 % 16
  · rw [if_pos h2] at h; cases h
  rw [if_neg h2, Option.map_eq_none_iff] at h
  unfold low at h
  by_cases h3 : f % 16 < g % 16
  · rw [if_pos h3] at h; cases h
  omega
/-- of two different digests each has a digit that is lower in the other one -/
theorem order (a b : List Nat) (ha : a.length = 16) (hb : b.length = 16) (hbb : ∀ x ∈ b, x < 256) (h : low (split a) (split b) = none) : a = b := by
  unfold split at h
  obtain ⟨h1, h2⟩ := low_app _ _ _ _ (by rw [nibs_len, nibs_len, ha, hb]) h
  obtain ⟨h3, h4⟩ := gap_mono _ _ h1 (by rw [nibs_len, nibs_len, ha, hb]) (nibs_lt b hbb)
  exact nibs_inj _ _ (h4 (Nat.le_antisymm h3 (low3 _ _ h2)))
theorem low_self : ∀ a : List Nat, low a a = none
  | [] => by unfold low; rfl
  | x :: a => by rw [low, if_neg (by omega), low_self a]; rfl
end S7
