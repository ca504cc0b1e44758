/- slices.Compact over identities, as it is cut here. -/
import Derived.Test.YtcofplbdapjdjaaFlat
import Derived.Lib.SliceRun
import Derived.Deep.Upon
namespace Mid
/-- the first m elements, without those that equal the one before them -/
def dd (ls : List Id) : Nat → List Id
  | 0 => []
  | 1 => ls.take 1
  | m + 2 => if ls[m + 1]! = ls[m]! then dd ls (m + 1) else dd ls (m + 1) ++ [ls[m + 1]!]
theorem dd_succ (ls : List Id) (m : Nat) (h : 1 ≤ m) : dd ls (m + 1) = if ls[m]! = ls[m - 1]! then dd ls m else dd ls m ++ [ls[m]!] := by
  obtain ⟨k, rfl⟩ : ∃ k, m = k + 1 := ⟨m - 1, by omega⟩
  rfl
theorem dd_len (ls : List Id) : ∀ m, (dd ls m).length ≤ m
  | 0 => Nat.le_refl _
  | 1 => by simp [dd]; omega
  | m + 2 => by
    have := dd_len ls (m + 1)
    rw [dd]
    split
    · omega
    · rw [List.length_append]; simp; omega
/-- as long as no two neighbours are equal, it is the list itself -/
theorem dd_plain (ls : List Id) : ∀ m, m ≤ ls.length → (∀ j, 1 ≤ j → j < m → ls[j]! ≠ ls[j - 1]!) → dd ls m = ls.take m
  | 0, _, _ => by simp [dd]
  | 1, _, _ => rfl
  | m + 2, h, hj => by
    have ih := dd_plain ls (m + 1) (by omega) (fun j h1 h2 => hj j h1 (by omega))
    have hne : ls[m + 1]! ≠ ls[m]! := hj (m + 1) (by omega) (by omega)
    rw [dd, if_neg hne, ih, List.take_succ_eq_append_getElem (show m + 1 < ls.length by omega), getElem!_pos ls (m + 1) (by omega)]
theorem dd_mem (ls : List Id) (x : Id) : ∀ m, m ≤ ls.length → (x ∈ dd ls m ↔ x ∈ ls.take m)
  | 0, _ => by simp [dd]
  | 1, _ => by rfl
  | m + 2, h => by
    have ih := dd_mem ls x (m + 1) (by omega)
    rw [List.take_succ_eq_append_getElem (show m + 1 < ls.length by omega), List.mem_append, List.mem_singleton, dd, ← getElem!_pos ls (m + 1) (by omega)]
    by_cases e : ls[m + 1]! = ls[m]!
    · rw [if_pos e, ih]
      constructor
      · intro h1; exact .inl h1
      · rintro (h1 | h1)
        · exact h1
        · rw [h1, e, getElem!_pos ls m (by omega)]
          exact List.mem_take_iff_getElem.2 ⟨m, by omega, rfl⟩
    · rw [if_neg e, List.mem_append, List.mem_singleton, ih]
end Mid
namespace Go.Proofs.Ytcofplbdapjdjaa
open Go.RowKit

/-- a row of identities that may be written, behind what lay before -/
def Mrow (base : Nat) (w0 w : World) (g off : Nat) (M : List Mid.Id) : Prop :=
  base ≤ g ∧ g < w.heap.size ∧ IdsC w g off M ∧ w.there g off (M.length * 32) ∧ Below base w0 w

theorem Mrow.drew {base : Nat} {w0 w : World} {g off : Nat} {M : List Mid.Id} (h : Mrow base w0 w g off M) : Mrow base w0 w.drew g off M := ⟨h.1, h.2.1, h.2.2.1, h.2.2.2.1, h.2.2.2.2.drew⟩
theorem setCells_block (b : Nat) : ∀ (vs : List Value) (o : Nat) (w : World) (k : Nat), k ≠ b → (w.setCells b o vs).heap[k]? = w.heap[k]?
  | [], _, _, _, _ => rfl
  | v :: vs, o, w, k, h => by
    rw [World.setCells, setCells_block b vs (o + 1) _ k h]
    exact heap_setCell_other w ⟨b, o, none⟩ k v h
theorem setCells_size (b : Nat) : ∀ (vs : List Value) (o : Nat) (w : World), (w.setCells b o vs).heap.size = w.heap.size
  | [], _, _ => rfl
  | v :: vs, o, w => by rw [World.setCells, setCells_size b vs (o + 1)]; simp
theorem below_setCells {base : Nat} {w0 w : World} (h : Below base w0 w) (g o : Nat) (hg : base ≤ g) (vs : List Value) : Below base w0 (w.setCells g o vs) := by
  induction vs generalizing o w with
  | nil => exact h
  | cons v vs ih => rw [World.setCells]; exact ih (h.setCell (p := ⟨g, o, none⟩) hg v) (o + 1)

theorem Mrow.put {base : Nat} {w0 w : World} {g off : Nat} {M : List Mid.Id} (h : Mrow base w0 w g off M) (k : Nat) (hk : k < M.length) (y : Mid.Id) : Mrow base w0 (w.setCells g (off + k * 32) (encI y)) g off (M.set k y) := by
  refine ⟨h.1, by rw [setCells_size]; exact h.2.1, fun j hj i v hv => ?_, by rw [List.length_set]; exact World.there_setCells h.2.2.2.1 _ _ _, below_setCells h.2.2.2.2 g _ h.1 _⟩
  have hj2 : j < M.length := by rwa [List.length_set] at hj
  have hi : i < 32 := by
    have := (List.getElem?_eq_some_iff.1 hv).1
    rwa [encI_len] at this
  rw [getE _ j hj] at hv
  by_cases e : k = j
  · subst e
    rw [List.getElem_set_self] at hv
    have hin := World.cell?_setCells_in g (encI y) (off + k * 32) w (fun j' hj' => by
      rw [encI_len] at hj'
      have := (h.2.2.2.1 (k * 32 + j') (by omega)).1
      rwa [← Nat.add_assoc] at this) i (by rw [encI_len]; exact hi)
    rw [hin]
    rw [List.getElem?_eq_getElem (by rw [encI_len]; exact hi)] at hv
    exact hv
  · rw [List.getElem_set_ne e] at hv
    rw [World.cell?_setCells_out g (encI y) (off + k * 32) w ⟨g, off + j * 32 + i, none⟩ (fun _ _ => by rw [encI_len]; simp only; omega)]
    exact h.2.2.1 j hj2 i v (by rw [getE _ j hj2]; exact hv)

theorem set_take_keep (M : List Mid.Id) (k : Nat) (y : Mid.Id) (hk : k < M.length) : (M.set k y).take (k + 1) = M.take k ++ [y] := by
  rw [List.take_succ_eq_append_getElem (by rw [List.length_set]; exact hk), List.getElem_set_self, List.take_set_of_le (Nat.le_refl k)]
theorem set_get_far (M : List Mid.Id) (k j : Nat) (y : Mid.Id) (h : k ≠ j) : (M.set k y)[j]! = M[j]! := by
  simp only [getElem!_def, List.getElem?_set_ne h]

theorem zeroId (w : World) : (zeroValue 46).run Try.prog w = .ok (.agg (bsC zD)) w := by kernel_rfl

/-- clear of a row's end -/
theorem run_clear_any (w : World) (t ty : TypeId) (ht : Try.prog.underlying t = some (.slice 46)) (Z : Array Value) (hZ : Z.size = 32) (hv : ∀ w, (zeroValue 46).run Try.prog w = .ok (.agg Z) w) (hone' : ∀ v ∈ Z.toList, v.oneCell' = true) (b o n c : Nat) (hn : 0 < n) (hth : w.there b o (n * 32)) :
    ∃ vs : List Value, vs.length = n * 32 ∧ (Builtin.clear_ #[t] ty #[.slice (some ⟨b, o, none⟩) n c]).run Try.prog w = .ok (.tuple #[]) (w.setCells b o vs) := by
  obtain ⟨m, rfl⟩ : ∃ m, n = m + 1 := ⟨n - 1, by omega⟩
  have hlen : (Builtin.zeroCells Z (m + 1)).toList.length = (m + 1) * 32 := by
    simp [Builtin.zeroCells, hZ]
  have hone : ∀ v ∈ (Builtin.zeroCells Z (m + 1)).toList, v.oneCell' = true := by
    intro v hv
    simp only [Builtin.zeroCells, Array.toList_map, List.mem_map] at hv
    obtain ⟨i, _, rfl⟩ := hv
    have hi : i % Z.size < Z.size := Nat.mod_lt _ (by omega)
    rw [getElem!_pos Z _ hi]
    exact hone' _ (by simp)
  have hst := run_storeCells_cells (P := Try.prog) b o (Builtin.zeroCells Z (m + 1)).toList 0 w (fun j hj => by rw [Nat.add_zero]; exact (hth j (by rw [hlen] at hj; exact hj)).1) (fun j hj => by rw [Nat.add_zero]; exact (hth j (by rw [hlen] at hj; exact hj)).2) hone
  simp only [Nat.add_zero] at hst
  refine ⟨_, hlen, ?_⟩
  simp [Builtin.clear_, run_underlying ht, hv, Value.cells, hst]
theorem run_clear_ids (w : World) (t ty : TypeId) (ht : Try.prog.underlying t = some (.slice 46)) (b o n c : Nat) (hn : 0 < n) (hth : w.there b o (n * 32)) :
    ∃ vs : List Value, vs.length = n * 32 ∧ (Builtin.clear_ #[t] ty #[.slice (some ⟨b, o, none⟩) n c]).run Try.prog w = .ok (.tuple #[]) (w.setCells b o vs) :=
  run_clear_any w t ty ht (bsC zD) (by rw [bsC_size, zD_len]) zeroId (fun v hv => by
    have h := bsC_one zD
    rw [Array.all_eq_true_iff_forall_mem] at h
    exact h v (by simpa using hv)) b o n c hn hth
end Go.Proofs.Ytcofplbdapjdjaa
