/- Arrays of numbers that come in, of whatever kind; arrays of arrays of bytes. -/
import Derived.Test.YtgfolgmheinbiaaDoorRRRArr
namespace Go.Proofs.YtgfolgmheinbiaaDoorRRR
open Go.RowKit

def ksC (k : IntKind) (l : List Int) : Array Value := (l.map fun x => Value.int k x).toArray
theorem ksC_size (k : IntKind) (l : List Int) : (ksC k l).size = l.length := by simp [ksC]
theorem ksC_get (k : IntKind) (l : List Int) (i : Nat) (h : i < l.length) : (ksC k l)[i]? = some (.int k (l.getD i 0)) := by
  simp [ksC, List.getD_eq_getElem?_getD, List.getElem?_eq_getElem h]
theorem ksC_one (k : IntKind) (l : List Int) : (ksC k l).all (·.oneCell') = true := by
  simp [ksC, Value.oneCell']
theorem ksC_set (k : IntKind) (l : List Int) (i : Nat) (x : Int) : (ksC k l).setIfInBounds i (.int k x) = ksC k (l.set i x) := by
  unfold ksC
  apply Array.toList_inj.1
  rw [Array.toList_setIfInBounds, List.map_set]

/-- cells that are numbers, each by its own fact -/
theorem cells_ks (k : IntKind) (cs : Array Value) (n : Nat) (hsz : cs.size = n) (key : ∀ i, i < n → ∃ z : Int, cs[i]? = some (.int k z) ∧ (Lit.int k z).wf = true) :
    ∃ l : List Int, cs = ksC k l ∧ l.length = n ∧ ∀ z ∈ l, (Lit.int k z).wf = true := by
  have k2 : ∀ i, (hi : i < n) → ∃ z : Int, cs.toList[i]'(by simpa [hsz] using hi) = .int k z ∧ (Lit.int k z).wf = true := by
    intro i hi
    obtain ⟨z, e, h⟩ := key i hi
    rw [Array.getElem?_eq_getElem (by omega)] at e
    exact ⟨z, by simpa using Option.some.inj e, h⟩
  refine ⟨cs.toList.map fun v => match v with | .int _ z => z | _ => 0, ?_, by simp [hsz], ?_⟩
  · apply Array.toList_inj.1
    unfold ksC
    simp only [List.map_map]
    apply List.ext_getElem (by simp)
    intro i h1 h2
    have hi : i < n := by simpa [hsz] using h1
    obtain ⟨z, e, _⟩ := k2 i hi
    simp only [List.getElem_map, Function.comp_apply, e]
  · intro x hx
    simp only [List.mem_map] at hx
    obtain ⟨v, hv, rfl⟩ := hx
    obtain ⟨i, hi, rfl⟩ := List.mem_iff_getElem.1 hv
    have hi' : i < n := by simpa [hsz] using hi
    obtain ⟨z, e, h⟩ := k2 i hi'
    rw [e]
    exact h

set_option maxRecDepth 100000 in
/-- an array of numbers that comes in -/
theorem ints_open {H : Type} {enc : TypeId × Value → H} {W : World} {base base' : Nat} {sp : Nat → Bool} {t te : TypeId} {k : IntKind} {n : Nat} {v : Value} {d : DataW H} {p : List MemPlace}
    (ht : Tryd.prog.underlying t = some (.array n te)) (hte : Tryd.prog.underlying te = some (.int k)) (hc : Tryd.prog.cellsOf t = n) (hc1 : Tryd.prog.cellsOf te = 1) (hv : Value.okWide Tryd.prog W .any base t v) (h : DataW.Trod enc Tryd.prog W base' sp true t v d p) :
    ∃ l : List Int, v = .agg (ksC k l) ∧ l.length = n ∧ ∀ z ∈ l, (Lit.int k z).wf = true := by
  obtain ⟨cs, rfl, hsz, _⟩ : ∃ cs, v = .agg cs ∧ cs.size = Tryd.prog.cellsOf t ∧ Row.okWide Tryd.prog W .any base t cs := by
    simpa [Value.okWide, ht] using hv
  rw [hc] at hsz
  obtain ⟨fuel, hf⟩ := h
  obtain ⟨xs, m, _, _, _, hl, hel⟩ := DataW.trod_array ht hf
  simp only [Value.cells, hc1, Nat.mul_one] at hel
  obtain ⟨l, rfl, h1, h2⟩ := cells_ks k cs n hsz (fun i hi => by
    have h1 := hel i hi
    rw [List.getElem?_eq_getElem (by omega)] at h1
    obtain ⟨z, e, _, wf⟩ := DataW.trod_int hte h1
    exact ⟨z, getElem?_of_chunk e, wf⟩)
  exact ⟨l, rfl, h1, h2⟩

set_option maxRecDepth 100000 in
/-- an array of arrays of bytes that comes in -/
theorem arr2_open {H : Type} {enc : TypeId × Value → H} {W : World} {base base' : Nat} {sp : Nat → Bool} {t te : TypeId} {n m : Nat} {v : Value} {d : DataW H} {p : List MemPlace} (hm : 0 < m)
    (ht : Tryd.prog.underlying t = some (.array n te)) (hte : Tryd.prog.underlying te = some (.array m 5)) (hc : Tryd.prog.cellsOf t = n * m) (hcm : Tryd.prog.cellsOf te = m) (hv : Value.okWide Tryd.prog W .any base t v) (h : DataW.Trod enc Tryd.prog W base' sp true t v d p) :
    ∃ l : List Nat, v = .agg (bsC (l.map fun (x : Nat) => (x : Int))) ∧ l.length = n * m ∧ ∀ x ∈ l, x < 256 := by
  obtain ⟨cs, rfl, hsz, _⟩ : ∃ cs, v = .agg cs ∧ cs.size = Tryd.prog.cellsOf t ∧ Row.okWide Tryd.prog W .any base t cs := by
    simpa [Value.okWide, ht] using hv
  rw [hc] at hsz
  obtain ⟨fuel, hf⟩ := h
  obtain ⟨xs, f, _, _, _, hl, hel⟩ := DataW.trod_array ht hf
  simp only [Value.cells, hcm] at hel
  obtain ⟨l, e, h1, h2⟩ := cells_ks .u8 cs (n * m) hsz (fun i hi => by
    have hq : i / m < n := Nat.div_lt_of_lt_mul (by rw [Nat.mul_comm]; exact hi)
    have h1 := hel (i / m) hq
    rw [List.getElem?_eq_getElem (by omega)] at h1
    obtain ⟨ys, f2, _, _, _, hl2, hel2⟩ := DataW.trod_array hte h1
    have hr : i % m < m := Nat.mod_lt _ hm
    have h3 := hel2 (i % m) hr
    rw [List.getElem?_eq_getElem (by omega)] at h3
    obtain ⟨z, e, _, wf⟩ := DataW.trod_int Tryd.underlying5 h3
    refine ⟨z, ?_, wf⟩
    simp only [cellsU8', Nat.mul_one] at e
    have e2 := congrArg (·[0]?) e
    simp only [List.getElem?_cons_zero, List.getElem?_take, List.getElem?_drop, Nat.lt_add_one, if_true, Nat.add_zero, hr] at e2
    have hi2 : i / m * m + i % m = i := by rw [Nat.mul_comm]; exact Nat.div_add_mod i m
    rw [hi2] at e2
    rw [← Array.getElem?_toList]
    exact e2)
  subst e
  have hb : ∀ z ∈ l, 0 ≤ z ∧ z ≤ 255 := fun z hz => bounds_u8 (h2 z hz)
  refine ⟨l.map Int.toNat, ?_, by simpa using h1, ?_⟩
  · unfold bsC ksC
    congr 2
    rw [List.map_map, List.map_map]
    apply List.map_congr_left
    intro z hz
    have := hb z hz
    simp
    omega
  · intro x hx
    obtain ⟨z, hz, rfl⟩ := List.mem_map.1 hx
    have := hb z hz
    omega
end Go.Proofs.YtgfolgmheinbiaaDoorRRR
