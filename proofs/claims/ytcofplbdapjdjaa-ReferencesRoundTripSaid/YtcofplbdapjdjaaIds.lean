/- Lists of identities in memory: a slice of arrays of 32 bytes reads as a list; opened where it comes in. -/
import Derived.Test.YtcofplbdapjdjaaCmp
import Derived.Deep.Slices
namespace Mid
/-- an identity -/
def Id : Type := {l : List Nat // l.length = 32 ∧ ∀ x ∈ l, x < 256}
instance : DecidableEq Id := inferInstanceAs (DecidableEq {l : List Nat // l.length = 32 ∧ ∀ x ∈ l, x < 256})
instance : Inhabited Id := ⟨⟨zN, zN_len, zN_lt⟩⟩
end Mid
namespace Go.Proofs.Ytcofplbdapjdjaa
open Go.RowKit Go.ChangeShapes

/-- the cells of an identity -/
def encI (x : Mid.Id) : List Value := x.1.map fun (n : Nat) => Value.int .u8 n
theorem encI_len (x : Mid.Id) : (encI x).length = 32 := by simp [encI, x.2.1]
theorem encI_one (x : Mid.Id) : ∀ v ∈ encI x, v.oneCell' = true := by
  intro v hv
  simp only [encI, List.mem_map] at hv
  obtain ⟨n, _, rfl⟩ := hv
  rfl
theorem encI_arr (x : Mid.Id) : (encI x).toArray = bsC (nI x.1) := by
  unfold encI bsC nI
  rw [List.map_map]
  rfl
theorem encI_inj {x y : Mid.Id} (h : encI x = encI y) : x = y := by
  apply Subtype.ext
  have hi : ∀ a b : Nat, (Value.int .u8 (a : Int)) = Value.int .u8 (b : Int) → a = b := fun a b h => by injection h with _ h; omega
  exact (List.map_inj_right hi).1 h

/-- the cells of a list of identities from a place on -/
def IdsC (w : World) (b off : Nat) (ls : List Mid.Id) : Prop := ∀ j, j < ls.length → ∀ i v, (encI ls[j]!)[i]? = some v → w.cell? ⟨b, off + j * 32 + i, none⟩ = some v
/-- A SLICE OF IDENTITIES READS AS A LIST -/
def Ids (w : World) (v : Value) (ls : List Mid.Id) : Prop :=
  ∃ x cap, v = .slice x ls.length cap ∧ ls.length ≤ cap ∧ cap ≤ maxLen ∧ (x = none → cap = 0) ∧ (ls = [] ∨ ∃ b off, x = some ⟨b, off, none⟩ ∧ IdsC w b off ls)

theorem IdsC.lt {w : World} {b off : Nat} {ls : List Mid.Id} (h : IdsC w b off ls) (hn : ls ≠ []) : b < w.heap.size := by
  have h0 : 0 < ls.length := List.length_pos_iff.2 hn
  have hl := encI_len ls[0]!
  exact World.block_lt_of_cell? w _ (h 0 h0 0 _ (List.getElem?_eq_getElem (by omega)))
theorem IdsC.keep {B : Nat} {w w' : World} {b off : Nat} {ls : List Mid.Id} (h : IdsC w b off ls) (hb : Below B w w') (hB : b < B) : IdsC w' b off ls :=
  fun j hj i v hv => (hb.cell (p := ⟨b, off + j * 32 + i, none⟩) hB).trans (h j hj i v hv)
theorem Ids.below {w w' : World} {v : Value} {ls : List Mid.Id} (h : Ids w v ls) (hb : Below w.heap.size w w') : Ids w' v ls := by
  obtain ⟨x, cap, hv, h1, h2, h3, h4⟩ := h
  refine ⟨x, cap, hv, h1, h2, h3, ?_⟩
  rcases h4 with h4 | ⟨b, off, hx, hc⟩
  · exact .inl h4
  · by_cases hn : ls = []
    · exact .inl hn
    · exact .inr ⟨b, off, hx, hc.keep hb (hc.lt hn)⟩
theorem Ids.drew {w : World} {v : Value} {ls : List Mid.Id} (h : Ids w v ls) : Ids w.drew v ls := h
theorem Ids.nil (w : World) : Ids w (.slice none 0 0) [] := ⟨none, 0, rfl, Nat.le_refl _, by unfold maxLen; omega, fun _ => rfl, .inl rfl⟩

theorem getE (ls : List Mid.Id) (j : Nat) (h : j < ls.length) : ls[j]! = ls[j] := getElem!_pos ls j h
theorem Ids.take {w : World} {x : Option Addr} {n c : Nat} {ls : List Mid.Id} (h : Ids w (.slice x n c) ls) (q : Nat) (hq : q ≤ ls.length) : Ids w (.slice x q c) (ls.take q) := by
  obtain ⟨y, cap, hv, h1, h2, h3, h4⟩ := h
  cases hv
  have hl : (ls.take q).length = q := by rw [List.length_take]; omega
  refine ⟨x, c, by rw [hl], by rw [hl]; omega, h2, h3, ?_⟩
  rcases h4 with h4 | ⟨b, off, hx, hc⟩
  · left; rw [h4]; simp
  · right
    refine ⟨b, off, hx, fun j hj i v hv => hc j (by rw [hl] at hj; omega) i v ?_⟩
    rw [hl] at hj
    rw [getE _ j (by rw [hl]; exact hj), List.getElem_take] at hv
    rw [getE _ j (by omega)]
    exact hv

theorem cellsId : Try.prog.cellsOf 46 = 32 := by kernel_rfl

/-- one element's cells, as an identity -/
theorem id_of {H : Type} {enc : TypeId × Value → H} {w : World} {base : Nat} {spare : Nat → Bool} {n : Nat} {cs : List Value} {y : DataW H × List MemPlace}
    (h : DataW.trod enc Try.prog w base spare true n 46 cs = some y) : ∃ x : Mid.Id, cs = encI x := by
  obtain ⟨xs, m, _, _, hl, hxl, hel⟩ := DataW.trod_array Try.underlying46 h
  rw [cellsId] at hl
  rw [cellsU8'] at hel
  have key : ∀ i, (hi : i < 32) → ∃ z : Nat, cs[i]? = some (.int .u8 (z : Int)) ∧ z < 256 := by
    intro i hi
    have h1 := hel i hi
    rw [List.getElem?_eq_getElem (by omega)] at h1
    obtain ⟨z, e, _, wf⟩ := DataW.trod_int Try.underlying5 h1
    have hb := bounds_u8 wf
    refine ⟨z.toNat, ?_, by omega⟩
    have e2 : cs[i]? = some (.int .u8 z) := by
      have h9 := getElem?_of_chunk (xs := cs.toArray) (off := i) (c := 1) (a := .int .u8 z) (by simpa using e)
      simpa using h9
    rw [e2]
    congr 2
    omega
  refine ⟨⟨cs.map fun v => match v with | .int _ z => z.toNat | _ => 0, by simp [hl], ?_⟩, ?_⟩
  · intro x hx
    simp only [List.mem_map] at hx
    obtain ⟨v, hv, rfl⟩ := hx
    obtain ⟨i, hi, rfl⟩ := List.mem_iff_getElem.1 hv
    obtain ⟨z, e, hz⟩ := key i (by omega)
    rw [List.getElem?_eq_getElem hi] at e
    rw [Option.some.inj e]
    simpa using hz
  · unfold encI
    rw [List.map_map]
    apply List.ext_getElem (by simp)
    intro i h1 h2
    obtain ⟨z, e, hz⟩ := key i (by omega)
    rw [List.getElem?_eq_getElem h1] at e
    rw [List.getElem_map]
    simp [Option.some.inj e]

theorem ids_open {H : Type} {enc : TypeId × Value → H} {W : World} {base : Nat} {a : Option Addr} {len cap : Nat} {d : DataW H} {p : List MemPlace}
    (h : DataW.Trod enc Try.prog W base (fun _ => true) true 27 (.slice a len cap) d p) : ∃ ls, Ids W (.slice a len cap) ls ∧ ls.length = len := by
  obtain ⟨fuel, hf⟩ := h
  rcases DataW.trod_slice Try.underlying27 hf with ⟨h0, _⟩ | ⟨ad, l, c, elems, rest, n, _, hcs, _, hb, hl, hm, hlen, hel, _, _⟩
  · simp [Value.cells] at h0
    obtain ⟨rfl, rfl, rfl⟩ := h0
    exact ⟨[], Ids.nil W, rfl⟩
  · simp [Value.cells] at hcs
    obtain ⟨rfl, rfl, rfl⟩ := hcs
    have each : ∀ j, j < len → ∃ x : Mid.Id, ∀ i, i < 32 → W.cell? ((ad.add (j * 32)).add i) = (encI x)[i]? := by
      intro j hj
      have h1 := hel j hj
      rw [cellsId, List.getElem?_eq_getElem (by omega), Option.bind_eq_some_iff] at h1
      obtain ⟨cs, hc, ht⟩ := h1
      obtain ⟨x, rfl⟩ := id_of ht
      exact ⟨x, (World.cells?_some hc).2.2⟩
    have hch : ∃ f : Nat → Mid.Id, ∀ j, j < len → ∀ i, i < 32 → W.cell? ((ad.add (j * 32)).add i) = (encI (f j))[i]? := by
      refine ⟨fun j => if h : j < len then Classical.choose (each j h) else default, fun j hj => ?_⟩
      simp only [dif_pos hj]
      exact Classical.choose_spec (each j hj)
    obtain ⟨f, hfj⟩ := hch
    have hll : ((List.range len).map f).length = len := by simp
    refine ⟨(List.range len).map f, ⟨some ad, cap, by rw [hll], by rw [hll]; exact hl, hm, (fun h => by cases h), ?_⟩, hll⟩
    by_cases h0 : len = 0
    · left; rw [h0]; rfl
    · right
      have hsp : ad.spot = none := by
        have h1 := hfj 0 (by omega) 0 (by omega)
        have hl0 := encI_len (f 0)
        rw [List.getElem?_eq_getElem (by omega)] at h1
        have e : (ad.add (0 * 32)).add 0 = ad := by simp [Addr.add]
        rw [e] at h1
        exact World.cell?_spot h1
      obtain ⟨b, off, sp⟩ := ad
      simp only at hsp
      subst hsp
      refine ⟨b, off, rfl, fun j hj i v hv => ?_⟩
      rw [hll] at hj
      have hi : i < 32 := by
        have := (List.getElem?_eq_some_iff.1 hv).1
        rwa [encI_len] at this
      have h1 := hfj j hj i hi
      rw [addr_add, addr_add] at h1
      rw [getE _ j (by rw [hll]; exact hj)] at hv
      simp only [List.getElem_map, List.getElem_range] at hv
      rw [h1, hv]
end Go.Proofs.Ytcofplbdapjdjaa
