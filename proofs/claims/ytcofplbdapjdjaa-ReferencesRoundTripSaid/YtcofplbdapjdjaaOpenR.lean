/- Lists of the reference's identities, opened where they come in. -/
import Derived.Test.YtcofplbdapjdjaaFrame
import Derived.SizedLaws
namespace Go.Proofs.Ytcofplbdapjdjaa
open Go.RowKit Go.ChangeShapes

theorem cellsRid : Try.prog.cellsOf 48 = 32 := by kernel_rfl

/-- one element's cells, as an identity -/
theorem id_ofR {H : Type} {enc : TypeId × Value → H} {w : World} {base : Nat} {spare : Nat → Bool} {n : Nat} {cs : List Value} {y : DataW H × List MemPlace}
    (h : DataW.trod enc Try.prog w base spare true n 48 cs = some y) : ∃ x : Mid.Id, cs = encI x := by
  obtain ⟨xs, m, _, _, hl, hxl, hel⟩ := DataW.trod_array Try.underlying48 h
  rw [cellsRid] at hl
  rw [cellsU8'] at hel
  have key : ∀ i, (hi : i < 32) → ∃ z : Nat, cs[i]? = some (.int .u8 (z : Int)) ∧ z < 256 := by
    intro i hi
    have h1 := hel i hi
    rw [List.getElem?_eq_getElem (by omega)] at h1
    obtain ⟨z, e, _, wf⟩ := DataW.trod_int Try.underlying5 h1
    have hb := bounds_u8 wf
    refine ⟨z.toNat, ?_, by omega⟩
    have e2 : cs[i]? = some (.int .u8 z) := by
      have h9 := getElem?_of_chunk (xs := cs.toArray) (off := i) (c := 1) (a := .int .u8 z) (by simpa using e)
      simpa using h9
    rw [e2]
    congr 2
    omega
  refine ⟨⟨cs.map fun v => match v with | .int _ z => z.toNat | _ => 0, by simp [hl], ?_⟩, ?_⟩
  · intro x hx
    simp only [List.mem_map] at hx
    obtain ⟨v, hv, rfl⟩ := hx
    obtain ⟨i, hi, rfl⟩ := List.mem_iff_getElem.1 hv
    obtain ⟨z, e, hz⟩ := key i (by omega)
    rw [List.getElem?_eq_getElem hi] at e
    rw [Option.some.inj e]
    simpa using hz
  · unfold encI
    rw [List.map_map]
    apply List.ext_getElem (by simp)
    intro i h1 h2
    obtain ⟨z, e, hz⟩ := key i (by omega)
    rw [List.getElem?_eq_getElem h1] at e
    rw [List.getElem_map]
    simp [Option.some.inj e]

theorem ids_openR {H : Type} {enc : TypeId × Value → H} {W : World} {base : Nat} {a : Option Addr} {len cap : Nat} {d : DataW H} {p : List MemPlace}
    (h : DataW.Trod enc Try.prog W base (fun _ => true) true 22 (.slice a len cap) d p) : ∃ ls, Ids W (.slice a len cap) ls ∧ ls.length = len := by
  obtain ⟨fuel, hf⟩ := h
  rcases DataW.trod_slice Try.underlying22 hf with ⟨h0, _⟩ | ⟨ad, l, c, elems, rest, n, _, hcs, _, hb, hl, hm, hlen, hel, _, _⟩
  · simp [Value.cells] at h0
    obtain ⟨rfl, rfl, rfl⟩ := h0
    exact ⟨[], Ids.nil W, rfl⟩
  · simp [Value.cells] at hcs
    obtain ⟨rfl, rfl, rfl⟩ := hcs
    have each : ∀ j, j < len → ∃ x : Mid.Id, ∀ i, i < 32 → W.cell? ((ad.add (j * 32)).add i) = (encI x)[i]? := by
      intro j hj
      have h1 := hel j hj
      rw [cellsRid, List.getElem?_eq_getElem (by omega), Option.bind_eq_some_iff] at h1
      obtain ⟨cs, hc, ht⟩ := h1
      obtain ⟨x, rfl⟩ := id_ofR ht
      exact ⟨x, (World.cells?_some hc).2.2⟩
    have hch : ∃ f : Nat → Mid.Id, ∀ j, j < len → ∀ i, i < 32 → W.cell? ((ad.add (j * 32)).add i) = (encI (f j))[i]? := by
      refine ⟨fun j => if h : j < len then Classical.choose (each j h) else default, fun j hj => ?_⟩
      simp only [dif_pos hj]
      exact Classical.choose_spec (each j hj)
    obtain ⟨f, hfj⟩ := hch
    have hll : ((List.range len).map f).length = len := by simp
    refine ⟨(List.range len).map f, ⟨some ad, cap, by rw [hll], by rw [hll]; exact hl, hm, (fun h => by cases h), ?_⟩, hll⟩
    by_cases h0 : len = 0
    · left; rw [h0]; rfl
    · right
      have hsp : ad.spot = none := by
        have h1 := hfj 0 (by omega) 0 (by omega)
        have hl0 := encI_len (f 0)
        rw [List.getElem?_eq_getElem (by omega)] at h1
        have e : (ad.add (0 * 32)).add 0 = ad := by simp [Addr.add]
        rw [e] at h1
        exact World.cell?_spot h1
      obtain ⟨b, off, sp⟩ := ad
      simp only at hsp
      subst hsp
      refine ⟨b, off, rfl, fun j hj i v hv => ?_⟩
      rw [hll] at hj
      have hi : i < 32 := by
        have := (List.getElem?_eq_some_iff.1 hv).1
        rwa [encI_len] at this
      have h1 := hfj j hj i hi
      rw [addr_add, addr_add] at h1
      rw [getE _ j (by rw [hll]; exact hj)] at hv
      simp only [List.getElem_map, List.getElem_range] at hv
      rw [h1, hv]


/-- how far a slice that comes in reaches -/
theorem ids_size {H : Type} {enc : TypeId × Value → H} {W : World} {base : Nat} {a : Option Addr} {len cap : Nat} {d : DataW H} {p : List MemPlace} {ts : List TypeId} {ds : List (DataW H)}
    (h : DataW.Trod enc Try.prog W base (fun _ => true) true 22 (.slice a len cap) d p) (hz : (DataW.weightsEach Try.prog ts ds).all (· ≤ reachBytes) = true) {j : Nat} (ht : ts[j]? = some 22) (hd : ds[j]? = some d) : len * 32 ≤ 140737488355328 := by
  obtain ⟨fuel, hf⟩ := h
  rcases DataW.trod_slice Try.underlying22 hf with ⟨h0, _⟩ | ⟨ad, l, c, elems, rest, n, _, hcs, hx, _, _, _, hlen, _, _, _⟩
  · simp [Value.cells] at h0
    omega
  · simp [Value.cells] at hcs
    obtain ⟨rfl, rfl, rfl⟩ := hcs
    obtain ⟨rfl, _⟩ := Prod.mk.inj hx
    have := sized_slice hz ht hd Try.underlying22
    rw [show Try.prog.bytesOf 48 = 32 by kernel_rfl, List.length_map, hlen] at this
    have h2 := reachBytes_lt
    have h3 : len * 32 ≤ (len + (rest.map (·.1)).length) * 32 := Nat.mul_le_mul_right 32 (Nat.le_add_right _ _)
    omega
end Go.Proofs.Ytcofplbdapjdjaa
