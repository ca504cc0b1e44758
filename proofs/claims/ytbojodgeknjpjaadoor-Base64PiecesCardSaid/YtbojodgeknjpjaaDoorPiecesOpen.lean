/- What a row's reading gives of a slice of slices of bytes; what the pieces' bytes together encode to. -/
import Derived.Test.YtbojodgeknjpjaaDoorOpen
import Derived.Test.YtbojodgeknjpjaaDoorCoder
import Derived.Deep.Matrix
namespace B64
theorem pieces_step (tot l : List Nat) (hb : ∀ x ∈ tot, x < 256) (hl : ∀ x ∈ l, x < 256) :
    encT (tot.take (tot.length / 3 * 3)) ++ encT ((tot.drop (tot.length / 3 * 3) ++ l).take ((tot.length % 3 + l.length) / 3 * 3)) = encT ((tot ++ l).take ((tot ++ l).length / 3 * 3)) := by
  have h1 : tot.take (tot.length / 3 * 3) ++ (tot.drop (tot.length / 3 * 3) ++ l) = tot ++ l := by rw [← List.append_assoc, List.take_append_drop]
  have hlen : (tot.take (tot.length / 3 * 3)).length = tot.length / 3 * 3 := by rw [List.length_take]; omega
  have h2 : (tot ++ l).take ((tot ++ l).length / 3 * 3) = tot.take (tot.length / 3 * 3) ++ (tot.drop (tot.length / 3 * 3) ++ l).take ((tot.length % 3 + l.length) / 3 * 3) := by
    rw [← h1, List.take_append, hlen]
    congr 1
    · rw [List.take_of_length_le]
      rw [h1, hlen, List.length_append]
      omega
    · congr 1
      rw [h1, List.length_append]
      omega
  rw [h2, encT_append _ _ (fun x hx => hb x (List.mem_of_mem_take hx)) _ (by rw [hlen]; omega)]
  intro x hx
  rcases List.mem_append.1 (List.mem_of_mem_take hx) with h | h
  · exact hb x (List.mem_of_mem_drop h)
  · exact hl x h

theorem pieces_end (tot : List Nat) (hb : ∀ x ∈ tot, x < 256) : encT (tot.take (tot.length / 3 * 3)) ++ encT (tot.drop (tot.length / 3 * 3)) = encT tot := by
  rw [← encT_append _ _ (fun x hx => hb x (List.mem_of_mem_take hx)) (fun x hx => hb x (List.mem_of_mem_drop hx)) (by rw [List.length_take]; omega), List.take_append_drop]

theorem pieces_len (tot : List Nat) (hb : ∀ x ∈ tot, x < 256) : (encT (tot.take (tot.length / 3 * 3))).length = tot.length / 3 * 4 := by
  rw [encT_length _ (fun x hx => hb x (List.mem_of_mem_take hx)), List.length_take]
  omega
end B64
namespace Go.Proofs.YtbojodgeknjpjaaDoor
open Go.ChangeShapes Go.WideShapes Go.ChangeAt Go.RowKit Go.Deep

theorem cells22 : Tryd.prog.cellsOf 22 = 1 := by kernel_rfl

theorem bytes_mk {W : World} {A : Option Addr} {L C : Nat} {Z : List Int} (hl : L ≤ C) (hm : C ≤ maxLen) (hz : Z.length = C) (hw : ∀ n ∈ Z, (Lit.int .u8 n).wf = true) (hn : A = none → C = 0)
    (hc : ∀ a', A = some a' → ∀ c, c < C → W.cell? (a'.add c) = some (.int .u8 (Z.getD c 0))) : ∃ l, Bytes W (.slice A L C) l ∧ l.length = L := by
  have hlen : ((Z.take L).map Int.toNat).length = L := by simp; omega
  refine ⟨(Z.take L).map Int.toNat, ⟨?_, A, C, by rw [hlen], by rw [hlen]; exact hl, hm, fun i hi => ?_⟩, hlen⟩
  · intro y hy
    simp only [List.mem_map] at hy
    obtain ⟨z, hz1, rfl⟩ := hy
    have := byte_of_wf (hw z (List.mem_of_mem_take hz1))
    omega
  · rw [hlen] at hi
    cases A with
    | none => have := hn rfl; omega
    | some x =>
      have h0 := hc x rfl 0 (by omega)
      have hi2 := hc x rfl i (by omega)
      obtain ⟨b, off, sp⟩ := x
      have hsp : sp = none := by
        have : (⟨b, off, sp⟩ : Addr).add 0 = ⟨b, off, sp⟩ := by simp [Addr.add]
        rw [this] at h0
        exact World.cell?_spot h0
      subst hsp
      rw [addr_add] at hi2
      refine ⟨b, off, rfl, ?_⟩
      rw [hi2]
      have hiz : i < Z.length := by omega
      have hw := byte_of_wf (hw Z[i] (List.getElem_mem hiz))
      have e1 : Z.getD i 0 = Z[i] := by rw [List.getD_eq_getElem?_getD, List.getElem?_eq_getElem hiz]; rfl
      have e2 : ((Z.take L).map Int.toNat).getD i 0 = Z[i].toNat := by
        rw [List.getD_eq_getElem?_getD, List.getElem?_map, List.getElem?_take_of_lt hi, List.getElem?_eq_getElem hiz]; rfl
      rw [e1, e2]
      congr 2
      omega

/-- a slice of slices of bytes: its rows -/
def Rowed (w : World) (a : Option Addr) (len : Nat) : Prop :=
  ∀ i, i < len → ∃ b off A L C l, a = some ⟨b, off, none⟩ ∧ b < w.heap.size ∧ w.cell? ⟨b, off + i, none⟩ = some (.slice A L C) ∧ Bytes w (.slice A L C) l ∧ l.length = L ∧ (A = none → C = 0)

theorem pieces_open {H : Type} {enc : TypeId × Value → H} {W : World} {base : Nat} {a : Option Addr} {len cap : Nat} {d : DataW H} {p : List MemPlace}
    (h : DataW.Trod enc Tryd.prog W base (fun _ => true) true 45 (.slice a len cap) d p) : Rowed W a len ∧ len ≤ maxLen := by
  obtain ⟨fuel, hf⟩ := h
  rcases open_int_rows Tryd.underlying45 Tryd.underlying22 Tryd.underlying5 cells22 cells5 hf with ⟨hcs, _⟩ | ⟨x, l, c, A, L, C, Z, hcs, _, hl, hm, _, hx⟩
  · simp [Value.cells] at hcs
    obtain ⟨rfl, rfl, rfl⟩ := hcs
    exact ⟨fun i hi => absurd hi (by omega), Nat.zero_le _⟩
  · simp [Value.cells] at hcs
    obtain ⟨rfl, rfl, rfl⟩ := hcs
    refine ⟨fun i hi => ?_, by omega⟩
    have h0 := (hx 0 (by omega)).1
    obtain ⟨hcell, r1, r2, r3, r4, r5, r6⟩ := hx i (by omega)
    obtain ⟨b, off, sp⟩ := x
    have hsp : sp = none := by
      have : (⟨b, off, sp⟩ : Addr).add 0 = ⟨b, off, sp⟩ := by simp [Addr.add]
      rw [this] at h0
      exact World.cell?_spot h0
    subst hsp
    rw [addr_add] at hcell
    obtain ⟨l, hb, hl2⟩ := bytes_mk r1 r2 r3 r4 r5 (fun a' ha c hc => (r6 a' ha).2 c hc)
    exact ⟨b, off, A i, L i, C i, l, rfl, block_lt_of_cell hcell, hcell, hb, hl2, r5⟩
end Go.Proofs.YtbojodgeknjpjaaDoor
