/- What a row's reading gives of a slice of slices of bytes. -/
import Derived.Test.YtpkbceelbppleaaDoorMem
namespace Go.Proofs.YtpkbceelbppleaaDoor
open Go.ChangeShapes Go.WideShapes Go.ChangeAt Go.RowKit Go.Deep

theorem cellsBs : Tryd.prog.cellsOf 22 = 1 := by kernel_rfl

/-- a slice of slices of bytes: its rows -/
def Rowed (w : World) (a : Option Addr) (len : Nat) : Prop :=
  ∀ i, i < len → ∃ b off A L C l, a = some ⟨b, off, none⟩ ∧ b < w.heap.size ∧ w.cell? ⟨b, off + i, none⟩ = some (.slice A L C) ∧ Bytes w (.slice A L C) l ∧ l.length = L

theorem pieces_open {H : Type} {enc : TypeId × Value → H} {W : World} {base : Nat} {a : Option Addr} {len cap : Nat} {d : DataW H} {p : List MemPlace}
    (h : DataW.Trod enc Tryd.prog W base (fun _ => true) true 34 (.slice a len cap) d p) : Rowed W a len ∧ len ≤ maxLen := by
  obtain ⟨fuel, hf⟩ := h
  rcases open_int_rows Tryd.underlying34 Tryd.underlying22 Tryd.underlying5 cellsBs cellsU8 hf with ⟨hcs, _⟩ | ⟨x, l, c, A, L, C, Z, hcs, _, hl, hm, _, hx⟩
  · simp [Value.cells] at hcs
    obtain ⟨rfl, rfl, rfl⟩ := hcs
    exact ⟨fun i hi => absurd hi (by omega), Nat.zero_le _⟩
  · simp [Value.cells] at hcs
    obtain ⟨rfl, rfl, rfl⟩ := hcs
    refine ⟨fun i hi => ?_, by omega⟩
    have h0 := (hx 0 (by omega)).1
    obtain ⟨hcell, r1, r2, r3, r4, r5, r6⟩ := hx i (by omega)
    obtain ⟨b, off, sp⟩ := x
    have hsp : sp = none := by
      have : (⟨b, off, sp⟩ : Addr).add 0 = ⟨b, off, sp⟩ := by simp [Addr.add]
      rw [this] at h0
      exact World.cell?_spot h0
    subst hsp
    rw [addr_add] at hcell
    obtain ⟨l, hb, hl2⟩ := bytes_mk r1 r2 r3 r4 r5 (fun a' ha c hc => (r6 a' ha).2 c hc)
    exact ⟨b, off, A i, L i, C i, l, rfl, World.block_lt_of_cell? W _ hcell, hcell, hb, hl2⟩
end Go.Proofs.YtpkbceelbppleaaDoor
