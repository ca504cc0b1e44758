/- What a row's reading gives of a slice of bools. -/
import Derived.Test.YtcofplbdapjdjaaMem
import Derived.Deep.Grids
namespace Go.Proofs.Ytcofplbdapjdjaa
open Go.ChangeShapes Go.WideShapes Go.ChangeAt Go.RowKit Go.Deep

theorem cellsBool : Try.prog.cellsOf 4 = 1 := by kernel_rfl

/-- a slice of bools: its elements -/
def Bools (w : World) (a : Option Addr) (len : Nat) : Prop :=
  ∀ i, i < len → ∃ b off x, a = some ⟨b, off, none⟩ ∧ b < w.heap.size ∧ w.cell? ⟨b, off + i, none⟩ = some (.bool x)

theorem bools_open {H : Type} {enc : TypeId × Value → H} {W : World} {base : Nat} {a : Option Addr} {len cap : Nat} {d : DataW H} {p : List MemPlace}
    (h : DataW.Trod enc Try.prog W base (fun _ => true) true 39 (.slice a len cap) d p) : Bools W a len ∧ len ≤ maxLen := by
  obtain ⟨fuel, hf⟩ := h
  rcases open_bools Try.underlying39 Try.underlying4 cellsBool hf with ⟨hcs, _⟩ | ⟨x, l, c, B, hcs, _, hl, hm, _, hx⟩
  · simp [Value.cells] at hcs
    obtain ⟨rfl, rfl, rfl⟩ := hcs
    exact ⟨fun i hi => absurd hi (by omega), Nat.zero_le _⟩
  · simp [Value.cells] at hcs
    obtain ⟨rfl, rfl, rfl⟩ := hcs
    refine ⟨fun i hi => ?_, by omega⟩
    have h0 := hx 0 (by omega)
    have hcell := hx i (by omega)
    obtain ⟨b, off, sp⟩ := x
    have hsp : sp = none := by
      have : (⟨b, off, sp⟩ : Addr).add 0 = ⟨b, off, sp⟩ := by simp [Addr.add]
      rw [this] at h0
      exact World.cell?_spot h0
    subst hsp
    rw [addr_add] at hcell
    exact ⟨b, off, B i, rfl, World.block_lt_of_cell? W _ hcell, hcell⟩
end Go.Proofs.Ytcofplbdapjdjaa
