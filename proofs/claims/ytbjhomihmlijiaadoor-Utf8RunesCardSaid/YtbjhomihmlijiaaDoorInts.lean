/- The rows of numbers that the reference hands over, as they are read. -/
import Derived.Test.YtbjhomihmlijiaaDoorAll
namespace Go.Proofs.YtbjhomihmlijiaaDoor
open Go.RowKit

def IntsAt (W : World) (x : Option Addr) (xs : List Nat) : Prop := ∀ i, i < xs.length → ∃ g, x = some ⟨g, 0, none⟩ ∧ g < W.heap.size ∧ W.cell? ⟨g, i, none⟩ = some (.int .i64 ((xs.getD i 0 : Nat) : Int))

theorem IntsAt.below {W W1 : World} {x : Option Addr} {xs : List Nat} (h : IntsAt W x xs) (hb : Below W.heap.size W W1) : IntsAt W1 x xs := by
  intro i hi
  obtain ⟨g, h1, h2, h3⟩ := h i hi
  exact ⟨g, h1, Nat.lt_of_lt_of_le h2 hb.size, (hb.cell (p := ⟨g, i, none⟩) h2).trans h3⟩

theorem ints_of {W : World} {base : Nat} {v : Value} {xs : List Nat} (h : W.ownsRow base 3 1 v xs.length (intCells xs)) : ∃ x m cap, v = .slice x m cap ∧ Hid (m = xs.length) ∧ Hid (IntsAt W x xs) := by
  have hh := h
  obtain ⟨_, ⟨rfl, h0⟩ | ⟨g, cap, cur, rfl, h1⟩⟩ := h
  · exact ⟨none, 0, 0, rfl, Lib.hid h0.symm, Lib.hid (fun i hi => by omega)⟩
  · refine ⟨some ⟨g, 0, none⟩, xs.length, cap, rfl, Lib.hid rfl, Lib.hid (fun i hi => ⟨g, rfl, ?_, ?_⟩)⟩
    all_goals
      have hc := hh.cells (g := g) rfl i (.int .i64 xs[i]) (by simp [intCells, List.getElem?_eq_getElem hi])
      have : (⟨g, 0, none⟩ : Addr).add i = ⟨g, i, none⟩ := by unfold Addr.add; split <;> simp_all
      rw [this] at hc
    · exact World.block_lt_of_cell? W _ hc
    · rw [hc, List.getD_eq_getElem?_getD, List.getElem?_eq_getElem hi]
      rfl
end Go.Proofs.YtbjhomihmlijiaaDoor
