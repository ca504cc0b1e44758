/- What memory owes: bytes that a slice holds, a text that a builder holds, the alphabet's table; how they stand behind a store elsewhere. -/
import Derived.Test.YtbojodgeknjpjaaDoorShelf
import Derived.Test.YtbojodgeknjpjaaDoorPlain
import Derived.Test.YtbojodgeknjpjaaDoorNum
import Derived.WalkKit
import Derived.OneCell
namespace Go.Proofs.YtbojodgeknjpjaaDoor
open Go.RowKit

/-- a builder stands where a block of another kind has turned -/
theorem builder_other {T e t : TypeId} {B b k : Nat} {bs : List Value} {w w' : World} {cs : Array Value} {fr : Nat × Nat} (h : Lib.IsBuilderF T e B b bs w)
    (hk : w.heap[k]? = some (.cells cs t fr)) (ht : t ≠ e) (hkb : k ≠ b) (hs : ∀ j, j ≠ k → w'.heap[j]? = w.heap[j]?) : Lib.IsBuilderF T e B b bs w' := by
  have key : ∀ p, Lib.BuilderAtF T e B b p bs w → Lib.BuilderAtF T e B b p bs w' := by
    rintro p ⟨hB, v, hb, hown, hne⟩
    refine ⟨hB, v, by rw [hs b (fun x => hkb x.symm)]; exact hb, ?_, hne⟩
    refine ⟨hown.1, ?_⟩
    rcases hown.2 with h0 | ⟨g, cap, cur, fz, hv, hg, hh, r⟩
    · exact .inl h0
    · refine .inr ⟨g, cap, cur, fz, hv, hg, ?_, r⟩
      rw [hs g]
      · exact hh
      · intro x
        subst x
        rw [hk] at hh
        simp at hh
        exact ht hh.2.1
  rcases h with h | h
  · exact .inl (key _ h)
  · exact .inr (key _ h)

theorem builder_setCell {T e t : TypeId} {B b k : Nat} {bs : List Value} {w : World} {cs : Array Value} {fr : Nat × Nat} (h : Lib.IsBuilderF T e B b bs w)
    (hk : w.heap[k]? = some (.cells cs t fr)) (ht : t ≠ e) (hkb : k ≠ b) (o : Nat) (u : Value) : Lib.IsBuilderF T e B b bs (w.setCell ⟨k, o, none⟩ u) :=
  builder_other h hk ht hkb (fun j hj => Below.heap_setCell w ⟨k, o, none⟩ u j hj)

/-- A SLICE OF BYTES READS AS A LIST -/
def Bytes (w : World) (v : Value) (l : List Nat) : Prop :=
  (∀ x ∈ l, x < 256) ∧ ∃ x cap, v = .slice x l.length cap ∧ l.length ≤ cap ∧ cap ≤ maxLen ∧ ∀ i, i < l.length → ∃ b off, x = some ⟨b, off, none⟩ ∧ w.cell? ⟨b, off + i, none⟩ = some (.int .u8 (l.getD i 0))

theorem Bytes.below {w w' : World} {v : Value} {l : List Nat} (h : Bytes w v l) (hb : Below w.heap.size w w') : Bytes w' v l := by
  obtain ⟨h1, x, cap, hv, hl, hm, hc⟩ := h
  refine ⟨h1, x, cap, hv, hl, hm, fun i hi => ?_⟩
  obtain ⟨b, off, hx, h0⟩ := hc i hi
  exact ⟨b, off, hx, (hb.cell (World.block_lt_of_cell? w _ h0)).trans h0⟩

theorem Bytes.nil (w : World) : Bytes w (.slice none 0 0) [] := ⟨by simp, none, 0, rfl, Nat.le_refl _, by unfold maxLen; omega, fun i hi => by simp at hi⟩

/-- THE ALPHABET's TABLE -/
def alphaCells : Array Value := (B64.alphaL.map fun c => Value.int .u8 c.toNat).toArray
def Tab (w : World) : Prop := 0 < w.heap.size ∧ ∃ t fr, w.heap[0]? = some (.cells alphaCells t fr)

theorem alphaCells_get (i : Nat) (h : i < 64) : alphaCells[i]? = some (.int .u8 (B64.alpha i).toNat) := by
  have hl : i < B64.alphaL.length := h
  simp [alphaCells, B64.alpha, List.getElem?_eq_getElem hl]

theorem Tab.cell {w : World} (h : Tab w) (i : Nat) (hi : i < 64) : w.cell? ⟨0, i, none⟩ = some (.int .u8 (B64.alpha i).toNat) := by
  obtain ⟨_, t, fr, hb⟩ := h
  rw [Lib.cell_of_heap hb, alphaCells_get i hi]

theorem Tab.below {w w' : World} {B : Nat} (h : Tab w) (hb : Below B w w') (hB : 0 < B) : Tab w' := by
  obtain ⟨h1, t, fr, h2⟩ := h
  exact ⟨Nat.lt_of_lt_of_le h1 hb.size, t, fr, by rw [hb.block 0 hB]; exact h2⟩

theorem run_index_cells {P : Program} (t e : TypeId) (n : Nat) (cs : Array Value) (k : IntKind) (i : Nat) (v : Value) (w : World) (h : P.underlying t = some (.array n e)) (hi : i < n)
    (hs : ∀ w, (Go.sizeOf e).run P w = .ok 1 w) (ha : ∀ w, (isAgg e).run P w = .ok false w) (hv : cs[i]? = some v) :
    (Instr.index t (.agg cs) (.int k i)).run P w = .ok v w := by
  have hn : (0 : Int) ≤ (i : Int) ∧ (i : Int) < (n : Int) := by omega
  simp [Instr.index, run_underlying h, asIntOf, hn, hs, ha, go_sem, part, hv]
  intro; omega

end Go.Proofs.YtbojodgeknjpjaaDoor
