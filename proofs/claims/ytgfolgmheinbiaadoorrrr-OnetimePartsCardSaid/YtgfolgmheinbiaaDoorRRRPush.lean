/- append of one byte to a row of the call's own. -/
import Derived.Test.YtgfolgmheinbiaaDoorRRRMem
import Derived.Laws.AppendOwn
import Derived.Maps.AppendAt
namespace Go.Proofs.YtgfolgmheinbiaaDoorRRR
open Go.RowKit

/-- a row of bytes of the call's own -/
def OwnL (base : Nat) (w : World) (v : Value) (l : List Nat) : Prop := w.ownsRow base 5 1 v l.length (byteVals l)

theorem OwnL.bytes {base : Nat} {w : World} {v : Value} {l : List Nat} (h : OwnL base w v l) (hb : ∀ x ∈ l, x < 256) : Bytes w v l := owns_bytes h hb
theorem OwnL.keep {base : Nat} {w w1 : World} {v : Value} {l : List Nat} (h : OwnL base w v l) (hb : Below w.heap.size w w1) : OwnL base w1 v l := row_keep h hb
theorem OwnL.more {base : Nat} {w : World} {v : Value} {l : List Nat} (h : OwnL base w v l) (o : Obj) : OwnL base (w.alloc o) v l := World.ownsRow.alloc h o
theorem OwnL.slice {base : Nat} {w : World} {v : Value} {l : List Nat} (h : OwnL base w v l) : ∃ x cap, v = .slice x l.length cap := owns_slice h
theorem OwnL.slice' {base : Nat} {w : World} {v : Value} {l : List Nat} (h : OwnL base w v l) : ∃ x m cap, v = .slice x m cap ∧ Hid (m = l.length) := by
  obtain ⟨x, c, e⟩ := h.slice
  exact ⟨x, _, c, e, Lib.hid rfl⟩
theorem OwnL.nothing (base : Nat) (w : World) : OwnL base w (.slice none 0 0) [] := World.ownsRow_nil _ _ _ _
theorem OwnL.empty (w : World) : OwnL w.heap.size (w.alloc (.cells #[] 5)) (.slice (some ⟨w.heap.size, 0, none⟩) 0 0) [] :=
  ⟨rfl, .inr ⟨w.heap.size, 0, #[], rfl, Nat.le_refl _, heap_alloc_new w _, Nat.le_refl _, Nat.zero_le _, rfl, rfl⟩⟩
theorem OwnL.grown {base B : Nat} {w0 w w1 : World} {v : Value} {l : List Nat} (h : OwnL base w v l) (hg : w.grownBy w1 v.ownBlock) (hb : Below B w0 w) (hB : B ≤ w.heap.size) (hbase : B ≤ base) : Below B w0 w1 :=
  hb.grown hg hB (fun k hk => Nat.le_trans hbase (ownBlock_ge h k hk))

theorem cell_new1 (w : World) (x : Value) (t : TypeId) : (w.alloc (.cells #[x] t)).cell? ⟨w.heap.size, 0, none⟩ = some x := by simp

theorem wpList_push1 (w : World) {ops : Array Oper} {rest : List Oper} {o : Oper} {a : Act} {Q : Exit → Act → World → Prop} (base : Nat) (v : Value) (l : List Nat) (hown : OwnL base w v l) (B c x : Nat) (hc : w.cell? ⟨B, 0, none⟩ = some (.int .u8 (x : Int))) (hn : l.length ≤ 1000000000) (hbase : base ≤ w.heap.size)
    (hgd : o.guard = none) (s y : Operand) (ho : o.op = .call { callee := .builtin .append, args := #[s, y], argTypes := #[78, 78] }) (hs : a.eval s = v) (hx : a.eval y = .slice (some ⟨B, 0, none⟩) 1 c)
    (h : ∀ v' w', Hid (OwnL base w' v' (l ++ [x])) → Hid (w.grownBy w' v.ownBlock) → wpList Tryd.prog ops Q rest (a.put o.dst v') w') : wpList Tryd.prog ops Q (o :: rest) a w := by
  obtain ⟨i0, hi, hz0, hz1, hz2⟩ := info_partsM infoU8
  refine wpList_append_own_at _ hgd s y 78 ho base 5 i0 (.int .u8 0) 1 1 Tryd.underlying78 hi hz0 hz1 hz2 rfl (by decide) v l.length (byteVals l) hs hown ⟨B, 0, none⟩ 1 c [.int .u8 (x : Int)] hx rfl ?_ ?_ (by unfold maxLen; omega) (by omega) hbase
    (fun v' w' h2 h3 _ _ => h v' w' (Lib.hid (by unfold OwnL; simpa [byteVals] using h2)) (Lib.hid h3))
  · intro j u hj
    obtain ⟨hj1, hj2⟩ := List.getElem?_eq_some_iff.1 hj
    have : j = 0 := by simp at hj1; omega
    subst this
    rw [show (⟨B, 0, none⟩ : Addr).add 0 = ⟨B, 0, none⟩ by simp [Addr.add], hc]
    simp at hj2
    rw [hj2]
  · intro u hu
    simp at hu
    subst hu
    rfl
end Go.Proofs.YtgfolgmheinbiaaDoorRRR
