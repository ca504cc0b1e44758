/- The law of pieces. -/
import Derived.Test.YtpkbceelbppleaaDoorCloneLaw
import Derived.Test.YtpkbceelbppleaaDoorPieces
namespace Go.Proofs.YtpkbceelbppleaaDoor
open Go.ChangeShapes Go.WideShapes Go.ChangeAt Go.RowKit Go.Deep

theorem pieces_open2 {H : Type} {enc : TypeId × Value → H} {W : World} {base : Nat} {a : Option Addr} {len cap : Nat} {d : DataW H} {p : List MemPlace}
    (h : DataW.Trod enc Tryd.prog W base (fun _ => true) true 34 (.slice a len cap) d p) : Rowed W a len ∧ (len ≤ cap ∧ cap ≤ maxLen) := by
  have h1 := (pieces_open h).1
  obtain ⟨fuel, hf⟩ := h
  refine ⟨h1, ?_⟩
  rcases open_int_rows Tryd.underlying34 Tryd.underlying22 Tryd.underlying5 cellsBs cellsU8 hf with ⟨hcs, _⟩ | ⟨x, l, c, A, L, C, Z, hcs, _, hl, hm, _, _⟩
  · simp [Value.cells] at hcs
    obtain ⟨rfl, rfl, rfl⟩ := hcs
    exact ⟨Nat.le_refl _, by unfold maxLen; omega⟩
  · simp [Value.cells] at hcs
    obtain ⟨rfl, rfl, rfl⟩ := hcs
    exact ⟨hl, hm⟩

/-- append(own, bytes...), and where the new row lies -/
theorem wpList_append_bytes2 (w : World) {ops : Array Oper} {rest : List Oper} {o : Oper} {a : Act} {Q : Exit → Act → World → Prop} (hgd : o.guard = none) (s x : Operand)
    (ho : o.op = .call { callee := .builtin .append, args := #[s, x], argTypes := #[22, 22] })
    (base : Nat) (v : Value) (l0 : List Nat) (hs : a.eval s = v) (hown : OwnL base w v l0) (src : Value) (l : List Nat) (hx : a.eval x = src) (hb : Bytes w src l)
    (hn : l0.length + l.length ≤ 1000000000) (hbase : base ≤ w.heap.size)
    (h : ∀ v' w', Hid (OwnL base w' v' (l0 ++ l)) → Hid (w.grownBy w' v.ownBlock) → Hid (v ≠ .slice none 0 0 → v' ≠ .slice none 0 0) → Hid (v'.ownBlock = v.ownBlock ∨ v'.ownBlock = some w.heap.size) → wpList Tryd.prog ops Q rest (a.put o.dst v') w') : wpList Tryd.prog ops Q (o :: rest) a w := by
  obtain ⟨i0, hi, hz0, hz1, hz2⟩ := info_partsM infoU8
  have hb' := hb
  obtain ⟨_, y, cap, rfl, _, _, hnil, hc⟩ := hb
  have hown' := hown
  unfold OwnL at hown'
  cases y with
  | none =>
    have h0 : l = [] := by
      cases l with
      | nil => rfl
      | cons z l => obtain ⟨b, off, e, _⟩ := hc 0 (by simp); cases e
    subst h0
    obtain rfl := hnil rfl
    have := wpList_append_own_none hgd s x 22 ho base 5 i0 1 Tryd.underlying22 hi v l0.length (byteVals l0) hs hown' (Q := Q) (ops := ops) (rest := rest) hx
    exact this (h v w (Lib.hid (by rw [List.append_nil]; exact hown)) (Lib.hid ⟨rfl, rfl, rfl, Nat.le_refl _, fun _ _ _ => rfl⟩) (Lib.hid id) (Lib.hid (.inl rfl)))
  | some ad =>
    refine wpList_append_own_at _ hgd s x 22 ho base 5 i0 (.int .u8 0) 1 1 Tryd.underlying22 hi hz0 hz1 hz2 rfl (by decide) v l0.length (byteVals l0) hs hown' ad l.length cap (byteVals l) hx (by simp [byteVals]) (bytes_vals hb') ?_ (by unfold maxLen; omega) (by omega) hbase
      (fun v' w' h1 h2 h3 h4 => h v' w' (Lib.hid (by unfold OwnL; rw [List.length_append, show byteVals (l0 ++ l) = byteVals l0 ++ byteVals l by simp [byteVals]]; exact h1)) (Lib.hid h2) (Lib.hid fun hv hv' => hv (h3.1 hv').1) (Lib.hid h4))
    intro u hu
    simp only [byteVals, List.mem_map] at hu
    obtain ⟨z, _, rfl⟩ := hu
    rfl

/-- a row of bytes that is written in place -/
def Wr (w : World) (pb kb : Nat) : Prop := ∃ cur : Array Value, w.heap[pb]? = some (.cells cur 5 (0, 0)) ∧ ∀ j, j < kb → ∃ z : Int, cur[j]? = some (.int .u8 z)
theorem Wr.cell {w : World} {pb kb : Nat} (h : Wr w pb kb) (j : Nat) (hj : j < kb) : ∃ z : Int, w.cell? ⟨pb, j, none⟩ = some (.int .u8 z) ∧ w.frozen? ⟨pb, j, none⟩ = false := by
  obtain ⟨cur, h1, h2⟩ := h
  obtain ⟨z, hz⟩ := h2 j hj
  exact ⟨z, by rw [cell_of_row w pb j cur _ _ h1, hz], frozen_of_row w pb j cur _ h1⟩
theorem Wr.put {w : World} {pb kb : Nat} (h : Wr w pb kb) (j : Nat) (z : Int) : Wr (w.setCell ⟨pb, j, none⟩ (.int .u8 z)) pb kb := by
  obtain ⟨cur, h1, h2⟩ := h
  refine ⟨cur.setIfInBounds j (.int .u8 z), heap_setCell_same w pb j cur _ _ h1, fun i hi => ?_⟩
  by_cases hij : j = i
  · subst hij
    obtain ⟨y, hy⟩ := h2 j hi
    have : j < cur.size := (Array.getElem?_eq_some_iff.1 hy).1
    exact ⟨z, by simp [this]⟩
  · obtain ⟨y, hy⟩ := h2 i hi
    exact ⟨y, by rw [Array.getElem?_setIfInBounds_ne hij, hy]⟩
theorem OwnL.wr {base : Nat} {w : World} {v : Value} {l : List Nat} (h : OwnL base w v l) (hv : v ≠ .slice none 0 0) : ∃ pb cap, v = .slice (some ⟨pb, 0, none⟩) l.length cap ∧ base ≤ pb ∧ Wr w pb l.length ∧ l.length ≤ cap ∧ cap ≤ maxLen := by
  obtain ⟨g, cap, cur, h1, h2, h3, h4, h5, h6⟩ := row_some h hv
  refine ⟨g, cap, h1, h2, ⟨cur, h3, fun j hj => ?_⟩, h4, h5⟩
  have h7 : (cur.toList.take l.length)[j]? = cur.toList[j]? := by rw [List.getElem?_take, if_pos hj]
  rw [h6] at h7
  refine ⟨(l.getD j 0 : Int), ?_⟩
  rw [← Array.getElem?_toList, ← h7]
  simp [byteVals, List.getElem?_eq_getElem hj]
end Go.Proofs.YtpkbceelbppleaaDoor
