/- Sixteen bytes in the midst of a block that is known whole: loaded, stored. -/
import Derived.Test.YtgfolgmheinbiaaDoorRRRArr7
import Derived.Test.YtgfolgmheinbiaaDoorRRRHalf
import Derived.Deep.MidRow
namespace Go.Proofs.YtgfolgmheinbiaaDoorRRR
open Go.RowKit

/-- the bytes of an array as integers -/
abbrev nI (l : List Nat) : List Int := l.map fun (x : Nat) => (x : Int)
theorem nI_len (l : List Nat) : (nI l).length = l.length := by simp [nI]
theorem bytes_arr {w : World} {g n : Nat} {t : TypeId} (l : List Nat) (hb : ∀ x ∈ l, x < 256) (hl : l.length = n) (hn : n ≤ maxLen) (h : Blk w g t (bsC (nI l))) : Bytes w (.slice (some ⟨g, 0, none⟩) n n) l := by
  refine ⟨hb, some ⟨g, 0, none⟩, n, by rw [hl], by omega, hn, (fun h => by cases h), fun i hi => ⟨g, 0, rfl, ?_⟩⟩
  rw [Nat.zero_add, cell_of_row w g i _ _ _ h]
  simp [bsC, List.getElem?_eq_getElem hi]

def splice (L : List Int) (o : Nat) (v : List Int) : List Int := L.take o ++ v ++ L.drop (o + v.length)
theorem splice_len (L : List Int) (o : Nat) (v : List Int) (h : o + v.length ≤ L.length) : (splice L o v).length = L.length := by
  unfold splice
  rw [List.length_append, List.length_append, List.length_take, List.length_drop]; omega
theorem splice_nil (L : List Int) (o : Nat) : splice L o [] = L := by unfold splice; simp
theorem splice_cons (L : List Int) (o : Nat) (x : Int) (v : List Int) (h : o < L.length) : splice (L.set o x) (o + 1) v = splice L o (x :: v) := by
  unfold splice
  rw [List.take_add_one, List.getElem?_set_self (by simpa using h), List.take_set_of_le (Nat.le_refl _), List.drop_set_of_lt (by omega)]
  simp [Nat.add_assoc, Nat.add_comm 1]
theorem blk_cells {g : Nat} {t : TypeId} : ∀ (v : List Int) (w : World) (L : List Int) (o : Nat), Blk w g t (bsC L) → o + v.length ≤ L.length → Blk (w.setCells g o (v.map fun z => Value.int .u8 z)) g t (bsC (splice L o v))
  | [], w, L, o, h, _ => by rw [splice_nil]; exact h
  | x :: v, w, L, o, h, hl => by
    rw [List.length_cons] at hl
    rw [List.map_cons, World.setCells, ← splice_cons L o x v (by omega)]
    have h1 := h.put o (.int .u8 x)
    rw [bsC_set] at h1
    exact blk_cells v _ _ _ h1 (by rw [List.length_set]; omega)
theorem far_cells {g k : Nat} (hk : k ≠ g) : ∀ (vs : List Value) (w : World) (o : Nat), (w.setCells g o vs).heap[k]? = w.heap[k]?
  | [], _, _ => rfl
  | v :: vs, w, o => by
    rw [World.setCells, far_cells hk vs]
    exact heap_setCell_other w ⟨g, o, none⟩ k v hk
theorem below_cells {B : Nat} {w0 : World} {g : Nat} (hg : B ≤ g) : ∀ (vs : List Value) (w : World) (o : Nat), Below B w0 w → Below B w0 (w.setCells g o vs)
  | [], _, _, h => h
  | v :: vs, w, o, h => by
    rw [World.setCells]
    exact below_cells hg vs _ _ (below_put h g o hg v)

theorem mid_range {w : World} {g : Nat} {t : TypeId} {L : List Int} (h : Blk w g t (bsC L)) (o n : Nat) (ho : o + n ≤ L.length) : w.rangeAt g o (((L.drop o).take n).map fun z => Value.int .u8 z) := by
  intro j v hj
  simp only [List.getElem?_map] at hj
  obtain ⟨z, hz, rfl⟩ := Option.map_eq_some_iff.1 hj
  have hjn : j < n := by
    have := (List.getElem?_eq_some_iff.1 hz).1
    simp at this
    omega
  rw [h.cell, bsC_get L (o + j) (by omega)]
  rw [List.getElem?_take_of_lt hjn, List.getElem?_drop] at hz
  rw [List.getD_eq_getElem?_getD, hz]
  rfl
theorem mid_there {w : World} {g : Nat} {t : TypeId} {L : List Int} (h : Blk w g t (bsC L)) (o n : Nat) (ho : o + n ≤ L.length) : w.there g o n := by
  intro j hj
  refine ⟨?_, h.free _⟩
  rw [h.cell, bsC_get L (o + j) (by omega)]
  rfl

theorem ld_mid {ops : Array Oper} {rest : List Oper} {o : Oper} {a : Act} {w : World} {Q : Exit → Act → World → Prop} {T : TypeId} {n : Nat} (hu : Tryd.prog.underlying T = some (.array n 5)) (hi : (Tryd.prog.info? T).map (·.size) = some n) (g : Nat) (t : TypeId) (L : List Int) (off : Nat) (hl : off + n ≤ L.length) (h : Blk w g t (bsC L)) (hgd : o.guard = none) (x : Operand) (ho : o.op = .load T x)
    (hx : a.eval x = .pointer (some ⟨g, off, none⟩)) (hk : wpList Tryd.prog ops Q rest (a.put o.dst (.agg (bsC ((L.drop off).take n)))) w) : wpList Tryd.prog ops Q (o :: rest) a w := by
  refine wpList_load_mid hgd _ x ho g off hx _ _ (mid_range h off n hl) hu rfl ?_ hk
  rw [hi]
  simp
  omega
theorem sto_mid {ops : Array Oper} {rest : List Oper} {o : Oper} {a : Act} {w : World} {Q : Exit → Act → World → Prop} {T : TypeId} {n : Nat} (hi : (Tryd.prog.info? T).map (·.size) = some n) (g : Nat) (t : TypeId) (L : List Int) (off : Nat) (v : List Int) (hv : v.length = n) (hl : off + n ≤ L.length) (h : Blk w g t (bsC L)) (hgd : o.guard = none) (x y : Operand) (ho : o.op = .store T x y)
    (hx : a.eval x = .pointer (some ⟨g, off, none⟩)) (hy : a.eval y = .agg (bsC v)) (hk : ∀ w', Hid (Blk w' g t (bsC (splice L off v))) → Hid (∀ k, k ≠ g → w'.heap[k]? = w.heap[k]?) → Hid (∀ B w0, Below B w0 w → B ≤ g → Below B w0 w') → wpList Tryd.prog ops Q rest (a.put o.dst undef) w') : wpList Tryd.prog ops Q (o :: rest) a w := by
  refine wpList_store_mid hgd _ x y ho g off (bsC v) hx hy (by rw [bsC_size, hv]; exact mid_there h off n hl) (by rw [bsC_size, hv]; exact hi) (bsC_one v) ?_
  have e : (bsC v).toList = v.map fun z => Value.int .u8 z := by unfold bsC; rfl
  rw [e]
  exact hk _ (Lib.hid (blk_cells v w L off h (by omega))) (Lib.hid fun k hk => far_cells hk _ w off) (Lib.hid fun B w0 hb hg => below_cells hg _ w off hb)
/-- the value loaded from a place of an array that is given by value -/
theorem splice_mid {n o : Nat} (P v Z : List Int) (h : v.length = n) (hp : P.length = o) : splice (P ++ Z) o v = P ++ v ++ Z.drop n := by
  unfold splice
  subst hp
  rw [List.take_left, h, List.drop_append, List.drop_eq_nil_of_le (by omega), List.nil_append]
  congr 2
  omega

theorem idx_bs (T : TypeId) (n : Nat) (hu : Tryd.prog.underlying T = some (.array n 5)) (l : List Int) (hl : l.length = n) (i : Nat) (hi : i < n) (x : Int) (hx : l.getD i 0 = x) (w : World) :
    (Instr.index T (.agg (bsC l)) (.int .i64 i)).run Tryd.prog w = .ok (.int .u8 x) w := by
  subst hx
  exact run_index_cells T _ n _ _ i _ w hu hi (fun w => by kernel_rfl) (fun w => by kernel_rfl) (bsC_get l i (by omega))

theorem ld_ks {ops : Array Oper} {rest : List Oper} {o : Oper} {a : Act} {w : World} {Q : Exit → Act → World → Prop} {T te : TypeId} {n : Nat} {k : IntKind} (hu : Tryd.prog.underlying T = some (.array n te)) (hi : (Tryd.prog.info? T).map (·.size) = some n) (g : Nat) (l : List Int) (hl : l.length = n) (h : Blk w g T (ksC k l)) (hgd : o.guard = none) (x : Operand) (ho : o.op = .load T x)
    (hx : a.eval x = .pointer (some ⟨g, 0, none⟩)) (hk : wpList Tryd.prog ops Q rest (a.put o.dst (.agg (ksC k l))) w) : wpList Tryd.prog ops Q (o :: rest) a w :=
  wpList_load_row hgd _ x ho g hx _ _ _ _ h hu rfl (by rw [ksC_size, hl]; exact hi) hk
theorem sto_ks {ops : Array Oper} {rest : List Oper} {o : Oper} {a : Act} {w : World} {Q : Exit → Act → World → Prop} {T : TypeId} {n : Nat} {k : IntKind} (hi : (Tryd.prog.info? T).map (·.size) = some n) (g : Nat) (l : List Int) (hl : l.length = n) (old : Array Value) (h : Blk w g T old) (hold : old.size = n) (hgd : o.guard = none) (x y : Operand) (ho : o.op = .store T x y)
    (hx : a.eval x = .pointer (some ⟨g, 0, none⟩)) (hy : a.eval y = .agg (ksC k l)) (hk : ∀ w', Hid (w' = w.setRow g (ksC k l)) → wpList Tryd.prog ops Q rest (a.put o.dst undef) w') : wpList Tryd.prog ops Q (o :: rest) a w :=
  wpList_store_row hgd _ x y ho g _ hx hy _ _ h (by rw [ksC_size, hl]; exact hi) (by rw [hold, ksC_size, hl]) (ksC_one k l) (hk _ (Lib.hid rfl))

theorem Blk.freshAt {w : World} {n : Nat} (h : w.heap.size = n) (t : TypeId) (cs : Array Value) : Blk (w.alloc (.cells cs t)) n t cs := h ▸ Blk.fresh w t cs
theorem size_alloc1 (w : World) (o : Obj) {n : Nat} (h : w.heap.size = n) : (w.alloc o).heap.size = n + 1 := by subst h; simp
theorem boxes1 (w : World) {c1 : Array Value} {t1 : TypeId} {W : World} (h : w.alloc (.cells c1 t1) = W) : Blk W (w.heap.size) t1 c1 ∧ Below w.heap.size w W := by
  subst h
  exact ⟨(Blk.freshAt rfl t1 c1), ((Below.refl _ w).alloc (Nat.le_refl _) _)⟩
theorem boxes2 (w : World) {c1 c2 : Array Value} {t1 t2 : TypeId} {W : World} (h : (w.alloc (.cells c1 t1)).alloc (.cells c2 t2) = W) : Blk W (w.heap.size) t1 c1 ∧ Blk W (w.heap.size + 1) t2 c2 ∧ Below w.heap.size w W := by
  subst h
  exact ⟨((Blk.freshAt rfl t1 c1).more _), (Blk.freshAt (size_alloc1 _ _ rfl) t2 c2), (((Below.refl _ w).alloc (Nat.le_refl _) _).alloc (by rw [(size_alloc1 _ _ rfl)]; omega) _)⟩
theorem boxes3 (w : World) {c1 c2 c3 : Array Value} {t1 t2 t3 : TypeId} {W : World} (h : ((w.alloc (.cells c1 t1)).alloc (.cells c2 t2)).alloc (.cells c3 t3) = W) : Blk W (w.heap.size) t1 c1 ∧ Blk W (w.heap.size + 1) t2 c2 ∧ Blk W (w.heap.size + 1 + 1) t3 c3 ∧ Below w.heap.size w W := by
  subst h
  exact ⟨(((Blk.freshAt rfl t1 c1).more _).more _), ((Blk.freshAt (size_alloc1 _ _ rfl) t2 c2).more _), (Blk.freshAt (size_alloc1 _ _ (size_alloc1 _ _ rfl)) t3 c3), ((((Below.refl _ w).alloc (Nat.le_refl _) _).alloc (by rw [(size_alloc1 _ _ rfl)]; omega) _).alloc (by rw [(size_alloc1 _ _ (size_alloc1 _ _ rfl))]; omega) _)⟩
theorem boxes4 (w : World) {c1 c2 c3 c4 : Array Value} {t1 t2 t3 t4 : TypeId} {W : World} (h : (((w.alloc (.cells c1 t1)).alloc (.cells c2 t2)).alloc (.cells c3 t3)).alloc (.cells c4 t4) = W) : Blk W (w.heap.size) t1 c1 ∧ Blk W (w.heap.size + 1) t2 c2 ∧ Blk W (w.heap.size + 1 + 1) t3 c3 ∧ Blk W (w.heap.size + 1 + 1 + 1) t4 c4 ∧ Below w.heap.size w W := by
  subst h
  exact ⟨((((Blk.freshAt rfl t1 c1).more _).more _).more _), (((Blk.freshAt (size_alloc1 _ _ rfl) t2 c2).more _).more _), ((Blk.freshAt (size_alloc1 _ _ (size_alloc1 _ _ rfl)) t3 c3).more _), (Blk.freshAt (size_alloc1 _ _ (size_alloc1 _ _ (size_alloc1 _ _ rfl))) t4 c4), (((((Below.refl _ w).alloc (Nat.le_refl _) _).alloc (by rw [(size_alloc1 _ _ rfl)]; omega) _).alloc (by rw [(size_alloc1 _ _ (size_alloc1 _ _ rfl))]; omega) _).alloc (by rw [(size_alloc1 _ _ (size_alloc1 _ _ (size_alloc1 _ _ rfl)))]; omega) _)⟩
theorem boxes5 (w : World) {c1 c2 c3 c4 c5 : Array Value} {t1 t2 t3 t4 t5 : TypeId} {W : World} (h : ((((w.alloc (.cells c1 t1)).alloc (.cells c2 t2)).alloc (.cells c3 t3)).alloc (.cells c4 t4)).alloc (.cells c5 t5) = W) : Blk W (w.heap.size) t1 c1 ∧ Blk W (w.heap.size + 1) t2 c2 ∧ Blk W (w.heap.size + 1 + 1) t3 c3 ∧ Blk W (w.heap.size + 1 + 1 + 1) t4 c4 ∧ Blk W (w.heap.size + 1 + 1 + 1 + 1) t5 c5 ∧ Below w.heap.size w W := by
  subst h
  exact ⟨(((((Blk.freshAt rfl t1 c1).more _).more _).more _).more _), ((((Blk.freshAt (size_alloc1 _ _ rfl) t2 c2).more _).more _).more _), (((Blk.freshAt (size_alloc1 _ _ (size_alloc1 _ _ rfl)) t3 c3).more _).more _), ((Blk.freshAt (size_alloc1 _ _ (size_alloc1 _ _ (size_alloc1 _ _ rfl))) t4 c4).more _), (Blk.freshAt (size_alloc1 _ _ (size_alloc1 _ _ (size_alloc1 _ _ (size_alloc1 _ _ rfl)))) t5 c5), ((((((Below.refl _ w).alloc (Nat.le_refl _) _).alloc (by rw [(size_alloc1 _ _ rfl)]; omega) _).alloc (by rw [(size_alloc1 _ _ (size_alloc1 _ _ rfl))]; omega) _).alloc (by rw [(size_alloc1 _ _ (size_alloc1 _ _ (size_alloc1 _ _ rfl)))]; omega) _).alloc (by rw [(size_alloc1 _ _ (size_alloc1 _ _ (size_alloc1 _ _ (size_alloc1 _ _ rfl))))]; omega) _)⟩
/-- thirty-five zeros -/
def z35 : List Int := List.replicate 35 0
theorem z35_len : z35.length = 35 := by decide
theorem info35 : (Tryd.prog.info? 27).map (·.size) = some 35 := by kernel_rfl
end Go.Proofs.YtgfolgmheinbiaaDoorRRR
