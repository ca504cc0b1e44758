/- Bytes in memory: a slice of bytes reads as a list; rows of the call's own; what a row's reading gives of slices of bytes and of slices of such slices; conversions to texts; append. -/
import Derived.Test.YtgfolgmheinbiaaDoorRRRChecked
import Derived.WalkKit
import Derived.OneCell
import Derived.Lib.Builder
import Derived.Below
import Derived.Lib.Hide
import Derived.Laws.IdiomStrings
import Derived.Laws.BytesArg
import Derived.Laws.AppendOwnNone
import Derived.Lib.SlBytesConst
import Derived.ProofKit
import Derived.OpenShut
import Derived.ChangeOld
import Derived.Deep.Matrix
import Derived.Deep.RegionLaw
import Derived.Deep.DeepMust
import Derived.Deep.OwnRows
namespace Go.Proofs.YtgfolgmheinbiaaDoorRRR
open Go.ChangeShapes Go.WideShapes Go.ChangeAt Go.RowKit Go.Deep

/-- A SLICE OF BYTES READS AS A LIST -/
def Bytes (w : World) (v : Value) (l : List Nat) : Prop :=
  (∀ x ∈ l, x < 256) ∧ ∃ x cap, v = .slice x l.length cap ∧ l.length ≤ cap ∧ cap ≤ maxLen ∧ (x = none → cap = 0) ∧ ∀ i, i < l.length → ∃ b off, x = some ⟨b, off, none⟩ ∧ w.cell? ⟨b, off + i, none⟩ = some (.int .u8 (l.getD i 0))

theorem Bytes.below {w w' : World} {v : Value} {l : List Nat} (h : Bytes w v l) (hb : Below w.heap.size w w') : Bytes w' v l := by
  obtain ⟨h1, x, cap, hv, hl, hm, hn, hc⟩ := h
  refine ⟨h1, x, cap, hv, hl, hm, hn, fun i hi => ?_⟩
  obtain ⟨b, off, hx, h0⟩ := hc i hi
  exact ⟨b, off, hx, (hb.cell (World.block_lt_of_cell? w _ h0)).trans h0⟩

theorem Bytes.drew {w : World} {v : Value} {l : List Nat} (h : Bytes w v l) : Bytes w.drew v l := h

theorem Bytes.nil (w : World) : Bytes w (.slice none 0 0) [] := ⟨by simp, none, 0, rfl, Nat.le_refl _, by unfold maxLen; omega, fun _ => rfl, fun i hi => by simp at hi⟩

/-- bytes of cells that all lie below a bound -/
def BytesLo (B : Nat) (w : World) (v : Value) (l : List Nat) : Prop :=
  (∀ x ∈ l, x < 256) ∧ ∃ x cap, v = .slice x l.length cap ∧ l.length ≤ cap ∧ cap ≤ maxLen ∧ (x = none → cap = 0) ∧ ∀ i, i < l.length → ∃ b off, x = some ⟨b, off, none⟩ ∧ b < B ∧ w.cell? ⟨b, off + i, none⟩ = some (.int .u8 (l.getD i 0))
theorem BytesLo.bytes {B : Nat} {w : World} {v : Value} {l : List Nat} (h : BytesLo B w v l) : Bytes w v l := by
  obtain ⟨h1, x, cap, hv, hl, hm, hn, hc⟩ := h
  exact ⟨h1, x, cap, hv, hl, hm, hn, fun i hi => by obtain ⟨b, off, hx, _, h0⟩ := hc i hi; exact ⟨b, off, hx, h0⟩⟩
theorem Bytes.lo {w : World} {v : Value} {l : List Nat} (h : Bytes w v l) : BytesLo w.heap.size w v l := by
  obtain ⟨h1, x, cap, hv, hl, hm, hn, hc⟩ := h
  exact ⟨h1, x, cap, hv, hl, hm, hn, fun i hi => by obtain ⟨b, off, hx, h0⟩ := hc i hi; exact ⟨b, off, hx, World.block_lt_of_cell? w _ h0, h0⟩⟩
theorem BytesLo.keep {B : Nat} {w w' : World} {v : Value} {l : List Nat} (h : BytesLo B w v l) (hb : Below B w w') : BytesLo B w' v l := by
  obtain ⟨h1, x, cap, hv, hl, hm, hn, hc⟩ := h
  refine ⟨h1, x, cap, hv, hl, hm, hn, fun i hi => ?_⟩
  obtain ⟨b, off, hx, hlt, h0⟩ := hc i hi
  exact ⟨b, off, hx, hlt, (hb.cell (p := ⟨b, off + i, none⟩) hlt).trans h0⟩

theorem addr_add (b off j : Nat) : (⟨b, off, none⟩ : Addr).add j = ⟨b, off + j, none⟩ := by
  unfold Addr.add
  split
  · rename_i h; subst h; rfl
  · rfl

def byteVals (es : List Nat) : List Value := es.map fun (x : Nat) => Value.int .u8 x
theorem byteVals_len (es : List Nat) : (byteVals es).length = es.length := by simp [byteVals]

/-- the text of bytes -/
def strB (l : List Nat) : ByteArray := ⟨(l.map fun x => UInt8.ofNat x).toArray⟩
theorem strB_size (l : List Nat) : (strB l).size = l.length := by simp [strB, ByteArray.size]

theorem conv_bytes {w : World} {v : Value} {l : List Nat} (h : Bytes w v l) : (convert 78 9 v).run Tryd.prog w = .ok (.string (strB l)) w := by
  obtain ⟨hb, x, cap, rfl, _, _, _, hc⟩ := h
  cases x with
  | none =>
    have h0 : l = [] := by
      cases l with
      | nil => rfl
      | cons y l => obtain ⟨b, off, e, _⟩ := hc 0 (by simp); cases e
    subst h0
    exact run_convert_bytes_nil w 78 5 Tryd.underlying78 Tryd.underlying5 _ _ 9 Tryd.underlying9
  | some a =>
    have hk := run_convert_bytes_back (P := Tryd.prog) w 78 9 5 a cap (l.map fun x => UInt8.ofNat x) Tryd.underlying78 Tryd.underlying5 Tryd.underlying9 (fun j hj => by
      simp only [List.length_map] at hj
      obtain ⟨b, off, e, h0⟩ := hc j hj
      obtain rfl := Option.some.inj e
      rw [addr_add, h0]
      have : l[j] < 256 := hb _ (List.getElem_mem hj)
      simp [List.getElem?_eq_getElem hj]
      omega)
    simpa [strB] using hk

/-- a row of bytes that the text itself writes -/
theorem bytes_new (w : World) (l : List Nat) (fr : Nat × Nat) (hb : ∀ x ∈ l, x < 256) (hm : l.length ≤ maxLen) :
    Bytes (w.alloc (.cells (l.map fun (x : Nat) => Value.int .u8 x).toArray 5 fr)) (.slice (some ⟨w.heap.size, 0, none⟩) l.length l.length) l := by
  refine ⟨hb, some ⟨w.heap.size, 0, none⟩, l.length, rfl, Nat.le_refl _, hm, (fun h => by cases h), fun i hi => ⟨w.heap.size, 0, rfl, ?_⟩⟩
  rw [World.cell?_alloc_mark]
  simp [List.getElem?_eq_getElem hi]

theorem cellsU8 : Tryd.prog.cellsOf 5 = 1 := by kernel_rfl
theorem infoU8 : (Tryd.prog.info? 5).map (fun i => (i.zero, i.size, i.bytes)) = some (some (.int .u8 0), 1, 1) := by kernel_rfl
theorem info_partsM {i : Option TypeInfo} {z : Value} {n b : Nat} (h : i.map (fun i => (i.zero, i.size, i.bytes)) = some (some z, n, b)) : ∃ j, i = some j ∧ j.zero = some z ∧ j.size = n ∧ j.bytes = b := by
  cases i with
  | none => simp at h
  | some j => simp at h; exact ⟨j, rfl, h.1, h.2.1, h.2.2⟩

theorem byte_of_wf {n : Int} (h : (Lit.int .u8 n).wf = true) : 0 ≤ n ∧ n ≤ 255 := by
  have := bounds_u8 h
  omega

theorem bytes_mk {W : World} {A : Option Addr} {L C : Nat} {Z : List Int} (hl : L ≤ C) (hm : C ≤ maxLen) (hz : Z.length = C) (hw : ∀ n ∈ Z, (Lit.int .u8 n).wf = true) (hn : A = none → C = 0)
    (hc : ∀ a', A = some a' → ∀ c, c < C → W.cell? (a'.add c) = some (.int .u8 (Z.getD c 0))) : ∃ l, Bytes W (.slice A L C) l ∧ l.length = L := by
  have hlen : ((Z.take L).map Int.toNat).length = L := by simp; omega
  refine ⟨(Z.take L).map Int.toNat, ⟨?_, A, C, by rw [hlen], by rw [hlen]; exact hl, hm, hn, fun i hi => ?_⟩, hlen⟩
  · intro y hy
    simp only [List.mem_map] at hy
    obtain ⟨z, hz1, rfl⟩ := hy
    have := byte_of_wf (hw z (List.mem_of_mem_take hz1))
    omega
  · rw [hlen] at hi
    cases A with
    | none => have := hn rfl; omega
    | some x =>
      have h0 := hc x rfl 0 (by omega)
      have hi2 := hc x rfl i (by omega)
      obtain ⟨b, off, sp⟩ := x
      have hsp : sp = none := by
        have : (⟨b, off, sp⟩ : Addr).add 0 = ⟨b, off, sp⟩ := by simp [Addr.add]
        rw [this] at h0
        exact World.cell?_spot h0
      subst hsp
      rw [addr_add] at hi2
      refine ⟨b, off, rfl, ?_⟩
      rw [hi2]
      have hiz : i < Z.length := by omega
      have hw := byte_of_wf (hw Z[i] (List.getElem_mem hiz))
      have e1 : Z.getD i 0 = Z[i] := by rw [List.getD_eq_getElem?_getD, List.getElem?_eq_getElem hiz]; rfl
      have e2 : ((Z.take L).map Int.toNat).getD i 0 = Z[i].toNat := by
        rw [List.getD_eq_getElem?_getD, List.getElem?_map, List.getElem?_take_of_lt hi, List.getElem?_eq_getElem hiz]; rfl
      rw [e1, e2]
      congr 2
      omega

theorem bytes_open {H : Type} {enc : TypeId × Value → H} {W : World} {base : Nat} {a : Option Addr} {len cap : Nat} {d : DataW H} {p : List MemPlace}
    (h : DataW.Trod enc Tryd.prog W base (fun _ => true) true 78 (.slice a len cap) d p) : ∃ l, Bytes W (.slice a len cap) l ∧ l.length = len := by
  obtain ⟨fuel, hf⟩ := h
  rcases open_ints Tryd.underlying78 Tryd.underlying5 cellsU8 hf with ⟨hcs, _⟩ | ⟨x, l, c, zs, hcs, _, hl, hm, hz, _, hcell, hwz⟩
  · simp [Value.cells] at hcs
    obtain ⟨rfl, rfl, rfl⟩ := hcs
    exact ⟨[], Bytes.nil W, rfl⟩
  · simp [Value.cells] at hcs
    obtain ⟨rfl, rfl, rfl⟩ := hcs
    simp only [if_true] at hz
    exact bytes_mk hl hm hz hwz (fun h => by cases h) (fun a' ha c hc => by cases ha; exact hcell c (by omega))

/-- what an own row of bytes is -/
theorem row_some {w : World} {base n : Nat} {v : Value} {xs : List Value} (h : w.ownsRow base 5 1 v n xs) (hv : v ≠ .slice none 0 0) :
    ∃ g cap cur, v = .slice (some ⟨g, 0, none⟩) n cap ∧ base ≤ g ∧ (w.heap[g]? = some (.cells cur 5 (0, 0)) ∧ n ≤ cap ∧ cap ≤ maxLen ∧ cur.toList.take n = xs) := by
  obtain ⟨_, ⟨h0, _⟩ | ⟨g, cap, cur, h1, h2, h3, h4, h5, h6, h7⟩⟩ := h
  · exact absurd h0 hv
  · exact ⟨g, cap, cur, h1, h2, h3, h4, h5, by simpa using h7⟩

theorem row_cell {w : World} {g : Nat} {cur : Array Value} {tot : List Nat} (h : w.heap[g]? = some (.cells cur 5 (0, 0))) (hc : cur.toList.take tot.length = byteVals tot) (j : Nat) (hj : j < tot.length) :
    w.cell? ⟨g, j, none⟩ = some (.int .u8 (tot.getD j 0)) := by
  rw [Lib.cell_of_heap h]
  have h1 : (cur.toList.take tot.length)[j]? = cur.toList[j]? := by rw [List.getElem?_take, if_pos hj]
  rw [hc] at h1
  rw [← Array.getElem?_toList, ← h1]
  simp [byteVals, List.getElem?_eq_getElem hj]

theorem row_bytes {w : World} {g cap : Nat} {cur : Array Value} {tot : List Nat} (h : w.heap[g]? = some (.cells cur 5 (0, 0))) (hc : cur.toList.take tot.length = byteVals tot) (hb : ∀ x ∈ tot, x < 256) (hcap : tot.length ≤ cap) (hm : cap ≤ maxLen) (k : Nat) (hk : k ≤ tot.length) :
    Bytes w (.slice (some ⟨g, 0, none⟩) k cap) (tot.take k) := by
  have hl : (tot.take k).length = k := by simp; omega
  refine ⟨fun x hx => hb x (List.mem_of_mem_take hx), some ⟨g, 0, none⟩, cap, by rw [hl], by rw [hl]; omega, hm, (fun h => by cases h), fun i hi => ⟨g, 0, rfl, ?_⟩⟩
  rw [Nat.zero_add, row_cell h hc i (by omega)]
  rw [hl] at hi
  congr 2
  simp [List.getD_eq_getElem?_getD, hi]

theorem owns_slice {w : World} {base n : Nat} {v : Value} {xs : List Value} (h : w.ownsRow base 5 1 v n xs) : ∃ x cap, v = .slice x n cap := by
  obtain ⟨_, ⟨rfl, rfl⟩ | ⟨g, cap, cur, rfl, _⟩⟩ := h
  · exact ⟨none, 0, rfl⟩
  · exact ⟨_, cap, rfl⟩

theorem owns_bytes {w : World} {base : Nat} {v : Value} {tot : List Nat} (h : w.ownsRow base 5 1 v tot.length (byteVals tot)) (hb : ∀ x ∈ tot, x < 256) : Bytes w v tot := by
  by_cases hv : v = .slice none 0 0
  · obtain ⟨_, ⟨_, h0⟩ | ⟨g, cap, cur, h1, _⟩⟩ := h
    · obtain rfl : tot = [] := List.eq_nil_of_length_eq_zero h0
      rw [hv]
      exact Bytes.nil w
    · rw [hv] at h1; cases h1
  · obtain ⟨g, cap, cur, rfl, _, hrow, hn, hm, hcur⟩ := row_some h hv
    have := row_bytes (tot := tot) hrow hcur hb hn hm tot.length (Nat.le_refl _)
    rwa [List.take_of_length_le (Nat.le_refl _)] at this

theorem ownBlock_ge {w : World} {base n : Nat} {v : Value} {xs : List Value} (h : w.ownsRow base 5 1 v n xs) : ∀ k, v.ownBlock = some k → base ≤ k := by
  rintro k hk
  obtain ⟨_, ⟨rfl, _⟩ | ⟨g, cap, cur, rfl, hg, _⟩⟩ := h
  · cases hk
  · cases hk; exact hg

theorem row_keep {W W1 : World} {base : Nat} {e : TypeId} {size n : Nat} {v : Value} {xs : List Value} (h : W.ownsRow base e size v n xs) (hb : Below W.heap.size W W1) : W1.ownsRow base e size v n xs :=
  h.kept (row := none) ⟨hb.os, hb.tape, hb.output, hb.size, fun k hk _ => hb.block k hk⟩ (by cases v.ownBlock <;> simp)

theorem bytes_vals {w : World} {ad : Addr} {k c : Nat} {l : List Nat} (hb : Bytes w (.slice (some ad) k c) l) : ∀ j u, (byteVals l)[j]? = some u → w.cell? (ad.add j) = some u := by
  obtain ⟨_, y, cap, he, _, _, _, hc⟩ := hb
  cases he
  intro j u hj
  have hjl : j < l.length := by
    have := (List.getElem?_eq_some_iff.1 hj).1
    simpa [byteVals] using this
  obtain ⟨b, off, e, h0⟩ := hc j hjl
  obtain rfl := Option.some.inj e
  rw [addr_add, h0, ← hj]
  simp [byteVals, List.getElem?_eq_getElem hjl]

/-- append(own, bytes...): the source may be nil -/
theorem wpList_append_bytes (w : World) {ops : Array Oper} {rest : List Oper} {o : Oper} {a : Act} {Q : Exit → Act → World → Prop} (hgd : o.guard = none) (s x : Operand)
    (ho : o.op = .call { callee := .builtin .append, args := #[s, x], argTypes := #[78, 78] })
    (base : Nat) (v : Value) (n : Nat) (xs : List Value) (hs : a.eval s = v) (hown : w.ownsRow base 5 1 v n xs) (src : Value) (l : List Nat) (hx : a.eval x = src) (hb : Bytes w src l)
    (hn : n + l.length ≤ 1000000000) (hbase : base ≤ w.heap.size)
    (h : ∀ v' w', Hid (w'.ownsRow base 5 1 v' (n + l.length) (xs ++ byteVals l)) → Hid (w.grownBy w' v.ownBlock) → (v ≠ .slice none 0 0 → v' ≠ .slice none 0 0) → wpList Tryd.prog ops Q rest (a.put o.dst v') w') : wpList Tryd.prog ops Q (o :: rest) a w := by
  obtain ⟨i0, hi, hz0, hz1, hz2⟩ := info_partsM infoU8
  have hb' := hb
  obtain ⟨_, y, cap, rfl, _, _, hnil, hc⟩ := hb
  cases y with
  | none =>
    have h0 : l = [] := by
      cases l with
      | nil => rfl
      | cons z l => obtain ⟨b, off, e, _⟩ := hc 0 (by simp); cases e
    subst h0
    obtain rfl := hnil rfl
    have := wpList_append_own_none hgd s x 78 ho base 5 i0 1 Tryd.underlying78 hi v n xs hs hown (Q := Q) (ops := ops) (rest := rest) hx
    exact this (h v w (Lib.hid (by simpa [byteVals] using hown)) (Lib.hid ⟨rfl, rfl, rfl, Nat.le_refl _, fun _ _ _ => rfl⟩) id)
  | some ad =>
    refine wpList_append_own _ hgd s x 78 ho base 5 i0 (.int .u8 0) 1 1 Tryd.underlying78 hi hz0 hz1 hz2 rfl (by decide) v n xs hs hown ad l.length cap (byteVals l) hx (by simp [byteVals]) (bytes_vals hb') ?_ (by unfold maxLen; omega) (by omega) hbase (fun v' w' h1 h2 h3 => h v' w' (Lib.hid h1) (Lib.hid h2) (fun hv hv' => hv (h3.1 hv').1))
    intro u hu
    simp only [byteVals, List.mem_map] at hu
    obtain ⟨z, _, rfl⟩ := hu
    rfl
end Go.Proofs.YtgfolgmheinbiaaDoorRRR
