/- Rows of bytes of the call's own; conversions between bytes and strings. -/
import Derived.Test.YtbjhomihmlijiaaDoorAll
import Derived.Laws.IdiomStrings
import Derived.Deep.OwnRows
namespace Go.Proofs.YtbjhomihmlijiaaDoor
open Go.RowKit

theorem ret_bool {a b : Bool} (h : a = b) : Ending.returned (.bool a) = .returned (.bool b) := by rw [h]
theorem ret_int {a b : Int} (h : a = b) : Ending.returned (.int .i64 a) = .returned (.int .i64 b) := by rw [h]
theorem ret_str {a b : ByteArray} (h : a = b) : Ending.returned (.string a) = .returned (.string b) := by rw [h]
theorem size_toList (s : ByteArray) : s.data.toList.length = s.size := by simp

/-- block B is a row of the call's own that begins with the bytes l -/
def RowAt (W : World) (B : Nat) (l : List UInt8) : Prop :=
  B < W.heap.size ∧ ∀ i (h : i < l.length), W.cell? ⟨B, i, none⟩ = some (.int .u8 (l[i].toNat : Int)) ∧ W.frozen? ⟨B, i, none⟩ = false

theorem RowAt.drew {W : World} {B : Nat} {l : List UInt8} (h : RowAt W B l) : RowAt W.drew B l := h

theorem RowAt.set {W : World} {B : Nat} {l : List UInt8} (h : RowAt W B l) (k : Nat) (hk : k < l.length) (c : UInt8) : RowAt (W.setCell ⟨B, k, none⟩ (.int .u8 (c.toNat : Int))) B (l.set k c) := by
  have hsz : (W.setCell ⟨B, k, none⟩ (.int .u8 (c.toNat : Int))).heap.size = W.heap.size := by simp
  refine ⟨by rw [hsz]; exact h.1, fun i hi => ?_⟩
  have hi2 : i < l.length := by simpa using hi
  refine ⟨?_, by rw [World.frozen?_setCell]; exact (h.2 i hi2).2⟩
  by_cases e : k = i
  · subst e
    rw [World.cell?_setCell_same _ _ _ (h.2 k hk).1]
    simp
  · rw [World.cell?_setCell_other _ _ _ _ (by intro x; injection x with _ x _; exact e x), (h.2 i hi2).1]
    rw [List.getElem_set_ne e]

theorem RowAt.below {W W' : World} {B n : Nat} {l : List UInt8} (h : RowAt W B l) (hb : Below n W W') (hB : B < n) : RowAt W' B l :=
  ⟨Nat.lt_of_lt_of_le h.1 hb.size, fun i hi => ⟨(hb.cell (p := ⟨B, i, none⟩) hB).trans (h.2 i hi).1, (hb.frozen (p := ⟨B, i, none⟩) hB).trans (h.2 i hi).2⟩⟩

theorem conv_out (W : World) (B cap : Nat) (l : List UInt8) (h : RowAt W B l) : (convert 38 9 (.slice (some ⟨B, 0, none⟩) l.length cap)).run Tryd.prog W = .ok (.string ⟨l.toArray⟩) W := by
  refine run_convert_bytes_back (P := Tryd.prog) W 38 9 5 ⟨B, 0, none⟩ cap l Tryd.underlying38 Tryd.underlying5 Tryd.underlying9 (fun j hj => ?_)
  have : (⟨B, 0, none⟩ : Addr).add j = ⟨B, j, none⟩ := by unfold Addr.add; split <;> simp_all
  rw [this]
  exact (h.2 j hj).1

theorem infoB : (Tryd.prog.info? 5).map (fun i => (i.zero, i.size, i.bytes)) = some (some (.int .u8 0), 1, 1) := by kernel_rfl

theorem news_ok (w : World) (cs : List Value) (t : TypeId) : ∀ j u, cs[j]? = some u → (w.alloc (.cells cs.toArray t)).cell? ((⟨w.heap.size, 0, none⟩ : Addr).add j) = some u := by
  intro j u hj
  have : (⟨w.heap.size, 0, none⟩ : Addr).add j = ⟨w.heap.size, j, none⟩ := by unfold Addr.add; split <;> simp_all
  rw [this]
  simpa using hj

theorem conv_row {W : World} {base n : Nat} {v : Value} {l : List UInt8} (h : W.ownsRow base 5 1 v n (Lib.byteCells l)) : (convert 38 9 v).run Tryd.prog W = .ok (.string ⟨l.toArray⟩) W := by
  have hlen := h.1
  rw [Lib.byteCells_length, Nat.mul_one] at hlen
  rcases h.2 with ⟨rfl, h0⟩ | ⟨g, cap, cur, rfl, hg, hh, hn, hm, hs, ht⟩
  · have : l = [] := List.length_eq_zero_iff.1 (by omega)
    subst this
    exact run_convert_bytes_nil W 38 5 Tryd.underlying38 Tryd.underlying5 _ _ 9 Tryd.underlying9
  · subst hlen
    refine run_convert_bytes_back (P := Tryd.prog) W 38 9 5 ⟨g, 0, none⟩ cap l Tryd.underlying38 Tryd.underlying5 Tryd.underlying9 (fun j hj => ?_)
    exact h.cells (g := g) rfl j _ (by simp [Lib.byteCells, List.getElem?_eq_getElem hj])

theorem conv_one (w : World) (B c : Nat) (z : UInt8) (h : w.cell? ⟨B, 0, none⟩ = some (.int .u8 (z.toNat : Int))) : (convert 38 9 (.slice (some ⟨B, 0, none⟩) 1 c)).run Tryd.prog w = .ok (.string ⟨#[z]⟩) w :=
  run_convert_bytes_back (P := Tryd.prog) w 38 9 5 ⟨B, 0, none⟩ c [z] Tryd.underlying38 Tryd.underlying5 Tryd.underlying9 (fun j hj => by
    have : j = 0 := by simp at hj; omega
    subst this
    rw [show (⟨B, 0, none⟩ : Addr).add 0 = ⟨B, 0, none⟩ by simp [Addr.add]]
    simpa using h)

theorem make_row (w : World) (n : Nat) (hn : n ≤ 1000000) : ∃ W2, (∀ k, (Instr.makeSlice 38 (.int k (n : Int)) (.int k (n : Int))).run Tryd.prog w = .ok (.slice (some ⟨w.heap.size, 0, none⟩) n n) W2) ∧ RowAt W2 w.heap.size (List.replicate n 0) ∧ Below w.heap.size w W2 := by
  refine ⟨_, fun k => run_make_row' (P := Tryd.prog) 38 5 (.int .u8 0) 1 Tryd.underlying38 infoB rfl k k n (by omega) (by omega) w, ⟨by simp, fun i hi => ?_⟩, (Below.refl _ w).alloc (Nat.le_refl _) _⟩
  have hi2 : i < n := by simpa using hi
  constructor
  · rw [World.cell?_alloc_new]
    simp [madeCells, hi2, Nat.mod_one]
  · simp

/-- the text of some bytes -/
def baOf (l : List Nat) : ByteArray := ⟨(l.map UInt8.ofNat).toArray⟩

theorem bytesOf_baOf (l : List Nat) (h : ∀ x ∈ l, x < 256) : bytesOf (baOf l) = l := by
  unfold bytesOf baOf
  rw [List.toList_toArray, List.map_map]
  conv => rhs; rw [← List.map_id l]
  refine List.map_congr_left fun x hx => ?_
  have := h x hx
  simp
  omega

theorem baOf_bytesOf (s : ByteArray) : baOf (bytesOf s) = s := by
  unfold bytesOf baOf
  apply ByteArray.ext
  apply Array.toList_inj.1
  rw [List.toList_toArray, List.map_map]
  conv => rhs; rw [← List.map_id s.data.toList]
  refine List.map_congr_left fun x _ => ?_
  simp

theorem baOf_size (l : List Nat) : (baOf l).size = l.length := by simp [baOf, ByteArray.size]

theorem i32_and_nat (a b : Nat) (ha : a < 2147483648) (hb : b < 2147483648) : bits .and .i32 (a : Int) (b : Int) = ((a &&& b : Nat) : Int) := by
  have hx : a &&& b < 2 ^ 31 := Nat.and_lt_two_pow _ (by omega)
  show IntKind.i32.wrap ((BitVec.ofInt 32 (a : Int) &&& BitVec.ofInt 32 (b : Int)).toNat : Int) = _
  rw [BitVec.toNat_and, ofInt_u32 a (by omega), ofInt_u32 b (by omega)]
  simp [IntKind.wrap, IntKind.bits, IntKind.signed]
  omega

theorem u8_or_nat' (a b : Nat) (ha : a < 256) (hb : b < 256) : bits .or .u8 (a : Int) (b : Int) = ((a ||| b : Nat) : Int) := by
  have hx : a ||| b < 2 ^ 8 := Nat.or_lt_two_pow (by omega) (by omega)
  show IntKind.u8.wrap ((BitVec.ofInt 8 (a : Int) ||| BitVec.ofInt 8 (b : Int)).toNat : Int) = _
  rw [BitVec.toNat_or, ofInt_u8 a ha, ofInt_u8 b hb, IntKind.wrap_u8']
  omega
end Go.Proofs.YtbjhomihmlijiaaDoor
