/- The text of a digest. -/
import Derived.Test.YtpkbceelbppleaaDoorHex
namespace Go.Proofs.YtpkbceelbppleaaDoor
open Go.RowKit

theorem bytes_agg (w : World) (l : List Nat) (hb : ∀ x ∈ l, x < 256) (hm : l.length ≤ maxLen) (t : TypeId) : Bytes (w.alloc (.cells (bsC (l.map fun (x : Nat) => (x : Int))) t)) (.slice (some ⟨w.heap.size, 0, none⟩) l.length l.length) l := by
  refine ⟨hb, some ⟨w.heap.size, 0, none⟩, l.length, rfl, Nat.le_refl _, hm, (fun h => by cases h), fun i hi => ⟨w.heap.size, 0, rfl, ?_⟩⟩
  simp [bsC, List.getElem?_eq_getElem hi]

set_option maxRecDepth 100000 in
set_option maxHeartbeats 1000000 in
theorem str_any (z : List Int) (l : List Nat) (hz : z = l.map fun (x : Nat) => (x : Int)) (hl : l.length = 32) (hb : ∀ x ∈ l, x < 256) (w : World) (t : ByteArray) (ht : t = ⟨(Asc.hexL l).toArray⟩) :
    Calls Tryd.prog 22 #[.agg (bsC z)] w fun e w' => e = .returned (.string t) ∧ Below w.heap.size w w' := by
  have HH := Lib.hid (fun w v hv => hex_any v l w hv (by omega) t ht)
  have hby := bytes_agg w l hb (by rw [hl]; unfold maxLen; omega) 25
  rw [← hz, hl] at hby
  have HBY := Lib.hid hby
  have hB : Below w.heap.size w (w.alloc (.cells (bsC z) 25)) := (Below.refl _ w).alloc (Nat.le_refl _) _
  have HB := Lib.hid hB
  clear ht hb hl hz hby hB
  go_enter Tryd.func22, Tryd.ntmps22
  go_wp2_with fail
  refine (HH.out _ _ HBY.out).mono ?_
  rintro e w1 ⟨rfl, hb1⟩
  have HB1 := Lib.hid (HB.out.trans (hb1.mono HB.out.size))
  clear hb1
  go_wp2_with fail
  go_ret
  exact ⟨rfl, HB1.out⟩

/-- the digest of a text's bytes, as a text -/
theorem dig_any (v : Value) (l : List Nat) (hn : l.length ≤ 1000000000) (d : List Nat) (hd : S5.sha S5.K l = d.map fun (x : Nat) => (x : Int)) (w : World) (hT : Tab w) (hv : Bytes w v l) :
    Calls Tryd.prog 12 #[v] w fun e w' => e = .returned (.agg (bsC (d.map fun (x : Nat) => (x : Int)))) ∧ Below w.heap.size w w' := by
  rw [← hd]
  exact sum_any v l hn w hT hv
end Go.Proofs.YtpkbceelbppleaaDoor
