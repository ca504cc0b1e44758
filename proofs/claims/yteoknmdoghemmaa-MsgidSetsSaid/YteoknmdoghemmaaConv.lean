/- []byte of a text, and back: rows of the call's own. -/
import Derived.Test.YteoknmdoghemmaaUnhex
namespace Go.Proofs.Yteoknmdoghemmaa
open Go.RowKit

theorem conv_in (w : World) (s : ByteArray) : ∃ W2 cap, (convert 9 35 (.string s)).run Try.prog w = .ok (.slice (some ⟨w.heap.size, 0, none⟩) s.size cap) W2 ∧ RowAt W2 w.heap.size s.data.toList ∧ Below w.heap.size w W2 := by
  have h := run_bytes_of_string (P := Try.prog) w 9 35 5 s Try.underlying9 Try.underlying35 Try.underlying5
  refine ⟨_, _, h, ⟨by simp, fun i hi => ?_⟩, (Below.refl _ w).drew.alloc (by simp) _⟩
  have hi2 : i < s.data.size := by simpa using hi
  have hsz : i < (bytesRow s (grownCap w s.size 0 5)).size := by simp only [bytesRow, Array.size_append, Array.size_map]; omega
  constructor
  · rw [show w.heap.size = w.drew.heap.size from rfl, World.cell?_alloc_mark]
    simp only [bytesRow, Array.getElem?_append, Array.size_map, if_pos hi2, Array.getElem?_map, Array.getElem?_eq_getElem hi2]; rfl
  · rw [show w.heap.size = w.drew.heap.size from rfl, World.frozen?_alloc_mark]
    simp; omega

theorem conv_out (W : World) (B cap : Nat) (l : List UInt8) (h : RowAt W B l) : (convert 35 9 (.slice (some ⟨B, 0, none⟩) l.length cap)).run Try.prog W = .ok (.string ⟨l.toArray⟩) W := by
  refine run_convert_bytes_back (P := Try.prog) W 35 9 5 ⟨B, 0, none⟩ cap l Try.underlying35 Try.underlying5 Try.underlying9 (fun j hj => ?_)
  have : (⟨B, 0, none⟩ : Addr).add j = ⟨B, j, none⟩ := by unfold Addr.add; split <;> simp_all
  rw [this]
  exact (h.2 j hj).1

end Go.Proofs.Yteoknmdoghemmaa
