/- A text without error arrives in pieces: what a Decoder holds after each; the bytes of a text. -/
import Derived.Test.YtbjhomihmlijiaaDoorDec
import Derived.Test.YtbjhomihmlijiaaDoorRefRep
import Derived.Laws.AppendOwn
namespace Go.Proofs.YtbjhomihmlijiaaDoor
open Go.RowKit

theorem strB_bytesOf (s : ByteArray) : strB (bytesOf s) = s := baOf_bytesOf s

theorem conv_in (w : World) (s : ByteArray) (hs : s.size ≤ 1000000) : ∃ v W2, (convert 9 38 (.string s)).run Tryd.prog w = .ok v W2 ∧ Bytes W2 v (bytesOf s) ∧ Below w.heap.size w W2 := by
  have h := run_bytes_of_string (P := Tryd.prog) w 9 38 5 s Tryd.underlying9 Tryd.underlying38 Tryd.underlying5
  refine ⟨_, _, h, ⟨bytesOf_lt s, some ⟨w.heap.size, 0, none⟩, _, by rw [bytesOf_length], ?_, ?_, (fun h => by cases h), fun i hi => ⟨w.heap.size, 0, rfl, ?_⟩⟩, (Below.refl _ w).drew.alloc (by simp) _⟩
  · rw [bytesOf_length]; exact grownCap_ge _ _ _ _
  · exact grownCap_le_maxLen _ _ _ _ (by unfold maxLen; omega)
  · rw [bytesOf_length] at hi
    have hi2 : i < s.data.size := hi
    rw [Nat.zero_add, bytesOf_get s i hi, show w.heap.size = w.drew.heap.size from rfl, World.cell?_alloc_mark]
    simp only [bytesRow, Array.getElem?_append, Array.size_map, if_pos hi2, Array.getElem?_map, Array.getElem?_eq_getElem hi2]; rfl

end Go.Proofs.YtbjhomihmlijiaaDoor
namespace U8
theorem encs_take_add (rs : List Nat) (j k : Nat) : encs (rs.take (j + k)) = encs (rs.take j) ++ encs ((rs.drop j).take k) := by
  rw [← encs_append, ← List.take_add]

/-- what arrived till now is cut behind its complete encodings; more arrives, and again -/
theorem dec_step (rs : List Nat) (hok : ∀ r ∈ rs, ok r) (j M : Nat) (hj : (encs (rs.take j)).length ≤ M) (x : List Nat) (hx : x = ((encs rs).drop (encs (rs.take j)).length).take (M - (encs (rs.take j)).length)) :
    ∃ j1 a e, check x x.length 0 = (a, e) ∧ (e = 0 ∨ e = 23) ∧ (encs (rs.take j)).length ≤ (encs (rs.take j1)).length ∧ (encs (rs.take j1)).length ≤ M ∧ (encs (rs.take j1)).length - (encs (rs.take j)).length = (if e = 0 then x.length else a) ∧ (M = (encs rs).length → e = 0) := by
  have hd : (encs rs).drop (encs (rs.take j)).length = encs (rs.drop j) := by
    conv => lhs; rw [← List.take_append_drop j rs, encs_append]
    rw [List.take_append_drop, List.drop_left]
  rw [hd] at hx
  have hxl : x.length ≤ M - (encs (rs.take j)).length := by rw [hx, List.length_take]; omega
  obtain ⟨k, hk, h | h⟩ := check_part (rs.drop j) x (M - (encs (rs.take j)).length) x.length 0 (fun r hr => hok r (List.mem_of_mem_drop hr)) (by rw [List.drop_zero]; exact hx) (by omega) (Nat.zero_le _)
  · obtain ⟨h1, h2, h3⟩ := h
    refine ⟨j + k, 0, 0, h1, .inl rfl, ?_, ?_, ?_, fun _ => rfl⟩
    all_goals rw [encs_take_add, List.length_append]
    · omega
    · omega
    · rw [if_pos rfl]; omega
  · obtain ⟨h1, h2, h3⟩ := h
    have hfull : M = (encs rs).length → (23 : Nat) = 0 := by
      intro hM
      have hxe : x = encs (rs.drop j) := by
        rw [hx, List.take_of_length_le]
        rw [← hd, List.length_drop]
        omega
      have := check_encs (rs.drop j) (fun r hr => hok r (List.mem_of_mem_drop hr))
      rw [← hxe, h1] at this
      exact congrArg Prod.snd this
    refine ⟨j + k, _, 23, h1, .inr rfl, ?_, ?_, ?_, hfull⟩
    all_goals rw [encs_take_add, List.length_append]
    · omega
    · omega
    · rw [if_neg (by decide)]; omega
end U8
namespace Go.Proofs.YtbjhomihmlijiaaDoor
open Go.RowKit

theorem decWrite_piece (c : ByteArray) (hcs : c.size ≤ 1000000) (rs : List Nat) (hok : ∀ r ∈ rs, U8.ok r) (hc : bytesOf c = U8.encs rs) (j a0 m M : Nat) (ha0 : a0 = (U8.encs (rs.take j)).length) (h0 : a0 ≤ m) (h1 : m ≤ M) (h2 : M ≤ c.size)
    (w : World) (v : Value) (g : Nat) (hT : Tab w) (h : DecAt w g (c.extract a0 m) false) (hv : Bytes w v (bytesOf (c.extract m M))) :
    Calls Tryd.prog 32 #[.pointer (some ⟨g, 0, none⟩), v] w fun y w' => ∃ j1 a1, y = .returned (.tuple #[.string (c.extract a0 a1), .int .i64 0]) ∧ DecAt w' g (c.extract a1 M) false ∧ Kept g w w' ∧ a1 = (U8.encs (rs.take j1)).length ∧ a0 ≤ a1 ∧ a1 ≤ M ∧ (M = c.size → a1 = M) := by
  have hx : c.extract a0 m ++ strB (bytesOf (c.extract m M)) = c.extract a0 M := by
    rw [strB_bytesOf, ← ByteArray.extract_eq_extract_append_extract m h0 h1]
  have hcl : c.size = (U8.encs rs).length := by rw [← bytesOf_length, hc]
  have hxs : (c.extract a0 M).size = M - a0 := by simp; omega
  have hxb : bytesOf (c.extract a0 M) = ((U8.encs rs).drop (U8.encs (rs.take j)).length).take (M - (U8.encs (rs.take j)).length) := by
    have := bytesOf_part c a0 (M - a0)
    rw [show a0 + (M - a0) = M by omega] at this
    rw [this, hc, ha0]
  obtain ⟨j1, a, e, k1, k2, k3, k4, k5, k6⟩ := U8.dec_step rs hok j M (by omega) (bytesOf (c.extract a0 M)) hxb
  rw [bytesOf_length] at k1 k5
  rw [← ha0] at k3 k5
  obtain ⟨a1, ha1⟩ : ∃ a1, a1 = (U8.encs (rs.take j1)).length := ⟨_, rfl⟩
  rw [← ha1] at k3 k4 k5
  refine (decWrite_ok w v _ g _ hT h hv _ hx (by omega) a e k1 k2 (a1 - a0) k5 (by omega) (c.extract a0 a1) (c.extract a1 M) ?_ ?_).mono ?_
  · rw [ByteArray.extract_extract, Nat.add_zero, show min (a0 + (a1 - a0)) M = a1 by omega]
  · rw [ByteArray.extract_extract, hxs, show a0 + (a1 - a0) = a1 by omega, show min (a0 + (M - a0)) M = M by omega]
  · rintro y w' ⟨rfl, q1, q2⟩
    refine ⟨j1, a1, rfl, q1, q2, ha1, k3, k4, fun hM => ?_⟩
    rw [if_pos (k6 (by omega)), hxs] at k5
    omega
end Go.Proofs.YtbjhomihmlijiaaDoor
