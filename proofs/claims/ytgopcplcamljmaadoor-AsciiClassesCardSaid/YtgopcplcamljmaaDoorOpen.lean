/- What a row's reading gives of a slice of bytes: the list that it reads as; and a text cut to 300 bytes. -/
import Derived.Test.YtgopcplcamljmaaDoorFrame
namespace Go.Proofs.YtgopcplcamljmaaDoor
open Go.ChangeShapes Go.WideShapes Go.ChangeAt Go.RowKit

theorem byte_of_wf {n : Int} (h : (Lit.int .u8 n).wf = true) : 0 ≤ n ∧ n ≤ 255 := by
  have := bounds_u8 h
  omega

theorem addr_add (b off j : Nat) : (⟨b, off, none⟩ : Addr).add j = ⟨b, off + j, none⟩ := by
  unfold Addr.add
  split
  · rename_i h; subst h; rfl
  · rfl

theorem bytes_open {H : Type} {enc : TypeId × Value → H} {W : World} {base : Nat} {a : Option Addr} {len cap : Nat} {d : DataW H} {p : List MemPlace}
    (h : DataW.Trod enc Tryd.prog W base (fun _ => true) true 41 (.slice a len cap) d p) : ∃ l, Bytes W (.slice a len cap) l ∧ l.length = len := by
  obtain ⟨fuel, hf⟩ := h
  rcases open_ints Tryd.underlying41 Tryd.underlying5 cells5 hf with ⟨hcs, _⟩ | ⟨x, l, c, zs, hcs, _, hl, hm, hz, _, hcell, hwz⟩
  · simp [Value.cells] at hcs
    obtain ⟨rfl, rfl, rfl⟩ := hcs
    exact ⟨[], Bytes.nil W, rfl⟩
  · simp [Value.cells] at hcs
    obtain ⟨rfl, rfl, rfl⟩ := hcs
    simp only [if_true] at hz
    have hlen : ((zs.take len).map Int.toNat).length = len := by simp; omega
    refine ⟨(zs.take len).map Int.toNat, ⟨?_, some x, cap, by rw [hlen], by rw [hlen]; exact hl, hm, fun i hi => ?_⟩, hlen⟩
    · intro y hy
      simp only [List.mem_map] at hy
      obtain ⟨z, hz1, rfl⟩ := hy
      have := byte_of_wf (hwz z (List.mem_of_mem_take hz1))
      omega
    · rw [hlen] at hi
      have h0 := hcell 0 (by omega)
      have hi2 := hcell i (by omega)
      obtain ⟨b, off, sp⟩ := x
      have hsp : sp = none := by
        have : (⟨b, off, sp⟩ : Addr).add 0 = ⟨b, off, sp⟩ := by simp [Addr.add]
        rw [this] at h0
        exact World.cell?_spot h0
      subst hsp
      rw [addr_add] at hi2
      refine ⟨b, off, rfl, ?_⟩
      rw [hi2]
      have hiz : i < zs.length := by omega
      have hw := byte_of_wf (hwz zs[i] (List.getElem_mem hiz))
      have e1 : zs.getD i 0 = zs[i] := by rw [List.getD_eq_getElem?_getD, List.getElem?_eq_getElem hiz]; rfl
      have e2 : ((zs.take len).map Int.toNat).getD i 0 = zs[i].toNat := by
        rw [List.getD_eq_getElem?_getD, List.getElem?_map, List.getElem?_take_of_lt hi, List.getElem?_eq_getElem hiz]; rfl
      rw [e1, e2]
      congr 2
      omega

/-- a text, cut -/
def cutS (s : ByteArray) : ByteArray := s.extract 0 (min s.size 300)

theorem cutS_size (s : ByteArray) : (cutS s).size ≤ 300 := by simp [cutS]; omega

theorem cut_any (s : ByteArray) (w : World) (hs : s.size ≤ maxLen) (t : ByteArray) (ht : t = cutS s) : Calls Tryd.prog 25 #[.string s] w fun e w' => e = .returned (.string t) ∧ w = w' := by
  unfold maxLen at hs
  have hsI : (s.size : Int) ≤ 9223372036854775807 := by omega
  have HT := Lib.hid ht
  clear ht
  obtain ⟨m, hm⟩ : ∃ m : Nat, m = min s.size 300 := ⟨_, rfl⟩
  have hmI : min (s.size : Int) 300 = (m : Int) := by omega
  have hm2 : (m : Int) ≤ (s.size : Int) := by omega
  have HM := Lib.hid hm
  clear hm
  go_enter Tryd.func25, Tryd.ntmps25
  go_wp2_with fail
  go_ret
  exact ⟨ret_str (by rw [HT.out, cutS, ← HM.out]), rfl⟩
end Go.Proofs.YtgopcplcamljmaaDoor
