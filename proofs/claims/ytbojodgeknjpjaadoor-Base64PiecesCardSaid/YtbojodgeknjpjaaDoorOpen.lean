/- What a row's reading gives of a slice of bytes: the list that it reads as; and what Valid answers. Condition of the second: the alphabet's table reads as laid. -/
import Derived.Test.YtbojodgeknjpjaaDoorFrame
namespace Go.Proofs.YtbojodgeknjpjaaDoor
open Go.ChangeShapes Go.WideShapes Go.ChangeAt Go.RowKit

theorem byte_of_wf {n : Int} (h : (Lit.int .u8 n).wf = true) : 0 ≤ n ∧ n ≤ 255 := by
  have := bounds_u8 h
  omega

theorem bytes_open {H : Type} {enc : TypeId × Value → H} {W : World} {base : Nat} {a : Option Addr} {len cap : Nat} {d : DataW H} {p : List MemPlace}
    (h : DataW.Trod enc Tryd.prog W base (fun _ => true) true 22 (.slice a len cap) d p) : ∃ l, Bytes W (.slice a len cap) l ∧ l.length = len := by
  obtain ⟨fuel, hf⟩ := h
  rcases open_ints Tryd.underlying22 Tryd.underlying5 cells5 hf with ⟨hcs, _⟩ | ⟨x, l, c, zs, hcs, _, hl, hm, hz, _, hcell, hwz⟩
  · simp [Value.cells] at hcs
    obtain ⟨rfl, rfl, rfl⟩ := hcs
    exact ⟨[], Bytes.nil W, rfl⟩
  · simp [Value.cells] at hcs
    obtain ⟨rfl, rfl, rfl⟩ := hcs
    simp only [if_true] at hz
    have hlen : ((zs.take len).map Int.toNat).length = len := by simp; omega
    refine ⟨(zs.take len).map Int.toNat, ⟨?_, some x, cap, by rw [hlen], by rw [hlen]; exact hl, hm, fun i hi => ?_⟩, hlen⟩
    · intro y hy
      simp only [List.mem_map] at hy
      obtain ⟨z, hz1, rfl⟩ := hy
      have := byte_of_wf (hwz z (List.mem_of_mem_take hz1))
      omega
    · rw [hlen] at hi
      have h0 := hcell 0 (by omega)
      have hi2 := hcell i (by omega)
      obtain ⟨b, off, sp⟩ := x
      have hsp : sp = none := by
        have : (⟨b, off, sp⟩ : Addr).add 0 = ⟨b, off, sp⟩ := by simp [Addr.add]
        rw [this] at h0
        exact World.cell?_spot h0
      subst hsp
      rw [addr_add] at hi2
      refine ⟨b, off, rfl, ?_⟩
      rw [hi2]
      have hiz : i < zs.length := by omega
      have hw := byte_of_wf (hwz zs[i] (List.getElem_mem hiz))
      have e1 : zs.getD i 0 = zs[i] := by rw [List.getD_eq_getElem?_getD, List.getElem?_eq_getElem hiz]; rfl
      have e2 : ((zs.take len).map Int.toNat).getD i 0 = zs[i].toNat := by
        rw [List.getD_eq_getElem?_getD, List.getElem?_map, List.getElem?_take_of_lt hi, List.getElem?_eq_getElem hiz]; rfl
      rw [e1, e2]
      congr 2
      omega

set_option maxHeartbeats 400000 in
theorem valid_any (s : ByteArray) (w : World) (hT : Tab w) (hs : s.size ≤ maxLen) (b : Bool) (hb : b = ((((B64.decT s.data.toList).2.2 : Nat) : Int) == 0)) :
    Calls Tryd.prog 19 #[.string s] w fun e w' => e = .returned (.bool b) ∧ Below w.heap.size w w' := by
  have hd := decode_any s w hT hs
  have HD := Lib.hid hd
  have HB := Lib.hid hb
  clear hd hb
  go_enter Tryd.func19, Tryd.ntmps19
  go_wp2_with fail
  refine HD.out.mono ?_
  rintro e w2 ⟨v, rfl, hby, hb2⟩
  generalize (((B64.decT s.data.toList).2.2 : Nat) : Int) = er at *
  generalize (((B64.decT s.data.toList).2.1 : Nat) : Int) = at0
  go_wp2
  go_ret
  exact ⟨by rw [HB.out]; rfl, hb2⟩

theorem strB_toList (l : List Nat) : ((strB l).toList == (strB l).toList) = true := by simp
end Go.Proofs.YtbojodgeknjpjaaDoor
