/- Lower of the program and of the reference: called with a text, each answers its bytes in lower case, and writes nothing that was there. -/
import Derived.Test.YtgopcplcamljmaaDoorSkip
import Derived.Laws.IdiomStrings
namespace Go.Proofs.YtgopcplcamljmaaDoor
open Go.RowKit

/-- block B is a row of the call's own that begins with the bytes l -/
def RowAt (W : World) (B : Nat) (l : List UInt8) : Prop :=
  B < W.heap.size ∧ ∀ i (h : i < l.length), W.cell? ⟨B, i, none⟩ = some (.int .u8 (l[i].toNat : Int)) ∧ W.frozen? ⟨B, i, none⟩ = false

theorem RowAt.drew {W : World} {B : Nat} {l : List UInt8} (h : RowAt W B l) : RowAt W.drew B l := h

theorem RowAt.set {W : World} {B : Nat} {l : List UInt8} (h : RowAt W B l) (k : Nat) (hk : k < l.length) (c : UInt8) : RowAt (W.setCell ⟨B, k, none⟩ (.int .u8 (c.toNat : Int))) B (l.set k c) := by
  have hsz : (W.setCell ⟨B, k, none⟩ (.int .u8 (c.toNat : Int))).heap.size = W.heap.size := by simp
  refine ⟨by rw [hsz]; exact h.1, fun i hi => ?_⟩
  have hi2 : i < l.length := by simpa using hi
  refine ⟨?_, by rw [World.frozen?_setCell]; exact (h.2 i hi2).2⟩
  by_cases e : k = i
  · subst e
    rw [World.cell?_setCell_same _ _ _ (h.2 k hk).1]
    simp
  · rw [World.cell?_setCell_other _ _ _ _ (by intro x; injection x with _ x _; exact e x), (h.2 i hi2).1]
    rw [List.getElem_set_ne e]

theorem RowAt.below {W W' : World} {B n : Nat} {l : List UInt8} (h : RowAt W B l) (hb : Below n W W') (hB : B < n) : RowAt W' B l :=
  ⟨Nat.lt_of_lt_of_le h.1 hb.size, fun i hi => ⟨(hb.cell (p := ⟨B, i, none⟩) hB).trans (h.2 i hi).1, (hb.frozen (p := ⟨B, i, none⟩) hB).trans (h.2 i hi).2⟩⟩

theorem conv_in (w : World) (s : ByteArray) : ∃ W2 cap, (convert 9 41 (.string s)).run Tryd.prog w = .ok (.slice (some ⟨w.heap.size, 0, none⟩) s.size cap) W2 ∧ RowAt W2 w.heap.size s.data.toList ∧ Below w.heap.size w W2 := by
  have h := run_bytes_of_string (P := Tryd.prog) w 9 41 5 s Tryd.underlying9 Tryd.underlying41 Tryd.underlying5
  refine ⟨_, _, h, ⟨by simp, fun i hi => ?_⟩, (Below.refl _ w).drew.alloc (by simp) _⟩
  have hi2 : i < s.data.size := by simpa using hi
  have hsz : i < (bytesRow s (grownCap w s.size 0 5)).size := by simp only [bytesRow, Array.size_append, Array.size_map]; omega
  constructor
  · rw [show w.heap.size = w.drew.heap.size from rfl, World.cell?_alloc_mark]
    simp only [bytesRow, Array.getElem?_append, Array.size_map, if_pos hi2, Array.getElem?_map, Array.getElem?_eq_getElem hi2]; rfl
  · rw [show w.heap.size = w.drew.heap.size from rfl, World.frozen?_alloc_mark]
    simp; omega

theorem conv_out (W : World) (B cap : Nat) (l : List UInt8) (h : RowAt W B l) : (convert 41 9 (.slice (some ⟨B, 0, none⟩) l.length cap)).run Tryd.prog W = .ok (.string ⟨l.toArray⟩) W := by
  refine run_convert_bytes_back (P := Tryd.prog) W 41 9 5 ⟨B, 0, none⟩ cap l Tryd.underlying41 Tryd.underlying5 Tryd.underlying9 (fun j hj => ?_)
  have : (⟨B, 0, none⟩ : Addr).add j = ⟨B, j, none⟩ := by unfold Addr.add; split <;> simp_all
  rw [this]
  exact (h.2 j hj).1

/-- half way -/
def half (l : List UInt8) (k : Nat) : List UInt8 := (l.take k).map Asc.lowC ++ l.drop k

theorem half_len (l : List UInt8) (k : Nat) : (half l k).length = l.length := by
  simp only [half, List.length_append, List.length_map, List.length_take, List.length_drop]; omega
theorem half_get? (l : List UInt8) (k i : Nat) : (half l k)[i]? = if i < k then l[i]?.map Asc.lowC else l[i]? := by
  unfold half
  rw [List.getElem?_append]
  simp only [List.length_map, List.length_take, List.getElem?_map, List.getElem?_take, List.getElem?_drop]
  by_cases h1 : i < l.length
  · by_cases h2 : i < k
    · rw [if_pos (by omega), if_pos h2, if_pos h2]
    · rw [if_neg (by omega), if_neg h2]; congr 1; omega
  · have h0 : l[i]? = none := List.getElem?_eq_none (by omega)
    rw [if_neg (by omega), h0, List.getElem?_eq_none (by omega)]
    simp
theorem half_get (l : List UInt8) (k : Nat) (hk : k < l.length) : (half l k)[k]'(by rw [half_len]; exact hk) = l[k] := by
  have h := half_get? l k k
  rw [if_neg (by omega), List.getElem?_eq_getElem hk, List.getElem?_eq_getElem (by rw [half_len]; exact hk)] at h
  exact Option.some.inj h
theorem half_succ (l : List UInt8) (k : Nat) (hk : k < l.length) : half l (k + 1) = (half l k).set k (Asc.lowC l[k]) := by
  apply List.ext_getElem?
  intro i
  rw [half_get?, List.getElem?_set, half_get?, half_len]
  by_cases e : k = i
  · subst e
    rw [if_pos (by omega), if_pos rfl, if_pos hk, List.getElem?_eq_getElem hk]; rfl
  · rw [if_neg e]
    by_cases h : i < k
    · rw [if_pos (by omega), if_pos h]
    · rw [if_neg (by omega), if_neg h]
theorem half_same (l : List UInt8) (k : Nat) (hk : k < l.length) (h : Asc.lowC l[k] = l[k]) : half l (k + 1) = half l k := by
  rw [half_succ l k hk, h]
  apply List.ext_getElem?
  intro i
  rw [List.getElem?_set, half_len]
  by_cases e : k = i
  · subst e
    rw [if_pos rfl, if_pos hk, half_get?, if_neg (by omega), List.getElem?_eq_getElem hk]
  · rw [if_neg e]

theorem lowC_up (c : UInt8) (h : upB c = true) : ((Asc.lowC c).toNat : Int) = (c.toNat : Int) + 32 := by
  have : 65 ≤ c.toNat ∧ c.toNat ≤ 90 := by simpa [upB] using h
  rw [Asc.lowC_toNat, if_pos this]; omega
theorem lowC_no (c : UInt8) (h : upB c = false) : Asc.lowC c = c := by
  apply UInt8.toNat_inj.1
  rw [Asc.lowC_toNat, if_neg]
  intro hh
  have : upB c = true := by simpa [upB] using hh
  rw [h] at this; cases this

set_option maxHeartbeats 1000000 in
theorem lower_any (s : ByteArray) (w : World) (hs : s.size ≤ maxLen) (t : ByteArray) (ht : t = ⟨(Asc.low s.data.toList).toArray⟩) :
    Calls Tryd.prog 28 #[.string s] w fun e w' => e = .returned (.string t) ∧ Below w.heap.size w w' := by
  unfold maxLen at hs
  have hsI : (s.size : Int) ≤ 9223372036854775807 := by omega
  obtain ⟨W2, cap, hcv, hrow, hbel⟩ := conv_in w s
  have HT := Lib.hid ht
  clear ht
  go_enter Tryd.func28, Tryd.ntmps28
  go_wp2_with fail
  go_loopw [10] (fun i wr => ∃ k : Nat, i = .int .i64 k ∧ k ≤ s.size ∧ RowAt wr w.heap.size (half s.data.toList k) ∧ Below w.heap.size w wr) (fun i _ => s.size - (intOf i).toNat)
  case atStart => exact ⟨0, rfl, Nat.zero_le _, by simpa [half] using hrow, hbel⟩
  case round =>
    clear hcv hrow hbel
    obtain ⟨k, rfl, hk, hr, hb⟩ := hrel
    by_cases hlt : k < s.size
    · have hkl : k < s.data.toList.length := by rw [size_toList]; exact hlt
      have hc := (hr.2 k (by rw [half_len]; exact hkl)).1
      have hf := (hr.2 k (by rw [half_len]; exact hkl)).2
      rw [half_get _ _ hkl] at hc
      have hsucc := half_succ s.data.toList k hkl
      obtain ⟨c, hcc⟩ : ∃ c, s.data.toList[k] = c := ⟨_, rfl⟩
      rw [hcc] at hc hsucc
      have hcl : (c.toNat : Int) < 256 := by have := c.toNat_lt; omega
      have hu := fun w => isUpper_any c w
      have hset := hr.set k (by rw [half_len]; exact hkl) (Asc.lowC c)
      rw [← hsucc] at hset
      have HR := Lib.hid hr; have HCC := Lib.hid hcc
      clear hcc hsucc hr
      cases hup : upB c with
      | true =>
        rw [hup] at hu
        have hc90 : (c.toNat : Int) ≤ 90 := by have : 65 ≤ c.toNat ∧ c.toNat ≤ 90 := by simpa [upB] using hup
                                               omega
        rw [lowC_up c hup] at hset
        have HU := Lib.hid hu
        have HSET := Lib.hid hset
        clear hu hset hup
        go_wp2_with (go_at_call 14; refine (HU.out _).mono ?_; rintro e w' ⟨rfl, rfl⟩)
        go_roundw
        case rel => exact ⟨k + 1, by go_num, by omega, HSET.out, hb.setCell (by simp) _⟩
        case measure => simp [intOf]; omega
      | false =>
        rw [hup] at hu
        have hr2 : RowAt wr w.heap.size (half s.data.toList (k + 1)) := by
          have e : half s.data.toList (k + 1) = half s.data.toList k := half_same _ _ hkl (by rw [HCC.out]; exact lowC_no c hup)
          rw [e]; exact HR.out
        have HU := Lib.hid hu
        have HR2 := Lib.hid hr2
        clear hu hset hup hr2
        go_wp2_with (go_at_call 14; refine (HU.out _).mono ?_; rintro e w' ⟨rfl, rfl⟩)
        go_roundw
        case rel => exact ⟨k + 1, by go_num, by omega, HR2.out, hb⟩
        case measure => simp [intOf]; omega
    · have hkn : k = s.size := by omega
      have hfull : half s.data.toList k = Asc.low s.data.toList := by
        rw [hkn, half, ← size_toList, List.take_length, List.drop_length]; simp [Asc.low]
      rw [hfull] at hr
      have hout := conv_out wr w.heap.size cap _ hr
      rw [Asc.low_length, size_toList] at hout
      clear hfull hkn hr
      go_wp2_with fail
      go_ret
      exact ⟨ret_str HT.out.symm, hb⟩
set_option maxHeartbeats 1000000 in
theorem refLow_any (s : ByteArray) (w : World) (hs : s.size ≤ maxLen) (t : ByteArray) (ht : t = ⟨(Asc.low s.data.toList).toArray⟩) :
    Calls Tryd.prog 27 #[.string s] w fun e w' => e = .returned (.string t) ∧ Below w.heap.size w w' := by
  unfold maxLen at hs
  have hsI : (s.size : Int) ≤ 9223372036854775807 := by omega
  obtain ⟨W2, cap, hcv, hrow, hbel⟩ := conv_in w s
  have HT := Lib.hid ht
  clear ht
  go_enter Tryd.func27, Tryd.ntmps27
  go_wp2_with fail
  go_loopw [4] (fun i wr => ∃ k : Nat, i = .int .i64 k ∧ k ≤ s.size ∧ RowAt wr w.heap.size (half s.data.toList k) ∧ Below w.heap.size w wr) (fun i _ => s.size - (intOf i).toNat)
  case atStart => exact ⟨0, rfl, Nat.zero_le _, by simpa [half] using hrow, hbel⟩
  case round =>
    clear hcv hrow hbel
    obtain ⟨k, rfl, hk, hr, hb⟩ := hrel
    by_cases hlt : k < s.size
    · have hkl : k < s.data.toList.length := by rw [size_toList]; exact hlt
      have hc := (hr.2 k (by rw [half_len]; exact hkl)).1
      have hf := (hr.2 k (by rw [half_len]; exact hkl)).2
      rw [half_get _ _ hkl] at hc
      have hsucc := half_succ s.data.toList k hkl
      obtain ⟨c, hcc⟩ : ∃ c, s.data.toList[k] = c := ⟨_, rfl⟩
      rw [hcc] at hc hsucc
      have hcl : (c.toNat : Int) < 256 := by have := c.toNat_lt; omega
      have hu := fun w => refUpper_any c w
      have hset := hr.set k (by rw [half_len]; exact hkl) (Asc.lowC c)
      rw [← hsucc] at hset
      have HR := Lib.hid hr; have HCC := Lib.hid hcc
      clear hcc hsucc hr
      cases hup : upB c with
      | true =>
        rw [hup] at hu
        have hc90 : (c.toNat : Int) ≤ 90 := by have : 65 ≤ c.toNat ∧ c.toNat ≤ 90 := by simpa [upB] using hup
                                               omega
        rw [lowC_up c hup] at hset
        have HU := Lib.hid hu
        have HSET := Lib.hid hset
        clear hu hset hup
        go_wp2_with (go_at_call 15; refine (HU.out _).mono ?_; rintro e w' ⟨rfl, rfl⟩)
        go_roundw
        case rel => exact ⟨k + 1, by go_num, by omega, HSET.out, hb.setCell (by simp) _⟩
        case measure => simp [intOf]; omega
      | false =>
        rw [hup] at hu
        have hr2 : RowAt wr w.heap.size (half s.data.toList (k + 1)) := by
          have e : half s.data.toList (k + 1) = half s.data.toList k := half_same _ _ hkl (by rw [HCC.out]; exact lowC_no c hup)
          rw [e]; exact HR.out
        have HU := Lib.hid hu
        have HR2 := Lib.hid hr2
        clear hu hset hup hr2
        go_wp2_with (go_at_call 15; refine (HU.out _).mono ?_; rintro e w' ⟨rfl, rfl⟩)
        go_roundw
        case rel => exact ⟨k + 1, by go_num, by omega, HR2.out, hb⟩
        case measure => simp [intOf]; omega
    · have hkn : k = s.size := by omega
      have hfull : half s.data.toList k = Asc.low s.data.toList := by
        rw [hkn, half, ← size_toList, List.take_length, List.drop_length]; simp [Asc.low]
      rw [hfull] at hr
      have hout := conv_out wr w.heap.size cap _ hr
      rw [Asc.low_length, size_toList] at hout
      clear hfull hkn hr
      go_wp2_with fail
      go_ret
      exact ⟨ret_str HT.out.symm, hb⟩
end Go.Proofs.YtgopcplcamljmaaDoor
