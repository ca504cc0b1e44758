/- Wrap: called with a text of at most 600 bytes and any width, the program answers B64.wr of them (text, number of the error), and writes nothing that was there. -/
import Derived.Test.YtbojodgeknjpjaaDoorWrPlain
import Derived.Test.YtbojodgeknjpjaaDoorUw
namespace Go.Proofs.YtbojodgeknjpjaaDoor
open Go.RowKit

theorem nl_iff (s : ByteArray) : (0 ≤ Lib.indexByte s.data.toList 10) ↔ (10 : UInt8) ∈ s.data.toList := by
  constructor
  · intro h
    obtain ⟨o, ho⟩ := Int.eq_ofNat_of_zero_le h
    exact List.mem_of_getElem? (Lib.indexByte_some ho).1
  · intro h
    have hge := Lib.indexByte_ge s.data.toList 10
    by_cases hn : Lib.indexByte s.data.toList 10 = -1
    · obtain ⟨i, hi⟩ := List.getElem?_of_mem h
      exact absurd hi (Lib.indexByte_none hn i)
    · omega

theorem contains_any (s : ByteArray) (b : Bool) (w : World) (hb : b = decide ((10 : UInt8) ∈ s.data.toList)) :
    Calls Tryd.prog 35 #[.string s, .string ⟨#[10]⟩] w fun e w' => e = .returned (.bool b) ∧ w = w' := by
  refine (Tryd.strings_Contains_one s 10 w).mono ?_
  rintro e w' ⟨rfl, rfl⟩
  rw [hb]
  exact ⟨by simp only [nl_iff], rfl⟩

theorem str_nil (r : ByteArray) (h : r.size = 0) : r = ByteArray.empty := by
  apply ByteArray.ext
  apply Array.toList_inj.1
  have h2 : r.data.toList = [] := List.eq_nil_of_length_eq_zero (by rw [size_toList, h])
  rw [h2]
  rfl

def strV : Value → ByteArray | .string r => r | _ => ByteArray.empty

set_option maxHeartbeats 1000000 in
theorem wr_any (s : ByteArray) (n : Int) (w : World) (hs : s.size ≤ 600) :
    Calls Tryd.prog 20 #[.string s, .int .i64 n] w fun e w' => e = .returned (.tuple #[.string ⟨(B64.wr n s.data.toList).1.toArray⟩, .int .i64 (B64.wr n s.data.toList).2]) ∧ Below w.heap.size w w' := by
  have hsI : (s.size : Int) ≤ 600 := by omega
  by_cases hr : n < 1 ∨ 998 < n
  · have hu : B64.wr n s.data.toList = ([], 2) := by unfold B64.wr; rw [if_pos hr]
    rw [hu]
    clear hu
    by_cases h1 : n < 1
    · go_enter Tryd.func20, Tryd.ntmps20
      go_wp2
      go_ret2
      exact ⟨rfl, Below.refl _ _⟩
    · have h2 : 998 < n := by omega
      go_enter Tryd.func20, Tryd.ntmps20
      go_wp2
      go_ret2
      exact ⟨rfl, Below.refl _ _⟩
  · obtain ⟨W, rfl⟩ : ∃ W : Nat, n = (W : Int) := ⟨n.toNat, by omega⟩
    have hW1 : ¬ (W : Int) < 1 := by omega
    have hW2 : ¬ 998 < (W : Int) := by omega
    by_cases h10 : (10 : UInt8) ∈ s.data.toList
    · have hu : B64.wr (W : Int) s.data.toList = ([], 6) := by unfold B64.wr; rw [if_neg hr, if_pos h10]
      rw [hu]
      have hct := fun w => contains_any s true w (by simp [h10])
      have HCT := Lib.hid hct
      clear hu hct h10 hr
      go_enter Tryd.func20, Tryd.ntmps20
      go_wp2_with (first | (go_at_call 15; refine (size_ok _ _ (by decide) (by decide)).mono ?_; rintro e w' ⟨rfl, rfl⟩) | (go_at_call 35; refine (HCT.out _).mono ?_; rintro e w' ⟨rfl, rfl⟩))
      go_ret2
      exact ⟨rfl, Below.refl _ _⟩
    · have hu : B64.wr (W : Int) s.data.toList = (B64.wrapT W s.data.toList, 0) := by unfold B64.wr; rw [if_neg hr, if_neg h10]; rfl
      rw [hu]
      have hct := fun w => contains_any s false w (by simp [h10])
      have HCT := Lib.hid hct
      clear hu hct h10 hr
      have hb0 := Lib.IsBuilderF.of (Lib.fresh_isBuilder 66 5 w)
      have hbw : Below w.heap.size w (w.alloc (.cells #[.pointer none, .slice none 0 0] 66)) := (Below.refl _ w).alloc (Nat.le_refl _) _
      go_enter Tryd.func20, Tryd.ntmps20
      go_wp2_with (first | (go_at_call 15; refine (size_ok _ _ (by decide) (by decide)).mono ?_; rintro e w' ⟨rfl, rfl⟩) | (go_at_call 35; refine (HCT.out _).mono ?_; rintro e w' ⟨rfl, rfl⟩))
      go_loopw [0] (fun at0 wr => ∃ (r : ByteArray) (acc : List UInt8), at0 = .string r ∧ acc ++ B64.wrapT W r.data.toList = B64.wrapT W s.data.toList ∧ acc.length + 2 * r.size ≤ 1200 ∧ Lib.IsBuilderF 66 5 w.heap.size w.heap.size (Lib.byteCells acc) wr ∧ Below w.heap.size w wr)
        (fun at0 _ => (strV at0).size)
      case atStart => exact ⟨s, [], rfl, rfl, by simp; omega, hb0, hbw⟩
      case round =>
        clear hb0 hbw
        obtain ⟨r, acc, rfl, ht, hacc, hI, hbel⟩ := hrel
        have hsz : w.heap.size ≤ wr.heap.size := hbel.size
        have HT := Lib.hid ht
        clear ht
        by_cases h0 : r.size = 0
        · have he := str_nil r h0
          subst he
          have hfin : acc = B64.wrapT W s.data.toList := by rw [← HT.out]; simp [B64.wrapT, B64.wrapF]
          have HFIN := Lib.hid hfin
          clear hfin h0
          go_wp2_with (go_at_call 38; refine (Tryd.Builder_String_any_f _ _ _ _ hI hsz).mono ?_; rintro e w' ⟨rfl, _, hb2⟩)
          go_ret2
          rw [← HFIN.out]
          exact ⟨rfl, hbel.trans hb2⟩
        · have hne : r.toList.isEmpty = false := by
            rw [Lib.toList_data]
            cases h2 : r.data.toList with
            | nil => exact absurd (by rw [← size_toList, h2]; rfl) h0
            | cons a b => rfl
          have hne2 : (!r.toList.isEmpty) = true := by rw [hne]; rfl
          have hWp : 0 < W := by omega
          have hstep : B64.wrapT W r.data.toList = (r.data.toList.take W ++ [10]) ++ B64.wrapT W (r.data.toList.drop W) := by
            obtain ⟨f, hf⟩ : ∃ f, r.data.toList.length = f + 1 := ⟨r.data.toList.length - 1, by rw [size_toList]; omega⟩
            have hnil : r.data.toList ≠ [] := by
              intro e
              rw [e] at hf
              simp at hf
            unfold B64.wrapT
            rw [hf, B64.wrapF, if_neg hnil, B64.wrapF_fuel W hWp f _ (r.data.toList.drop W) (by rw [List.length_drop]; omega) (Nat.le_refl _)]
            simp
          by_cases hmin : W ≤ r.size
          · have hm : min (W : Int) (r.size : Int) = W := by omega
            have hmI : (W : Int) ≤ (r.size : Int) := by omega
            have hcells : Lib.byteCells acc ++ Lib.strCells (r.extract 0 W) ++ [.int .u8 10] = Lib.byteCells (acc ++ (r.data.toList.take W ++ [10])) := by
              rw [strCells_bytes, Lib.extract_data]
              simp [Lib.byteCells]
            have hroom : (Lib.byteCells acc).length + (r.extract 0 W).size ≤ 140737488355328 := by
              rw [Lib.byteCells_length]
              simp
              omega
            have hroom2 : (Lib.byteCells acc ++ Lib.strCells (r.extract 0 W)).length + 1 ≤ 140737488355328 := by
              rw [List.length_append, Lib.byteCells_length, strCells_bytes, Lib.byteCells_length, size_toList]
              simp
              omega
            have hex : (r.extract W r.size).data.toList = r.data.toList.drop W := by
              rw [Lib.extract_data]
              exact List.take_of_length_le (by rw [List.length_drop, size_toList]; exact Nat.le_refl _)
            have hnew : (acc ++ (r.data.toList.take W ++ [10])) ++ B64.wrapT W (r.extract W r.size).data.toList = B64.wrapT W s.data.toList := by
              rw [hex, ← HT.out, hstep, List.append_assoc]
            have hlen : (acc ++ (r.data.toList.take W ++ [10])).length + 2 * (r.extract W r.size).size ≤ 1200 := by
              rw [List.length_append, List.length_append, List.length_take, size_toList]
              simp
              omega
            have HNEW := Lib.hid hnew; have HA := Lib.hid hlen
            clear hex hnew hlen
            have HC := Lib.hid hcells; have HR := Lib.hid hroom; have HR2 := Lib.hid hroom2; have HST := Lib.hid hstep
            clear hcells hroom hroom2 hstep hmin
            go_wp2_with (first | (go_at_call 36; refine (Tryd.Builder_WriteString_k _ _ _ _ _ hI HR.out hsz).mono ?_; rintro e w' ⟨rfl, hI2, hb2, _⟩) | (go_at_call 37; refine (Tryd.Builder_WriteByte_k _ _ _ _ _ (.inr hI2) HR2.out (Nat.le_trans hsz hb2.size)).mono ?_; rintro e w' ⟨rfl, hI3, hb3, _⟩))
            rw [HC.out] at hI3
            go_roundw
            case rel => exact ⟨r.extract W r.size, acc ++ (r.data.toList.take W ++ [10]), rfl, HNEW.out, HA.out, .inr hI3, (hbel.trans hb2).trans hb3⟩
            case measure => simp [strV]; omega
          · have hm : min (W : Int) (r.size : Int) = r.size := by omega
            have hmI : (r.size : Int) < (W : Int) := by omega
            have hcells : Lib.byteCells acc ++ Lib.strCells r ++ [.int .u8 10] = Lib.byteCells (acc ++ (r.data.toList ++ [10])) := by
              rw [strCells_bytes]
              simp [Lib.byteCells]
            have hroom : (Lib.byteCells acc).length + r.size ≤ 140737488355328 := by
              rw [Lib.byteCells_length]
              omega
            have hroom2 : (Lib.byteCells acc ++ Lib.strCells (r)).length + 1 ≤ 140737488355328 := by
              rw [List.length_append, Lib.byteCells_length, strCells_bytes, Lib.byteCells_length, size_toList]
              simp
              omega
            have hex : (r.extract r.size r.size).data.toList = r.data.toList.drop W := by
              rw [Lib.extract_data, List.drop_eq_nil_of_le (by rw [size_toList]; omega)]
              simp
              omega
            have hnew : (acc ++ (r.data.toList ++ [10])) ++ B64.wrapT W (r.extract r.size r.size).data.toList = B64.wrapT W s.data.toList := by
              rw [hex, ← HT.out, hstep, List.append_assoc, List.take_of_length_le (l := r.data.toList) (by rw [size_toList]; omega)]
            have hlen : (acc ++ (r.data.toList ++ [10])).length + 2 * (r.extract r.size r.size).size ≤ 1200 := by
              rw [List.length_append, List.length_append, size_toList]
              simp
              omega
            have HNEW := Lib.hid hnew; have HA := Lib.hid hlen
            clear hex hnew hlen
            have HC := Lib.hid hcells; have HR := Lib.hid hroom; have HR2 := Lib.hid hroom2; have HST := Lib.hid hstep
            clear hcells hroom hroom2 hstep hmin
            go_wp2_with (first | (go_at_call 36; refine (Tryd.Builder_WriteString_k _ _ _ _ _ hI HR.out hsz).mono ?_; rintro e w' ⟨rfl, hI2, hb2, _⟩) | (go_at_call 37; refine (Tryd.Builder_WriteByte_k _ _ _ _ _ (.inr hI2) HR2.out (Nat.le_trans hsz hb2.size)).mono ?_; rintro e w' ⟨rfl, hI3, hb3, _⟩))
            rw [HC.out] at hI3
            go_roundw
            case rel => exact ⟨r.extract r.size r.size, acc ++ (r.data.toList ++ [10]), by simp, HNEW.out, HA.out, .inr hI3, (hbel.trans hb2).trans hb3⟩
            case measure => simp [strV]; omega
end Go.Proofs.YtbojodgeknjpjaaDoor
