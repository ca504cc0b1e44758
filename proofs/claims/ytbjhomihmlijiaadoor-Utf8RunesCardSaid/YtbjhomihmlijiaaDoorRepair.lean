/- The program's Repair: what it answers; it writes nothing that was there. -/
import Derived.Test.YtbjhomihmlijiaaDoorEnc
import Derived.Test.YtbjhomihmlijiaaDoorShelf
import Derived.Shelf.Strings.MapGrows
namespace U8
theorem more_le (l : List Nat) (n g k u : Nat) (hk : k ≤ l.length) : (more l n g k u).2.1 ≤ max n l.length := by
  induction g generalizing k u with
  | zero => simp [more]; omega
  | succ g ih =>
    rw [more]
    split
    · simp; omega
    · split
      · simp; omega
      · exact ih (k + 1) _ (by omega)

theorem more_le2 (l : List Nat) (n g k u : Nat) (hk : k ≤ l.length) (hg : g + k = n) : (more l n g k u).2.1 ≤ l.length := by
  induction g generalizing k u with
  | zero => simp [more]; omega
  | succ g ih =>
    rw [more]
    split
    · simp; omega
    · split
      · simp; omega
      · exact ih (k + 1) _ (by omega) (by omega)

theorem next_le (l : List Nat) (hl : 0 < l.length) : (next l).2.1 ≤ l.length := by
  unfold next
  simp only
  split
  · simp; omega
  · split
    · simp
    · rename_i hc
      have h0 : len (l.getD 0 0) ≠ 0 := by
        intro e
        rw [e] at hc
        simp at hc
      exact more_le2 l _ _ 1 _ (by omega) (by omega)

/-- the replaced text -/
def rep (l : List Nat) : Nat → Nat → List Nat
  | 0, _ => []
  | f + 1, p =>
    if p < l.length then
      (if (next (l.drop p)).2.2 = 0 then (l.drop p).take (next (l.drop p)).2.1 else [239, 191, 189]) ++ rep l f (p + max (next (l.drop p)).2.1 1)
    else []
end U8
namespace Go.Proofs.YtbjhomihmlijiaaDoor
open Go.RowKit

theorem bytesOf_part (s : ByteArray) (k n : Nat) : bytesOf (s.extract k (k + n)) = ((bytesOf s).drop k).take n := by
  unfold bytesOf
  rw [Lib.extract_data, Nat.add_sub_cancel_left, List.map_take, List.map_drop]

theorem cells_more (pre : List Nat) (s : ByteArray) : Lib.byteCells (pre.map UInt8.ofNat) ++ Lib.strCells s = Lib.byteCells ((pre ++ bytesOf s).map UInt8.ofNat) := by
  rw [Lib.strCells_eq, List.map_append, Lib.byteCells_append]
  congr 2
  unfold bytesOf
  rw [List.map_map]
  conv => lhs; rw [← List.map_id s.data.toList]
  refine List.map_congr_left fun x _ => ?_
  simp

theorem enc_repl : U8.enc 65533 = [239, 191, 189] := by decide

set_option maxRecDepth 20000 in
set_option maxHeartbeats 1000000 in
theorem repair_any (s : ByteArray) (w : World) (hT : Tab w) (hmax : s.size ≤ 1000000) (t : ByteArray) (ht : t = baOf (U8.rep (bytesOf s) s.size 0)) :
    Calls Tryd.prog 27 #[.string s] w fun e w' => e = .returned (.string t) ∧ Below w.heap.size w w' := by
  have hmaxI : (s.size : Int) ≤ 1000000 := by omega
  have hb0 := fun w => Lib.IsBuilderF.of (Lib.fresh_isBuilder 68 5 w)
  obtain ⟨q, hq⟩ : ∃ q : ByteArray, q = baOf [239, 191, 189] := ⟨_, rfl⟩
  have hqb : bytesOf q = [239, 191, 189] := by rw [hq]; exact bytesOf_baOf _ (by decide)
  have hqs : q.size = 3 := by rw [hq]; rfl
  have he := fun w hT => encode_ok 65533 w hT (by unfold U8.ok; omega) q (by rw [hq, enc_repl])
  have HE := Lib.hid he; have HQ := Lib.hid hqb; have HT := Lib.hid ht; have HB0 := Lib.hid hb0
  clear he hqb hq ht hb0
  go_enter Tryd.func27, Tryd.ntmps27
  go_wp2_with fail
  refine (HE.out _ hT).mono ?_
  rintro e w1 ⟨rfl, hb1⟩
  have hT1 := hT.below hb1 hT.1
  have hs1 := hb1.size
  have hbw : Below w1.heap.size w1 (w1.alloc (.cells #[.pointer none, .slice none 0 0] 68)) := (Below.refl _ w1).alloc (Nat.le_refl _) _
  have hpos := hT1.1
  go_wp2_with fail
  go_loopw [6] (fun i wr => ∃ (k f : Nat) (pre : List Nat), i = .int .i64 k ∧ k ≤ s.size ∧ s.size - k ≤ f ∧ pre.length ≤ 3 * k ∧ U8.rep (bytesOf s) s.size 0 = pre ++ U8.rep (bytesOf s) f k ∧ Lib.IsBuilderF 68 5 w1.heap.size w1.heap.size (Lib.byteCells (pre.map UInt8.ofNat)) wr ∧ Below w1.heap.size w1 wr) (fun i _ => s.size - (intOf i).toNat)
  case atStart => exact ⟨0, s.size, [], rfl, Nat.zero_le _, by omega, by simp, by simp, HB0.out w1, hbw⟩
  case round =>
    obtain ⟨k, f, pre, rfl, hk, hf, hpl, hrep, hI, hbel⟩ := hrel
    have hsz : w1.heap.size ≤ wr.heap.size := hbel.size
    have HI := Lib.hid hI
    have hTr := hT1.below hbel hpos
    by_cases hlt : k < s.size
    · obtain ⟨f', rfl⟩ : ∃ f', f = f' + 1 := ⟨f - 1, by omega⟩
      obtain ⟨⟨r, z, e2⟩, hnx⟩ : ∃ x, U8.next ((bytesOf s).drop k) = x := ⟨_, rfl⟩
      have hzl := U8.next_le ((bytesOf s).drop k) (by rw [List.length_drop, bytesOf_length]; omega)
      rw [hnx, List.length_drop, bytesOf_length] at hzl
      simp only at hzl
      rw [U8.rep, if_pos (by rw [bytesOf_length]; exact hlt), hnx] at hrep
      simp only at hrep
      have hes : (s.extract k s.size).size = s.size - k := by simp
      have hn := next_any (s.extract k s.size) wr hTr (by omega) (by omega) r z e2 (by rw [bytesOf_extract, hnx])
      have HN := Lib.hid hn
      obtain ⟨m, hm⟩ : ∃ m, m = max z 1 := ⟨_, rfl⟩
      have hmI : max (z : Int) 1 = (m : Int) := by omega
      rw [← hm] at hrep
      have hm1 : 1 ≤ m ∧ k + m ≤ s.size ∧ z ≤ m := by omega
      by_cases h0 : e2 = 0
      · subst h0
        rw [if_pos rfl, ← List.append_assoc] at hrep
        obtain ⟨y, hy⟩ : ∃ y, y = s.extract k (k + z) := ⟨_, rfl⟩
        have hyb := bytesOf_part s k z
        rw [← hy] at hyb
        have hys : y.size ≤ z := by rw [hy]; simp; omega
        rw [← hyb] at hrep
        have hy2 : s.extract k (k + z) = y := hy.symm
        have hroom : (Lib.byteCells (pre.map UInt8.ofNat)).length + y.size ≤ 140737488355328 := by rw [Lib.byteCells_length, List.length_map]; omega
        have hpl2 : (pre ++ bytesOf y).length ≤ 3 * (k + m) := by rw [List.length_append, bytesOf_length]; omega
        have hkz : (k : Int) + (z : Int) ≤ (s.size : Int) := by omega
        have HREP := Lib.hid hrep; have HROOM := Lib.hid hroom; have HPL2 := Lib.hid hpl2; have HM := Lib.hid hm
        clear hrep hroom hpl2 hn hnx hes hyb hy hm hI
        go_wp2_with fail
        refine HN.out.mono ?_
        rintro e w2 ⟨rfl, hb2⟩
        have hb12 := hbel.trans (hb2.mono hsz)
        have HI2 := Lib.hid (Lib.IsBuilderF.below HI.out hb2)
        clear HI hb2
        go_wp2_with fail
        refine (Tryd.Builder_WriteString_k _ _ _ _ _ HI2.out HROOM.out hb12.size).mono ?_
        rintro e w3 ⟨rfl, hI3, hb3, _⟩
        rw [cells_more] at hI3
        have HI3 := Lib.hid hI3
        clear hI3
        go_wp2_with fail
        go_roundw
        case rel => exact ⟨k + m, f', pre ++ bytesOf y, by go_num, hm1.2.1, by omega, HPL2.out, HREP.out, .inr HI3.out, hb12.trans hb3⟩
        case measure => simp [intOf]; omega
      · have hne : ((e2 : Int) == 0) = false := by simp; omega
        rw [if_neg h0, ← HQ.out, ← List.append_assoc] at hrep
        have hroom : (Lib.byteCells (pre.map UInt8.ofNat)).length + q.size ≤ 140737488355328 := by rw [Lib.byteCells_length, List.length_map]; omega
        have hpl2 : (pre ++ bytesOf q).length ≤ 3 * (k + m) := by rw [List.length_append, bytesOf_length]; omega
        have HREP := Lib.hid hrep; have HROOM := Lib.hid hroom; have HPL2 := Lib.hid hpl2; have HM := Lib.hid hm
        clear hrep hroom hpl2 hn hnx hes hm hI
        go_wp2_with fail
        refine HN.out.mono ?_
        rintro e w2 ⟨rfl, hb2⟩
        have hb12 := hbel.trans (hb2.mono hsz)
        have HI2 := Lib.hid (Lib.IsBuilderF.below HI.out hb2)
        clear HI hb2
        go_wp2_with fail
        refine (Tryd.Builder_WriteString_k _ _ _ _ _ HI2.out HROOM.out hb12.size).mono ?_
        rintro e w3 ⟨rfl, hI3, hb3, _⟩
        rw [cells_more] at hI3
        have HI3 := Lib.hid hI3
        clear hI3
        go_wp2_with fail
        go_roundw
        case rel => exact ⟨k + m, f', pre ++ bytesOf q, by go_num, hm1.2.1, by omega, HPL2.out, HREP.out, .inr HI3.out, hb12.trans hb3⟩
        case measure => simp [intOf]; omega
    · have hres : U8.rep (bytesOf s) f k = [] := by
        cases f with
        | zero => rfl
        | succ f => rw [U8.rep, if_neg (by rw [bytesOf_length]; exact hlt)]
      rw [hres, List.append_nil] at hrep
      have hres2 : t = ⟨(pre.map UInt8.ofNat).toArray⟩ := by rw [HT.out, hrep]; rfl
      have HRES := Lib.hid hres2
      clear hres hrep hres2 hI
      go_wp2_with fail
      refine (Tryd.Builder_String_any_f _ _ _ _ HI.out hsz).mono ?_
      rintro e w2 ⟨rfl, _, hb2⟩
      go_wp2_with fail
      go_ret
      exact ⟨ret_str HRES.out.symm, hb1.trans ((hbel.trans hb2).mono hs1)⟩
end Go.Proofs.YtbjhomihmlijiaaDoor
