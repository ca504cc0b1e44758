/- Unwrap: called with a text of at most 2000 bytes, the program answers B64.uw of it (text, offset, number of the error), and writes nothing that was there. -/
import Derived.Test.YtbojodgeknjpjaaDoorUwPlain
import Derived.Test.YtbojodgeknjpjaaDoorEnc
import Derived.Test.YtbojodgeknjpjaaDoorPad
import Derived.WalkSpells
import Derived.WalkLawsBesides
namespace Go.Proofs.YtbojodgeknjpjaaDoor
open Go.RowKit

theorem ib_any (s : ByteArray) (n : Nat) (w : World) (hn : B64.lineLen s.data.toList = n) (hlt : n < s.size) :
    Calls Tryd.prog 40 #[.string s, .int .u8 10] w fun e w' => e = .returned (.int .i64 n) ∧ w = w' := by
  refine (Tryd.strings_IndexByte s 10 w).mono ?_
  rintro e w' ⟨rfl, rfl⟩
  have : Lib.indexByte s.data.toList (10 : Int).toNat.toUInt8 = (n : Int) := by
    rw [← hn]
    exact B64.indexByte_line _ (by rw [size_toList, hn]; exact hlt)
  exact ⟨by rw [this], rfl⟩

theorem strCells_bytes (s : ByteArray) : Lib.strCells s = Lib.byteCells s.data.toList := rfl

set_option maxHeartbeats 1000000 in
theorem uw_any (s : ByteArray) (w : World) (hs : s.size ≤ 2000) :
    Calls Tryd.prog 22 #[.string s] w fun e w' => e = .returned (.tuple #[.string ⟨(B64.uw s.data.toList).1.toArray⟩, .int .i64 (B64.uw s.data.toList).2.1, .int .i64 (B64.uw s.data.toList).2.2]) ∧ Below w.heap.size w w' := by
  have hsI : (s.size : Int) ≤ 2000 := by omega
  by_cases h0 : s.data.toList = []
  · have hu : B64.uw s.data.toList = ([], 0, 0) := by unfold B64.uw; rw [if_pos h0]
    have hse : s = ByteArray.empty := by
      apply ByteArray.ext
      apply Array.toList_inj.1
      exact h0
    rw [hu]
    subst hse
    clear hu h0
    go_enter Tryd.func22, Tryd.ntmps22
    go_wp2
    go_ret3
    exact ⟨rfl, Below.refl _ _⟩
  · have hpos : 0 < s.size := by
      rw [← size_toList]
      exact List.length_pos_iff.2 h0
    have hne : s.toList.isEmpty = false := by
      rw [Lib.toList_data]
      cases h2 : s.data.toList with
      | nil => exact absurd h2 h0
      | cons a b => rfl
    by_cases h10 : [10] <:+ s.data.toList
    · have hu : B64.uw s.data.toList = B64.uwLoop s.data.toList (B64.lineLen s.data.toList) s.data.toList.length 0 [] := by unfold B64.uw; rw [if_neg h0, if_pos h10]
      have hsf := suffix_any s [10] true
      have HSF := Lib.hid (fun w => hsf w (by unfold maxLen; omega) ((hasSuffix_iff _ _).2 h10).symm)
      have hll := fun pos => B64.lineLen_lt s.data.toList pos h10
      simp only [size_toList] at hll
      have HLL := Lib.hid hll
      obtain ⟨W, hW⟩ : ∃ W, W = B64.lineLen s.data.toList := ⟨_, rfl⟩
      have hWl : W < s.size := by have := HLL.out 0 hpos; simp at this; omega
      have hib := fun w => ib_any s W w hW.symm hWl
      have HIB := Lib.hid hib
      rw [← hW] at hu
      have HU := Lib.hid hu
      have HW := Lib.hid hW
      clear hsf hll hib hu hW h10 h0
      have hb0 := Lib.IsBuilderF.of (Lib.fresh_isBuilder 66 5 w)
      have hbw : Below w.heap.size w (w.alloc (.cells #[.pointer none, .slice none 0 0] 66)) := (Below.refl _ w).alloc (Nat.le_refl _) _
      go_enter Tryd.func22, Tryd.ntmps22
      go_wp2_with (first | (go_at_call 15; refine (size_ok _ _ (by decide) (by decide)).mono ?_; rintro e w' ⟨rfl, rfl⟩) | (go_at_call 39; refine (HSF.out _).mono ?_; rintro e w' ⟨rfl, rfl⟩) | (go_at_call 40; refine (HIB.out _).mono ?_; rintro e w' ⟨rfl, rfl⟩))
      go_loopw [7] (fun at0 wr => ∃ (pos f : Nat) (acc : List UInt8), pos ≤ s.size ∧ at0 = .int .i64 pos ∧ s.size - pos ≤ f ∧ B64.uwLoop s.data.toList W f pos acc = B64.uw s.data.toList ∧ acc.length ≤ pos ∧ Lib.IsBuilderF 66 5 w.heap.size w.heap.size (Lib.byteCells acc) wr ∧ Below w.heap.size w wr)
        (fun at0 _ => s.size - (intOf at0).toNat)
      case atStart => exact ⟨0, s.data.toList.length, [], Nat.zero_le _, rfl, by rw [size_toList]; omega, HU.out.symm, by simp, hb0, hbw⟩
      case round =>
        clear hb0 hbw
        obtain ⟨pos, f, acc, hp, rfl, hf, ht, hacc, hI, hbel⟩ := hrel
        have hsz : w.heap.size ≤ wr.heap.size := hbel.size
        by_cases hlt : pos < s.size
        · obtain ⟨n, hn⟩ : ∃ n, n = B64.lineLen (s.data.toList.drop pos) := ⟨_, rfl⟩
          have hnl : pos + n < s.size := by rw [hn]; exact HLL.out pos hlt
          have hex : (s.extract pos s.size).data.toList = s.data.toList.drop pos := by
            rw [Lib.extract_data]
            exact List.take_of_length_le (by rw [List.length_drop, size_toList]; exact Nat.le_refl _)
          have hexs : (s.extract pos s.size).size = s.size - pos := by simp
          have hib := fun w => ib_any (s.extract pos s.size) n w (by rw [hex, hn]) (by rw [hexs]; omega)
          have HIB2 := Lib.hid hib
          obtain ⟨f', rfl⟩ : ∃ f', f = f' + 1 := ⟨f - 1, by omega⟩
          rw [B64.uwLoop, if_pos (by rw [size_toList]; exact hlt), size_toList, ← hn] at ht
          have HT := Lib.hid ht
          have HN := Lib.hid hn
          clear hib hex hexs ht hn
          by_cases hbad : B64.badLine s.size W pos n = true
          · have hres : B64.uw s.data.toList = ([], pos, 3) := by rw [← HT.out, if_pos hbad]
            have HRES := Lib.hid hres
            clear hres
            unfold B64.badLine at hbad
            simp only [Bool.or_eq_true, Bool.and_eq_true, decide_eq_true_eq] at hbad
            have hcase : n = 0 ∨ (n ≠ 0 ∧ 998 < n) ∨ (n ≠ 0 ∧ n ≤ 998 ∧ W < n) ∨ (n ≠ 0 ∧ n ≤ 998 ∧ n < W ∧ pos + n + 1 < s.size) := by omega
            clear hbad
            rcases hcase with h | ⟨h, h1⟩ | ⟨h, h1, h2⟩ | ⟨h, h1, h2, h3⟩
            · have hq : ((n : Int) == 0) = true := by simp; omega
              go_wp2_with (go_at_call 40; refine (HIB2.out _).mono ?_; rintro e w' ⟨rfl, rfl⟩)
              go_ret3
              rw [HRES.out]
              exact ⟨rfl, hbel⟩
            · have hq : ((n : Int) == 0) = false := by simp; omega
              have hq1 : (998 : Int) < (n : Int) := by omega
              go_wp2_with (go_at_call 40; refine (HIB2.out _).mono ?_; rintro e w' ⟨rfl, rfl⟩)
              go_ret3
              rw [HRES.out]
              exact ⟨rfl, hbel⟩
            · have hq : ((n : Int) == 0) = false := by simp; omega
              have hq1 : (n : Int) ≤ 998 := by omega
              have hq2 : (W : Int) < (n : Int) := by omega
              go_wp2_with (go_at_call 40; refine (HIB2.out _).mono ?_; rintro e w' ⟨rfl, rfl⟩)
              go_ret3
              rw [HRES.out]
              exact ⟨rfl, hbel⟩
            · have hq : ((n : Int) == 0) = false := by simp; omega
              have hq1 : (n : Int) ≤ 998 := by omega
              have hq2 : (n : Int) < (W : Int) := by omega
              have hq3 : (pos : Int) + (n : Int) + 1 < (s.size : Int) := by omega
              go_wp2_with (go_at_call 40; refine (HIB2.out _).mono ?_; rintro e w' ⟨rfl, rfl⟩)
              go_ret3
              rw [HRES.out]
              exact ⟨rfl, hbel⟩
          · have hgo := HT.out
            rw [if_neg hbad] at hgo
            have HGO := Lib.hid hgo
            clear hgo
            have hcase : n ≠ 0 ∧ n ≤ 998 ∧ n ≤ W ∧ (n = W ∨ (n < W ∧ pos + n + 1 = s.size)) := by
              unfold B64.badLine at hbad
              simp only [Bool.or_eq_true, Bool.and_eq_true, decide_eq_true_eq] at hbad
              omega
            clear hbad
            obtain ⟨h, h1, h2, h3⟩ := hcase
            have hq : ((n : Int) == 0) = false := by simp; omega
            have hq1 : (n : Int) ≤ 998 := by omega
            have hq2 : (n : Int) ≤ (W : Int) := by omega
            have hcells : Lib.byteCells acc ++ Lib.strCells (s.extract pos (pos + n)) = Lib.byteCells (acc ++ (s.data.toList.drop pos).take n) := by
              rw [strCells_bytes, Lib.extract_data, show pos + n - pos = n by omega]
              simp [Lib.byteCells]
            have hacc2 : (acc ++ (s.data.toList.drop pos).take n).length ≤ pos + n + 1 := by
              have := B64.acc_le s.data.toList pos n
              rw [List.length_append]
              omega
            have hroom : (Lib.byteCells acc).length + (s.extract pos (pos + n)).size ≤ 140737488355328 := by
              rw [Lib.byteCells_length]
              simp
              omega
            have HC := Lib.hid hcells; have HA := Lib.hid hacc2; have HR := Lib.hid hroom
            clear hcells hacc2 hroom
            rcases h3 with h3 | ⟨h3, h4⟩
            · subst h3
              clear hq2
              go_wp2_with (first | (go_at_call 40; refine (HIB2.out _).mono ?_; rintro e w' ⟨rfl, rfl⟩) | (go_at_call 36; refine (Tryd.Builder_WriteString_k _ _ _ _ _ hI HR.out hsz).mono ?_; rintro e w' ⟨rfl, hI2, hb2, _⟩))
              rw [HC.out] at hI2
              go_roundw
              case rel => exact ⟨pos + n + 1, f', _, by omega, by go_num, by omega, HGO.out, HA.out, .inr hI2, hbel.trans hb2⟩
              case measure => simp [intOf]; omega
            · have hq3 : (n : Int) < (W : Int) := by omega
              have hq4 : ¬ (pos : Int) + (n : Int) + 1 < (s.size : Int) := by omega
              have H4 := Lib.hid h4
              clear h4
              go_wp2_with (first | (go_at_call 40; refine (HIB2.out _).mono ?_; rintro e w' ⟨rfl, rfl⟩) | (go_at_call 36; refine (Tryd.Builder_WriteString_k _ _ _ _ _ hI HR.out hsz).mono ?_; rintro e w' ⟨rfl, hI2, hb2, _⟩))
              rw [HC.out] at hI2
              go_roundw
              case rel => exact ⟨pos + n + 1, f', _, by omega, by go_num, by omega, HGO.out, HA.out, .inr hI2, hbel.trans hb2⟩
              case measure => simp [intOf]; omega
        · have hpe : pos = s.size := by omega
          subst hpe
          rw [B64.uwLoop_done _ _ _ _ _ (by rw [size_toList]; exact hlt)] at ht
          have hlen := len_any (w := wr) (n := acc.length) (Lib.byteCells_length acc) hI
          have HT := Lib.hid ht
          have HL := Lib.hid hlen
          have hal : (acc.length : Int) ≤ 2000 := by omega
          clear ht hlen
          go_wp2_with (first | (go_at_call 15; refine (size_ok _ _ (by decide) (by decide)).mono ?_; rintro e w' ⟨rfl, rfl⟩) | (go_at_call 41; refine HL.out.mono ?_; rintro e w' ⟨rfl, rfl⟩) | (go_at_call 38; refine (Tryd.Builder_String_any_f _ _ _ _ hI hsz).mono ?_; rintro e w' ⟨rfl, _, hb2⟩))
          go_ret3
          rw [← HT.out]
          exact ⟨rfl, hbel.trans hb2⟩
    · have hu : B64.uw s.data.toList = ([], s.size, 4) := by unfold B64.uw; rw [if_neg h0, if_neg h10, size_toList]
      rw [hu]
      have hsf := suffix_any s [10] false
      have HSF := Lib.hid (fun w => hsf w (by unfold maxLen; omega) (by
        cases hb : Lib.hasSuffix s.data.toList [10] with
        | false => rfl
        | true => exact absurd ((hasSuffix_iff _ _).1 hb) h10))
      clear hu h10 h0 hsf
      go_enter Tryd.func22, Tryd.ntmps22
      go_wp2_with (first | (go_at_call 15; refine (size_ok _ _ (by decide) (by decide)).mono ?_; rintro e w' ⟨rfl, rfl⟩) | (go_at_call 39; refine (HSF.out _).mono ?_; rintro e w' ⟨rfl, rfl⟩))
      go_ret3
      exact ⟨rfl, Below.refl _ _⟩
end Go.Proofs.YtbojodgeknjpjaaDoor
