/- EqualFold, CompareFold, IndexFold of the program, Index of the reference, Trim and Digits of the program: what each answers; each writes nothing that was there. -/
import Derived.Test.YtgopcplcamljmaaDoorRef1
import Derived.Test.YtgopcplcamljmaaDoorShelf
import Derived.Lib.LaidTab
namespace Go.Proofs.YtgopcplcamljmaaDoor
open Go.RowKit

/-- what the rows list, and what the worlds' shape gives: the library's variables -/
structure Inv (w : World) : Prop where
  sz : 6 ≤ w.heap.size
  mx : ∃ m, w.cell? ⟨0, 0, none⟩ = some (.int .i64 m)
  pow : Lib.TabIs Tryd.prog w "internal/strconv.uint64pow10" .u64 Lib.pow10Tab
  rng : ∃ tp p, w.var? Tryd.prog "strconv.ErrRange" = some #[.iface tp p]

theorem gPow : Tryd.prog.globalNamed "internal/strconv.uint64pow10" = some 3 := by kernel_rfl
theorem gRange : Tryd.prog.globalNamed "strconv.ErrRange" = some 2 := by kernel_rfl

theorem Inv.below {w w' : World} {B : Nat} (h : Inv w) (hb : Below B w w') (hB : 6 ≤ B) : Inv w' := by
  obtain ⟨h1, ⟨m, h2⟩, h3, ⟨tp, p, h4⟩⟩ := h
  refine ⟨Nat.le_trans h1 hb.size, ⟨m, (hb.cell (p := ⟨0, 0, none⟩) (by show 0 < B; omega)).trans h2⟩, ?_, ⟨tp, p, ?_⟩⟩
  · unfold Lib.TabIs at h3 ⊢
    exact var?_below hb gPow (by omega) h3
  · exact var?_below hb gRange (by omega) h4

theorem low_size (s : ByteArray) : (⟨(Asc.low s.data.toList).toArray⟩ : ByteArray).size = s.size := by
  rw [← size_toList, ← size_toList]
  simp [Asc.low]

theorem low_max (s : ByteArray) (hs : s.size ≤ maxLen) : (⟨(Asc.low s.data.toList).toArray⟩ : ByteArray).size ≤ maxLen := by rw [low_size]; exact hs

theorem equalFold_any (a b : ByteArray) (w : World) (ha : a.size ≤ maxLen) (hb : b.size ≤ maxLen) (r : Bool) (hr : r = (Asc.low a.data.toList == Asc.low b.data.toList)) :
    Calls Tryd.prog 29 #[.string a, .string b] w fun e w' => e = .returned (.bool r) ∧ Below w.heap.size w w' := by
  obtain ⟨x, hx⟩ : ∃ x : ByteArray, x = ⟨(Asc.low a.data.toList).toArray⟩ := ⟨_, rfl⟩
  obtain ⟨y, hy⟩ : ∃ y : ByteArray, y = ⟨(Asc.low b.data.toList).toArray⟩ := ⟨_, rfl⟩
  have h1 := fun w => lower_any a w ha x hx
  have h2 := fun w => lower_any b w hb y hy
  have hr2 : r = (x.data.toList == y.data.toList) := by rw [hr, hx, hy]
  have H1 := Lib.hid h1; have H2 := Lib.hid h2; have HR := Lib.hid hr2
  clear h1 h2 hr hr2 hx hy
  go_enter Tryd.func29, Tryd.ntmps29
  go_wp2_with fail
  refine (H1.out _).mono ?_
  rintro e w1 ⟨rfl, hb1⟩
  go_wp2_with fail
  refine (H2.out _).mono ?_
  rintro e w2 ⟨rfl, hb2⟩
  go_wp2_with fail
  go_ret
  exact ⟨ret_bool (by rw [HR.out, ByteArray.toList_eq, ByteArray.toList_eq]), hb1.trans (hb2.mono hb1.size)⟩

theorem compareFold_any (a b : ByteArray) (w : World) (ha : a.size ≤ maxLen) (hb : b.size ≤ maxLen) (r : Int) (hr : r = Go.Lib.compareBytes (Asc.low a.data.toList) (Asc.low b.data.toList)) :
    Calls Tryd.prog 30 #[.string a, .string b] w fun e w' => e = .returned (.int .i64 r) ∧ Below w.heap.size w w' := by
  obtain ⟨x, hx⟩ : ∃ x : ByteArray, x = ⟨(Asc.low a.data.toList).toArray⟩ := ⟨_, rfl⟩
  obtain ⟨y, hy⟩ : ∃ y : ByteArray, y = ⟨(Asc.low b.data.toList).toArray⟩ := ⟨_, rfl⟩
  have h1 := fun w => lower_any a w ha x hx
  have h2 := fun w => lower_any b w hb y hy
  have hr2 : r = Go.Lib.compareBytes x.data.toList y.data.toList := by rw [hr, hx, hy]
  have H1 := Lib.hid h1; have H2 := Lib.hid h2; have HR := Lib.hid hr2
  clear h1 h2 hr hr2 hx hy
  go_enter Tryd.func30, Tryd.ntmps30
  go_wp2_with fail
  refine (H1.out _).mono ?_
  rintro e w1 ⟨rfl, hb1⟩
  go_wp2_with fail
  refine (H2.out _).mono ?_
  rintro e w2 ⟨rfl, hb2⟩
  go_wp2_with fail
  refine (Tryd.strings_Compare _ _ _).mono ?_
  rintro e w3 ⟨rfl, rfl⟩
  go_wp2_with fail
  go_ret
  exact ⟨ret_int HR.out.symm, hb1.trans (hb2.mono hb1.size)⟩

theorem indexFold_any (a b : ByteArray) (w : World) (hI : Inv w) (ha : a.size < 4294967281) (hb : b.size < 4294967281) (r : Int) (hr : r = Go.Lib.index (Asc.low a.data.toList) (Asc.low b.data.toList)) :
    Calls Tryd.prog 32 #[.string a, .string b] w fun e w' => e = .returned (.int .i64 r) ∧ Below w.heap.size w w' := by
  obtain ⟨x, hx⟩ : ∃ x : ByteArray, x = ⟨(Asc.low a.data.toList).toArray⟩ := ⟨_, rfl⟩
  obtain ⟨y, hy⟩ : ∃ y : ByteArray, y = ⟨(Asc.low b.data.toList).toArray⟩ := ⟨_, rfl⟩
  have h1 := fun w => lower_any a w (by unfold maxLen; omega) x hx
  have h2 := fun w => lower_any b w (by unfold maxLen; omega) y hy
  have hxs : x.size < 4294967281 := by rw [hx, low_size]; exact ha
  have hr2 : r = Go.Lib.index x.data.toList y.data.toList := by rw [hr, hx, hy]
  have H1 := Lib.hid h1; have H2 := Lib.hid h2; have HR := Lib.hid hr2
  clear h1 h2 hr hr2 hx hy
  go_enter Tryd.func32, Tryd.ntmps32
  go_wp2_with fail
  refine (H1.out _).mono ?_
  rintro e w1 ⟨rfl, hb1⟩
  go_wp2_with fail
  refine (H2.out _).mono ?_
  rintro e w2 ⟨rfl, hb2⟩
  have hb3 := hb1.trans (hb2.mono hb1.size)
  obtain ⟨m, hm⟩ := (hI.below hb3 hI.sz).mx
  go_wp2_with fail
  refine (Tryd.strings_Index x y m w2 hxs hm).mono ?_
  rintro e w3 ⟨rfl, rfl⟩
  go_wp2_with fail
  go_ret
  exact ⟨ret_int HR.out.symm, hb3⟩

theorem clone_any (s : ByteArray) (w : World) (hs : s.size ≤ 281474976710656) :
    Calls Tryd.prog 54 #[.string s] w fun e w' => e = .returned (.string s) ∧ Below w.heap.size w w' := by
  go_enter Tryd.func54, Tryd.ntmps54
  go_wp2_with (go_at_call 66; refine (Tryd.stringslite_Clone _ _ hs).mono ?_; rintro e w' ⟨rfl, hb⟩)
  go_ret
  exact ⟨rfl, hb⟩

set_option maxHeartbeats 400000 in
theorem trim_any (s : ByteArray) (w : World) (hs : s.size ≤ 281474976710656) (t : ByteArray) (ht : t = ⟨(Asc.trim s.data.toList).toArray⟩) :
    Calls Tryd.prog 39 #[.string s] w fun e w' => e = .returned (.string t) ∧ Below w.heap.size w w' := by
  have hsI : (s.size : Int) ≤ 281474976710656 := by omega
  obtain ⟨f, hf⟩ : ∃ f, f = Asc.span Asc.blank s.data.toList := ⟨_, rfl⟩
  have hfs : f ≤ s.size := by rw [hf, ← size_toList]; exact Asc.span_le _ _
  have hb : ∀ c w, Calls Tryd.prog 21 #[.int .u8 c.toNat] w fun e w' => e = .returned (.bool (Asc.blank c)) ∧ w = w' := fun c w => by rw [← blB_eq]; exact isBlank_any c w
  have hk := fun w => skip_any s 0 f 21 Asc.blank ent_isBlank hb w (by unfold maxLen; omega) (Nat.zero_le _) (by simpa using hf)
  unfold Asc.trim at ht
  rw [← hf] at ht
  have HT := Lib.hid ht
  have HK := Lib.hid hk
  have HB := Lib.hid hb
  clear ht hf hk hb
  go_enter Tryd.func39, Tryd.ntmps39
  go_wp2_with (go_at_call 49; refine (HK.out _).mono ?_; rintro e w' ⟨rfl, rfl⟩)
  go_loop [4] (fun a => ∃ k : Nat, a = .int .i64 k ∧ f ≤ k ∧ k ≤ s.size ∧ Asc.backTo s.data.toList f s.data.toList.length = Asc.backTo s.data.toList f k) (fun a => (intOf a).toNat)
  case atStart => exact ⟨s.size, rfl, hfs, Nat.le_refl _, by rw [size_toList]⟩
  case round =>
    obtain ⟨k, rfl, hfk, hk2, hbt⟩ := hrel
    have HBT := Lib.hid hbt
    clear hbt
    by_cases hlt2 : f < k
    · obtain ⟨m, rfl⟩ : ∃ m, k = m + 1 := ⟨k - 1, by omega⟩
      obtain ⟨d, hd⟩ : ∃ d, s[m] = d := ⟨_, rfl⟩
      have hdd : s.data.toList.getD (m + 1 - 1) 0 = d := by
        rw [Nat.add_sub_cancel, List.getD_eq_getElem?_getD, List.getElem?_eq_getElem (by rw [size_toList]; omega), get_toList s m (by omega), hd]; rfl
      have hm1 : ((m + 1 : Nat) : Int) - 1 = (m : Int) := by omega
      have hv2 := fun w => HB.out d w
      cases hvd : Asc.blank d with
      | true =>
        have hgo := Asc.backTo_go s.data.toList f (m + 1) hlt2 (by rw [hdd]; exact hvd)
        rw [Nat.add_sub_cancel] at hgo
        rw [hvd] at hv2
        have HV2 := Lib.hid hv2
        have HGO := Lib.hid hgo
        clear hv2 hvd hgo hdd
        go_wp2_with (go_at_call 21; refine (HV2.out _).mono ?_; rintro e w' ⟨rfl, rfl⟩)
        go_round
        case rel => exact ⟨m, by go_num, by omega, by omega, HBT.out.trans HGO.out⟩
        case measure => simp [intOf]
      | false =>
        have hst := Asc.backTo_stop s.data.toList f (m + 1) (.inr (by rw [hdd]; exact hvd))
        rw [hvd] at hv2
        have HV2 := Lib.hid hv2
        have hres : s.extract f (m + 1) = t := by
          rw [HT.out, HBT.out, hst]
          apply ByteArray.ext
          apply Array.toList_inj.1
          rw [Lib.extract_data]
        have HRES := Lib.hid hres
        have hsz : (s.extract f (m + 1)).size ≤ 281474976710656 := by simp; omega
        clear hv2 hvd hst hdd hres
        go_wp2_with (first | (go_at_call 21; refine (HV2.out _).mono ?_; rintro e w' ⟨rfl, rfl⟩) | (go_at_call 54; refine (clone_any _ _ hsz).mono ?_; rintro e w' ⟨rfl, hbw⟩))
        go_ret
        exact ⟨ret_str HRES.out, hbw⟩
    · have hlt3 : ¬ (f : Int) < (k : Int) := by omega
      have hst := Asc.backTo_stop s.data.toList f k (.inl hlt2)
      have hres : s.extract f k = t := by
        rw [HT.out, HBT.out, hst]
        apply ByteArray.ext
        apply Array.toList_inj.1
        rw [Lib.extract_data]
      have HRES := Lib.hid hres
      have hsz : (s.extract f k).size ≤ 281474976710656 := by simp; omega
      clear hst hres hlt2
      go_wp2_with (go_at_call 54; refine (clone_any _ _ hsz).mono ?_; rintro e w' ⟨rfl, hbw⟩)
      go_ret
      exact ⟨ret_str HRES.out, hbw⟩

theorem digits_any (n : Int) (w : World) (hI : Inv w) (h0 : -9223372036854775808 ≤ n) (h1 : n ≤ 9223372036854775807) :
    Calls Tryd.prog 41 #[.int .i64 n] w fun e w' => e = .returned (.string ⟨(Lib.itoa n).toArray⟩) ∧ Below w.heap.size w w' := by
  have hc := Tryd.strconv_Itoa n h0 h1 w hI.pow
  have HC := Lib.hid hc
  clear h0 h1 hc
  go_enter Tryd.func41, Tryd.ntmps41
  go_wp2_with (go_at_call 57; refine HC.out.mono ?_; rintro e w' ⟨rfl, k, os, rfl⟩)
  go_ret
  exact ⟨rfl, ⟨rfl, rfl, rfl, by show w.heap.size ≤ (w.heap ++ os).size; rw [Array.size_append]; omega, fun _ hj => Sort.heap_grow_old (Sort.ahead w k) os hj⟩⟩
end Go.Proofs.YtgopcplcamljmaaDoor
