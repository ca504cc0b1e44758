/- The reference's Printable, Compare and Trim: what each answers; each leaves the world alone. -/
import Derived.Test.YtgopcplcamljmaaDoorLower
import Derived.RegionTactic
import Derived.Deep.QuietTactic
import Derived.BigQuiet
import Derived.LoopN
namespace Go.Proofs.YtgopcplcamljmaaDoor
open Go.RowKit

theorem span_drop (p : UInt8 → Bool) (l : List UInt8) (k : Nat) (hk : k < l.length) : Asc.span p (l.drop k) = if p l[k] then Asc.span p (l.drop (k + 1)) + 1 else 0 := by
  rw [List.drop_eq_getElem_cons hk, Asc.span]

set_option maxHeartbeats 400000 in
theorem refPrintable_any (s : ByteArray) (w : World) (hs : s.size ≤ 1000) (z : Int) (hz : z = prAt s) :
    Calls Tryd.prog 26 #[.string s] w fun e w' => e = .returned (.int .i64 z) ∧ w = w' := by
  have hsI : (s.size : Int) ≤ 1000 := by omega
  have hz0 : Asc.span vsB s.data.toList = 0 + Asc.span vsB (s.data.toList.drop 0) := by simp
  obtain ⟨t, ht⟩ : ∃ t, t = Asc.span vsB s.data.toList := ⟨_, rfl⟩
  unfold prAt at hz
  rw [← ht] at hz hz0
  have HZ := Lib.hid hz
  have HZ0 := Lib.hid hz0
  clear hz hz0 ht
  go_enter Tryd.func26, Tryd.ntmps26
  go_wp2_with fail
  go_loop [3] (fun a => ∃ k : Nat, a = .int .i64 k ∧ k ≤ s.size ∧ t = k + Asc.span vsB (s.data.toList.drop k)) (fun a => s.size - (intOf a).toNat)
  case atStart => exact ⟨0, rfl, Nat.zero_le _, HZ0.out⟩
  case round =>
    obtain ⟨k, rfl, hk, hsp⟩ := hrel
    by_cases hlt : k < s.size
    · rw [span_drop _ _ _ (by rw [size_toList]; exact hlt), get_toList s k hlt] at hsp
      obtain ⟨c, hcc⟩ : ∃ c, s[k] = c := ⟨_, rfl⟩
      rw [hcc] at hsp
      have HSP := Lib.hid hsp
      have hv := fun w => refVisible_any c w
      clear hsp
      cases hvi : viB c with
      | true =>
        rw [hvi] at hv
        have HV := Lib.hid hv
        have hsp := HSP.out
        rw [if_pos (by simp [vsB, hvi])] at hsp
        have HSP2 := Lib.hid hsp
        clear hv hvi hsp HSP
        go_wp2_with (go_at_call 20; refine (HV.out _).mono ?_; rintro e w' ⟨rfl, rfl⟩)
        go_round
        case rel => exact ⟨k + 1, by go_num, by omega, by have := HSP2.out; omega⟩
        case measure => simp [intOf]; omega
      | false =>
        rw [hvi] at hv
        have HV := Lib.hid hv
        by_cases h32 : c.toNat = 32
        · have hsp := HSP.out
          rw [if_pos (by simp [vsB, h32])] at hsp
          have g : ((c.toNat : Int) != 32) = false := by simp; omega
          have HSP2 := Lib.hid hsp
          clear hv hvi hsp HSP h32
          go_wp2_with (go_at_call 20; refine (HV.out _).mono ?_; rintro e w' ⟨rfl, rfl⟩)
          go_round
          case rel => exact ⟨k + 1, by go_num, by omega, by have := HSP2.out; omega⟩
          case measure => simp [intOf]; omega
        · have hsp := HSP.out
          rw [if_neg (by simp [vsB, h32, hvi])] at hsp
          have g : ((c.toNat : Int) != 32) = true := by simp; omega
          have HSP2 := Lib.hid hsp
          clear hv hvi hsp HSP h32
          go_wp2_with (go_at_call 20; refine (HV.out _).mono ?_; rintro e w' ⟨rfl, rfl⟩)
          go_ret
          exact ⟨ret_int (by have := HSP2.out; rw [HZ.out, if_pos (by omega)]; omega), rfl⟩
    · have hnil : s.data.toList.drop k = [] := List.drop_eq_nil_of_le (by rw [size_toList]; omega)
      rw [hnil] at hsp
      simp only [Asc.span] at hsp
      have HSP2 := Lib.hid hsp
      clear hsp hnil
      go_wp2_with fail
      go_ret
      exact ⟨ret_int (by have := HSP2.out; rw [HZ.out, if_neg (by omega)]), rfl⟩

set_option maxHeartbeats 400000 in
theorem refCompare_any (a b : ByteArray) (w : World) (ha : a.size ≤ 1000) (hb : b.size ≤ 1000) (z : Int) (hz : z = Go.Lib.compareBytes a.data.toList b.data.toList) :
    Calls Tryd.prog 31 #[.string a, .string b] w fun e w' => e = .returned (.int .i64 z) ∧ ∃ n, w' = w.drewN n := by
  have haI : (a.size : Int) ≤ 1000 := by omega
  have hbI : (b.size : Int) ≤ 1000 := by omega
  have HZ := Lib.hid hz
  clear hz
  go_enter Tryd.func31, Tryd.ntmps31
  go_wp2_with fail
  go_loopw [5] (fun i wr => ∃ k n : Nat, i = .int .i64 k ∧ k ≤ a.size ∧ k ≤ b.size ∧ z = Go.Lib.compareBytes (a.data.toList.drop k) (b.data.toList.drop k) ∧ wr = w.drewN n) (fun i _ => a.size - (intOf i).toNat)
  case atStart => exact ⟨0, 0, rfl, Nat.zero_le _, Nat.zero_le _, by simpa using HZ.out, rfl⟩
  case round =>
    obtain ⟨k, n, rfl, hka, hkb, hc, rfl⟩ := hrel
    have HC := Lib.hid hc
    clear hc
    by_cases hlt : k < a.size ∧ k < b.size
    · obtain ⟨h1, h2⟩ := hlt
      have hd := Asc.cmp_drop a.data.toList b.data.toList k (by rw [size_toList]; exact h1) (by rw [size_toList]; exact h2)
      rw [get_toList a k h1, get_toList b k h2, ← HC.out] at hd
      obtain ⟨x, hx⟩ : ∃ x, a[k] = x := ⟨_, rfl⟩
      obtain ⟨y, hy⟩ : ∃ y, b[k] = y := ⟨_, rfl⟩
      rw [hx, hy] at hd
      have HD := Lib.hid hd
      clear hd
      by_cases hxy : x.toNat < y.toNat
      · have hres := HD.out
        rw [if_pos (UInt8.lt_iff_toNat_lt.2 hxy)] at hres
        have HRES := Lib.hid hres
        have hxyI : (x.toNat : Int) < (y.toNat : Int) := by omega
        clear hres hxy
        go_wp2_with fail
        go_quiet (fail)
        go_wp2_with fail
        go_ret
        exact ⟨ret_int HRES.out.symm, _, by first | rfl | (simp only [World.drewN_drewN]; rfl)⟩
      · have hxyI : ¬ (x.toNat : Int) < (y.toNat : Int) := by omega
        by_cases hyx : y.toNat < x.toNat
        · have hres := HD.out
          rw [if_neg (fun e => hxy (UInt8.lt_iff_toNat_lt.1 e)), if_pos (UInt8.lt_iff_toNat_lt.2 hyx)] at hres
          have HRES := Lib.hid hres
          have hyxI : (y.toNat : Int) < (x.toNat : Int) := by omega
          clear hres hxy hyx
          go_wp2_with fail
          go_quiet (fail)
          go_wp2_with fail
          go_quiet (fail)
          go_wp2_with fail
          go_ret
          exact ⟨ret_int HRES.out.symm, _, by first | rfl | (simp only [World.drewN_drewN]; rfl)⟩
        · have hres := HD.out
          rw [if_neg (fun e => hxy (UInt8.lt_iff_toNat_lt.1 e)), if_neg (fun e => hyx (UInt8.lt_iff_toNat_lt.1 e))] at hres
          have HRES := Lib.hid hres
          have hyxI : ¬ (y.toNat : Int) < (x.toNat : Int) := by omega
          clear hres hxy hyx
          go_wp2_with fail
          go_quiet (fail)
          go_wp2_with fail
          go_quiet (fail)
          go_wp2_with fail
          go_roundw
          case rel => exact ⟨k + 1, _, by go_num, by omega, by omega, HRES.out, by first | rfl | (simp only [World.drewN_drewN]; rfl)⟩
          case measure => simp [intOf]; omega
    · have he := Asc.cmp_end a.data.toList b.data.toList k (by rw [size_toList, size_toList]; omega) (by rw [size_toList]; omega) (by rw [size_toList]; omega)
      rw [← HC.out, size_toList, size_toList] at he
      have HE := Lib.hid he
      clear he
      have hcase : k = a.size ∨ (k < a.size ∧ k = b.size) := by omega
      clear hlt
      rcases hcase with h | ⟨h, h'⟩
      · have g : ¬ (k : Int) < (a.size : Int) := by omega
        by_cases l1 : a.size < b.size
        · have hres := HE.out
          rw [if_pos l1] at hres
          have HRES := Lib.hid hres
          have HH := Lib.hid h
          clear h hres
          go_wp2_with fail
          go_ret
          exact ⟨ret_int HRES.out.symm, _, by first | rfl | (simp only [World.drewN_drewN]; rfl)⟩
        · have hres := HE.out
          have HH := Lib.hid h
          rw [if_neg l1, if_neg (by omega)] at hres
          have HRES := Lib.hid hres
          have l2 : ¬ (b.size : Int) < (a.size : Int) := by omega
          clear h hres
          go_wp2_with fail
          go_ret
          exact ⟨ret_int HRES.out.symm, _, by first | rfl | (simp only [World.drewN_drewN]; rfl)⟩
      · have g : (k : Int) < (a.size : Int) := by omega
        have g2 : ¬ (k : Int) < (b.size : Int) := by omega
        have l1 : ¬ (a.size : Int) < (b.size : Int) := by omega
        have l2 : (b.size : Int) < (a.size : Int) := by omega
        have hres := HE.out
        rw [if_neg (by omega), if_pos (by omega)] at hres
        have HRES := Lib.hid hres
        clear h' h hres
        go_wp2_with fail
        go_ret
        exact ⟨ret_int HRES.out.symm, _, by first | rfl | (simp only [World.drewN_drewN]; rfl)⟩

set_option maxHeartbeats 400000 in
theorem refTrim_any (s : ByteArray) (w : World) (hs : s.size ≤ 1000) (t : ByteArray) (ht : t = ⟨(Asc.trim s.data.toList).toArray⟩) :
    Calls Tryd.prog 40 #[.string s] w fun e w' => e = .returned (.string t) ∧ w = w' := by
  have hsI : (s.size : Int) ≤ 1000 := by omega
  obtain ⟨f, hf⟩ : ∃ f, f = Asc.span Asc.blank s.data.toList := ⟨_, rfl⟩
  have hf0 : f = 0 + Asc.span Asc.blank (s.data.toList.drop 0) := by simpa using hf
  have hfs : f ≤ s.size := by rw [hf, ← size_toList]; exact Asc.span_le _ _
  unfold Asc.trim at ht
  rw [← hf] at ht
  have HT := Lib.hid ht
  have HF := Lib.hid hf0
  clear ht hf hf0
  go_enter Tryd.func40, Tryd.ntmps40
  go_wp2_with fail
  go_loop [3] (fun a => ∃ k : Nat, a = .int .i64 k ∧ k ≤ s.size ∧ f = k + Asc.span Asc.blank (s.data.toList.drop k)) (fun a => s.size - (intOf a).toNat)
  case atStart => exact ⟨0, rfl, Nat.zero_le _, HF.out⟩
  case round =>
    obtain ⟨k, rfl, hk, hsp⟩ := hrel
    have HSP := Lib.hid hsp
    clear hsp
    by_cases hlt : k < s.size
    · have hsp := HSP.out
      rw [span_drop _ _ _ (by rw [size_toList]; exact hlt), get_toList s k hlt] at hsp
      obtain ⟨c, hcc⟩ : ∃ c, s[k] = c := ⟨_, rfl⟩
      rw [hcc] at hsp
      have hv := fun w => refBlank_any c w
      simp only [blB_eq] at hv
      have HSP1 := Lib.hid hsp
      clear hsp
      cases hvi : Asc.blank c with
      | true =>
        rw [hvi] at hv
        have HV := Lib.hid hv
        have hsp := HSP1.out
        rw [if_pos hvi] at hsp
        have HSP2 := Lib.hid hsp
        clear hv hvi hsp HSP1
        go_wp2_with (go_at_call 22; refine (HV.out _).mono ?_; rintro e w' ⟨rfl, rfl⟩)
        go_round
        case rel => exact ⟨k + 1, by go_num, by omega, by have := HSP2.out; omega⟩
        case measure => simp [intOf]; omega
      | false =>
        rw [hvi] at hv
        have HV := Lib.hid hv
        have hsp := HSP1.out
        rw [if_neg (by rw [hvi]; decide)] at hsp
        obtain rfl : f = k := by omega
        clear hv hvi hsp HSP1 HSP
        go_wp2_with (go_at_call 22; refine (HV.out _).mono ?_; rintro e w' ⟨rfl, rfl⟩)
        clear hcc
        go_loop [4] (fun a => ∃ k : Nat, a = .int .i64 k ∧ f ≤ k ∧ k ≤ s.size ∧ Asc.backTo s.data.toList f s.data.toList.length = Asc.backTo s.data.toList f k) (fun a => (intOf a).toNat)
        case atStart => exact ⟨s.size, rfl, hfs, Nat.le_refl _, by rw [size_toList]⟩
        case round =>
          obtain ⟨k, rfl, hfk, hk2, hbt⟩ := hrel
          have HBT := Lib.hid hbt
          clear hbt
          by_cases hlt2 : f < k
          · obtain ⟨m, rfl⟩ : ∃ m, k = m + 1 := ⟨k - 1, by omega⟩
            obtain ⟨d, hd⟩ : ∃ d, s[m] = d := ⟨_, rfl⟩
            have hdd : s.data.toList.getD (m + 1 - 1) 0 = d := by
              rw [Nat.add_sub_cancel, List.getD_eq_getElem?_getD, List.getElem?_eq_getElem (by rw [size_toList]; omega), get_toList s m (by omega), hd]; rfl
            have hm1 : ((m + 1 : Nat) : Int) - 1 = (m : Int) := by omega
            have hv2 := fun w => refBlank_any d w
            simp only [blB_eq] at hv2
            cases hvd : Asc.blank d with
            | true =>
              have hgo := Asc.backTo_go s.data.toList f (m + 1) hlt2 (by rw [hdd]; exact hvd)
              rw [Nat.add_sub_cancel] at hgo
              rw [hvd] at hv2
              have HV2 := Lib.hid hv2
              have HGO := Lib.hid hgo
              clear hv2 hvd hgo hdd
              go_wp2_with (go_at_call 22; refine (HV2.out _).mono ?_; rintro e w' ⟨rfl, rfl⟩)
              go_round
              case rel => exact ⟨m, by go_num, by omega, by omega, HBT.out.trans HGO.out⟩
              case measure => simp [intOf]
            | false =>
              have hst := Asc.backTo_stop s.data.toList f (m + 1) (.inr (by rw [hdd]; exact hvd))
              rw [hvd] at hv2
              have HV2 := Lib.hid hv2
              have HST := Lib.hid hst
              clear hv2 hvd hst hdd
              go_wp2_with (go_at_call 22; refine (HV2.out _).mono ?_; rintro e w' ⟨rfl, rfl⟩)
              go_ret
              refine ⟨ret_str ?_, rfl⟩
              rw [HT.out, HBT.out, HST.out]
              apply ByteArray.ext
              apply Array.toList_inj.1
              rw [Lib.extract_data]
          · obtain rfl : f = k := by omega
            have hst := Asc.backTo_stop s.data.toList f f (.inl (by omega))
            have HST := Lib.hid hst
            clear hst
            go_wp2_with fail
            go_ret
            refine ⟨ret_str ?_, rfl⟩
            rw [HT.out, HBT.out, HST.out]
            apply ByteArray.ext
            apply Array.toList_inj.1
            simp
    · have hnil : s.data.toList.drop k = [] := List.drop_eq_nil_of_le (by rw [size_toList]; omega)
      have hsp := HSP.out
      rw [hnil] at hsp
      simp only [Asc.span] at hsp
      obtain rfl : f = k := by omega
      have hst := Asc.backTo_stop s.data.toList f s.data.toList.length (.inl (by rw [size_toList]; omega))
      have hd : s.data.toList.drop f = [] := hnil
      have hres : t = ByteArray.empty := by
        rw [HT.out, hd]; simp; rfl
      have HRES := Lib.hid hres
      clear hsp hnil hst hd hres HSP HT HF
      go_wp2_with fail
      refine wp_loop_rounds 1 ?_
      rw [rounds_succ]
      go_wp2_with fail
      go_ret
      exact ⟨ret_str (by rw [HRES.out]; apply ByteArray.ext; apply Array.toList_inj.1; rw [Lib.extract_data, List.drop_eq_nil_of_le (by rw [size_toList]; omega)]; simp), rfl⟩
end Go.Proofs.YtgopcplcamljmaaDoor
