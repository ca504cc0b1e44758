/- The law of Parse, where Parse refuses: too short, no hexadecimal text. -/
import Derived.Test.YtpkbceelbppleaaDoorParseLaw1
namespace Go.Proofs.YtpkbceelbppleaaDoor
open Go.RowKit

theorem refUnhex_none (s : ByteArray) (hu : Asc.unhexL s.data.toList = none) (w : World) (hs : s.size ≤ 1000) : Calls Tryd.prog 25 #[.string s] w fun e w' => e = .returned (.tuple #[.slice none 0 0, .int .i64 3]) ∧ Below w.heap.size w w' := by
  refine (refUnhex_any s w hs).mono ?_
  intro e w' h
  rw [hu] at h
  exact ⟨h.1, h.2⟩
theorem refUnhex_yes (s : ByteArray) (l : List Nat) (hu : Asc.unhexL s.data.toList = some l) (w : World) (hs : s.size ≤ 1000) : Calls Tryd.prog 25 #[.string s] w fun e w' => ∃ v, e = .returned (.tuple #[v, .int .i64 0]) ∧ Bytes w' v l ∧ Below w.heap.size w w' := by
  refine (refUnhex_any s w hs).mono ?_
  intro e w' h
  rw [hu] at h
  exact h

set_option maxRecDepth 100000 in
set_option maxHeartbeats 2000000 in
theorem parse_law_short (a s : ByteArray) (ha : a.size ≤ maxLen) (hs : s = a.extract 0 (min a.size 200)) (h : s.size < 64) (w : World) (hT : Tab w) :
    Calls Tryd.prog 8 #[.string a] w fun e w' => e = .returned (.bool true) ∧ Below w.heap.size w w' := by
  have hp := hT.1
  unfold maxLen at ha
  obtain ⟨m, hm⟩ : ∃ m, m = min a.size 200 := ⟨_, rfl⟩
  have hmin : min (a.size : Int) 200 = (m : Int) := by omega
  have haI : (a.size : Int) ≤ 9223372036854775807 := by omega
  have hmI : (m : Int) ≤ (a.size : Int) := by omega
  rw [← hm] at hs
  have hss : s.size ≤ 200 := by rw [hs]; simp; omega
  have hs2 : a.extract 0 m = s := hs.symm
  have HP := Lib.hid (fun w => parse_short s h w)
  have HU := Lib.hid (fun w => refUnhex_some s w (by omega))
  have HK := Lib.hid (fun w hT => known_any w hT)
  have hI : ¬ (64 : Int) < (s.size : Int) := by omega
  have hI2 : (s.size : Int) < 64 := by omega
  have HB0 := Lib.hid (Below.refl w.heap.size w)
  have heqz := eq_zero
  clear hm hs ha hss h
  go_enter Tryd.func8, Tryd.ntmps8
  go_wp2_with fail
  refine (HP.out _).mono ?_
  rintro e w1 ⟨rfl, hb1⟩
  have HB1 := Lib.hid hb1
  clear hb1
  go_wp2_with (first
    | (refine sto_dg _ zD rfl _ (Blk.fresh w1 _ _) rfl (by rfl) _ _ (by rfl) (by rfl) (by rfl) ?_; intro w2 hw2; have K2 := Lib.hid (show Blk w2 w1.heap.size 25 (bsC zD) by rw [hw2.out]; exact (Blk.fresh w1 _ _).row _); have HB2 := Lib.hid (show Below w.heap.size w w2 by rw [hw2.out]; exact below_row (HB1.out.alloc HB1.out.size _) _ HB1.out.size _); clear hw2)
    | (go_at_call 25; refine (HU.out _).mono ?_; rintro e w3 ⟨v, k, rfl, hb3⟩; have HB3 := Lib.hid (HB2.out.trans (hb3.mono HB2.out.size)); have K3 := Lib.hid (K2.out.keep hb3 K2.out.lt); clear hb3)
    | (go_at_call 13; refine (HK.out _ (hT.below HB3.out hp)).mono ?_; rintro e w4 ⟨rfl, hb4⟩; have HB4 := Lib.hid (HB3.out.trans (hb4.mono HB3.out.size)); have K4 := Lib.hid (K3.out.keep hb4 K3.out.lt); clear hb4)
    | (refine ld_dg_g _ zD rfl K4.out (by rfl) _ (by rfl) (by rfl) ?_))
  go_ret
  exact ⟨rfl, HB4.out⟩
set_option maxRecDepth 100000 in
set_option maxHeartbeats 2000000 in
theorem parse_law_none (a s : ByteArray) (ha : a.size ≤ maxLen) (hs : s = a.extract 0 (min a.size 200)) (h : s.size = 64) (hu : Asc.unhexL s.data.toList = none) (w : World) (hT : Tab w) :
    Calls Tryd.prog 8 #[.string a] w fun e w' => e = .returned (.bool true) ∧ Below w.heap.size w w' := by
  have hp := hT.1
  unfold maxLen at ha
  obtain ⟨m, hm⟩ : ∃ m, m = min a.size 200 := ⟨_, rfl⟩
  have hmin : min (a.size : Int) 200 = (m : Int) := by omega
  have haI : (a.size : Int) ≤ 9223372036854775807 := by omega
  have hmI : (m : Int) ≤ (a.size : Int) := by omega
  rw [← hm] at hs
  have hss : s.size ≤ 200 := by rw [hs]; simp; omega
  have hs2 : a.extract 0 m = s := hs.symm
  have HP := Lib.hid (fun w => parse_none s h hu w)
  have HU := Lib.hid (fun w => refUnhex_none s hu w (by omega))
  have HK := Lib.hid (fun w hT => known_any w hT)
  have hI : ¬ (64 : Int) < (s.size : Int) := by omega
  have hI2 : ¬ (s.size : Int) < 64 := by omega
  have HB0 := Lib.hid (Below.refl w.heap.size w)
  have heqz := eq_zero
  clear hm hs ha hss h hu
  go_enter Tryd.func8, Tryd.ntmps8
  go_wp2_with fail
  refine (HP.out _).mono ?_
  rintro e w1 ⟨rfl, hb1⟩
  have HB1 := Lib.hid hb1
  clear hb1
  go_wp2_with (first
    | (refine sto_dg _ zD rfl _ (Blk.fresh w1 _ _) rfl (by rfl) _ _ (by rfl) (by rfl) (by rfl) ?_; intro w2 hw2; have K2 := Lib.hid (show Blk w2 w1.heap.size 25 (bsC zD) by rw [hw2.out]; exact (Blk.fresh w1 _ _).row _); have HB2 := Lib.hid (show Below w.heap.size w w2 by rw [hw2.out]; exact below_row (HB1.out.alloc HB1.out.size _) _ HB1.out.size _); clear hw2)
    | (go_at_call 25; refine (HU.out _).mono ?_; rintro e w3 ⟨rfl, hb3⟩; have HB3 := Lib.hid (HB2.out.trans (hb3.mono HB2.out.size)); have K3 := Lib.hid (K2.out.keep hb3 K2.out.lt); clear hb3)
    | (go_at_call 13; refine (HK.out _ (hT.below HB3.out hp)).mono ?_; rintro e w4 ⟨rfl, hb4⟩; have HB4 := Lib.hid (HB3.out.trans (hb4.mono HB3.out.size)); have K4 := Lib.hid (K3.out.keep hb4 K3.out.lt); clear hb4)
    | (refine ld_dg_g _ zD rfl K4.out (by rfl) _ (by rfl) (by rfl) ?_))
  go_ret
  exact ⟨rfl, HB4.out⟩
end Go.Proofs.YtpkbceelbppleaaDoor
