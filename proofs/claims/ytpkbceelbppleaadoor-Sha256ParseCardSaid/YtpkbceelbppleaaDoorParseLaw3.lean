/- The law of Parse, where Parse accepts. -/
import Derived.Test.YtpkbceelbppleaaDoorParseLaw2
import Derived.Deep.RegionWith
namespace Go.Proofs.YtpkbceelbppleaaDoor
open Go.RowKit

theorem bytes_box {w : World} {g : Nat} {t : TypeId} (l : List Nat) (hb : ∀ x ∈ l, x < 256) (hl : l.length = 32) (h : Blk w g t (bsC (l.map fun (y : Nat) => (y : Int)))) : Bytes w (.slice (some ⟨g, 0, none⟩) 32 32) l := by
  refine ⟨hb, some ⟨g, 0, none⟩, 32, by rw [hl], by omega, by unfold maxLen; omega, (fun h => by cases h), fun i hi => ⟨g, 0, rfl, ?_⟩⟩
  rw [Nat.zero_add, cell_of_row w g i _ _ _ h]
  simp [bsC, List.getElem?_eq_getElem hi]

set_option maxRecDepth 100000 in
set_option maxHeartbeats 1000000 in
theorem parse_law_some (a s : ByteArray) (ha : a.size ≤ maxLen) (hs : s = a.extract 0 (min a.size 200)) (h : s.size = 64) (l : List Nat) (hlen : l.length = 32) (hlb : ∀ x ∈ l, x < 256) (hu : Asc.unhexL s.data.toList = some l) (w : World) (hT : Tab w) :
    Calls Tryd.prog 8 #[.string a] w fun e w' => e = .returned (.bool true) ∧ Below w.heap.size w w' := by
  have hp := hT.1
  unfold maxLen at ha
  obtain ⟨m, hm⟩ : ∃ m, m = min a.size 200 := ⟨_, rfl⟩
  have hmin : min (a.size : Int) 200 = (m : Int) := by omega
  have haI : (a.size : Int) ≤ 9223372036854775807 := by omega
  have hmI : (m : Int) ≤ (a.size : Int) := by omega
  rw [← hm] at hs
  have hss : s.size ≤ 200 := by rw [hs]; simp; omega
  have hs2 : a.extract 0 m = s := hs.symm
  have HP := Lib.hid (fun w => parse_some s h l hlen hu w)
  have HU := Lib.hid (fun w => refUnhex_yes s l hu w (by omega))
  have HK := Lib.hid (fun w hT => known_any w hT)
  obtain ⟨D, hD⟩ : ∃ D, D = l.map fun (y : Nat) => (y : Int) := ⟨_, rfl⟩
  have hDl : D.length = 32 := by rw [hD]; simp [hlen]
  rw [← hD] at HP
  have HDL := Lib.hid hDl; have HD := Lib.hid hD; have HL := Lib.hid hlen; have HLB := Lib.hid hlb
  have hI : ¬ (64 : Int) < (s.size : Int) := by omega
  have hI2 : ¬ (s.size : Int) < 64 := by omega
  have HB0 := Lib.hid (Below.refl w.heap.size w)
  clear hm hs ha hss h hu hD hDl hlen hlb
  go_enter Tryd.func8, Tryd.ntmps8
  go_wp2_with fail
  refine (HP.out _).mono ?_
  rintro e w1 ⟨rfl, hb1⟩
  have HB1 := Lib.hid hb1
  clear hb1
  go_upto_region 10 with (first
    | (refine sto_dg _ D HDL.out _ (Blk.fresh w1 _ _) rfl (by rfl) _ _ (by rfl) (by rfl) (by rfl) ?_; intro w2 hw2; have K2 := Lib.hid (show Blk w2 w1.heap.size 25 (bsC D) by rw [hw2.out]; exact (Blk.fresh w1 _ _).row _); have HB2 := Lib.hid (show Below w.heap.size w w2 by rw [hw2.out]; exact below_row (HB1.out.alloc HB1.out.size _) _ HB1.out.size _); clear hw2)
    | (go_at_call 25; refine (HU.out _).mono ?_; rintro e w3 ⟨v, rfl, hv3, hb3⟩; have HB3 := Lib.hid (HB2.out.trans (hb3.mono HB2.out.size)); have K3 := Lib.hid (K2.out.keep hb3 K2.out.lt); have HV3 := Lib.hid hv3; clear hb3 hv3))
  clear hs2 hmin haI hmI HP HU hI hI2
  refine wp_region_any (by kernel_rfl) ?_
  change wpAny _ _ _ _ _ _ _ (World.drew _)
  refine wpAny_ready (rs := [0]) (by kernel_rfl) (by simp) ?_
  refine AllReady.cons rfl (fun K hK => ?_) AllReady.nil
  go_simp
  go_wp2_with (go_at_call 13; refine (HK.out _ (hT.below HB3.out.drew hp)).mono ?_; rintro e w4 ⟨rfl, hb4⟩; have HB4 := Lib.hid (HB3.out.drew.trans (hb4.mono HB3.out.drew.size)); have hcv1 := conv_bytes (bytes_box l HLB.out HL.out (by rw [← HD.out]; exact K3.out.draw.keep hb4 K3.out.draw.lt)); have hcv2 := conv_bytes (HV3.out.drew.below hb4); clear hb4)
  refine wpAny_take (i := 1) (v := ?_) rfl (by kernel_rfl) (by kernel_rfl) (by kernel_rfl) (fun _ _ _ h => h) (Or.inl ⟨by rfl, ?_⟩) ?_
  rotate_left
  · (intro w9; go_simp; try with_reducible rfl)
  refine wpAny_take (i := 2) (v := ?_) rfl (by kernel_rfl) (by kernel_rfl) (by kernel_rfl) (fun _ _ _ h => h) (Or.inl ⟨by rfl, ?_⟩) ?_
  rotate_left
  · (intro w9; go_simp; try with_reducible rfl)
  refine wpAny_take (i := 3) (v := ?_) rfl (by kernel_rfl) (by kernel_rfl) (by kernel_rfl) (fun _ _ _ h => h) (Or.inl ⟨by rfl, ?_⟩) ?_
  rotate_left
  · (intro w9; go_simp; try with_reducible rfl)
  refine wpAny_take (i := 4) (v := ?_) rfl (by kernel_rfl) (by kernel_rfl) (by kernel_rfl) (fun _ _ _ h => h) (Or.inl ⟨by rfl, ?_⟩) ?_
  rotate_left
  · (intro w9; go_simp; try with_reducible rfl)
  refine wpAny_take (i := 5) (v := ?_) rfl (by kernel_rfl) (by kernel_rfl) (by kernel_rfl) (fun _ _ _ h => h) (Or.inl ⟨by rfl, ?_⟩) ?_
  rotate_left
  · (intro w9; go_simp; try with_reducible rfl)
  refine wpAny_take (i := 6) (v := ?_) rfl (by kernel_rfl) (by kernel_rfl) (by kernel_rfl) (fun _ _ _ h => h) (Or.inl ⟨by rfl, ?_⟩) ?_
  rotate_left
  · (intro w9; go_simp; try with_reducible rfl)
  refine wpAny_take (i := 8) (v := ?_) rfl (by kernel_rfl) (by kernel_rfl) (by kernel_rfl) (fun _ _ _ h => h) (Or.inl ⟨by rfl, ?_⟩) ?_
  rotate_left
  · (intro w9; go_simp; try with_reducible rfl)
  refine wpAny_ready (rs := [7, 9]) (by kernel_rfl) (by simp) ?_
  refine AllReady.cons rfl (fun K hK => ?_) (AllReady.cons rfl (fun K hK => ?_) AllReady.nil)
  · go_simp
    refine hK _ _ ?_; clear hK K
    refine wpAny_ready (rs := [9]) (by kernel_rfl) (by simp) ?_
    refine AllReady.cons rfl (fun K hK => ?_) AllReady.nil
    go_simp
    refine hK _ _ ?_; clear hK K
    refine wpAny_take (i := 10) (v := ?_) rfl (by kernel_rfl) (by kernel_rfl) (by kernel_rfl) (fun _ _ _ h => h) (Or.inl ⟨by rfl, ?_⟩) ?_
    rotate_left
    · (intro w9; go_simp; try with_reducible rfl)
    refine wpAny_take (i := 11) (v := ?_) rfl (by kernel_rfl) (by kernel_rfl) (by kernel_rfl) (fun _ _ _ h => h) (Or.inl ⟨by rfl, ?_⟩) ?_
    rotate_left
    · (intro w9; go_simp; try with_reducible rfl)
    refine wpAny_take (i := 12) (v := ?_) rfl (by kernel_rfl) (by kernel_rfl) (by kernel_rfl) (fun _ _ _ h => h) (Or.inl ⟨by rfl, ?_⟩) ?_
    rotate_left
    · (intro w9; go_simp; try with_reducible rfl)
    refine wpAny_done (by kernel_rfl) ?_ _
    go_wp2_with fail
    go_ret
    exact ⟨rfl, HB4.out⟩
  · go_simp
    refine hK _ _ ?_; clear hK K
    refine wpAny_ready (rs := [7]) (by kernel_rfl) (by simp) ?_
    refine AllReady.cons rfl (fun K hK => ?_) AllReady.nil
    go_simp
    refine hK _ _ ?_; clear hK K
    refine wpAny_take (i := 10) (v := ?_) rfl (by kernel_rfl) (by kernel_rfl) (by kernel_rfl) (fun _ _ _ h => h) (Or.inl ⟨by rfl, ?_⟩) ?_
    rotate_left
    · (intro w9; go_simp; try with_reducible rfl)
    refine wpAny_take (i := 11) (v := ?_) rfl (by kernel_rfl) (by kernel_rfl) (by kernel_rfl) (fun _ _ _ h => h) (Or.inl ⟨by rfl, ?_⟩) ?_
    rotate_left
    · (intro w9; go_simp; try with_reducible rfl)
    refine wpAny_take (i := 12) (v := ?_) rfl (by kernel_rfl) (by kernel_rfl) (by kernel_rfl) (fun _ _ _ h => h) (Or.inl ⟨by rfl, ?_⟩) ?_
    rotate_left
    · (intro w9; go_simp; try with_reducible rfl)
    refine wpAny_done (by kernel_rfl) ?_ _
    go_wp2_with fail
    go_ret
    exact ⟨rfl, HB4.out⟩
end Go.Proofs.YtpkbceelbppleaaDoor
