/- The law of the texts of digests. -/
import Derived.Test.YtpkbceelbppleaaDoorParseLaw1
import Derived.Test.YtpkbceelbppleaaDoorRefHex
import Derived.Test.YtpkbceelbppleaaDoorFrame
import Derived.Test.YtpkbceelbppleaaDoorArr
namespace Go.Proofs.YtpkbceelbppleaaDoor
open Go.RowKit

theorem bytes_arr {w : World} {g n : Nat} {t : TypeId} (l : List Nat) (hb : ∀ x ∈ l, x < 256) (hl : l.length = n) (hn : n ≤ maxLen) (h : Blk w g t (bsC (l.map fun (y : Nat) => (y : Int)))) : Bytes w (.slice (some ⟨g, 0, none⟩) n n) l := by
  refine ⟨hb, some ⟨g, 0, none⟩, n, by rw [hl], by omega, hn, (fun h => by cases h), fun i hi => ⟨g, 0, rfl, ?_⟩⟩
  rw [Nat.zero_add, cell_of_row w g i _ _ _ h]
  simp [bsC, List.getElem?_eq_getElem hi]

set_option maxRecDepth 100000 in
set_option maxHeartbeats 2000000 in
theorem text_law (l : List Nat) (hl : l.length = 32) (hb : ∀ x ∈ l, x < 256) (w : World) (hT : Tab w) :
    Calls Tryd.prog 7 #[.agg (bsC (l.map fun (x : Nat) => (x : Int)))] w fun e w' => e = .returned (.bool true) ∧ Below w.heap.size w w' := by
  have hp := hT.1
  obtain ⟨D, hD⟩ : ∃ D, D = l.map fun (y : Nat) => (y : Int) := ⟨_, rfl⟩
  obtain ⟨t, ht⟩ : ∃ t : ByteArray, t = ⟨(Asc.hexL l).toArray⟩ := ⟨_, rfl⟩
  have hDl : D.length = 32 := by rw [hD]; simp [hl]
  have hts : t.data.toList = Asc.hexL l := by rw [ht]
  have hsz : t.size = 64 := by
    rw [← size_toList, hts, hexL_len, hl]
  have hu : Asc.unhexL t.data.toList = some l := by rw [hts]; exact Asc.unhex_hex l hb
  have HS := Lib.hid (fun w => str_any D l hD hl hb w t ht)
  have HP := Lib.hid (fun w => parse_some t hsz l hl hu w)
  have HH := Lib.hid (fun w v hv => refHex_any v l w hv (by omega) t ht)
  have HK := Lib.hid (fun w hT => known_any w hT)
  rw [← hD] at HP ⊢
  have hBL := fun (w : World) g t h => bytes_arr (w := w) (g := g) (t := t) l hb hl (by unfold maxLen; omega) h
  rw [← hD] at hBL
  have HBL := Lib.hid hBL
  have HDL := Lib.hid hDl
  have heq := fun w => eq_same (t := 25) Tryd.underlying25 D hDl w
  clear hD ht hDl hts hsz hu hb hl hBL
  go_enter Tryd.func7, Tryd.ntmps7
  go_upto_region 1 with (fail)
  generalize hW0 : w.alloc (.cells (bsC D) 24) = W0
  have B0 := Lib.hid (show Below w.heap.size w W0 by rw [← hW0]; exact (Below.refl _ w).alloc (Nat.le_refl _) _)
  have K0 := Lib.hid (show Blk W0 w.heap.size 24 (bsC D) by rw [← hW0]; exact Blk.fresh w _ _)
  clear hW0
  go_upto_region 2 with (first
    | (refine ld_a32 _ D HDL.out K0.out (by rfl) _ (by rfl) (by rfl) ?_)
    | (go_at_call 22; refine (HS.out _).mono ?_; rintro e w1 ⟨rfl, hb1⟩; have B1 := Lib.hid (B0.out.trans (hb1.mono B0.out.size)); have K1 := Lib.hid (K0.out.keep hb1 K0.out.lt); clear hb1))
  go_wp2_with (first
    | (go_at_call 23; refine (HP.out _).mono ?_; rintro e w2 ⟨rfl, hb2⟩; have B2 := Lib.hid (B1.out.trans (hb2.mono B1.out.size)); have K2 := Lib.hid (K1.out.keep hb2 K1.out.lt); clear hb2)
    | (refine sto_dg _ D HDL.out _ (Blk.fresh w2 _ _) rfl (by rfl) _ _ (by rfl) (by rfl) (by rfl) ?_; intro w3 hw3; have L3 := Lib.hid (show Blk w3 w2.heap.size 25 (bsC D) by rw [hw3.out]; exact (Blk.fresh w2 _ _).row _); have K3 := Lib.hid (show Blk w3 w.heap.size 24 (bsC D) by rw [hw3.out]; exact (K2.out.more _).far (by have := K2.out.lt; omega) _); have B3 := Lib.hid (show Below w.heap.size w w3 by rw [hw3.out]; exact below_row (B2.out.alloc B2.out.size _) _ B2.out.size _); clear hw3)
    | (go_at_call 13; refine (HK.out _ (hT.below B3.out hp)).mono ?_; rintro e w4 ⟨rfl, hb4⟩; have B4 := Lib.hid (B3.out.trans (hb4.mono B3.out.size)); have K4 := Lib.hid (K3.out.keep hb4 K3.out.lt); have L4 := Lib.hid (L3.out.keep hb4 L3.out.lt); clear hb4))
  refine (HH.out _ _ (HBL.out _ _ _ K4.out)).mono ?_
  rintro e w5 ⟨rfl, hb5⟩
  have B5 := Lib.hid (B4.out.trans (hb5.mono B4.out.size))
  have K5 := Lib.hid (K4.out.keep hb5 K4.out.lt)
  have L5 := Lib.hid (L4.out.keep hb5 L4.out.lt)
  clear hb5
  rename_i K9 hK9
  refine hK9 _ _ ?_
  go_wp2_with (first
    | (refine ld_dg_g _ D HDL.out L5.out (by rfl) _ (by rfl) (by rfl) ?_)
    | (refine ld_a32_g _ D HDL.out K5.out (by rfl) _ (by rfl) (by rfl) ?_))
  go_ret
  exact ⟨rfl, B5.out⟩
end Go.Proofs.YtpkbceelbppleaaDoor
