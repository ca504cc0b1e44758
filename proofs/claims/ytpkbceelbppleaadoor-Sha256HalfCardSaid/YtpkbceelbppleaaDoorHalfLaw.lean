/- The law of SumHalf. (Written by mk_halflaw.py.) -/
import Derived.Test.YtpkbceelbppleaaDoorHalf
import Derived.Test.YtpkbceelbppleaaDoorFrame
import Derived.Test.YtpkbceelbppleaaDoorTextLaw
import Derived.Deep.RegionWith
namespace Go.Proofs.YtpkbceelbppleaaDoor
open Go.RowKit

theorem fresh2 (w : World) (o : Obj) (t : TypeId) (cs : Array Value) : Blk ((w.alloc o).alloc (.cells cs t)) (w.heap.size + 1) t cs := by
  have h := Blk.fresh (w.alloc o) t cs
  have hsz : (w.alloc o).heap.size = w.heap.size + 1 := by simp
  rwa [hsz] at h

set_option maxRecDepth 100000 in
set_option maxHeartbeats 2000000 in
theorem half_law (x : Option Addr) (n c : Nat) (l : List Nat) (hl : l.length = n) (w : World) (hv : Bytes w (.slice x n c) l) (hT : Tab w) :
    Calls Tryd.prog 4 #[.slice x n c] w fun e w' => e = .returned (.bool true) ∧ Below w.heap.size w w' := by
  have hp := hT.1
  have hnm : n ≤ maxLen := by obtain ⟨_, y, cc, e, h1, h2, _⟩ := hv; cases e; omega
  obtain ⟨q, hq⟩ : ∃ q, q = min n 500 := ⟨_, rfl⟩
  have HC := Lib.hid (fun w hv => cut_any x n c l hl w hv q hq hnm)
  have HV0 := Lib.hid hv
  obtain ⟨l2, hl2⟩ : ∃ l2, l2 = l.take q := ⟨_, rfl⟩
  have hv2 : Bytes w (.slice x q c) l2 := by rw [hl2]; exact hv.take q (by omega)
  have hlen2 : l2.length ≤ 500 := by rw [hl2]; simp; omega
  have HV := Lib.hid hv2
  obtain ⟨d, hd, hdl, hdb⟩ := S5.sha_nat l2
  obtain ⟨D, hD⟩ : ∃ D, D = S5.sha S5.K l2 := ⟨_, rfl⟩
  obtain ⟨Hh, hH⟩ : ∃ Hh, Hh = D.take 16 := ⟨_, rfl⟩
  have HS := Lib.hid (fun w hT hv => sum_any (.slice x q c) l2 (by omega) w hT hv)
  have HH := Lib.hid (fun w hT hv => sumHalf_any (.slice x q c) l2 (by omega) w hT hv)
  have HR := Lib.hid (fun w hv => refHalf_any (.slice x q c) l2 (by omega) w hv)
  have HK := Lib.hid (fun w hT => known_any w hT)
  rw [← hD] at HS HR HH
  rw [← hH] at HR HH
  have HDL := Lib.hid (show D.length = 32 by rw [hD]; exact sha_len l2)
  have HHL := Lib.hid (show Hh.length = 16 by rw [hH, List.length_take, HDL.out]; rfl)
  have heq := fun w => eq_same (t := 30) Tryd.underlying30 Hh HHL.out w
  obtain ⟨S, hS⟩ : ∃ S, S = strB (d.take 16) := ⟨_, rfl⟩
  have hd16 : (d.take 16).length = 16 := by rw [List.length_take, hdl]; rfl
  have hHd : Hh = (d.take 16).map fun (x : Nat) => (x : Int) := by rw [hH, hD, hd, List.map_take]
  have HC1 := Lib.hid (show ∀ (W : World) g t, Blk W g t (bsC Hh) → (convert 22 9 (.slice (some ⟨g, 0, none⟩) 16 16)).run Tryd.prog W = .ok (.string S) W from fun W g t h => by
    rw [hS]
    rw [hHd] at h
    exact conv_bytes (bytes_arr (d.take 16) (fun x hx => hdb x (List.mem_of_mem_take hx)) hd16 (by unfold maxLen; omega) h))
  have HC2 := Lib.hid (show ∀ (W : World) g t, Blk W g t (bsC D) → (convert 22 9 (.slice (some ⟨g, 0, none⟩) 16 32)).run Tryd.prog W = .ok (.string S) W from fun W g t h => by
    rw [hS]
    rw [hD, hd] at h
    have hb := bytes_arr d hdb hdl (by unfold maxLen; omega) h
    exact conv_bytes (hb.sub 0 16 (by rw [hdl]; omega)))
  clear hD hlen2 hv2 hl2 hq hnm hv hS hH hd hdl hdb hd16 hHd
  go_enter Tryd.func4, Tryd.ntmps4
  go_wp2_with fail
  refine (HC.out _ HV0.out).mono ?_
  rintro e w1 ⟨rfl, rfl⟩
  go_wp2_with fail
  refine (HS.out _ hT HV.out).mono ?_
  rintro e w2 ⟨rfl, hb2⟩
  have B2 := Lib.hid hb2
  clear hb2
  go_wp2_with fail
  refine (HH.out _ (hT.below B2.out hp) (HV.out.below B2.out)).mono ?_
  rintro e w3 ⟨rfl, hb3⟩
  have B3 := Lib.hid (B2.out.trans (hb3.mono B2.out.size))
  clear hb3
  go_upto_region 3 with (first
    | (refine sto_dg w3.heap.size D HDL.out _ ((Blk.fresh w3 _ _).more _) rfl (by rfl) _ _ (by rfl) (by rfl) (by rfl) ?_; intro w4 hw4; have X4 := Lib.hid (show Blk w4 (w3.heap.size + 1) 31 (bsC z16) by rw [hw4.out]; exact (fresh2 w3 _ _ _).far (by omega) _); have Y4 := Lib.hid (show Blk w4 w3.heap.size 25 (bsC D) by rw [hw4.out]; exact ((Blk.fresh w3 _ _).more _).row _); have B4 := Lib.hid (show Below w.heap.size w w4 by rw [hw4.out]; exact below_row ((B3.out.alloc B3.out.size _).alloc (by have := B3.out.size; simp; omega) _) _ B3.out.size _); clear hw4)
    | (refine sto_bs infoH (w3.heap.size + 1) Hh HHL.out _ X4.out (by rfl) (by rfl) _ _ (by rfl) (by rfl) (by rfl) ?_; intro w5 hw5; have X5 := Lib.hid (show Blk w5 (w3.heap.size + 1) 31 (bsC Hh) by rw [hw5.out]; exact X4.out.row _); have Y5 := Lib.hid (show Blk w5 w3.heap.size 25 (bsC D) by rw [hw5.out]; exact Y4.out.far (by omega) _); have B5 := Lib.hid (show Below w.heap.size w w5 by rw [hw5.out]; exact below_row B4.out _ (by have := B3.out.size; omega) _); clear hw5))
  have o3 : w.heap.size ≤ w3.heap.size := B3.out.size
  clear X4 Y4 B4 B2 B3
  generalize w3.heap.size = g at *
  refine wp_region_any (by kernel_rfl) ?_
  change wpAny _ _ _ _ _ _ _ (World.drew _)
  refine wpAny_ready (rs := [0]) (by kernel_rfl) (by simp) ?_
  refine AllReady.cons rfl (fun K hK => ?_) AllReady.nil
  go_simp
  go_wp2_with (go_at_call 13; refine (HK.out _ (hT.below B5.out.drew hp)).mono ?_; rintro e w6 ⟨rfl, hb6⟩; have B6 := Lib.hid (B5.out.drew.trans (hb6.mono B5.out.drew.size)); have X6 := Lib.hid (X5.out.draw.keep hb6 X5.out.draw.lt); have Y6 := Lib.hid (Y5.out.draw.keep hb6 Y5.out.draw.lt); have hcv1 := HC1.out w6 _ _ X6.out; have hcv2 := HC2.out w6 _ _ Y6.out; clear hb6)
  refine wpAny_take (i := 1) (v := ?_) rfl (by kernel_rfl) (by kernel_rfl) (by kernel_rfl) (fun _ _ _ h => h) (Or.inl ⟨by rfl, ?_⟩) ?_
  rotate_left
  · (intro w9; go_simp; try with_reducible rfl)
  refine wpAny_take (i := 2) (v := ?_) rfl (by kernel_rfl) (by kernel_rfl) (by kernel_rfl) (fun _ _ _ h => h) (Or.inl ⟨by rfl, ?_⟩) ?_
  rotate_left
  · (intro w9; go_simp; try with_reducible rfl)
  refine wpAny_take (i := 4) (v := ?_) rfl (by kernel_rfl) (by kernel_rfl) (by kernel_rfl) (fun _ _ _ h => h) (Or.inl ⟨by rfl, ?_⟩) ?_
  rotate_left
  · (intro w9; go_simp; try with_reducible rfl)
  refine wpAny_ready (rs := [3, 5]) (by kernel_rfl) (by simp) ?_
  refine AllReady.cons rfl (fun K hK => ?_) (AllReady.cons rfl (fun K hK => ?_) AllReady.nil)
  · go_simp
    refine hK _ _ ?_; clear hK K
    refine wpAny_ready (rs := [5]) (by kernel_rfl) (by simp) ?_
    refine AllReady.cons rfl (fun K hK => ?_) AllReady.nil
    go_simp
    refine hK _ _ ?_; clear hK K
    refine wpAny_take (i := 6) (v := ?_) rfl (by kernel_rfl) (by kernel_rfl) (by kernel_rfl) (fun _ _ _ h => h) (Or.inl ⟨by rfl, ?_⟩) ?_
    rotate_left
    · (intro w9; go_simp; try with_reducible rfl)
    refine wpAny_take (i := 7) (v := ?_) rfl (by kernel_rfl) (by kernel_rfl) (by kernel_rfl) (fun _ _ _ h => h) (Or.inl ⟨by rfl, ?_⟩) ?_
    rotate_left
    · (intro w9; go_simp; try with_reducible rfl)
    refine wpAny_take (i := 8) (v := ?_) rfl (by kernel_rfl) (by kernel_rfl) (by kernel_rfl) (fun _ _ _ h => h) (Or.inl ⟨by rfl, ?_⟩) ?_
    rotate_left
    · (intro w9; go_simp; try with_reducible rfl)
    refine wpAny_take (i := 10) (v := ?_) rfl (by kernel_rfl) (by kernel_rfl) (by kernel_rfl) (fun _ _ _ h => h) (Or.inl ⟨by rfl, ?_⟩) ?_
    rotate_left
    · (intro w9; go_simp; try with_reducible rfl)
    refine wpAny_ready (rs := [9, 11]) (by kernel_rfl) (by simp) ?_
    refine AllReady.cons rfl (fun K hK => ?_) (AllReady.cons rfl (fun K hK => ?_) AllReady.nil)
    · refine step_bs Tryd.underlying31 infoH _ Hh HHL.out X6.out (by rfl) _ (by rfl) (by rfl) ?_
      refine hK _ _ ?_; clear hK K
      refine wpAny_ready (rs := [11]) (by kernel_rfl) (by simp) ?_
      refine AllReady.cons rfl (fun K hK => ?_) AllReady.nil
      go_simp
      go_wp2_with (go_at_call 16; refine (HR.out _ (HV.out.below B6.out)).mono ?_; rintro e w7 ⟨rfl, hb7⟩; have B7 := Lib.hid (B6.out.trans (hb7.mono B6.out.size)); have X7 := Lib.hid (X6.out.keep hb7 X6.out.lt); clear hb7)
      refine wpAny_take (i := 12) (v := ?_) rfl (by kernel_rfl) (by kernel_rfl) (by kernel_rfl) (fun _ _ _ h => h) (Or.inl ⟨by rfl, ?_⟩) ?_
      rotate_left
      · (intro w9; go_simp; try with_reducible rfl)
      refine wpAny_take (i := 13) (v := ?_) rfl (by kernel_rfl) (by kernel_rfl) (by kernel_rfl) (fun _ _ _ h => h) (Or.inl ⟨by rfl, ?_⟩) ?_
      rotate_left
      · (intro w9; go_simp; try with_reducible rfl)
      refine wpAny_take (i := 14) (v := ?_) rfl (by kernel_rfl) (by kernel_rfl) (by kernel_rfl) (fun _ _ _ h => h) (Or.inl ⟨by rfl, ?_⟩) ?_
      rotate_left
      · (intro w9; go_simp; try with_reducible rfl)
      refine wpAny_done (by kernel_rfl) ?_ _
      go_wp2_with fail
      go_ret
      exact ⟨rfl, B7.out⟩
    · go_simp
      go_wp2_with (go_at_call 16; refine (HR.out _ (HV.out.below B6.out)).mono ?_; rintro e w7 ⟨rfl, hb7⟩; have B7 := Lib.hid (B6.out.trans (hb7.mono B6.out.size)); have X7 := Lib.hid (X6.out.keep hb7 X6.out.lt); clear hb7)
      refine wpAny_ready (rs := [9]) (by kernel_rfl) (by simp) ?_
      refine AllReady.cons rfl (fun K hK => ?_) AllReady.nil
      refine step_bs Tryd.underlying31 infoH _ Hh HHL.out X7.out (by rfl) _ (by rfl) (by rfl) ?_
      refine hK _ _ ?_; clear hK K
      refine wpAny_take (i := 12) (v := ?_) rfl (by kernel_rfl) (by kernel_rfl) (by kernel_rfl) (fun _ _ _ h => h) (Or.inl ⟨by rfl, ?_⟩) ?_
      rotate_left
      · (intro w9; go_simp; try with_reducible rfl)
      refine wpAny_take (i := 13) (v := ?_) rfl (by kernel_rfl) (by kernel_rfl) (by kernel_rfl) (fun _ _ _ h => h) (Or.inl ⟨by rfl, ?_⟩) ?_
      rotate_left
      · (intro w9; go_simp; try with_reducible rfl)
      refine wpAny_take (i := 14) (v := ?_) rfl (by kernel_rfl) (by kernel_rfl) (by kernel_rfl) (fun _ _ _ h => h) (Or.inl ⟨by rfl, ?_⟩) ?_
      rotate_left
      · (intro w9; go_simp; try with_reducible rfl)
      refine wpAny_done (by kernel_rfl) ?_ _
      go_wp2_with fail
      go_ret
      exact ⟨rfl, B7.out⟩
  · go_simp
    refine hK _ _ ?_; clear hK K
    refine wpAny_ready (rs := [3]) (by kernel_rfl) (by simp) ?_
    refine AllReady.cons rfl (fun K hK => ?_) AllReady.nil
    go_simp
    refine hK _ _ ?_; clear hK K
    refine wpAny_take (i := 6) (v := ?_) rfl (by kernel_rfl) (by kernel_rfl) (by kernel_rfl) (fun _ _ _ h => h) (Or.inl ⟨by rfl, ?_⟩) ?_
    rotate_left
    · (intro w9; go_simp; try with_reducible rfl)
    refine wpAny_take (i := 7) (v := ?_) rfl (by kernel_rfl) (by kernel_rfl) (by kernel_rfl) (fun _ _ _ h => h) (Or.inl ⟨by rfl, ?_⟩) ?_
    rotate_left
    · (intro w9; go_simp; try with_reducible rfl)
    refine wpAny_take (i := 8) (v := ?_) rfl (by kernel_rfl) (by kernel_rfl) (by kernel_rfl) (fun _ _ _ h => h) (Or.inl ⟨by rfl, ?_⟩) ?_
    rotate_left
    · (intro w9; go_simp; try with_reducible rfl)
    refine wpAny_take (i := 10) (v := ?_) rfl (by kernel_rfl) (by kernel_rfl) (by kernel_rfl) (fun _ _ _ h => h) (Or.inl ⟨by rfl, ?_⟩) ?_
    rotate_left
    · (intro w9; go_simp; try with_reducible rfl)
    refine wpAny_ready (rs := [9, 11]) (by kernel_rfl) (by simp) ?_
    refine AllReady.cons rfl (fun K hK => ?_) (AllReady.cons rfl (fun K hK => ?_) AllReady.nil)
    · refine step_bs Tryd.underlying31 infoH _ Hh HHL.out X6.out (by rfl) _ (by rfl) (by rfl) ?_
      refine hK _ _ ?_; clear hK K
      refine wpAny_ready (rs := [11]) (by kernel_rfl) (by simp) ?_
      refine AllReady.cons rfl (fun K hK => ?_) AllReady.nil
      go_simp
      go_wp2_with (go_at_call 16; refine (HR.out _ (HV.out.below B6.out)).mono ?_; rintro e w7 ⟨rfl, hb7⟩; have B7 := Lib.hid (B6.out.trans (hb7.mono B6.out.size)); have X7 := Lib.hid (X6.out.keep hb7 X6.out.lt); clear hb7)
      refine wpAny_take (i := 12) (v := ?_) rfl (by kernel_rfl) (by kernel_rfl) (by kernel_rfl) (fun _ _ _ h => h) (Or.inl ⟨by rfl, ?_⟩) ?_
      rotate_left
      · (intro w9; go_simp; try with_reducible rfl)
      refine wpAny_take (i := 13) (v := ?_) rfl (by kernel_rfl) (by kernel_rfl) (by kernel_rfl) (fun _ _ _ h => h) (Or.inl ⟨by rfl, ?_⟩) ?_
      rotate_left
      · (intro w9; go_simp; try with_reducible rfl)
      refine wpAny_take (i := 14) (v := ?_) rfl (by kernel_rfl) (by kernel_rfl) (by kernel_rfl) (fun _ _ _ h => h) (Or.inl ⟨by rfl, ?_⟩) ?_
      rotate_left
      · (intro w9; go_simp; try with_reducible rfl)
      refine wpAny_done (by kernel_rfl) ?_ _
      go_wp2_with fail
      go_ret
      exact ⟨rfl, B7.out⟩
    · go_simp
      go_wp2_with (go_at_call 16; refine (HR.out _ (HV.out.below B6.out)).mono ?_; rintro e w7 ⟨rfl, hb7⟩; have B7 := Lib.hid (B6.out.trans (hb7.mono B6.out.size)); have X7 := Lib.hid (X6.out.keep hb7 X6.out.lt); clear hb7)
      refine wpAny_ready (rs := [9]) (by kernel_rfl) (by simp) ?_
      refine AllReady.cons rfl (fun K hK => ?_) AllReady.nil
      refine step_bs Tryd.underlying31 infoH _ Hh HHL.out X7.out (by rfl) _ (by rfl) (by rfl) ?_
      refine hK _ _ ?_; clear hK K
      refine wpAny_take (i := 12) (v := ?_) rfl (by kernel_rfl) (by kernel_rfl) (by kernel_rfl) (fun _ _ _ h => h) (Or.inl ⟨by rfl, ?_⟩) ?_
      rotate_left
      · (intro w9; go_simp; try with_reducible rfl)
      refine wpAny_take (i := 13) (v := ?_) rfl (by kernel_rfl) (by kernel_rfl) (by kernel_rfl) (fun _ _ _ h => h) (Or.inl ⟨by rfl, ?_⟩) ?_
      rotate_left
      · (intro w9; go_simp; try with_reducible rfl)
      refine wpAny_take (i := 14) (v := ?_) rfl (by kernel_rfl) (by kernel_rfl) (by kernel_rfl) (fun _ _ _ h => h) (Or.inl ⟨by rfl, ?_⟩) ?_
      rotate_left
      · (intro w9; go_simp; try with_reducible rfl)
      refine wpAny_done (by kernel_rfl) ?_ _
      go_wp2_with fail
      go_ret
      exact ⟨rfl, B7.out⟩
end Go.Proofs.YtpkbceelbppleaaDoor
