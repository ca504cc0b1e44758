/- OnetimeDigits: whatever digests come in, the law's call returns true and its arguments read as before; the table of constants reads as the program's text lays it (the card ties it).
   Conditions: none beyond the row's own. -/
import Derived.Test.YtgfolgmheinbiaaDoorRRRFrame
namespace Go.Proofs.YtgfolgmheinbiaaDoorRRR.onetimeDigitsLaw
open Go.ChangeShapes Go.WideShapes Go.ChangeAt Go.RowKit
open Go.ChangeMaps (open_string shut_string)

set_option maxRecDepth 100000 in
set_option maxHeartbeats 8000000 in
theorem walk (a b : List Nat) (ha : a.length = 16) (hb : b.length = 16) (hab : ∀ x ∈ a, x < 256) (hbb : ∀ x ∈ b, x < 256) (w : World) (hT : Tab w) :
    Calls Tryd.prog 3 #[.agg (bsC (nI a)), .agg (bsC (nI b))] w fun e w' => e = .returned (.bool true) ∧ Below w.heap.size w w' := by
  have hp := hT.1
  have HK := Lib.hid (fun w hT => known_any w hT)
  have HL := Lib.hid (fun w => lower_any a b ha hb hab hbb w)
  have HR := Lib.hid (fun w => rLower_any a b ha hb hab hbb w)
  have HSA := Lib.hid (fun w => split_any a ha hab w)
  have HRA := Lib.hid (fun w => rSplit_any a ha hab w)
  have HSB := Lib.hid (fun w => split_any b hb hbb w)
  have HRB := Lib.hid (fun w => rSplit_any b hb hbb w)
  obtain ⟨A, hA⟩ : ∃ A, A = nI a := ⟨_, rfl⟩
  obtain ⟨B, hB⟩ : ∃ B, B = nI b := ⟨_, rfl⟩
  have HAL := Lib.hid (show A.length = 16 by rw [hA, nI_len, ha])
  have HBL := Lib.hid (show B.length = 16 by rw [hB, nI_len, hb])
  rw [← hA] at HL HR HSA HRA
  rw [← hB] at HL HR HSB HRB
  rw [← hA, ← hB]
  have hx : (nI (S7.split a)).length = 35 := by rw [nI_len, S7.split_len a ha]
  have hy : (nI (S7.split b)).length = 35 := by rw [nI_len, S7.split_len b hb]
  obtain ⟨r, hr⟩ : ∃ r, r = S7.low (S7.split a) (S7.split b) := ⟨_, rfl⟩
  rw [← hr] at HL HR
  generalize nI (S7.split a) = X at *
  generalize nI (S7.split b) = Y at *
  have heqX := fun w => eq_same_ks (t := 27) Tryd.underlying27 X hx w
  have heqY := fun w => eq_same_ks (t := 27) Tryd.underlying27 Y hy w
  clear hA hB ha hb hab hbb hx hy hr
  cases r with
  | none =>
    have HL := Lib.hid (show ∀ w, Calls Tryd.prog 12 #[.agg (bsC A), .agg (bsC B)] w fun e w' => e = .returned (.tuple #[.int .i64 0, .bool false]) ∧ Below w.heap.size w w' from HL.out)
    have HR := Lib.hid (show ∀ w, Calls Tryd.prog 13 #[.agg (bsC A), .agg (bsC B)] w fun e w' => e = .returned (.int .i64 (-1)) ∧ Below w.heap.size w w' from HR.out)
    go_enter Tryd.func3, Tryd.ntmps3
    go_upto_region 1 with (fail)
    change Code.wp Tryd.prog _ _ _ ((w.alloc (.cells (bsC A) 22)).alloc (.cells (bsC B) 22))
    generalize hW0 : (w.alloc (.cells (bsC A) 22)).alloc (.cells (bsC B) 22) = W0
    obtain ⟨hb1, hb2, hB0⟩ := boxes2 w hW0
    have K1 := Lib.hid hb1; have K2 := Lib.hid hb2; have B0 := Lib.hid hB0
    clear hW0 hb1 hb2 hB0
    go_upto_region 2 with (first
      | (refine ld_bs Tryd.underlying22 info16u w.heap.size A HAL.out K1.out (by rfl) (.tmp 2) (by rfl) (by rfl) ?_)
      | (refine ld_bs Tryd.underlying22 info16u (w.heap.size + 1) B HBL.out K2.out (by rfl) (.tmp 3) (by rfl) (by rfl) ?_)
      | (go_at_call 12; refine (HL.out _).mono ?_; rintro e w1 ⟨rfl, hb⟩; have K1_1 := Lib.hid (K1.out.keep hb K1.out.lt); have K2_1 := Lib.hid (K2.out.keep hb K2.out.lt); have B_1 := Lib.hid (B0.out.trans (hb.mono B0.out.size)); clear hb))
    go_upto_region 3 with (first
      | (refine ld_bs Tryd.underlying22 info16u w.heap.size A HAL.out K1_1.out (by rfl) (.tmp 2) (by rfl) (by rfl) ?_)
      | (refine ld_bs Tryd.underlying22 info16u (w.heap.size + 1) B HBL.out K2_1.out (by rfl) (.tmp 3) (by rfl) (by rfl) ?_)
      | (go_at_call 13; refine (HR.out _).mono ?_; rintro e w2 ⟨rfl, hb⟩; have K1_2 := Lib.hid (K1_1.out.keep hb K1_1.out.lt); have K2_2 := Lib.hid (K2_1.out.keep hb K2_1.out.lt); have B_2 := Lib.hid (B_1.out.trans (hb.mono B_1.out.size)); clear hb))
    have K1_20 := Lib.hid K1_2.out.draw; have K2_20 := Lib.hid K2_2.out.draw; have B_20 := Lib.hid B_2.out.drew
    refine wp_region_held_drew (S := (fun W => Blk W w.heap.size 22 (bsC A) ∧ Blk W (w.heap.size + 1) 22 (bsC B))) (by kernel_rfl) ?_ (fun hHeld => ?_)
    · exact ⟨K1_20.out, K2_20.out⟩
    refine wpAnyH_ready (rs := [0]) (by kernel_rfl) (by simp) ?_
    refine AllReadyH.cons rfl (fun K hK => ?_) AllReadyH.nil
    go_simp
    refine (HK.out _ (hT.below B_20.out hp)).mono ?_
    rintro e w21 ⟨rfl, hb⟩
    have K1_21 := Lib.hid (K1_20.out.keep hb K1_20.out.lt)
    have K2_21 := Lib.hid (K2_20.out.keep hb K2_20.out.lt)
    have B_21 := Lib.hid (B_20.out.trans (hb.mono B_20.out.size))
    clear hb
    refine hK.out _ _ ⟨K1_21.out, K2_21.out⟩ (fun hHeld => ?_)
    clear hK K
    refine wpAnyH_take (i := 1) (v := ?_) rfl (by kernel_rfl) (by kernel_rfl) (by kernel_rfl) (fun _ _ _ h => h) (Or.inl ⟨by rfl, ?_⟩) (by assumption) ?_
    rotate_left
    · (intro w9 _; go_simp; try with_reducible rfl)
    simp only [Act.put, List.getElem_toArray, List.getElem_cons_succ, List.getElem_cons_zero, List.setIfInBounds_toArray, List.set_cons_succ, List.set_cons_zero]
    refine wpAnyH_take (i := 2) (v := .agg (bsC A)) rfl (by kernel_rfl) (by kernel_rfl) (by kernel_rfl) (fun _ _ _ h => h) (yl_bs Tryd.underlying22 info16u _ _ HAL.out (fun _ h => h.1) (by rfl) _ rfl rfl) (by assumption) ?_
    simp only [Act.put, List.getElem_toArray, List.getElem_cons_succ, List.getElem_cons_zero, List.setIfInBounds_toArray, List.set_cons_succ, List.set_cons_zero]
    refine wpAnyH_take (i := 4) (v := .agg (bsC A)) rfl (by kernel_rfl) (by kernel_rfl) (by kernel_rfl) (fun _ _ _ h => h) (yl_bs Tryd.underlying22 info16u _ _ HAL.out (fun _ h => h.1) (by rfl) _ rfl rfl) (by assumption) ?_
    simp only [Act.put, List.getElem_toArray, List.getElem_cons_succ, List.getElem_cons_zero, List.setIfInBounds_toArray, List.set_cons_succ, List.set_cons_zero]
    refine wpAnyH_ready (rs := [3]) (by kernel_rfl) (by simp) ?_
    refine AllReadyH.cons rfl (fun K hK => ?_) AllReadyH.nil
    go_simp
    refine (HSA.out _).mono ?_
    rintro e w22 ⟨rfl, hb⟩
    have K1_22 := Lib.hid (K1_21.out.keep hb K1_21.out.lt)
    have K2_22 := Lib.hid (K2_21.out.keep hb K2_21.out.lt)
    have B_22 := Lib.hid (B_21.out.trans (hb.mono B_21.out.size))
    clear hb
    refine hK.out _ _ ⟨K1_22.out, K2_22.out⟩ (fun hHeld => ?_)
    clear hK K
    refine wpAnyH_ready (rs := [5]) (by kernel_rfl) (by simp) ?_
    refine AllReadyH.cons rfl (fun K hK => ?_) AllReadyH.nil
    go_simp
    refine (HRA.out _).mono ?_
    rintro e w23 ⟨rfl, hb⟩
    have K1_23 := Lib.hid (K1_22.out.keep hb K1_22.out.lt)
    have K2_23 := Lib.hid (K2_22.out.keep hb K2_22.out.lt)
    have B_23 := Lib.hid (B_22.out.trans (hb.mono B_22.out.size))
    clear hb
    refine hK.out _ _ ⟨K1_23.out, K2_23.out⟩ (fun hHeld => ?_)
    clear hK K
    refine wpAnyH_take (i := 6) (v := ?_) rfl (by kernel_rfl) (by kernel_rfl) (by kernel_rfl) (fun _ _ _ h => h) (Or.inl ⟨by rfl, ?_⟩) (by assumption) ?_
    rotate_left
    · (intro w9 _; go_simp; try with_reducible rfl)
    simp only [Act.put, List.getElem_toArray, List.getElem_cons_succ, List.getElem_cons_zero, List.setIfInBounds_toArray, List.set_cons_succ, List.set_cons_zero]
    refine wpAnyH_take (i := 7) (v := ?_) rfl (by kernel_rfl) (by kernel_rfl) (by kernel_rfl) (fun _ _ _ h => h) (Or.inl ⟨by rfl, ?_⟩) (by assumption) ?_
    rotate_left
    · (intro w9 _; go_simp; try with_reducible rfl)
    simp only [Act.put, List.getElem_toArray, List.getElem_cons_succ, List.getElem_cons_zero, List.setIfInBounds_toArray, List.set_cons_succ, List.set_cons_zero]
    refine wpAnyH_take (i := 8) (v := ?_) rfl (by kernel_rfl) (by kernel_rfl) (by kernel_rfl) (fun _ _ _ h => h) (Or.inl ⟨by rfl, ?_⟩) (by assumption) ?_
    rotate_left
    · (intro w9 _; go_simp; try with_reducible rfl)
    simp only [Act.put, List.getElem_toArray, List.getElem_cons_succ, List.getElem_cons_zero, List.setIfInBounds_toArray, List.set_cons_succ, List.set_cons_zero]
    refine wpAnyH_take (i := 9) (v := .agg (bsC B)) rfl (by kernel_rfl) (by kernel_rfl) (by kernel_rfl) (fun _ _ _ h => h) (yl_bs Tryd.underlying22 info16u _ _ HBL.out (fun _ h => h.2) (by rfl) _ rfl rfl) (by assumption) ?_
    simp only [Act.put, List.getElem_toArray, List.getElem_cons_succ, List.getElem_cons_zero, List.setIfInBounds_toArray, List.set_cons_succ, List.set_cons_zero]
    refine wpAnyH_take (i := 11) (v := .agg (bsC B)) rfl (by kernel_rfl) (by kernel_rfl) (by kernel_rfl) (fun _ _ _ h => h) (yl_bs Tryd.underlying22 info16u _ _ HBL.out (fun _ h => h.2) (by rfl) _ rfl rfl) (by assumption) ?_
    simp only [Act.put, List.getElem_toArray, List.getElem_cons_succ, List.getElem_cons_zero, List.setIfInBounds_toArray, List.set_cons_succ, List.set_cons_zero]
    refine wpAnyH_ready (rs := [10]) (by kernel_rfl) (by simp) ?_
    refine AllReadyH.cons rfl (fun K hK => ?_) AllReadyH.nil
    go_simp
    refine (HSB.out _).mono ?_
    rintro e w24 ⟨rfl, hb⟩
    have K1_24 := Lib.hid (K1_23.out.keep hb K1_23.out.lt)
    have K2_24 := Lib.hid (K2_23.out.keep hb K2_23.out.lt)
    have B_24 := Lib.hid (B_23.out.trans (hb.mono B_23.out.size))
    clear hb
    refine hK.out _ _ ⟨K1_24.out, K2_24.out⟩ (fun hHeld => ?_)
    clear hK K
    refine wpAnyH_ready (rs := [12]) (by kernel_rfl) (by simp) ?_
    refine AllReadyH.cons rfl (fun K hK => ?_) AllReadyH.nil
    go_simp
    refine (HRB.out _).mono ?_
    rintro e w25 ⟨rfl, hb⟩
    have K1_25 := Lib.hid (K1_24.out.keep hb K1_24.out.lt)
    have K2_25 := Lib.hid (K2_24.out.keep hb K2_24.out.lt)
    have B_25 := Lib.hid (B_24.out.trans (hb.mono B_24.out.size))
    clear hb
    refine hK.out _ _ ⟨K1_25.out, K2_25.out⟩ (fun hHeld => ?_)
    clear hK K
    refine wpAnyH_take (i := 13) (v := ?_) rfl (by kernel_rfl) (by kernel_rfl) (by kernel_rfl) (fun _ _ _ h => h) (Or.inl ⟨by rfl, ?_⟩) (by assumption) ?_
    rotate_left
    · (intro w9 _; go_simp; try with_reducible rfl)
    simp only [Act.put, List.getElem_toArray, List.getElem_cons_succ, List.getElem_cons_zero, List.setIfInBounds_toArray, List.set_cons_succ, List.set_cons_zero]
    refine wpAnyH_take (i := 14) (v := ?_) rfl (by kernel_rfl) (by kernel_rfl) (by kernel_rfl) (fun _ _ _ h => h) (Or.inl ⟨by rfl, ?_⟩) (by assumption) ?_
    rotate_left
    · (intro w9 _; go_simp; try with_reducible rfl)
    simp only [Act.put, List.getElem_toArray, List.getElem_cons_succ, List.getElem_cons_zero, List.setIfInBounds_toArray, List.set_cons_succ, List.set_cons_zero]
    refine wpAnyH_take (i := 15) (v := ?_) rfl (by kernel_rfl) (by kernel_rfl) (by kernel_rfl) (fun _ _ _ h => h) (Or.inl ⟨by rfl, ?_⟩) (by assumption) ?_
    rotate_left
    · (intro w9 _; go_simp; try with_reducible rfl)
    simp only [Act.put, List.getElem_toArray, List.getElem_cons_succ, List.getElem_cons_zero, List.setIfInBounds_toArray, List.set_cons_succ, List.set_cons_zero]
    refine wpAnyH_take (i := 16) (v := ?_) rfl (by kernel_rfl) (by kernel_rfl) (by kernel_rfl) (fun _ _ _ h => h) (Or.inl ⟨by rfl, ?_⟩) (by assumption) ?_
    rotate_left
    · (intro w9 _; go_simp; try with_reducible rfl)
    simp only [Act.put, List.getElem_toArray, List.getElem_cons_succ, List.getElem_cons_zero, List.setIfInBounds_toArray, List.set_cons_succ, List.set_cons_zero]
    refine wpAnyH_take (i := 17) (v := ?_) rfl (by kernel_rfl) (by kernel_rfl) (by kernel_rfl) (fun _ _ _ h => h) (Or.inl ⟨by rfl, ?_⟩) (by assumption) ?_
    rotate_left
    · (intro w9 _; go_simp; try with_reducible rfl)
    simp only [Act.put, List.getElem_toArray, List.getElem_cons_succ, List.getElem_cons_zero, List.setIfInBounds_toArray, List.set_cons_succ, List.set_cons_zero]
    refine wpAnyH_take (i := 18) (v := ?_) rfl (by kernel_rfl) (by kernel_rfl) (by kernel_rfl) (fun _ _ _ h => h) (Or.inl ⟨by rfl, ?_⟩) (by assumption) ?_
    rotate_left
    · (intro w9 _; go_simp; try with_reducible rfl)
    simp only [Act.put, List.getElem_toArray, List.getElem_cons_succ, List.getElem_cons_zero, List.setIfInBounds_toArray, List.set_cons_succ, List.set_cons_zero]
    refine wpAnyH_take (i := 19) (v := ?_) rfl (by kernel_rfl) (by kernel_rfl) (by kernel_rfl) (fun _ _ _ h => h) (Or.inl ⟨by rfl, ?_⟩) (by assumption) ?_
    rotate_left
    · (intro w9 _; go_simp; try with_reducible rfl)
    simp only [Act.put, List.getElem_toArray, List.getElem_cons_succ, List.getElem_cons_zero, List.setIfInBounds_toArray, List.set_cons_succ, List.set_cons_zero]
    refine wpAnyH_take (i := 20) (v := ?_) rfl (by kernel_rfl) (by kernel_rfl) (by kernel_rfl) (fun _ _ _ h => h) (Or.inl ⟨by rfl, ?_⟩) (by assumption) ?_
    rotate_left
    · (intro w9 _; go_simp; try with_reducible rfl)
    simp only [Act.put, List.getElem_toArray, List.getElem_cons_succ, List.getElem_cons_zero, List.setIfInBounds_toArray, List.set_cons_succ, List.set_cons_zero]
    refine wpAnyH_take (i := 21) (v := ?_) rfl (by kernel_rfl) (by kernel_rfl) (by kernel_rfl) (fun _ _ _ h => h) (Or.inl ⟨by rfl, ?_⟩) (by assumption) ?_
    rotate_left
    · (intro w9 _; go_simp; try with_reducible rfl)
    simp only [Act.put, List.getElem_toArray, List.getElem_cons_succ, List.getElem_cons_zero, List.setIfInBounds_toArray, List.set_cons_succ, List.set_cons_zero]
    refine wpAnyH_take (i := 22) (v := ?_) rfl (by kernel_rfl) (by kernel_rfl) (by kernel_rfl) (fun _ _ _ h => h) (Or.inl ⟨by rfl, ?_⟩) (by assumption) ?_
    rotate_left
    · (intro w9 _; go_simp; try with_reducible rfl)
    simp only [Act.put, List.getElem_toArray, List.getElem_cons_succ, List.getElem_cons_zero, List.setIfInBounds_toArray, List.set_cons_succ, List.set_cons_zero]
    refine wpAnyH_take (i := 23) (v := ?_) rfl (by kernel_rfl) (by kernel_rfl) (by kernel_rfl) (fun _ _ _ h => h) (Or.inl ⟨by rfl, ?_⟩) (by assumption) ?_
    rotate_left
    · (intro w9 _; go_simp; try with_reducible rfl)
    simp only [Act.put, List.getElem_toArray, List.getElem_cons_succ, List.getElem_cons_zero, List.setIfInBounds_toArray, List.set_cons_succ, List.set_cons_zero]
    refine wpAnyH_ready (rs := [24]) (by kernel_rfl) (by simp) ?_
    refine AllReadyH.cons rfl (fun K hK => ?_) AllReadyH.nil
    go_simp
    refine hK.out _ _ ⟨K1_25.out, K2_25.out⟩ (fun hHeld => ?_)
    clear hK K
    refine wpAnyH_take (i := 25) (v := ?_) rfl (by kernel_rfl) (by kernel_rfl) (by kernel_rfl) (fun _ _ _ h => h) (Or.inl ⟨by rfl, ?_⟩) (by assumption) ?_
    rotate_left
    · (intro w9 _; go_simp; try with_reducible rfl)
    simp only [Act.put, List.getElem_toArray, List.getElem_cons_succ, List.getElem_cons_zero, List.setIfInBounds_toArray, List.set_cons_succ, List.set_cons_zero]
    refine wpAnyH_take (i := 26) (v := ?_) rfl (by kernel_rfl) (by kernel_rfl) (by kernel_rfl) (fun _ _ _ h => h) (Or.inl ⟨by rfl, ?_⟩) (by assumption) ?_
    rotate_left
    · (intro w9 _; go_simp; try with_reducible rfl)
    simp only [Act.put, List.getElem_toArray, List.getElem_cons_succ, List.getElem_cons_zero, List.setIfInBounds_toArray, List.set_cons_succ, List.set_cons_zero]
    refine wpAnyH_take (i := 27) (v := ?_) rfl (by kernel_rfl) (by kernel_rfl) (by kernel_rfl) (fun _ _ _ h => h) (Or.inl ⟨by rfl, ?_⟩) (by assumption) ?_
    rotate_left
    · (intro w9 _; go_simp; try with_reducible rfl)
    simp only [Act.put, List.getElem_toArray, List.getElem_cons_succ, List.getElem_cons_zero, List.setIfInBounds_toArray, List.set_cons_succ, List.set_cons_zero]
    refine wpAnyH_done (by kernel_rfl) ?_ _
    go_wp2_with fail
    go_ret
    exact ⟨rfl, B_25.out⟩
  | some i =>
    have HL := Lib.hid (show ∀ w, Calls Tryd.prog 12 #[.agg (bsC A), .agg (bsC B)] w fun e w' => e = .returned (.tuple #[.int .i64 (i : Int), .bool true]) ∧ Below w.heap.size w w' from HL.out)
    have HR := Lib.hid (show ∀ w, Calls Tryd.prog 13 #[.agg (bsC A), .agg (bsC B)] w fun e w' => e = .returned (.int .i64 (i : Int)) ∧ Below w.heap.size w w' from HR.out)
    have hi0 : (0 : Int) ≤ (i : Int) := by omega
    have him : max (i : Int) 0 = (i : Int) := by omega
    go_enter Tryd.func3, Tryd.ntmps3
    go_upto_region 1 with (fail)
    change Code.wp Tryd.prog _ _ _ ((w.alloc (.cells (bsC A) 22)).alloc (.cells (bsC B) 22))
    generalize hW0 : (w.alloc (.cells (bsC A) 22)).alloc (.cells (bsC B) 22) = W0
    obtain ⟨hb1, hb2, hB0⟩ := boxes2 w hW0
    have K1 := Lib.hid hb1; have K2 := Lib.hid hb2; have B0 := Lib.hid hB0
    clear hW0 hb1 hb2 hB0
    go_upto_region 2 with (first
      | (refine ld_bs Tryd.underlying22 info16u w.heap.size A HAL.out K1.out (by rfl) (.tmp 2) (by rfl) (by rfl) ?_)
      | (refine ld_bs Tryd.underlying22 info16u (w.heap.size + 1) B HBL.out K2.out (by rfl) (.tmp 3) (by rfl) (by rfl) ?_)
      | (go_at_call 12; refine (HL.out _).mono ?_; rintro e w1 ⟨rfl, hb⟩; have K1_1 := Lib.hid (K1.out.keep hb K1.out.lt); have K2_1 := Lib.hid (K2.out.keep hb K2.out.lt); have B_1 := Lib.hid (B0.out.trans (hb.mono B0.out.size)); clear hb))
    go_upto_region 3 with (first
      | (refine ld_bs Tryd.underlying22 info16u w.heap.size A HAL.out K1_1.out (by rfl) (.tmp 2) (by rfl) (by rfl) ?_)
      | (refine ld_bs Tryd.underlying22 info16u (w.heap.size + 1) B HBL.out K2_1.out (by rfl) (.tmp 3) (by rfl) (by rfl) ?_)
      | (go_at_call 13; refine (HR.out _).mono ?_; rintro e w2 ⟨rfl, hb⟩; have K1_2 := Lib.hid (K1_1.out.keep hb K1_1.out.lt); have K2_2 := Lib.hid (K2_1.out.keep hb K2_1.out.lt); have B_2 := Lib.hid (B_1.out.trans (hb.mono B_1.out.size)); clear hb))
    have K1_20 := Lib.hid K1_2.out.draw; have K2_20 := Lib.hid K2_2.out.draw; have B_20 := Lib.hid B_2.out.drew
    refine wp_region_held_drew (S := (fun W => Blk W w.heap.size 22 (bsC A) ∧ Blk W (w.heap.size + 1) 22 (bsC B))) (by kernel_rfl) ?_ (fun hHeld => ?_)
    · exact ⟨K1_20.out, K2_20.out⟩
    refine wpAnyH_ready (rs := [0]) (by kernel_rfl) (by simp) ?_
    refine AllReadyH.cons rfl (fun K hK => ?_) AllReadyH.nil
    go_simp
    refine (HK.out _ (hT.below B_20.out hp)).mono ?_
    rintro e w21 ⟨rfl, hb⟩
    have K1_21 := Lib.hid (K1_20.out.keep hb K1_20.out.lt)
    have K2_21 := Lib.hid (K2_20.out.keep hb K2_20.out.lt)
    have B_21 := Lib.hid (B_20.out.trans (hb.mono B_20.out.size))
    clear hb
    refine hK.out _ _ ⟨K1_21.out, K2_21.out⟩ (fun hHeld => ?_)
    clear hK K
    refine wpAnyH_take (i := 1) (v := ?_) rfl (by kernel_rfl) (by kernel_rfl) (by kernel_rfl) (fun _ _ _ h => h) (Or.inl ⟨by rfl, ?_⟩) (by assumption) ?_
    rotate_left
    · (intro w9 _; go_simp; try with_reducible rfl)
    simp only [Act.put, List.getElem_toArray, List.getElem_cons_succ, List.getElem_cons_zero, List.setIfInBounds_toArray, List.set_cons_succ, List.set_cons_zero]
    refine wpAnyH_take (i := 2) (v := .agg (bsC A)) rfl (by kernel_rfl) (by kernel_rfl) (by kernel_rfl) (fun _ _ _ h => h) (yl_bs Tryd.underlying22 info16u _ _ HAL.out (fun _ h => h.1) (by rfl) _ rfl rfl) (by assumption) ?_
    simp only [Act.put, List.getElem_toArray, List.getElem_cons_succ, List.getElem_cons_zero, List.setIfInBounds_toArray, List.set_cons_succ, List.set_cons_zero]
    refine wpAnyH_take (i := 4) (v := .agg (bsC A)) rfl (by kernel_rfl) (by kernel_rfl) (by kernel_rfl) (fun _ _ _ h => h) (yl_bs Tryd.underlying22 info16u _ _ HAL.out (fun _ h => h.1) (by rfl) _ rfl rfl) (by assumption) ?_
    simp only [Act.put, List.getElem_toArray, List.getElem_cons_succ, List.getElem_cons_zero, List.setIfInBounds_toArray, List.set_cons_succ, List.set_cons_zero]
    refine wpAnyH_ready (rs := [3]) (by kernel_rfl) (by simp) ?_
    refine AllReadyH.cons rfl (fun K hK => ?_) AllReadyH.nil
    go_simp
    refine (HSA.out _).mono ?_
    rintro e w22 ⟨rfl, hb⟩
    have K1_22 := Lib.hid (K1_21.out.keep hb K1_21.out.lt)
    have K2_22 := Lib.hid (K2_21.out.keep hb K2_21.out.lt)
    have B_22 := Lib.hid (B_21.out.trans (hb.mono B_21.out.size))
    clear hb
    refine hK.out _ _ ⟨K1_22.out, K2_22.out⟩ (fun hHeld => ?_)
    clear hK K
    refine wpAnyH_ready (rs := [5]) (by kernel_rfl) (by simp) ?_
    refine AllReadyH.cons rfl (fun K hK => ?_) AllReadyH.nil
    go_simp
    refine (HRA.out _).mono ?_
    rintro e w23 ⟨rfl, hb⟩
    have K1_23 := Lib.hid (K1_22.out.keep hb K1_22.out.lt)
    have K2_23 := Lib.hid (K2_22.out.keep hb K2_22.out.lt)
    have B_23 := Lib.hid (B_22.out.trans (hb.mono B_22.out.size))
    clear hb
    refine hK.out _ _ ⟨K1_23.out, K2_23.out⟩ (fun hHeld => ?_)
    clear hK K
    refine wpAnyH_take (i := 6) (v := ?_) rfl (by kernel_rfl) (by kernel_rfl) (by kernel_rfl) (fun _ _ _ h => h) (Or.inl ⟨by rfl, ?_⟩) (by assumption) ?_
    rotate_left
    · (intro w9 _; go_simp; try with_reducible rfl)
    simp only [Act.put, List.getElem_toArray, List.getElem_cons_succ, List.getElem_cons_zero, List.setIfInBounds_toArray, List.set_cons_succ, List.set_cons_zero]
    refine wpAnyH_take (i := 7) (v := ?_) rfl (by kernel_rfl) (by kernel_rfl) (by kernel_rfl) (fun _ _ _ h => h) (Or.inl ⟨by rfl, ?_⟩) (by assumption) ?_
    rotate_left
    · (intro w9 _; go_simp; try with_reducible rfl)
    simp only [Act.put, List.getElem_toArray, List.getElem_cons_succ, List.getElem_cons_zero, List.setIfInBounds_toArray, List.set_cons_succ, List.set_cons_zero]
    refine wpAnyH_take (i := 8) (v := ?_) rfl (by kernel_rfl) (by kernel_rfl) (by kernel_rfl) (fun _ _ _ h => h) (Or.inl ⟨by rfl, ?_⟩) (by assumption) ?_
    rotate_left
    · (intro w9 _; go_simp; try with_reducible rfl)
    simp only [Act.put, List.getElem_toArray, List.getElem_cons_succ, List.getElem_cons_zero, List.setIfInBounds_toArray, List.set_cons_succ, List.set_cons_zero]
    refine wpAnyH_take (i := 9) (v := .agg (bsC B)) rfl (by kernel_rfl) (by kernel_rfl) (by kernel_rfl) (fun _ _ _ h => h) (yl_bs Tryd.underlying22 info16u _ _ HBL.out (fun _ h => h.2) (by rfl) _ rfl rfl) (by assumption) ?_
    simp only [Act.put, List.getElem_toArray, List.getElem_cons_succ, List.getElem_cons_zero, List.setIfInBounds_toArray, List.set_cons_succ, List.set_cons_zero]
    refine wpAnyH_take (i := 11) (v := .agg (bsC B)) rfl (by kernel_rfl) (by kernel_rfl) (by kernel_rfl) (fun _ _ _ h => h) (yl_bs Tryd.underlying22 info16u _ _ HBL.out (fun _ h => h.2) (by rfl) _ rfl rfl) (by assumption) ?_
    simp only [Act.put, List.getElem_toArray, List.getElem_cons_succ, List.getElem_cons_zero, List.setIfInBounds_toArray, List.set_cons_succ, List.set_cons_zero]
    refine wpAnyH_ready (rs := [10]) (by kernel_rfl) (by simp) ?_
    refine AllReadyH.cons rfl (fun K hK => ?_) AllReadyH.nil
    go_simp
    refine (HSB.out _).mono ?_
    rintro e w24 ⟨rfl, hb⟩
    have K1_24 := Lib.hid (K1_23.out.keep hb K1_23.out.lt)
    have K2_24 := Lib.hid (K2_23.out.keep hb K2_23.out.lt)
    have B_24 := Lib.hid (B_23.out.trans (hb.mono B_23.out.size))
    clear hb
    refine hK.out _ _ ⟨K1_24.out, K2_24.out⟩ (fun hHeld => ?_)
    clear hK K
    refine wpAnyH_ready (rs := [12]) (by kernel_rfl) (by simp) ?_
    refine AllReadyH.cons rfl (fun K hK => ?_) AllReadyH.nil
    go_simp
    refine (HRB.out _).mono ?_
    rintro e w25 ⟨rfl, hb⟩
    have K1_25 := Lib.hid (K1_24.out.keep hb K1_24.out.lt)
    have K2_25 := Lib.hid (K2_24.out.keep hb K2_24.out.lt)
    have B_25 := Lib.hid (B_24.out.trans (hb.mono B_24.out.size))
    clear hb
    refine hK.out _ _ ⟨K1_25.out, K2_25.out⟩ (fun hHeld => ?_)
    clear hK K
    refine wpAnyH_take (i := 13) (v := ?_) rfl (by kernel_rfl) (by kernel_rfl) (by kernel_rfl) (fun _ _ _ h => h) (Or.inl ⟨by rfl, ?_⟩) (by assumption) ?_
    rotate_left
    · (intro w9 _; go_simp; try with_reducible rfl)
    simp only [Act.put, List.getElem_toArray, List.getElem_cons_succ, List.getElem_cons_zero, List.setIfInBounds_toArray, List.set_cons_succ, List.set_cons_zero]
    refine wpAnyH_take (i := 14) (v := ?_) rfl (by kernel_rfl) (by kernel_rfl) (by kernel_rfl) (fun _ _ _ h => h) (Or.inl ⟨by rfl, ?_⟩) (by assumption) ?_
    rotate_left
    · (intro w9 _; go_simp; try with_reducible rfl)
    simp only [Act.put, List.getElem_toArray, List.getElem_cons_succ, List.getElem_cons_zero, List.setIfInBounds_toArray, List.set_cons_succ, List.set_cons_zero]
    refine wpAnyH_take (i := 15) (v := ?_) rfl (by kernel_rfl) (by kernel_rfl) (by kernel_rfl) (fun _ _ _ h => h) (Or.inl ⟨by rfl, ?_⟩) (by assumption) ?_
    rotate_left
    · (intro w9 _; go_simp; try with_reducible rfl)
    simp only [Act.put, List.getElem_toArray, List.getElem_cons_succ, List.getElem_cons_zero, List.setIfInBounds_toArray, List.set_cons_succ, List.set_cons_zero]
    refine wpAnyH_take (i := 16) (v := ?_) rfl (by kernel_rfl) (by kernel_rfl) (by kernel_rfl) (fun _ _ _ h => h) (Or.inl ⟨by rfl, ?_⟩) (by assumption) ?_
    rotate_left
    · (intro w9 _; go_simp; try with_reducible rfl)
    simp only [Act.put, List.getElem_toArray, List.getElem_cons_succ, List.getElem_cons_zero, List.setIfInBounds_toArray, List.set_cons_succ, List.set_cons_zero]
    refine wpAnyH_take (i := 17) (v := ?_) rfl (by kernel_rfl) (by kernel_rfl) (by kernel_rfl) (fun _ _ _ h => h) (Or.inl ⟨by rfl, ?_⟩) (by assumption) ?_
    rotate_left
    · (intro w9 _; go_simp; try with_reducible rfl)
    simp only [Act.put, List.getElem_toArray, List.getElem_cons_succ, List.getElem_cons_zero, List.setIfInBounds_toArray, List.set_cons_succ, List.set_cons_zero]
    refine wpAnyH_take (i := 18) (v := ?_) rfl (by kernel_rfl) (by kernel_rfl) (by kernel_rfl) (fun _ _ _ h => h) (Or.inl ⟨by rfl, ?_⟩) (by assumption) ?_
    rotate_left
    · (intro w9 _; go_simp; try with_reducible rfl)
    simp only [Act.put, List.getElem_toArray, List.getElem_cons_succ, List.getElem_cons_zero, List.setIfInBounds_toArray, List.set_cons_succ, List.set_cons_zero]
    refine wpAnyH_take (i := 19) (v := ?_) rfl (by kernel_rfl) (by kernel_rfl) (by kernel_rfl) (fun _ _ _ h => h) (Or.inl ⟨by rfl, ?_⟩) (by assumption) ?_
    rotate_left
    · (intro w9 _; go_simp; try with_reducible rfl)
    simp only [Act.put, List.getElem_toArray, List.getElem_cons_succ, List.getElem_cons_zero, List.setIfInBounds_toArray, List.set_cons_succ, List.set_cons_zero]
    refine wpAnyH_take (i := 20) (v := ?_) rfl (by kernel_rfl) (by kernel_rfl) (by kernel_rfl) (fun _ _ _ h => h) (Or.inl ⟨by rfl, ?_⟩) (by assumption) ?_
    rotate_left
    · (intro w9 _; go_simp; try with_reducible rfl)
    simp only [Act.put, List.getElem_toArray, List.getElem_cons_succ, List.getElem_cons_zero, List.setIfInBounds_toArray, List.set_cons_succ, List.set_cons_zero]
    refine wpAnyH_take (i := 21) (v := ?_) rfl (by kernel_rfl) (by kernel_rfl) (by kernel_rfl) (fun _ _ _ h => h) (Or.inl ⟨by rfl, ?_⟩) (by assumption) ?_
    rotate_left
    · (intro w9 _; go_simp; try with_reducible rfl)
    simp only [Act.put, List.getElem_toArray, List.getElem_cons_succ, List.getElem_cons_zero, List.setIfInBounds_toArray, List.set_cons_succ, List.set_cons_zero]
    refine wpAnyH_take (i := 22) (v := ?_) rfl (by kernel_rfl) (by kernel_rfl) (by kernel_rfl) (fun _ _ _ h => h) (Or.inl ⟨by rfl, ?_⟩) (by assumption) ?_
    rotate_left
    · (intro w9 _; go_simp; try with_reducible rfl)
    simp only [Act.put, List.getElem_toArray, List.getElem_cons_succ, List.getElem_cons_zero, List.setIfInBounds_toArray, List.set_cons_succ, List.set_cons_zero]
    refine wpAnyH_take (i := 23) (v := ?_) rfl (by kernel_rfl) (by kernel_rfl) (by kernel_rfl) (fun _ _ _ h => h) (Or.inl ⟨by rfl, ?_⟩) (by assumption) ?_
    rotate_left
    · (intro w9 _; go_simp; try with_reducible rfl)
    simp only [Act.put, List.getElem_toArray, List.getElem_cons_succ, List.getElem_cons_zero, List.setIfInBounds_toArray, List.set_cons_succ, List.set_cons_zero]
    refine wpAnyH_ready (rs := [24]) (by kernel_rfl) (by simp) ?_
    refine AllReadyH.cons rfl (fun K hK => ?_) AllReadyH.nil
    go_simp
    refine hK.out _ _ ⟨K1_25.out, K2_25.out⟩ (fun hHeld => ?_)
    clear hK K
    refine wpAnyH_take (i := 25) (v := ?_) rfl (by kernel_rfl) (by kernel_rfl) (by kernel_rfl) (fun _ _ _ h => h) (Or.inl ⟨by rfl, ?_⟩) (by assumption) ?_
    rotate_left
    · (intro w9 _; go_simp; try with_reducible rfl)
    simp only [Act.put, List.getElem_toArray, List.getElem_cons_succ, List.getElem_cons_zero, List.setIfInBounds_toArray, List.set_cons_succ, List.set_cons_zero]
    refine wpAnyH_take (i := 26) (v := ?_) rfl (by kernel_rfl) (by kernel_rfl) (by kernel_rfl) (fun _ _ _ h => h) (Or.inl ⟨by rfl, ?_⟩) (by assumption) ?_
    rotate_left
    · (intro w9 _; go_simp; try with_reducible rfl)
    simp only [Act.put, List.getElem_toArray, List.getElem_cons_succ, List.getElem_cons_zero, List.setIfInBounds_toArray, List.set_cons_succ, List.set_cons_zero]
    refine wpAnyH_take (i := 27) (v := ?_) rfl (by kernel_rfl) (by kernel_rfl) (by kernel_rfl) (fun _ _ _ h => h) (Or.inl ⟨by rfl, ?_⟩) (by assumption) ?_
    rotate_left
    · (intro w9 _; go_simp; try with_reducible rfl)
    simp only [Act.put, List.getElem_toArray, List.getElem_cons_succ, List.getElem_cons_zero, List.setIfInBounds_toArray, List.set_cons_succ, List.set_cons_zero]
    refine wpAnyH_done (by kernel_rfl) ?_ _
    go_wp2_with fail
    go_ret
    exact ⟨rfl, B_25.out⟩

set_option maxRecDepth 100000 in
theorem contract (H : Type) (enc : TypeId × Value → H) (W : World) (base : Nat) (args : Array Value) (ds gs : List (DataW H)) (before : List MemPlace)
    (hval : ∀ (j : Nat) t v, Tryd.f3.params[j]? = some t → args[j]? = some v → Value.okWide Tryd.prog W .any base t v)
    (hW : DataW.Whole enc Tryd.prog Tryd.f3.params.toList Rows.onetimeDigitsSpec.vars false W args.toList ds gs before) (hL : laidMetH Tryd.prog Rows.onetimeDigitsRow.laid W) (_hs : W.ShapedOpen Tryd.prog) :
    Calls Tryd.prog 3 args W fun e W' => ∃ v, e = .returned v ∧ Rows.onetimeDigitsSpec.post enc Tryd.prog Tryd.f3 false true false false W args v W' := by
  have hW' := hW
  obtain ⟨p, q, hA0, hV, rfl, hfz, hnd⟩ := hW
  have hA : DataW.TrodAll enc Tryd.prog W 0 (fun _ => true) true Tryd.f3.params.toList args.toList ds p := hA0
  rw [Tryd.params3] at hA hval
  obtain ⟨v0, vs0, d0, ds0, p0, q0, hargs, rfl, rfl, h0, r0⟩ := trodAll_cons hA
  obtain ⟨v1, vs1, d1, ds1, p1, q1, rfl, rfl, rfl, h1, r1⟩ := trodAll_cons r0
  obtain ⟨rfl, rfl, rfl⟩ := trodAll_nil r1
  obtain rfl : args = #[v0, v1] := by cases args; simp_all
  obtain ⟨rfl, rfl⟩ := trodVars_none hV
  have k0 := h0
  have lt0 : ∀ x ∈ p0, x.block < W.heap.size := by obtain ⟨m, hm⟩ := k0; exact DataW.trod_lt m _ _ _ hm
  obtain ⟨l0, rfl, n0, b0⟩ := arr_open Tryd.underlying22 (by kernel_rfl) (hval 0 22 v0 rfl rfl) h0
  have k1 := h1
  have lt1 : ∀ x ∈ p1, x.block < W.heap.size := by obtain ⟨m, hm⟩ := k1; exact DataW.trod_lt m _ _ _ hm
  obtain ⟨l1, rfl, n1, b1⟩ := arr_open Tryd.underlying22 (by kernel_rfl) (hval 1 22 v1 rfl rfl) h1
  clear hA0
  refine (walk l0 l1 n0 n1 b0 b1 W (tab hL)).mono fun e W' ⟨he, bel⟩ => ?_
  subst he
  exact ⟨_, rfl, _, _, _, [], _, [], hW', trodAll_mk1 (shut_bool Tryd.underlying4 _), (trodAll_cons_mk (Below.trod laidOut (by kernel_rfl) (of_decide_eq_true (by kernel_rfl)) k0 bel lt0) (trodAll_cons_mk (Below.trod laidOut (by kernel_rfl) (of_decide_eq_true (by kernel_rfl)) k1 bel lt1) trodAll_mk0)), rfl, bel.frame _, fun h => by cases h⟩

theorem laid_met (os : Os) : laidMet Tryd.prog Rows.onetimeDigitsRow.laid ((laidWorld os).forCall (fun _ _ => 0) ⟨#[], #[.agg (bsC z16), .agg (bsC z16)], []⟩).memory :=
  laidMet_of_run' 8 (by kernel_rfl) (by kernel_rfl)
theorem reads (os : Os) {H : Type} (enc : TypeId × Value → H) : ∃ places, DataW.whole enc Tryd.prog ((laidWorld os).forCall (fun _ _ => 0) ⟨#[], #[.agg (bsC z16), .agg (bsC z16)], []⟩).memory Tryd.f3.params.toList Rows.onetimeDigitsSpec.vars false (#[.agg (bsC z16), .agg (bsC z16)] : Array Value).toList 8 = some ([.agg (z16.map fun z => .lit (.int .u8 z)), .agg (z16.map fun z => .lit (.int .u8 z))], [], places) :=
  ⟨[], by kernel_rfl⟩

set_option maxRecDepth 100000 in
theorem lifted (os : Os) (started : os.Started) (H : Type) (enc : TypeId × Value → H) (F : Stop.Interp) :
    ReturnsInHanded {} Tryd.checked os 3 .any ((OpenSpec.ofChange Rows.onetimeDigitsSpec).preRow enc Tryd.prog Tryd.f3 Rows.onetimeDigitsRow.domain false Rows.onetimeDigitsRow.laid) (((OpenSpec.ofChange Rows.onetimeDigitsSpec).at F).post enc Tryd.prog Tryd.f3 false true false false) := by
  obtain ⟨places, hx⟩ := reads os enc
  refine returnsInHanded_of_row (C := Tryd.checked) (s := OpenSpec.ofChange Rows.onetimeDigitsSpec) own started (by kernel_rfl) Tryd.func3
    (witness_row_at (enc := enc) (C := Tryd.checked) false (laidWorld os) #[.agg (bsC z16), .agg (bsC z16)] rfl (by kernel_rfl) (by kernel_rfl) (by kernel_rfl)
      (OpenSpec.preRow_of_cond 8 hx (by kernel_rfl) (fun k hk => by cases hk) (by kernel_rfl) (laid_met os))) ?_
  intro W base args ds gs before hval hW _ _ _ hL hs _
  exact contract H enc W base args ds gs before hval hW hL hs

theorem said : Rows.OnetimeDigitsSaid :=
  OpenClaim.holds_of_cond 3 Tryd.f3 rfl rfl rfl rfl rfl rfl rfl ⟨rfl, rfl, rfl, rfl, rfl⟩ rfl rfl rfl rfl rfl (by kernel_rfl) Tryd.func3 (by kernel_rfl)
    (of_decide_eq_true (by kernel_rfl)) (by unfold Func.isWrapper; first | (rw [if_pos (by decide +kernel)]; kernel_rfl) | (rw [if_neg (by decide +kernel)]; exact ⟨rfl, rfl⟩))
    (fun os started H enc _ F => by rw [OpenClaim.pre_eq_preRow]; exact lifted os started H enc F)

theorem plain (f : FuncId) (fn : Func) (hf : Tryd.pinned.checked.prog.funcNamed "bulletin/bulletinlaw07.OnetimeDigits" = some f) (hfn : Tryd.pinned.checked.prog.funcs[f]? = some fn) :
    false = Tryd.pinned.checked.prog.looks [] ∧ ∀ (j : Nat) t, fn.params[j]? = some t → Tryd.pinned.checked.prog.wantsStandIn t = false := by
  obtain rfl : f = 3 := Option.some.inj ((show Tryd.prog.funcNamed "bulletin/bulletinlaw07.OnetimeDigits" = some 3 by kernel_rfl).symm.trans hf) |>.symm
  obtain rfl : fn = Tryd.f3 := (Option.some.inj (Tryd.func3.symm.trans hfn)).symm
  refine ⟨by kernel_rfl, fun j t ht => ?_⟩
  rw [Tryd.params3] at ht
  obtain rfl : t = 22 := by simpa using Array.mem_of_getElem? ht
  exact (show Tryd.prog.wantsStandIn 22 = false by kernel_rfl)

end Go.Proofs.YtgfolgmheinbiaaDoorRRR.onetimeDigitsLaw
namespace Go.Proofs.YtgfolgmheinbiaaDoorRRR

/-- THE CARD OF OnetimeDigits -/
theorem onetimeDigits_card : Rows.OnetimeDigitsCardSaid :=
  Claim7.holds_tied_plain_at .later [] _ _ _ _ onetimeDigitsLaw.said (fun _ h => by cases h) (by kernel_rfl) (fun _ h => by cases h) onetimeDigits_row_tie rfl ⟨rfl, rfl⟩ (by kernel_rfl) rfl onetimeDigitsLaw.plain (by kernel_rfl)
#print axioms onetimeDigits_card
end Go.Proofs.YtgfolgmheinbiaaDoorRRR
