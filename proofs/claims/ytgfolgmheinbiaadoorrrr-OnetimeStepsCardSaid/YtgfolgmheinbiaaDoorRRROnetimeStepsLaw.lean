/- OnetimeSteps: whatever numbers and a value come in, the law's call returns true and its arguments read as before; the table of constants reads as the program's text lays it (the card ties it).
   Conditions: none beyond the row's own. -/
import Derived.Test.YtgfolgmheinbiaaDoorRRRLawB
namespace Go.Proofs.YtgfolgmheinbiaaDoorRRR.onetimeStepsLaw
open Go.ChangeShapes Go.WideShapes Go.ChangeAt Go.RowKit
open Go.ChangeMaps (open_string shut_string)

set_option maxRecDepth 100000 in
set_option maxHeartbeats 8000000 in
theorem wOO (leaf c p q : Int) (v VA VB : List Int) (hv : v.length = 16) (hVA : VA.length = 16) (hVB : VB.length = 16) (w : World) (hT : Tab w)
    (hS : ∀ W, Tab W → Calls Tryd.prog 20 #[.int .i64 leaf, .int .i64 c, .int .i64 p, .agg (bsC v)] W fun e w' => e = .returned (.tuple #[.agg (bsC VA), .int .i64 0]) ∧ Below W.heap.size W w')
    (hA : ∀ W, Tab W → Calls Tryd.prog 21 #[.int .i64 leaf, .int .i64 c, .int .i64 p, .int .i64 q, .agg (bsC v)] W fun e w' => e = .returned (.tuple #[.agg (bsC VB), .int .i64 0]) ∧ Below W.heap.size W w')
    (hRS : ∀ W, Calls Tryd.prog 22 #[.int .i64 leaf, .int .i64 c, .int .i64 p, .agg (bsC v)] W fun e w' => e = .returned (.agg (bsC VA)) ∧ Below W.heap.size W w')
    (hRA : ∀ W, Calls Tryd.prog 23 #[.int .i64 leaf, .int .i64 c, .int .i64 p, .int .i64 q, .agg (bsC v)] W fun e w' => e = .returned (.agg (bsC VB)) ∧ Below W.heap.size W w')
    (k1 : inB leaf 65535 = true) (k2 : inB c 34 = true) (k3 : inB p 14 = true) (k4 : inB p 15 = true) (k5 : inB q 15 = true) (k6 : p ≤ q) :
    Calls Tryd.prog 6 #[.agg (ksC .i64 [leaf, c]), .agg (ksC .i64 [p, q]), .agg (bsC v)] w fun e w' => e = .returned (.bool true) ∧ Below w.heap.size w w' := by
  have hp := hT.1
  have HK := Lib.hid (fun w hT => known_any w hT)
  have HIN := Lib.hid in_any
  have HVL := Lib.hid hv; have HVA := Lib.hid hVA; have HVB := Lib.hid hVB; have HS := Lib.hid hS; have HA := Lib.hid hA
  obtain ⟨P, hP⟩ : ∃ P, P = [leaf, c] := ⟨_, rfl⟩
  obtain ⟨R, hR⟩ : ∃ R, R = [p, q] := ⟨_, rfl⟩
  have p0 := Lib.hid (show (ksC .i64 P)[0]? = some (.int .i64 leaf) by rw [hP]; rfl)
  have p1 := Lib.hid (show (ksC .i64 P)[1]? = some (.int .i64 c) by rw [hP]; rfl)
  have r0 := Lib.hid (show (ksC .i64 R)[0]? = some (.int .i64 p) by rw [hR]; rfl)
  have r1 := Lib.hid (show (ksC .i64 R)[1]? = some (.int .i64 q) by rw [hR]; rfl)
  rw [← hP, ← hR]
  have HRS := Lib.hid hRS
  have heqA := fun w => eq_same (t := 36) Tryd.underlying36 VA hVA w
  clear hRS
  have HRA := Lib.hid hRA
  have heqB := fun w => eq_same (t := 36) Tryd.underlying36 VB hVB w
  clear hRA
  clear hP hR hv hVA hVB hS hA
  go_enter Tryd.func6, Tryd.ntmps6
  go_upto_region 1 with (fail)
  change Code.wp Tryd.prog _ _ _ (((w.alloc (.cells (ksC .i64 P) 39)).alloc (.cells (ksC .i64 R) 39)).alloc (.cells (bsC v) 22))
  generalize hW0 : ((w.alloc (.cells (ksC .i64 P) 39)).alloc (.cells (ksC .i64 R) 39)).alloc (.cells (bsC v) 22) = W0
  obtain ⟨hb1, hb2, hb3, hB0⟩ := boxes3 w hW0
  have c1 : ∀ m, (W0.drewN m).cell? ⟨w.heap.size, 0, none⟩ = some (.int .i64 leaf) := fun m => by rw [(hb1.draws m).cell]; exact p0.out
  have c2 : ∀ m, (W0.drewN m).cell? ⟨w.heap.size, 1, none⟩ = some (.int .i64 c) := fun m => by rw [(hb1.draws m).cell]; exact p1.out
  have c3 : ∀ m, (W0.drewN m).cell? ⟨w.heap.size + 1, 0, none⟩ = some (.int .i64 p) := fun m => by rw [(hb2.draws m).cell]; exact r0.out
  have c4 : ∀ m, (W0.drewN m).cell? ⟨w.heap.size + 1, 1, none⟩ = some (.int .i64 q) := fun m => by rw [(hb2.draws m).cell]; exact r1.out
  have K0 := Lib.hid hb3; have B0 := Lib.hid hB0
  clear hW0 hb1 hb2 hb3 hB0
  obtain ⟨g5, hg5⟩ : ∃ g5, g5 = w.heap.size + 1 + 1 := ⟨_, rfl⟩
  rw [← hg5] at K0 ⊢
  clear hg5
  go_quiet (fail)
  have K1 := Lib.hid (K0.out.draws nq); have B1 := Lib.hid (below_draws B0.out nq)
  generalize W0.drewN nq = W1 at *
  clear c1 c2 c3 c4 K0 B0
  go_upto_region 3 with (first
    | (refine ld_bs Tryd.underlying22 info16u _ v HVL.out K1.out (by rfl) _ (by rfl) (by rfl) ?_)
    | (go_at_call 20; refine (HS.out _ (hT.below B1.out hp)).mono ?_; rintro e w2 ⟨rfl, hb⟩; have K2 := Lib.hid (K1.out.keep hb K1.out.lt); have B2 := Lib.hid (B1.out.trans (hb.mono B1.out.size)); clear hb)
    | (refine sto_bs info16u _ VA HVA.out _ (Blk.fresh w2 22 (bsC z16)) (by rw [bsC_size]; exact z16_len) (by rfl) _ _ (by rfl) (by rfl) (by rfl) ?_; intro w3 hw3))
  have A3 := Lib.hid (show Blk w3 w2.heap.size 22 (bsC VA) by rw [hw3.out]; exact (Blk.fresh w2 _ _).row _)
  have K3 := Lib.hid (show Blk w3 g5 22 (bsC v) by rw [hw3.out]; exact (K2.out.more _).far (Nat.ne_of_lt K2.out.lt) _)
  have B3 := Lib.hid (show Below w.heap.size w w3 by rw [hw3.out]; exact below_row (B2.out.alloc B2.out.size _) _ B2.out.size _)
  clear hw3 K1 B1 K2 B2
  generalize w2.heap.size = ga at *
  go_upto_region 4 with (first
    | (refine ld_bs Tryd.underlying22 info16u _ v HVL.out K3.out (by rfl) _ (by rfl) (by rfl) ?_)
    | (go_at_call 21; refine (HA.out _ (hT.below B3.out hp)).mono ?_; rintro e w4 ⟨rfl, hb⟩; have K4 := Lib.hid (K3.out.keep hb K3.out.lt); have A4 := Lib.hid (A3.out.keep hb A3.out.lt); have B4 := Lib.hid (B3.out.trans (hb.mono B3.out.size)); clear hb)
    | (refine sto_bs info16u _ VB HVB.out _ (Blk.fresh w4 22 (bsC z16)) (by rw [bsC_size]; exact z16_len) (by rfl) _ _ (by rfl) (by rfl) (by rfl) ?_; intro w5 hw5))
  have X5 := Lib.hid (show Blk w5 w4.heap.size 22 (bsC VB) by rw [hw5.out]; exact (Blk.fresh w4 _ _).row _)
  have A5 := Lib.hid (show Blk w5 ga 22 (bsC VA) by rw [hw5.out]; exact (A4.out.more _).far (Nat.ne_of_lt A4.out.lt) _)
  have K5 := Lib.hid (show Blk w5 g5 22 (bsC v) by rw [hw5.out]; exact (K4.out.more _).far (Nat.ne_of_lt K4.out.lt) _)
  have B5 := Lib.hid (show Below w.heap.size w w5 by rw [hw5.out]; exact below_row (B4.out.alloc B4.out.size _) _ B4.out.size _)
  clear hw5 K3 B3 A3 K4 B4 A4
  generalize w4.heap.size = gb at *
  go_upto_region 8 with (first
      | (go_at_call 14; refine (HK.out _ (hT.below B5.out hp)).mono ?_; rintro e w6 ⟨rfl, hb⟩; have X6 := Lib.hid (X5.out.keep hb X5.out.lt); have A6 := Lib.hid (A5.out.keep hb A5.out.lt); have K6 := Lib.hid (K5.out.keep hb K5.out.lt); have B6 := Lib.hid (B5.out.trans (hb.mono B5.out.size)); clear hb)
      | (go_at_call 18; refine (HIN.out _ _ _).mono ?_; rintro e w9 ⟨rfl, rfl⟩))
  have X60 := Lib.hid X6.out.draw; have A60 := Lib.hid A6.out.draw; have K60 := Lib.hid K6.out.draw; have B60 := Lib.hid B6.out.drew
  refine wp_region_held_drew (S := (fun W => Blk W ga 22 (bsC VA) ∧ Blk W gb 22 (bsC VB) ∧ Blk W g5 22 (bsC v))) (by kernel_rfl) ?_ (fun hHeld => ?_)
  · exact ⟨A60.out, X60.out, K60.out⟩
  refine wpAnyH_take (i := 0) (v := ?_) rfl (by kernel_rfl) (by kernel_rfl) (by kernel_rfl) (fun _ _ _ h => h) (Or.inl ⟨by rfl, ?_⟩) (by assumption) ?_
  rotate_left
  · (intro w9 _; go_simp; try with_reducible rfl)
  simp only [Act.put, List.getElem_toArray, List.getElem_cons_zero, List.setIfInBounds_toArray, List.set_cons_succ, List.set_cons_zero]
  refine wpAnyH_take (i := 1) (v := ?_) rfl (by kernel_rfl) (by kernel_rfl) (by kernel_rfl) (fun _ _ _ h => h) (Or.inl ⟨by rfl, ?_⟩) (by assumption) ?_
  rotate_left
  · (intro w9 _; go_simp; try with_reducible rfl)
  simp only [Act.put, List.getElem_toArray, List.getElem_cons_succ, List.getElem_cons_zero, List.setIfInBounds_toArray, List.set_cons_succ, List.set_cons_zero]
  refine wpAnyH_take (i := 2) (v := ?_) rfl (by kernel_rfl) (by kernel_rfl) (by kernel_rfl) (fun _ _ _ h => h) (Or.inl ⟨by rfl, ?_⟩) (by assumption) ?_
  rotate_left
  · (intro w9 _; go_simp; try with_reducible rfl)
  simp only [Act.put, List.getElem_toArray, List.getElem_cons_succ, List.getElem_cons_zero, List.setIfInBounds_toArray, List.set_cons_succ, List.set_cons_zero]
  refine wpAnyH_take (i := 3) (v := .agg (bsC VA)) rfl (by kernel_rfl) (by kernel_rfl) (by kernel_rfl) (fun _ _ _ h => h) (yl_bs Tryd.underlying22 info16u _ _ HVA.out (fun _ h => h.1) (by rfl) _ rfl rfl) (by assumption) ?_
  simp only [Act.put, List.getElem_toArray, List.getElem_cons_succ, List.getElem_cons_zero, List.setIfInBounds_toArray, List.set_cons_succ, List.set_cons_zero]
  refine wpAnyH_take (i := 4) (v := ?_) rfl (by kernel_rfl) (by kernel_rfl) (by kernel_rfl) (fun _ _ _ h => h) (Or.inl ⟨by rfl, ?_⟩) (by assumption) ?_
  rotate_left
  · (intro w9 _; go_simp; try with_reducible rfl)
  simp only [Act.put, List.getElem_toArray, List.getElem_cons_succ, List.getElem_cons_zero, List.setIfInBounds_toArray, List.set_cons_succ, List.set_cons_zero]
  refine wpAnyH_take (i := 5) (v := ?_) rfl (by kernel_rfl) (by kernel_rfl) (by kernel_rfl) (fun _ _ _ h => h) (Or.inl ⟨by rfl, ?_⟩) (by assumption) ?_
  rotate_left
  · (intro w9 _; go_simp; try with_reducible rfl)
  simp only [Act.put, List.getElem_toArray, List.getElem_cons_succ, List.getElem_cons_zero, List.setIfInBounds_toArray, List.set_cons_succ, List.set_cons_zero]
  refine wpAnyH_take (i := 6) (v := ?_) rfl (by kernel_rfl) (by kernel_rfl) (by kernel_rfl) (fun _ _ _ h => h) (Or.inl ⟨by rfl, ?_⟩) (by assumption) ?_
  rotate_left
  · (intro w9 _; go_simp; try with_reducible rfl)
  simp only [Act.put, List.getElem_toArray, List.getElem_cons_succ, List.getElem_cons_zero, List.setIfInBounds_toArray, List.set_cons_succ, List.set_cons_zero]
  refine wpAnyH_take (i := 7) (v := .agg (bsC v)) rfl (by kernel_rfl) (by kernel_rfl) (by kernel_rfl) (fun _ _ _ h => h) (yl_bs Tryd.underlying22 info16u _ _ HVL.out (fun _ h => h.2.2) (by rfl) _ rfl rfl) (by assumption) ?_
  simp only [Act.put, List.getElem_toArray, List.getElem_cons_succ, List.getElem_cons_zero, List.setIfInBounds_toArray, List.set_cons_succ, List.set_cons_zero]
  refine wpAnyH_ready (rs := [8]) (by kernel_rfl) (by simp) ?_
  refine AllReadyH.cons rfl (fun K hK => ?_) AllReadyH.nil
  go_simp
  refine (HRS.out _).mono ?_
  rintro e w7 ⟨rfl, hb⟩
  have X7 := Lib.hid (X60.out.keep hb X60.out.lt)
  have A7 := Lib.hid (A60.out.keep hb A60.out.lt)
  have K7 := Lib.hid (K60.out.keep hb K60.out.lt)
  have B7 := Lib.hid (B60.out.trans (hb.mono B60.out.size))
  clear hb
  refine hK.out _ _ ⟨A7.out, X7.out, K7.out⟩ (fun hHeld => ?_)
  clear hK K
  refine wpAnyH_take (i := 9) (v := ?_) rfl (by kernel_rfl) (by kernel_rfl) (by kernel_rfl) (fun _ _ _ h => h) (Or.inl ⟨by rfl, ?_⟩) (by assumption) ?_
  rotate_left
  · (intro w9 _; go_simp; try with_reducible rfl)
  simp only [Act.put, List.getElem_toArray, List.getElem_cons_succ, List.getElem_cons_zero, List.setIfInBounds_toArray, List.set_cons_succ, List.set_cons_zero]
  refine wpAnyH_take (i := 10) (v := ?_) rfl (by kernel_rfl) (by kernel_rfl) (by kernel_rfl) (fun _ _ _ h => h) (Or.inl ⟨by rfl, ?_⟩) (by assumption) ?_
  rotate_left
  · (intro w9 _; go_simp; try with_reducible rfl)
  simp only [Act.put, List.getElem_toArray, List.getElem_cons_succ, List.getElem_cons_zero, List.setIfInBounds_toArray, List.set_cons_succ, List.set_cons_zero]
  refine wpAnyH_done (by kernel_rfl) ?_ _
  go_upto_region 13 with (go_at_call 18; refine (HIN.out _ _ _).mono ?_; rintro e w9 ⟨rfl, rfl⟩)
  have X80 := Lib.hid X7.out.draw; have A80 := Lib.hid A7.out.draw; have K80 := Lib.hid K7.out.draw; have B80 := Lib.hid B7.out.drew
  refine wp_region_held_drew (S := (fun W => Blk W ga 22 (bsC VA) ∧ Blk W gb 22 (bsC VB) ∧ Blk W g5 22 (bsC v))) (by kernel_rfl) ?_ (fun hHeld => ?_)
  · exact ⟨A80.out, X80.out, K80.out⟩
  refine wpAnyH_take (i := 0) (v := ?_) rfl (by kernel_rfl) (by kernel_rfl) (by kernel_rfl) (fun _ _ _ h => h) (Or.inl ⟨by rfl, ?_⟩) (by assumption) ?_
  rotate_left
  · (intro w9 _; go_simp; try with_reducible rfl)
  simp only [Act.put, List.getElem_toArray, List.getElem_cons_zero, List.setIfInBounds_toArray, List.set_cons_succ, List.set_cons_zero]
  refine wpAnyH_take (i := 1) (v := ?_) rfl (by kernel_rfl) (by kernel_rfl) (by kernel_rfl) (fun _ _ _ h => h) (Or.inl ⟨by rfl, ?_⟩) (by assumption) ?_
  rotate_left
  · (intro w9 _; go_simp; try with_reducible rfl)
  simp only [Act.put, List.getElem_toArray, List.getElem_cons_succ, List.getElem_cons_zero, List.setIfInBounds_toArray, List.set_cons_succ, List.set_cons_zero]
  refine wpAnyH_take (i := 2) (v := ?_) rfl (by kernel_rfl) (by kernel_rfl) (by kernel_rfl) (fun _ _ _ h => h) (Or.inl ⟨by rfl, ?_⟩) (by assumption) ?_
  rotate_left
  · (intro w9 _; go_simp; try with_reducible rfl)
  simp only [Act.put, List.getElem_toArray, List.getElem_cons_succ, List.getElem_cons_zero, List.setIfInBounds_toArray, List.set_cons_succ, List.set_cons_zero]
  refine wpAnyH_take (i := 3) (v := .agg (bsC VB)) rfl (by kernel_rfl) (by kernel_rfl) (by kernel_rfl) (fun _ _ _ h => h) (yl_bs Tryd.underlying22 info16u _ _ HVB.out (fun _ h => h.2.1) (by rfl) _ rfl rfl) (by assumption) ?_
  simp only [Act.put, List.getElem_toArray, List.getElem_cons_succ, List.getElem_cons_zero, List.setIfInBounds_toArray, List.set_cons_succ, List.set_cons_zero]
  refine wpAnyH_take (i := 4) (v := ?_) rfl (by kernel_rfl) (by kernel_rfl) (by kernel_rfl) (fun _ _ _ h => h) (Or.inl ⟨by rfl, ?_⟩) (by assumption) ?_
  rotate_left
  · (intro w9 _; go_simp; try with_reducible rfl)
  simp only [Act.put, List.getElem_toArray, List.getElem_cons_succ, List.getElem_cons_zero, List.setIfInBounds_toArray, List.set_cons_succ, List.set_cons_zero]
  refine wpAnyH_take (i := 5) (v := ?_) rfl (by kernel_rfl) (by kernel_rfl) (by kernel_rfl) (fun _ _ _ h => h) (Or.inl ⟨by rfl, ?_⟩) (by assumption) ?_
  rotate_left
  · (intro w9 _; go_simp; try with_reducible rfl)
  simp only [Act.put, List.getElem_toArray, List.getElem_cons_succ, List.getElem_cons_zero, List.setIfInBounds_toArray, List.set_cons_succ, List.set_cons_zero]
  refine wpAnyH_take (i := 6) (v := ?_) rfl (by kernel_rfl) (by kernel_rfl) (by kernel_rfl) (fun _ _ _ h => h) (Or.inl ⟨by rfl, ?_⟩) (by assumption) ?_
  rotate_left
  · (intro w9 _; go_simp; try with_reducible rfl)
  simp only [Act.put, List.getElem_toArray, List.getElem_cons_succ, List.getElem_cons_zero, List.setIfInBounds_toArray, List.set_cons_succ, List.set_cons_zero]
  refine wpAnyH_take (i := 7) (v := ?_) rfl (by kernel_rfl) (by kernel_rfl) (by kernel_rfl) (fun _ _ _ h => h) (Or.inl ⟨by rfl, ?_⟩) (by assumption) ?_
  rotate_left
  · (intro w9 _; go_simp; try with_reducible rfl)
  simp only [Act.put, List.getElem_toArray, List.getElem_cons_succ, List.getElem_cons_zero, List.setIfInBounds_toArray, List.set_cons_succ, List.set_cons_zero]
  refine wpAnyH_take (i := 8) (v := .agg (bsC v)) rfl (by kernel_rfl) (by kernel_rfl) (by kernel_rfl) (fun _ _ _ h => h) (yl_bs Tryd.underlying22 info16u _ _ HVL.out (fun _ h => h.2.2) (by rfl) _ rfl rfl) (by assumption) ?_
  simp only [Act.put, List.getElem_toArray, List.getElem_cons_succ, List.getElem_cons_zero, List.setIfInBounds_toArray, List.set_cons_succ, List.set_cons_zero]
  refine wpAnyH_ready (rs := [9]) (by kernel_rfl) (by simp) ?_
  refine AllReadyH.cons rfl (fun K hK => ?_) AllReadyH.nil
  go_simp
  refine (HRA.out _).mono ?_
  rintro e w9 ⟨rfl, hb⟩
  have X9 := Lib.hid (X80.out.keep hb X80.out.lt)
  have A9 := Lib.hid (A80.out.keep hb A80.out.lt)
  have K9 := Lib.hid (K80.out.keep hb K80.out.lt)
  have B9 := Lib.hid (B80.out.trans (hb.mono B80.out.size))
  clear hb
  refine hK.out _ _ ⟨A9.out, X9.out, K9.out⟩ (fun hHeld => ?_)
  clear hK K
  refine wpAnyH_take (i := 10) (v := ?_) rfl (by kernel_rfl) (by kernel_rfl) (by kernel_rfl) (fun _ _ _ h => h) (Or.inl ⟨by rfl, ?_⟩) (by assumption) ?_
  rotate_left
  · (intro w9 _; go_simp; try with_reducible rfl)
  simp only [Act.put, List.getElem_toArray, List.getElem_cons_succ, List.getElem_cons_zero, List.setIfInBounds_toArray, List.set_cons_succ, List.set_cons_zero]
  refine wpAnyH_take (i := 11) (v := ?_) rfl (by kernel_rfl) (by kernel_rfl) (by kernel_rfl) (fun _ _ _ h => h) (Or.inl ⟨by rfl, ?_⟩) (by assumption) ?_
  rotate_left
  · (intro w9 _; go_simp; try with_reducible rfl)
  simp only [Act.put, List.getElem_toArray, List.getElem_cons_succ, List.getElem_cons_zero, List.setIfInBounds_toArray, List.set_cons_succ, List.set_cons_zero]
  refine wpAnyH_take (i := 12) (v := ?_) rfl (by kernel_rfl) (by kernel_rfl) (by kernel_rfl) (fun _ _ _ h => h) (Or.inl ⟨by rfl, ?_⟩) (by assumption) ?_
  rotate_left
  · (intro w9 _; go_simp; try with_reducible rfl)
  simp only [Act.put, List.getElem_toArray, List.getElem_cons_succ, List.getElem_cons_zero, List.setIfInBounds_toArray, List.set_cons_succ, List.set_cons_zero]
  refine wpAnyH_done (by kernel_rfl) ?_ _
  go_wp2_with fail
  go_ret
  exact ⟨rfl, B9.out⟩

set_option maxRecDepth 100000 in
set_option maxHeartbeats 8000000 in
theorem wON (leaf c p q : Int) (v VA VB : List Int) (hv : v.length = 16) (hVA : VA.length = 16) (hVB : VB.length = 16) (w : World) (hT : Tab w)
    (hS : ∀ W, Tab W → Calls Tryd.prog 20 #[.int .i64 leaf, .int .i64 c, .int .i64 p, .agg (bsC v)] W fun e w' => e = .returned (.tuple #[.agg (bsC VA), .int .i64 0]) ∧ Below W.heap.size W w')
    (hA : ∀ W, Tab W → Calls Tryd.prog 21 #[.int .i64 leaf, .int .i64 c, .int .i64 p, .int .i64 q, .agg (bsC v)] W fun e w' => e = .returned (.tuple #[.agg (bsC VB), .int .i64 2]) ∧ Below W.heap.size W w')
    (hRS : ∀ W, Calls Tryd.prog 22 #[.int .i64 leaf, .int .i64 c, .int .i64 p, .agg (bsC v)] W fun e w' => e = .returned (.agg (bsC VA)) ∧ Below W.heap.size W w')
    (hZB : VB = z16)
    (k1 : inB leaf 65535 = true) (k2 : inB c 34 = true) (k3 : inB p 14 = true) (k4 : inB p 15 = false ∨ inB p 15 = true ∧ inB q 15 = false ∨ inB p 15 = true ∧ inB q 15 = true ∧ ¬ p ≤ q) :
    Calls Tryd.prog 6 #[.agg (ksC .i64 [leaf, c]), .agg (ksC .i64 [p, q]), .agg (bsC v)] w fun e w' => e = .returned (.bool true) ∧ Below w.heap.size w w' := by
  have hp := hT.1
  have HK := Lib.hid (fun w hT => known_any w hT)
  have HIN := Lib.hid in_any
  have HVL := Lib.hid hv; have HVA := Lib.hid hVA; have HVB := Lib.hid hVB; have HS := Lib.hid hS; have HA := Lib.hid hA
  obtain ⟨P, hP⟩ : ∃ P, P = [leaf, c] := ⟨_, rfl⟩
  obtain ⟨R, hR⟩ : ∃ R, R = [p, q] := ⟨_, rfl⟩
  have p0 := Lib.hid (show (ksC .i64 P)[0]? = some (.int .i64 leaf) by rw [hP]; rfl)
  have p1 := Lib.hid (show (ksC .i64 P)[1]? = some (.int .i64 c) by rw [hP]; rfl)
  have r0 := Lib.hid (show (ksC .i64 R)[0]? = some (.int .i64 p) by rw [hR]; rfl)
  have r1 := Lib.hid (show (ksC .i64 R)[1]? = some (.int .i64 q) by rw [hR]; rfl)
  rw [← hP, ← hR]
  have HRS := Lib.hid hRS
  have heqA := fun w => eq_same (t := 36) Tryd.underlying36 VA hVA w
  clear hRS
  have heqB := eq_zero16
  rw [← hZB] at heqB
  clear hZB
  clear hP hR hv hVA hVB hS hA
  go_enter Tryd.func6, Tryd.ntmps6
  go_upto_region 1 with (fail)
  change Code.wp Tryd.prog _ _ _ (((w.alloc (.cells (ksC .i64 P) 39)).alloc (.cells (ksC .i64 R) 39)).alloc (.cells (bsC v) 22))
  generalize hW0 : ((w.alloc (.cells (ksC .i64 P) 39)).alloc (.cells (ksC .i64 R) 39)).alloc (.cells (bsC v) 22) = W0
  obtain ⟨hb1, hb2, hb3, hB0⟩ := boxes3 w hW0
  have c1 : ∀ m, (W0.drewN m).cell? ⟨w.heap.size, 0, none⟩ = some (.int .i64 leaf) := fun m => by rw [(hb1.draws m).cell]; exact p0.out
  have c2 : ∀ m, (W0.drewN m).cell? ⟨w.heap.size, 1, none⟩ = some (.int .i64 c) := fun m => by rw [(hb1.draws m).cell]; exact p1.out
  have c3 : ∀ m, (W0.drewN m).cell? ⟨w.heap.size + 1, 0, none⟩ = some (.int .i64 p) := fun m => by rw [(hb2.draws m).cell]; exact r0.out
  have c4 : ∀ m, (W0.drewN m).cell? ⟨w.heap.size + 1, 1, none⟩ = some (.int .i64 q) := fun m => by rw [(hb2.draws m).cell]; exact r1.out
  have K0 := Lib.hid hb3; have B0 := Lib.hid hB0
  clear hW0 hb1 hb2 hb3 hB0
  obtain ⟨g5, hg5⟩ : ∃ g5, g5 = w.heap.size + 1 + 1 := ⟨_, rfl⟩
  rw [← hg5] at K0 ⊢
  clear hg5
  go_quiet (fail)
  have K1 := Lib.hid (K0.out.draws nq); have B1 := Lib.hid (below_draws B0.out nq)
  generalize W0.drewN nq = W1 at *
  clear c1 c2 c3 c4 K0 B0
  go_upto_region 3 with (first
    | (refine ld_bs Tryd.underlying22 info16u _ v HVL.out K1.out (by rfl) _ (by rfl) (by rfl) ?_)
    | (go_at_call 20; refine (HS.out _ (hT.below B1.out hp)).mono ?_; rintro e w2 ⟨rfl, hb⟩; have K2 := Lib.hid (K1.out.keep hb K1.out.lt); have B2 := Lib.hid (B1.out.trans (hb.mono B1.out.size)); clear hb)
    | (refine sto_bs info16u _ VA HVA.out _ (Blk.fresh w2 22 (bsC z16)) (by rw [bsC_size]; exact z16_len) (by rfl) _ _ (by rfl) (by rfl) (by rfl) ?_; intro w3 hw3))
  have A3 := Lib.hid (show Blk w3 w2.heap.size 22 (bsC VA) by rw [hw3.out]; exact (Blk.fresh w2 _ _).row _)
  have K3 := Lib.hid (show Blk w3 g5 22 (bsC v) by rw [hw3.out]; exact (K2.out.more _).far (Nat.ne_of_lt K2.out.lt) _)
  have B3 := Lib.hid (show Below w.heap.size w w3 by rw [hw3.out]; exact below_row (B2.out.alloc B2.out.size _) _ B2.out.size _)
  clear hw3 K1 B1 K2 B2
  generalize w2.heap.size = ga at *
  go_upto_region 4 with (first
    | (refine ld_bs Tryd.underlying22 info16u _ v HVL.out K3.out (by rfl) _ (by rfl) (by rfl) ?_)
    | (go_at_call 21; refine (HA.out _ (hT.below B3.out hp)).mono ?_; rintro e w4 ⟨rfl, hb⟩; have K4 := Lib.hid (K3.out.keep hb K3.out.lt); have A4 := Lib.hid (A3.out.keep hb A3.out.lt); have B4 := Lib.hid (B3.out.trans (hb.mono B3.out.size)); clear hb)
    | (refine sto_bs info16u _ VB HVB.out _ (Blk.fresh w4 22 (bsC z16)) (by rw [bsC_size]; exact z16_len) (by rfl) _ _ (by rfl) (by rfl) (by rfl) ?_; intro w5 hw5))
  have X5 := Lib.hid (show Blk w5 w4.heap.size 22 (bsC VB) by rw [hw5.out]; exact (Blk.fresh w4 _ _).row _)
  have A5 := Lib.hid (show Blk w5 ga 22 (bsC VA) by rw [hw5.out]; exact (A4.out.more _).far (Nat.ne_of_lt A4.out.lt) _)
  have K5 := Lib.hid (show Blk w5 g5 22 (bsC v) by rw [hw5.out]; exact (K4.out.more _).far (Nat.ne_of_lt K4.out.lt) _)
  have B5 := Lib.hid (show Below w.heap.size w w5 by rw [hw5.out]; exact below_row (B4.out.alloc B4.out.size _) _ B4.out.size _)
  clear hw5 K3 B3 A3 K4 B4 A4
  generalize w4.heap.size = gb at *
  rcases k4 with k4 | ⟨k4, k5⟩ | ⟨k4, k5, k6⟩
  all_goals
    go_upto_region 8 with (first
        | (go_at_call 14; refine (HK.out _ (hT.below B5.out hp)).mono ?_; rintro e w6 ⟨rfl, hb⟩; have X6 := Lib.hid (X5.out.keep hb X5.out.lt); have A6 := Lib.hid (A5.out.keep hb A5.out.lt); have K6 := Lib.hid (K5.out.keep hb K5.out.lt); have B6 := Lib.hid (B5.out.trans (hb.mono B5.out.size)); clear hb)
        | (go_at_call 18; refine (HIN.out _ _ _).mono ?_; rintro e w9 ⟨rfl, rfl⟩))
    have X60 := Lib.hid X6.out.draw; have A60 := Lib.hid A6.out.draw; have K60 := Lib.hid K6.out.draw; have B60 := Lib.hid B6.out.drew
    refine wp_region_held_drew (S := (fun W => Blk W ga 22 (bsC VA) ∧ Blk W gb 22 (bsC VB) ∧ Blk W g5 22 (bsC v))) (by kernel_rfl) ?_ (fun hHeld => ?_)
    · exact ⟨A60.out, X60.out, K60.out⟩
    refine wpAnyH_take (i := 0) (v := ?_) rfl (by kernel_rfl) (by kernel_rfl) (by kernel_rfl) (fun _ _ _ h => h) (Or.inl ⟨by rfl, ?_⟩) (by assumption) ?_
    rotate_left
    · (intro w9 _; go_simp; try with_reducible rfl)
    simp only [Act.put, List.getElem_toArray, List.getElem_cons_zero, List.setIfInBounds_toArray, List.set_cons_succ, List.set_cons_zero]
    refine wpAnyH_take (i := 1) (v := ?_) rfl (by kernel_rfl) (by kernel_rfl) (by kernel_rfl) (fun _ _ _ h => h) (Or.inl ⟨by rfl, ?_⟩) (by assumption) ?_
    rotate_left
    · (intro w9 _; go_simp; try with_reducible rfl)
    simp only [Act.put, List.getElem_toArray, List.getElem_cons_succ, List.getElem_cons_zero, List.setIfInBounds_toArray, List.set_cons_succ, List.set_cons_zero]
    refine wpAnyH_take (i := 2) (v := ?_) rfl (by kernel_rfl) (by kernel_rfl) (by kernel_rfl) (fun _ _ _ h => h) (Or.inl ⟨by rfl, ?_⟩) (by assumption) ?_
    rotate_left
    · (intro w9 _; go_simp; try with_reducible rfl)
    simp only [Act.put, List.getElem_toArray, List.getElem_cons_succ, List.getElem_cons_zero, List.setIfInBounds_toArray, List.set_cons_succ, List.set_cons_zero]
    refine wpAnyH_take (i := 3) (v := .agg (bsC VA)) rfl (by kernel_rfl) (by kernel_rfl) (by kernel_rfl) (fun _ _ _ h => h) (yl_bs Tryd.underlying22 info16u _ _ HVA.out (fun _ h => h.1) (by rfl) _ rfl rfl) (by assumption) ?_
    simp only [Act.put, List.getElem_toArray, List.getElem_cons_succ, List.getElem_cons_zero, List.setIfInBounds_toArray, List.set_cons_succ, List.set_cons_zero]
    refine wpAnyH_take (i := 4) (v := ?_) rfl (by kernel_rfl) (by kernel_rfl) (by kernel_rfl) (fun _ _ _ h => h) (Or.inl ⟨by rfl, ?_⟩) (by assumption) ?_
    rotate_left
    · (intro w9 _; go_simp; try with_reducible rfl)
    simp only [Act.put, List.getElem_toArray, List.getElem_cons_succ, List.getElem_cons_zero, List.setIfInBounds_toArray, List.set_cons_succ, List.set_cons_zero]
    refine wpAnyH_take (i := 5) (v := ?_) rfl (by kernel_rfl) (by kernel_rfl) (by kernel_rfl) (fun _ _ _ h => h) (Or.inl ⟨by rfl, ?_⟩) (by assumption) ?_
    rotate_left
    · (intro w9 _; go_simp; try with_reducible rfl)
    simp only [Act.put, List.getElem_toArray, List.getElem_cons_succ, List.getElem_cons_zero, List.setIfInBounds_toArray, List.set_cons_succ, List.set_cons_zero]
    refine wpAnyH_take (i := 6) (v := ?_) rfl (by kernel_rfl) (by kernel_rfl) (by kernel_rfl) (fun _ _ _ h => h) (Or.inl ⟨by rfl, ?_⟩) (by assumption) ?_
    rotate_left
    · (intro w9 _; go_simp; try with_reducible rfl)
    simp only [Act.put, List.getElem_toArray, List.getElem_cons_succ, List.getElem_cons_zero, List.setIfInBounds_toArray, List.set_cons_succ, List.set_cons_zero]
    refine wpAnyH_take (i := 7) (v := .agg (bsC v)) rfl (by kernel_rfl) (by kernel_rfl) (by kernel_rfl) (fun _ _ _ h => h) (yl_bs Tryd.underlying22 info16u _ _ HVL.out (fun _ h => h.2.2) (by rfl) _ rfl rfl) (by assumption) ?_
    simp only [Act.put, List.getElem_toArray, List.getElem_cons_succ, List.getElem_cons_zero, List.setIfInBounds_toArray, List.set_cons_succ, List.set_cons_zero]
    refine wpAnyH_ready (rs := [8]) (by kernel_rfl) (by simp) ?_
    refine AllReadyH.cons rfl (fun K hK => ?_) AllReadyH.nil
    go_simp
    refine (HRS.out _).mono ?_
    rintro e w7 ⟨rfl, hb⟩
    have X7 := Lib.hid (X60.out.keep hb X60.out.lt)
    have A7 := Lib.hid (A60.out.keep hb A60.out.lt)
    have K7 := Lib.hid (K60.out.keep hb K60.out.lt)
    have B7 := Lib.hid (B60.out.trans (hb.mono B60.out.size))
    clear hb
    refine hK.out _ _ ⟨A7.out, X7.out, K7.out⟩ (fun hHeld => ?_)
    clear hK K
    refine wpAnyH_take (i := 9) (v := ?_) rfl (by kernel_rfl) (by kernel_rfl) (by kernel_rfl) (fun _ _ _ h => h) (Or.inl ⟨by rfl, ?_⟩) (by assumption) ?_
    rotate_left
    · (intro w9 _; go_simp; try with_reducible rfl)
    simp only [Act.put, List.getElem_toArray, List.getElem_cons_succ, List.getElem_cons_zero, List.setIfInBounds_toArray, List.set_cons_succ, List.set_cons_zero]
    refine wpAnyH_take (i := 10) (v := ?_) rfl (by kernel_rfl) (by kernel_rfl) (by kernel_rfl) (fun _ _ _ h => h) (Or.inl ⟨by rfl, ?_⟩) (by assumption) ?_
    rotate_left
    · (intro w9 _; go_simp; try with_reducible rfl)
    simp only [Act.put, List.getElem_toArray, List.getElem_cons_succ, List.getElem_cons_zero, List.setIfInBounds_toArray, List.set_cons_succ, List.set_cons_zero]
    refine wpAnyH_done (by kernel_rfl) ?_ _
    go_wp2_with (first
        | (go_at_call 18; refine (HIN.out _ _ _).mono ?_; rintro e w9 ⟨rfl, rfl⟩)
        | (refine ld_bs_g Tryd.underlying22 info16u _ VB HVB.out X7.out (by rfl) _ (by rfl) (by rfl) ?_))
    go_ret
    exact ⟨rfl, B7.out⟩

set_option maxRecDepth 100000 in
set_option maxHeartbeats 8000000 in
theorem wNO (leaf c p q : Int) (v VA VB : List Int) (hv : v.length = 16) (hVA : VA.length = 16) (hVB : VB.length = 16) (w : World) (hT : Tab w)
    (hS : ∀ W, Tab W → Calls Tryd.prog 20 #[.int .i64 leaf, .int .i64 c, .int .i64 p, .agg (bsC v)] W fun e w' => e = .returned (.tuple #[.agg (bsC VA), .int .i64 2]) ∧ Below W.heap.size W w')
    (hA : ∀ W, Tab W → Calls Tryd.prog 21 #[.int .i64 leaf, .int .i64 c, .int .i64 p, .int .i64 q, .agg (bsC v)] W fun e w' => e = .returned (.tuple #[.agg (bsC VB), .int .i64 0]) ∧ Below W.heap.size W w')
    (hZA : VA = z16)
    (hRA : ∀ W, Calls Tryd.prog 23 #[.int .i64 leaf, .int .i64 c, .int .i64 p, .int .i64 q, .agg (bsC v)] W fun e w' => e = .returned (.agg (bsC VB)) ∧ Below W.heap.size W w')
    (k1 : inB leaf 65535 = true) (k2 : inB c 34 = true) (k3 : inB p 14 = false) (k4 : inB p 15 = true) (k5 : inB q 15 = true) (k6 : p ≤ q) :
    Calls Tryd.prog 6 #[.agg (ksC .i64 [leaf, c]), .agg (ksC .i64 [p, q]), .agg (bsC v)] w fun e w' => e = .returned (.bool true) ∧ Below w.heap.size w w' := by
  have hp := hT.1
  have HK := Lib.hid (fun w hT => known_any w hT)
  have HIN := Lib.hid in_any
  have HVL := Lib.hid hv; have HVA := Lib.hid hVA; have HVB := Lib.hid hVB; have HS := Lib.hid hS; have HA := Lib.hid hA
  obtain ⟨P, hP⟩ : ∃ P, P = [leaf, c] := ⟨_, rfl⟩
  obtain ⟨R, hR⟩ : ∃ R, R = [p, q] := ⟨_, rfl⟩
  have p0 := Lib.hid (show (ksC .i64 P)[0]? = some (.int .i64 leaf) by rw [hP]; rfl)
  have p1 := Lib.hid (show (ksC .i64 P)[1]? = some (.int .i64 c) by rw [hP]; rfl)
  have r0 := Lib.hid (show (ksC .i64 R)[0]? = some (.int .i64 p) by rw [hR]; rfl)
  have r1 := Lib.hid (show (ksC .i64 R)[1]? = some (.int .i64 q) by rw [hR]; rfl)
  rw [← hP, ← hR]
  have heqA := eq_zero16
  rw [← hZA] at heqA
  clear hZA
  have HRA := Lib.hid hRA
  have heqB := fun w => eq_same (t := 36) Tryd.underlying36 VB hVB w
  clear hRA
  clear hP hR hv hVA hVB hS hA
  go_enter Tryd.func6, Tryd.ntmps6
  go_upto_region 1 with (fail)
  change Code.wp Tryd.prog _ _ _ (((w.alloc (.cells (ksC .i64 P) 39)).alloc (.cells (ksC .i64 R) 39)).alloc (.cells (bsC v) 22))
  generalize hW0 : ((w.alloc (.cells (ksC .i64 P) 39)).alloc (.cells (ksC .i64 R) 39)).alloc (.cells (bsC v) 22) = W0
  obtain ⟨hb1, hb2, hb3, hB0⟩ := boxes3 w hW0
  have c1 : ∀ m, (W0.drewN m).cell? ⟨w.heap.size, 0, none⟩ = some (.int .i64 leaf) := fun m => by rw [(hb1.draws m).cell]; exact p0.out
  have c2 : ∀ m, (W0.drewN m).cell? ⟨w.heap.size, 1, none⟩ = some (.int .i64 c) := fun m => by rw [(hb1.draws m).cell]; exact p1.out
  have c3 : ∀ m, (W0.drewN m).cell? ⟨w.heap.size + 1, 0, none⟩ = some (.int .i64 p) := fun m => by rw [(hb2.draws m).cell]; exact r0.out
  have c4 : ∀ m, (W0.drewN m).cell? ⟨w.heap.size + 1, 1, none⟩ = some (.int .i64 q) := fun m => by rw [(hb2.draws m).cell]; exact r1.out
  have K0 := Lib.hid hb3; have B0 := Lib.hid hB0
  clear hW0 hb1 hb2 hb3 hB0
  obtain ⟨g5, hg5⟩ : ∃ g5, g5 = w.heap.size + 1 + 1 := ⟨_, rfl⟩
  rw [← hg5] at K0 ⊢
  clear hg5
  go_quiet (fail)
  have K1 := Lib.hid (K0.out.draws nq); have B1 := Lib.hid (below_draws B0.out nq)
  generalize W0.drewN nq = W1 at *
  clear c1 c2 c3 c4 K0 B0
  go_upto_region 3 with (first
    | (refine ld_bs Tryd.underlying22 info16u _ v HVL.out K1.out (by rfl) _ (by rfl) (by rfl) ?_)
    | (go_at_call 20; refine (HS.out _ (hT.below B1.out hp)).mono ?_; rintro e w2 ⟨rfl, hb⟩; have K2 := Lib.hid (K1.out.keep hb K1.out.lt); have B2 := Lib.hid (B1.out.trans (hb.mono B1.out.size)); clear hb)
    | (refine sto_bs info16u _ VA HVA.out _ (Blk.fresh w2 22 (bsC z16)) (by rw [bsC_size]; exact z16_len) (by rfl) _ _ (by rfl) (by rfl) (by rfl) ?_; intro w3 hw3))
  have A3 := Lib.hid (show Blk w3 w2.heap.size 22 (bsC VA) by rw [hw3.out]; exact (Blk.fresh w2 _ _).row _)
  have K3 := Lib.hid (show Blk w3 g5 22 (bsC v) by rw [hw3.out]; exact (K2.out.more _).far (Nat.ne_of_lt K2.out.lt) _)
  have B3 := Lib.hid (show Below w.heap.size w w3 by rw [hw3.out]; exact below_row (B2.out.alloc B2.out.size _) _ B2.out.size _)
  clear hw3 K1 B1 K2 B2
  generalize w2.heap.size = ga at *
  go_upto_region 4 with (first
    | (refine ld_bs Tryd.underlying22 info16u _ v HVL.out K3.out (by rfl) _ (by rfl) (by rfl) ?_)
    | (go_at_call 21; refine (HA.out _ (hT.below B3.out hp)).mono ?_; rintro e w4 ⟨rfl, hb⟩; have K4 := Lib.hid (K3.out.keep hb K3.out.lt); have A4 := Lib.hid (A3.out.keep hb A3.out.lt); have B4 := Lib.hid (B3.out.trans (hb.mono B3.out.size)); clear hb)
    | (refine sto_bs info16u _ VB HVB.out _ (Blk.fresh w4 22 (bsC z16)) (by rw [bsC_size]; exact z16_len) (by rfl) _ _ (by rfl) (by rfl) (by rfl) ?_; intro w5 hw5))
  have X5 := Lib.hid (show Blk w5 w4.heap.size 22 (bsC VB) by rw [hw5.out]; exact (Blk.fresh w4 _ _).row _)
  have A5 := Lib.hid (show Blk w5 ga 22 (bsC VA) by rw [hw5.out]; exact (A4.out.more _).far (Nat.ne_of_lt A4.out.lt) _)
  have K5 := Lib.hid (show Blk w5 g5 22 (bsC v) by rw [hw5.out]; exact (K4.out.more _).far (Nat.ne_of_lt K4.out.lt) _)
  have B5 := Lib.hid (show Below w.heap.size w w5 by rw [hw5.out]; exact below_row (B4.out.alloc B4.out.size _) _ B4.out.size _)
  clear hw5 K3 B3 A3 K4 B4 A4
  generalize w4.heap.size = gb at *
  go_upto_region 13 with (first
      | (go_at_call 14; refine (HK.out _ (hT.below B5.out hp)).mono ?_; rintro e w6 ⟨rfl, hb⟩; have X6 := Lib.hid (X5.out.keep hb X5.out.lt); have A6 := Lib.hid (A5.out.keep hb A5.out.lt); have K6 := Lib.hid (K5.out.keep hb K5.out.lt); have B6 := Lib.hid (B5.out.trans (hb.mono B5.out.size)); clear hb)
      | (go_at_call 18; refine (HIN.out _ _ _).mono ?_; rintro e w9 ⟨rfl, rfl⟩)
      | (refine ld_bs_g Tryd.underlying22 info16u _ VA HVA.out A6.out (by rfl) _ (by rfl) (by rfl) ?_))
  have X80 := Lib.hid X6.out.draw; have A80 := Lib.hid A6.out.draw; have K80 := Lib.hid K6.out.draw; have B80 := Lib.hid B6.out.drew
  refine wp_region_held_drew (S := (fun W => Blk W ga 22 (bsC VA) ∧ Blk W gb 22 (bsC VB) ∧ Blk W g5 22 (bsC v))) (by kernel_rfl) ?_ (fun hHeld => ?_)
  · exact ⟨A80.out, X80.out, K80.out⟩
  refine wpAnyH_take (i := 0) (v := ?_) rfl (by kernel_rfl) (by kernel_rfl) (by kernel_rfl) (fun _ _ _ h => h) (Or.inl ⟨by rfl, ?_⟩) (by assumption) ?_
  rotate_left
  · (intro w9 _; go_simp; try with_reducible rfl)
  simp only [Act.put, List.getElem_toArray, List.getElem_cons_zero, List.setIfInBounds_toArray, List.set_cons_succ, List.set_cons_zero]
  refine wpAnyH_take (i := 1) (v := ?_) rfl (by kernel_rfl) (by kernel_rfl) (by kernel_rfl) (fun _ _ _ h => h) (Or.inl ⟨by rfl, ?_⟩) (by assumption) ?_
  rotate_left
  · (intro w9 _; go_simp; try with_reducible rfl)
  simp only [Act.put, List.getElem_toArray, List.getElem_cons_succ, List.getElem_cons_zero, List.setIfInBounds_toArray, List.set_cons_succ, List.set_cons_zero]
  refine wpAnyH_take (i := 2) (v := ?_) rfl (by kernel_rfl) (by kernel_rfl) (by kernel_rfl) (fun _ _ _ h => h) (Or.inl ⟨by rfl, ?_⟩) (by assumption) ?_
  rotate_left
  · (intro w9 _; go_simp; try with_reducible rfl)
  simp only [Act.put, List.getElem_toArray, List.getElem_cons_succ, List.getElem_cons_zero, List.setIfInBounds_toArray, List.set_cons_succ, List.set_cons_zero]
  refine wpAnyH_take (i := 3) (v := .agg (bsC VB)) rfl (by kernel_rfl) (by kernel_rfl) (by kernel_rfl) (fun _ _ _ h => h) (yl_bs Tryd.underlying22 info16u _ _ HVB.out (fun _ h => h.2.1) (by rfl) _ rfl rfl) (by assumption) ?_
  simp only [Act.put, List.getElem_toArray, List.getElem_cons_succ, List.getElem_cons_zero, List.setIfInBounds_toArray, List.set_cons_succ, List.set_cons_zero]
  refine wpAnyH_take (i := 4) (v := ?_) rfl (by kernel_rfl) (by kernel_rfl) (by kernel_rfl) (fun _ _ _ h => h) (Or.inl ⟨by rfl, ?_⟩) (by assumption) ?_
  rotate_left
  · (intro w9 _; go_simp; try with_reducible rfl)
  simp only [Act.put, List.getElem_toArray, List.getElem_cons_succ, List.getElem_cons_zero, List.setIfInBounds_toArray, List.set_cons_succ, List.set_cons_zero]
  refine wpAnyH_take (i := 5) (v := ?_) rfl (by kernel_rfl) (by kernel_rfl) (by kernel_rfl) (fun _ _ _ h => h) (Or.inl ⟨by rfl, ?_⟩) (by assumption) ?_
  rotate_left
  · (intro w9 _; go_simp; try with_reducible rfl)
  simp only [Act.put, List.getElem_toArray, List.getElem_cons_succ, List.getElem_cons_zero, List.setIfInBounds_toArray, List.set_cons_succ, List.set_cons_zero]
  refine wpAnyH_take (i := 6) (v := ?_) rfl (by kernel_rfl) (by kernel_rfl) (by kernel_rfl) (fun _ _ _ h => h) (Or.inl ⟨by rfl, ?_⟩) (by assumption) ?_
  rotate_left
  · (intro w9 _; go_simp; try with_reducible rfl)
  simp only [Act.put, List.getElem_toArray, List.getElem_cons_succ, List.getElem_cons_zero, List.setIfInBounds_toArray, List.set_cons_succ, List.set_cons_zero]
  refine wpAnyH_take (i := 7) (v := ?_) rfl (by kernel_rfl) (by kernel_rfl) (by kernel_rfl) (fun _ _ _ h => h) (Or.inl ⟨by rfl, ?_⟩) (by assumption) ?_
  rotate_left
  · (intro w9 _; go_simp; try with_reducible rfl)
  simp only [Act.put, List.getElem_toArray, List.getElem_cons_succ, List.getElem_cons_zero, List.setIfInBounds_toArray, List.set_cons_succ, List.set_cons_zero]
  refine wpAnyH_take (i := 8) (v := .agg (bsC v)) rfl (by kernel_rfl) (by kernel_rfl) (by kernel_rfl) (fun _ _ _ h => h) (yl_bs Tryd.underlying22 info16u _ _ HVL.out (fun _ h => h.2.2) (by rfl) _ rfl rfl) (by assumption) ?_
  simp only [Act.put, List.getElem_toArray, List.getElem_cons_succ, List.getElem_cons_zero, List.setIfInBounds_toArray, List.set_cons_succ, List.set_cons_zero]
  refine wpAnyH_ready (rs := [9]) (by kernel_rfl) (by simp) ?_
  refine AllReadyH.cons rfl (fun K hK => ?_) AllReadyH.nil
  go_simp
  refine (HRA.out _).mono ?_
  rintro e w9 ⟨rfl, hb⟩
  have X9 := Lib.hid (X80.out.keep hb X80.out.lt)
  have A9 := Lib.hid (A80.out.keep hb A80.out.lt)
  have K9 := Lib.hid (K80.out.keep hb K80.out.lt)
  have B9 := Lib.hid (B80.out.trans (hb.mono B80.out.size))
  clear hb
  refine hK.out _ _ ⟨A9.out, X9.out, K9.out⟩ (fun hHeld => ?_)
  clear hK K
  refine wpAnyH_take (i := 10) (v := ?_) rfl (by kernel_rfl) (by kernel_rfl) (by kernel_rfl) (fun _ _ _ h => h) (Or.inl ⟨by rfl, ?_⟩) (by assumption) ?_
  rotate_left
  · (intro w9 _; go_simp; try with_reducible rfl)
  simp only [Act.put, List.getElem_toArray, List.getElem_cons_succ, List.getElem_cons_zero, List.setIfInBounds_toArray, List.set_cons_succ, List.set_cons_zero]
  refine wpAnyH_take (i := 11) (v := ?_) rfl (by kernel_rfl) (by kernel_rfl) (by kernel_rfl) (fun _ _ _ h => h) (Or.inl ⟨by rfl, ?_⟩) (by assumption) ?_
  rotate_left
  · (intro w9 _; go_simp; try with_reducible rfl)
  simp only [Act.put, List.getElem_toArray, List.getElem_cons_succ, List.getElem_cons_zero, List.setIfInBounds_toArray, List.set_cons_succ, List.set_cons_zero]
  refine wpAnyH_take (i := 12) (v := ?_) rfl (by kernel_rfl) (by kernel_rfl) (by kernel_rfl) (fun _ _ _ h => h) (Or.inl ⟨by rfl, ?_⟩) (by assumption) ?_
  rotate_left
  · (intro w9 _; go_simp; try with_reducible rfl)
  simp only [Act.put, List.getElem_toArray, List.getElem_cons_succ, List.getElem_cons_zero, List.setIfInBounds_toArray, List.set_cons_succ, List.set_cons_zero]
  refine wpAnyH_done (by kernel_rfl) ?_ _
  go_wp2_with fail
  go_ret
  exact ⟨rfl, B9.out⟩

set_option maxRecDepth 100000 in
set_option maxHeartbeats 8000000 in
theorem wNN (leaf c p q : Int) (v VA VB : List Int) (hv : v.length = 16) (hVA : VA.length = 16) (hVB : VB.length = 16) (w : World) (hT : Tab w)
    (hS : ∀ W, Tab W → Calls Tryd.prog 20 #[.int .i64 leaf, .int .i64 c, .int .i64 p, .agg (bsC v)] W fun e w' => e = .returned (.tuple #[.agg (bsC VA), .int .i64 2]) ∧ Below W.heap.size W w')
    (hA : ∀ W, Tab W → Calls Tryd.prog 21 #[.int .i64 leaf, .int .i64 c, .int .i64 p, .int .i64 q, .agg (bsC v)] W fun e w' => e = .returned (.tuple #[.agg (bsC VB), .int .i64 2]) ∧ Below W.heap.size W w')
    (hZA : VA = z16)
    (hZB : VB = z16)
    (k1 : inB leaf 65535 = true) (k2 : inB c 34 = true) (k3 : inB p 14 = false) (k4 : inB p 15 = false ∨ inB p 15 = true ∧ inB q 15 = false ∨ inB p 15 = true ∧ inB q 15 = true ∧ ¬ p ≤ q) :
    Calls Tryd.prog 6 #[.agg (ksC .i64 [leaf, c]), .agg (ksC .i64 [p, q]), .agg (bsC v)] w fun e w' => e = .returned (.bool true) ∧ Below w.heap.size w w' := by
  have hp := hT.1
  have HK := Lib.hid (fun w hT => known_any w hT)
  have HIN := Lib.hid in_any
  have HVL := Lib.hid hv; have HVA := Lib.hid hVA; have HVB := Lib.hid hVB; have HS := Lib.hid hS; have HA := Lib.hid hA
  obtain ⟨P, hP⟩ : ∃ P, P = [leaf, c] := ⟨_, rfl⟩
  obtain ⟨R, hR⟩ : ∃ R, R = [p, q] := ⟨_, rfl⟩
  have p0 := Lib.hid (show (ksC .i64 P)[0]? = some (.int .i64 leaf) by rw [hP]; rfl)
  have p1 := Lib.hid (show (ksC .i64 P)[1]? = some (.int .i64 c) by rw [hP]; rfl)
  have r0 := Lib.hid (show (ksC .i64 R)[0]? = some (.int .i64 p) by rw [hR]; rfl)
  have r1 := Lib.hid (show (ksC .i64 R)[1]? = some (.int .i64 q) by rw [hR]; rfl)
  rw [← hP, ← hR]
  have heqA := eq_zero16
  rw [← hZA] at heqA
  clear hZA
  have heqB := eq_zero16
  rw [← hZB] at heqB
  clear hZB
  clear hP hR hv hVA hVB hS hA
  go_enter Tryd.func6, Tryd.ntmps6
  go_upto_region 1 with (fail)
  change Code.wp Tryd.prog _ _ _ (((w.alloc (.cells (ksC .i64 P) 39)).alloc (.cells (ksC .i64 R) 39)).alloc (.cells (bsC v) 22))
  generalize hW0 : ((w.alloc (.cells (ksC .i64 P) 39)).alloc (.cells (ksC .i64 R) 39)).alloc (.cells (bsC v) 22) = W0
  obtain ⟨hb1, hb2, hb3, hB0⟩ := boxes3 w hW0
  have c1 : ∀ m, (W0.drewN m).cell? ⟨w.heap.size, 0, none⟩ = some (.int .i64 leaf) := fun m => by rw [(hb1.draws m).cell]; exact p0.out
  have c2 : ∀ m, (W0.drewN m).cell? ⟨w.heap.size, 1, none⟩ = some (.int .i64 c) := fun m => by rw [(hb1.draws m).cell]; exact p1.out
  have c3 : ∀ m, (W0.drewN m).cell? ⟨w.heap.size + 1, 0, none⟩ = some (.int .i64 p) := fun m => by rw [(hb2.draws m).cell]; exact r0.out
  have c4 : ∀ m, (W0.drewN m).cell? ⟨w.heap.size + 1, 1, none⟩ = some (.int .i64 q) := fun m => by rw [(hb2.draws m).cell]; exact r1.out
  have K0 := Lib.hid hb3; have B0 := Lib.hid hB0
  clear hW0 hb1 hb2 hb3 hB0
  obtain ⟨g5, hg5⟩ : ∃ g5, g5 = w.heap.size + 1 + 1 := ⟨_, rfl⟩
  rw [← hg5] at K0 ⊢
  clear hg5
  go_quiet (fail)
  have K1 := Lib.hid (K0.out.draws nq); have B1 := Lib.hid (below_draws B0.out nq)
  generalize W0.drewN nq = W1 at *
  clear c1 c2 c3 c4 K0 B0
  go_upto_region 3 with (first
    | (refine ld_bs Tryd.underlying22 info16u _ v HVL.out K1.out (by rfl) _ (by rfl) (by rfl) ?_)
    | (go_at_call 20; refine (HS.out _ (hT.below B1.out hp)).mono ?_; rintro e w2 ⟨rfl, hb⟩; have K2 := Lib.hid (K1.out.keep hb K1.out.lt); have B2 := Lib.hid (B1.out.trans (hb.mono B1.out.size)); clear hb)
    | (refine sto_bs info16u _ VA HVA.out _ (Blk.fresh w2 22 (bsC z16)) (by rw [bsC_size]; exact z16_len) (by rfl) _ _ (by rfl) (by rfl) (by rfl) ?_; intro w3 hw3))
  have A3 := Lib.hid (show Blk w3 w2.heap.size 22 (bsC VA) by rw [hw3.out]; exact (Blk.fresh w2 _ _).row _)
  have K3 := Lib.hid (show Blk w3 g5 22 (bsC v) by rw [hw3.out]; exact (K2.out.more _).far (Nat.ne_of_lt K2.out.lt) _)
  have B3 := Lib.hid (show Below w.heap.size w w3 by rw [hw3.out]; exact below_row (B2.out.alloc B2.out.size _) _ B2.out.size _)
  clear hw3 K1 B1 K2 B2
  generalize w2.heap.size = ga at *
  go_upto_region 4 with (first
    | (refine ld_bs Tryd.underlying22 info16u _ v HVL.out K3.out (by rfl) _ (by rfl) (by rfl) ?_)
    | (go_at_call 21; refine (HA.out _ (hT.below B3.out hp)).mono ?_; rintro e w4 ⟨rfl, hb⟩; have K4 := Lib.hid (K3.out.keep hb K3.out.lt); have A4 := Lib.hid (A3.out.keep hb A3.out.lt); have B4 := Lib.hid (B3.out.trans (hb.mono B3.out.size)); clear hb)
    | (refine sto_bs info16u _ VB HVB.out _ (Blk.fresh w4 22 (bsC z16)) (by rw [bsC_size]; exact z16_len) (by rfl) _ _ (by rfl) (by rfl) (by rfl) ?_; intro w5 hw5))
  have X5 := Lib.hid (show Blk w5 w4.heap.size 22 (bsC VB) by rw [hw5.out]; exact (Blk.fresh w4 _ _).row _)
  have A5 := Lib.hid (show Blk w5 ga 22 (bsC VA) by rw [hw5.out]; exact (A4.out.more _).far (Nat.ne_of_lt A4.out.lt) _)
  have K5 := Lib.hid (show Blk w5 g5 22 (bsC v) by rw [hw5.out]; exact (K4.out.more _).far (Nat.ne_of_lt K4.out.lt) _)
  have B5 := Lib.hid (show Below w.heap.size w w5 by rw [hw5.out]; exact below_row (B4.out.alloc B4.out.size _) _ B4.out.size _)
  clear hw5 K3 B3 A3 K4 B4 A4
  generalize w4.heap.size = gb at *
  rcases k4 with k4 | ⟨k4, k5⟩ | ⟨k4, k5, k6⟩
  all_goals
    go_wp2_with (first
        | (go_at_call 14; refine (HK.out _ (hT.below B5.out hp)).mono ?_; rintro e w6 ⟨rfl, hb⟩; have X6 := Lib.hid (X5.out.keep hb X5.out.lt); have A6 := Lib.hid (A5.out.keep hb A5.out.lt); have K6 := Lib.hid (K5.out.keep hb K5.out.lt); have B6 := Lib.hid (B5.out.trans (hb.mono B5.out.size)); clear hb)
        | (go_at_call 18; refine (HIN.out _ _ _).mono ?_; rintro e w9 ⟨rfl, rfl⟩)
        | (refine ld_bs_g Tryd.underlying22 info16u _ VA HVA.out A6.out (by rfl) _ (by rfl) (by rfl) ?_)
        | (refine ld_bs_g Tryd.underlying22 info16u _ VB HVB.out X6.out (by rfl) _ (by rfl) (by rfl) ?_))
    go_ret
    exact ⟨rfl, B6.out⟩

set_option maxRecDepth 100000 in
set_option maxHeartbeats 8000000 in
theorem wK1 (leaf c p q : Int) (v VA VB : List Int) (hv : v.length = 16) (hVA : VA.length = 16) (hVB : VB.length = 16) (w : World) (hT : Tab w)
    (hS : ∀ W, Tab W → Calls Tryd.prog 20 #[.int .i64 leaf, .int .i64 c, .int .i64 p, .agg (bsC v)] W fun e w' => e = .returned (.tuple #[.agg (bsC VA), .int .i64 2]) ∧ Below W.heap.size W w')
    (hA : ∀ W, Tab W → Calls Tryd.prog 21 #[.int .i64 leaf, .int .i64 c, .int .i64 p, .int .i64 q, .agg (bsC v)] W fun e w' => e = .returned (.tuple #[.agg (bsC VB), .int .i64 2]) ∧ Below W.heap.size W w')
    (hZA : VA = z16)
    (hZB : VB = z16)
    (k1 : inB leaf 65535 = false) :
    Calls Tryd.prog 6 #[.agg (ksC .i64 [leaf, c]), .agg (ksC .i64 [p, q]), .agg (bsC v)] w fun e w' => e = .returned (.bool true) ∧ Below w.heap.size w w' := by
  have hp := hT.1
  have HK := Lib.hid (fun w hT => known_any w hT)
  have HIN := Lib.hid in_any
  have HVL := Lib.hid hv; have HVA := Lib.hid hVA; have HVB := Lib.hid hVB; have HS := Lib.hid hS; have HA := Lib.hid hA
  obtain ⟨P, hP⟩ : ∃ P, P = [leaf, c] := ⟨_, rfl⟩
  obtain ⟨R, hR⟩ : ∃ R, R = [p, q] := ⟨_, rfl⟩
  have p0 := Lib.hid (show (ksC .i64 P)[0]? = some (.int .i64 leaf) by rw [hP]; rfl)
  have p1 := Lib.hid (show (ksC .i64 P)[1]? = some (.int .i64 c) by rw [hP]; rfl)
  have r0 := Lib.hid (show (ksC .i64 R)[0]? = some (.int .i64 p) by rw [hR]; rfl)
  have r1 := Lib.hid (show (ksC .i64 R)[1]? = some (.int .i64 q) by rw [hR]; rfl)
  rw [← hP, ← hR]
  have heqA := eq_zero16
  rw [← hZA] at heqA
  clear hZA
  have heqB := eq_zero16
  rw [← hZB] at heqB
  clear hZB
  clear hP hR hv hVA hVB hS hA
  go_enter Tryd.func6, Tryd.ntmps6
  go_upto_region 1 with (fail)
  change Code.wp Tryd.prog _ _ _ (((w.alloc (.cells (ksC .i64 P) 39)).alloc (.cells (ksC .i64 R) 39)).alloc (.cells (bsC v) 22))
  generalize hW0 : ((w.alloc (.cells (ksC .i64 P) 39)).alloc (.cells (ksC .i64 R) 39)).alloc (.cells (bsC v) 22) = W0
  obtain ⟨hb1, hb2, hb3, hB0⟩ := boxes3 w hW0
  have c1 : ∀ m, (W0.drewN m).cell? ⟨w.heap.size, 0, none⟩ = some (.int .i64 leaf) := fun m => by rw [(hb1.draws m).cell]; exact p0.out
  have c2 : ∀ m, (W0.drewN m).cell? ⟨w.heap.size, 1, none⟩ = some (.int .i64 c) := fun m => by rw [(hb1.draws m).cell]; exact p1.out
  have c3 : ∀ m, (W0.drewN m).cell? ⟨w.heap.size + 1, 0, none⟩ = some (.int .i64 p) := fun m => by rw [(hb2.draws m).cell]; exact r0.out
  have c4 : ∀ m, (W0.drewN m).cell? ⟨w.heap.size + 1, 1, none⟩ = some (.int .i64 q) := fun m => by rw [(hb2.draws m).cell]; exact r1.out
  have K0 := Lib.hid hb3; have B0 := Lib.hid hB0
  clear hW0 hb1 hb2 hb3 hB0
  obtain ⟨g5, hg5⟩ : ∃ g5, g5 = w.heap.size + 1 + 1 := ⟨_, rfl⟩
  rw [← hg5] at K0 ⊢
  clear hg5
  go_quiet (fail)
  have K1 := Lib.hid (K0.out.draws nq); have B1 := Lib.hid (below_draws B0.out nq)
  generalize W0.drewN nq = W1 at *
  clear c1 c2 c3 c4 K0 B0
  go_upto_region 3 with (first
    | (refine ld_bs Tryd.underlying22 info16u _ v HVL.out K1.out (by rfl) _ (by rfl) (by rfl) ?_)
    | (go_at_call 20; refine (HS.out _ (hT.below B1.out hp)).mono ?_; rintro e w2 ⟨rfl, hb⟩; have K2 := Lib.hid (K1.out.keep hb K1.out.lt); have B2 := Lib.hid (B1.out.trans (hb.mono B1.out.size)); clear hb)
    | (refine sto_bs info16u _ VA HVA.out _ (Blk.fresh w2 22 (bsC z16)) (by rw [bsC_size]; exact z16_len) (by rfl) _ _ (by rfl) (by rfl) (by rfl) ?_; intro w3 hw3))
  have A3 := Lib.hid (show Blk w3 w2.heap.size 22 (bsC VA) by rw [hw3.out]; exact (Blk.fresh w2 _ _).row _)
  have K3 := Lib.hid (show Blk w3 g5 22 (bsC v) by rw [hw3.out]; exact (K2.out.more _).far (Nat.ne_of_lt K2.out.lt) _)
  have B3 := Lib.hid (show Below w.heap.size w w3 by rw [hw3.out]; exact below_row (B2.out.alloc B2.out.size _) _ B2.out.size _)
  clear hw3 K1 B1 K2 B2
  generalize w2.heap.size = ga at *
  go_upto_region 4 with (first
    | (refine ld_bs Tryd.underlying22 info16u _ v HVL.out K3.out (by rfl) _ (by rfl) (by rfl) ?_)
    | (go_at_call 21; refine (HA.out _ (hT.below B3.out hp)).mono ?_; rintro e w4 ⟨rfl, hb⟩; have K4 := Lib.hid (K3.out.keep hb K3.out.lt); have A4 := Lib.hid (A3.out.keep hb A3.out.lt); have B4 := Lib.hid (B3.out.trans (hb.mono B3.out.size)); clear hb)
    | (refine sto_bs info16u _ VB HVB.out _ (Blk.fresh w4 22 (bsC z16)) (by rw [bsC_size]; exact z16_len) (by rfl) _ _ (by rfl) (by rfl) (by rfl) ?_; intro w5 hw5))
  have X5 := Lib.hid (show Blk w5 w4.heap.size 22 (bsC VB) by rw [hw5.out]; exact (Blk.fresh w4 _ _).row _)
  have A5 := Lib.hid (show Blk w5 ga 22 (bsC VA) by rw [hw5.out]; exact (A4.out.more _).far (Nat.ne_of_lt A4.out.lt) _)
  have K5 := Lib.hid (show Blk w5 g5 22 (bsC v) by rw [hw5.out]; exact (K4.out.more _).far (Nat.ne_of_lt K4.out.lt) _)
  have B5 := Lib.hid (show Below w.heap.size w w5 by rw [hw5.out]; exact below_row (B4.out.alloc B4.out.size _) _ B4.out.size _)
  clear hw5 K3 B3 A3 K4 B4 A4
  generalize w4.heap.size = gb at *
  go_wp2_with (first
      | (go_at_call 14; refine (HK.out _ (hT.below B5.out hp)).mono ?_; rintro e w6 ⟨rfl, hb⟩; have X6 := Lib.hid (X5.out.keep hb X5.out.lt); have A6 := Lib.hid (A5.out.keep hb A5.out.lt); have K6 := Lib.hid (K5.out.keep hb K5.out.lt); have B6 := Lib.hid (B5.out.trans (hb.mono B5.out.size)); clear hb)
      | (go_at_call 18; refine (HIN.out _ _ _).mono ?_; rintro e w9 ⟨rfl, rfl⟩)
      | (refine ld_bs_g Tryd.underlying22 info16u _ VA HVA.out A6.out (by rfl) _ (by rfl) (by rfl) ?_)
      | (refine ld_bs_g Tryd.underlying22 info16u _ VB HVB.out X6.out (by rfl) _ (by rfl) (by rfl) ?_))
  go_ret
  exact ⟨rfl, B6.out⟩

set_option maxRecDepth 100000 in
set_option maxHeartbeats 8000000 in
theorem wK2 (leaf c p q : Int) (v VA VB : List Int) (hv : v.length = 16) (hVA : VA.length = 16) (hVB : VB.length = 16) (w : World) (hT : Tab w)
    (hS : ∀ W, Tab W → Calls Tryd.prog 20 #[.int .i64 leaf, .int .i64 c, .int .i64 p, .agg (bsC v)] W fun e w' => e = .returned (.tuple #[.agg (bsC VA), .int .i64 2]) ∧ Below W.heap.size W w')
    (hA : ∀ W, Tab W → Calls Tryd.prog 21 #[.int .i64 leaf, .int .i64 c, .int .i64 p, .int .i64 q, .agg (bsC v)] W fun e w' => e = .returned (.tuple #[.agg (bsC VB), .int .i64 2]) ∧ Below W.heap.size W w')
    (hZA : VA = z16)
    (hZB : VB = z16)
    (k1 : inB leaf 65535 = true) (k2 : inB c 34 = false) :
    Calls Tryd.prog 6 #[.agg (ksC .i64 [leaf, c]), .agg (ksC .i64 [p, q]), .agg (bsC v)] w fun e w' => e = .returned (.bool true) ∧ Below w.heap.size w w' := by
  have hp := hT.1
  have HK := Lib.hid (fun w hT => known_any w hT)
  have HIN := Lib.hid in_any
  have HVL := Lib.hid hv; have HVA := Lib.hid hVA; have HVB := Lib.hid hVB; have HS := Lib.hid hS; have HA := Lib.hid hA
  obtain ⟨P, hP⟩ : ∃ P, P = [leaf, c] := ⟨_, rfl⟩
  obtain ⟨R, hR⟩ : ∃ R, R = [p, q] := ⟨_, rfl⟩
  have p0 := Lib.hid (show (ksC .i64 P)[0]? = some (.int .i64 leaf) by rw [hP]; rfl)
  have p1 := Lib.hid (show (ksC .i64 P)[1]? = some (.int .i64 c) by rw [hP]; rfl)
  have r0 := Lib.hid (show (ksC .i64 R)[0]? = some (.int .i64 p) by rw [hR]; rfl)
  have r1 := Lib.hid (show (ksC .i64 R)[1]? = some (.int .i64 q) by rw [hR]; rfl)
  rw [← hP, ← hR]
  have heqA := eq_zero16
  rw [← hZA] at heqA
  clear hZA
  have heqB := eq_zero16
  rw [← hZB] at heqB
  clear hZB
  clear hP hR hv hVA hVB hS hA
  go_enter Tryd.func6, Tryd.ntmps6
  go_upto_region 1 with (fail)
  change Code.wp Tryd.prog _ _ _ (((w.alloc (.cells (ksC .i64 P) 39)).alloc (.cells (ksC .i64 R) 39)).alloc (.cells (bsC v) 22))
  generalize hW0 : ((w.alloc (.cells (ksC .i64 P) 39)).alloc (.cells (ksC .i64 R) 39)).alloc (.cells (bsC v) 22) = W0
  obtain ⟨hb1, hb2, hb3, hB0⟩ := boxes3 w hW0
  have c1 : ∀ m, (W0.drewN m).cell? ⟨w.heap.size, 0, none⟩ = some (.int .i64 leaf) := fun m => by rw [(hb1.draws m).cell]; exact p0.out
  have c2 : ∀ m, (W0.drewN m).cell? ⟨w.heap.size, 1, none⟩ = some (.int .i64 c) := fun m => by rw [(hb1.draws m).cell]; exact p1.out
  have c3 : ∀ m, (W0.drewN m).cell? ⟨w.heap.size + 1, 0, none⟩ = some (.int .i64 p) := fun m => by rw [(hb2.draws m).cell]; exact r0.out
  have c4 : ∀ m, (W0.drewN m).cell? ⟨w.heap.size + 1, 1, none⟩ = some (.int .i64 q) := fun m => by rw [(hb2.draws m).cell]; exact r1.out
  have K0 := Lib.hid hb3; have B0 := Lib.hid hB0
  clear hW0 hb1 hb2 hb3 hB0
  obtain ⟨g5, hg5⟩ : ∃ g5, g5 = w.heap.size + 1 + 1 := ⟨_, rfl⟩
  rw [← hg5] at K0 ⊢
  clear hg5
  go_quiet (fail)
  have K1 := Lib.hid (K0.out.draws nq); have B1 := Lib.hid (below_draws B0.out nq)
  generalize W0.drewN nq = W1 at *
  clear c1 c2 c3 c4 K0 B0
  go_upto_region 3 with (first
    | (refine ld_bs Tryd.underlying22 info16u _ v HVL.out K1.out (by rfl) _ (by rfl) (by rfl) ?_)
    | (go_at_call 20; refine (HS.out _ (hT.below B1.out hp)).mono ?_; rintro e w2 ⟨rfl, hb⟩; have K2 := Lib.hid (K1.out.keep hb K1.out.lt); have B2 := Lib.hid (B1.out.trans (hb.mono B1.out.size)); clear hb)
    | (refine sto_bs info16u _ VA HVA.out _ (Blk.fresh w2 22 (bsC z16)) (by rw [bsC_size]; exact z16_len) (by rfl) _ _ (by rfl) (by rfl) (by rfl) ?_; intro w3 hw3))
  have A3 := Lib.hid (show Blk w3 w2.heap.size 22 (bsC VA) by rw [hw3.out]; exact (Blk.fresh w2 _ _).row _)
  have K3 := Lib.hid (show Blk w3 g5 22 (bsC v) by rw [hw3.out]; exact (K2.out.more _).far (Nat.ne_of_lt K2.out.lt) _)
  have B3 := Lib.hid (show Below w.heap.size w w3 by rw [hw3.out]; exact below_row (B2.out.alloc B2.out.size _) _ B2.out.size _)
  clear hw3 K1 B1 K2 B2
  generalize w2.heap.size = ga at *
  go_upto_region 4 with (first
    | (refine ld_bs Tryd.underlying22 info16u _ v HVL.out K3.out (by rfl) _ (by rfl) (by rfl) ?_)
    | (go_at_call 21; refine (HA.out _ (hT.below B3.out hp)).mono ?_; rintro e w4 ⟨rfl, hb⟩; have K4 := Lib.hid (K3.out.keep hb K3.out.lt); have A4 := Lib.hid (A3.out.keep hb A3.out.lt); have B4 := Lib.hid (B3.out.trans (hb.mono B3.out.size)); clear hb)
    | (refine sto_bs info16u _ VB HVB.out _ (Blk.fresh w4 22 (bsC z16)) (by rw [bsC_size]; exact z16_len) (by rfl) _ _ (by rfl) (by rfl) (by rfl) ?_; intro w5 hw5))
  have X5 := Lib.hid (show Blk w5 w4.heap.size 22 (bsC VB) by rw [hw5.out]; exact (Blk.fresh w4 _ _).row _)
  have A5 := Lib.hid (show Blk w5 ga 22 (bsC VA) by rw [hw5.out]; exact (A4.out.more _).far (Nat.ne_of_lt A4.out.lt) _)
  have K5 := Lib.hid (show Blk w5 g5 22 (bsC v) by rw [hw5.out]; exact (K4.out.more _).far (Nat.ne_of_lt K4.out.lt) _)
  have B5 := Lib.hid (show Below w.heap.size w w5 by rw [hw5.out]; exact below_row (B4.out.alloc B4.out.size _) _ B4.out.size _)
  clear hw5 K3 B3 A3 K4 B4 A4
  generalize w4.heap.size = gb at *
  go_wp2_with (first
      | (go_at_call 14; refine (HK.out _ (hT.below B5.out hp)).mono ?_; rintro e w6 ⟨rfl, hb⟩; have X6 := Lib.hid (X5.out.keep hb X5.out.lt); have A6 := Lib.hid (A5.out.keep hb A5.out.lt); have K6 := Lib.hid (K5.out.keep hb K5.out.lt); have B6 := Lib.hid (B5.out.trans (hb.mono B5.out.size)); clear hb)
      | (go_at_call 18; refine (HIN.out _ _ _).mono ?_; rintro e w9 ⟨rfl, rfl⟩)
      | (refine ld_bs_g Tryd.underlying22 info16u _ VA HVA.out A6.out (by rfl) _ (by rfl) (by rfl) ?_)
      | (refine ld_bs_g Tryd.underlying22 info16u _ VB HVB.out X6.out (by rfl) _ (by rfl) (by rfl) ?_))
  go_ret
  exact ⟨rfl, B6.out⟩

theorem two_of {l : List Int} (h : l.length = 2) : ∃ a b, l = [a, b] := by
  match l, h with
  | [a, b], _ => exact ⟨a, b, rfl⟩
theorem walk (leaf c p q : Int) (v : List Nat) (hv : v.length = 16) (hvb : ∀ x ∈ v, x < 256) (hp1 : -9223372036854775808 ≤ p) (hp2 : p ≤ 9223372036854775807) (w : World) (hT : Tab w) :
    Calls Tryd.prog 6 #[.agg (ksC .i64 [leaf, c]), .agg (ksC .i64 [p, q]), .agg (bsC (nI v))] w fun e w' => e = .returned (.bool true) ∧ Below w.heap.size w w' := by
  have hD : (nI v).length = 16 := by rw [nI_len, hv]
  have zl : z16.length = 16 := z16_len
  cases h1 : lfB leaf
  · exact wK1 leaf c p q (nI v) z16 z16 hD zl zl w hT (fun W _ => Step_no _ hD leaf c p hp1 hp2 (.inl h1) W) (fun W _ => Advance_no _ leaf c p q (.inl h1) W) rfl rfl h1
  cases h2 : chB c
  · exact wK2 leaf c p q (nI v) z16 z16 hD zl zl w hT (fun W _ => Step_no _ hD leaf c p hp1 hp2 (.inr (.inl h2)) W) (fun W _ => Advance_no _ leaf c p q (.inr (.inl ⟨h1, h2⟩)) W) rfl rfl h1 h2
  obtain ⟨m, rfl, hm⟩ := lfB_nat h1
  obtain ⟨k, rfl, hk⟩ := chB_nat h2
  have hB : (0 ≤ p ∧ p ≤ 15 ∧ 0 ≤ q ∧ q ≤ 15 ∧ p ≤ q) ∨ (inB p 15 = false ∨ inB p 15 = true ∧ inB q 15 = false ∨ inB p 15 = true ∧ inB q 15 = true ∧ ¬ p ≤ q) := by
    by_cases a1 : 0 ≤ p ∧ p ≤ 15
    · by_cases a2 : 0 ≤ q ∧ q ≤ 15
      · by_cases a3 : p ≤ q
        · exact .inl ⟨a1.1, a1.2, a2.1, a2.2, a3⟩
        · exact .inr (.inr (.inr ⟨inB_yes a1.1 a1.2, inB_yes a2.1 a2.2, a3⟩))
      · exact .inr (.inr (.inl ⟨inB_yes a1.1 a1.2, inB_no (by omega)⟩))
    · exact .inr (.inl (inB_no (by omega)))
  have hno : (inB p 15 = false ∨ inB p 15 = true ∧ inB q 15 = false ∨ inB p 15 = true ∧ inB q 15 = true ∧ ¬ p ≤ q) → ∀ W, Calls Tryd.prog 21 #[.int .i64 m, .int .i64 k, .int .i64 p, .int .i64 q, .agg (bsC (nI v))] W fun e w' => e = .returned (.tuple #[.agg (bsC z16), .int .i64 2]) ∧ Below W.heap.size W w' := fun h W => Advance_no _ _ _ _ _ (by
    have hq : p < 0 ∨ ¬ p < 0 ∧ q < p ∨ ¬ p < 0 ∧ ¬ q < p ∧ 15 < q := by
      unfold inB at h
      simp only [decide_eq_false_iff_not, decide_eq_true_iff] at h
      omega
    rcases hq with hq | ⟨hq, hr⟩ | ⟨hq, hr, hs⟩
    · exact .inr (.inr (.inl ⟨h1, h2, hq⟩))
    · exact .inr (.inr (.inr (.inl ⟨h1, h2, hq, hr⟩)))
    · exact .inr (.inr (.inr (.inr ⟨h1, h2, hq, hr, hs⟩)))) W
  by_cases hA : 0 ≤ p ∧ p ≤ 14
  · obtain ⟨i, rfl⟩ : ∃ i : Nat, p = (i : Int) := ⟨p.toNat, by omega⟩
    have hi : i ≤ 14 := by omega
    have hva : (nI (S7.step m k i v)).length = 16 := by rw [nI_len]; exact S7.half_len _
    rcases hB with ⟨b1, b2, b3, b4, b5⟩ | hB
    · obtain ⟨n, rfl⟩ : ∃ n : Nat, q = ((i + n : Nat) : Int) := ⟨q.toNat - i, by omega⟩
      exact wOO _ _ _ _ (nI v) _ (nI (S7.adv m k i n v)) hD hva (by rw [nI_len]; exact S7.adv_len _ _ _ _ _ hv) w hT (fun W hT => Step_ok m k i v hv hvb hm hk hi W hT) (fun W hT => Advance_ok m k i n v hv hvb hm hk (by omega) W hT) (fun W => rStep_any m k i v hv hvb hm hk (by omega) W) (fun W => rAdvance_any m k i n v hv hvb hm hk (by omega) W) h1 h2 (inB_yes hA.1 hA.2) (inB_yes b1 b2) (inB_yes b3 b4) b5
    · exact wON _ _ _ _ (nI v) _ z16 hD hva zl w hT (fun W hT => Step_ok m k i v hv hvb hm hk hi W hT) (fun W _ => hno hB W) (fun W => rStep_any m k i v hv hvb hm hk (by omega) W) rfl h1 h2 (inB_yes hA.1 hA.2) hB
  · have hs : p < 0 ∨ 14 < p := by omega
    have hS := fun W => Step_no (nI v) hD (m : Int) (k : Int) p hp1 hp2 (.inr (.inr hs)) W
    rcases hB with ⟨b1, b2, b3, b4, b5⟩ | hB
    · obtain ⟨i, rfl⟩ : ∃ i : Nat, p = (i : Int) := ⟨p.toNat, by omega⟩
      obtain ⟨n, rfl⟩ : ∃ n : Nat, q = ((i + n : Nat) : Int) := ⟨q.toNat - i, by omega⟩
      exact wNO _ _ _ _ (nI v) z16 (nI (S7.adv m k i n v)) hD zl (by rw [nI_len]; exact S7.adv_len _ _ _ _ _ hv) w hT (fun W _ => hS W) (fun W hT => Advance_ok m k i n v hv hvb hm hk (by omega) W hT) rfl (fun W => rAdvance_any m k i n v hv hvb hm hk (by omega) W) h1 h2 (inB_no (by omega)) (inB_yes b1 b2) (inB_yes b3 b4) b5
    · exact wNN _ _ _ _ (nI v) z16 z16 hD zl zl w hT (fun W _ => hS W) (fun W _ => hno hB W) rfl rfl h1 h2 (inB_no (by omega)) hB

set_option maxRecDepth 100000 in
theorem contract (H : Type) (enc : TypeId × Value → H) (W : World) (base : Nat) (args : Array Value) (ds gs : List (DataW H)) (before : List MemPlace)
    (hval : ∀ (j : Nat) t v, Tryd.f6.params[j]? = some t → args[j]? = some v → Value.okWide Tryd.prog W .any base t v)
    (hW : DataW.Whole enc Tryd.prog Tryd.f6.params.toList Rows.onetimeStepsSpec.vars false W args.toList ds gs before) (hL : laidMetH Tryd.prog Rows.onetimeStepsRow.laid W) (_hs : W.ShapedOpen Tryd.prog) :
    Calls Tryd.prog 6 args W fun e W' => ∃ v, e = .returned v ∧ Rows.onetimeStepsSpec.post enc Tryd.prog Tryd.f6 false true false false W args v W' := by
  have hW' := hW
  obtain ⟨p, q, hA0, hV, rfl, hfz, hnd⟩ := hW
  have hA : DataW.TrodAll enc Tryd.prog W 0 (fun _ => true) true Tryd.f6.params.toList args.toList ds p := hA0
  rw [Tryd.params6] at hA hval
  obtain ⟨v0, vs0, d0, ds0, p0, q0, hargs, rfl, rfl, h0, r0⟩ := trodAll_cons hA
  obtain ⟨v1, vs1, d1, ds1, p1, q1, rfl, rfl, rfl, h1, r1⟩ := trodAll_cons r0
  obtain ⟨v2, vs2, d2, ds2, p2, q2, rfl, rfl, rfl, h2, r2⟩ := trodAll_cons r1
  obtain ⟨rfl, rfl, rfl⟩ := trodAll_nil r2
  obtain rfl : args = #[v0, v1, v2] := by cases args; simp_all
  obtain ⟨rfl, rfl⟩ := trodVars_none hV
  have k0 := h0
  have lt0 : ∀ x ∈ p0, x.block < W.heap.size := by obtain ⟨m, hm⟩ := k0; exact DataW.trod_lt m _ _ _ hm
  obtain ⟨l0, rfl, n0, b0⟩ := ints_open Tryd.underlying39 Tryd.underlying3 (by kernel_rfl) (by kernel_rfl) (hval 0 39 v0 rfl rfl) h0
  have k1 := h1
  have lt1 : ∀ x ∈ p1, x.block < W.heap.size := by obtain ⟨m, hm⟩ := k1; exact DataW.trod_lt m _ _ _ hm
  obtain ⟨l1, rfl, n1, b1⟩ := ints_open Tryd.underlying39 Tryd.underlying3 (by kernel_rfl) (by kernel_rfl) (hval 1 39 v1 rfl rfl) h1
  have k2 := h2
  have lt2 : ∀ x ∈ p2, x.block < W.heap.size := by obtain ⟨m, hm⟩ := k2; exact DataW.trod_lt m _ _ _ hm
  obtain ⟨l2, rfl, n2, b2⟩ := arr_open Tryd.underlying22 (by kernel_rfl) (hval 2 22 v2 rfl rfl) h2
  clear hA0
  obtain ⟨x0, y0, rfl⟩ := two_of n0
  obtain ⟨x1, y1, rfl⟩ := two_of n1
  have q1 := bounds_i64 (b1 x1 (by simp))
  refine (walk x0 y0 x1 y1 l2 n2 b2 q1.1 q1.2 W (tab hL)).mono fun e W' ⟨he, bel⟩ => ?_
  subst he
  exact ⟨_, rfl, _, _, _, [], _, [], hW', trodAll_mk1 (shut_bool Tryd.underlying4 _), (trodAll_cons_mk (Below.trod laidOut (by kernel_rfl) (of_decide_eq_true (by kernel_rfl)) k0 bel lt0) (trodAll_cons_mk (Below.trod laidOut (by kernel_rfl) (of_decide_eq_true (by kernel_rfl)) k1 bel lt1) (trodAll_cons_mk (Below.trod laidOut (by kernel_rfl) (of_decide_eq_true (by kernel_rfl)) k2 bel lt2) trodAll_mk0))), rfl, bel.frame _, fun h => by cases h⟩

theorem laid_met (os : Os) : laidMet Tryd.prog Rows.onetimeStepsRow.laid ((laidWorld os).forCall (fun _ _ => 0) ⟨#[], #[.agg (ksC .i64 [0, 0]), .agg (ksC .i64 [0, 0]), .agg (bsC z16)], []⟩).memory :=
  laidMet_of_run' 8 (by kernel_rfl) (by kernel_rfl)
theorem reads (os : Os) {H : Type} (enc : TypeId × Value → H) : ∃ places, DataW.whole enc Tryd.prog ((laidWorld os).forCall (fun _ _ => 0) ⟨#[], #[.agg (ksC .i64 [0, 0]), .agg (ksC .i64 [0, 0]), .agg (bsC z16)], []⟩).memory Tryd.f6.params.toList Rows.onetimeStepsSpec.vars false (#[.agg (ksC .i64 [0, 0]), .agg (ksC .i64 [0, 0]), .agg (bsC z16)] : Array Value).toList 8 = some ([.agg ([0, 0].map fun z => .lit (.int .i64 z)), .agg ([0, 0].map fun z => .lit (.int .i64 z)), .agg (z16.map fun z => .lit (.int .u8 z))], [], places) :=
  ⟨[], by kernel_rfl⟩

set_option maxRecDepth 100000 in
theorem lifted (os : Os) (started : os.Started) (H : Type) (enc : TypeId × Value → H) (F : Stop.Interp) :
    ReturnsInHanded {} Tryd.checked os 6 .any ((OpenSpec.ofChange Rows.onetimeStepsSpec).preRow enc Tryd.prog Tryd.f6 Rows.onetimeStepsRow.domain false Rows.onetimeStepsRow.laid) (((OpenSpec.ofChange Rows.onetimeStepsSpec).at F).post enc Tryd.prog Tryd.f6 false true false false) := by
  obtain ⟨places, hx⟩ := reads os enc
  refine returnsInHanded_of_row (C := Tryd.checked) (s := OpenSpec.ofChange Rows.onetimeStepsSpec) own started (by kernel_rfl) Tryd.func6
    (witness_row_at (enc := enc) (C := Tryd.checked) false (laidWorld os) #[.agg (ksC .i64 [0, 0]), .agg (ksC .i64 [0, 0]), .agg (bsC z16)] rfl (by kernel_rfl) (by kernel_rfl) (by kernel_rfl)
      (OpenSpec.preRow_of_cond 8 hx (by kernel_rfl) (fun k hk => by cases hk) (by kernel_rfl) (laid_met os))) ?_
  intro W base args ds gs before hval hW _ _ _ hL hs _
  exact contract H enc W base args ds gs before hval hW hL hs

theorem said : Rows.OnetimeStepsSaid :=
  OpenClaim.holds_of_cond 6 Tryd.f6 rfl rfl rfl rfl rfl rfl rfl ⟨rfl, rfl, rfl, rfl, rfl⟩ rfl rfl rfl rfl rfl (by kernel_rfl) Tryd.func6 (by kernel_rfl)
    (of_decide_eq_true (by kernel_rfl)) (by unfold Func.isWrapper; first | (rw [if_pos (by decide +kernel)]; kernel_rfl) | (rw [if_neg (by decide +kernel)]; exact ⟨rfl, rfl⟩))
    (fun os started H enc _ F => by rw [OpenClaim.pre_eq_preRow]; exact lifted os started H enc F)

theorem plain (f : FuncId) (fn : Func) (hf : Tryd.pinned.checked.prog.funcNamed "bulletin/bulletinlaw07.OnetimeSteps" = some f) (hfn : Tryd.pinned.checked.prog.funcs[f]? = some fn) :
    false = Tryd.pinned.checked.prog.looks [] ∧ ∀ (j : Nat) t, fn.params[j]? = some t → Tryd.pinned.checked.prog.wantsStandIn t = false := by
  obtain rfl : f = 6 := Option.some.inj ((show Tryd.prog.funcNamed "bulletin/bulletinlaw07.OnetimeSteps" = some 6 by kernel_rfl).symm.trans hf) |>.symm
  obtain rfl : fn = Tryd.f6 := (Option.some.inj (Tryd.func6.symm.trans hfn)).symm
  refine ⟨by kernel_rfl, fun j t ht => ?_⟩
  rw [Tryd.params6] at ht
  have hm : t = 39 ∨ t = 22 := by simpa using Array.mem_of_getElem? ht
  rcases hm with rfl | rfl
  · exact (show Tryd.prog.wantsStandIn 39 = false by kernel_rfl)
  · exact (show Tryd.prog.wantsStandIn 22 = false by kernel_rfl)

end Go.Proofs.YtgfolgmheinbiaaDoorRRR.onetimeStepsLaw
namespace Go.Proofs.YtgfolgmheinbiaaDoorRRR

/-- THE CARD OF OnetimeSteps -/
theorem onetimeSteps_card : Rows.OnetimeStepsCardSaid :=
  Claim7.holds_tied_plain_at .later [] _ _ _ _ onetimeStepsLaw.said (fun _ h => by cases h) (by kernel_rfl) (fun _ h => by cases h) onetimeSteps_row_tie rfl ⟨rfl, rfl⟩ (by kernel_rfl) rfl onetimeStepsLaw.plain (by kernel_rfl)
#print axioms onetimeSteps_card
end Go.Proofs.YtgfolgmheinbiaaDoorRRR
