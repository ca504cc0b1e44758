/- The functions that perChain is handed: Public's, Sign's, ends'. (Written by mk_clos.py.) -/
import Derived.Test.YtgfolgmheinbiaaDoorRRRAdv
import Derived.Test.YtgfolgmheinbiaaDoorRRRRAdv
import Derived.Test.YtgfolgmheinbiaaDoorRRRKnown
namespace Go.Proofs.YtgfolgmheinbiaaDoorRRR
open Go.RowKit

theorem yl_mid {ops : Array Oper} {S : World → Prop} {o : Oper} {a : Act} {T : TypeId} {n : Nat} (hu : Tryd.prog.underlying T = some (.array n 5)) (hi : (Tryd.prog.info? T).map (·.size) = some n) (g : Nat) (t : TypeId) (L : List Int) (off : Nat) (hl : off + n ≤ L.length) (hS : ∀ w, S w → Blk w g t (bsC L)) (hw : Region.wanted o (yielded ops a.tmps) = true) (x : Operand) (ho : o.op = .load T x) (hx : a.eval x = .pointer (some ⟨g, off, none⟩)) : YieldsIf Tryd.prog ops S o (.agg (bsC ((L.drop off).take n))) a :=
  yieldsIf_load_mid hw T x ho g off hx (((L.drop off).take n).map fun z => Value.int .u8 z) _ (fun w h => mid_range (hS w h) off n hl) hu rfl (by rw [hi]; simp; omega)
theorem blk1_cell {w : World} {g : Nat} {v : Value} (h : Blk w g 3 #[v]) : w.cell? ⟨g, 0, none⟩ = some v := by rw [h.cell]; rfl

set_option maxRecDepth 100000 in
set_option maxHeartbeats 4000000 in
theorem pub1_any (seed : List Nat) (hs : seed.length = 32) (hsb : ∀ x ∈ seed, x < 256) (leaf c : Nat) (hl : leaf ≤ 65535) (hc : c ≤ 34) (gl gs : Nat) (w : World) (hT : Tab w) (hL : Blk w gl 3 #[.int .i64 leaf]) (hS : Blk w gs 31 (bsC (nI seed))) :
    Calls Tryd.prog 45 #[.int .i64 c, .pointer (some ⟨gl, 0, none⟩), .pointer (some ⟨gs, 0, none⟩)] w fun e w' => e = .returned (.agg (bsC (nI (S7.adv leaf c 0 15 (S7.sec seed leaf c))))) ∧ Below w.heap.size w w' := by
  have hp := hT.1
  obtain ⟨V, hV⟩ : ∃ V, V = nI (S7.adv leaf c 0 15 (S7.sec seed leaf c)) := ⟨_, rfl⟩
  have HVE := Lib.hid hV
  have h2 := fun W hT => advance_any leaf c 0 15 (S7.sec seed leaf c) (S7.half_len _) (S7.half_lt _) hl hc (by omega) W hT
  rw [← hV] at h2
  obtain ⟨D, hD⟩ : ∃ D, D = nI seed := ⟨_, rfl⟩
  obtain ⟨E, hE⟩ : ∃ E, E = nI (S7.sec seed leaf c) := ⟨_, rfl⟩
  have h1 := fun W hT => secret_any seed hs hsb leaf c hl hc W hT
  rw [← hD, ← hE] at h1
  rw [← hE] at h2
  rw [← hD] at hS
  have H1 := Lib.hid h1; have H2 := Lib.hid h2
  have HDL := Lib.hid (show D.length = 32 by rw [hD, nI_len, hs])
  have HVL := Lib.hid (show V.length = 16 by rw [hV, nI_len]; exact S7.adv_len _ _ _ _ _ (S7.half_len _))
  have Lw := Lib.hid hL.lt; have Sw := Lib.hid hS.lt
  have HLL := Lib.hid hL; have HSS := Lib.hid hS
  clear h1 h2 hV hD hE hs hsb hL hS
  go_enter Tryd.func45, Tryd.ntmps45
  go_upto_region 1 with (fail)
  change Code.wp Tryd.prog _ _ _ (w.alloc (.cells (bsC z16) 22))
  generalize hW0 : w.alloc (.cells (bsC z16) 22) = W0
  obtain ⟨hb1, hB0⟩ := boxes1 w hW0
  have R0 := Lib.hid hb1.draw; have B0 := Lib.hid hB0.drew
  clear hW0 hb1
  have L0 := Lib.hid (HLL.out.keep hB0 HLL.out.lt).draw; have S0 := Lib.hid (HSS.out.keep hB0 HSS.out.lt).draw
  clear hB0
  refine wp_region_held_drew (S := (fun W => Blk W gl 3 #[.int .i64 leaf] ∧ Blk W gs 31 (bsC D))) (by kernel_rfl) ?_ (fun hHeld => ?_)
  · exact ⟨L0.out, S0.out⟩
  refine wpAnyH_take (i := 0) (v := .int .i64 leaf) rfl (by kernel_rfl) (by kernel_rfl) (by kernel_rfl) (fun _ _ _ h => h) (yl_int (fun w => by kernel_rfl) gl 0 leaf (fun _ h => blk1_cell h.1) (by rfl) _ rfl rfl) (by assumption) ?_
  simp only [Act.put, List.getElem_toArray, List.getElem_cons_zero, List.setIfInBounds_toArray, List.set_cons_succ, List.set_cons_zero]
  refine wpAnyH_take (i := 1) (v := ?_) rfl (by kernel_rfl) (by kernel_rfl) (by kernel_rfl) (fun _ _ _ h => h) (Or.inl ⟨by rfl, ?_⟩) (by assumption) ?_
  rotate_left
  · (intro w9 _; go_simp; try with_reducible rfl)
  simp only [Act.put, List.getElem_toArray, List.getElem_cons_succ, List.getElem_cons_zero, List.setIfInBounds_toArray, List.set_cons_succ, List.set_cons_zero]
  refine wpAnyH_take (i := 2) (v := .agg (bsC D)) rfl (by kernel_rfl) (by kernel_rfl) (by kernel_rfl) (fun _ _ _ h => h) (yl_bs Tryd.underlying31 info32u _ _ HDL.out (fun _ h => h.2) (by rfl) _ rfl rfl) (by assumption) ?_
  simp only [Act.put, List.getElem_toArray, List.getElem_cons_succ, List.getElem_cons_zero, List.setIfInBounds_toArray, List.set_cons_succ, List.set_cons_zero]
  refine wpAnyH_take (i := 3) (v := .int .i64 leaf) rfl (by kernel_rfl) (by kernel_rfl) (by kernel_rfl) (fun _ _ _ h => h) (yl_int (fun w => by kernel_rfl) gl 0 leaf (fun _ h => blk1_cell h.1) (by rfl) _ rfl rfl) (by assumption) ?_
  simp only [Act.put, List.getElem_toArray, List.getElem_cons_succ, List.getElem_cons_zero, List.setIfInBounds_toArray, List.set_cons_succ, List.set_cons_zero]
  refine wpAnyH_take (i := 4) (v := ?_) rfl (by kernel_rfl) (by kernel_rfl) (by kernel_rfl) (fun _ _ _ h => h) (Or.inl ⟨by rfl, ?_⟩) (by assumption) ?_
  rotate_left
  · (intro w9 _; go_simp; try with_reducible rfl)
  simp only [Act.put, List.getElem_toArray, List.getElem_cons_succ, List.getElem_cons_zero, List.setIfInBounds_toArray, List.set_cons_succ, List.set_cons_zero]
  refine wpAnyH_ready (rs := [5]) (by kernel_rfl) (by simp) ?_
  refine AllReadyH.cons rfl (fun K hK => ?_) AllReadyH.nil
  go_simp
  refine (H1.out _ (hT.below B0.out hp)).mono ?_
  rintro e w1 ⟨rfl, hb⟩
  have R1 := Lib.hid (R0.out.keep hb R0.out.lt)
  have L1 := Lib.hid (L0.out.keep hb L0.out.lt)
  have S1 := Lib.hid (S0.out.keep hb S0.out.lt)
  have B1 := Lib.hid (B0.out.trans (hb.mono B0.out.size))
  clear hb
  refine hK.out _ _ ⟨L1.out, S1.out⟩ (fun hHeld => ?_)
  clear hK K
  refine wpAnyH_ready (rs := [6]) (by kernel_rfl) (by simp) ?_
  refine AllReadyH.cons rfl (fun K hK => ?_) AllReadyH.nil
  go_simp
  refine (H2.out _ (hT.below B1.out hp)).mono ?_
  rintro e w2 ⟨rfl, hb⟩
  have R2 := Lib.hid (R1.out.keep hb R1.out.lt)
  have L2 := Lib.hid (L1.out.keep hb L1.out.lt)
  have S2 := Lib.hid (S1.out.keep hb S1.out.lt)
  have B2 := Lib.hid (B1.out.trans (hb.mono B1.out.size))
  clear hb
  refine hK.out _ _ ⟨L2.out, S2.out⟩ (fun hHeld => ?_)
  clear hK K
  refine wpAnyH_ready (rs := [7]) (by kernel_rfl) (by simp) ?_
  refine AllReadyH.cons rfl (fun K hK => ?_) AllReadyH.nil
  refine step_sto_bs info16u w.heap.size V HVL.out _ R2.out (by rw [bsC_size]; exact z16_len) (by rfl) _ _ rfl (by rfl) (by rfl) ?_
  obtain ⟨wf, hwf⟩ : ∃ W, W = w2.setRow w.heap.size (bsC V) := ⟨_, rfl⟩
  rw [← hwf]
  have RF := Lib.hid (show Blk wf w.heap.size 22 (bsC V) by rw [hwf]; exact R2.out.row _)
  have BF := Lib.hid (show Below w.heap.size w wf by rw [hwf]; exact below_row B2.out _ (Nat.le_refl _) _)
  have LF := Lib.hid (show Blk wf _ _ _ by rw [hwf]; exact L2.out.far (Nat.ne_of_lt Lw.out) _)
  have SF := Lib.hid (show Blk wf _ _ _ by rw [hwf]; exact S2.out.far (Nat.ne_of_lt Sw.out) _)
  refine hK.out _ _ ⟨LF.out, SF.out⟩ (fun hHeld => ?_)
  clear hK K
  refine wpAnyH_done (by kernel_rfl) ?_ _
  go_wp2_with fail
  exact bodyPost_ret (results_cell_row rfl _ _ w.heap.size _ _ _ _ rfl RF.out Tryd.underlying22 rfl (by rw [bsC_size, HVL.out]; exact info16u)) rfl ⟨by rw [HVE.out], BF.out⟩

set_option maxRecDepth 100000 in
set_option maxHeartbeats 4000000 in
theorem sign1_any (seed : List Nat) (hs : seed.length = 32) (hsb : ∀ x ∈ seed, x < 256) (leaf c dg : Nat) (X : List Int) (hX : X.length = 35) (hdg : dg ≤ 15) (hXc : X.getD c 0 = (dg : Int)) (hl : leaf ≤ 65535) (hc : c ≤ 34) (gl gd gs : Nat) (w : World) (hT : Tab w) (hL : Blk w gl 3 #[.int .i64 leaf]) (hG : Blk w gd 27 (ksC .i64 X)) (hS : Blk w gs 31 (bsC (nI seed))) :
    Calls Tryd.prog 46 #[.int .i64 c, .pointer (some ⟨gl, 0, none⟩), .pointer (some ⟨gd, 0, none⟩), .pointer (some ⟨gs, 0, none⟩)] w fun e w' => e = .returned (.agg (bsC (nI (S7.adv leaf c 0 dg (S7.sec seed leaf c))))) ∧ Below w.heap.size w w' := by
  have hp := hT.1
  obtain ⟨V, hV⟩ : ∃ V, V = nI (S7.adv leaf c 0 dg (S7.sec seed leaf c)) := ⟨_, rfl⟩
  have HVE := Lib.hid hV
  have h2 := fun W hT => advance_any leaf c 0 dg (S7.sec seed leaf c) (S7.half_len _) (S7.half_lt _) hl hc (by omega) W hT
  rw [← hV, Nat.zero_add] at h2
  obtain ⟨D, hD⟩ : ∃ D, D = nI seed := ⟨_, rfl⟩
  obtain ⟨E, hE⟩ : ∃ E, E = nI (S7.sec seed leaf c) := ⟨_, rfl⟩
  have h1 := fun W hT => secret_any seed hs hsb leaf c hl hc W hT
  rw [← hD, ← hE] at h1
  rw [← hE] at h2
  rw [← hD] at hS
  have H1 := Lib.hid h1; have H2 := Lib.hid h2
  have HDL := Lib.hid (show D.length = 32 by rw [hD, nI_len, hs])
  have HVL := Lib.hid (show V.length = 16 by rw [hV, nI_len]; exact S7.adv_len _ _ _ _ _ (S7.half_len _))
  have Lw := Lib.hid hL.lt; have Sw := Lib.hid hS.lt; have Gw := Lib.hid hG.lt
  have HLL := Lib.hid hL; have HSS := Lib.hid hS; have HGG := Lib.hid hG
  have HXL := Lib.hid hX; have HXC := Lib.hid hXc
  have hcI : (c : Int) < 35 := by omega
  have hc0 : (0 : Int) ≤ (c : Int) := by omega
  have HC := Lib.hid hc
  clear h1 h2 hV hD hE hs hsb hL hS hG hX hXc hdg
  go_enter Tryd.func46, Tryd.ntmps46
  go_upto_region 1 with (fail)
  change Code.wp Tryd.prog _ _ _ (w.alloc (.cells (bsC z16) 22))
  generalize hW0 : w.alloc (.cells (bsC z16) 22) = W0
  obtain ⟨hb1, hB0⟩ := boxes1 w hW0
  have R0 := Lib.hid hb1.draw; have B0 := Lib.hid hB0.drew
  clear hW0 hb1
  have L0 := Lib.hid (HLL.out.keep hB0 HLL.out.lt).draw; have S0 := Lib.hid (HSS.out.keep hB0 HSS.out.lt).draw; have G0 := Lib.hid (HGG.out.keep hB0 HGG.out.lt).draw
  clear hB0
  refine wp_region_held_drew (S := (fun W => Blk W gl 3 #[.int .i64 leaf] ∧ Blk W gd 27 (ksC .i64 X) ∧ Blk W gs 31 (bsC D))) (by kernel_rfl) ?_ (fun hHeld => ?_)
  · exact ⟨L0.out, G0.out, S0.out⟩
  refine wpAnyH_take (i := 0) (v := .int .i64 leaf) rfl (by kernel_rfl) (by kernel_rfl) (by kernel_rfl) (fun _ _ _ h => h) (yl_int (fun w => by kernel_rfl) gl 0 leaf (fun _ h => blk1_cell h.1) (by rfl) _ rfl rfl) (by assumption) ?_
  simp only [Act.put, List.getElem_toArray, List.getElem_cons_zero, List.setIfInBounds_toArray, List.set_cons_succ, List.set_cons_zero]
  refine wpAnyH_take (i := 1) (v := ?_) rfl (by kernel_rfl) (by kernel_rfl) (by kernel_rfl) (fun _ _ _ h => h) (Or.inl ⟨by rfl, ?_⟩) (by assumption) ?_
  rotate_left
  · (intro w9 _; go_simp; try with_reducible rfl)
  simp only [Act.put, List.getElem_toArray, List.getElem_cons_succ, List.getElem_cons_zero, List.setIfInBounds_toArray, List.set_cons_succ, List.set_cons_zero]
  refine wpAnyH_take (i := 2) (v := ?_) rfl (by kernel_rfl) (by kernel_rfl) (by kernel_rfl) (fun _ _ _ h => h) (Or.inl ⟨by rfl, ?_⟩) (by assumption) ?_
  rotate_left
  · (intro w9 _; go_simp; try with_reducible rfl)
  simp only [Act.put, List.getElem_toArray, List.getElem_cons_succ, List.getElem_cons_zero, List.setIfInBounds_toArray, List.set_cons_succ, List.set_cons_zero]
  refine wpAnyH_take (i := 3) (v := ?_) rfl (by kernel_rfl) (by kernel_rfl) (by kernel_rfl) (fun _ _ _ h => h) (Or.inl ⟨by rfl, ?_⟩) (by assumption) ?_
  rotate_left
  · (intro w9 _; go_simp; try with_reducible rfl)
  simp only [Act.put, List.getElem_toArray, List.getElem_cons_succ, List.getElem_cons_zero, List.setIfInBounds_toArray, List.set_cons_succ, List.set_cons_zero]
  refine wpAnyH_take (i := 4) (v := .int .i64 dg) rfl (by kernel_rfl) (by kernel_rfl) (by kernel_rfl) (fun _ _ _ h => h) (yl_int (fun w => by kernel_rfl) gd c dg (fun _ h => by rw [h.2.1.cell, ksC_get .i64 X c (by rw [HXL.out]; have := HC.out; omega), HXC.out]) (by rfl) _ rfl rfl) (by assumption) ?_
  simp only [Act.put, List.getElem_toArray, List.getElem_cons_succ, List.getElem_cons_zero, List.setIfInBounds_toArray, List.set_cons_succ, List.set_cons_zero]
  refine wpAnyH_take (i := 5) (v := .agg (bsC D)) rfl (by kernel_rfl) (by kernel_rfl) (by kernel_rfl) (fun _ _ _ h => h) (yl_bs Tryd.underlying31 info32u _ _ HDL.out (fun _ h => h.2.2) (by rfl) _ rfl rfl) (by assumption) ?_
  simp only [Act.put, List.getElem_toArray, List.getElem_cons_succ, List.getElem_cons_zero, List.setIfInBounds_toArray, List.set_cons_succ, List.set_cons_zero]
  refine wpAnyH_take (i := 6) (v := .int .i64 leaf) rfl (by kernel_rfl) (by kernel_rfl) (by kernel_rfl) (fun _ _ _ h => h) (yl_int (fun w => by kernel_rfl) gl 0 leaf (fun _ h => blk1_cell h.1) (by rfl) _ rfl rfl) (by assumption) ?_
  simp only [Act.put, List.getElem_toArray, List.getElem_cons_succ, List.getElem_cons_zero, List.setIfInBounds_toArray, List.set_cons_succ, List.set_cons_zero]
  refine wpAnyH_take (i := 7) (v := ?_) rfl (by kernel_rfl) (by kernel_rfl) (by kernel_rfl) (fun _ _ _ h => h) (Or.inl ⟨by rfl, ?_⟩) (by assumption) ?_
  rotate_left
  · (intro w9 _; go_simp; try with_reducible rfl)
  simp only [Act.put, List.getElem_toArray, List.getElem_cons_succ, List.getElem_cons_zero, List.setIfInBounds_toArray, List.set_cons_succ, List.set_cons_zero]
  refine wpAnyH_ready (rs := [8]) (by kernel_rfl) (by simp) ?_
  refine AllReadyH.cons rfl (fun K hK => ?_) AllReadyH.nil
  go_simp
  refine (H1.out _ (hT.below B0.out hp)).mono ?_
  rintro e w1 ⟨rfl, hb⟩
  have R1 := Lib.hid (R0.out.keep hb R0.out.lt)
  have L1 := Lib.hid (L0.out.keep hb L0.out.lt)
  have S1 := Lib.hid (S0.out.keep hb S0.out.lt)
  have G1 := Lib.hid (G0.out.keep hb G0.out.lt)
  have B1 := Lib.hid (B0.out.trans (hb.mono B0.out.size))
  clear hb
  refine hK.out _ _ ⟨L1.out, G1.out, S1.out⟩ (fun hHeld => ?_)
  clear hK K
  refine wpAnyH_ready (rs := [9]) (by kernel_rfl) (by simp) ?_
  refine AllReadyH.cons rfl (fun K hK => ?_) AllReadyH.nil
  go_simp
  refine (H2.out _ (hT.below B1.out hp)).mono ?_
  rintro e w2 ⟨rfl, hb⟩
  have R2 := Lib.hid (R1.out.keep hb R1.out.lt)
  have L2 := Lib.hid (L1.out.keep hb L1.out.lt)
  have S2 := Lib.hid (S1.out.keep hb S1.out.lt)
  have G2 := Lib.hid (G1.out.keep hb G1.out.lt)
  have B2 := Lib.hid (B1.out.trans (hb.mono B1.out.size))
  clear hb
  refine hK.out _ _ ⟨L2.out, G2.out, S2.out⟩ (fun hHeld => ?_)
  clear hK K
  refine wpAnyH_ready (rs := [10]) (by kernel_rfl) (by simp) ?_
  refine AllReadyH.cons rfl (fun K hK => ?_) AllReadyH.nil
  refine step_sto_bs info16u w.heap.size V HVL.out _ R2.out (by rw [bsC_size]; exact z16_len) (by rfl) _ _ rfl (by rfl) (by rfl) ?_
  obtain ⟨wf, hwf⟩ : ∃ W, W = w2.setRow w.heap.size (bsC V) := ⟨_, rfl⟩
  rw [← hwf]
  have RF := Lib.hid (show Blk wf w.heap.size 22 (bsC V) by rw [hwf]; exact R2.out.row _)
  have BF := Lib.hid (show Below w.heap.size w wf by rw [hwf]; exact below_row B2.out _ (Nat.le_refl _) _)
  have LF := Lib.hid (show Blk wf _ _ _ by rw [hwf]; exact L2.out.far (Nat.ne_of_lt Lw.out) _)
  have GF := Lib.hid (show Blk wf _ _ _ by rw [hwf]; exact G2.out.far (Nat.ne_of_lt Gw.out) _)
  have SF := Lib.hid (show Blk wf _ _ _ by rw [hwf]; exact S2.out.far (Nat.ne_of_lt Sw.out) _)
  refine hK.out _ _ ⟨LF.out, GF.out, SF.out⟩ (fun hHeld => ?_)
  clear hK K
  refine wpAnyH_done (by kernel_rfl) ?_ _
  go_wp2_with fail
  exact bodyPost_ret (results_cell_row rfl _ _ w.heap.size _ _ _ _ rfl RF.out Tryd.underlying22 rfl (by rw [bsC_size, HVL.out]; exact info16u)) rfl ⟨by rw [HVE.out], BF.out⟩

set_option maxRecDepth 100000 in
set_option maxHeartbeats 4000000 in
theorem ends1_any (s : List Nat) (hs : s.length = 560) (hsb : ∀ x ∈ s, x < 256) (leaf c dg : Nat) (X : List Int) (hX : X.length = 35) (hdg : dg ≤ 15) (hXc : X.getD c 0 = (dg : Int)) (hl : leaf ≤ 65535) (hc : c ≤ 34) (tv : TypeId) (gl gd gs : Nat) (w : World) (hT : Tab w) (hL : Blk w gl 3 #[.int .i64 leaf]) (hG : Blk w gd 27 (ksC .i64 X)) (hS : Blk w gs tv (bsC (nI s))) :
    Calls Tryd.prog 54 #[.int .i64 c, .pointer (some ⟨gl, 0, none⟩), .pointer (some ⟨gd, 0, none⟩), .pointer (some ⟨gs, 0, none⟩)] w fun e w' => e = .returned (.agg (bsC (nI (S7.adv leaf c dg (15 - dg) ((s.drop (c * 16)).take 16))))) ∧ Below w.heap.size w w' := by
  have hp := hT.1
  obtain ⟨V, hV⟩ : ∃ V, V = nI (S7.adv leaf c dg (15 - dg) ((s.drop (c * 16)).take 16)) := ⟨_, rfl⟩
  have HVE := Lib.hid hV
  have hul : ((s.drop (c * 16)).take 16).length = 16 := by rw [List.length_take, List.length_drop, hs]; omega
  have h2 := fun W hT => advance_any leaf c dg (15 - dg) ((s.drop (c * 16)).take 16) hul (fun x hx => hsb x (List.mem_of_mem_drop (List.mem_of_mem_take hx))) hl hc (by omega) W hT
  rw [← hV, show dg + (15 - dg) = 15 by omega] at h2
  obtain ⟨D, hD⟩ : ∃ D, D = nI s := ⟨_, rfl⟩
  have hE : nI ((s.drop (c * 16)).take 16) = (D.drop (c * 16)).take 16 := by rw [hD]; unfold nI; rw [List.map_take, List.map_drop]
  rw [hE] at h2
  rw [← hD] at hS
  have H2 := Lib.hid h2
  have HDL := Lib.hid (show D.length = 560 by rw [hD, nI_len, hs])
  have HVL := Lib.hid (show V.length = 16 by rw [hV, nI_len]; exact S7.adv_len _ _ _ _ _ hul)
  have Lw := Lib.hid hL.lt; have Sw := Lib.hid hS.lt; have Gw := Lib.hid hG.lt
  have HLL := Lib.hid hL; have HSS := Lib.hid hS; have HGG := Lib.hid hG
  have HXL := Lib.hid hX; have HXC := Lib.hid hXc
  have hcI : (c : Int) < 35 := by omega
  have hc0 : (0 : Int) ≤ (c : Int) := by omega
  have HC := Lib.hid hc
  clear h2 hV hD hE hs hsb hL hS hG hX hXc hdg hul
  go_enter Tryd.func54, Tryd.ntmps54
  go_upto_region 1 with (fail)
  change Code.wp Tryd.prog _ _ _ (w.alloc (.cells (bsC z16) 22))
  generalize hW0 : w.alloc (.cells (bsC z16) 22) = W0
  obtain ⟨hb1, hB0⟩ := boxes1 w hW0
  have R0 := Lib.hid hb1.draw; have B0 := Lib.hid hB0.drew
  clear hW0 hb1
  have L0 := Lib.hid (HLL.out.keep hB0 HLL.out.lt).draw; have S0 := Lib.hid (HSS.out.keep hB0 HSS.out.lt).draw; have G0 := Lib.hid (HGG.out.keep hB0 HGG.out.lt).draw
  clear hB0
  refine wp_region_held_drew (S := (fun W => Blk W gl 3 #[.int .i64 leaf] ∧ Blk W gd 27 (ksC .i64 X) ∧ Blk W gs tv (bsC D))) (by kernel_rfl) ?_ (fun hHeld => ?_)
  · exact ⟨L0.out, G0.out, S0.out⟩
  refine wpAnyH_take (i := 0) (v := .int .i64 leaf) rfl (by kernel_rfl) (by kernel_rfl) (by kernel_rfl) (fun _ _ _ h => h) (yl_int (fun w => by kernel_rfl) gl 0 leaf (fun _ h => blk1_cell h.1) (by rfl) _ rfl rfl) (by assumption) ?_
  simp only [Act.put, List.getElem_toArray, List.getElem_cons_zero, List.setIfInBounds_toArray, List.set_cons_succ, List.set_cons_zero]
  refine wpAnyH_take (i := 1) (v := ?_) rfl (by kernel_rfl) (by kernel_rfl) (by kernel_rfl) (fun _ _ _ h => h) (Or.inl ⟨by rfl, ?_⟩) (by assumption) ?_
  rotate_left
  · (intro w9 _; go_simp; try with_reducible rfl)
  simp only [Act.put, List.getElem_toArray, List.getElem_cons_succ, List.getElem_cons_zero, List.setIfInBounds_toArray, List.set_cons_succ, List.set_cons_zero]
  refine wpAnyH_take (i := 2) (v := ?_) rfl (by kernel_rfl) (by kernel_rfl) (by kernel_rfl) (fun _ _ _ h => h) (Or.inl ⟨by rfl, ?_⟩) (by assumption) ?_
  rotate_left
  · (intro w9 _; go_simp; try with_reducible rfl)
  simp only [Act.put, List.getElem_toArray, List.getElem_cons_succ, List.getElem_cons_zero, List.setIfInBounds_toArray, List.set_cons_succ, List.set_cons_zero]
  refine wpAnyH_take (i := 3) (v := ?_) rfl (by kernel_rfl) (by kernel_rfl) (by kernel_rfl) (fun _ _ _ h => h) (Or.inl ⟨by rfl, ?_⟩) (by assumption) ?_
  rotate_left
  · (intro w9 _; go_simp; try with_reducible rfl)
  simp only [Act.put, List.getElem_toArray, List.getElem_cons_succ, List.getElem_cons_zero, List.setIfInBounds_toArray, List.set_cons_succ, List.set_cons_zero]
  refine wpAnyH_take (i := 4) (v := .int .i64 dg) rfl (by kernel_rfl) (by kernel_rfl) (by kernel_rfl) (fun _ _ _ h => h) (yl_int (fun w => by kernel_rfl) gd c dg (fun _ h => by rw [h.2.1.cell, ksC_get .i64 X c (by rw [HXL.out]; have := HC.out; omega), HXC.out]) (by rfl) _ rfl rfl) (by assumption) ?_
  simp only [Act.put, List.getElem_toArray, List.getElem_cons_succ, List.getElem_cons_zero, List.setIfInBounds_toArray, List.set_cons_succ, List.set_cons_zero]
  refine wpAnyH_take (i := 5) (v := ?_) rfl (by kernel_rfl) (by kernel_rfl) (by kernel_rfl) (fun _ _ _ h => h) (Or.inl ⟨by rfl, ?_⟩) (by assumption) ?_
  rotate_left
  · (intro w9 _; go_simp; try with_reducible rfl)
  simp only [Act.put, List.getElem_toArray, List.getElem_cons_succ, List.getElem_cons_zero, List.setIfInBounds_toArray, List.set_cons_succ, List.set_cons_zero]
  refine wpAnyH_take (i := 6) (v := ?_) rfl (by kernel_rfl) (by kernel_rfl) (by kernel_rfl) (fun _ _ _ h => h) (Or.inl ⟨by rfl, ?_⟩) (by assumption) ?_
  rotate_left
  · (intro w9 _; go_simp; try with_reducible rfl)
  simp only [Act.put, List.getElem_toArray, List.getElem_cons_succ, List.getElem_cons_zero, List.setIfInBounds_toArray, List.set_cons_succ, List.set_cons_zero]
  refine wpAnyH_take (i := 7) (v := .agg (bsC ((D.drop (c * 16)).take 16))) rfl (by kernel_rfl) (by kernel_rfl) (by kernel_rfl) (fun _ _ _ h => h) (yl_mid Tryd.underlying22 info16u gs tv D (c * 16) (by rw [HDL.out]; have := HC.out; omega) (fun _ h => h.2.2) (by rfl) _ rfl rfl) (by assumption) ?_
  simp only [Act.put, List.getElem_toArray, List.getElem_cons_succ, List.getElem_cons_zero, List.setIfInBounds_toArray, List.set_cons_succ, List.set_cons_zero]
  refine wpAnyH_ready (rs := [8]) (by kernel_rfl) (by simp) ?_
  refine AllReadyH.cons rfl (fun K hK => ?_) AllReadyH.nil
  go_simp
  refine (H2.out _ (hT.below B0.out hp)).mono ?_
  rintro e w2 ⟨rfl, hb⟩
  have R2 := Lib.hid (R0.out.keep hb R0.out.lt)
  have L2 := Lib.hid (L0.out.keep hb L0.out.lt)
  have S2 := Lib.hid (S0.out.keep hb S0.out.lt)
  have G2 := Lib.hid (G0.out.keep hb G0.out.lt)
  have B2 := Lib.hid (B0.out.trans (hb.mono B0.out.size))
  clear hb
  refine hK.out _ _ ⟨L2.out, G2.out, S2.out⟩ (fun hHeld => ?_)
  clear hK K
  refine wpAnyH_ready (rs := [9]) (by kernel_rfl) (by simp) ?_
  refine AllReadyH.cons rfl (fun K hK => ?_) AllReadyH.nil
  refine step_sto_bs info16u w.heap.size V HVL.out _ R2.out (by rw [bsC_size]; exact z16_len) (by rfl) _ _ rfl (by rfl) (by rfl) ?_
  obtain ⟨wf, hwf⟩ : ∃ W, W = w2.setRow w.heap.size (bsC V) := ⟨_, rfl⟩
  rw [← hwf]
  have RF := Lib.hid (show Blk wf w.heap.size 22 (bsC V) by rw [hwf]; exact R2.out.row _)
  have BF := Lib.hid (show Below w.heap.size w wf by rw [hwf]; exact below_row B2.out _ (Nat.le_refl _) _)
  have LF := Lib.hid (show Blk wf _ _ _ by rw [hwf]; exact L2.out.far (Nat.ne_of_lt Lw.out) _)
  have GF := Lib.hid (show Blk wf _ _ _ by rw [hwf]; exact G2.out.far (Nat.ne_of_lt Gw.out) _)
  have SF := Lib.hid (show Blk wf _ _ _ by rw [hwf]; exact S2.out.far (Nat.ne_of_lt Sw.out) _)
  refine hK.out _ _ ⟨LF.out, GF.out, SF.out⟩ (fun hHeld => ?_)
  clear hK K
  refine wpAnyH_done (by kernel_rfl) ?_ _
  go_wp2_with fail
  exact bodyPost_ret (results_cell_row rfl _ _ w.heap.size _ _ _ _ rfl RF.out Tryd.underlying22 rfl (by rw [bsC_size, HVL.out]; exact info16u)) rfl ⟨by rw [HVE.out], BF.out⟩

end Go.Proofs.YtgfolgmheinbiaaDoorRRR
