/- The program's Recover and Verify; equality of arrays of arrays; the law's to. (Written by mk_recov.py.) -/
import Derived.Test.YtgfolgmheinbiaaDoorRRRSign
import Derived.Test.YtgfolgmheinbiaaDoorRRRRVals
import Derived.Test.YtgfolgmheinbiaaDoorRRRLawB
namespace Go.Proofs.YtgfolgmheinbiaaDoorRRR
open Go.RowKit


set_option maxRecDepth 100000 in
set_option maxHeartbeats 4000000 in
theorem Recover_no (G D : List Int) (leaf : Int) (h : lfB leaf = false) (w : World) : Calls Tryd.prog 31 #[.int .i64 leaf, .agg (bsC G), .agg (bsC D)] w fun e w' => e = .returned (.tuple #[.agg (bsC z16), .int .i64 2]) ∧ Below w.heap.size w w' := by
  have HLF := Lib.hid isLeaf_any
  go_enter Tryd.func31, Tryd.ntmps31
  go_upto_region 1 with (fail)
  change Code.wp Tryd.prog _ _ _ (((w.alloc (.cells (bsC G) 22)).alloc (.cells (bsC D) 57)).alloc (.cells (bsC z16) 22))
  generalize hW0 : ((w.alloc (.cells (bsC G) 22)).alloc (.cells (bsC D) 57)).alloc (.cells (bsC z16) 22) = W0
  obtain ⟨hb1, hb2, hb3, hB0⟩ := boxes3 w hW0
  have G0 := Lib.hid hb1; have D0 := Lib.hid hb2; have R0 := Lib.hid hb3; have B0 := Lib.hid hB0
  clear hW0 hb1 hb2 hb3 hB0
  clear G0 D0
  go_wp2_with (first
    | (go_at_call 37; refine (HLF.out _ _).mono ?_; rintro e w9 ⟨rfl, rfl⟩)
    | (refine sto_bs info16u _ z16 z16_len _ R0.out (by rw [bsC_size]; exact z16_len) (by rfl) _ _ (by rfl) (by rfl) (by rfl) ?_; intro w6 hw6))
  have hf : Blk w6 (w.heap.size + 1 + 1) 22 (bsC z16) := by rw [hw6.out]; exact R0.out.row _
  have hfB : Below w.heap.size w w6 := by rw [hw6.out]; exact below_row B0.out _ (by omega) _
  exact bodyPost_ret (results_cell_tmp rfl _ _ (w.heap.size + 1 + 1) _ _ _ _ rfl hf (by rfl) Tryd.underlying22 (by rw [bsC_size, z16_len]; exact info16u)) rfl ⟨rfl, hfB⟩

def rec7 (leaf : Nat) (d s : List Nat) : List Nat := S7.comp leaf (pre (S7.valE s d leaf) 35)
set_option maxRecDepth 100000 in
set_option maxHeartbeats 4000000 in
theorem Recover_ok (s d : List Nat) (hs : s.length = 560) (hsb : ∀ x ∈ s, x < 256) (hd : d.length = 16) (hdb : ∀ x ∈ d, x < 256) (leaf : Nat) (hl : leaf ≤ 65535) (w : World) (hT : Tab w) :
    Calls Tryd.prog 31 #[.int .i64 leaf, .agg (bsC (nI d)), .agg (bsC (nI s))] w fun e w' => e = .returned (.tuple #[.agg (bsC (nI (rec7 leaf d s))), .int .i64 0]) ∧ Below w.heap.size w w' := by
  have hp := hT.1
  have HLF := Lib.hid isLeaf_any
  have h1 := lfB_of leaf hl
  obtain ⟨V, hV⟩ : ∃ V, V = nI (rec7 leaf d s) := ⟨_, rfl⟩
  obtain ⟨E, hE⟩ : ∃ E, E = nI (pre (S7.valE s d leaf) 35) := ⟨_, rfl⟩
  obtain ⟨D, hD⟩ : ∃ D, D = nI s := ⟨_, rfl⟩
  obtain ⟨G, hG⟩ : ∃ G, G = nI d := ⟨_, rfl⟩
  have HVE := Lib.hid hV
  have HVL := Lib.hid (show V.length = 16 by rw [hV, nI_len]; exact S7.half_len _)
  have HDL := Lib.hid (show D.length = 560 by rw [hD, nI_len, hs])
  have HGL := Lib.hid (show G.length = 16 by rw [hG, nI_len, hd])
  have HE := Lib.hid (fun W hT => ends_any s d hs hsb hd hdb leaf hl W hT)
  rw [← hD, ← hG, ← hE] at HE
  have HC := Lib.hid (show ∀ W, Tab W → Calls Tryd.prog 43 #[.int .i64 leaf, .agg (bsC E)] W fun e w' => e = .returned (.agg (bsC V)) ∧ Below W.heap.size W w' from fun W hT => by
    rw [hV, hE]
    exact compress_any leaf _ (pre_len _ (fun i hi => S7.valE_len s d leaf i hs hi) 35 (by omega)) (pre_lt _ (fun i _ => S7.valE_lt s d leaf i hsb) 35 (by omega)) hl W hT)
  rw [← hD, ← hG]
  clear hV hE hD hG hs hsb hd hdb
  go_enter Tryd.func31, Tryd.ntmps31
  go_upto_region 1 with (fail)
  change Code.wp Tryd.prog _ _ _ (((w.alloc (.cells (bsC G) 22)).alloc (.cells (bsC D) 57)).alloc (.cells (bsC z16) 22))
  generalize hW0 : ((w.alloc (.cells (bsC G) 22)).alloc (.cells (bsC D) 57)).alloc (.cells (bsC z16) 22) = W0
  obtain ⟨hb1, hb2, hb3, hB0⟩ := boxes3 w hW0
  have G0 := Lib.hid hb1; have D0 := Lib.hid hb2; have R0 := Lib.hid hb3; have B0 := Lib.hid hB0
  clear hW0 hb1 hb2 hb3 hB0
  go_wp2_with (first
    | (go_at_call 37; refine (HLF.out _ _).mono ?_; rintro e w9 ⟨rfl, rfl⟩)
    | (refine ld_bs Tryd.underlying22 info16u _ G HGL.out G0.out (by rfl) _ (by rfl) (by rfl) ?_)
    | (refine ld_any Tryd.underlying57 infoSg _ D HDL.out D0.out (by rfl) _ (by rfl) (by rfl) ?_)
    | (go_at_call 47; refine (HE.out _ (hT.below B0.out hp)).mono ?_; rintro e w1 ⟨rfl, hb⟩; have R1 := Lib.hid (R0.out.keep hb R0.out.lt); have B1 := Lib.hid (B0.out.trans (hb.mono B0.out.size)); clear hb)
    | (go_at_call 43; refine (HC.out _ (hT.below B1.out hp)).mono ?_; rintro e w2 ⟨rfl, hb⟩; have R2 := Lib.hid (R1.out.keep hb R1.out.lt); have B2 := Lib.hid (B1.out.trans (hb.mono B1.out.size)); clear hb)
    | (refine sto_bs info16u _ V HVL.out _ R2.out (by rw [bsC_size]; exact z16_len) (by rfl) _ _ (by rfl) (by rfl) (by rfl) ?_; intro w6 hw6))
  have hf : Blk w6 (w.heap.size + 1 + 1) 22 (bsC V) := by rw [hw6.out]; exact R2.out.row _
  have hfB : Below w.heap.size w w6 := by rw [hw6.out]; exact below_row B2.out _ (by omega) _
  exact bodyPost_ret (results_cell_tmp rfl _ _ (w.heap.size + 1 + 1) _ _ _ _ rfl hf (by rfl) Tryd.underlying22 (by rw [bsC_size, HVL.out]; exact info16u)) rfl ⟨by rw [HVE.out]; rfl, hfB⟩

set_option maxRecDepth 100000 in
set_option maxHeartbeats 4000000 in
theorem Verify_ok (leaf : Int) (G D V P : List Int) (hG : G.length = 16) (hD : D.length = 560) (hV : V.length = 16) (hP : P.length = 16) (w : World)
    (hR : ∀ W, Below w.heap.size w W → Calls Tryd.prog 31 #[.int .i64 leaf, .agg (bsC G), .agg (bsC D)] W fun e w' => e = .returned (.tuple #[.agg (bsC V), .int .i64 0]) ∧ Below W.heap.size W w') :
    Calls Tryd.prog 30 #[.agg (bsC P), .int .i64 leaf, .agg (bsC G), .agg (bsC D)] w fun e w' => e = .returned (.bool (decide (V = P))) ∧ Below w.heap.size w w' := by
  have HR := Lib.hid hR
  have heq := fun w => eq_arr (t := 22) Tryd.underlying22 V P hV hP 9998 w
  clear hR
  go_enter Tryd.func30, Tryd.ntmps30
  go_upto_region 1 with (fail)
  change Code.wp Tryd.prog _ _ _ (((w.alloc (.cells (bsC P) 22)).alloc (.cells (bsC G) 22)).alloc (.cells (bsC D) 57))
  generalize hW0 : ((w.alloc (.cells (bsC P) 22)).alloc (.cells (bsC G) 22)).alloc (.cells (bsC D) 57) = W0
  obtain ⟨hb1, hb2, hb3, hB0⟩ := boxes3 w hW0
  have P0 := Lib.hid hb1; have G0 := Lib.hid hb2; have D0 := Lib.hid hb3; have B0 := Lib.hid hB0
  clear hW0 hb1 hb2 hb3 hB0
  go_upto_region 2 with (first
    | (refine ld_bs Tryd.underlying22 info16u _ G hG G0.out (by rfl) _ (by rfl) (by rfl) ?_)
    | (refine ld_any Tryd.underlying57 infoSg _ D hD D0.out (by rfl) _ (by rfl) (by rfl) ?_)
    | (go_at_call 31; refine (HR.out _ B0.out).mono ?_; rintro e w1 ⟨rfl, hb⟩; have P1 := Lib.hid (P0.out.keep hb P0.out.lt); have B1 := Lib.hid (B0.out.trans (hb.mono B0.out.size)); clear hb)
    | (refine sto_bs info16u _ V hV _ (Blk.fresh w1 22 (bsC z16)) (by rw [bsC_size]; exact z16_len) (by rfl) _ _ (by rfl) (by rfl) (by rfl) ?_; intro w2 hw))
  have P2 := Lib.hid (show Blk w2 w.heap.size 22 (bsC P) by rw [hw.out]; exact (P1.out.more _).far (Nat.ne_of_lt P1.out.lt) _)
  have V2 := Lib.hid (show Blk w2 w1.heap.size 22 (bsC V) by rw [hw.out]; exact (Blk.fresh w1 _ _).row _)
  have B2 := Lib.hid (show Below w.heap.size w w2 by rw [hw.out]; exact below_row (B1.out.alloc B1.out.size _) _ B1.out.size _)
  clear hw
  go_wp2_with (first
    | (refine ld_bs_g Tryd.underlying22 info16u _ V hV V2.out (by rfl) (.tmp 9) (by rfl) (by rfl) ?_)
    | (refine ld_bs_g Tryd.underlying22 info16u _ P hP P2.out (by rfl) (.tmp 4) (by rfl) (by rfl) ?_))
  go_ret
  exact ⟨rfl, B2.out⟩

set_option maxRecDepth 100000 in
set_option maxHeartbeats 4000000 in
theorem Verify_no (leaf : Int) (G D V P : List Int) (hG : G.length = 16) (hD : D.length = 560) (hV : V.length = 16) (_hP : P.length = 16) (w : World)
    (hR : ∀ W, Below w.heap.size w W → Calls Tryd.prog 31 #[.int .i64 leaf, .agg (bsC G), .agg (bsC D)] W fun e w' => e = .returned (.tuple #[.agg (bsC V), .int .i64 2]) ∧ Below W.heap.size W w') :
    Calls Tryd.prog 30 #[.agg (bsC P), .int .i64 leaf, .agg (bsC G), .agg (bsC D)] w fun e w' => e = .returned (.bool false) ∧ Below w.heap.size w w' := by
  have HR := Lib.hid hR
  clear hR
  go_enter Tryd.func30, Tryd.ntmps30
  go_upto_region 1 with (fail)
  change Code.wp Tryd.prog _ _ _ (((w.alloc (.cells (bsC P) 22)).alloc (.cells (bsC G) 22)).alloc (.cells (bsC D) 57))
  generalize hW0 : ((w.alloc (.cells (bsC P) 22)).alloc (.cells (bsC G) 22)).alloc (.cells (bsC D) 57) = W0
  obtain ⟨hb1, hb2, hb3, hB0⟩ := boxes3 w hW0
  have P0 := Lib.hid hb1; have G0 := Lib.hid hb2; have D0 := Lib.hid hb3; have B0 := Lib.hid hB0
  clear hW0 hb1 hb2 hb3 hB0
  go_upto_region 2 with (first
    | (refine ld_bs Tryd.underlying22 info16u _ G hG G0.out (by rfl) _ (by rfl) (by rfl) ?_)
    | (refine ld_any Tryd.underlying57 infoSg _ D hD D0.out (by rfl) _ (by rfl) (by rfl) ?_)
    | (go_at_call 31; refine (HR.out _ B0.out).mono ?_; rintro e w1 ⟨rfl, hb⟩; have P1 := Lib.hid (P0.out.keep hb P0.out.lt); have B1 := Lib.hid (B0.out.trans (hb.mono B0.out.size)); clear hb)
    | (refine sto_bs info16u _ V hV _ (Blk.fresh w1 22 (bsC z16)) (by rw [bsC_size]; exact z16_len) (by rfl) _ _ (by rfl) (by rfl) (by rfl) ?_; intro w2 hw))
  have P2 := Lib.hid (show Blk w2 w.heap.size 22 (bsC P) by rw [hw.out]; exact (P1.out.more _).far (Nat.ne_of_lt P1.out.lt) _)
  have V2 := Lib.hid (show Blk w2 w1.heap.size 22 (bsC V) by rw [hw.out]; exact (Blk.fresh w1 _ _).row _)
  have B2 := Lib.hid (show Below w.heap.size w w2 by rw [hw.out]; exact below_row (B1.out.alloc B1.out.size _) _ B1.out.size _)
  clear hw
  go_wp2_with (first
    | (refine ld_bs_g Tryd.underlying22 info16u _ V hV V2.out (by rfl) (.tmp 9) (by rfl) (by rfl) ?_)
    | (refine ld_bs_g Tryd.underlying22 info16u _ P _hP P2.out (by rfl) (.tmp 4) (by rfl) (by rfl) ?_))
  go_ret
  exact ⟨rfl, B2.out⟩

end Go.Proofs.YtgfolgmheinbiaaDoorRRR
