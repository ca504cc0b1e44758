/- The program's initial, Sum and SumHalf. -/
import Derived.Test.YtgfolgmheinbiaaDoorRRRFinish
namespace Go.Proofs.YtgfolgmheinbiaaDoorRRR
open Go.RowKit

theorem initial_any (w : World) : Calls Tryd.prog 62 #[] w fun e w' => e = .returned (.agg (stC S5.init)) ∧ Below w.heap.size w w' := by
  go_enter Tryd.func62, Tryd.ntmps62
  go_wp2_with fail
  exact bodyPost_ret (v := .agg (stC S5.init)) (by simp [results, Tryd.results62, go_sem, stC, S5.init]) rfl ⟨rfl, (Below.refl _ w).alloc (Nat.le_refl _) _⟩

theorem sum_eq (l : List Nat) : S5.digest (S5.runAll S5.K (S5.runAll S5.K S5.init l) (S5.lastB (S5.tail l) l.length)) = S5.sha S5.K l := (S5.sha_eq S5.K l).symm
theorem sha_len (l : List Nat) : (S5.sha S5.K l).length = 32 := S5.digest_len _

set_option maxRecDepth 100000 in
set_option maxHeartbeats 2000000 in
theorem sum_any (v : Value) (l : List Nat) (hn : l.length ≤ 1000000000) (w : World) (hT : Tab w) (hv : Bytes w v l) :
    Calls Tryd.prog 57 #[v] w fun e w' => e = .returned (.agg (bsC (S5.sha S5.K l))) ∧ Below w.heap.size w w' := by
  have hpos := hT.1
  have HV := Lib.hid hv
  obtain ⟨_, x0, cap0, hv0, hcl, hcm, _, _⟩ := hv
  subst hv0
  have hnI : (l.length : Int) ≤ 1000000000 := by omega
  obtain ⟨S1, hS1⟩ : ∃ S1, S1 = S5.runAll S5.K S5.init l := ⟨_, rfl⟩
  obtain ⟨D, hD⟩ : ∃ D, D = S5.sha S5.K l := ⟨_, rfl⟩
  have hDl : D.length = 32 := by rw [hD]; exact sha_len l
  have HBL := Lib.hid (fun w hT hv => blocks_any S5.init (.slice x0 l.length cap0) l w hT hv)
  rw [← hS1] at HBL
  have HF := Lib.hid (fun v' w hT hv => finish_any S1 v' (S5.tail l) l.length (by rw [S5.tail_len]; omega) hn w hT hv)
  rw [hS1, sum_eq, ← hD, ← hS1] at HF
  have HDL := Lib.hid hDl; have HD := Lib.hid hD
  clear hS1 hD hDl
  go_enter Tryd.func57, Tryd.ntmps57
  go_upto_region 1 with (fail)
  generalize hW0 : w.alloc (.cells #[.int .u8 0, .int .u8 0, .int .u8 0, .int .u8 0, .int .u8 0, .int .u8 0, .int .u8 0, .int .u8 0, .int .u8 0, .int .u8 0, .int .u8 0, .int .u8 0, .int .u8 0, .int .u8 0, .int .u8 0, .int .u8 0, .int .u8 0, .int .u8 0, .int .u8 0, .int .u8 0, .int .u8 0, .int .u8 0, .int .u8 0, .int .u8 0, .int .u8 0, .int .u8 0, .int .u8 0, .int .u8 0, .int .u8 0, .int .u8 0, .int .u8 0, .int .u8 0] 90) = W0
  have hB0 : Below w.heap.size w W0 := by rw [← hW0]; exact (Below.refl _ w).alloc (Nat.le_refl _) _
  have k2 : Blk W0 w.heap.size 90 #[.int .u8 0, .int .u8 0, .int .u8 0, .int .u8 0, .int .u8 0, .int .u8 0, .int .u8 0, .int .u8 0, .int .u8 0, .int .u8 0, .int .u8 0, .int .u8 0, .int .u8 0, .int .u8 0, .int .u8 0, .int .u8 0, .int .u8 0, .int .u8 0, .int .u8 0, .int .u8 0, .int .u8 0, .int .u8 0, .int .u8 0, .int .u8 0, .int .u8 0, .int .u8 0, .int .u8 0, .int .u8 0, .int .u8 0, .int .u8 0, .int .u8 0, .int .u8 0] := by rw [← hW0]; exact Blk.fresh w _ _
  have K2 := Lib.hid k2; have B0 := Lib.hid hB0
  clear hW0 k2 hB0
  go_wp2_with (first
    | (go_at_call 62; refine (initial_any _).mono ?_; rintro e w1 ⟨rfl, hb1⟩; have b1 := Lib.hid (B0.out.trans (hb1.mono B0.out.size)); have c1 := Lib.hid (K2.out.keep hb1 K2.out.lt); clear hb1)
    | (go_at_call 63; refine (HBL.out _ (hT.below b1.out hpos) (HV.out.below b1.out)).mono ?_; rintro e w2 ⟨v', rfl, hp, hb2⟩; have b2 := Lib.hid (b1.out.trans (hb2.mono b1.out.size)); have c2 := Lib.hid (c1.out.keep hb2 c1.out.lt); clear hb2)
    | (refine sto_st _ S1 _ (Blk.fresh w2 _ _) rfl (by rfl) _ _ (by rfl) (by rfl) (by rfl) ?_; intro w3 hw3; have c3 := Lib.hid (show Blk w3 w2.heap.size 100 (stC S1) by rw [hw3.out]; exact (Blk.fresh w2 _ _).row _); have d3 := Lib.hid (show Blk w3 w.heap.size 90 #[.int .u8 0, .int .u8 0, .int .u8 0, .int .u8 0, .int .u8 0, .int .u8 0, .int .u8 0, .int .u8 0, .int .u8 0, .int .u8 0, .int .u8 0, .int .u8 0, .int .u8 0, .int .u8 0, .int .u8 0, .int .u8 0, .int .u8 0, .int .u8 0, .int .u8 0, .int .u8 0, .int .u8 0, .int .u8 0, .int .u8 0, .int .u8 0, .int .u8 0, .int .u8 0, .int .u8 0, .int .u8 0, .int .u8 0, .int .u8 0, .int .u8 0, .int .u8 0] by rw [hw3.out]; exact (c2.out.more _).far (by have := c2.out.lt; omega) _); have b3 := Lib.hid (show Below w.heap.size w w3 by rw [hw3.out]; exact below_row (b2.out.alloc b2.out.size _) _ b2.out.size _); clear hw3)
    | (refine ld_st _ _ c3.out (by rfl) _ (by rfl) (by rfl) ?_)
    | (go_at_call 64; refine (HF.out _ _ (hT.below b3.out hpos) (hp.out _ (HV.out.below b3.out))).mono ?_; rintro e w4 ⟨rfl, hb4⟩; have b4 := Lib.hid (b3.out.trans (hb4.mono b3.out.size)); have d4 := Lib.hid (d3.out.keep hb4 d3.out.lt); clear hb4)
    | (refine sto_dg _ D HDL.out _ d4.out rfl (by rfl) _ _ (by rfl) (by rfl) (by rfl) ?_; intro w5 hw5))
  have hfin : Blk w5 w.heap.size 90 (bsC D) := by rw [hw5.out]; exact d4.out.row _
  have hfB : Below w.heap.size w w5 := by rw [hw5.out]; exact below_row b4.out _ (Nat.le_refl _) _
  exact bodyPost_ret (results_cell_row rfl _ _ w.heap.size _ _ _ _ rfl hfin Tryd.underlying90 rfl (infoDg D HDL.out)) rfl ⟨by rw [HD.out], hfB⟩
end Go.Proofs.YtgfolgmheinbiaaDoorRRR
