/- The examples of the chapter: known answers true, and writes nothing that was there. (Written by mk_known7.py.) -/
import Derived.Test.YtgfolgmheinbiaaDoorRRRRAdv
import Derived.Test.YtgfolgmheinbiaaDoorRRRRLower
namespace Go.Proofs.YtgfolgmheinbiaaDoorRRR
open Go.RowKit

def n16 : List Nat := List.replicate 16 0
def o16 : List Nat := [0, 0, 0, 0, 0, 0, 0, 0, 0, 0, 0, 0, 0, 0, 0, 1]
def sp0 : List Int := nI (S7.split n16)
theorem n16_len : n16.length = 16 := List.length_replicate
theorem n16_lt : ∀ x ∈ n16, x < 256 := by decide
theorem o16_lt : ∀ x ∈ o16, x < 256 := by decide
theorem sp0_len : sp0.length = 35 := by decide
theorem sp0_31 : sp0.getD 31 0 = 0 := by decide
theorem sp0_32 : sp0.getD 32 0 = 1 := by decide
theorem sp0_33 : sp0.getD 33 0 = 14 := by decide
theorem sp0_34 : sp0.getD 34 0 = 0 := by decide
theorem low_ba : S7.low (S7.split o16) (S7.split n16) = some 31 := by decide
theorem low_ab : S7.low (S7.split n16) (S7.split o16) = some 33 := by decide
theorem nI_n16 : nI n16 = z16 := by decide
theorem nI_o16 : nI o16 = z16.set 15 1 := by decide

theorem yl_int {ops : Array Oper} {S : World → Prop} {o : Oper} {a : Act} {T : TypeId} {k : IntKind} (ha : ∀ w, (isAgg T).run Tryd.prog w = .ok false w) (g j : Nat) (z : Int) (hS : ∀ w, S w → w.cell? ⟨g, j, none⟩ = some (.int k z)) (hw : Region.wanted o (yielded ops a.tmps) = true) (x : Operand) (ho : o.op = .load T x) (hx : a.eval x = .pointer (some ⟨g, j, none⟩)) : YieldsIf Tryd.prog ops S o (.int k z) a :=
  .inl ⟨hw, fun w h => by
    have hc := hS w h
    unfold execOp
    simp only [ho, hx, Instr.loadAt, Instr.sureAddr, Sem.run_bind, Sem.run_pure, Result.andThen_ok]
    simp [loadVar, ha, go_sem, hc]⟩
theorem lower_ba (w : World) : Calls Tryd.prog 12 #[.agg (bsC (z16.set 15 1)), .agg (bsC z16)] w fun e w' => e = .returned (.tuple #[.int .i64 31, .bool true]) ∧ Below w.heap.size w w' := by
  have h := lower_any o16 n16 rfl n16_len o16_lt n16_lt w
  rw [low_ba, nI_n16, nI_o16] at h
  exact h
theorem lower_ab (w : World) : Calls Tryd.prog 12 #[.agg (bsC z16), .agg (bsC (z16.set 15 1))] w fun e w' => e = .returned (.tuple #[.int .i64 33, .bool true]) ∧ Below w.heap.size w w' := by
  have h := lower_any n16 o16 n16_len rfl n16_lt o16_lt w
  rw [low_ab, nI_n16, nI_o16] at h
  exact h
theorem split_0 (w : World) : Calls Tryd.prog 15 #[.agg (bsC z16)] w fun e w' => e = .returned (.agg (ksC .i64 sp0)) ∧ Below w.heap.size w w' := by
  have h := split_any n16 n16_len n16_lt w
  rw [nI_n16] at h
  exact h

set_option maxRecDepth 100000 in
set_option maxHeartbeats 8000000 in
theorem known_any (w : World) (hT : Tab w) : Calls Tryd.prog 14 #[] w fun e w' => e = .returned (.bool true) ∧ Below w.heap.size w w' := by
  have hp := hT.1
  obtain ⟨Z, hZ⟩ : ∃ Z, Z = z16 := ⟨_, rfl⟩
  obtain ⟨O, hO⟩ : ∃ O, O = z16.set 15 1 := ⟨_, rfl⟩
  obtain ⟨V, hV⟩ : ∃ V, V = nI (S7.step 1 2 3 n16) := ⟨_, rfl⟩
  obtain ⟨S, hS⟩ : ∃ S, S = sp0 := ⟨_, rfl⟩
  have HSP := Lib.hid (show ∀ W, Calls Tryd.prog 15 #[.agg (bsC Z)] W fun e w' => e = .returned (.agg (ksC .i64 S)) ∧ Below W.heap.size W w' from fun W => by rw [hZ, hS]; exact split_0 W)
  have HL1 := Lib.hid (show ∀ W, Calls Tryd.prog 12 #[.agg (bsC O), .agg (bsC Z)] W fun e w' => e = .returned (.tuple #[.int .i64 31, .bool true]) ∧ Below W.heap.size W w' from fun W => by rw [hZ, hO]; exact lower_ba W)
  have HL2 := Lib.hid (show ∀ W, Calls Tryd.prog 12 #[.agg (bsC Z), .agg (bsC O)] W fun e w' => e = .returned (.tuple #[.int .i64 33, .bool true]) ∧ Below W.heap.size W w' from fun W => by rw [hZ, hO]; exact lower_ab W)
  have HST := Lib.hid (show ∀ W, Tab W → Calls Tryd.prog 20 #[.int .i64 1, .int .i64 2, .int .i64 3, .agg (bsC Z)] W fun e w' => e = .returned (.tuple #[.agg (bsC V), .int .i64 0]) ∧ Below W.heap.size W w' from fun W hT => by
    rw [hZ, hV, ← nI_n16]; exact Step_ok 1 2 3 n16 n16_len n16_lt (by omega) (by omega) (by omega) W hT)
  have HRS := Lib.hid (show ∀ W, Calls Tryd.prog 22 #[.int .i64 1, .int .i64 2, .int .i64 3, .agg (bsC Z)] W fun e w' => e = .returned (.agg (bsC V)) ∧ Below W.heap.size W w' from fun W => by
    rw [hZ, hV, ← nI_n16]; exact rStep_any 1 2 3 n16 n16_len n16_lt (by omega) (by omega) (by omega) W)
  have HVL := Lib.hid (show V.length = 16 by rw [hV, nI_len]; exact S7.half_len _)
  have HZL := Lib.hid (show Z.length = 16 by rw [hZ]; exact z16_len)
  have HOL := Lib.hid (show O.length = 16 by rw [hO, List.length_set]; exact z16_len)
  have HSL := Lib.hid (show S.length = 35 by rw [hS]; exact sp0_len)
  have s31 := Lib.hid (show S.getD 31 0 = 0 by rw [hS]; exact sp0_31)
  have s32 := Lib.hid (show S.getD 32 0 = 1 by rw [hS]; exact sp0_32)
  have s33 := Lib.hid (show S.getD 33 0 = 14 by rw [hS]; exact sp0_33)
  have s34 := Lib.hid (show S.getD 34 0 = 0 by rw [hS]; exact sp0_34)
  have heq := fun w => eq_same (t := 36) Tryd.underlying36 V HVL.out w
  have HZ := Lib.hid hZ; have HO := Lib.hid hO
  clear hZ hO hV hS
  go_enter Tryd.func14, Tryd.ntmps14
  go_upto_region 2 with (fail)
  change Code.wp Tryd.prog _ _ _ ((w.alloc (.cells (bsC z16) 22)).alloc (.cells (bsC z16) 22))
  generalize hW0 : (w.alloc (.cells (bsC z16) 22)).alloc (.cells (bsC z16) 22) = W0
  obtain ⟨hb1, hb2, hB0⟩ := boxes2 w hW0
  have c15 : W0.cell? ⟨w.heap.size + 1, 15, none⟩ = some (.int .u8 0) := by rw [hb2.cell]; rfl
  have f15 : W0.frozen? ⟨w.heap.size + 1, 15, none⟩ = false := hb2.free 15
  have hb3 := hb2.put 15 (.int .u8 1)
  rw [bsC_set, ← HO.out] at hb3
  rw [← HZ.out] at hb1
  have K1 := Lib.hid (hb1.away (show w.heap.size ≠ w.heap.size + 1 by omega) 15 (.int .u8 1)); have K2 := Lib.hid hb3; have B0 := Lib.hid (below_put hB0 (w.heap.size + 1) 15 (by omega) (.int .u8 1))
  clear hW0 hb1 hb2 hB0 hb3
  go_upto_region 3 with (fail)
  generalize hW1 : W0.setCell ⟨w.heap.size + 1, 15, none⟩ (.int .u8 1) = W1 at *
  clear hW1 c15 f15
  go_upto_region 4 with (first
    | (refine ld_bs Tryd.underlying22 info16u _ Z HZL.out K1.out (by rfl) _ (by rfl) (by rfl) ?_)
    | (go_at_call 15; refine (HSP.out _).mono ?_; rintro e w2 ⟨rfl, hb⟩; have K12 := Lib.hid (K1.out.keep hb K1.out.lt); have K22 := Lib.hid (K2.out.keep hb K2.out.lt); have B2 := Lib.hid (B0.out.trans (hb.mono B0.out.size)); clear hb)
    | (refine sto_ks info35 _ S HSL.out _ (Blk.fresh w2 27 (ksC .i64 z35)) (by rw [ksC_size]; exact z35_len) (by rfl) _ _ (by rfl) (by rfl) (by rfl) ?_; intro w3 hw3))
  have S3 := Lib.hid (show Blk w3 w2.heap.size 27 (ksC .i64 S) by rw [hw3.out]; exact (Blk.fresh w2 _ _).row _)
  have K13 := Lib.hid (show Blk w3 w.heap.size 22 (bsC Z) by rw [hw3.out]; exact (K12.out.more _).far (Nat.ne_of_lt K12.out.lt) _)
  have K23 := Lib.hid (show Blk w3 (w.heap.size + 1) 22 (bsC O) by rw [hw3.out]; exact (K22.out.more _).far (Nat.ne_of_lt K22.out.lt) _)
  have B3 := Lib.hid (show Below w.heap.size w w3 by rw [hw3.out]; exact below_row (B2.out.alloc B2.out.size _) _ B2.out.size _)
  clear hw3 K1 K2 B0 K12 K22 B2
  generalize w2.heap.size = gs at *
  go_upto_region 5 with (first
    | (refine ld_bs Tryd.underlying22 info16u _ O HOL.out K23.out (by rfl) _ (by rfl) (by rfl) ?_)
    | (refine ld_bs Tryd.underlying22 info16u _ Z HZL.out K13.out (by rfl) _ (by rfl) (by rfl) ?_)
    | (go_at_call 12; refine (HL1.out _).mono ?_; rintro e w4 ⟨rfl, hb⟩; have S4 := Lib.hid (S3.out.keep hb S3.out.lt); have K14 := Lib.hid (K13.out.keep hb K13.out.lt); have K24 := Lib.hid (K23.out.keep hb K23.out.lt); have B4 := Lib.hid (B3.out.trans (hb.mono B3.out.size)); clear hb))
  clear S3 K13 K23 B3
  go_upto_region 6 with (first
    | (refine ld_bs Tryd.underlying22 info16u _ O HOL.out K24.out (by rfl) _ (by rfl) (by rfl) ?_)
    | (refine ld_bs Tryd.underlying22 info16u _ Z HZL.out K14.out (by rfl) _ (by rfl) (by rfl) ?_)
    | (go_at_call 12; refine (HL2.out _).mono ?_; rintro e w5 ⟨rfl, hb⟩; have S5 := Lib.hid (S4.out.keep hb S4.out.lt); have K15 := Lib.hid (K14.out.keep hb K14.out.lt); have B5 := Lib.hid (B4.out.trans (hb.mono B4.out.size)); clear hb))
  clear S4 K14 K24 B4
  go_upto_region 7 with (first
    | (refine ld_bs Tryd.underlying22 info16u _ Z HZL.out K15.out (by rfl) _ (by rfl) (by rfl) ?_)
    | (go_at_call 20; refine (HST.out _ (hT.below B5.out hp)).mono ?_; rintro e w6 ⟨rfl, hb⟩; have S6 := Lib.hid (S5.out.keep hb S5.out.lt); have K16 := Lib.hid (K15.out.keep hb K15.out.lt); have B6 := Lib.hid (B5.out.trans (hb.mono B5.out.size)); clear hb)
    | (refine sto_bs info16u _ V HVL.out _ (Blk.fresh w6 22 (bsC z16)) (by rw [bsC_size]; exact z16_len) (by rfl) _ _ (by rfl) (by rfl) (by rfl) ?_; intro w7 hw7))
  have V7 := Lib.hid (show Blk w7 w6.heap.size 22 (bsC V) by rw [hw7.out]; exact (Blk.fresh w6 _ _).row _)
  have S7' := Lib.hid (show Blk w7 gs 27 (ksC .i64 S) by rw [hw7.out]; exact (S6.out.more _).far (Nat.ne_of_lt S6.out.lt) _)
  have K17 := Lib.hid (show Blk w7 w.heap.size 22 (bsC Z) by rw [hw7.out]; exact (K16.out.more _).far (Nat.ne_of_lt K16.out.lt) _)
  have B7 := Lib.hid (show Below w.heap.size w w7 by rw [hw7.out]; exact below_row (B6.out.alloc B6.out.size _) _ B6.out.size _)
  clear hw7 S5 K15 B5 S6 K16 B6
  generalize w6.heap.size = gv at *

  refine wp_region_held_drew (S := fun W => Blk W gs 27 (ksC .i64 S) ∧ Blk W gv 22 (bsC V) ∧ Blk W w.heap.size 22 (bsC Z)) (by kernel_rfl) ?_ (fun hHeld => ?_)
  · exact ⟨S7'.out.draw, V7.out.draw, K17.out.draw⟩
  refine wpAnyH_take (i := 0) (v := ?_) rfl (by kernel_rfl) (by kernel_rfl) (by kernel_rfl) (fun _ _ _ h => h) (Or.inl ⟨by rfl, ?_⟩) (by assumption) ?_
  rotate_left
  · (intro w9 _; go_simp; try with_reducible rfl)
  simp only [Act.put, List.getElem_toArray, List.getElem_cons_zero, List.setIfInBounds_toArray, List.set_cons_succ, List.set_cons_zero]
  refine wpAnyH_take (i := 1) (v := .int .i64 0) rfl (by kernel_rfl) (by kernel_rfl) (by kernel_rfl) (fun _ _ _ h => h) (yl_int (fun w => by kernel_rfl) gs 31 0 (fun _ h => by rw [h.1.cell, ksC_get .i64 S 31 (by rw [HSL.out]; omega), s31.out]) (by rfl) _ rfl rfl) (by assumption) ?_
  simp only [Act.put, List.getElem_toArray, List.getElem_cons_succ, List.getElem_cons_zero, List.setIfInBounds_toArray, List.set_cons_succ, List.set_cons_zero]
  refine wpAnyH_take (i := 2) (v := ?_) rfl (by kernel_rfl) (by kernel_rfl) (by kernel_rfl) (fun _ _ _ h => h) (Or.inl ⟨by rfl, ?_⟩) (by assumption) ?_
  rotate_left
  · (intro w9 _; go_simp; try with_reducible rfl)
  simp only [Act.put, List.getElem_toArray, List.getElem_cons_succ, List.getElem_cons_zero, List.setIfInBounds_toArray, List.set_cons_succ, List.set_cons_zero]
  refine wpAnyH_take (i := 3) (v := ?_) rfl (by kernel_rfl) (by kernel_rfl) (by kernel_rfl) (fun _ _ _ h => h) (Or.inl ⟨by rfl, ?_⟩) (by assumption) ?_
  rotate_left
  · (intro w9 _; go_simp; try with_reducible rfl)
  simp only [Act.put, List.getElem_toArray, List.getElem_cons_succ, List.getElem_cons_zero, List.setIfInBounds_toArray, List.set_cons_succ, List.set_cons_zero]
  refine wpAnyH_take (i := 4) (v := ?_) rfl (by kernel_rfl) (by kernel_rfl) (by kernel_rfl) (fun _ _ _ h => h) (Or.inl ⟨by rfl, ?_⟩) (by assumption) ?_
  rotate_left
  · (intro w9 _; go_simp; try with_reducible rfl)
  simp only [Act.put, List.getElem_toArray, List.getElem_cons_succ, List.getElem_cons_zero, List.setIfInBounds_toArray, List.set_cons_succ, List.set_cons_zero]
  refine wpAnyH_take (i := 5) (v := .int .i64 1) rfl (by kernel_rfl) (by kernel_rfl) (by kernel_rfl) (fun _ _ _ h => h) (yl_int (fun w => by kernel_rfl) gs 32 1 (fun _ h => by rw [h.1.cell, ksC_get .i64 S 32 (by rw [HSL.out]; omega), s32.out]) (by rfl) _ rfl rfl) (by assumption) ?_
  simp only [Act.put, List.getElem_toArray, List.getElem_cons_succ, List.getElem_cons_zero, List.setIfInBounds_toArray, List.set_cons_succ, List.set_cons_zero]
  refine wpAnyH_take (i := 6) (v := ?_) rfl (by kernel_rfl) (by kernel_rfl) (by kernel_rfl) (fun _ _ _ h => h) (Or.inl ⟨by rfl, ?_⟩) (by assumption) ?_
  rotate_left
  · (intro w9 _; go_simp; try with_reducible rfl)
  simp only [Act.put, List.getElem_toArray, List.getElem_cons_succ, List.getElem_cons_zero, List.setIfInBounds_toArray, List.set_cons_succ, List.set_cons_zero]
  refine wpAnyH_take (i := 7) (v := ?_) rfl (by kernel_rfl) (by kernel_rfl) (by kernel_rfl) (fun _ _ _ h => h) (Or.inl ⟨by rfl, ?_⟩) (by assumption) ?_
  rotate_left
  · (intro w9 _; go_simp; try with_reducible rfl)
  simp only [Act.put, List.getElem_toArray, List.getElem_cons_succ, List.getElem_cons_zero, List.setIfInBounds_toArray, List.set_cons_succ, List.set_cons_zero]
  refine wpAnyH_take (i := 8) (v := ?_) rfl (by kernel_rfl) (by kernel_rfl) (by kernel_rfl) (fun _ _ _ h => h) (Or.inl ⟨by rfl, ?_⟩) (by assumption) ?_
  rotate_left
  · (intro w9 _; go_simp; try with_reducible rfl)
  simp only [Act.put, List.getElem_toArray, List.getElem_cons_succ, List.getElem_cons_zero, List.setIfInBounds_toArray, List.set_cons_succ, List.set_cons_zero]
  refine wpAnyH_take (i := 9) (v := ?_) rfl (by kernel_rfl) (by kernel_rfl) (by kernel_rfl) (fun _ _ _ h => h) (Or.inl ⟨by rfl, ?_⟩) (by assumption) ?_
  rotate_left
  · (intro w9 _; go_simp; try with_reducible rfl)
  simp only [Act.put, List.getElem_toArray, List.getElem_cons_succ, List.getElem_cons_zero, List.setIfInBounds_toArray, List.set_cons_succ, List.set_cons_zero]
  refine wpAnyH_take (i := 10) (v := .int .i64 14) rfl (by kernel_rfl) (by kernel_rfl) (by kernel_rfl) (fun _ _ _ h => h) (yl_int (fun w => by kernel_rfl) gs 33 14 (fun _ h => by rw [h.1.cell, ksC_get .i64 S 33 (by rw [HSL.out]; omega), s33.out]) (by rfl) _ rfl rfl) (by assumption) ?_
  simp only [Act.put, List.getElem_toArray, List.getElem_cons_succ, List.getElem_cons_zero, List.setIfInBounds_toArray, List.set_cons_succ, List.set_cons_zero]
  refine wpAnyH_take (i := 11) (v := ?_) rfl (by kernel_rfl) (by kernel_rfl) (by kernel_rfl) (fun _ _ _ h => h) (Or.inl ⟨by rfl, ?_⟩) (by assumption) ?_
  rotate_left
  · (intro w9 _; go_simp; try with_reducible rfl)
  simp only [Act.put, List.getElem_toArray, List.getElem_cons_succ, List.getElem_cons_zero, List.setIfInBounds_toArray, List.set_cons_succ, List.set_cons_zero]
  refine wpAnyH_take (i := 12) (v := ?_) rfl (by kernel_rfl) (by kernel_rfl) (by kernel_rfl) (fun _ _ _ h => h) (Or.inl ⟨by rfl, ?_⟩) (by assumption) ?_
  rotate_left
  · (intro w9 _; go_simp; try with_reducible rfl)
  simp only [Act.put, List.getElem_toArray, List.getElem_cons_succ, List.getElem_cons_zero, List.setIfInBounds_toArray, List.set_cons_succ, List.set_cons_zero]
  refine wpAnyH_take (i := 13) (v := ?_) rfl (by kernel_rfl) (by kernel_rfl) (by kernel_rfl) (fun _ _ _ h => h) (Or.inl ⟨by rfl, ?_⟩) (by assumption) ?_
  rotate_left
  · (intro w9 _; go_simp; try with_reducible rfl)
  simp only [Act.put, List.getElem_toArray, List.getElem_cons_succ, List.getElem_cons_zero, List.setIfInBounds_toArray, List.set_cons_succ, List.set_cons_zero]
  refine wpAnyH_take (i := 14) (v := ?_) rfl (by kernel_rfl) (by kernel_rfl) (by kernel_rfl) (fun _ _ _ h => h) (Or.inl ⟨by rfl, ?_⟩) (by assumption) ?_
  rotate_left
  · (intro w9 _; go_simp; try with_reducible rfl)
  simp only [Act.put, List.getElem_toArray, List.getElem_cons_succ, List.getElem_cons_zero, List.setIfInBounds_toArray, List.set_cons_succ, List.set_cons_zero]
  refine wpAnyH_take (i := 15) (v := .int .i64 0) rfl (by kernel_rfl) (by kernel_rfl) (by kernel_rfl) (fun _ _ _ h => h) (yl_int (fun w => by kernel_rfl) gs 34 0 (fun _ h => by rw [h.1.cell, ksC_get .i64 S 34 (by rw [HSL.out]; omega), s34.out]) (by rfl) _ rfl rfl) (by assumption) ?_
  simp only [Act.put, List.getElem_toArray, List.getElem_cons_succ, List.getElem_cons_zero, List.setIfInBounds_toArray, List.set_cons_succ, List.set_cons_zero]
  refine wpAnyH_take (i := 16) (v := ?_) rfl (by kernel_rfl) (by kernel_rfl) (by kernel_rfl) (fun _ _ _ h => h) (Or.inl ⟨by rfl, ?_⟩) (by assumption) ?_
  rotate_left
  · (intro w9 _; go_simp; try with_reducible rfl)
  simp only [Act.put, List.getElem_toArray, List.getElem_cons_succ, List.getElem_cons_zero, List.setIfInBounds_toArray, List.set_cons_succ, List.set_cons_zero]
  refine wpAnyH_take (i := 17) (v := ?_) rfl (by kernel_rfl) (by kernel_rfl) (by kernel_rfl) (fun _ _ _ h => h) (Or.inl ⟨by rfl, ?_⟩) (by assumption) ?_
  rotate_left
  · (intro w9 _; go_simp; try with_reducible rfl)
  simp only [Act.put, List.getElem_toArray, List.getElem_cons_succ, List.getElem_cons_zero, List.setIfInBounds_toArray, List.set_cons_succ, List.set_cons_zero]
  refine wpAnyH_take (i := 18) (v := ?_) rfl (by kernel_rfl) (by kernel_rfl) (by kernel_rfl) (fun _ _ _ h => h) (Or.inl ⟨by rfl, ?_⟩) (by assumption) ?_
  rotate_left
  · (intro w9 _; go_simp; try with_reducible rfl)
  simp only [Act.put, List.getElem_toArray, List.getElem_cons_succ, List.getElem_cons_zero, List.setIfInBounds_toArray, List.set_cons_succ, List.set_cons_zero]
  refine wpAnyH_take (i := 19) (v := ?_) rfl (by kernel_rfl) (by kernel_rfl) (by kernel_rfl) (fun _ _ _ h => h) (Or.inl ⟨by rfl, ?_⟩) (by assumption) ?_
  rotate_left
  · (intro w9 _; go_simp; try with_reducible rfl)
  simp only [Act.put, List.getElem_toArray, List.getElem_cons_succ, List.getElem_cons_zero, List.setIfInBounds_toArray, List.set_cons_succ, List.set_cons_zero]
  refine wpAnyH_take (i := 20) (v := ?_) rfl (by kernel_rfl) (by kernel_rfl) (by kernel_rfl) (fun _ _ _ h => h) (Or.inl ⟨by rfl, ?_⟩) (by assumption) ?_
  rotate_left
  · (intro w9 _; go_simp; try with_reducible rfl)
  simp only [Act.put, List.getElem_toArray, List.getElem_cons_succ, List.getElem_cons_zero, List.setIfInBounds_toArray, List.set_cons_succ, List.set_cons_zero]
  refine wpAnyH_take (i := 21) (v := ?_) rfl (by kernel_rfl) (by kernel_rfl) (by kernel_rfl) (fun _ _ _ h => h) (Or.inl ⟨by rfl, ?_⟩) (by assumption) ?_
  rotate_left
  · (intro w9 _; go_simp; try with_reducible rfl)
  simp only [Act.put, List.getElem_toArray, List.getElem_cons_succ, List.getElem_cons_zero, List.setIfInBounds_toArray, List.set_cons_succ, List.set_cons_zero]
  refine wpAnyH_take (i := 22) (v := ?_) rfl (by kernel_rfl) (by kernel_rfl) (by kernel_rfl) (fun _ _ _ h => h) (Or.inl ⟨by rfl, ?_⟩) (by assumption) ?_
  rotate_left
  · (intro w9 _; go_simp; try with_reducible rfl)
  simp only [Act.put, List.getElem_toArray, List.getElem_cons_succ, List.getElem_cons_zero, List.setIfInBounds_toArray, List.set_cons_succ, List.set_cons_zero]
  refine wpAnyH_take (i := 23) (v := ?_) rfl (by kernel_rfl) (by kernel_rfl) (by kernel_rfl) (fun _ _ _ h => h) (Or.inl ⟨by rfl, ?_⟩) (by assumption) ?_
  rotate_left
  · (intro w9 _; go_simp; try with_reducible rfl)
  simp only [Act.put, List.getElem_toArray, List.getElem_cons_succ, List.getElem_cons_zero, List.setIfInBounds_toArray, List.set_cons_succ, List.set_cons_zero]
  refine wpAnyH_take (i := 24) (v := ?_) rfl (by kernel_rfl) (by kernel_rfl) (by kernel_rfl) (fun _ _ _ h => h) (Or.inl ⟨by rfl, ?_⟩) (by assumption) ?_
  rotate_left
  · (intro w9 _; go_simp; try with_reducible rfl)
  simp only [Act.put, List.getElem_toArray, List.getElem_cons_succ, List.getElem_cons_zero, List.setIfInBounds_toArray, List.set_cons_succ, List.set_cons_zero]
  refine wpAnyH_take (i := 25) (v := ?_) rfl (by kernel_rfl) (by kernel_rfl) (by kernel_rfl) (fun _ _ _ h => h) (Or.inl ⟨by rfl, ?_⟩) (by assumption) ?_
  rotate_left
  · (intro w9 _; go_simp; try with_reducible rfl)
  simp only [Act.put, List.getElem_toArray, List.getElem_cons_succ, List.getElem_cons_zero, List.setIfInBounds_toArray, List.set_cons_succ, List.set_cons_zero]
  refine wpAnyH_take (i := 26) (v := ?_) rfl (by kernel_rfl) (by kernel_rfl) (by kernel_rfl) (fun _ _ _ h => h) (Or.inl ⟨by rfl, ?_⟩) (by assumption) ?_
  rotate_left
  · (intro w9 _; go_simp; try with_reducible rfl)
  simp only [Act.put, List.getElem_toArray, List.getElem_cons_succ, List.getElem_cons_zero, List.setIfInBounds_toArray, List.set_cons_succ, List.set_cons_zero]
  refine wpAnyH_take (i := 27) (v := ?_) rfl (by kernel_rfl) (by kernel_rfl) (by kernel_rfl) (fun _ _ _ h => h) (Or.inl ⟨by rfl, ?_⟩) (by assumption) ?_
  rotate_left
  · (intro w9 _; go_simp; try with_reducible rfl)
  simp only [Act.put, List.getElem_toArray, List.getElem_cons_succ, List.getElem_cons_zero, List.setIfInBounds_toArray, List.set_cons_succ, List.set_cons_zero]
  refine wpAnyH_take (i := 28) (v := ?_) rfl (by kernel_rfl) (by kernel_rfl) (by kernel_rfl) (fun _ _ _ h => h) (Or.inl ⟨by rfl, ?_⟩) (by assumption) ?_
  rotate_left
  · (intro w9 _; go_simp; try with_reducible rfl)
  simp only [Act.put, List.getElem_toArray, List.getElem_cons_succ, List.getElem_cons_zero, List.setIfInBounds_toArray, List.set_cons_succ, List.set_cons_zero]
  refine wpAnyH_take (i := 29) (v := ?_) rfl (by kernel_rfl) (by kernel_rfl) (by kernel_rfl) (fun _ _ _ h => h) (Or.inl ⟨by rfl, ?_⟩) (by assumption) ?_
  rotate_left
  · (intro w9 _; go_simp; try with_reducible rfl)
  simp only [Act.put, List.getElem_toArray, List.getElem_cons_succ, List.getElem_cons_zero, List.setIfInBounds_toArray, List.set_cons_succ, List.set_cons_zero]
  refine wpAnyH_take (i := 30) (v := ?_) rfl (by kernel_rfl) (by kernel_rfl) (by kernel_rfl) (fun _ _ _ h => h) (Or.inl ⟨by rfl, ?_⟩) (by assumption) ?_
  rotate_left
  · (intro w9 _; go_simp; try with_reducible rfl)
  simp only [Act.put, List.getElem_toArray, List.getElem_cons_succ, List.getElem_cons_zero, List.setIfInBounds_toArray, List.set_cons_succ, List.set_cons_zero]
  refine wpAnyH_take (i := 31) (v := ?_) rfl (by kernel_rfl) (by kernel_rfl) (by kernel_rfl) (fun _ _ _ h => h) (Or.inl ⟨by rfl, ?_⟩) (by assumption) ?_
  rotate_left
  · (intro w9 _; go_simp; try with_reducible rfl)
  simp only [Act.put, List.getElem_toArray, List.getElem_cons_succ, List.getElem_cons_zero, List.setIfInBounds_toArray, List.set_cons_succ, List.set_cons_zero]
  refine wpAnyH_take (i := 32) (v := ?_) rfl (by kernel_rfl) (by kernel_rfl) (by kernel_rfl) (fun _ _ _ h => h) (Or.inl ⟨by rfl, ?_⟩) (by assumption) ?_
  rotate_left
  · (intro w9 _; go_simp; try with_reducible rfl)
  simp only [Act.put, List.getElem_toArray, List.getElem_cons_succ, List.getElem_cons_zero, List.setIfInBounds_toArray, List.set_cons_succ, List.set_cons_zero]
  refine wpAnyH_take (i := 33) (v := ?_) rfl (by kernel_rfl) (by kernel_rfl) (by kernel_rfl) (fun _ _ _ h => h) (Or.inl ⟨by rfl, ?_⟩) (by assumption) ?_
  rotate_left
  · (intro w9 _; go_simp; try with_reducible rfl)
  simp only [Act.put, List.getElem_toArray, List.getElem_cons_succ, List.getElem_cons_zero, List.setIfInBounds_toArray, List.set_cons_succ, List.set_cons_zero]
  refine wpAnyH_take (i := 34) (v := ?_) rfl (by kernel_rfl) (by kernel_rfl) (by kernel_rfl) (fun _ _ _ h => h) (Or.inl ⟨by rfl, ?_⟩) (by assumption) ?_
  rotate_left
  · (intro w9 _; go_simp; try with_reducible rfl)
  simp only [Act.put, List.getElem_toArray, List.getElem_cons_succ, List.getElem_cons_zero, List.setIfInBounds_toArray, List.set_cons_succ, List.set_cons_zero]
  refine wpAnyH_take (i := 35) (v := ?_) rfl (by kernel_rfl) (by kernel_rfl) (by kernel_rfl) (fun _ _ _ h => h) (Or.inl ⟨by rfl, ?_⟩) (by assumption) ?_
  rotate_left
  · (intro w9 _; go_simp; try with_reducible rfl)
  simp only [Act.put, List.getElem_toArray, List.getElem_cons_succ, List.getElem_cons_zero, List.setIfInBounds_toArray, List.set_cons_succ, List.set_cons_zero]
  refine wpAnyH_take (i := 36) (v := ?_) rfl (by kernel_rfl) (by kernel_rfl) (by kernel_rfl) (fun _ _ _ h => h) (Or.inl ⟨by rfl, ?_⟩) (by assumption) ?_
  rotate_left
  · (intro w9 _; go_simp; try with_reducible rfl)
  simp only [Act.put, List.getElem_toArray, List.getElem_cons_succ, List.getElem_cons_zero, List.setIfInBounds_toArray, List.set_cons_succ, List.set_cons_zero]
  refine wpAnyH_take (i := 37) (v := .agg (bsC V)) rfl (by kernel_rfl) (by kernel_rfl) (by kernel_rfl) (fun _ _ _ h => h) (yl_bs Tryd.underlying22 info16u _ _ HVL.out (fun _ h => h.2.1) (by rfl) _ rfl rfl) (by assumption) ?_
  simp only [Act.put, List.getElem_toArray, List.getElem_cons_succ, List.getElem_cons_zero, List.setIfInBounds_toArray, List.set_cons_succ, List.set_cons_zero]
  refine wpAnyH_take (i := 38) (v := .agg (bsC Z)) rfl (by kernel_rfl) (by kernel_rfl) (by kernel_rfl) (fun _ _ _ h => h) (yl_bs Tryd.underlying22 info16u _ _ HZL.out (fun _ h => h.2.2) (by rfl) _ rfl rfl) (by assumption) ?_
  simp only [Act.put, List.getElem_toArray, List.getElem_cons_succ, List.getElem_cons_zero, List.setIfInBounds_toArray, List.set_cons_succ, List.set_cons_zero]
  refine wpAnyH_ready (rs := [39]) (by kernel_rfl) (by simp) ?_
  refine AllReadyH.cons rfl (fun K hK => ?_) AllReadyH.nil
  go_simp
  refine (HRS.out _).mono ?_
  rintro e w8 ⟨rfl, hb⟩
  have B8 := Lib.hid (B7.out.drew.trans (hb.mono B7.out.drew.size))
  refine hK.out _ _ ⟨S7'.out.draw.keep hb S7'.out.draw.lt, V7.out.draw.keep hb V7.out.draw.lt, K17.out.draw.keep hb K17.out.draw.lt⟩ (fun hHeld => ?_)
  clear hK K hb
  refine wpAnyH_take (i := 40) (v := ?_) rfl (by kernel_rfl) (by kernel_rfl) (by kernel_rfl) (fun _ _ _ h => h) (Or.inl ⟨by rfl, ?_⟩) (by assumption) ?_
  rotate_left
  · (intro w9 _; go_simp; try with_reducible rfl)
  simp only [Act.put, List.getElem_toArray, List.getElem_cons_succ, List.getElem_cons_zero, List.setIfInBounds_toArray, List.set_cons_succ, List.set_cons_zero]
  refine wpAnyH_take (i := 41) (v := ?_) rfl (by kernel_rfl) (by kernel_rfl) (by kernel_rfl) (fun _ _ _ h => h) (Or.inl ⟨by rfl, ?_⟩) (by assumption) ?_
  rotate_left
  · (intro w9 _; go_simp; try with_reducible rfl)
  simp only [Act.put, List.getElem_toArray, List.getElem_cons_succ, List.getElem_cons_zero, List.setIfInBounds_toArray, List.set_cons_succ, List.set_cons_zero]
  refine wpAnyH_take (i := 42) (v := ?_) rfl (by kernel_rfl) (by kernel_rfl) (by kernel_rfl) (fun _ _ _ h => h) (Or.inl ⟨by rfl, ?_⟩) (by assumption) ?_
  rotate_left
  · (intro w9 _; go_simp; try with_reducible rfl)
  simp only [Act.put, List.getElem_toArray, List.getElem_cons_succ, List.getElem_cons_zero, List.setIfInBounds_toArray, List.set_cons_zero]
  refine wpAnyH_done (by kernel_rfl) ?_ _
  go_wp2_with fail
  go_ret
  exact ⟨rfl, B8.out⟩
end Go.Proofs.YtgfolgmheinbiaaDoorRRR
