/- OnetimePublic: whatever seed and number come in, the law's call returns true and its arguments read as before; the table of constants reads as the program's text lays it (the card ties it).
   Conditions: none beyond the row's own. -/
import Derived.Test.YtgfolgmheinbiaaDoorRRRLawB
import Derived.Test.YtgfolgmheinbiaaDoorRRRPub
import Derived.Test.YtgfolgmheinbiaaDoorRRRRVals
namespace Go.Proofs.YtgfolgmheinbiaaDoorRRR.onetimePublicLaw
open Go.ChangeShapes Go.WideShapes Go.ChangeAt Go.RowKit
open Go.ChangeMaps (open_string shut_string)

def p1N : List Nat := 1 :: List.replicate 15 0
def p2N : List Nat := 2 :: List.replicate 15 0
def e12N : List Nat := p1N ++ p2N ++ List.replicate 528 0
theorem e12_len : e12N.length = 560 := by decide +kernel
theorem e12_lt : ∀ x ∈ e12N, x < 256 := by decide +kernel
theorem b1_run (w : World) : (Instr.build 22 #[(0, .int .u8 1)]).run Tryd.prog w = .ok (.agg (bsC (nI p1N))) w := by kernel_rfl
theorem b2_run (w : World) : (Instr.build 22 #[(0, .int .u8 2)]).run Tryd.prog w = .ok (.agg (bsC (nI p2N))) w := by kernel_rfl
theorem b3_run (w : World) : (Instr.build 51 #[(0, .agg (bsC (nI p1N))), (1, .agg (bsC (nI p2N)))]).run Tryd.prog w = .ok (.agg (bsC (nI e12N))) w := by kernel_rfl
theorem r1_run (w : World) : (Instr.build 36 #[(0, .int .u8 1)]).run Tryd.prog w = .ok (.agg (bsC (nI p1N))) w := by kernel_rfl
theorem r2_run (w : World) : (Instr.build 36 #[(0, .int .u8 2)]).run Tryd.prog w = .ok (.agg (bsC (nI p2N))) w := by kernel_rfl
theorem r3_run (w : World) : (Instr.build 53 #[(0, .agg (bsC (nI p1N))), (1, .agg (bsC (nI p2N)))]).run Tryd.prog w = .ok (.agg (bsC (nI e12N))) w := by kernel_rfl
theorem wp_bld1 {T : TypeId} {u v : Value} (hr : ∀ w, (Instr.build T #[(0, u)]).run Tryd.prog w = .ok v w) {ops : Array Oper} {rest : List Oper} {o : Oper} {a : Act} {w : World} {Q : Exit → Act → World → Prop} (hw : Region.wanted o (yielded ops a.tmps) = true) (y : Operand) (ho : o.op = .build T #[(0, y)]) (hx : a.eval y = u)
    (hk : wpList Tryd.prog ops Q rest (a.put o.dst v) w) : wpList Tryd.prog ops Q (o :: rest) a w :=
  wpList_step fun K hK => by
    have hrun := hr w
    simp only [hw, if_true]
    unfold Oper.wp
    simp [execOp, ho, hx, hrun, Result.andThen]
    exact hK _ _ hk
theorem wp_bld2 {T : TypeId} {u1 u2 v : Value} (hr : ∀ w, (Instr.build T #[(0, u1), (1, u2)]).run Tryd.prog w = .ok v w) {ops : Array Oper} {rest : List Oper} {o : Oper} {a : Act} {w : World} {Q : Exit → Act → World → Prop} (hw : Region.wanted o (yielded ops a.tmps) = true) (y z : Operand) (ho : o.op = .build T #[(0, y), (1, z)]) (hx : a.eval y = u1) (hz : a.eval z = u2)
    (hk : wpList Tryd.prog ops Q rest (a.put o.dst v) w) : wpList Tryd.prog ops Q (o :: rest) a w :=
  wpList_step fun K hK => by
    have hrun := hr w
    simp only [hw, if_true]
    unfold Oper.wp
    simp [execOp, ho, hx, hz, hrun, Result.andThen]
    exact hK _ _ hk
theorem yl_bld1 {T : TypeId} {u v : Value} (hr : ∀ w, (Instr.build T #[(0, u)]).run Tryd.prog w = .ok v w) {ops : Array Oper} {S : World → Prop} {o : Oper} {a : Act} (hw : Region.wanted o (yielded ops a.tmps) = true) (y : Operand) (ho : o.op = .build T #[(0, y)]) (hx : a.eval y = u) : YieldsIf Tryd.prog ops S o v a :=
  .inl ⟨hw, fun w _ => by simp [execOp, ho, hx, hr w]⟩
theorem yl_bld2 {T : TypeId} {u1 u2 v : Value} (hr : ∀ w, (Instr.build T #[(0, u1), (1, u2)]).run Tryd.prog w = .ok v w) {ops : Array Oper} {S : World → Prop} {o : Oper} {a : Act} (hw : Region.wanted o (yielded ops a.tmps) = true) (y z : Operand) (ho : o.op = .build T #[(0, y), (1, z)]) (hx : a.eval y = u1) (hz : a.eval z = u2) : YieldsIf Tryd.prog ops S o v a :=
  .inl ⟨hw, fun w _ => by simp [execOp, ho, hx, hz, hr w]⟩

set_option maxRecDepth 100000 in
set_option maxHeartbeats 8000000 in
theorem wYes (leaf : Int) (D V1 V2 Q1 Q2 Q3 : List Int) (hD : D.length = 32) (hV1 : V1.length = 16) (hV2 : V2.length = 16) (w : World) (hT : Tab w)
    (hb1 : ∀ w, (Instr.build 22 #[(0, .int .u8 1)]).run Tryd.prog w = .ok (.agg (bsC Q1)) w) (hb2 : ∀ w, (Instr.build 22 #[(0, .int .u8 2)]).run Tryd.prog w = .ok (.agg (bsC Q2)) w) (hb3 : ∀ w, (Instr.build 51 #[(0, .agg (bsC Q1)), (1, .agg (bsC Q2))]).run Tryd.prog w = .ok (.agg (bsC Q3)) w)
    (hP : ∀ W, Tab W → Calls Tryd.prog 24 #[.agg (bsC D), .int .i64 leaf] W fun e w' => e = .returned (.tuple #[.agg (bsC V1), .int .i64 0]) ∧ Below W.heap.size W w')
    (hC : ∀ W, Tab W → Calls Tryd.prog 25 #[.int .i64 leaf, .agg (bsC Q3)] W fun e w' => e = .returned (.tuple #[.agg (bsC V2), .int .i64 0]) ∧ Below W.heap.size W w')
    (X E : List Int) (hr1 : ∀ w, (Instr.build 36 #[(0, .int .u8 1)]).run Tryd.prog w = .ok (.agg (bsC Q1)) w) (hr2 : ∀ w, (Instr.build 36 #[(0, .int .u8 2)]).run Tryd.prog w = .ok (.agg (bsC Q2)) w) (hr3 : ∀ w, (Instr.build 53 #[(0, .agg (bsC Q1)), (1, .agg (bsC Q2))]).run Tryd.prog w = .ok (.agg (bsC Q3)) w)
    (hA : ∀ W, Calls Tryd.prog 28 #[.int .i64 15] W fun e w' => e = .returned (.agg (ksC .i64 X)) ∧ Below W.heap.size W w')
    (hVa : ∀ W, Calls Tryd.prog 27 #[.agg (bsC D), .int .i64 leaf, .agg (ksC .i64 X)] W fun e w' => e = .returned (.agg (bsC E)) ∧ Below W.heap.size W w')
    (hR1 : ∀ W, Calls Tryd.prog 26 #[.int .i64 leaf, .agg (bsC E)] W fun e w' => e = .returned (.agg (bsC V1)) ∧ Below W.heap.size W w')
    (hR2 : ∀ W, Calls Tryd.prog 26 #[.int .i64 leaf, .agg (bsC Q3)] W fun e w' => e = .returned (.agg (bsC V2)) ∧ Below W.heap.size W w')
    (k1 : inB leaf 65535 = true) :
    Calls Tryd.prog 8 #[.agg (bsC D), .int .i64 leaf] w fun e w' => e = .returned (.bool true) ∧ Below w.heap.size w w' := by
  have hp := hT.1
  have HK := Lib.hid (fun w hT => known_any w hT)
  have HIN := Lib.hid in_any
  have HDL := Lib.hid hD; have HV1 := Lib.hid hV1; have HV2 := Lib.hid hV2; have HP := Lib.hid hP; have HC := Lib.hid hC; have HB1 := Lib.hid hb1; have HB2 := Lib.hid hb2; have HB3 := Lib.hid hb3
  have HR1 := Lib.hid hR1; have HR2 := Lib.hid hR2; have HA := Lib.hid hA; have HVA := Lib.hid hVa; have H1 := Lib.hid hr1; have H2 := Lib.hid hr2; have H3 := Lib.hid hr3
  have heqA := fun w => eq_same (t := 36) Tryd.underlying36 V1 hV1 w
  have heqB := fun w => eq_same (t := 36) Tryd.underlying36 V2 hV2 w
  clear hR1 hR2 hA hVa hr1 hr2 hr3
  clear hD hV1 hV2 hP hC hb1 hb2 hb3
  go_enter Tryd.func8, Tryd.ntmps8
  go_upto_region 1 with (fail)
  change Code.wp Tryd.prog _ _ _ (w.alloc (.cells (bsC D) 31))
  generalize hW0 : w.alloc (.cells (bsC D) 31) = W0
  obtain ⟨hb1, hB0⟩ := boxes1 w hW0
  have K0 := Lib.hid hb1; have B0 := Lib.hid hB0
  clear hW0 hb1 hB0
  go_upto_region 3 with (go_at_call 14; refine (HK.out _ (hT.below B0.out hp)).mono ?_; rintro e w1 ⟨rfl, hb⟩; have K1 := Lib.hid (K0.out.keep hb K0.out.lt); have B1 := Lib.hid (B0.out.trans (hb.mono B0.out.size)); clear hb)
  clear K0 B0
  go_upto_region 4 with (first
    | (refine ld_bs Tryd.underlying31 info32u _ D HDL.out K1.out (by rfl) _ (by rfl) (by rfl) ?_)
    | (go_at_call 24; refine (HP.out _ (hT.below B1.out hp)).mono ?_; rintro e w2 ⟨rfl, hb⟩; have K2 := Lib.hid (K1.out.keep hb K1.out.lt); have B2 := Lib.hid (B1.out.trans (hb.mono B1.out.size)); clear hb)
    | (refine sto_bs info16u _ V1 HV1.out _ (Blk.fresh w2 22 (bsC z16)) (by rw [bsC_size]; exact z16_len) (by rfl) _ _ (by rfl) (by rfl) (by rfl) ?_; intro w3 hw))
  have K3 := Lib.hid (show Blk w3 w.heap.size 31 (bsC D) by rw [hw.out]; exact (K2.out.more _).far (Nat.ne_of_lt K2.out.lt) _)
  have P3 := Lib.hid (show Blk w3 w2.heap.size 22 (bsC V1) by rw [hw.out]; exact (Blk.fresh w2 _ _).row _)
  have B3 := Lib.hid (show Below w.heap.size w w3 by rw [hw.out]; exact below_row (B2.out.alloc B2.out.size _) _ B2.out.size _)
  clear hw K1 B1 K2 B2
  generalize w2.heap.size = gp at *
  go_upto_region 5 with (first
    | (refine wp_bld1 HB1.out (by rfl) _ (by rfl) (by rfl) ?_)
    | (refine wp_bld1 HB2.out (by rfl) _ (by rfl) (by rfl) ?_)
    | (refine wp_bld2 HB3.out (by rfl) _ _ (by rfl) (by rfl) (by rfl) ?_)
    | (go_at_call 25; refine (HC.out _ (hT.below B3.out hp)).mono ?_; rintro e w4 ⟨rfl, hb⟩; have K4 := Lib.hid (K3.out.keep hb K3.out.lt); have P4 := Lib.hid (P3.out.keep hb P3.out.lt); have B4 := Lib.hid (B3.out.trans (hb.mono B3.out.size)); clear hb)
    | (refine sto_bs info16u _ V2 HV2.out _ (Blk.fresh w4 22 (bsC z16)) (by rw [bsC_size]; exact z16_len) (by rfl) _ _ (by rfl) (by rfl) (by rfl) ?_; intro w5 hw))
  have K5 := Lib.hid (show Blk w5 w.heap.size 31 (bsC D) by rw [hw.out]; exact (K4.out.more _).far (Nat.ne_of_lt K4.out.lt) _)
  have P5 := Lib.hid (show Blk w5 gp 22 (bsC V1) by rw [hw.out]; exact (P4.out.more _).far (Nat.ne_of_lt P4.out.lt) _)
  have C5 := Lib.hid (show Blk w5 w4.heap.size 22 (bsC V2) by rw [hw.out]; exact (Blk.fresh w4 _ _).row _)
  have B5 := Lib.hid (show Below w.heap.size w w5 by rw [hw.out]; exact below_row (B4.out.alloc B4.out.size _) _ B4.out.size _)
  clear hw K3 B3 P3 K4 B4 P4
  generalize w4.heap.size = gc at *
  go_upto_region 7 with (go_at_call 18; refine (HIN.out _ _ _).mono ?_; rintro e w9 ⟨rfl, rfl⟩)
  have P10 := Lib.hid P5.out.draw; have C10 := Lib.hid C5.out.draw; have K10 := Lib.hid K5.out.draw; have B10 := Lib.hid B5.out.drew
  refine wp_region_held_drew (S := (fun W => Blk W gp 22 (bsC V1) ∧ Blk W gc 22 (bsC V2) ∧ Blk W w.heap.size 31 (bsC D))) (by kernel_rfl) ?_ (fun hHeld => ?_)
  · exact ⟨P10.out, C10.out, K10.out⟩
  refine wpAnyH_take (i := 0) (v := ?_) rfl (by kernel_rfl) (by kernel_rfl) (by kernel_rfl) (fun _ _ _ h => h) (Or.inl ⟨by rfl, ?_⟩) (by assumption) ?_
  rotate_left
  · (intro w9 _; go_simp; try with_reducible rfl)
  simp only [Act.put, List.getElem_toArray, List.getElem_cons_zero, List.setIfInBounds_toArray, List.set_cons_succ, List.set_cons_zero]
  refine wpAnyH_take (i := 1) (v := ?_) rfl (by kernel_rfl) (by kernel_rfl) (by kernel_rfl) (fun _ _ _ h => h) (Or.inl ⟨by rfl, ?_⟩) (by assumption) ?_
  rotate_left
  · (intro w9 _; go_simp; try with_reducible rfl)
  simp only [Act.put, List.getElem_toArray, List.getElem_cons_succ, List.getElem_cons_zero, List.setIfInBounds_toArray, List.set_cons_succ, List.set_cons_zero]
  refine wpAnyH_take (i := 2) (v := ?_) rfl (by kernel_rfl) (by kernel_rfl) (by kernel_rfl) (fun _ _ _ h => h) (Or.inl ⟨by rfl, ?_⟩) (by assumption) ?_
  rotate_left
  · (intro w9 _; go_simp; try with_reducible rfl)
  simp only [Act.put, List.getElem_toArray, List.getElem_cons_succ, List.getElem_cons_zero, List.setIfInBounds_toArray, List.set_cons_succ, List.set_cons_zero]
  refine wpAnyH_take (i := 3) (v := ?_) rfl (by kernel_rfl) (by kernel_rfl) (by kernel_rfl) (fun _ _ _ h => h) (Or.inl ⟨by rfl, ?_⟩) (by assumption) ?_
  rotate_left
  · (intro w9 _; go_simp; try with_reducible rfl)
  simp only [Act.put, List.getElem_toArray, List.getElem_cons_succ, List.getElem_cons_zero, List.setIfInBounds_toArray, List.set_cons_succ, List.set_cons_zero]
  refine wpAnyH_take (i := 4) (v := ?_) rfl (by kernel_rfl) (by kernel_rfl) (by kernel_rfl) (fun _ _ _ h => h) (Or.inl ⟨by rfl, ?_⟩) (by assumption) ?_
  rotate_left
  · (intro w9 _; go_simp; try with_reducible rfl)
  simp only [Act.put, List.getElem_toArray, List.getElem_cons_succ, List.getElem_cons_zero, List.setIfInBounds_toArray, List.set_cons_succ, List.set_cons_zero]
  refine wpAnyH_take (i := 5) (v := ?_) rfl (by kernel_rfl) (by kernel_rfl) (by kernel_rfl) (fun _ _ _ h => h) (Or.inl ⟨by rfl, ?_⟩) (by assumption) ?_
  rotate_left
  · (intro w9 _; go_simp; try with_reducible rfl)
  simp only [Act.put, List.getElem_toArray, List.getElem_cons_succ, List.getElem_cons_zero, List.setIfInBounds_toArray, List.set_cons_succ, List.set_cons_zero]
  refine wpAnyH_take (i := 6) (v := ?_) rfl (by kernel_rfl) (by kernel_rfl) (by kernel_rfl) (fun _ _ _ h => h) (Or.inl ⟨by rfl, ?_⟩) (by assumption) ?_
  rotate_left
  · (intro w9 _; go_simp; try with_reducible rfl)
  simp only [Act.put, List.getElem_toArray, List.getElem_cons_succ, List.getElem_cons_zero, List.setIfInBounds_toArray, List.set_cons_succ, List.set_cons_zero]
  refine wpAnyH_take (i := 7) (v := .agg (bsC V1)) rfl (by kernel_rfl) (by kernel_rfl) (by kernel_rfl) (fun _ _ _ h => h) (yl_bs Tryd.underlying22 info16u _ _ HV1.out (fun _ h => h.1) (by rfl) _ rfl rfl) (by assumption) ?_
  simp only [Act.put, List.getElem_toArray, List.getElem_cons_succ, List.getElem_cons_zero, List.setIfInBounds_toArray, List.set_cons_succ, List.set_cons_zero]
  refine wpAnyH_take (i := 8) (v := ?_) rfl (by kernel_rfl) (by kernel_rfl) (by kernel_rfl) (fun _ _ _ h => h) (Or.inl ⟨by rfl, ?_⟩) (by assumption) ?_
  rotate_left
  · (intro w9 _; go_simp; try with_reducible rfl)
  simp only [Act.put, List.getElem_toArray, List.getElem_cons_succ, List.getElem_cons_zero, List.setIfInBounds_toArray, List.set_cons_succ, List.set_cons_zero]
  refine wpAnyH_take (i := 9) (v := .agg (bsC D)) rfl (by kernel_rfl) (by kernel_rfl) (by kernel_rfl) (fun _ _ _ h => h) (yl_bs Tryd.underlying31 info32u _ _ HDL.out (fun _ h => h.2.2) (by rfl) _ rfl rfl) (by assumption) ?_
  simp only [Act.put, List.getElem_toArray, List.getElem_cons_succ, List.getElem_cons_zero, List.setIfInBounds_toArray, List.set_cons_succ, List.set_cons_zero]
  refine wpAnyH_take (i := 10) (v := ?_) rfl (by kernel_rfl) (by kernel_rfl) (by kernel_rfl) (fun _ _ _ h => h) (Or.inl ⟨by rfl, ?_⟩) (by assumption) ?_
  rotate_left
  · (intro w9 _; go_simp; try with_reducible rfl)
  simp only [Act.put, List.getElem_toArray, List.getElem_cons_succ, List.getElem_cons_zero, List.setIfInBounds_toArray, List.set_cons_succ, List.set_cons_zero]
  refine wpAnyH_ready (rs := [11]) (by kernel_rfl) (by simp) ?_
  refine AllReadyH.cons rfl (fun K hK => ?_) AllReadyH.nil
  go_simp
  refine (HA.out _).mono ?_
  rintro e w11 ⟨rfl, hb⟩
  have P11 := Lib.hid (P10.out.keep hb P10.out.lt)
  have C11 := Lib.hid (C10.out.keep hb C10.out.lt)
  have K11 := Lib.hid (K10.out.keep hb K10.out.lt)
  have B11 := Lib.hid (B10.out.trans (hb.mono B10.out.size))
  clear hb
  refine hK.out _ _ ⟨P11.out, C11.out, K11.out⟩ (fun hHeld => ?_)
  clear hK K
  refine wpAnyH_ready (rs := [12]) (by kernel_rfl) (by simp) ?_
  refine AllReadyH.cons rfl (fun K hK => ?_) AllReadyH.nil
  go_simp
  refine (HVA.out _).mono ?_
  rintro e w12 ⟨rfl, hb⟩
  have P12 := Lib.hid (P11.out.keep hb P11.out.lt)
  have C12 := Lib.hid (C11.out.keep hb C11.out.lt)
  have K12 := Lib.hid (K11.out.keep hb K11.out.lt)
  have B12 := Lib.hid (B11.out.trans (hb.mono B11.out.size))
  clear hb
  refine hK.out _ _ ⟨P12.out, C12.out, K12.out⟩ (fun hHeld => ?_)
  clear hK K
  refine wpAnyH_ready (rs := [13]) (by kernel_rfl) (by simp) ?_
  refine AllReadyH.cons rfl (fun K hK => ?_) AllReadyH.nil
  go_simp
  refine (HR1.out _).mono ?_
  rintro e w13 ⟨rfl, hb⟩
  have P13 := Lib.hid (P12.out.keep hb P12.out.lt)
  have C13 := Lib.hid (C12.out.keep hb C12.out.lt)
  have K13 := Lib.hid (K12.out.keep hb K12.out.lt)
  have B13 := Lib.hid (B12.out.trans (hb.mono B12.out.size))
  clear hb
  refine hK.out _ _ ⟨P13.out, C13.out, K13.out⟩ (fun hHeld => ?_)
  clear hK K
  refine wpAnyH_take (i := 14) (v := ?_) rfl (by kernel_rfl) (by kernel_rfl) (by kernel_rfl) (fun _ _ _ h => h) (Or.inl ⟨by rfl, ?_⟩) (by assumption) ?_
  rotate_left
  · (intro w9 _; go_simp; try with_reducible rfl)
  simp only [Act.put, List.getElem_toArray, List.getElem_cons_succ, List.getElem_cons_zero, List.setIfInBounds_toArray, List.set_cons_succ, List.set_cons_zero]
  refine wpAnyH_take (i := 15) (v := ?_) rfl (by kernel_rfl) (by kernel_rfl) (by kernel_rfl) (fun _ _ _ h => h) (Or.inl ⟨by rfl, ?_⟩) (by assumption) ?_
  rotate_left
  · (intro w9 _; go_simp; try with_reducible rfl)
  simp only [Act.put, List.getElem_toArray, List.getElem_cons_succ, List.getElem_cons_zero, List.setIfInBounds_toArray, List.set_cons_succ, List.set_cons_zero]
  refine wpAnyH_take (i := 16) (v := ?_) rfl (by kernel_rfl) (by kernel_rfl) (by kernel_rfl) (fun _ _ _ h => h) (Or.inl ⟨by rfl, ?_⟩) (by assumption) ?_
  rotate_left
  · (intro w9 _; go_simp; try with_reducible rfl)
  simp only [Act.put, List.getElem_toArray, List.getElem_cons_succ, List.getElem_cons_zero, List.setIfInBounds_toArray, List.set_cons_succ, List.set_cons_zero]
  refine wpAnyH_take (i := 17) (v := .agg (bsC V2)) rfl (by kernel_rfl) (by kernel_rfl) (by kernel_rfl) (fun _ _ _ h => h) (yl_bs Tryd.underlying22 info16u _ _ HV2.out (fun _ h => h.2.1) (by rfl) _ rfl rfl) (by assumption) ?_
  simp only [Act.put, List.getElem_toArray, List.getElem_cons_succ, List.getElem_cons_zero, List.setIfInBounds_toArray, List.set_cons_succ, List.set_cons_zero]
  refine wpAnyH_take (i := 18) (v := ?_) rfl (by kernel_rfl) (by kernel_rfl) (by kernel_rfl) (fun _ _ _ h => h) (Or.inl ⟨by rfl, ?_⟩) (by assumption) ?_
  rotate_left
  · (intro w9 _; go_simp; try with_reducible rfl)
  simp only [Act.put, List.getElem_toArray, List.getElem_cons_succ, List.getElem_cons_zero, List.setIfInBounds_toArray, List.set_cons_succ, List.set_cons_zero]
  refine wpAnyH_take (i := 19) (v := .agg (bsC Q1)) rfl (by kernel_rfl) (by kernel_rfl) (by kernel_rfl) (fun _ _ _ h => h) (yl_bld1 H1.out (by rfl) _ rfl rfl) (by assumption) ?_
  simp only [Act.put, List.getElem_toArray, List.getElem_cons_succ, List.getElem_cons_zero, List.setIfInBounds_toArray, List.set_cons_succ, List.set_cons_zero]
  refine wpAnyH_take (i := 20) (v := .agg (bsC Q2)) rfl (by kernel_rfl) (by kernel_rfl) (by kernel_rfl) (fun _ _ _ h => h) (yl_bld1 H2.out (by rfl) _ rfl rfl) (by assumption) ?_
  simp only [Act.put, List.getElem_toArray, List.getElem_cons_succ, List.getElem_cons_zero, List.setIfInBounds_toArray, List.set_cons_succ, List.set_cons_zero]
  refine wpAnyH_take (i := 21) (v := .agg (bsC Q3)) rfl (by kernel_rfl) (by kernel_rfl) (by kernel_rfl) (fun _ _ _ h => h) (yl_bld2 H3.out (by rfl) _ _ rfl rfl rfl) (by assumption) ?_
  simp only [Act.put, List.getElem_toArray, List.getElem_cons_succ, List.getElem_cons_zero, List.setIfInBounds_toArray, List.set_cons_succ, List.set_cons_zero]
  refine wpAnyH_ready (rs := [22]) (by kernel_rfl) (by simp) ?_
  refine AllReadyH.cons rfl (fun K hK => ?_) AllReadyH.nil
  go_simp
  refine (HR2.out _).mono ?_
  rintro e w14 ⟨rfl, hb⟩
  have P14 := Lib.hid (P13.out.keep hb P13.out.lt)
  have C14 := Lib.hid (C13.out.keep hb C13.out.lt)
  have K14 := Lib.hid (K13.out.keep hb K13.out.lt)
  have B14 := Lib.hid (B13.out.trans (hb.mono B13.out.size))
  clear hb
  refine hK.out _ _ ⟨P14.out, C14.out, K14.out⟩ (fun hHeld => ?_)
  clear hK K
  refine wpAnyH_take (i := 23) (v := ?_) rfl (by kernel_rfl) (by kernel_rfl) (by kernel_rfl) (fun _ _ _ h => h) (Or.inl ⟨by rfl, ?_⟩) (by assumption) ?_
  rotate_left
  · (intro w9 _; go_simp; try with_reducible rfl)
  simp only [Act.put, List.getElem_toArray, List.getElem_cons_succ, List.getElem_cons_zero, List.setIfInBounds_toArray, List.set_cons_succ, List.set_cons_zero]
  refine wpAnyH_take (i := 24) (v := ?_) rfl (by kernel_rfl) (by kernel_rfl) (by kernel_rfl) (fun _ _ _ h => h) (Or.inl ⟨by rfl, ?_⟩) (by assumption) ?_
  rotate_left
  · (intro w9 _; go_simp; try with_reducible rfl)
  simp only [Act.put, List.getElem_toArray, List.getElem_cons_succ, List.getElem_cons_zero, List.setIfInBounds_toArray, List.set_cons_succ, List.set_cons_zero]
  refine wpAnyH_take (i := 25) (v := ?_) rfl (by kernel_rfl) (by kernel_rfl) (by kernel_rfl) (fun _ _ _ h => h) (Or.inl ⟨by rfl, ?_⟩) (by assumption) ?_
  rotate_left
  · (intro w9 _; go_simp; try with_reducible rfl)
  simp only [Act.put, List.getElem_toArray, List.getElem_cons_succ, List.getElem_cons_zero, List.setIfInBounds_toArray, List.set_cons_succ, List.set_cons_zero]
  refine wpAnyH_done (by kernel_rfl) ?_ _
  go_wp2_with fail
  go_ret
  exact ⟨rfl, B14.out⟩

set_option maxRecDepth 100000 in
set_option maxHeartbeats 8000000 in
theorem wNo (leaf : Int) (D V1 V2 Q1 Q2 Q3 : List Int) (hD : D.length = 32) (hV1 : V1.length = 16) (hV2 : V2.length = 16) (w : World) (hT : Tab w)
    (hb1 : ∀ w, (Instr.build 22 #[(0, .int .u8 1)]).run Tryd.prog w = .ok (.agg (bsC Q1)) w) (hb2 : ∀ w, (Instr.build 22 #[(0, .int .u8 2)]).run Tryd.prog w = .ok (.agg (bsC Q2)) w) (hb3 : ∀ w, (Instr.build 51 #[(0, .agg (bsC Q1)), (1, .agg (bsC Q2))]).run Tryd.prog w = .ok (.agg (bsC Q3)) w)
    (hP : ∀ W, Tab W → Calls Tryd.prog 24 #[.agg (bsC D), .int .i64 leaf] W fun e w' => e = .returned (.tuple #[.agg (bsC V1), .int .i64 2]) ∧ Below W.heap.size W w')
    (hC : ∀ W, Tab W → Calls Tryd.prog 25 #[.int .i64 leaf, .agg (bsC Q3)] W fun e w' => e = .returned (.tuple #[.agg (bsC V2), .int .i64 2]) ∧ Below W.heap.size W w')
    (hz1 : V1 = z16) (hz2 : V2 = z16) (k1 : inB leaf 65535 = false) :
    Calls Tryd.prog 8 #[.agg (bsC D), .int .i64 leaf] w fun e w' => e = .returned (.bool true) ∧ Below w.heap.size w w' := by
  have hp := hT.1
  have HK := Lib.hid (fun w hT => known_any w hT)
  have HIN := Lib.hid in_any
  have HDL := Lib.hid hD; have HV1 := Lib.hid hV1; have HV2 := Lib.hid hV2; have HP := Lib.hid hP; have HC := Lib.hid hC; have HB1 := Lib.hid hb1; have HB2 := Lib.hid hb2; have HB3 := Lib.hid hb3
  have heqA := eq_zero16
  have heqB := eq_zero16
  rw [← hz1] at heqA
  rw [← hz2] at heqB
  clear hz1 hz2
  clear hD hV1 hV2 hP hC hb1 hb2 hb3
  go_enter Tryd.func8, Tryd.ntmps8
  go_upto_region 1 with (fail)
  change Code.wp Tryd.prog _ _ _ (w.alloc (.cells (bsC D) 31))
  generalize hW0 : w.alloc (.cells (bsC D) 31) = W0
  obtain ⟨hb1, hB0⟩ := boxes1 w hW0
  have K0 := Lib.hid hb1; have B0 := Lib.hid hB0
  clear hW0 hb1 hB0
  go_upto_region 3 with (go_at_call 14; refine (HK.out _ (hT.below B0.out hp)).mono ?_; rintro e w1 ⟨rfl, hb⟩; have K1 := Lib.hid (K0.out.keep hb K0.out.lt); have B1 := Lib.hid (B0.out.trans (hb.mono B0.out.size)); clear hb)
  clear K0 B0
  go_upto_region 4 with (first
    | (refine ld_bs Tryd.underlying31 info32u _ D HDL.out K1.out (by rfl) _ (by rfl) (by rfl) ?_)
    | (go_at_call 24; refine (HP.out _ (hT.below B1.out hp)).mono ?_; rintro e w2 ⟨rfl, hb⟩; have K2 := Lib.hid (K1.out.keep hb K1.out.lt); have B2 := Lib.hid (B1.out.trans (hb.mono B1.out.size)); clear hb)
    | (refine sto_bs info16u _ V1 HV1.out _ (Blk.fresh w2 22 (bsC z16)) (by rw [bsC_size]; exact z16_len) (by rfl) _ _ (by rfl) (by rfl) (by rfl) ?_; intro w3 hw))
  have K3 := Lib.hid (show Blk w3 w.heap.size 31 (bsC D) by rw [hw.out]; exact (K2.out.more _).far (Nat.ne_of_lt K2.out.lt) _)
  have P3 := Lib.hid (show Blk w3 w2.heap.size 22 (bsC V1) by rw [hw.out]; exact (Blk.fresh w2 _ _).row _)
  have B3 := Lib.hid (show Below w.heap.size w w3 by rw [hw.out]; exact below_row (B2.out.alloc B2.out.size _) _ B2.out.size _)
  clear hw K1 B1 K2 B2
  generalize w2.heap.size = gp at *
  go_upto_region 5 with (first
    | (refine wp_bld1 HB1.out (by rfl) _ (by rfl) (by rfl) ?_)
    | (refine wp_bld1 HB2.out (by rfl) _ (by rfl) (by rfl) ?_)
    | (refine wp_bld2 HB3.out (by rfl) _ _ (by rfl) (by rfl) (by rfl) ?_)
    | (go_at_call 25; refine (HC.out _ (hT.below B3.out hp)).mono ?_; rintro e w4 ⟨rfl, hb⟩; have K4 := Lib.hid (K3.out.keep hb K3.out.lt); have P4 := Lib.hid (P3.out.keep hb P3.out.lt); have B4 := Lib.hid (B3.out.trans (hb.mono B3.out.size)); clear hb)
    | (refine sto_bs info16u _ V2 HV2.out _ (Blk.fresh w4 22 (bsC z16)) (by rw [bsC_size]; exact z16_len) (by rfl) _ _ (by rfl) (by rfl) (by rfl) ?_; intro w5 hw))
  have K5 := Lib.hid (show Blk w5 w.heap.size 31 (bsC D) by rw [hw.out]; exact (K4.out.more _).far (Nat.ne_of_lt K4.out.lt) _)
  have P5 := Lib.hid (show Blk w5 gp 22 (bsC V1) by rw [hw.out]; exact (P4.out.more _).far (Nat.ne_of_lt P4.out.lt) _)
  have C5 := Lib.hid (show Blk w5 w4.heap.size 22 (bsC V2) by rw [hw.out]; exact (Blk.fresh w4 _ _).row _)
  have B5 := Lib.hid (show Below w.heap.size w w5 by rw [hw.out]; exact below_row (B4.out.alloc B4.out.size _) _ B4.out.size _)
  clear hw K3 B3 P3 K4 B4 P4
  generalize w4.heap.size = gc at *
  go_wp2_with (first
    | (go_at_call 18; refine (HIN.out _ _ _).mono ?_; rintro e w9 ⟨rfl, rfl⟩)
    | (refine ld_bs_g Tryd.underlying22 info16u gp V1 HV1.out P5.out (by rfl) (.tmp 5) (by rfl) (by rfl) ?_)
    | (refine ld_bs_g Tryd.underlying22 info16u gc V2 HV2.out C5.out (by rfl) (.tmp 7) (by rfl) (by rfl) ?_))
  go_ret
  exact ⟨rfl, B5.out⟩

theorem c15_at (i : Nat) (h : i < 35) : c15.getD i 0 = ((15 : Nat) : Int) := by
  unfold c15
  rw [List.getD_eq_getElem?_getD, List.getElem?_replicate, if_pos h]
  rfl
theorem walk (seed : List Nat) (hs : seed.length = 32) (hsb : ∀ x ∈ seed, x < 256) (leaf : Int) (w : World) (hT : Tab w) :
    Calls Tryd.prog 8 #[.agg (bsC (nI seed)), .int .i64 leaf] w fun e w' => e = .returned (.bool true) ∧ Below w.heap.size w w' := by
  have hD : (nI seed).length = 32 := by rw [nI_len, hs]
  have hcl : ∀ (l : Nat) (E : List Nat), (nI (S7.comp l E)).length = 16 := fun l E => by rw [nI_len]; exact S7.half_len _
  cases h : lfB leaf
  · exact wNo leaf (nI seed) z16 z16 _ _ _ hD z16_len z16_len w hT b1_run b2_run b3_run (fun W _ => Public_no _ leaf h W) (fun W _ => Compress_no _ leaf h W) rfl rfl h
  · obtain ⟨m, rfl, hm⟩ := lfB_nat h
    have pl := pre_len (S7.valP seed m) (fun i _ => S7.valP_len seed m i) 35 (by omega)
    have pb := pre_lt (S7.valP seed m) (fun i _ => S7.valP_lt seed m i) 35 (by omega)
    exact wYes m (nI seed) _ _ _ _ _ hD (hcl m _) (hcl m e12N) w hT b1_run b2_run b3_run (fun W hT => Public_ok seed hs hsb m hm W hT) (fun W hT => Compress_ok m e12N e12_len e12_lt hm W hT) c15 _ r1_run r2_run r3_run rAll_any (fun W => rValues_any seed hs hsb m hm (fun _ => 15) (fun _ _ => Nat.le_refl _) c15 c15_len c15_at W) (fun W => rCompress_any m _ pl pb hm W) (fun W => rCompress_any m e12N e12_len e12_lt hm W) h

set_option maxRecDepth 100000 in
theorem contract (H : Type) (enc : TypeId × Value → H) (W : World) (base : Nat) (args : Array Value) (ds gs : List (DataW H)) (before : List MemPlace)
    (hval : ∀ (j : Nat) t v, Tryd.f8.params[j]? = some t → args[j]? = some v → Value.okWide Tryd.prog W .any base t v)
    (hW : DataW.Whole enc Tryd.prog Tryd.f8.params.toList Rows.onetimePublicSpec.vars false W args.toList ds gs before) (hL : laidMetH Tryd.prog Rows.onetimePublicRow.laid W) (_hs : W.ShapedOpen Tryd.prog) :
    Calls Tryd.prog 8 args W fun e W' => ∃ v, e = .returned v ∧ Rows.onetimePublicSpec.post enc Tryd.prog Tryd.f8 false true false false W args v W' := by
  have hW' := hW
  obtain ⟨p, q, hA0, hV, rfl, hfz, hnd⟩ := hW
  have hA : DataW.TrodAll enc Tryd.prog W 0 (fun _ => true) true Tryd.f8.params.toList args.toList ds p := hA0
  rw [Tryd.params8] at hA hval
  obtain ⟨v0, vs0, d0, ds0, p0, q0, hargs, rfl, rfl, h0, r0⟩ := trodAll_cons hA
  obtain ⟨v1, vs1, d1, ds1, p1, q1, rfl, rfl, rfl, h1, r1⟩ := trodAll_cons r0
  obtain ⟨rfl, rfl, rfl⟩ := trodAll_nil r1
  obtain rfl : args = #[v0, v1] := by cases args; simp_all
  obtain ⟨rfl, rfl⟩ := trodVars_none hV
  have k0 := h0
  have lt0 : ∀ x ∈ p0, x.block < W.heap.size := by obtain ⟨m, hm⟩ := k0; exact DataW.trod_lt m _ _ _ hm
  obtain ⟨l0, rfl, n0, b0⟩ := arr_open Tryd.underlying31 (by kernel_rfl) (hval 0 31 v0 rfl rfl) h0
  obtain ⟨a1, rfl, rfl, rfl, w1⟩ := open_int Tryd.underlying3 (hval 1 3 v1 rfl rfl) h1
  clear hA0
  refine (walk l0 n0 b0 a1 W (tab hL)).mono fun e W' ⟨he, bel⟩ => ?_
  subst he
  exact ⟨_, rfl, _, _, _, [], _, [], hW', trodAll_mk1 (shut_bool Tryd.underlying4 _), (trodAll_cons_mk (Below.trod laidOut (by kernel_rfl) (of_decide_eq_true (by kernel_rfl)) k0 bel lt0) (trodAll_cons_mk (shut_int Tryd.underlying3 w1) trodAll_mk0)), rfl, bel.frame _, fun h => by cases h⟩

theorem laid_met (os : Os) : laidMet Tryd.prog Rows.onetimePublicRow.laid ((laidWorld os).forCall (fun _ _ => 0) ⟨#[], #[.agg (bsC zD), .int .i64 0], []⟩).memory :=
  laidMet_of_run' 8 (by kernel_rfl) (by kernel_rfl)
theorem reads (os : Os) {H : Type} (enc : TypeId × Value → H) : ∃ places, DataW.whole enc Tryd.prog ((laidWorld os).forCall (fun _ _ => 0) ⟨#[], #[.agg (bsC zD), .int .i64 0], []⟩).memory Tryd.f8.params.toList Rows.onetimePublicSpec.vars false (#[.agg (bsC zD), .int .i64 0] : Array Value).toList 8 = some ([.agg (zD.map fun z => .lit (.int .u8 z)), .lit (.int .i64 0)], [], places) :=
  ⟨[], by kernel_rfl⟩

set_option maxRecDepth 100000 in
theorem lifted (os : Os) (started : os.Started) (H : Type) (enc : TypeId × Value → H) (F : Stop.Interp) :
    ReturnsInHanded {} Tryd.checked os 8 .any ((OpenSpec.ofChange Rows.onetimePublicSpec).preRow enc Tryd.prog Tryd.f8 Rows.onetimePublicRow.domain false Rows.onetimePublicRow.laid) (((OpenSpec.ofChange Rows.onetimePublicSpec).at F).post enc Tryd.prog Tryd.f8 false true false false) := by
  obtain ⟨places, hx⟩ := reads os enc
  refine returnsInHanded_of_row (C := Tryd.checked) (s := OpenSpec.ofChange Rows.onetimePublicSpec) own started (by kernel_rfl) Tryd.func8
    (witness_row_at (enc := enc) (C := Tryd.checked) false (laidWorld os) #[.agg (bsC zD), .int .i64 0] rfl (by kernel_rfl) (by kernel_rfl) (by kernel_rfl)
      (OpenSpec.preRow_of_cond 8 hx (by kernel_rfl) (fun k hk => by cases hk) (by kernel_rfl) (laid_met os))) ?_
  intro W base args ds gs before hval hW _ _ _ hL hs _
  exact contract H enc W base args ds gs before hval hW hL hs

theorem said : Rows.OnetimePublicSaid :=
  OpenClaim.holds_of_cond 8 Tryd.f8 rfl rfl rfl rfl rfl rfl rfl ⟨rfl, rfl, rfl, rfl, rfl⟩ rfl rfl rfl rfl rfl (by kernel_rfl) Tryd.func8 (by kernel_rfl)
    (of_decide_eq_true (by kernel_rfl)) (by unfold Func.isWrapper; first | (rw [if_pos (by decide +kernel)]; kernel_rfl) | (rw [if_neg (by decide +kernel)]; exact ⟨rfl, rfl⟩))
    (fun os started H enc _ F => by rw [OpenClaim.pre_eq_preRow]; exact lifted os started H enc F)

theorem plain (f : FuncId) (fn : Func) (hf : Tryd.pinned.checked.prog.funcNamed "bulletin/bulletinlaw07.OnetimePublic" = some f) (hfn : Tryd.pinned.checked.prog.funcs[f]? = some fn) :
    false = Tryd.pinned.checked.prog.looks [] ∧ ∀ (j : Nat) t, fn.params[j]? = some t → Tryd.pinned.checked.prog.wantsStandIn t = false := by
  obtain rfl : f = 8 := Option.some.inj ((show Tryd.prog.funcNamed "bulletin/bulletinlaw07.OnetimePublic" = some 8 by kernel_rfl).symm.trans hf) |>.symm
  obtain rfl : fn = Tryd.f8 := (Option.some.inj (Tryd.func8.symm.trans hfn)).symm
  refine ⟨by kernel_rfl, fun j t ht => ?_⟩
  rw [Tryd.params8] at ht
  have hm : t = 31 ∨ t = 3 := by simpa using Array.mem_of_getElem? ht
  rcases hm with rfl | rfl
  · exact (show Tryd.prog.wantsStandIn 31 = false by kernel_rfl)
  · exact (show Tryd.prog.wantsStandIn 3 = false by kernel_rfl)

end Go.Proofs.YtgfolgmheinbiaaDoorRRR.onetimePublicLaw
namespace Go.Proofs.YtgfolgmheinbiaaDoorRRR

/-- THE CARD OF OnetimePublic -/
theorem onetimePublic_card : Rows.OnetimePublicCardSaid :=
  Claim7.holds_tied_plain_at .later [] _ _ _ _ onetimePublicLaw.said (fun _ h => by cases h) (by kernel_rfl) (fun _ h => by cases h) onetimePublic_row_tie rfl ⟨rfl, rfl⟩ (by kernel_rfl) rfl onetimePublicLaw.plain (by kernel_rfl)
#print axioms onetimePublic_card
end Go.Proofs.YtgfolgmheinbiaaDoorRRR
