/- The program's Lower and the reference's. (Written by mk_lower.py.) -/
import Derived.Test.YtgfolgmheinbiaaDoorRRRRSplit
import Derived.Deep.RegionHeld3
namespace Go.Proofs.YtgfolgmheinbiaaDoorRRR
open Go.RowKit

theorem yl_bs {ops : Array Oper} {S : World → Prop} {o : Oper} {a : Act} {T : TypeId} {n : Nat} (hu : Tryd.prog.underlying T = some (.array n 5)) (hi : (Tryd.prog.info? T).map (·.size) = some n) (g : Nat) (L : List Int) (hl : L.length = n) (hS : ∀ w, S w → Blk w g T (bsC L)) (hw : Region.wanted o (yielded ops a.tmps) = true) (x : Operand) (ho : o.op = .load T x) (hx : a.eval x = .pointer (some ⟨g, 0, none⟩)) : YieldsIf Tryd.prog ops S o (.agg (bsC L)) a := by
  refine yieldsIf_load_mid hw T x ho g 0 hx (L.map fun z => Value.int .u8 z) _ (fun w h => ?_) hu rfl (by rw [hi]; simp [hl])
  have := mid_range (hS w h) 0 L.length (by omega)
  rwa [List.drop_zero, List.take_of_length_le (Nat.le_refl _)] at this
theorem step_sto_ks {ops : Array Oper} {o : Oper} {a : Act} {w : World} {K : Act → World → Prop} {Q : Exit → Act → World → Prop} {E : Prop} {T : TypeId} {n : Nat} {k : IntKind} (hi : (Tryd.prog.info? T).map (·.size) = some n) (g : Nat) (l : List Int) (hl : l.length = n) (old : Array Value) (h : Blk w g T old) (hold : old.size = n) (hw : Region.wanted o (yielded ops a.tmps) = true) (x y : Operand) (ho : o.op = .store T x y)
    (hx : a.eval x = .pointer (some ⟨g, 0, none⟩)) (hy : a.eval y = .agg (ksC k l)) (hk : K (a.put o.dst undef) (w.setRow g (ksC k l))) : if Region.wanted o (yielded ops a.tmps) = true then Oper.wp Tryd.prog o a w K Q else E := by
  rw [if_pos hw]
  exact wp_store_row T x y ho g _ hx hy _ _ h (by rw [ksC_size, hl]; exact hi) (by rw [hold, ksC_size, hl]) (ksC_one k l) hk

/-- two digits' arrays, as a call of Lower lays them -/
def LowS (x y : List Nat) (v6 v7 : Value) (w wx : World) : Prop := ∃ g6 g7, v6 = .pointer (some ⟨g6, 0, none⟩) ∧ v7 = .pointer (some ⟨g7, 0, none⟩) ∧ Blk wx g6 27 (ksC .i64 (nI x)) ∧ Blk wx g7 27 (ksC .i64 (nI y)) ∧ Below w.heap.size w wx

set_option maxRecDepth 100000 in
set_option maxHeartbeats 8000000 in
theorem lower_any (a b : List Nat) (ha : a.length = 16) (hb : b.length = 16) (hab : ∀ x ∈ a, x < 256) (hbb : ∀ x ∈ b, x < 256) (w : World) :
    Calls Tryd.prog 12 #[.agg (bsC (nI a)), .agg (bsC (nI b))] w fun e w' => e = .returned (.tuple #[.int .i64 ((S7.low (S7.split a) (S7.split b)).getD 0 : Nat), .bool (S7.low (S7.split a) (S7.split b)).isSome]) ∧ Below w.heap.size w w' := by
  have HA := Lib.hid (fun W => split_any a ha hab W)
  have HBS := Lib.hid (fun W => split_any b hb hbb W)
  obtain ⟨A, hA⟩ : ∃ A, A = nI a := ⟨_, rfl⟩
  obtain ⟨B, hB⟩ : ∃ B, B = nI b := ⟨_, rfl⟩
  rw [← hA] at HA ⊢
  rw [← hB] at HBS ⊢
  have HAL := Lib.hid (show A.length = 16 by rw [hA, nI_len, ha])
  have HBL := Lib.hid (show B.length = 16 by rw [hB, nI_len, hb])
  have HXL := Lib.hid (S7.split_len a ha)
  have HYL := Lib.hid (S7.split_len b hb)
  obtain ⟨x, hx⟩ : ∃ x, x = S7.split a := ⟨_, rfl⟩
  obtain ⟨y, hy⟩ : ∃ y, y = S7.split b := ⟨_, rfl⟩
  rw [← hx] at HA HXL ⊢
  rw [← hy] at HBS HYL ⊢
  have HXL2 := Lib.hid (show (nI x).length = 35 by rw [nI_len]; exact HXL.out)
  have HYL2 := Lib.hid (show (nI y).length = 35 by rw [nI_len]; exact HYL.out)
  clear hA hB ha hb hab hbb hx hy
  go_enter Tryd.func12, Tryd.ntmps12
  go_upto_region 1 with (fail)
  change Code.wp Tryd.prog _ _ _ ((w.alloc (.cells (bsC A) 22)).alloc (.cells (bsC B) 22))
  generalize hW0 : (w.alloc (.cells (bsC A) 22)).alloc (.cells (bsC B) 22) = W0
  obtain ⟨hb1, hb2, hB0⟩ := boxes2 w hW0
  have K1 := Lib.hid hb1; have K2 := Lib.hid hb2; have B0 := Lib.hid hB0.drew
  have K1d := Lib.hid hb1.draw; have K2d := Lib.hid hb2.draw
  clear hW0 hb1 hb2 hB0
  go_cut [6, 7] from 9 to 12 (fun v6 v7 wx => LowS x y v6 v7 w wx)
  case first =>
    refine wp_region_held_drew (S := (fun w' => Blk w' w.heap.size 22 (bsC A) ∧ Blk w' (w.heap.size + 1) 22 (bsC B))) (by kernel_rfl) ?_ (fun hHeld => ?_)
    · exact ⟨K1.out.draw, K2.out.draw⟩
    refine wpAnyH_take (i := 0) (v := .agg (bsC A)) rfl (by kernel_rfl) (by kernel_rfl) (by kernel_rfl) (fun _ _ _ h => h) (yl_bs Tryd.underlying22 info16u _ _ HAL.out (fun _ h => h.1) (by rfl) _ rfl rfl) (by assumption) ?_
    simp only [Act.put, List.getElem_toArray, List.getElem_cons_zero, List.setIfInBounds_toArray, List.set_cons_succ, List.set_cons_zero]
    refine wpAnyH_take (i := 2) (v := .agg (bsC B)) rfl (by kernel_rfl) (by kernel_rfl) (by kernel_rfl) (fun _ _ _ h => h) (yl_bs Tryd.underlying22 info16u _ _ HBL.out (fun _ h => h.2) (by rfl) _ rfl rfl) (by assumption) ?_
    simp only [Act.put, List.getElem_toArray, List.getElem_cons_succ, List.getElem_cons_zero, List.setIfInBounds_toArray, List.set_cons_succ, List.set_cons_zero]
    refine wpAnyH_ready (rs := [1, 4, 5]) (by kernel_rfl) (by simp) ?_
    refine AllReadyH.cons rfl (fun K hK => ?_) (AllReadyH.cons rfl (fun K hK => ?_) (AllReadyH.cons rfl (fun K hK => ?_) AllReadyH.nil))
    · skip
      go_simp
      refine (HA.out _).mono ?_
      rintro e w1 ⟨rfl, hb1⟩
      have K1_1 := Lib.hid (K1d.out.keep hb1 K1d.out.lt)
      have K2_1 := Lib.hid (K2d.out.keep hb1 K2d.out.lt)
      have B_1 := Lib.hid (B0.out.trans (hb1.mono B0.out.size))
      clear hb1
      refine hK.out _ _ ⟨K1_1.out, K2_1.out⟩ (fun hHeld => ?_)
      clear hK K
      refine wpAnyH_ready (rs := [3, 4, 5]) (by kernel_rfl) (by simp) ?_
      refine AllReadyH.cons rfl (fun K hK => ?_) (AllReadyH.cons rfl (fun K hK => ?_) (AllReadyH.cons rfl (fun K hK => ?_) AllReadyH.nil))
      · skip
        go_simp
        refine (HBS.out _).mono ?_
        rintro e w2 ⟨rfl, hb2⟩
        have K1_2 := Lib.hid (K1_1.out.keep hb2 K1_1.out.lt)
        have K2_2 := Lib.hid (K2_1.out.keep hb2 K2_1.out.lt)
        have B_2 := Lib.hid (B_1.out.trans (hb2.mono B_1.out.size))
        clear hb2
        refine hK.out _ _ ⟨K1_2.out, K2_2.out⟩ (fun hHeld => ?_)
        clear hK K
        refine wpAnyH_ready (rs := [4, 5]) (by kernel_rfl) (by simp) ?_
        refine AllReadyH.cons rfl (fun K hK => ?_) (AllReadyH.cons rfl (fun K hK => ?_) AllReadyH.nil)
        · skip
          go_simp
          change K _ (w2.alloc (.cells (ksC .i64 z35) 27))
          obtain ⟨w3, hw3⟩ : ∃ W, W = w2.alloc (.cells (ksC .i64 z35) 27) := ⟨_, rfl⟩
          rw [← hw3]
          have K1_3 := Lib.hid (show Blk w3 _ _ _ by rw [hw3]; exact K1_2.out.more _)
          have K2_3 := Lib.hid (show Blk w3 _ _ _ by rw [hw3]; exact K2_2.out.more _)
          have R6_3 := Lib.hid (show Blk w3 w2.heap.size 27 (ksC .i64 z35) by rw [hw3]; exact Blk.fresh _ _ _)
          have B_3 := Lib.hid (show Below w.heap.size w w3 by rw [hw3]; exact B_2.out.alloc B_2.out.size _)
          have L_3 : w.heap.size + 1 < w2.heap.size := K2_2.out.lt
          clear hw3
          refine hK.out _ _ ⟨K1_3.out, K2_3.out⟩ (fun hHeld => ?_)
          clear hK K
          refine wpAnyH_ready (rs := [5]) (by kernel_rfl) (by simp) ?_
          refine AllReadyH.cons rfl (fun K hK => ?_) AllReadyH.nil
          · skip
            go_simp
            change K _ (w3.alloc (.cells (ksC .i64 z35) 27))
            obtain ⟨w4, hw4⟩ : ∃ W, W = w3.alloc (.cells (ksC .i64 z35) 27) := ⟨_, rfl⟩
            rw [← hw4]
            have K1_4 := Lib.hid (show Blk w4 _ _ _ by rw [hw4]; exact K1_3.out.more _)
            have K2_4 := Lib.hid (show Blk w4 _ _ _ by rw [hw4]; exact K2_3.out.more _)
            have R6_4 := Lib.hid (show Blk w4 _ _ _ by rw [hw4]; exact R6_3.out.more _)
            have R7_4 := Lib.hid (show Blk w4 w3.heap.size 27 (ksC .i64 z35) by rw [hw4]; exact Blk.fresh _ _ _)
            have B_4 := Lib.hid (show Below w.heap.size w w4 by rw [hw4]; exact B_3.out.alloc B_3.out.size _)
            have L_4 : w.heap.size + 1 < w3.heap.size := K2_3.out.lt
            have N_4 : w2.heap.size ≠ w3.heap.size := Nat.ne_of_lt R6_3.out.lt
            clear hw4
            refine hK.out _ _ ⟨K1_4.out, K2_4.out⟩ (fun hHeld => ?_)
            clear hK K
            refine wpAnyH_ready (rs := [6]) (by kernel_rfl) (by simp) ?_
            refine AllReadyH.cons rfl (fun K hK => ?_) AllReadyH.nil
            · skip
              refine step_sto_ks info35 w2.heap.size (nI x) HXL2.out _ R6_4.out (by rw [ksC_size]; exact z35_len) (by rfl) _ _ rfl (by rfl) (by rfl) ?_
              obtain ⟨w5, hw5⟩ : ∃ W, W = w4.setRow w2.heap.size (ksC .i64 (nI x)) := ⟨_, rfl⟩
              rw [← hw5]
              have R6_5 := Lib.hid (show Blk w5 w2.heap.size 27 (ksC .i64 (nI x)) by rw [hw5]; exact R6_4.out.row _)
              have R7_5 := Lib.hid (show Blk w5 _ _ _ by rw [hw5]; exact R7_4.out.far (Ne.symm N_4) _)
              have K1_5 := Lib.hid (show Blk w5 _ _ _ by rw [hw5]; exact K1_4.out.far (by have := L_3; omega) _)
              have K2_5 := Lib.hid (show Blk w5 _ _ _ by rw [hw5]; exact K2_4.out.far (by have := L_3; omega) _)
              have B_5 := Lib.hid (show Below w.heap.size w w5 by rw [hw5]; exact below_row B_4.out _ (by have := L_3; omega) _)
              clear hw5
              refine hK.out _ _ ⟨K1_5.out, K2_5.out⟩ (fun hHeld => ?_)
              clear hK K
              refine wpAnyH_ready (rs := [7]) (by kernel_rfl) (by simp) ?_
              refine AllReadyH.cons rfl (fun K hK => ?_) AllReadyH.nil
              · skip
                refine step_sto_ks info35 w3.heap.size (nI y) HYL2.out _ R7_5.out (by rw [ksC_size]; exact z35_len) (by rfl) _ _ rfl (by rfl) (by rfl) ?_
                obtain ⟨w6, hw6⟩ : ∃ W, W = w5.setRow w3.heap.size (ksC .i64 (nI y)) := ⟨_, rfl⟩
                rw [← hw6]
                have R7_6 := Lib.hid (show Blk w6 w3.heap.size 27 (ksC .i64 (nI y)) by rw [hw6]; exact R7_5.out.row _)
                have R6_6 := Lib.hid (show Blk w6 _ _ _ by rw [hw6]; exact R6_5.out.far (N_4) _)
                have K1_6 := Lib.hid (show Blk w6 _ _ _ by rw [hw6]; exact K1_5.out.far (by have := L_4; omega) _)
                have K2_6 := Lib.hid (show Blk w6 _ _ _ by rw [hw6]; exact K2_5.out.far (by have := L_4; omega) _)
                have B_6 := Lib.hid (show Below w.heap.size w w6 by rw [hw6]; exact below_row B_5.out _ (by have := L_4; omega) _)
                clear hw6
                refine hK.out _ _ ⟨K1_6.out, K2_6.out⟩ (fun hHeld => ?_)
                clear hK K
                refine wpAnyH_done (by kernel_rfl) ?_ _
                go_wp2_with fail
                go_meet
                exact ⟨_, _, rfl, rfl, R6_6.out, R7_6.out, B_6.out⟩
        · skip
          go_simp
          change K _ (w2.alloc (.cells (ksC .i64 z35) 27))
          obtain ⟨w7, hw7⟩ : ∃ W, W = w2.alloc (.cells (ksC .i64 z35) 27) := ⟨_, rfl⟩
          rw [← hw7]
          have K1_7 := Lib.hid (show Blk w7 _ _ _ by rw [hw7]; exact K1_2.out.more _)
          have K2_7 := Lib.hid (show Blk w7 _ _ _ by rw [hw7]; exact K2_2.out.more _)
          have R7_7 := Lib.hid (show Blk w7 w2.heap.size 27 (ksC .i64 z35) by rw [hw7]; exact Blk.fresh _ _ _)
          have B_7 := Lib.hid (show Below w.heap.size w w7 by rw [hw7]; exact B_2.out.alloc B_2.out.size _)
          have L_7 : w.heap.size + 1 < w2.heap.size := K2_2.out.lt
          clear hw7
          refine hK.out _ _ ⟨K1_7.out, K2_7.out⟩ (fun hHeld => ?_)
          clear hK K
          refine wpAnyH_ready (rs := [4]) (by kernel_rfl) (by simp) ?_
          refine AllReadyH.cons rfl (fun K hK => ?_) AllReadyH.nil
          · skip
            go_simp
            change K _ (w7.alloc (.cells (ksC .i64 z35) 27))
            obtain ⟨w8, hw8⟩ : ∃ W, W = w7.alloc (.cells (ksC .i64 z35) 27) := ⟨_, rfl⟩
            rw [← hw8]
            have K1_8 := Lib.hid (show Blk w8 _ _ _ by rw [hw8]; exact K1_7.out.more _)
            have K2_8 := Lib.hid (show Blk w8 _ _ _ by rw [hw8]; exact K2_7.out.more _)
            have R7_8 := Lib.hid (show Blk w8 _ _ _ by rw [hw8]; exact R7_7.out.more _)
            have R6_8 := Lib.hid (show Blk w8 w7.heap.size 27 (ksC .i64 z35) by rw [hw8]; exact Blk.fresh _ _ _)
            have B_8 := Lib.hid (show Below w.heap.size w w8 by rw [hw8]; exact B_7.out.alloc B_7.out.size _)
            have L_8 : w.heap.size + 1 < w7.heap.size := K2_7.out.lt
            have N_8 : w2.heap.size ≠ w7.heap.size := Nat.ne_of_lt R7_7.out.lt
            clear hw8
            refine hK.out _ _ ⟨K1_8.out, K2_8.out⟩ (fun hHeld => ?_)
            clear hK K
            refine wpAnyH_ready (rs := [6]) (by kernel_rfl) (by simp) ?_
            refine AllReadyH.cons rfl (fun K hK => ?_) AllReadyH.nil
            · skip
              refine step_sto_ks info35 w7.heap.size (nI x) HXL2.out _ R6_8.out (by rw [ksC_size]; exact z35_len) (by rfl) _ _ rfl (by rfl) (by rfl) ?_
              obtain ⟨w9, hw9⟩ : ∃ W, W = w8.setRow w7.heap.size (ksC .i64 (nI x)) := ⟨_, rfl⟩
              rw [← hw9]
              have R6_9 := Lib.hid (show Blk w9 w7.heap.size 27 (ksC .i64 (nI x)) by rw [hw9]; exact R6_8.out.row _)
              have R7_9 := Lib.hid (show Blk w9 _ _ _ by rw [hw9]; exact R7_8.out.far (N_8) _)
              have K1_9 := Lib.hid (show Blk w9 _ _ _ by rw [hw9]; exact K1_8.out.far (by have := L_8; omega) _)
              have K2_9 := Lib.hid (show Blk w9 _ _ _ by rw [hw9]; exact K2_8.out.far (by have := L_8; omega) _)
              have B_9 := Lib.hid (show Below w.heap.size w w9 by rw [hw9]; exact below_row B_8.out _ (by have := L_8; omega) _)
              clear hw9
              refine hK.out _ _ ⟨K1_9.out, K2_9.out⟩ (fun hHeld => ?_)
              clear hK K
              refine wpAnyH_ready (rs := [7]) (by kernel_rfl) (by simp) ?_
              refine AllReadyH.cons rfl (fun K hK => ?_) AllReadyH.nil
              · skip
                refine step_sto_ks info35 w2.heap.size (nI y) HYL2.out _ R7_9.out (by rw [ksC_size]; exact z35_len) (by rfl) _ _ rfl (by rfl) (by rfl) ?_
                obtain ⟨w10, hw10⟩ : ∃ W, W = w9.setRow w2.heap.size (ksC .i64 (nI y)) := ⟨_, rfl⟩
                rw [← hw10]
                have R7_10 := Lib.hid (show Blk w10 w2.heap.size 27 (ksC .i64 (nI y)) by rw [hw10]; exact R7_9.out.row _)
                have R6_10 := Lib.hid (show Blk w10 _ _ _ by rw [hw10]; exact R6_9.out.far (Ne.symm N_8) _)
                have K1_10 := Lib.hid (show Blk w10 _ _ _ by rw [hw10]; exact K1_9.out.far (by have := L_7; omega) _)
                have K2_10 := Lib.hid (show Blk w10 _ _ _ by rw [hw10]; exact K2_9.out.far (by have := L_7; omega) _)
                have B_10 := Lib.hid (show Below w.heap.size w w10 by rw [hw10]; exact below_row B_9.out _ (by have := L_7; omega) _)
                clear hw10
                refine hK.out _ _ ⟨K1_10.out, K2_10.out⟩ (fun hHeld => ?_)
                clear hK K
                refine wpAnyH_done (by kernel_rfl) ?_ _
                go_wp2_with fail
                go_meet
                exact ⟨_, _, rfl, rfl, R6_10.out, R7_10.out, B_10.out⟩
      · skip
        go_simp
        change K _ (w1.alloc (.cells (ksC .i64 z35) 27))
        obtain ⟨w11, hw11⟩ : ∃ W, W = w1.alloc (.cells (ksC .i64 z35) 27) := ⟨_, rfl⟩
        rw [← hw11]
        have K1_11 := Lib.hid (show Blk w11 _ _ _ by rw [hw11]; exact K1_1.out.more _)
        have K2_11 := Lib.hid (show Blk w11 _ _ _ by rw [hw11]; exact K2_1.out.more _)
        have R6_11 := Lib.hid (show Blk w11 w1.heap.size 27 (ksC .i64 z35) by rw [hw11]; exact Blk.fresh _ _ _)
        have B_11 := Lib.hid (show Below w.heap.size w w11 by rw [hw11]; exact B_1.out.alloc B_1.out.size _)
        have L_11 : w.heap.size + 1 < w1.heap.size := K2_1.out.lt
        clear hw11
        refine hK.out _ _ ⟨K1_11.out, K2_11.out⟩ (fun hHeld => ?_)
        clear hK K
        refine wpAnyH_ready (rs := [3, 5]) (by kernel_rfl) (by simp) ?_
        refine AllReadyH.cons rfl (fun K hK => ?_) (AllReadyH.cons rfl (fun K hK => ?_) AllReadyH.nil)
        · skip
          go_simp
          refine (HBS.out _).mono ?_
          rintro e w12 ⟨rfl, hb12⟩
          have K1_12 := Lib.hid (K1_11.out.keep hb12 K1_11.out.lt)
          have K2_12 := Lib.hid (K2_11.out.keep hb12 K2_11.out.lt)
          have R6_12 := Lib.hid (R6_11.out.keep hb12 R6_11.out.lt)
          have B_12 := Lib.hid (B_11.out.trans (hb12.mono B_11.out.size))
          clear hb12
          refine hK.out _ _ ⟨K1_12.out, K2_12.out⟩ (fun hHeld => ?_)
          clear hK K
          refine wpAnyH_ready (rs := [5]) (by kernel_rfl) (by simp) ?_
          refine AllReadyH.cons rfl (fun K hK => ?_) AllReadyH.nil
          · skip
            go_simp
            change K _ (w12.alloc (.cells (ksC .i64 z35) 27))
            obtain ⟨w13, hw13⟩ : ∃ W, W = w12.alloc (.cells (ksC .i64 z35) 27) := ⟨_, rfl⟩
            rw [← hw13]
            have K1_13 := Lib.hid (show Blk w13 _ _ _ by rw [hw13]; exact K1_12.out.more _)
            have K2_13 := Lib.hid (show Blk w13 _ _ _ by rw [hw13]; exact K2_12.out.more _)
            have R6_13 := Lib.hid (show Blk w13 _ _ _ by rw [hw13]; exact R6_12.out.more _)
            have R7_13 := Lib.hid (show Blk w13 w12.heap.size 27 (ksC .i64 z35) by rw [hw13]; exact Blk.fresh _ _ _)
            have B_13 := Lib.hid (show Below w.heap.size w w13 by rw [hw13]; exact B_12.out.alloc B_12.out.size _)
            have L_13 : w.heap.size + 1 < w12.heap.size := K2_12.out.lt
            have N_13 : w1.heap.size ≠ w12.heap.size := Nat.ne_of_lt R6_12.out.lt
            clear hw13
            refine hK.out _ _ ⟨K1_13.out, K2_13.out⟩ (fun hHeld => ?_)
            clear hK K
            refine wpAnyH_ready (rs := [6]) (by kernel_rfl) (by simp) ?_
            refine AllReadyH.cons rfl (fun K hK => ?_) AllReadyH.nil
            · skip
              refine step_sto_ks info35 w1.heap.size (nI x) HXL2.out _ R6_13.out (by rw [ksC_size]; exact z35_len) (by rfl) _ _ rfl (by rfl) (by rfl) ?_
              obtain ⟨w14, hw14⟩ : ∃ W, W = w13.setRow w1.heap.size (ksC .i64 (nI x)) := ⟨_, rfl⟩
              rw [← hw14]
              have R6_14 := Lib.hid (show Blk w14 w1.heap.size 27 (ksC .i64 (nI x)) by rw [hw14]; exact R6_13.out.row _)
              have R7_14 := Lib.hid (show Blk w14 _ _ _ by rw [hw14]; exact R7_13.out.far (Ne.symm N_13) _)
              have K1_14 := Lib.hid (show Blk w14 _ _ _ by rw [hw14]; exact K1_13.out.far (by have := L_11; omega) _)
              have K2_14 := Lib.hid (show Blk w14 _ _ _ by rw [hw14]; exact K2_13.out.far (by have := L_11; omega) _)
              have B_14 := Lib.hid (show Below w.heap.size w w14 by rw [hw14]; exact below_row B_13.out _ (by have := L_11; omega) _)
              clear hw14
              refine hK.out _ _ ⟨K1_14.out, K2_14.out⟩ (fun hHeld => ?_)
              clear hK K
              refine wpAnyH_ready (rs := [7]) (by kernel_rfl) (by simp) ?_
              refine AllReadyH.cons rfl (fun K hK => ?_) AllReadyH.nil
              · skip
                refine step_sto_ks info35 w12.heap.size (nI y) HYL2.out _ R7_14.out (by rw [ksC_size]; exact z35_len) (by rfl) _ _ rfl (by rfl) (by rfl) ?_
                obtain ⟨w15, hw15⟩ : ∃ W, W = w14.setRow w12.heap.size (ksC .i64 (nI y)) := ⟨_, rfl⟩
                rw [← hw15]
                have R7_15 := Lib.hid (show Blk w15 w12.heap.size 27 (ksC .i64 (nI y)) by rw [hw15]; exact R7_14.out.row _)
                have R6_15 := Lib.hid (show Blk w15 _ _ _ by rw [hw15]; exact R6_14.out.far (N_13) _)
                have K1_15 := Lib.hid (show Blk w15 _ _ _ by rw [hw15]; exact K1_14.out.far (by have := L_13; omega) _)
                have K2_15 := Lib.hid (show Blk w15 _ _ _ by rw [hw15]; exact K2_14.out.far (by have := L_13; omega) _)
                have B_15 := Lib.hid (show Below w.heap.size w w15 by rw [hw15]; exact below_row B_14.out _ (by have := L_13; omega) _)
                clear hw15
                refine hK.out _ _ ⟨K1_15.out, K2_15.out⟩ (fun hHeld => ?_)
                clear hK K
                refine wpAnyH_done (by kernel_rfl) ?_ _
                go_wp2_with fail
                go_meet
                exact ⟨_, _, rfl, rfl, R6_15.out, R7_15.out, B_15.out⟩
        · skip
          go_simp
          change K _ (w11.alloc (.cells (ksC .i64 z35) 27))
          obtain ⟨w16, hw16⟩ : ∃ W, W = w11.alloc (.cells (ksC .i64 z35) 27) := ⟨_, rfl⟩
          rw [← hw16]
          have K1_16 := Lib.hid (show Blk w16 _ _ _ by rw [hw16]; exact K1_11.out.more _)
          have K2_16 := Lib.hid (show Blk w16 _ _ _ by rw [hw16]; exact K2_11.out.more _)
          have R6_16 := Lib.hid (show Blk w16 _ _ _ by rw [hw16]; exact R6_11.out.more _)
          have R7_16 := Lib.hid (show Blk w16 w11.heap.size 27 (ksC .i64 z35) by rw [hw16]; exact Blk.fresh _ _ _)
          have B_16 := Lib.hid (show Below w.heap.size w w16 by rw [hw16]; exact B_11.out.alloc B_11.out.size _)
          have L_16 : w.heap.size + 1 < w11.heap.size := K2_11.out.lt
          have N_16 : w1.heap.size ≠ w11.heap.size := Nat.ne_of_lt R6_11.out.lt
          clear hw16
          refine hK.out _ _ ⟨K1_16.out, K2_16.out⟩ (fun hHeld => ?_)
          clear hK K
          refine wpAnyH_ready (rs := [3]) (by kernel_rfl) (by simp) ?_
          refine AllReadyH.cons rfl (fun K hK => ?_) AllReadyH.nil
          · skip
            go_simp
            refine (HBS.out _).mono ?_
            rintro e w17 ⟨rfl, hb17⟩
            have K1_17 := Lib.hid (K1_16.out.keep hb17 K1_16.out.lt)
            have K2_17 := Lib.hid (K2_16.out.keep hb17 K2_16.out.lt)
            have R6_17 := Lib.hid (R6_16.out.keep hb17 R6_16.out.lt)
            have R7_17 := Lib.hid (R7_16.out.keep hb17 R7_16.out.lt)
            have B_17 := Lib.hid (B_16.out.trans (hb17.mono B_16.out.size))
            clear hb17
            refine hK.out _ _ ⟨K1_17.out, K2_17.out⟩ (fun hHeld => ?_)
            clear hK K
            refine wpAnyH_ready (rs := [6]) (by kernel_rfl) (by simp) ?_
            refine AllReadyH.cons rfl (fun K hK => ?_) AllReadyH.nil
            · skip
              refine step_sto_ks info35 w1.heap.size (nI x) HXL2.out _ R6_17.out (by rw [ksC_size]; exact z35_len) (by rfl) _ _ rfl (by rfl) (by rfl) ?_
              obtain ⟨w18, hw18⟩ : ∃ W, W = w17.setRow w1.heap.size (ksC .i64 (nI x)) := ⟨_, rfl⟩
              rw [← hw18]
              have R6_18 := Lib.hid (show Blk w18 w1.heap.size 27 (ksC .i64 (nI x)) by rw [hw18]; exact R6_17.out.row _)
              have R7_18 := Lib.hid (show Blk w18 _ _ _ by rw [hw18]; exact R7_17.out.far (Ne.symm N_16) _)
              have K1_18 := Lib.hid (show Blk w18 _ _ _ by rw [hw18]; exact K1_17.out.far (by have := L_11; omega) _)
              have K2_18 := Lib.hid (show Blk w18 _ _ _ by rw [hw18]; exact K2_17.out.far (by have := L_11; omega) _)
              have B_18 := Lib.hid (show Below w.heap.size w w18 by rw [hw18]; exact below_row B_17.out _ (by have := L_11; omega) _)
              clear hw18
              refine hK.out _ _ ⟨K1_18.out, K2_18.out⟩ (fun hHeld => ?_)
              clear hK K
              refine wpAnyH_ready (rs := [7]) (by kernel_rfl) (by simp) ?_
              refine AllReadyH.cons rfl (fun K hK => ?_) AllReadyH.nil
              · skip
                refine step_sto_ks info35 w11.heap.size (nI y) HYL2.out _ R7_18.out (by rw [ksC_size]; exact z35_len) (by rfl) _ _ rfl (by rfl) (by rfl) ?_
                obtain ⟨w19, hw19⟩ : ∃ W, W = w18.setRow w11.heap.size (ksC .i64 (nI y)) := ⟨_, rfl⟩
                rw [← hw19]
                have R7_19 := Lib.hid (show Blk w19 w11.heap.size 27 (ksC .i64 (nI y)) by rw [hw19]; exact R7_18.out.row _)
                have R6_19 := Lib.hid (show Blk w19 _ _ _ by rw [hw19]; exact R6_18.out.far (N_16) _)
                have K1_19 := Lib.hid (show Blk w19 _ _ _ by rw [hw19]; exact K1_18.out.far (by have := L_16; omega) _)
                have K2_19 := Lib.hid (show Blk w19 _ _ _ by rw [hw19]; exact K2_18.out.far (by have := L_16; omega) _)
                have B_19 := Lib.hid (show Below w.heap.size w w19 by rw [hw19]; exact below_row B_18.out _ (by have := L_16; omega) _)
                clear hw19
                refine hK.out _ _ ⟨K1_19.out, K2_19.out⟩ (fun hHeld => ?_)
                clear hK K
                refine wpAnyH_done (by kernel_rfl) ?_ _
                go_wp2_with fail
                go_meet
                exact ⟨_, _, rfl, rfl, R6_19.out, R7_19.out, B_19.out⟩
      · skip
        go_simp
        change K _ (w1.alloc (.cells (ksC .i64 z35) 27))
        obtain ⟨w20, hw20⟩ : ∃ W, W = w1.alloc (.cells (ksC .i64 z35) 27) := ⟨_, rfl⟩
        rw [← hw20]
        have K1_20 := Lib.hid (show Blk w20 _ _ _ by rw [hw20]; exact K1_1.out.more _)
        have K2_20 := Lib.hid (show Blk w20 _ _ _ by rw [hw20]; exact K2_1.out.more _)
        have R7_20 := Lib.hid (show Blk w20 w1.heap.size 27 (ksC .i64 z35) by rw [hw20]; exact Blk.fresh _ _ _)
        have B_20 := Lib.hid (show Below w.heap.size w w20 by rw [hw20]; exact B_1.out.alloc B_1.out.size _)
        have L_20 : w.heap.size + 1 < w1.heap.size := K2_1.out.lt
        clear hw20
        refine hK.out _ _ ⟨K1_20.out, K2_20.out⟩ (fun hHeld => ?_)
        clear hK K
        refine wpAnyH_ready (rs := [3, 4]) (by kernel_rfl) (by simp) ?_
        refine AllReadyH.cons rfl (fun K hK => ?_) (AllReadyH.cons rfl (fun K hK => ?_) AllReadyH.nil)
        · skip
          go_simp
          refine (HBS.out _).mono ?_
          rintro e w21 ⟨rfl, hb21⟩
          have K1_21 := Lib.hid (K1_20.out.keep hb21 K1_20.out.lt)
          have K2_21 := Lib.hid (K2_20.out.keep hb21 K2_20.out.lt)
          have R7_21 := Lib.hid (R7_20.out.keep hb21 R7_20.out.lt)
          have B_21 := Lib.hid (B_20.out.trans (hb21.mono B_20.out.size))
          clear hb21
          refine hK.out _ _ ⟨K1_21.out, K2_21.out⟩ (fun hHeld => ?_)
          clear hK K
          refine wpAnyH_ready (rs := [4]) (by kernel_rfl) (by simp) ?_
          refine AllReadyH.cons rfl (fun K hK => ?_) AllReadyH.nil
          · skip
            go_simp
            change K _ (w21.alloc (.cells (ksC .i64 z35) 27))
            obtain ⟨w22, hw22⟩ : ∃ W, W = w21.alloc (.cells (ksC .i64 z35) 27) := ⟨_, rfl⟩
            rw [← hw22]
            have K1_22 := Lib.hid (show Blk w22 _ _ _ by rw [hw22]; exact K1_21.out.more _)
            have K2_22 := Lib.hid (show Blk w22 _ _ _ by rw [hw22]; exact K2_21.out.more _)
            have R7_22 := Lib.hid (show Blk w22 _ _ _ by rw [hw22]; exact R7_21.out.more _)
            have R6_22 := Lib.hid (show Blk w22 w21.heap.size 27 (ksC .i64 z35) by rw [hw22]; exact Blk.fresh _ _ _)
            have B_22 := Lib.hid (show Below w.heap.size w w22 by rw [hw22]; exact B_21.out.alloc B_21.out.size _)
            have L_22 : w.heap.size + 1 < w21.heap.size := K2_21.out.lt
            have N_22 : w1.heap.size ≠ w21.heap.size := Nat.ne_of_lt R7_21.out.lt
            clear hw22
            refine hK.out _ _ ⟨K1_22.out, K2_22.out⟩ (fun hHeld => ?_)
            clear hK K
            refine wpAnyH_ready (rs := [6]) (by kernel_rfl) (by simp) ?_
            refine AllReadyH.cons rfl (fun K hK => ?_) AllReadyH.nil
            · skip
              refine step_sto_ks info35 w21.heap.size (nI x) HXL2.out _ R6_22.out (by rw [ksC_size]; exact z35_len) (by rfl) _ _ rfl (by rfl) (by rfl) ?_
              obtain ⟨w23, hw23⟩ : ∃ W, W = w22.setRow w21.heap.size (ksC .i64 (nI x)) := ⟨_, rfl⟩
              rw [← hw23]
              have R6_23 := Lib.hid (show Blk w23 w21.heap.size 27 (ksC .i64 (nI x)) by rw [hw23]; exact R6_22.out.row _)
              have R7_23 := Lib.hid (show Blk w23 _ _ _ by rw [hw23]; exact R7_22.out.far (N_22) _)
              have K1_23 := Lib.hid (show Blk w23 _ _ _ by rw [hw23]; exact K1_22.out.far (by have := L_22; omega) _)
              have K2_23 := Lib.hid (show Blk w23 _ _ _ by rw [hw23]; exact K2_22.out.far (by have := L_22; omega) _)
              have B_23 := Lib.hid (show Below w.heap.size w w23 by rw [hw23]; exact below_row B_22.out _ (by have := L_22; omega) _)
              clear hw23
              refine hK.out _ _ ⟨K1_23.out, K2_23.out⟩ (fun hHeld => ?_)
              clear hK K
              refine wpAnyH_ready (rs := [7]) (by kernel_rfl) (by simp) ?_
              refine AllReadyH.cons rfl (fun K hK => ?_) AllReadyH.nil
              · skip
                refine step_sto_ks info35 w1.heap.size (nI y) HYL2.out _ R7_23.out (by rw [ksC_size]; exact z35_len) (by rfl) _ _ rfl (by rfl) (by rfl) ?_
                obtain ⟨w24, hw24⟩ : ∃ W, W = w23.setRow w1.heap.size (ksC .i64 (nI y)) := ⟨_, rfl⟩
                rw [← hw24]
                have R7_24 := Lib.hid (show Blk w24 w1.heap.size 27 (ksC .i64 (nI y)) by rw [hw24]; exact R7_23.out.row _)
                have R6_24 := Lib.hid (show Blk w24 _ _ _ by rw [hw24]; exact R6_23.out.far (Ne.symm N_22) _)
                have K1_24 := Lib.hid (show Blk w24 _ _ _ by rw [hw24]; exact K1_23.out.far (by have := L_20; omega) _)
                have K2_24 := Lib.hid (show Blk w24 _ _ _ by rw [hw24]; exact K2_23.out.far (by have := L_20; omega) _)
                have B_24 := Lib.hid (show Below w.heap.size w w24 by rw [hw24]; exact below_row B_23.out _ (by have := L_20; omega) _)
                clear hw24
                refine hK.out _ _ ⟨K1_24.out, K2_24.out⟩ (fun hHeld => ?_)
                clear hK K
                refine wpAnyH_done (by kernel_rfl) ?_ _
                go_wp2_with fail
                go_meet
                exact ⟨_, _, rfl, rfl, R6_24.out, R7_24.out, B_24.out⟩
        · skip
          go_simp
          change K _ (w20.alloc (.cells (ksC .i64 z35) 27))
          obtain ⟨w25, hw25⟩ : ∃ W, W = w20.alloc (.cells (ksC .i64 z35) 27) := ⟨_, rfl⟩
          rw [← hw25]
          have K1_25 := Lib.hid (show Blk w25 _ _ _ by rw [hw25]; exact K1_20.out.more _)
          have K2_25 := Lib.hid (show Blk w25 _ _ _ by rw [hw25]; exact K2_20.out.more _)
          have R7_25 := Lib.hid (show Blk w25 _ _ _ by rw [hw25]; exact R7_20.out.more _)
          have R6_25 := Lib.hid (show Blk w25 w20.heap.size 27 (ksC .i64 z35) by rw [hw25]; exact Blk.fresh _ _ _)
          have B_25 := Lib.hid (show Below w.heap.size w w25 by rw [hw25]; exact B_20.out.alloc B_20.out.size _)
          have L_25 : w.heap.size + 1 < w20.heap.size := K2_20.out.lt
          have N_25 : w1.heap.size ≠ w20.heap.size := Nat.ne_of_lt R7_20.out.lt
          clear hw25
          refine hK.out _ _ ⟨K1_25.out, K2_25.out⟩ (fun hHeld => ?_)
          clear hK K
          refine wpAnyH_ready (rs := [3]) (by kernel_rfl) (by simp) ?_
          refine AllReadyH.cons rfl (fun K hK => ?_) AllReadyH.nil
          · skip
            go_simp
            refine (HBS.out _).mono ?_
            rintro e w26 ⟨rfl, hb26⟩
            have K1_26 := Lib.hid (K1_25.out.keep hb26 K1_25.out.lt)
            have K2_26 := Lib.hid (K2_25.out.keep hb26 K2_25.out.lt)
            have R6_26 := Lib.hid (R6_25.out.keep hb26 R6_25.out.lt)
            have R7_26 := Lib.hid (R7_25.out.keep hb26 R7_25.out.lt)
            have B_26 := Lib.hid (B_25.out.trans (hb26.mono B_25.out.size))
            clear hb26
            refine hK.out _ _ ⟨K1_26.out, K2_26.out⟩ (fun hHeld => ?_)
            clear hK K
            refine wpAnyH_ready (rs := [6]) (by kernel_rfl) (by simp) ?_
            refine AllReadyH.cons rfl (fun K hK => ?_) AllReadyH.nil
            · skip
              refine step_sto_ks info35 w20.heap.size (nI x) HXL2.out _ R6_26.out (by rw [ksC_size]; exact z35_len) (by rfl) _ _ rfl (by rfl) (by rfl) ?_
              obtain ⟨w27, hw27⟩ : ∃ W, W = w26.setRow w20.heap.size (ksC .i64 (nI x)) := ⟨_, rfl⟩
              rw [← hw27]
              have R6_27 := Lib.hid (show Blk w27 w20.heap.size 27 (ksC .i64 (nI x)) by rw [hw27]; exact R6_26.out.row _)
              have R7_27 := Lib.hid (show Blk w27 _ _ _ by rw [hw27]; exact R7_26.out.far (N_25) _)
              have K1_27 := Lib.hid (show Blk w27 _ _ _ by rw [hw27]; exact K1_26.out.far (by have := L_25; omega) _)
              have K2_27 := Lib.hid (show Blk w27 _ _ _ by rw [hw27]; exact K2_26.out.far (by have := L_25; omega) _)
              have B_27 := Lib.hid (show Below w.heap.size w w27 by rw [hw27]; exact below_row B_26.out _ (by have := L_25; omega) _)
              clear hw27
              refine hK.out _ _ ⟨K1_27.out, K2_27.out⟩ (fun hHeld => ?_)
              clear hK K
              refine wpAnyH_ready (rs := [7]) (by kernel_rfl) (by simp) ?_
              refine AllReadyH.cons rfl (fun K hK => ?_) AllReadyH.nil
              · skip
                refine step_sto_ks info35 w1.heap.size (nI y) HYL2.out _ R7_27.out (by rw [ksC_size]; exact z35_len) (by rfl) _ _ rfl (by rfl) (by rfl) ?_
                obtain ⟨w28, hw28⟩ : ∃ W, W = w27.setRow w1.heap.size (ksC .i64 (nI y)) := ⟨_, rfl⟩
                rw [← hw28]
                have R7_28 := Lib.hid (show Blk w28 w1.heap.size 27 (ksC .i64 (nI y)) by rw [hw28]; exact R7_27.out.row _)
                have R6_28 := Lib.hid (show Blk w28 _ _ _ by rw [hw28]; exact R6_27.out.far (Ne.symm N_25) _)
                have K1_28 := Lib.hid (show Blk w28 _ _ _ by rw [hw28]; exact K1_27.out.far (by have := L_20; omega) _)
                have K2_28 := Lib.hid (show Blk w28 _ _ _ by rw [hw28]; exact K2_27.out.far (by have := L_20; omega) _)
                have B_28 := Lib.hid (show Below w.heap.size w w28 by rw [hw28]; exact below_row B_27.out _ (by have := L_20; omega) _)
                clear hw28
                refine hK.out _ _ ⟨K1_28.out, K2_28.out⟩ (fun hHeld => ?_)
                clear hK K
                refine wpAnyH_done (by kernel_rfl) ?_ _
                go_wp2_with fail
                go_meet
                exact ⟨_, _, rfl, rfl, R6_28.out, R7_28.out, B_28.out⟩
    · skip
      go_simp
      change K _ (W0.drew.alloc (.cells (ksC .i64 z35) 27))
      obtain ⟨w29, hw29⟩ : ∃ W, W = W0.drew.alloc (.cells (ksC .i64 z35) 27) := ⟨_, rfl⟩
      rw [← hw29]
      have K1_29 := Lib.hid (show Blk w29 _ _ _ by rw [hw29]; exact K1d.out.more _)
      have K2_29 := Lib.hid (show Blk w29 _ _ _ by rw [hw29]; exact K2d.out.more _)
      have R6_29 := Lib.hid (show Blk w29 W0.drew.heap.size 27 (ksC .i64 z35) by rw [hw29]; exact Blk.fresh _ _ _)
      have B_29 := Lib.hid (show Below w.heap.size w w29 by rw [hw29]; exact B0.out.alloc B0.out.size _)
      have L_29 : w.heap.size + 1 < W0.drew.heap.size := K2d.out.lt
      clear hw29
      refine hK.out _ _ ⟨K1_29.out, K2_29.out⟩ (fun hHeld => ?_)
      clear hK K
      refine wpAnyH_ready (rs := [1, 5]) (by kernel_rfl) (by simp) ?_
      refine AllReadyH.cons rfl (fun K hK => ?_) (AllReadyH.cons rfl (fun K hK => ?_) AllReadyH.nil)
      · skip
        go_simp
        refine (HA.out _).mono ?_
        rintro e w30 ⟨rfl, hb30⟩
        have K1_30 := Lib.hid (K1_29.out.keep hb30 K1_29.out.lt)
        have K2_30 := Lib.hid (K2_29.out.keep hb30 K2_29.out.lt)
        have R6_30 := Lib.hid (R6_29.out.keep hb30 R6_29.out.lt)
        have B_30 := Lib.hid (B_29.out.trans (hb30.mono B_29.out.size))
        clear hb30
        refine hK.out _ _ ⟨K1_30.out, K2_30.out⟩ (fun hHeld => ?_)
        clear hK K
        refine wpAnyH_ready (rs := [3, 5]) (by kernel_rfl) (by simp) ?_
        refine AllReadyH.cons rfl (fun K hK => ?_) (AllReadyH.cons rfl (fun K hK => ?_) AllReadyH.nil)
        · skip
          go_simp
          refine (HBS.out _).mono ?_
          rintro e w31 ⟨rfl, hb31⟩
          have K1_31 := Lib.hid (K1_30.out.keep hb31 K1_30.out.lt)
          have K2_31 := Lib.hid (K2_30.out.keep hb31 K2_30.out.lt)
          have R6_31 := Lib.hid (R6_30.out.keep hb31 R6_30.out.lt)
          have B_31 := Lib.hid (B_30.out.trans (hb31.mono B_30.out.size))
          clear hb31
          refine hK.out _ _ ⟨K1_31.out, K2_31.out⟩ (fun hHeld => ?_)
          clear hK K
          refine wpAnyH_ready (rs := [5]) (by kernel_rfl) (by simp) ?_
          refine AllReadyH.cons rfl (fun K hK => ?_) AllReadyH.nil
          · skip
            go_simp
            change K _ (w31.alloc (.cells (ksC .i64 z35) 27))
            obtain ⟨w32, hw32⟩ : ∃ W, W = w31.alloc (.cells (ksC .i64 z35) 27) := ⟨_, rfl⟩
            rw [← hw32]
            have K1_32 := Lib.hid (show Blk w32 _ _ _ by rw [hw32]; exact K1_31.out.more _)
            have K2_32 := Lib.hid (show Blk w32 _ _ _ by rw [hw32]; exact K2_31.out.more _)
            have R6_32 := Lib.hid (show Blk w32 _ _ _ by rw [hw32]; exact R6_31.out.more _)
            have R7_32 := Lib.hid (show Blk w32 w31.heap.size 27 (ksC .i64 z35) by rw [hw32]; exact Blk.fresh _ _ _)
            have B_32 := Lib.hid (show Below w.heap.size w w32 by rw [hw32]; exact B_31.out.alloc B_31.out.size _)
            have L_32 : w.heap.size + 1 < w31.heap.size := K2_31.out.lt
            have N_32 : W0.drew.heap.size ≠ w31.heap.size := Nat.ne_of_lt R6_31.out.lt
            clear hw32
            refine hK.out _ _ ⟨K1_32.out, K2_32.out⟩ (fun hHeld => ?_)
            clear hK K
            refine wpAnyH_ready (rs := [6]) (by kernel_rfl) (by simp) ?_
            refine AllReadyH.cons rfl (fun K hK => ?_) AllReadyH.nil
            · skip
              refine step_sto_ks info35 W0.drew.heap.size (nI x) HXL2.out _ R6_32.out (by rw [ksC_size]; exact z35_len) (by rfl) _ _ rfl (by rfl) (by rfl) ?_
              obtain ⟨w33, hw33⟩ : ∃ W, W = w32.setRow W0.drew.heap.size (ksC .i64 (nI x)) := ⟨_, rfl⟩
              rw [← hw33]
              have R6_33 := Lib.hid (show Blk w33 W0.drew.heap.size 27 (ksC .i64 (nI x)) by rw [hw33]; exact R6_32.out.row _)
              have R7_33 := Lib.hid (show Blk w33 _ _ _ by rw [hw33]; exact R7_32.out.far (Ne.symm N_32) _)
              have K1_33 := Lib.hid (show Blk w33 _ _ _ by rw [hw33]; exact K1_32.out.far (by have := L_29; omega) _)
              have K2_33 := Lib.hid (show Blk w33 _ _ _ by rw [hw33]; exact K2_32.out.far (by have := L_29; omega) _)
              have B_33 := Lib.hid (show Below w.heap.size w w33 by rw [hw33]; exact below_row B_32.out _ (by have := L_29; omega) _)
              clear hw33
              refine hK.out _ _ ⟨K1_33.out, K2_33.out⟩ (fun hHeld => ?_)
              clear hK K
              refine wpAnyH_ready (rs := [7]) (by kernel_rfl) (by simp) ?_
              refine AllReadyH.cons rfl (fun K hK => ?_) AllReadyH.nil
              · skip
                refine step_sto_ks info35 w31.heap.size (nI y) HYL2.out _ R7_33.out (by rw [ksC_size]; exact z35_len) (by rfl) _ _ rfl (by rfl) (by rfl) ?_
                obtain ⟨w34, hw34⟩ : ∃ W, W = w33.setRow w31.heap.size (ksC .i64 (nI y)) := ⟨_, rfl⟩
                rw [← hw34]
                have R7_34 := Lib.hid (show Blk w34 w31.heap.size 27 (ksC .i64 (nI y)) by rw [hw34]; exact R7_33.out.row _)
                have R6_34 := Lib.hid (show Blk w34 _ _ _ by rw [hw34]; exact R6_33.out.far (N_32) _)
                have K1_34 := Lib.hid (show Blk w34 _ _ _ by rw [hw34]; exact K1_33.out.far (by have := L_32; omega) _)
                have K2_34 := Lib.hid (show Blk w34 _ _ _ by rw [hw34]; exact K2_33.out.far (by have := L_32; omega) _)
                have B_34 := Lib.hid (show Below w.heap.size w w34 by rw [hw34]; exact below_row B_33.out _ (by have := L_32; omega) _)
                clear hw34
                refine hK.out _ _ ⟨K1_34.out, K2_34.out⟩ (fun hHeld => ?_)
                clear hK K
                refine wpAnyH_done (by kernel_rfl) ?_ _
                go_wp2_with fail
                go_meet
                exact ⟨_, _, rfl, rfl, R6_34.out, R7_34.out, B_34.out⟩
        · skip
          go_simp
          change K _ (w30.alloc (.cells (ksC .i64 z35) 27))
          obtain ⟨w35, hw35⟩ : ∃ W, W = w30.alloc (.cells (ksC .i64 z35) 27) := ⟨_, rfl⟩
          rw [← hw35]
          have K1_35 := Lib.hid (show Blk w35 _ _ _ by rw [hw35]; exact K1_30.out.more _)
          have K2_35 := Lib.hid (show Blk w35 _ _ _ by rw [hw35]; exact K2_30.out.more _)
          have R6_35 := Lib.hid (show Blk w35 _ _ _ by rw [hw35]; exact R6_30.out.more _)
          have R7_35 := Lib.hid (show Blk w35 w30.heap.size 27 (ksC .i64 z35) by rw [hw35]; exact Blk.fresh _ _ _)
          have B_35 := Lib.hid (show Below w.heap.size w w35 by rw [hw35]; exact B_30.out.alloc B_30.out.size _)
          have L_35 : w.heap.size + 1 < w30.heap.size := K2_30.out.lt
          have N_35 : W0.drew.heap.size ≠ w30.heap.size := Nat.ne_of_lt R6_30.out.lt
          clear hw35
          refine hK.out _ _ ⟨K1_35.out, K2_35.out⟩ (fun hHeld => ?_)
          clear hK K
          refine wpAnyH_ready (rs := [3]) (by kernel_rfl) (by simp) ?_
          refine AllReadyH.cons rfl (fun K hK => ?_) AllReadyH.nil
          · skip
            go_simp
            refine (HBS.out _).mono ?_
            rintro e w36 ⟨rfl, hb36⟩
            have K1_36 := Lib.hid (K1_35.out.keep hb36 K1_35.out.lt)
            have K2_36 := Lib.hid (K2_35.out.keep hb36 K2_35.out.lt)
            have R6_36 := Lib.hid (R6_35.out.keep hb36 R6_35.out.lt)
            have R7_36 := Lib.hid (R7_35.out.keep hb36 R7_35.out.lt)
            have B_36 := Lib.hid (B_35.out.trans (hb36.mono B_35.out.size))
            clear hb36
            refine hK.out _ _ ⟨K1_36.out, K2_36.out⟩ (fun hHeld => ?_)
            clear hK K
            refine wpAnyH_ready (rs := [6]) (by kernel_rfl) (by simp) ?_
            refine AllReadyH.cons rfl (fun K hK => ?_) AllReadyH.nil
            · skip
              refine step_sto_ks info35 W0.drew.heap.size (nI x) HXL2.out _ R6_36.out (by rw [ksC_size]; exact z35_len) (by rfl) _ _ rfl (by rfl) (by rfl) ?_
              obtain ⟨w37, hw37⟩ : ∃ W, W = w36.setRow W0.drew.heap.size (ksC .i64 (nI x)) := ⟨_, rfl⟩
              rw [← hw37]
              have R6_37 := Lib.hid (show Blk w37 W0.drew.heap.size 27 (ksC .i64 (nI x)) by rw [hw37]; exact R6_36.out.row _)
              have R7_37 := Lib.hid (show Blk w37 _ _ _ by rw [hw37]; exact R7_36.out.far (Ne.symm N_35) _)
              have K1_37 := Lib.hid (show Blk w37 _ _ _ by rw [hw37]; exact K1_36.out.far (by have := L_29; omega) _)
              have K2_37 := Lib.hid (show Blk w37 _ _ _ by rw [hw37]; exact K2_36.out.far (by have := L_29; omega) _)
              have B_37 := Lib.hid (show Below w.heap.size w w37 by rw [hw37]; exact below_row B_36.out _ (by have := L_29; omega) _)
              clear hw37
              refine hK.out _ _ ⟨K1_37.out, K2_37.out⟩ (fun hHeld => ?_)
              clear hK K
              refine wpAnyH_ready (rs := [7]) (by kernel_rfl) (by simp) ?_
              refine AllReadyH.cons rfl (fun K hK => ?_) AllReadyH.nil
              · skip
                refine step_sto_ks info35 w30.heap.size (nI y) HYL2.out _ R7_37.out (by rw [ksC_size]; exact z35_len) (by rfl) _ _ rfl (by rfl) (by rfl) ?_
                obtain ⟨w38, hw38⟩ : ∃ W, W = w37.setRow w30.heap.size (ksC .i64 (nI y)) := ⟨_, rfl⟩
                rw [← hw38]
                have R7_38 := Lib.hid (show Blk w38 w30.heap.size 27 (ksC .i64 (nI y)) by rw [hw38]; exact R7_37.out.row _)
                have R6_38 := Lib.hid (show Blk w38 _ _ _ by rw [hw38]; exact R6_37.out.far (N_35) _)
                have K1_38 := Lib.hid (show Blk w38 _ _ _ by rw [hw38]; exact K1_37.out.far (by have := L_35; omega) _)
                have K2_38 := Lib.hid (show Blk w38 _ _ _ by rw [hw38]; exact K2_37.out.far (by have := L_35; omega) _)
                have B_38 := Lib.hid (show Below w.heap.size w w38 by rw [hw38]; exact below_row B_37.out _ (by have := L_35; omega) _)
                clear hw38
                refine hK.out _ _ ⟨K1_38.out, K2_38.out⟩ (fun hHeld => ?_)
                clear hK K
                refine wpAnyH_done (by kernel_rfl) ?_ _
                go_wp2_with fail
                go_meet
                exact ⟨_, _, rfl, rfl, R6_38.out, R7_38.out, B_38.out⟩
      · skip
        go_simp
        change K _ (w29.alloc (.cells (ksC .i64 z35) 27))
        obtain ⟨w39, hw39⟩ : ∃ W, W = w29.alloc (.cells (ksC .i64 z35) 27) := ⟨_, rfl⟩
        rw [← hw39]
        have K1_39 := Lib.hid (show Blk w39 _ _ _ by rw [hw39]; exact K1_29.out.more _)
        have K2_39 := Lib.hid (show Blk w39 _ _ _ by rw [hw39]; exact K2_29.out.more _)
        have R6_39 := Lib.hid (show Blk w39 _ _ _ by rw [hw39]; exact R6_29.out.more _)
        have R7_39 := Lib.hid (show Blk w39 w29.heap.size 27 (ksC .i64 z35) by rw [hw39]; exact Blk.fresh _ _ _)
        have B_39 := Lib.hid (show Below w.heap.size w w39 by rw [hw39]; exact B_29.out.alloc B_29.out.size _)
        have L_39 : w.heap.size + 1 < w29.heap.size := K2_29.out.lt
        have N_39 : W0.drew.heap.size ≠ w29.heap.size := Nat.ne_of_lt R6_29.out.lt
        clear hw39
        refine hK.out _ _ ⟨K1_39.out, K2_39.out⟩ (fun hHeld => ?_)
        clear hK K
        refine wpAnyH_ready (rs := [1]) (by kernel_rfl) (by simp) ?_
        refine AllReadyH.cons rfl (fun K hK => ?_) AllReadyH.nil
        · skip
          go_simp
          refine (HA.out _).mono ?_
          rintro e w40 ⟨rfl, hb40⟩
          have K1_40 := Lib.hid (K1_39.out.keep hb40 K1_39.out.lt)
          have K2_40 := Lib.hid (K2_39.out.keep hb40 K2_39.out.lt)
          have R6_40 := Lib.hid (R6_39.out.keep hb40 R6_39.out.lt)
          have R7_40 := Lib.hid (R7_39.out.keep hb40 R7_39.out.lt)
          have B_40 := Lib.hid (B_39.out.trans (hb40.mono B_39.out.size))
          clear hb40
          refine hK.out _ _ ⟨K1_40.out, K2_40.out⟩ (fun hHeld => ?_)
          clear hK K
          refine wpAnyH_ready (rs := [3]) (by kernel_rfl) (by simp) ?_
          refine AllReadyH.cons rfl (fun K hK => ?_) AllReadyH.nil
          · skip
            go_simp
            refine (HBS.out _).mono ?_
            rintro e w41 ⟨rfl, hb41⟩
            have K1_41 := Lib.hid (K1_40.out.keep hb41 K1_40.out.lt)
            have K2_41 := Lib.hid (K2_40.out.keep hb41 K2_40.out.lt)
            have R6_41 := Lib.hid (R6_40.out.keep hb41 R6_40.out.lt)
            have R7_41 := Lib.hid (R7_40.out.keep hb41 R7_40.out.lt)
            have B_41 := Lib.hid (B_40.out.trans (hb41.mono B_40.out.size))
            clear hb41
            refine hK.out _ _ ⟨K1_41.out, K2_41.out⟩ (fun hHeld => ?_)
            clear hK K
            refine wpAnyH_ready (rs := [6]) (by kernel_rfl) (by simp) ?_
            refine AllReadyH.cons rfl (fun K hK => ?_) AllReadyH.nil
            · skip
              refine step_sto_ks info35 W0.drew.heap.size (nI x) HXL2.out _ R6_41.out (by rw [ksC_size]; exact z35_len) (by rfl) _ _ rfl (by rfl) (by rfl) ?_
              obtain ⟨w42, hw42⟩ : ∃ W, W = w41.setRow W0.drew.heap.size (ksC .i64 (nI x)) := ⟨_, rfl⟩
              rw [← hw42]
              have R6_42 := Lib.hid (show Blk w42 W0.drew.heap.size 27 (ksC .i64 (nI x)) by rw [hw42]; exact R6_41.out.row _)
              have R7_42 := Lib.hid (show Blk w42 _ _ _ by rw [hw42]; exact R7_41.out.far (Ne.symm N_39) _)
              have K1_42 := Lib.hid (show Blk w42 _ _ _ by rw [hw42]; exact K1_41.out.far (by have := L_29; omega) _)
              have K2_42 := Lib.hid (show Blk w42 _ _ _ by rw [hw42]; exact K2_41.out.far (by have := L_29; omega) _)
              have B_42 := Lib.hid (show Below w.heap.size w w42 by rw [hw42]; exact below_row B_41.out _ (by have := L_29; omega) _)
              clear hw42
              refine hK.out _ _ ⟨K1_42.out, K2_42.out⟩ (fun hHeld => ?_)
              clear hK K
              refine wpAnyH_ready (rs := [7]) (by kernel_rfl) (by simp) ?_
              refine AllReadyH.cons rfl (fun K hK => ?_) AllReadyH.nil
              · skip
                refine step_sto_ks info35 w29.heap.size (nI y) HYL2.out _ R7_42.out (by rw [ksC_size]; exact z35_len) (by rfl) _ _ rfl (by rfl) (by rfl) ?_
                obtain ⟨w43, hw43⟩ : ∃ W, W = w42.setRow w29.heap.size (ksC .i64 (nI y)) := ⟨_, rfl⟩
                rw [← hw43]
                have R7_43 := Lib.hid (show Blk w43 w29.heap.size 27 (ksC .i64 (nI y)) by rw [hw43]; exact R7_42.out.row _)
                have R6_43 := Lib.hid (show Blk w43 _ _ _ by rw [hw43]; exact R6_42.out.far (N_39) _)
                have K1_43 := Lib.hid (show Blk w43 _ _ _ by rw [hw43]; exact K1_42.out.far (by have := L_39; omega) _)
                have K2_43 := Lib.hid (show Blk w43 _ _ _ by rw [hw43]; exact K2_42.out.far (by have := L_39; omega) _)
                have B_43 := Lib.hid (show Below w.heap.size w w43 by rw [hw43]; exact below_row B_42.out _ (by have := L_39; omega) _)
                clear hw43
                refine hK.out _ _ ⟨K1_43.out, K2_43.out⟩ (fun hHeld => ?_)
                clear hK K
                refine wpAnyH_done (by kernel_rfl) ?_ _
                go_wp2_with fail
                go_meet
                exact ⟨_, _, rfl, rfl, R6_43.out, R7_43.out, B_43.out⟩
    · skip
      go_simp
      change K _ (W0.drew.alloc (.cells (ksC .i64 z35) 27))
      obtain ⟨w44, hw44⟩ : ∃ W, W = W0.drew.alloc (.cells (ksC .i64 z35) 27) := ⟨_, rfl⟩
      rw [← hw44]
      have K1_44 := Lib.hid (show Blk w44 _ _ _ by rw [hw44]; exact K1d.out.more _)
      have K2_44 := Lib.hid (show Blk w44 _ _ _ by rw [hw44]; exact K2d.out.more _)
      have R7_44 := Lib.hid (show Blk w44 W0.drew.heap.size 27 (ksC .i64 z35) by rw [hw44]; exact Blk.fresh _ _ _)
      have B_44 := Lib.hid (show Below w.heap.size w w44 by rw [hw44]; exact B0.out.alloc B0.out.size _)
      have L_44 : w.heap.size + 1 < W0.drew.heap.size := K2d.out.lt
      clear hw44
      refine hK.out _ _ ⟨K1_44.out, K2_44.out⟩ (fun hHeld => ?_)
      clear hK K
      refine wpAnyH_ready (rs := [1, 4]) (by kernel_rfl) (by simp) ?_
      refine AllReadyH.cons rfl (fun K hK => ?_) (AllReadyH.cons rfl (fun K hK => ?_) AllReadyH.nil)
      · skip
        go_simp
        refine (HA.out _).mono ?_
        rintro e w45 ⟨rfl, hb45⟩
        have K1_45 := Lib.hid (K1_44.out.keep hb45 K1_44.out.lt)
        have K2_45 := Lib.hid (K2_44.out.keep hb45 K2_44.out.lt)
        have R7_45 := Lib.hid (R7_44.out.keep hb45 R7_44.out.lt)
        have B_45 := Lib.hid (B_44.out.trans (hb45.mono B_44.out.size))
        clear hb45
        refine hK.out _ _ ⟨K1_45.out, K2_45.out⟩ (fun hHeld => ?_)
        clear hK K
        refine wpAnyH_ready (rs := [3, 4]) (by kernel_rfl) (by simp) ?_
        refine AllReadyH.cons rfl (fun K hK => ?_) (AllReadyH.cons rfl (fun K hK => ?_) AllReadyH.nil)
        · skip
          go_simp
          refine (HBS.out _).mono ?_
          rintro e w46 ⟨rfl, hb46⟩
          have K1_46 := Lib.hid (K1_45.out.keep hb46 K1_45.out.lt)
          have K2_46 := Lib.hid (K2_45.out.keep hb46 K2_45.out.lt)
          have R7_46 := Lib.hid (R7_45.out.keep hb46 R7_45.out.lt)
          have B_46 := Lib.hid (B_45.out.trans (hb46.mono B_45.out.size))
          clear hb46
          refine hK.out _ _ ⟨K1_46.out, K2_46.out⟩ (fun hHeld => ?_)
          clear hK K
          refine wpAnyH_ready (rs := [4]) (by kernel_rfl) (by simp) ?_
          refine AllReadyH.cons rfl (fun K hK => ?_) AllReadyH.nil
          · skip
            go_simp
            change K _ (w46.alloc (.cells (ksC .i64 z35) 27))
            obtain ⟨w47, hw47⟩ : ∃ W, W = w46.alloc (.cells (ksC .i64 z35) 27) := ⟨_, rfl⟩
            rw [← hw47]
            have K1_47 := Lib.hid (show Blk w47 _ _ _ by rw [hw47]; exact K1_46.out.more _)
            have K2_47 := Lib.hid (show Blk w47 _ _ _ by rw [hw47]; exact K2_46.out.more _)
            have R7_47 := Lib.hid (show Blk w47 _ _ _ by rw [hw47]; exact R7_46.out.more _)
            have R6_47 := Lib.hid (show Blk w47 w46.heap.size 27 (ksC .i64 z35) by rw [hw47]; exact Blk.fresh _ _ _)
            have B_47 := Lib.hid (show Below w.heap.size w w47 by rw [hw47]; exact B_46.out.alloc B_46.out.size _)
            have L_47 : w.heap.size + 1 < w46.heap.size := K2_46.out.lt
            have N_47 : W0.drew.heap.size ≠ w46.heap.size := Nat.ne_of_lt R7_46.out.lt
            clear hw47
            refine hK.out _ _ ⟨K1_47.out, K2_47.out⟩ (fun hHeld => ?_)
            clear hK K
            refine wpAnyH_ready (rs := [6]) (by kernel_rfl) (by simp) ?_
            refine AllReadyH.cons rfl (fun K hK => ?_) AllReadyH.nil
            · skip
              refine step_sto_ks info35 w46.heap.size (nI x) HXL2.out _ R6_47.out (by rw [ksC_size]; exact z35_len) (by rfl) _ _ rfl (by rfl) (by rfl) ?_
              obtain ⟨w48, hw48⟩ : ∃ W, W = w47.setRow w46.heap.size (ksC .i64 (nI x)) := ⟨_, rfl⟩
              rw [← hw48]
              have R6_48 := Lib.hid (show Blk w48 w46.heap.size 27 (ksC .i64 (nI x)) by rw [hw48]; exact R6_47.out.row _)
              have R7_48 := Lib.hid (show Blk w48 _ _ _ by rw [hw48]; exact R7_47.out.far (N_47) _)
              have K1_48 := Lib.hid (show Blk w48 _ _ _ by rw [hw48]; exact K1_47.out.far (by have := L_47; omega) _)
              have K2_48 := Lib.hid (show Blk w48 _ _ _ by rw [hw48]; exact K2_47.out.far (by have := L_47; omega) _)
              have B_48 := Lib.hid (show Below w.heap.size w w48 by rw [hw48]; exact below_row B_47.out _ (by have := L_47; omega) _)
              clear hw48
              refine hK.out _ _ ⟨K1_48.out, K2_48.out⟩ (fun hHeld => ?_)
              clear hK K
              refine wpAnyH_ready (rs := [7]) (by kernel_rfl) (by simp) ?_
              refine AllReadyH.cons rfl (fun K hK => ?_) AllReadyH.nil
              · skip
                refine step_sto_ks info35 W0.drew.heap.size (nI y) HYL2.out _ R7_48.out (by rw [ksC_size]; exact z35_len) (by rfl) _ _ rfl (by rfl) (by rfl) ?_
                obtain ⟨w49, hw49⟩ : ∃ W, W = w48.setRow W0.drew.heap.size (ksC .i64 (nI y)) := ⟨_, rfl⟩
                rw [← hw49]
                have R7_49 := Lib.hid (show Blk w49 W0.drew.heap.size 27 (ksC .i64 (nI y)) by rw [hw49]; exact R7_48.out.row _)
                have R6_49 := Lib.hid (show Blk w49 _ _ _ by rw [hw49]; exact R6_48.out.far (Ne.symm N_47) _)
                have K1_49 := Lib.hid (show Blk w49 _ _ _ by rw [hw49]; exact K1_48.out.far (by have := L_44; omega) _)
                have K2_49 := Lib.hid (show Blk w49 _ _ _ by rw [hw49]; exact K2_48.out.far (by have := L_44; omega) _)
                have B_49 := Lib.hid (show Below w.heap.size w w49 by rw [hw49]; exact below_row B_48.out _ (by have := L_44; omega) _)
                clear hw49
                refine hK.out _ _ ⟨K1_49.out, K2_49.out⟩ (fun hHeld => ?_)
                clear hK K
                refine wpAnyH_done (by kernel_rfl) ?_ _
                go_wp2_with fail
                go_meet
                exact ⟨_, _, rfl, rfl, R6_49.out, R7_49.out, B_49.out⟩
        · skip
          go_simp
          change K _ (w45.alloc (.cells (ksC .i64 z35) 27))
          obtain ⟨w50, hw50⟩ : ∃ W, W = w45.alloc (.cells (ksC .i64 z35) 27) := ⟨_, rfl⟩
          rw [← hw50]
          have K1_50 := Lib.hid (show Blk w50 _ _ _ by rw [hw50]; exact K1_45.out.more _)
          have K2_50 := Lib.hid (show Blk w50 _ _ _ by rw [hw50]; exact K2_45.out.more _)
          have R7_50 := Lib.hid (show Blk w50 _ _ _ by rw [hw50]; exact R7_45.out.more _)
          have R6_50 := Lib.hid (show Blk w50 w45.heap.size 27 (ksC .i64 z35) by rw [hw50]; exact Blk.fresh _ _ _)
          have B_50 := Lib.hid (show Below w.heap.size w w50 by rw [hw50]; exact B_45.out.alloc B_45.out.size _)
          have L_50 : w.heap.size + 1 < w45.heap.size := K2_45.out.lt
          have N_50 : W0.drew.heap.size ≠ w45.heap.size := Nat.ne_of_lt R7_45.out.lt
          clear hw50
          refine hK.out _ _ ⟨K1_50.out, K2_50.out⟩ (fun hHeld => ?_)
          clear hK K
          refine wpAnyH_ready (rs := [3]) (by kernel_rfl) (by simp) ?_
          refine AllReadyH.cons rfl (fun K hK => ?_) AllReadyH.nil
          · skip
            go_simp
            refine (HBS.out _).mono ?_
            rintro e w51 ⟨rfl, hb51⟩
            have K1_51 := Lib.hid (K1_50.out.keep hb51 K1_50.out.lt)
            have K2_51 := Lib.hid (K2_50.out.keep hb51 K2_50.out.lt)
            have R6_51 := Lib.hid (R6_50.out.keep hb51 R6_50.out.lt)
            have R7_51 := Lib.hid (R7_50.out.keep hb51 R7_50.out.lt)
            have B_51 := Lib.hid (B_50.out.trans (hb51.mono B_50.out.size))
            clear hb51
            refine hK.out _ _ ⟨K1_51.out, K2_51.out⟩ (fun hHeld => ?_)
            clear hK K
            refine wpAnyH_ready (rs := [6]) (by kernel_rfl) (by simp) ?_
            refine AllReadyH.cons rfl (fun K hK => ?_) AllReadyH.nil
            · skip
              refine step_sto_ks info35 w45.heap.size (nI x) HXL2.out _ R6_51.out (by rw [ksC_size]; exact z35_len) (by rfl) _ _ rfl (by rfl) (by rfl) ?_
              obtain ⟨w52, hw52⟩ : ∃ W, W = w51.setRow w45.heap.size (ksC .i64 (nI x)) := ⟨_, rfl⟩
              rw [← hw52]
              have R6_52 := Lib.hid (show Blk w52 w45.heap.size 27 (ksC .i64 (nI x)) by rw [hw52]; exact R6_51.out.row _)
              have R7_52 := Lib.hid (show Blk w52 _ _ _ by rw [hw52]; exact R7_51.out.far (N_50) _)
              have K1_52 := Lib.hid (show Blk w52 _ _ _ by rw [hw52]; exact K1_51.out.far (by have := L_50; omega) _)
              have K2_52 := Lib.hid (show Blk w52 _ _ _ by rw [hw52]; exact K2_51.out.far (by have := L_50; omega) _)
              have B_52 := Lib.hid (show Below w.heap.size w w52 by rw [hw52]; exact below_row B_51.out _ (by have := L_50; omega) _)
              clear hw52
              refine hK.out _ _ ⟨K1_52.out, K2_52.out⟩ (fun hHeld => ?_)
              clear hK K
              refine wpAnyH_ready (rs := [7]) (by kernel_rfl) (by simp) ?_
              refine AllReadyH.cons rfl (fun K hK => ?_) AllReadyH.nil
              · skip
                refine step_sto_ks info35 W0.drew.heap.size (nI y) HYL2.out _ R7_52.out (by rw [ksC_size]; exact z35_len) (by rfl) _ _ rfl (by rfl) (by rfl) ?_
                obtain ⟨w53, hw53⟩ : ∃ W, W = w52.setRow W0.drew.heap.size (ksC .i64 (nI y)) := ⟨_, rfl⟩
                rw [← hw53]
                have R7_53 := Lib.hid (show Blk w53 W0.drew.heap.size 27 (ksC .i64 (nI y)) by rw [hw53]; exact R7_52.out.row _)
                have R6_53 := Lib.hid (show Blk w53 _ _ _ by rw [hw53]; exact R6_52.out.far (Ne.symm N_50) _)
                have K1_53 := Lib.hid (show Blk w53 _ _ _ by rw [hw53]; exact K1_52.out.far (by have := L_44; omega) _)
                have K2_53 := Lib.hid (show Blk w53 _ _ _ by rw [hw53]; exact K2_52.out.far (by have := L_44; omega) _)
                have B_53 := Lib.hid (show Below w.heap.size w w53 by rw [hw53]; exact below_row B_52.out _ (by have := L_44; omega) _)
                clear hw53
                refine hK.out _ _ ⟨K1_53.out, K2_53.out⟩ (fun hHeld => ?_)
                clear hK K
                refine wpAnyH_done (by kernel_rfl) ?_ _
                go_wp2_with fail
                go_meet
                exact ⟨_, _, rfl, rfl, R6_53.out, R7_53.out, B_53.out⟩
      · skip
        go_simp
        change K _ (w44.alloc (.cells (ksC .i64 z35) 27))
        obtain ⟨w54, hw54⟩ : ∃ W, W = w44.alloc (.cells (ksC .i64 z35) 27) := ⟨_, rfl⟩
        rw [← hw54]
        have K1_54 := Lib.hid (show Blk w54 _ _ _ by rw [hw54]; exact K1_44.out.more _)
        have K2_54 := Lib.hid (show Blk w54 _ _ _ by rw [hw54]; exact K2_44.out.more _)
        have R7_54 := Lib.hid (show Blk w54 _ _ _ by rw [hw54]; exact R7_44.out.more _)
        have R6_54 := Lib.hid (show Blk w54 w44.heap.size 27 (ksC .i64 z35) by rw [hw54]; exact Blk.fresh _ _ _)
        have B_54 := Lib.hid (show Below w.heap.size w w54 by rw [hw54]; exact B_44.out.alloc B_44.out.size _)
        have L_54 : w.heap.size + 1 < w44.heap.size := K2_44.out.lt
        have N_54 : W0.drew.heap.size ≠ w44.heap.size := Nat.ne_of_lt R7_44.out.lt
        clear hw54
        refine hK.out _ _ ⟨K1_54.out, K2_54.out⟩ (fun hHeld => ?_)
        clear hK K
        refine wpAnyH_ready (rs := [1]) (by kernel_rfl) (by simp) ?_
        refine AllReadyH.cons rfl (fun K hK => ?_) AllReadyH.nil
        · skip
          go_simp
          refine (HA.out _).mono ?_
          rintro e w55 ⟨rfl, hb55⟩
          have K1_55 := Lib.hid (K1_54.out.keep hb55 K1_54.out.lt)
          have K2_55 := Lib.hid (K2_54.out.keep hb55 K2_54.out.lt)
          have R6_55 := Lib.hid (R6_54.out.keep hb55 R6_54.out.lt)
          have R7_55 := Lib.hid (R7_54.out.keep hb55 R7_54.out.lt)
          have B_55 := Lib.hid (B_54.out.trans (hb55.mono B_54.out.size))
          clear hb55
          refine hK.out _ _ ⟨K1_55.out, K2_55.out⟩ (fun hHeld => ?_)
          clear hK K
          refine wpAnyH_ready (rs := [3]) (by kernel_rfl) (by simp) ?_
          refine AllReadyH.cons rfl (fun K hK => ?_) AllReadyH.nil
          · skip
            go_simp
            refine (HBS.out _).mono ?_
            rintro e w56 ⟨rfl, hb56⟩
            have K1_56 := Lib.hid (K1_55.out.keep hb56 K1_55.out.lt)
            have K2_56 := Lib.hid (K2_55.out.keep hb56 K2_55.out.lt)
            have R6_56 := Lib.hid (R6_55.out.keep hb56 R6_55.out.lt)
            have R7_56 := Lib.hid (R7_55.out.keep hb56 R7_55.out.lt)
            have B_56 := Lib.hid (B_55.out.trans (hb56.mono B_55.out.size))
            clear hb56
            refine hK.out _ _ ⟨K1_56.out, K2_56.out⟩ (fun hHeld => ?_)
            clear hK K
            refine wpAnyH_ready (rs := [6]) (by kernel_rfl) (by simp) ?_
            refine AllReadyH.cons rfl (fun K hK => ?_) AllReadyH.nil
            · skip
              refine step_sto_ks info35 w44.heap.size (nI x) HXL2.out _ R6_56.out (by rw [ksC_size]; exact z35_len) (by rfl) _ _ rfl (by rfl) (by rfl) ?_
              obtain ⟨w57, hw57⟩ : ∃ W, W = w56.setRow w44.heap.size (ksC .i64 (nI x)) := ⟨_, rfl⟩
              rw [← hw57]
              have R6_57 := Lib.hid (show Blk w57 w44.heap.size 27 (ksC .i64 (nI x)) by rw [hw57]; exact R6_56.out.row _)
              have R7_57 := Lib.hid (show Blk w57 _ _ _ by rw [hw57]; exact R7_56.out.far (N_54) _)
              have K1_57 := Lib.hid (show Blk w57 _ _ _ by rw [hw57]; exact K1_56.out.far (by have := L_54; omega) _)
              have K2_57 := Lib.hid (show Blk w57 _ _ _ by rw [hw57]; exact K2_56.out.far (by have := L_54; omega) _)
              have B_57 := Lib.hid (show Below w.heap.size w w57 by rw [hw57]; exact below_row B_56.out _ (by have := L_54; omega) _)
              clear hw57
              refine hK.out _ _ ⟨K1_57.out, K2_57.out⟩ (fun hHeld => ?_)
              clear hK K
              refine wpAnyH_ready (rs := [7]) (by kernel_rfl) (by simp) ?_
              refine AllReadyH.cons rfl (fun K hK => ?_) AllReadyH.nil
              · skip
                refine step_sto_ks info35 W0.drew.heap.size (nI y) HYL2.out _ R7_57.out (by rw [ksC_size]; exact z35_len) (by rfl) _ _ rfl (by rfl) (by rfl) ?_
                obtain ⟨w58, hw58⟩ : ∃ W, W = w57.setRow W0.drew.heap.size (ksC .i64 (nI y)) := ⟨_, rfl⟩
                rw [← hw58]
                have R7_58 := Lib.hid (show Blk w58 W0.drew.heap.size 27 (ksC .i64 (nI y)) by rw [hw58]; exact R7_57.out.row _)
                have R6_58 := Lib.hid (show Blk w58 _ _ _ by rw [hw58]; exact R6_57.out.far (Ne.symm N_54) _)
                have K1_58 := Lib.hid (show Blk w58 _ _ _ by rw [hw58]; exact K1_57.out.far (by have := L_44; omega) _)
                have K2_58 := Lib.hid (show Blk w58 _ _ _ by rw [hw58]; exact K2_57.out.far (by have := L_44; omega) _)
                have B_58 := Lib.hid (show Below w.heap.size w w58 by rw [hw58]; exact below_row B_57.out _ (by have := L_44; omega) _)
                clear hw58
                refine hK.out _ _ ⟨K1_58.out, K2_58.out⟩ (fun hHeld => ?_)
                clear hK K
                refine wpAnyH_done (by kernel_rfl) ?_ _
                go_wp2_with fail
                go_meet
                exact ⟨_, _, rfl, rfl, R6_58.out, R7_58.out, B_58.out⟩
  case rest =>
    obtain ⟨g6, g7, rfl, rfl, h6, h7, hB⟩ := hcut
    have R6 := Lib.hid h6; have R7 := Lib.hid h7; have BB := Lib.hid hB
    clear h6 h7 hB B0 K1 K2 K1d K2d HA HBS
    go_wp2_with fail
    go_loopw [13] (fun iv wr => ∃ i : Nat, iv = .int .i64 i ∧ i ≤ 35 ∧ Hid (∀ j, j < i → x.getD j 0 ≤ y.getD j 0) ∧ Blk wr g6 27 (ksC .i64 (nI x)) ∧ Blk wr g7 27 (ksC .i64 (nI y)) ∧ Below w.heap.size w wr) (fun iv _ => 35 - (intOf iv).toNat)
    case atStart => exact ⟨0, rfl, by omega, Lib.hid (fun j hj => absurd hj (by omega)), R6.out, R7.out, BB.out⟩
    case round =>
      clear R6 R7 BB
      obtain ⟨i, rfl, hi, HI, h6, h7, hB⟩ := hrel
      have R6 := Lib.hid h6; have R7 := Lib.hid h7; have BB := Lib.hid hB
      clear h6 h7 hB
      by_cases hlt : i < 35
      · have hiI : (i : Int) < 35 := by omega
        obtain ⟨p, hp⟩ : ∃ p, x.getD i 0 = p := ⟨_, rfl⟩
        obtain ⟨q, hq⟩ : ∃ q, y.getD i 0 = q := ⟨_, rfl⟩
        have c6 : ∀ m, (wr.drewN m).cell? ⟨g6, i, none⟩ = some (.int .i64 (p : Int)) := fun m => by
          rw [(R6.out.draws m).cell, ksC_get .i64 _ i (by rw [HXL2.out]; exact hlt), ← hp, List.getD_eq_getElem?_getD, List.getElem?_map, List.getD_eq_getElem?_getD, List.getElem?_eq_getElem (by rw [HXL.out]; exact hlt)]
          rfl
        have c7 : ∀ m, (wr.drewN m).cell? ⟨g7, i, none⟩ = some (.int .i64 (q : Int)) := fun m => by
          rw [(R7.out.draws m).cell, ksC_get .i64 _ i (by rw [HYL2.out]; exact hlt), ← hq, List.getD_eq_getElem?_getD, List.getElem?_map, List.getD_eq_getElem?_getD, List.getElem?_eq_getElem (by rw [HYL.out]; exact hlt)]
          rfl
        have HP := Lib.hid hp; have HQ := Lib.hid hq; have HLT := Lib.hid hlt
        clear hp hq
        by_cases hqp : q < p
        · go_wp2_with fail
          go_quiet (fail)
          go_wp2_with fail
          go_ret2
          have hl := S7.low_some x y i (by rw [HXL.out]; exact HLT.out) (by rw [HYL.out]; exact HLT.out) HI.out (by rw [HP.out, HQ.out]; exact hqp)
          exact ⟨by rw [hl]; rfl, below_draws BB.out _⟩
        · go_wp2_with fail
          go_quiet (fail)
          go_wp2_with fail
          go_roundw
          case rel => exact ⟨i + 1, by go_num, by omega, Lib.hid (fun j hj => by
            by_cases hji : j < i
            · exact HI.out j hji
            · obtain rfl : j = i := by omega
              rw [HP.out, HQ.out]; omega), R6.out.draws _, R7.out.draws _, below_draws BB.out _⟩
          case measure => simp [intOf]; omega
      · obtain rfl : i = 35 := by omega
        have hl := S7.low_all x y (fun j hj => HI.out j (by rw [HXL.out] at hj; exact hj))
        have HL := Lib.hid hl
        clear hl
        go_wp2_with fail
        go_ret2
        exact ⟨by rw [HL.out]; rfl, BB.out⟩

end Go.Proofs.YtgfolgmheinbiaaDoorRRR
