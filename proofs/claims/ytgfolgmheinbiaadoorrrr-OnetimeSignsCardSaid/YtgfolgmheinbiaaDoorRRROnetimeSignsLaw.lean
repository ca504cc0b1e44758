/- OnetimeSigns: whatever seed, number and digest come in, the law's call returns true and its arguments read as before; the table of constants reads as the program's text lays it (the card ties it).
   Conditions: none beyond the row's own. -/
import Derived.Test.YtgfolgmheinbiaaDoorRRRToLaw7
namespace Go.Proofs.YtgfolgmheinbiaaDoorRRR.onetimeSignsLaw
open Go.ChangeShapes Go.WideShapes Go.ChangeAt Go.RowKit
open Go.ChangeMaps (open_string shut_string)

theorem ld_any_g {ops : Array Oper} {rest : List Oper} {o : Oper} {a : Act} {w : World} {Q : Exit → Act → World → Prop} {T te : TypeId} {n m : Nat} (hu : Tryd.prog.underlying T = some (.array n te)) (hi : (Tryd.prog.info? T).map (·.size) = some m) (g : Nat) (l : List Int) (hl : l.length = m) (h : Blk w g T (bsC l)) (hw : Region.wanted o (yielded ops a.tmps) = true) (x : Operand) (ho : o.op = .load T x)
    (hx : a.eval x = .pointer (some ⟨g, 0, none⟩)) (hk : wpList Tryd.prog ops Q rest (a.put o.dst (.agg (bsC l))) w) : wpList Tryd.prog ops Q (o :: rest) a w :=
  wpList_step fun K hK => by
    simp only [hw, if_true]
    exact wp_load_row _ x ho g hx _ _ _ _ h hu rfl (by rw [bsC_size, hl]; exact hi) (hK _ _ hk)
theorem yl_any {ops : Array Oper} {S : World → Prop} {o : Oper} {a : Act} {T te : TypeId} {n m : Nat} (hu : Tryd.prog.underlying T = some (.array n te)) (hi : (Tryd.prog.info? T).map (·.size) = some m) (g : Nat) (L : List Int) (hl : L.length = m) (hS : ∀ w, S w → Blk w g T (bsC L)) (hw : Region.wanted o (yielded ops a.tmps) = true) (x : Operand) (ho : o.op = .load T x) (hx : a.eval x = .pointer (some ⟨g, 0, none⟩)) : YieldsIf Tryd.prog ops S o (.agg (bsC L)) a := by
  refine yieldsIf_load_mid hw T x ho g 0 hx (L.map fun z => Value.int .u8 z) _ (fun w h => ?_) hu rfl (by rw [hi]; simp [hl])
  have := mid_range (hS w h) 0 L.length (by omega)
  rwa [List.drop_zero, List.take_of_length_le (Nat.le_refl _)] at this
theorem row_pre (f : Nat → List Nat) (hf : ∀ i, i < 35 → (f i).length = 16) : ∀ n, n ≤ 35 → ∀ c, c < n → row7 (pre f n) c = f c
  | 0, _, c, h => by omega
  | n + 1, hn, c, h => by
    have hl := pre_len f hf n (by omega)
    rw [pre_next]
    by_cases hc : c < n
    · rw [← row_pre f hf n (by omega) c hc]
      unfold row7
      rw [List.drop_append_of_le_length (by omega), List.take_append_of_le_length (by rw [List.length_drop]; omega)]
    · obtain rfl : c = n := by omega
      unfold row7
      rw [List.drop_left' (by omega), List.take_of_length_le (by rw [hf c (by omega)]; omega)]
theorem pre_congr (f g : Nat → List Nat) : ∀ n, (∀ i, i < n → f i = g i) → pre f n = pre g n
  | 0, _ => rfl
  | n + 1, h => by rw [pre_next, pre_next, pre_congr f g n (fun i hi => h i (by omega)), h n (by omega)]
theorem signs_meet (seed d : List Nat) (hd : d.length = 16) (hdb : ∀ x ∈ d, x < 256) (leaf : Nat) : rec7 leaf d (pre (S7.valS seed d leaf) 35) = S7.comp leaf (pre (S7.valP seed leaf) 35) := by
  unfold rec7
  rw [pre_congr (S7.valE (pre (S7.valS seed d leaf) 35) d leaf) (S7.valP seed leaf) 35 (fun c hc => ?_)]
  have h := row_pre (S7.valS seed d leaf) (fun i _ => S7.valS_len seed d leaf i) 35 (Nat.le_refl _) c hc
  unfold row7 at h
  unfold S7.valE
  rw [h]
  unfold S7.valS S7.valP
  have hle : S7.dg d c ≤ 15 := S7.split_le d hdb hd c
  have := S7.adv_add leaf c 0 (S7.dg d c) (S7.sec seed leaf c) (15 - S7.dg d c)
  rw [Nat.zero_add, show S7.dg d c + (15 - S7.dg d c) = 15 by omega] at this
  exact this.symm

set_option maxRecDepth 100000 in
set_option maxHeartbeats 8000000 in
theorem wYes (leaf : Int) (D G SV PV : List Int) (hD : D.length = 32) (hG : G.length = 16) (hSV : SV.length = 560) (hPV : PV.length = 16) (w : World) (hT : Tab w)
    (hS : ∀ W, Tab W → Calls Tryd.prog 29 #[.agg (bsC D), .int .i64 leaf, .agg (bsC G)] W fun e w' => e = .returned (.tuple #[.agg (bsC SV), .int .i64 0]) ∧ Below W.heap.size W w')
    (hP : ∀ W, Tab W → Calls Tryd.prog 24 #[.agg (bsC D), .int .i64 leaf] W fun e w' => e = .returned (.tuple #[.agg (bsC PV), .int .i64 0]) ∧ Below W.heap.size W w')
    (hV : ∀ W, Tab W → Calls Tryd.prog 30 #[.agg (bsC PV), .int .i64 leaf, .agg (bsC G), .agg (bsC SV)] W fun e w' => e = .returned (.bool true) ∧ Below W.heap.size W w')
    (X : List Int) (hR : ∀ W, Tab W → Calls Tryd.prog 31 #[.int .i64 leaf, .agg (bsC G), .agg (bsC SV)] W fun e w' => e = .returned (.tuple #[.agg (bsC PV), .int .i64 0]) ∧ Below W.heap.size W w')
    (hTo : ∀ W, Calls Tryd.prog 32 #[.agg (bsC SV)] W fun e w' => e = .returned (.agg (bsC SV)) ∧ Below W.heap.size W w')
    (hRS : ∀ W, Calls Tryd.prog 16 #[.agg (bsC G)] W fun e w' => e = .returned (.agg (ksC .i64 X)) ∧ Below W.heap.size W w')
    (hRV : ∀ W, Calls Tryd.prog 27 #[.agg (bsC D), .int .i64 leaf, .agg (ksC .i64 X)] W fun e w' => e = .returned (.agg (bsC SV)) ∧ Below W.heap.size W w')
    (k1 : inB leaf 65535 = true) :
    Calls Tryd.prog 9 #[.agg (bsC D), .int .i64 leaf, .agg (bsC G)] w fun e w' => e = .returned (.bool true) ∧ Below w.heap.size w w' := by
  have hp := hT.1
  have HK := Lib.hid (fun w hT => known_any w hT)
  have HIN := Lib.hid in_any
  have HDL := Lib.hid hD; have HGL := Lib.hid hG; have HSV := Lib.hid hSV; have HPV := Lib.hid hPV; have HS := Lib.hid hS; have HP := Lib.hid hP; have HV := Lib.hid hV
  have HR := Lib.hid hR; have HTO := Lib.hid hTo; have HRS := Lib.hid hRS; have HRV := Lib.hid hRV
  have heqP := fun w => eq_same (t := 22) Tryd.underlying22 PV hPV w
  have heqS := fun w => eq_rows (t := 53) (T := 36) Tryd.underlying53 Tryd.underlying36 (by kernel_rfl) (fun w => by kernel_rfl) (fun w => by kernel_rfl) SV hSV w
  clear hR hTo hRS hRV
  clear hD hG hSV hPV hS hP hV
  go_enter Tryd.func9, Tryd.ntmps9
  go_upto_region 1 with (fail)
  change Code.wp Tryd.prog _ _ _ ((w.alloc (.cells (bsC D) 31)).alloc (.cells (bsC G) 22))
  generalize hW0 : (w.alloc (.cells (bsC D) 31)).alloc (.cells (bsC G) 22) = W0
  obtain ⟨hb1, hb2, hB0⟩ := boxes2 w hW0
  have K0 := Lib.hid hb1; have G0 := Lib.hid hb2; have B0 := Lib.hid hB0
  clear hW0 hb1 hb2 hB0
  go_upto_region 3 with (go_at_call 14; refine (HK.out _ (hT.below B0.out hp)).mono ?_; rintro e w1 ⟨rfl, hb⟩; have K1 := Lib.hid (K0.out.keep hb K0.out.lt); have G1 := Lib.hid (G0.out.keep hb G0.out.lt); have B1 := Lib.hid (B0.out.trans (hb.mono B0.out.size)); clear hb)
  clear K0 G0 B0
  go_upto_region 4 with (first
    | (refine ld_bs Tryd.underlying31 info32u _ D HDL.out K1.out (by rfl) _ (by rfl) (by rfl) ?_)
    | (refine ld_bs Tryd.underlying22 info16u _ G HGL.out G1.out (by rfl) _ (by rfl) (by rfl) ?_)
    | (go_at_call 29; refine (HS.out _ (hT.below B1.out hp)).mono ?_; rintro e w2 ⟨rfl, hb⟩; have K2 := Lib.hid (K1.out.keep hb K1.out.lt); have G2 := Lib.hid (G1.out.keep hb G1.out.lt); have B2 := Lib.hid (B1.out.trans (hb.mono B1.out.size)); clear hb)
    | (refine sto_bs infoSg _ SV HSV.out _ (Blk.fresh w2 57 (bsC (zs 560))) (by rw [bsC_size]; exact zs_len 560) (by rfl) _ _ (by rfl) (by rfl) (by rfl) ?_; intro w3 hw))
  have K3 := Lib.hid (show Blk w3 w.heap.size 31 (bsC D) by rw [hw.out]; exact (K2.out.more _).far (Nat.ne_of_lt K2.out.lt) _)
  have G3 := Lib.hid (show Blk w3 (w.heap.size + 1) 22 (bsC G) by rw [hw.out]; exact (G2.out.more _).far (Nat.ne_of_lt G2.out.lt) _)
  have S3 := Lib.hid (show Blk w3 w2.heap.size 57 (bsC SV) by rw [hw.out]; exact (Blk.fresh w2 _ _).row _)
  have B3 := Lib.hid (show Below w.heap.size w w3 by rw [hw.out]; exact below_row (B2.out.alloc B2.out.size _) _ B2.out.size _)
  clear hw K1 G1 B1 K2 G2 B2
  generalize w2.heap.size = gs at *
  go_upto_region 5 with (first
    | (refine ld_bs Tryd.underlying31 info32u _ D HDL.out K3.out (by rfl) _ (by rfl) (by rfl) ?_)
    | (go_at_call 24; refine (HP.out _ (hT.below B3.out hp)).mono ?_; rintro e w4 ⟨rfl, hb⟩; have K4 := Lib.hid (K3.out.keep hb K3.out.lt); have G4 := Lib.hid (G3.out.keep hb G3.out.lt); have S4 := Lib.hid (S3.out.keep hb S3.out.lt); have B4 := Lib.hid (B3.out.trans (hb.mono B3.out.size)); clear hb)
    | (refine sto_bs info16u _ PV HPV.out _ (Blk.fresh w4 22 (bsC z16)) (by rw [bsC_size]; exact z16_len) (by rfl) _ _ (by rfl) (by rfl) (by rfl) ?_; intro w5 hw))
  have K5 := Lib.hid (show Blk w5 w.heap.size 31 (bsC D) by rw [hw.out]; exact (K4.out.more _).far (Nat.ne_of_lt K4.out.lt) _)
  have G5 := Lib.hid (show Blk w5 (w.heap.size + 1) 22 (bsC G) by rw [hw.out]; exact (G4.out.more _).far (Nat.ne_of_lt G4.out.lt) _)
  have S5 := Lib.hid (show Blk w5 gs 57 (bsC SV) by rw [hw.out]; exact (S4.out.more _).far (Nat.ne_of_lt S4.out.lt) _)
  have P5 := Lib.hid (show Blk w5 w4.heap.size 22 (bsC PV) by rw [hw.out]; exact (Blk.fresh w4 _ _).row _)
  have B5 := Lib.hid (show Below w.heap.size w w5 by rw [hw.out]; exact below_row (B4.out.alloc B4.out.size _) _ B4.out.size _)
  clear hw K3 G3 S3 B3 K4 G4 S4 B4
  generalize w4.heap.size = gp at *
  go_upto_region 8 with (first
    | (go_at_call 18; refine (HIN.out _ _ _).mono ?_; rintro e w9 ⟨rfl, rfl⟩)
    | (refine ld_any_g Tryd.underlying57 infoSg gs SV HSV.out S5.out (by rfl) (.tmp 7) (by rfl) (by rfl) ?_)
    | (refine ld_bs_g Tryd.underlying22 info16u _ G HGL.out G5.out (by rfl) (.tmp 5) (by rfl) (by rfl) ?_)
    | (go_at_call 31; refine (HR.out _ (hT.below B5.out hp)).mono ?_; rintro e w6 ⟨rfl, hb⟩; have K6 := Lib.hid (K5.out.keep hb K5.out.lt); have G6 := Lib.hid (G5.out.keep hb G5.out.lt); have S6 := Lib.hid (S5.out.keep hb S5.out.lt); have P6 := Lib.hid (P5.out.keep hb P5.out.lt); have B6 := Lib.hid (B5.out.trans (hb.mono B5.out.size)); clear hb)
    | (refine sto_bs info16u _ PV HPV.out _ (Blk.fresh w6 22 (bsC z16)) (by rw [bsC_size]; exact z16_len) (by rfl) _ _ (by rfl) (by rfl) (by rfl) ?_; intro w7 hw))
  have K7 := Lib.hid (show Blk w7 w.heap.size 31 (bsC D) by rw [hw.out]; exact (K6.out.more _).far (Nat.ne_of_lt K6.out.lt) _)
  have G7 := Lib.hid (show Blk w7 (w.heap.size + 1) 22 (bsC G) by rw [hw.out]; exact (G6.out.more _).far (Nat.ne_of_lt G6.out.lt) _)
  have S7 := Lib.hid (show Blk w7 gs 57 (bsC SV) by rw [hw.out]; exact (S6.out.more _).far (Nat.ne_of_lt S6.out.lt) _)
  have P7 := Lib.hid (show Blk w7 gp 22 (bsC PV) by rw [hw.out]; exact (P6.out.more _).far (Nat.ne_of_lt P6.out.lt) _)
  have R7 := Lib.hid (show Blk w7 w6.heap.size 22 (bsC PV) by rw [hw.out]; exact (Blk.fresh w6 _ _).row _)
  have B7 := Lib.hid (show Below w.heap.size w w7 by rw [hw.out]; exact below_row (B6.out.alloc B6.out.size _) _ B6.out.size _)
  clear hw K5 G5 S5 P5 B5 K6 G6 S6 P6 B6
  generalize w6.heap.size = gr at *
  have K20 := Lib.hid K7.out.draw; have G20 := Lib.hid G7.out.draw; have S20 := Lib.hid S7.out.draw; have P20 := Lib.hid P7.out.draw; have R20 := Lib.hid R7.out.draw; have B20 := Lib.hid B7.out.drew
  refine wp_region_held_drew (S := (fun W => Blk W w.heap.size 31 (bsC D) ∧ Blk W (w.heap.size + 1) 22 (bsC G) ∧ Blk W gs 57 (bsC SV) ∧ Blk W gp 22 (bsC PV) ∧ Blk W gr 22 (bsC PV))) (by kernel_rfl) ?_ (fun hHeld => ?_)
  · exact ⟨K20.out, G20.out, S20.out, P20.out, R20.out⟩
  refine wpAnyH_take (i := 0) (v := ?_) rfl (by kernel_rfl) (by kernel_rfl) (by kernel_rfl) (fun _ _ _ h => h) (Or.inl ⟨by rfl, ?_⟩) (by assumption) ?_
  rotate_left
  · (intro w9 _; go_simp; try with_reducible rfl)
  simp only [Act.put, List.getElem_toArray, List.getElem_cons_zero, List.setIfInBounds_toArray, List.set_cons_succ, List.set_cons_zero]
  refine wpAnyH_take (i := 1) (v := ?_) rfl (by kernel_rfl) (by kernel_rfl) (by kernel_rfl) (fun _ _ _ h => h) (Or.inl ⟨by rfl, ?_⟩) (by assumption) ?_
  rotate_left
  · (intro w9 _; go_simp; try with_reducible rfl)
  simp only [Act.put, List.getElem_toArray, List.getElem_cons_succ, List.getElem_cons_zero, List.setIfInBounds_toArray, List.set_cons_succ, List.set_cons_zero]
  refine wpAnyH_take (i := 2) (v := ?_) rfl (by kernel_rfl) (by kernel_rfl) (by kernel_rfl) (fun _ _ _ h => h) (Or.inl ⟨by rfl, ?_⟩) (by assumption) ?_
  rotate_left
  · (intro w9 _; go_simp; try with_reducible rfl)
  simp only [Act.put, List.getElem_toArray, List.getElem_cons_succ, List.getElem_cons_zero, List.setIfInBounds_toArray, List.set_cons_succ, List.set_cons_zero]
  refine wpAnyH_take (i := 3) (v := ?_) rfl (by kernel_rfl) (by kernel_rfl) (by kernel_rfl) (fun _ _ _ h => h) (Or.inl ⟨by rfl, ?_⟩) (by assumption) ?_
  rotate_left
  · (intro w9 _; go_simp; try with_reducible rfl)
  simp only [Act.put, List.getElem_toArray, List.getElem_cons_succ, List.getElem_cons_zero, List.setIfInBounds_toArray, List.set_cons_succ, List.set_cons_zero]
  refine wpAnyH_take (i := 4) (v := ?_) rfl (by kernel_rfl) (by kernel_rfl) (by kernel_rfl) (fun _ _ _ h => h) (Or.inl ⟨by rfl, ?_⟩) (by assumption) ?_
  rotate_left
  · (intro w9 _; go_simp; try with_reducible rfl)
  simp only [Act.put, List.getElem_toArray, List.getElem_cons_succ, List.getElem_cons_zero, List.setIfInBounds_toArray, List.set_cons_succ, List.set_cons_zero]
  refine wpAnyH_take (i := 5) (v := ?_) rfl (by kernel_rfl) (by kernel_rfl) (by kernel_rfl) (fun _ _ _ h => h) (Or.inl ⟨by rfl, ?_⟩) (by assumption) ?_
  rotate_left
  · (intro w9 _; go_simp; try with_reducible rfl)
  simp only [Act.put, List.getElem_toArray, List.getElem_cons_succ, List.getElem_cons_zero, List.setIfInBounds_toArray, List.set_cons_succ, List.set_cons_zero]
  refine wpAnyH_take (i := 6) (v := ?_) rfl (by kernel_rfl) (by kernel_rfl) (by kernel_rfl) (fun _ _ _ h => h) (Or.inl ⟨by rfl, ?_⟩) (by assumption) ?_
  rotate_left
  · (intro w9 _; go_simp; try with_reducible rfl)
  simp only [Act.put, List.getElem_toArray, List.getElem_cons_succ, List.getElem_cons_zero, List.setIfInBounds_toArray, List.set_cons_succ, List.set_cons_zero]
  refine wpAnyH_take (i := 7) (v := ?_) rfl (by kernel_rfl) (by kernel_rfl) (by kernel_rfl) (fun _ _ _ h => h) (Or.inl ⟨by rfl, ?_⟩) (by assumption) ?_
  rotate_left
  · (intro w9 _; go_simp; try with_reducible rfl)
  simp only [Act.put, List.getElem_toArray, List.getElem_cons_succ, List.getElem_cons_zero, List.setIfInBounds_toArray, List.set_cons_succ, List.set_cons_zero]
  refine wpAnyH_take (i := 8) (v := ?_) rfl (by kernel_rfl) (by kernel_rfl) (by kernel_rfl) (fun _ _ _ h => h) (Or.inl ⟨by rfl, ?_⟩) (by assumption) ?_
  rotate_left
  · (intro w9 _; go_simp; try with_reducible rfl)
  simp only [Act.put, List.getElem_toArray, List.getElem_cons_succ, List.getElem_cons_zero, List.setIfInBounds_toArray, List.set_cons_succ, List.set_cons_zero]
  refine wpAnyH_take (i := 9) (v := ?_) rfl (by kernel_rfl) (by kernel_rfl) (by kernel_rfl) (fun _ _ _ h => h) (Or.inl ⟨by rfl, ?_⟩) (by assumption) ?_
  rotate_left
  · (intro w9 _; go_simp; try with_reducible rfl)
  simp only [Act.put, List.getElem_toArray, List.getElem_cons_succ, List.getElem_cons_zero, List.setIfInBounds_toArray, List.set_cons_succ, List.set_cons_zero]
  refine wpAnyH_take (i := 10) (v := ?_) rfl (by kernel_rfl) (by kernel_rfl) (by kernel_rfl) (fun _ _ _ h => h) (Or.inl ⟨by rfl, ?_⟩) (by assumption) ?_
  rotate_left
  · (intro w9 _; go_simp; try with_reducible rfl)
  simp only [Act.put, List.getElem_toArray, List.getElem_cons_succ, List.getElem_cons_zero, List.setIfInBounds_toArray, List.set_cons_succ, List.set_cons_zero]
  refine wpAnyH_take (i := 11) (v := .agg (bsC SV)) rfl (by kernel_rfl) (by kernel_rfl) (by kernel_rfl) (fun _ _ _ h => h) (yl_any Tryd.underlying57 infoSg _ _ HSV.out (fun _ h => h.2.2.1) (by rfl) _ rfl rfl) (by assumption) ?_
  simp only [Act.put, List.getElem_toArray, List.getElem_cons_succ, List.getElem_cons_zero, List.setIfInBounds_toArray, List.set_cons_succ, List.set_cons_zero]
  refine wpAnyH_take (i := 13) (v := .agg (bsC D)) rfl (by kernel_rfl) (by kernel_rfl) (by kernel_rfl) (fun _ _ _ h => h) (yl_bs Tryd.underlying31 info32u _ _ HDL.out (fun _ h => h.1) (by rfl) _ rfl rfl) (by assumption) ?_
  simp only [Act.put, List.getElem_toArray, List.getElem_cons_succ, List.getElem_cons_zero, List.setIfInBounds_toArray, List.set_cons_succ, List.set_cons_zero]
  refine wpAnyH_take (i := 14) (v := ?_) rfl (by kernel_rfl) (by kernel_rfl) (by kernel_rfl) (fun _ _ _ h => h) (Or.inl ⟨by rfl, ?_⟩) (by assumption) ?_
  rotate_left
  · (intro w9 _; go_simp; try with_reducible rfl)
  simp only [Act.put, List.getElem_toArray, List.getElem_cons_succ, List.getElem_cons_zero, List.setIfInBounds_toArray, List.set_cons_succ, List.set_cons_zero]
  refine wpAnyH_take (i := 15) (v := .agg (bsC G)) rfl (by kernel_rfl) (by kernel_rfl) (by kernel_rfl) (fun _ _ _ h => h) (yl_bs Tryd.underlying22 info16u _ _ HGL.out (fun _ h => h.2.1) (by rfl) _ rfl rfl) (by assumption) ?_
  simp only [Act.put, List.getElem_toArray, List.getElem_cons_succ, List.getElem_cons_zero, List.setIfInBounds_toArray, List.set_cons_succ, List.set_cons_zero]
  refine wpAnyH_ready (rs := [12]) (by kernel_rfl) (by simp) ?_
  refine AllReadyH.cons rfl (fun K hK => ?_) AllReadyH.nil
  go_simp
  refine (HTO.out _).mono ?_
  rintro e w21 ⟨rfl, hb⟩
  have K21 := Lib.hid (K20.out.keep hb K20.out.lt)
  have G21 := Lib.hid (G20.out.keep hb G20.out.lt)
  have S21 := Lib.hid (S20.out.keep hb S20.out.lt)
  have P21 := Lib.hid (P20.out.keep hb P20.out.lt)
  have R21 := Lib.hid (R20.out.keep hb R20.out.lt)
  have B21 := Lib.hid (B20.out.trans (hb.mono B20.out.size))
  clear hb
  refine hK.out _ _ ⟨K21.out, G21.out, S21.out, P21.out, R21.out⟩ (fun hHeld => ?_)
  clear hK K
  refine wpAnyH_ready (rs := [16]) (by kernel_rfl) (by simp) ?_
  refine AllReadyH.cons rfl (fun K hK => ?_) AllReadyH.nil
  go_simp
  refine (HRS.out _).mono ?_
  rintro e w22 ⟨rfl, hb⟩
  have K22 := Lib.hid (K21.out.keep hb K21.out.lt)
  have G22 := Lib.hid (G21.out.keep hb G21.out.lt)
  have S22 := Lib.hid (S21.out.keep hb S21.out.lt)
  have P22 := Lib.hid (P21.out.keep hb P21.out.lt)
  have R22 := Lib.hid (R21.out.keep hb R21.out.lt)
  have B22 := Lib.hid (B21.out.trans (hb.mono B21.out.size))
  clear hb
  refine hK.out _ _ ⟨K22.out, G22.out, S22.out, P22.out, R22.out⟩ (fun hHeld => ?_)
  clear hK K
  refine wpAnyH_ready (rs := [17]) (by kernel_rfl) (by simp) ?_
  refine AllReadyH.cons rfl (fun K hK => ?_) AllReadyH.nil
  go_simp
  refine (HRV.out _).mono ?_
  rintro e w23 ⟨rfl, hb⟩
  have K23 := Lib.hid (K22.out.keep hb K22.out.lt)
  have G23 := Lib.hid (G22.out.keep hb G22.out.lt)
  have S23 := Lib.hid (S22.out.keep hb S22.out.lt)
  have P23 := Lib.hid (P22.out.keep hb P22.out.lt)
  have R23 := Lib.hid (R22.out.keep hb R22.out.lt)
  have B23 := Lib.hid (B22.out.trans (hb.mono B22.out.size))
  clear hb
  refine hK.out _ _ ⟨K23.out, G23.out, S23.out, P23.out, R23.out⟩ (fun hHeld => ?_)
  clear hK K
  refine wpAnyH_take (i := 18) (v := ?_) rfl (by kernel_rfl) (by kernel_rfl) (by kernel_rfl) (fun _ _ _ h => h) (Or.inl ⟨by rfl, ?_⟩) (by assumption) ?_
  rotate_left
  · (intro w9 _; go_simp; try with_reducible rfl)
  simp only [Act.put, List.getElem_toArray, List.getElem_cons_succ, List.getElem_cons_zero, List.setIfInBounds_toArray, List.set_cons_succ, List.set_cons_zero]
  refine wpAnyH_take (i := 19) (v := ?_) rfl (by kernel_rfl) (by kernel_rfl) (by kernel_rfl) (fun _ _ _ h => h) (Or.inl ⟨by rfl, ?_⟩) (by assumption) ?_
  rotate_left
  · (intro w9 _; go_simp; try with_reducible rfl)
  simp only [Act.put, List.getElem_toArray, List.getElem_cons_succ, List.getElem_cons_zero, List.setIfInBounds_toArray, List.set_cons_succ, List.set_cons_zero]
  refine wpAnyH_take (i := 20) (v := ?_) rfl (by kernel_rfl) (by kernel_rfl) (by kernel_rfl) (fun _ _ _ h => h) (Or.inl ⟨by rfl, ?_⟩) (by assumption) ?_
  rotate_left
  · (intro w9 _; go_simp; try with_reducible rfl)
  simp only [Act.put, List.getElem_toArray, List.getElem_cons_succ, List.getElem_cons_zero, List.setIfInBounds_toArray, List.set_cons_succ, List.set_cons_zero]
  refine wpAnyH_take (i := 21) (v := .agg (bsC PV)) rfl (by kernel_rfl) (by kernel_rfl) (by kernel_rfl) (fun _ _ _ h => h) (yl_bs Tryd.underlying22 info16u _ _ HPV.out (fun _ h => h.2.2.2.2) (by rfl) _ rfl rfl) (by assumption) ?_
  simp only [Act.put, List.getElem_toArray, List.getElem_cons_succ, List.getElem_cons_zero, List.setIfInBounds_toArray, List.set_cons_succ, List.set_cons_zero]
  refine wpAnyH_take (i := 22) (v := .agg (bsC PV)) rfl (by kernel_rfl) (by kernel_rfl) (by kernel_rfl) (fun _ _ _ h => h) (yl_bs Tryd.underlying22 info16u _ _ HPV.out (fun _ h => h.2.2.2.1) (by rfl) _ rfl rfl) (by assumption) ?_
  simp only [Act.put, List.getElem_toArray, List.getElem_cons_succ, List.getElem_cons_zero, List.setIfInBounds_toArray, List.set_cons_succ, List.set_cons_zero]
  refine wpAnyH_take (i := 23) (v := ?_) rfl (by kernel_rfl) (by kernel_rfl) (by kernel_rfl) (fun _ _ _ h => h) (Or.inl ⟨by rfl, ?_⟩) (by assumption) ?_
  rotate_left
  · (intro w9 _; go_simp; try with_reducible rfl)
  simp only [Act.put, List.getElem_toArray, List.getElem_cons_succ, List.getElem_cons_zero, List.setIfInBounds_toArray, List.set_cons_succ, List.set_cons_zero]
  refine wpAnyH_take (i := 24) (v := ?_) rfl (by kernel_rfl) (by kernel_rfl) (by kernel_rfl) (fun _ _ _ h => h) (Or.inl ⟨by rfl, ?_⟩) (by assumption) ?_
  rotate_left
  · (intro w9 _; go_simp; try with_reducible rfl)
  simp only [Act.put, List.getElem_toArray, List.getElem_cons_succ, List.getElem_cons_zero, List.setIfInBounds_toArray, List.set_cons_succ, List.set_cons_zero]
  refine wpAnyH_take (i := 25) (v := ?_) rfl (by kernel_rfl) (by kernel_rfl) (by kernel_rfl) (fun _ _ _ h => h) (Or.inl ⟨by rfl, ?_⟩) (by assumption) ?_
  rotate_left
  · (intro w9 _; go_simp; try with_reducible rfl)
  simp only [Act.put, List.getElem_toArray, List.getElem_cons_succ, List.getElem_cons_zero, List.setIfInBounds_toArray, List.set_cons_succ, List.set_cons_zero]
  refine wpAnyH_take (i := 26) (v := .agg (bsC PV)) rfl (by kernel_rfl) (by kernel_rfl) (by kernel_rfl) (fun _ _ _ h => h) (yl_bs Tryd.underlying22 info16u _ _ HPV.out (fun _ h => h.2.2.2.1) (by rfl) _ rfl rfl) (by assumption) ?_
  simp only [Act.put, List.getElem_toArray, List.getElem_cons_succ, List.getElem_cons_zero, List.setIfInBounds_toArray, List.set_cons_succ, List.set_cons_zero]
  refine wpAnyH_take (i := 27) (v := ?_) rfl (by kernel_rfl) (by kernel_rfl) (by kernel_rfl) (fun _ _ _ h => h) (Or.inl ⟨by rfl, ?_⟩) (by assumption) ?_
  rotate_left
  · (intro w9 _; go_simp; try with_reducible rfl)
  simp only [Act.put, List.getElem_toArray, List.getElem_cons_succ, List.getElem_cons_zero, List.setIfInBounds_toArray, List.set_cons_succ, List.set_cons_zero]
  refine wpAnyH_take (i := 28) (v := .agg (bsC G)) rfl (by kernel_rfl) (by kernel_rfl) (by kernel_rfl) (fun _ _ _ h => h) (yl_bs Tryd.underlying22 info16u _ _ HGL.out (fun _ h => h.2.1) (by rfl) _ rfl rfl) (by assumption) ?_
  simp only [Act.put, List.getElem_toArray, List.getElem_cons_succ, List.getElem_cons_zero, List.setIfInBounds_toArray, List.set_cons_succ, List.set_cons_zero]
  refine wpAnyH_take (i := 29) (v := .agg (bsC SV)) rfl (by kernel_rfl) (by kernel_rfl) (by kernel_rfl) (fun _ _ _ h => h) (yl_any Tryd.underlying57 infoSg _ _ HSV.out (fun _ h => h.2.2.1) (by rfl) _ rfl rfl) (by assumption) ?_
  simp only [Act.put, List.getElem_toArray, List.getElem_cons_succ, List.getElem_cons_zero, List.setIfInBounds_toArray, List.set_cons_succ, List.set_cons_zero]
  refine wpAnyH_ready (rs := [30]) (by kernel_rfl) (by simp) ?_
  refine AllReadyH.cons rfl (fun K hK => ?_) AllReadyH.nil
  go_simp
  refine (HV.out _ (hT.below B23.out hp)).mono ?_
  rintro e w24 ⟨rfl, hb⟩
  have K24 := Lib.hid (K23.out.keep hb K23.out.lt)
  have G24 := Lib.hid (G23.out.keep hb G23.out.lt)
  have S24 := Lib.hid (S23.out.keep hb S23.out.lt)
  have P24 := Lib.hid (P23.out.keep hb P23.out.lt)
  have R24 := Lib.hid (R23.out.keep hb R23.out.lt)
  have B24 := Lib.hid (B23.out.trans (hb.mono B23.out.size))
  clear hb
  refine hK.out _ _ ⟨K24.out, G24.out, S24.out, P24.out, R24.out⟩ (fun hHeld => ?_)
  clear hK K
  refine wpAnyH_take (i := 31) (v := ?_) rfl (by kernel_rfl) (by kernel_rfl) (by kernel_rfl) (fun _ _ _ h => h) (Or.inl ⟨by rfl, ?_⟩) (by assumption) ?_
  rotate_left
  · (intro w9 _; go_simp; try with_reducible rfl)
  simp only [Act.put, List.getElem_toArray, List.getElem_cons_succ, List.getElem_cons_zero, List.setIfInBounds_toArray, List.set_cons_succ, List.set_cons_zero]
  refine wpAnyH_take (i := 32) (v := ?_) rfl (by kernel_rfl) (by kernel_rfl) (by kernel_rfl) (fun _ _ _ h => h) (Or.inl ⟨by rfl, ?_⟩) (by assumption) ?_
  rotate_left
  · (intro w9 _; go_simp; try with_reducible rfl)
  simp only [Act.put, List.getElem_toArray, List.getElem_cons_succ, List.getElem_cons_zero, List.setIfInBounds_toArray, List.set_cons_succ, List.set_cons_zero]
  refine wpAnyH_done (by kernel_rfl) ?_ _
  go_wp2_with fail
  go_ret
  exact ⟨rfl, B24.out⟩

set_option maxRecDepth 100000 in
set_option maxHeartbeats 8000000 in
theorem wNo (leaf : Int) (D G SV PV : List Int) (hD : D.length = 32) (hG : G.length = 16) (hSV : SV.length = 560) (hPV : PV.length = 16) (w : World) (hT : Tab w)
    (hS : ∀ W, Tab W → Calls Tryd.prog 29 #[.agg (bsC D), .int .i64 leaf, .agg (bsC G)] W fun e w' => e = .returned (.tuple #[.agg (bsC SV), .int .i64 2]) ∧ Below W.heap.size W w')
    (hP : ∀ W, Tab W → Calls Tryd.prog 24 #[.agg (bsC D), .int .i64 leaf] W fun e w' => e = .returned (.tuple #[.agg (bsC PV), .int .i64 2]) ∧ Below W.heap.size W w')
    (hV : ∀ W, Tab W → Calls Tryd.prog 30 #[.agg (bsC PV), .int .i64 leaf, .agg (bsC G), .agg (bsC SV)] W fun e w' => e = .returned (.bool false) ∧ Below W.heap.size W w')
    (hz1 : SV = zs 560) (k1 : inB leaf 65535 = false) :
    Calls Tryd.prog 9 #[.agg (bsC D), .int .i64 leaf, .agg (bsC G)] w fun e w' => e = .returned (.bool true) ∧ Below w.heap.size w w' := by
  have hp := hT.1
  have HK := Lib.hid (fun w hT => known_any w hT)
  have HIN := Lib.hid in_any
  have HDL := Lib.hid hD; have HGL := Lib.hid hG; have HSV := Lib.hid hSV; have HPV := Lib.hid hPV; have HS := Lib.hid hS; have HP := Lib.hid hP; have HV := Lib.hid hV
  have heqS := fun w => eq_rows (t := 57) (T := 22) Tryd.underlying57 Tryd.underlying22 (by kernel_rfl) (fun w => by kernel_rfl) (fun w => by kernel_rfl) SV hSV w
  have HBZ := Lib.hid (show ∀ w, (Instr.build 57 #[]).run Tryd.prog w = .ok (.agg (bsC SV)) w from fun w => by rw [hz1]; kernel_rfl)
  clear hz1
  clear hD hG hSV hPV hS hP hV
  go_enter Tryd.func9, Tryd.ntmps9
  go_upto_region 1 with (fail)
  change Code.wp Tryd.prog _ _ _ ((w.alloc (.cells (bsC D) 31)).alloc (.cells (bsC G) 22))
  generalize hW0 : (w.alloc (.cells (bsC D) 31)).alloc (.cells (bsC G) 22) = W0
  obtain ⟨hb1, hb2, hB0⟩ := boxes2 w hW0
  have K0 := Lib.hid hb1; have G0 := Lib.hid hb2; have B0 := Lib.hid hB0
  clear hW0 hb1 hb2 hB0
  go_upto_region 3 with (go_at_call 14; refine (HK.out _ (hT.below B0.out hp)).mono ?_; rintro e w1 ⟨rfl, hb⟩; have K1 := Lib.hid (K0.out.keep hb K0.out.lt); have G1 := Lib.hid (G0.out.keep hb G0.out.lt); have B1 := Lib.hid (B0.out.trans (hb.mono B0.out.size)); clear hb)
  clear K0 G0 B0
  go_upto_region 4 with (first
    | (refine ld_bs Tryd.underlying31 info32u _ D HDL.out K1.out (by rfl) _ (by rfl) (by rfl) ?_)
    | (refine ld_bs Tryd.underlying22 info16u _ G HGL.out G1.out (by rfl) _ (by rfl) (by rfl) ?_)
    | (go_at_call 29; refine (HS.out _ (hT.below B1.out hp)).mono ?_; rintro e w2 ⟨rfl, hb⟩; have K2 := Lib.hid (K1.out.keep hb K1.out.lt); have G2 := Lib.hid (G1.out.keep hb G1.out.lt); have B2 := Lib.hid (B1.out.trans (hb.mono B1.out.size)); clear hb)
    | (refine sto_bs infoSg _ SV HSV.out _ (Blk.fresh w2 57 (bsC (zs 560))) (by rw [bsC_size]; exact zs_len 560) (by rfl) _ _ (by rfl) (by rfl) (by rfl) ?_; intro w3 hw))
  have K3 := Lib.hid (show Blk w3 w.heap.size 31 (bsC D) by rw [hw.out]; exact (K2.out.more _).far (Nat.ne_of_lt K2.out.lt) _)
  have G3 := Lib.hid (show Blk w3 (w.heap.size + 1) 22 (bsC G) by rw [hw.out]; exact (G2.out.more _).far (Nat.ne_of_lt G2.out.lt) _)
  have S3 := Lib.hid (show Blk w3 w2.heap.size 57 (bsC SV) by rw [hw.out]; exact (Blk.fresh w2 _ _).row _)
  have B3 := Lib.hid (show Below w.heap.size w w3 by rw [hw.out]; exact below_row (B2.out.alloc B2.out.size _) _ B2.out.size _)
  clear hw K1 G1 B1 K2 G2 B2
  generalize w2.heap.size = gs at *
  go_upto_region 5 with (first
    | (refine ld_bs Tryd.underlying31 info32u _ D HDL.out K3.out (by rfl) _ (by rfl) (by rfl) ?_)
    | (go_at_call 24; refine (HP.out _ (hT.below B3.out hp)).mono ?_; rintro e w4 ⟨rfl, hb⟩; have K4 := Lib.hid (K3.out.keep hb K3.out.lt); have G4 := Lib.hid (G3.out.keep hb G3.out.lt); have S4 := Lib.hid (S3.out.keep hb S3.out.lt); have B4 := Lib.hid (B3.out.trans (hb.mono B3.out.size)); clear hb)
    | (refine sto_bs info16u _ PV HPV.out _ (Blk.fresh w4 22 (bsC z16)) (by rw [bsC_size]; exact z16_len) (by rfl) _ _ (by rfl) (by rfl) (by rfl) ?_; intro w5 hw))
  have K5 := Lib.hid (show Blk w5 w.heap.size 31 (bsC D) by rw [hw.out]; exact (K4.out.more _).far (Nat.ne_of_lt K4.out.lt) _)
  have G5 := Lib.hid (show Blk w5 (w.heap.size + 1) 22 (bsC G) by rw [hw.out]; exact (G4.out.more _).far (Nat.ne_of_lt G4.out.lt) _)
  have S5 := Lib.hid (show Blk w5 gs 57 (bsC SV) by rw [hw.out]; exact (S4.out.more _).far (Nat.ne_of_lt S4.out.lt) _)
  have P5 := Lib.hid (show Blk w5 w4.heap.size 22 (bsC PV) by rw [hw.out]; exact (Blk.fresh w4 _ _).row _)
  have B5 := Lib.hid (show Below w.heap.size w w5 by rw [hw.out]; exact below_row (B4.out.alloc B4.out.size _) _ B4.out.size _)
  clear hw K3 G3 S3 B3 K4 G4 S4 B4
  generalize w4.heap.size = gp at *
  go_wp2_with (first
    | (go_at_call 18; refine (HIN.out _ _ _).mono ?_; rintro e w9 ⟨rfl, rfl⟩)
    | (refine ld_any_g Tryd.underlying57 infoSg gs SV HSV.out S5.out (by rfl) (.tmp 7) (by rfl) (by rfl) ?_)
    | (refine wp_bld0 HBZ.out (by rfl) (by rfl) ?_)
    | (refine ld_bs_g Tryd.underlying22 info16u gp PV HPV.out P5.out (by rfl) (.tmp 9) (by rfl) (by rfl) ?_)
    | (refine ld_bs_g Tryd.underlying22 info16u _ G HGL.out G5.out (by rfl) (.tmp 5) (by rfl) (by rfl) ?_)
    | (go_at_call 30; refine (HV.out _ (hT.below B5.out hp)).mono ?_; rintro e w6 ⟨rfl, hb⟩; have B6 := Lib.hid (B5.out.trans (hb.mono B5.out.size)); clear hb))
  go_ret
  exact ⟨rfl, B6.out⟩

theorem walk (seed : List Nat) (hs : seed.length = 32) (hsb : ∀ x ∈ seed, x < 256) (leaf : Int) (d : List Nat) (hd : d.length = 16) (hdb : ∀ x ∈ d, x < 256) (w : World) (hT : Tab w) :
    Calls Tryd.prog 9 #[.agg (bsC (nI seed)), .int .i64 leaf, .agg (bsC (nI d))] w fun e w' => e = .returned (.bool true) ∧ Below w.heap.size w w' := by
  have hD : (nI seed).length = 32 := by rw [nI_len, hs]
  have hG : (nI d).length = 16 := by rw [nI_len, hd]
  cases h : lfB leaf
  · exact wNo leaf (nI seed) (nI d) (zs 560) z16 hD hG (zs_len 560) z16_len w hT (fun W _ => Sign_no _ _ leaf h W) (fun W _ => Public_no _ leaf h W) (fun W _ => Verify_no leaf _ _ z16 z16 hG (zs_len 560) z16_len z16_len W (fun W2 _ => Recover_no _ _ leaf h W2)) rfl h
  · obtain ⟨m, rfl, hm⟩ := lfB_nat h
    have sl := pre_len (S7.valS seed d m) (fun i _ => S7.valS_len seed d m i) 35 (by omega)
    have sb := pre_lt (S7.valS seed d m) (fun i _ => S7.valS_lt seed d m i) 35 (by omega)
    have sl2 : (pre (S7.valS seed d m) 35).length = 560 := by rw [sl]
    have hR : ∀ W, Tab W → Calls Tryd.prog 31 #[.int .i64 m, .agg (bsC (nI d)), .agg (bsC (nI (pre (S7.valS seed d m) 35)))] W fun e w' => e = .returned (.tuple #[.agg (bsC (nI (S7.comp m (pre (S7.valP seed m) 35)))), .int .i64 0]) ∧ Below W.heap.size W w' := fun W hT => by
      have := Recover_ok (pre (S7.valS seed d m) 35) d sl2 sb hd hdb m hm W hT
      rwa [signs_meet seed d hd hdb m] at this
    have pl : (nI (S7.comp m (pre (S7.valP seed m) 35))).length = 16 := by rw [nI_len]; exact S7.half_len _
    have hXL : (nI (S7.split d)).length = 35 := by rw [nI_len, S7.split_len d hd]
    exact wYes m (nI seed) (nI d) (nI (pre (S7.valS seed d m) 35)) (nI (S7.comp m (pre (S7.valP seed m) 35))) hD hG (by rw [nI_len]; exact sl2) pl w hT (fun W hT => Sign_ok seed d hs hsb hd hdb m hm W hT) (fun W hT => Public_ok seed hs hsb m hm W hT)
      (fun W hT => by
        have := Verify_ok m (nI d) (nI (pre (S7.valS seed d m) 35)) _ _ hG (by rw [nI_len]; exact sl2) pl pl W (fun W2 hb => hR W2 (hT.below hb hT.1))
        rwa [decide_eq_true rfl] at this)
      (nI (S7.split d)) hR (fun W => to_any _ sl2 W) (fun W => rSplit_any d hd hdb W) (fun W => rValues_any seed hs hsb m hm (S7.dg d) (fun i _ => S7.split_le d hdb hd i) _ hXL (fun i _ => nI_getD _ i) W) h

set_option maxRecDepth 100000 in
theorem contract (H : Type) (enc : TypeId × Value → H) (W : World) (base : Nat) (args : Array Value) (ds gs : List (DataW H)) (before : List MemPlace)
    (hval : ∀ (j : Nat) t v, Tryd.f9.params[j]? = some t → args[j]? = some v → Value.okWide Tryd.prog W .any base t v)
    (hW : DataW.Whole enc Tryd.prog Tryd.f9.params.toList Rows.onetimeSignsSpec.vars false W args.toList ds gs before) (hL : laidMetH Tryd.prog Rows.onetimeSignsRow.laid W) (_hs : W.ShapedOpen Tryd.prog) :
    Calls Tryd.prog 9 args W fun e W' => ∃ v, e = .returned v ∧ Rows.onetimeSignsSpec.post enc Tryd.prog Tryd.f9 false true false false W args v W' := by
  have hW' := hW
  obtain ⟨p, q, hA0, hV, rfl, hfz, hnd⟩ := hW
  have hA : DataW.TrodAll enc Tryd.prog W 0 (fun _ => true) true Tryd.f9.params.toList args.toList ds p := hA0
  rw [Tryd.params9] at hA hval
  obtain ⟨v0, vs0, d0, ds0, p0, q0, hargs, rfl, rfl, h0, r0⟩ := trodAll_cons hA
  obtain ⟨v1, vs1, d1, ds1, p1, q1, rfl, rfl, rfl, h1, r1⟩ := trodAll_cons r0
  obtain ⟨v2, vs2, d2, ds2, p2, q2, rfl, rfl, rfl, h2, r2⟩ := trodAll_cons r1
  obtain ⟨rfl, rfl, rfl⟩ := trodAll_nil r2
  obtain rfl : args = #[v0, v1, v2] := by cases args; simp_all
  obtain ⟨rfl, rfl⟩ := trodVars_none hV
  have k0 := h0
  have lt0 : ∀ x ∈ p0, x.block < W.heap.size := by obtain ⟨m, hm⟩ := k0; exact DataW.trod_lt m _ _ _ hm
  obtain ⟨l0, rfl, n0, b0⟩ := arr_open Tryd.underlying31 (by kernel_rfl) (hval 0 31 v0 rfl rfl) h0
  obtain ⟨a1, rfl, rfl, rfl, w1⟩ := open_int Tryd.underlying3 (hval 1 3 v1 rfl rfl) h1
  have k2 := h2
  have lt2 : ∀ x ∈ p2, x.block < W.heap.size := by obtain ⟨m, hm⟩ := k2; exact DataW.trod_lt m _ _ _ hm
  obtain ⟨l2, rfl, n2, b2⟩ := arr_open Tryd.underlying22 (by kernel_rfl) (hval 2 22 v2 rfl rfl) h2
  clear hA0
  refine (walk l0 n0 b0 a1 l2 n2 b2 W (tab hL)).mono fun e W' ⟨he, bel⟩ => ?_
  subst he
  exact ⟨_, rfl, _, _, _, [], _, [], hW', trodAll_mk1 (shut_bool Tryd.underlying4 _), (trodAll_cons_mk (Below.trod laidOut (by kernel_rfl) (of_decide_eq_true (by kernel_rfl)) k0 bel lt0) (trodAll_cons_mk (shut_int Tryd.underlying3 w1) (trodAll_cons_mk (Below.trod laidOut (by kernel_rfl) (of_decide_eq_true (by kernel_rfl)) k2 bel lt2) trodAll_mk0))), rfl, bel.frame _, fun h => by cases h⟩

theorem laid_met (os : Os) : laidMet Tryd.prog Rows.onetimeSignsRow.laid ((laidWorld os).forCall (fun _ _ => 0) ⟨#[], #[.agg (bsC zD), .int .i64 0, .agg (bsC z16)], []⟩).memory :=
  laidMet_of_run' 8 (by kernel_rfl) (by kernel_rfl)
theorem reads (os : Os) {H : Type} (enc : TypeId × Value → H) : ∃ places, DataW.whole enc Tryd.prog ((laidWorld os).forCall (fun _ _ => 0) ⟨#[], #[.agg (bsC zD), .int .i64 0, .agg (bsC z16)], []⟩).memory Tryd.f9.params.toList Rows.onetimeSignsSpec.vars false (#[.agg (bsC zD), .int .i64 0, .agg (bsC z16)] : Array Value).toList 8 = some ([.agg (zD.map fun z => .lit (.int .u8 z)), .lit (.int .i64 0), .agg (z16.map fun z => .lit (.int .u8 z))], [], places) :=
  ⟨[], by kernel_rfl⟩

set_option maxRecDepth 100000 in
theorem lifted (os : Os) (started : os.Started) (H : Type) (enc : TypeId × Value → H) (F : Stop.Interp) :
    ReturnsInHanded {} Tryd.checked os 9 .any ((OpenSpec.ofChange Rows.onetimeSignsSpec).preRow enc Tryd.prog Tryd.f9 Rows.onetimeSignsRow.domain false Rows.onetimeSignsRow.laid) (((OpenSpec.ofChange Rows.onetimeSignsSpec).at F).post enc Tryd.prog Tryd.f9 false true false false) := by
  obtain ⟨places, hx⟩ := reads os enc
  refine returnsInHanded_of_row (C := Tryd.checked) (s := OpenSpec.ofChange Rows.onetimeSignsSpec) own started (by kernel_rfl) Tryd.func9
    (witness_row_at (enc := enc) (C := Tryd.checked) false (laidWorld os) #[.agg (bsC zD), .int .i64 0, .agg (bsC z16)] rfl (by kernel_rfl) (by kernel_rfl) (by kernel_rfl)
      (OpenSpec.preRow_of_cond 8 hx (by kernel_rfl) (fun k hk => by cases hk) (by kernel_rfl) (laid_met os))) ?_
  intro W base args ds gs before hval hW _ _ _ hL hs _
  exact contract H enc W base args ds gs before hval hW hL hs

theorem said : Rows.OnetimeSignsSaid :=
  OpenClaim.holds_of_cond 9 Tryd.f9 rfl rfl rfl rfl rfl rfl rfl ⟨rfl, rfl, rfl, rfl, rfl⟩ rfl rfl rfl rfl rfl (by kernel_rfl) Tryd.func9 (by kernel_rfl)
    (of_decide_eq_true (by kernel_rfl)) (by unfold Func.isWrapper; first | (rw [if_pos (by decide +kernel)]; kernel_rfl) | (rw [if_neg (by decide +kernel)]; exact ⟨rfl, rfl⟩))
    (fun os started H enc _ F => by rw [OpenClaim.pre_eq_preRow]; exact lifted os started H enc F)

theorem plain (f : FuncId) (fn : Func) (hf : Tryd.pinned.checked.prog.funcNamed "bulletin/bulletinlaw07.OnetimeSigns" = some f) (hfn : Tryd.pinned.checked.prog.funcs[f]? = some fn) :
    false = Tryd.pinned.checked.prog.looks [] ∧ ∀ (j : Nat) t, fn.params[j]? = some t → Tryd.pinned.checked.prog.wantsStandIn t = false := by
  obtain rfl : f = 9 := Option.some.inj ((show Tryd.prog.funcNamed "bulletin/bulletinlaw07.OnetimeSigns" = some 9 by kernel_rfl).symm.trans hf) |>.symm
  obtain rfl : fn = Tryd.f9 := (Option.some.inj (Tryd.func9.symm.trans hfn)).symm
  refine ⟨by kernel_rfl, fun j t ht => ?_⟩
  rw [Tryd.params9] at ht
  have hm : t = 31 ∨ t = 3 ∨ t = 22 := by simpa using Array.mem_of_getElem? ht
  rcases hm with rfl | rfl | rfl
  · exact (show Tryd.prog.wantsStandIn 31 = false by kernel_rfl)
  · exact (show Tryd.prog.wantsStandIn 3 = false by kernel_rfl)
  · exact (show Tryd.prog.wantsStandIn 22 = false by kernel_rfl)

end Go.Proofs.YtgfolgmheinbiaaDoorRRR.onetimeSignsLaw
namespace Go.Proofs.YtgfolgmheinbiaaDoorRRR

/-- THE CARD OF OnetimeSigns -/
theorem onetimeSigns_card : Rows.OnetimeSignsCardSaid :=
  Claim7.holds_tied_plain_at .later [] _ _ _ _ onetimeSignsLaw.said (fun _ h => by cases h) (by kernel_rfl) (fun _ h => by cases h) onetimeSigns_row_tie rfl ⟨rfl, rfl⟩ (by kernel_rfl) rfl onetimeSignsLaw.plain (by kernel_rfl)
#print axioms onetimeSigns_card
end Go.Proofs.YtgfolgmheinbiaaDoorRRR
