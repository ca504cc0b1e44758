/- OnetimeSecrets: whatever seed and numbers come in, the law's call returns true and its arguments read as before; the table of constants reads as the program's text lays it (the card ties it).
   Conditions: none beyond the row's own. -/
import Derived.Test.YtgfolgmheinbiaaDoorRRRLawB
namespace Go.Proofs.YtgfolgmheinbiaaDoorRRR.onetimeSecretsLaw
open Go.ChangeShapes Go.WideShapes Go.ChangeAt Go.RowKit
open Go.ChangeMaps (open_string shut_string)

set_option maxRecDepth 100000 in
set_option maxHeartbeats 8000000 in
theorem walk (seed : List Nat) (hs : seed.length = 32) (hsb : ∀ x ∈ seed, x < 256) (leaf c : Int) (w : World) (hT : Tab w) :
    Calls Tryd.prog 5 #[.agg (bsC (nI seed)), .int .i64 leaf, .int .i64 c] w fun e w' => e = .returned (.bool true) ∧ Below w.heap.size w w' := by
  have hp := hT.1
  have HK := Lib.hid (fun w hT => known_any w hT)
  have HIN := Lib.hid in_any
  obtain ⟨D, hD⟩ : ∃ D, D = nI seed := ⟨_, rfl⟩
  have HDL := Lib.hid (show D.length = 32 by rw [hD, nI_len, hs])
  by_cases hk : lfB leaf = true ∧ chB c = true
  · obtain ⟨h1, h2⟩ := hk
    obtain ⟨m, rfl, hm⟩ := lfB_nat h1
    obtain ⟨k, rfl, hk⟩ := chB_nat h2
    have HS := Lib.hid (fun W hT => Secret_ok seed hs hsb m k hm hk W hT)
    have HRS := Lib.hid (fun W => rSecret_any seed hs hsb m k hm hk W)
    obtain ⟨V, hV⟩ : ∃ V, V = nI (S7.sec seed m k) := ⟨_, rfl⟩
    have HVL := Lib.hid (show V.length = 16 by rw [hV, nI_len]; exact S7.half_len _)
    rw [← hV, ← hD] at HS HRS
    rw [← hD]
    have heq := fun w => eq_same (t := 36) Tryd.underlying36 V HVL.out w
    have h3 : inB (m : Int) 65535 = true := h1
    have h4 : inB (k : Int) 34 = true := h2
    clear hV hD hs hsb h1 h2
    go_enter Tryd.func5, Tryd.ntmps5
    go_upto_region 1 with (fail)
    change Code.wp Tryd.prog _ _ _ (w.alloc (.cells (bsC D) 31))
    generalize hW0 : w.alloc (.cells (bsC D) 31) = W0
    obtain ⟨hb1, hB0⟩ := boxes1 w hW0
    have K0 := Lib.hid hb1; have B0 := Lib.hid hB0
    clear hW0 hb1 hB0
    go_upto_region 2 with (first
      | (refine ld_bs Tryd.underlying31 info32u _ D HDL.out K0.out (by rfl) _ (by rfl) (by rfl) ?_)
      | (go_at_call 17; refine (HS.out _ (hT.below B0.out hp)).mono ?_; rintro e w1 ⟨rfl, hb⟩; have K1 := Lib.hid (K0.out.keep hb K0.out.lt); have B1 := Lib.hid (B0.out.trans (hb.mono B0.out.size)); clear hb)
      | (refine sto_bs info16u _ V HVL.out _ (Blk.fresh w1 22 (bsC z16)) (by rw [bsC_size]; exact z16_len) (by rfl) _ _ (by rfl) (by rfl) (by rfl) ?_; intro w2 hw2))
    have K2 := Lib.hid (show Blk w2 w.heap.size 31 (bsC D) by rw [hw2.out]; exact (K1.out.more _).far (Nat.ne_of_lt K1.out.lt) _)
    have V2 := Lib.hid (show Blk w2 w1.heap.size 22 (bsC V) by rw [hw2.out]; exact (Blk.fresh w1 _ _).row _)
    have B2 := Lib.hid (show Below w.heap.size w w2 by rw [hw2.out]; exact below_row (B1.out.alloc B1.out.size _) _ B1.out.size _)
    clear hw2 K0 B0 K1 B1
    generalize w1.heap.size = gv at *
    go_upto_region 4 with ((go_at_call 18; refine (HIN.out _ _ _).mono ?_; rintro e w9 ⟨rfl, rfl⟩))
    have V_20 := Lib.hid V2.out.draw; have K_20 := Lib.hid K2.out.draw; have B_20 := Lib.hid B2.out.drew
    refine wp_region_held_drew (S := (fun W => Blk W gv 22 (bsC V) ∧ Blk W w.heap.size 31 (bsC D))) (by kernel_rfl) ?_ (fun hHeld => ?_)
    · exact ⟨V_20.out, K_20.out⟩
    refine wpAnyH_ready (rs := [0]) (by kernel_rfl) (by simp) ?_
    refine AllReadyH.cons rfl (fun K hK => ?_) AllReadyH.nil
    go_simp
    refine (HK.out _ (hT.below B_20.out hp)).mono ?_
    rintro e w21 ⟨rfl, hb⟩
    have V_21 := Lib.hid (V_20.out.keep hb V_20.out.lt)
    have K_21 := Lib.hid (K_20.out.keep hb K_20.out.lt)
    have B_21 := Lib.hid (B_20.out.trans (hb.mono B_20.out.size))
    clear hb
    refine hK.out _ _ ⟨V_21.out, K_21.out⟩ (fun hHeld => ?_)
    clear hK K
    refine wpAnyH_take (i := 1) (v := ?_) rfl (by kernel_rfl) (by kernel_rfl) (by kernel_rfl) (fun _ _ _ h => h) (Or.inl ⟨by rfl, ?_⟩) (by assumption) ?_
    rotate_left
    · (intro w9 _; go_simp; try with_reducible rfl)
    simp only [Act.put, List.getElem_toArray, List.getElem_cons_succ, List.getElem_cons_zero, List.setIfInBounds_toArray, List.set_cons_succ, List.set_cons_zero]
    refine wpAnyH_take (i := 2) (v := ?_) rfl (by kernel_rfl) (by kernel_rfl) (by kernel_rfl) (fun _ _ _ h => h) (Or.inl ⟨by rfl, ?_⟩) (by assumption) ?_
    rotate_left
    · (intro w9 _; go_simp; try with_reducible rfl)
    simp only [Act.put, List.getElem_toArray, List.getElem_cons_succ, List.getElem_cons_zero, List.setIfInBounds_toArray, List.set_cons_succ, List.set_cons_zero]
    refine wpAnyH_take (i := 3) (v := ?_) rfl (by kernel_rfl) (by kernel_rfl) (by kernel_rfl) (fun _ _ _ h => h) (Or.inl ⟨by rfl, ?_⟩) (by assumption) ?_
    rotate_left
    · (intro w9 _; go_simp; try with_reducible rfl)
    simp only [Act.put, List.getElem_toArray, List.getElem_cons_succ, List.getElem_cons_zero, List.setIfInBounds_toArray, List.set_cons_succ, List.set_cons_zero]
    refine wpAnyH_take (i := 4) (v := ?_) rfl (by kernel_rfl) (by kernel_rfl) (by kernel_rfl) (fun _ _ _ h => h) (Or.inl ⟨by rfl, ?_⟩) (by assumption) ?_
    rotate_left
    · (intro w9 _; go_simp; try with_reducible rfl)
    simp only [Act.put, List.getElem_toArray, List.getElem_cons_succ, List.getElem_cons_zero, List.setIfInBounds_toArray, List.set_cons_succ, List.set_cons_zero]
    refine wpAnyH_take (i := 5) (v := ?_) rfl (by kernel_rfl) (by kernel_rfl) (by kernel_rfl) (fun _ _ _ h => h) (Or.inl ⟨by rfl, ?_⟩) (by assumption) ?_
    rotate_left
    · (intro w9 _; go_simp; try with_reducible rfl)
    simp only [Act.put, List.getElem_toArray, List.getElem_cons_succ, List.getElem_cons_zero, List.setIfInBounds_toArray, List.set_cons_succ, List.set_cons_zero]
    refine wpAnyH_take (i := 6) (v := .agg (bsC V)) rfl (by kernel_rfl) (by kernel_rfl) (by kernel_rfl) (fun _ _ _ h => h) (yl_bs Tryd.underlying22 info16u _ _ HVL.out (fun _ h => h.1) (by rfl) _ rfl rfl) (by assumption) ?_
    simp only [Act.put, List.getElem_toArray, List.getElem_cons_succ, List.getElem_cons_zero, List.setIfInBounds_toArray, List.set_cons_succ, List.set_cons_zero]
    refine wpAnyH_take (i := 7) (v := .agg (bsC D)) rfl (by kernel_rfl) (by kernel_rfl) (by kernel_rfl) (fun _ _ _ h => h) (yl_bs Tryd.underlying31 info32u _ _ HDL.out (fun _ h => h.2) (by rfl) _ rfl rfl) (by assumption) ?_
    simp only [Act.put, List.getElem_toArray, List.getElem_cons_succ, List.getElem_cons_zero, List.setIfInBounds_toArray, List.set_cons_succ, List.set_cons_zero]
    refine wpAnyH_take (i := 8) (v := ?_) rfl (by kernel_rfl) (by kernel_rfl) (by kernel_rfl) (fun _ _ _ h => h) (Or.inl ⟨by rfl, ?_⟩) (by assumption) ?_
    rotate_left
    · (intro w9 _; go_simp; try with_reducible rfl)
    simp only [Act.put, List.getElem_toArray, List.getElem_cons_succ, List.getElem_cons_zero, List.setIfInBounds_toArray, List.set_cons_succ, List.set_cons_zero]
    refine wpAnyH_take (i := 9) (v := ?_) rfl (by kernel_rfl) (by kernel_rfl) (by kernel_rfl) (fun _ _ _ h => h) (Or.inl ⟨by rfl, ?_⟩) (by assumption) ?_
    rotate_left
    · (intro w9 _; go_simp; try with_reducible rfl)
    simp only [Act.put, List.getElem_toArray, List.getElem_cons_succ, List.getElem_cons_zero, List.setIfInBounds_toArray, List.set_cons_succ, List.set_cons_zero]
    refine wpAnyH_ready (rs := [10]) (by kernel_rfl) (by simp) ?_
    refine AllReadyH.cons rfl (fun K hK => ?_) AllReadyH.nil
    go_simp
    refine (HRS.out _).mono ?_
    rintro e w22 ⟨rfl, hb⟩
    have V_22 := Lib.hid (V_21.out.keep hb V_21.out.lt)
    have K_22 := Lib.hid (K_21.out.keep hb K_21.out.lt)
    have B_22 := Lib.hid (B_21.out.trans (hb.mono B_21.out.size))
    clear hb
    refine hK.out _ _ ⟨V_22.out, K_22.out⟩ (fun hHeld => ?_)
    clear hK K
    refine wpAnyH_take (i := 11) (v := ?_) rfl (by kernel_rfl) (by kernel_rfl) (by kernel_rfl) (fun _ _ _ h => h) (Or.inl ⟨by rfl, ?_⟩) (by assumption) ?_
    rotate_left
    · (intro w9 _; go_simp; try with_reducible rfl)
    simp only [Act.put, List.getElem_toArray, List.getElem_cons_succ, List.getElem_cons_zero, List.setIfInBounds_toArray, List.set_cons_succ, List.set_cons_zero]
    refine wpAnyH_take (i := 12) (v := ?_) rfl (by kernel_rfl) (by kernel_rfl) (by kernel_rfl) (fun _ _ _ h => h) (Or.inl ⟨by rfl, ?_⟩) (by assumption) ?_
    rotate_left
    · (intro w9 _; go_simp; try with_reducible rfl)
    simp only [Act.put, List.getElem_toArray, List.getElem_cons_succ, List.getElem_cons_zero, List.setIfInBounds_toArray, List.set_cons_succ, List.set_cons_zero]
    refine wpAnyH_take (i := 13) (v := ?_) rfl (by kernel_rfl) (by kernel_rfl) (by kernel_rfl) (fun _ _ _ h => h) (Or.inl ⟨by rfl, ?_⟩) (by assumption) ?_
    rotate_left
    · (intro w9 _; go_simp; try with_reducible rfl)
    simp only [Act.put, List.getElem_toArray, List.getElem_cons_succ, List.getElem_cons_zero, List.setIfInBounds_toArray, List.set_cons_succ, List.set_cons_zero]
    refine wpAnyH_done (by kernel_rfl) ?_ _
    go_wp2_with fail
    go_ret
    exact ⟨rfl, B_22.out⟩
  · have h : lfB leaf = false ∨ lfB leaf = true ∧ chB c = false := by
      cases h1 : lfB leaf
      · exact .inl rfl
      · cases h2 : chB c
        · exact .inr ⟨rfl, rfl⟩
        · exact absurd ⟨h1, h2⟩ hk
    obtain ⟨V, hV⟩ : ∃ V, V = z16 := ⟨_, rfl⟩
    have HVL := Lib.hid (show V.length = 16 by rw [hV]; exact z16_len)
    have HS := Lib.hid (fun W => Secret_no D leaf c h W)
    have heq := eq_zero16
    rw [← hV] at HS heq
    rw [← hD]
    clear hV hD hs hsb hk
    rcases h with h1 | ⟨h1, h2⟩
    · have h3 : inB leaf 65535 = false := h1
      clear h1
      go_enter Tryd.func5, Tryd.ntmps5
      go_upto_region 1 with (fail)
      change Code.wp Tryd.prog _ _ _ (w.alloc (.cells (bsC D) 31))
      generalize hW0 : w.alloc (.cells (bsC D) 31) = W0
      obtain ⟨hb1, hB0⟩ := boxes1 w hW0
      have K0 := Lib.hid hb1; have B0 := Lib.hid hB0
      clear hW0 hb1 hB0
      go_upto_region 2 with (first
        | (refine ld_bs Tryd.underlying31 info32u _ D HDL.out K0.out (by rfl) _ (by rfl) (by rfl) ?_)
        | (go_at_call 17; refine (HS.out _).mono ?_; rintro e w1 ⟨rfl, hb⟩; have K1 := Lib.hid (K0.out.keep hb K0.out.lt); have B1 := Lib.hid (B0.out.trans (hb.mono B0.out.size)); clear hb)
        | (refine sto_bs info16u _ V HVL.out _ (Blk.fresh w1 22 (bsC z16)) (by rw [bsC_size]; exact z16_len) (by rfl) _ _ (by rfl) (by rfl) (by rfl) ?_; intro w2 hw2))
      have K2 := Lib.hid (show Blk w2 w.heap.size 31 (bsC D) by rw [hw2.out]; exact (K1.out.more _).far (Nat.ne_of_lt K1.out.lt) _)
      have V2 := Lib.hid (show Blk w2 w1.heap.size 22 (bsC V) by rw [hw2.out]; exact (Blk.fresh w1 _ _).row _)
      have B2 := Lib.hid (show Below w.heap.size w w2 by rw [hw2.out]; exact below_row (B1.out.alloc B1.out.size _) _ B1.out.size _)
      clear hw2 K0 B0 K1 B1
      generalize w1.heap.size = gv at *
      go_wp2_with (first
        | (go_at_call 18; refine (HIN.out _ _ _).mono ?_; rintro e w9 ⟨rfl, rfl⟩)
        | (go_at_call 14; refine (HK.out _ (hT.below B2.out hp)).mono ?_; rintro e w6 ⟨rfl, hb⟩; have V6 := Lib.hid (V2.out.keep hb V2.out.lt); have B6 := Lib.hid (B2.out.trans (hb.mono B2.out.size)); clear hb)
        | (refine ld_bs_g Tryd.underlying22 info16u _ V HVL.out V6.out (by rfl) _ (by rfl) (by rfl) ?_))
      go_ret
      exact ⟨rfl, B6.out⟩
    · have h3 : inB leaf 65535 = true := h1
      have h4 : inB c 34 = false := h2
      clear h1 h2
      go_enter Tryd.func5, Tryd.ntmps5
      go_upto_region 1 with (fail)
      change Code.wp Tryd.prog _ _ _ (w.alloc (.cells (bsC D) 31))
      generalize hW0 : w.alloc (.cells (bsC D) 31) = W0
      obtain ⟨hb1, hB0⟩ := boxes1 w hW0
      have K0 := Lib.hid hb1; have B0 := Lib.hid hB0
      clear hW0 hb1 hB0
      go_upto_region 2 with (first
        | (refine ld_bs Tryd.underlying31 info32u _ D HDL.out K0.out (by rfl) _ (by rfl) (by rfl) ?_)
        | (go_at_call 17; refine (HS.out _).mono ?_; rintro e w1 ⟨rfl, hb⟩; have K1 := Lib.hid (K0.out.keep hb K0.out.lt); have B1 := Lib.hid (B0.out.trans (hb.mono B0.out.size)); clear hb)
        | (refine sto_bs info16u _ V HVL.out _ (Blk.fresh w1 22 (bsC z16)) (by rw [bsC_size]; exact z16_len) (by rfl) _ _ (by rfl) (by rfl) (by rfl) ?_; intro w2 hw2))
      have K2 := Lib.hid (show Blk w2 w.heap.size 31 (bsC D) by rw [hw2.out]; exact (K1.out.more _).far (Nat.ne_of_lt K1.out.lt) _)
      have V2 := Lib.hid (show Blk w2 w1.heap.size 22 (bsC V) by rw [hw2.out]; exact (Blk.fresh w1 _ _).row _)
      have B2 := Lib.hid (show Below w.heap.size w w2 by rw [hw2.out]; exact below_row (B1.out.alloc B1.out.size _) _ B1.out.size _)
      clear hw2 K0 B0 K1 B1
      generalize w1.heap.size = gv at *
      go_wp2_with (first
        | (go_at_call 18; refine (HIN.out _ _ _).mono ?_; rintro e w9 ⟨rfl, rfl⟩)
        | (go_at_call 14; refine (HK.out _ (hT.below B2.out hp)).mono ?_; rintro e w6 ⟨rfl, hb⟩; have V6 := Lib.hid (V2.out.keep hb V2.out.lt); have B6 := Lib.hid (B2.out.trans (hb.mono B2.out.size)); clear hb)
        | (refine ld_bs_g Tryd.underlying22 info16u _ V HVL.out V6.out (by rfl) _ (by rfl) (by rfl) ?_))
      go_ret
      exact ⟨rfl, B6.out⟩

set_option maxRecDepth 100000 in
theorem contract (H : Type) (enc : TypeId × Value → H) (W : World) (base : Nat) (args : Array Value) (ds gs : List (DataW H)) (before : List MemPlace)
    (hval : ∀ (j : Nat) t v, Tryd.f5.params[j]? = some t → args[j]? = some v → Value.okWide Tryd.prog W .any base t v)
    (hW : DataW.Whole enc Tryd.prog Tryd.f5.params.toList Rows.onetimeSecretsSpec.vars false W args.toList ds gs before) (hL : laidMetH Tryd.prog Rows.onetimeSecretsRow.laid W) (_hs : W.ShapedOpen Tryd.prog) :
    Calls Tryd.prog 5 args W fun e W' => ∃ v, e = .returned v ∧ Rows.onetimeSecretsSpec.post enc Tryd.prog Tryd.f5 false true false false W args v W' := by
  have hW' := hW
  obtain ⟨p, q, hA0, hV, rfl, hfz, hnd⟩ := hW
  have hA : DataW.TrodAll enc Tryd.prog W 0 (fun _ => true) true Tryd.f5.params.toList args.toList ds p := hA0
  rw [Tryd.params5] at hA hval
  obtain ⟨v0, vs0, d0, ds0, p0, q0, hargs, rfl, rfl, h0, r0⟩ := trodAll_cons hA
  obtain ⟨v1, vs1, d1, ds1, p1, q1, rfl, rfl, rfl, h1, r1⟩ := trodAll_cons r0
  obtain ⟨v2, vs2, d2, ds2, p2, q2, rfl, rfl, rfl, h2, r2⟩ := trodAll_cons r1
  obtain ⟨rfl, rfl, rfl⟩ := trodAll_nil r2
  obtain rfl : args = #[v0, v1, v2] := by cases args; simp_all
  obtain ⟨rfl, rfl⟩ := trodVars_none hV
  have k0 := h0
  have lt0 : ∀ x ∈ p0, x.block < W.heap.size := by obtain ⟨m, hm⟩ := k0; exact DataW.trod_lt m _ _ _ hm
  obtain ⟨l0, rfl, n0, b0⟩ := arr_open Tryd.underlying31 (by kernel_rfl) (hval 0 31 v0 rfl rfl) h0
  obtain ⟨a1, rfl, rfl, rfl, w1⟩ := open_int Tryd.underlying3 (hval 1 3 v1 rfl rfl) h1
  obtain ⟨a2, rfl, rfl, rfl, w2⟩ := open_int Tryd.underlying3 (hval 2 3 v2 rfl rfl) h2
  clear hA0
  refine (walk l0 n0 b0 a1 a2 W (tab hL)).mono fun e W' ⟨he, bel⟩ => ?_
  subst he
  exact ⟨_, rfl, _, _, _, [], _, [], hW', trodAll_mk1 (shut_bool Tryd.underlying4 _), (trodAll_cons_mk (Below.trod laidOut (by kernel_rfl) (of_decide_eq_true (by kernel_rfl)) k0 bel lt0) (trodAll_cons_mk (shut_int Tryd.underlying3 w1) (trodAll_cons_mk (shut_int Tryd.underlying3 w2) trodAll_mk0))), rfl, bel.frame _, fun h => by cases h⟩

theorem laid_met (os : Os) : laidMet Tryd.prog Rows.onetimeSecretsRow.laid ((laidWorld os).forCall (fun _ _ => 0) ⟨#[], #[.agg (bsC zD), .int .i64 0, .int .i64 0], []⟩).memory :=
  laidMet_of_run' 8 (by kernel_rfl) (by kernel_rfl)
theorem reads (os : Os) {H : Type} (enc : TypeId × Value → H) : ∃ places, DataW.whole enc Tryd.prog ((laidWorld os).forCall (fun _ _ => 0) ⟨#[], #[.agg (bsC zD), .int .i64 0, .int .i64 0], []⟩).memory Tryd.f5.params.toList Rows.onetimeSecretsSpec.vars false (#[.agg (bsC zD), .int .i64 0, .int .i64 0] : Array Value).toList 8 = some ([.agg (zD.map fun z => .lit (.int .u8 z)), .lit (.int .i64 0), .lit (.int .i64 0)], [], places) :=
  ⟨[], by kernel_rfl⟩

set_option maxRecDepth 100000 in
theorem lifted (os : Os) (started : os.Started) (H : Type) (enc : TypeId × Value → H) (F : Stop.Interp) :
    ReturnsInHanded {} Tryd.checked os 5 .any ((OpenSpec.ofChange Rows.onetimeSecretsSpec).preRow enc Tryd.prog Tryd.f5 Rows.onetimeSecretsRow.domain false Rows.onetimeSecretsRow.laid) (((OpenSpec.ofChange Rows.onetimeSecretsSpec).at F).post enc Tryd.prog Tryd.f5 false true false false) := by
  obtain ⟨places, hx⟩ := reads os enc
  refine returnsInHanded_of_row (C := Tryd.checked) (s := OpenSpec.ofChange Rows.onetimeSecretsSpec) own started (by kernel_rfl) Tryd.func5
    (witness_row_at (enc := enc) (C := Tryd.checked) false (laidWorld os) #[.agg (bsC zD), .int .i64 0, .int .i64 0] rfl (by kernel_rfl) (by kernel_rfl) (by kernel_rfl)
      (OpenSpec.preRow_of_cond 8 hx (by kernel_rfl) (fun k hk => by cases hk) (by kernel_rfl) (laid_met os))) ?_
  intro W base args ds gs before hval hW _ _ _ hL hs _
  exact contract H enc W base args ds gs before hval hW hL hs

theorem said : Rows.OnetimeSecretsSaid :=
  OpenClaim.holds_of_cond 5 Tryd.f5 rfl rfl rfl rfl rfl rfl rfl ⟨rfl, rfl, rfl, rfl, rfl⟩ rfl rfl rfl rfl rfl (by kernel_rfl) Tryd.func5 (by kernel_rfl)
    (of_decide_eq_true (by kernel_rfl)) (by unfold Func.isWrapper; first | (rw [if_pos (by decide +kernel)]; kernel_rfl) | (rw [if_neg (by decide +kernel)]; exact ⟨rfl, rfl⟩))
    (fun os started H enc _ F => by rw [OpenClaim.pre_eq_preRow]; exact lifted os started H enc F)

theorem plain (f : FuncId) (fn : Func) (hf : Tryd.pinned.checked.prog.funcNamed "bulletin/bulletinlaw07.OnetimeSecrets" = some f) (hfn : Tryd.pinned.checked.prog.funcs[f]? = some fn) :
    false = Tryd.pinned.checked.prog.looks [] ∧ ∀ (j : Nat) t, fn.params[j]? = some t → Tryd.pinned.checked.prog.wantsStandIn t = false := by
  obtain rfl : f = 5 := Option.some.inj ((show Tryd.prog.funcNamed "bulletin/bulletinlaw07.OnetimeSecrets" = some 5 by kernel_rfl).symm.trans hf) |>.symm
  obtain rfl : fn = Tryd.f5 := (Option.some.inj (Tryd.func5.symm.trans hfn)).symm
  refine ⟨by kernel_rfl, fun j t ht => ?_⟩
  rw [Tryd.params5] at ht
  have hm : t = 31 ∨ t = 3 := by simpa using Array.mem_of_getElem? ht
  rcases hm with rfl | rfl
  · exact (show Tryd.prog.wantsStandIn 31 = false by kernel_rfl)
  · exact (show Tryd.prog.wantsStandIn 3 = false by kernel_rfl)

end Go.Proofs.YtgfolgmheinbiaaDoorRRR.onetimeSecretsLaw
namespace Go.Proofs.YtgfolgmheinbiaaDoorRRR

/-- THE CARD OF OnetimeSecrets -/
theorem onetimeSecrets_card : Rows.OnetimeSecretsCardSaid :=
  Claim7.holds_tied_plain_at .later [] _ _ _ _ onetimeSecretsLaw.said (fun _ h => by cases h) (by kernel_rfl) (fun _ h => by cases h) onetimeSecrets_row_tie rfl ⟨rfl, rfl⟩ (by kernel_rfl) rfl onetimeSecretsLaw.plain (by kernel_rfl)
#print axioms onetimeSecrets_card
end Go.Proofs.YtgfolgmheinbiaaDoorRRR
