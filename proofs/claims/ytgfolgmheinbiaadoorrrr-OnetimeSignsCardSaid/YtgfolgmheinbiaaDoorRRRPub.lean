/- The program's Public. (Written by mk_pub.py.) -/
import Derived.Test.YtgfolgmheinbiaaDoorRRRPerC
import Derived.Test.YtgfolgmheinbiaaDoorRRRClos
namespace S7
def valP (seed : List Nat) (leaf c : Nat) : List Nat := adv leaf c 0 15 (sec seed leaf c)
theorem valP_len (seed : List Nat) (leaf c : Nat) : (valP seed leaf c).length = 16 := adv_len _ _ _ _ _ (half_len _)
theorem valP_lt (seed : List Nat) (leaf c : Nat) : ∀ x ∈ valP seed leaf c, x < 256 := adv_lt _ _ _ _ _ (half_lt _)
end S7
namespace Go.Proofs.YtgfolgmheinbiaaDoorRRR
open Go.RowKit

theorem enters45 : ∀ (args : Array Value) (w : World), (callFunc 45 args).run Tryd.prog w = .ok (.enter 45 args) w := enters_of Tryd.func45 (by kernel_rfl) rfl
theorem enters46 : ∀ (args : Array Value) (w : World), (callFunc 46 args).run Tryd.prog w = .ok (.enter 46 args) w := enters_of Tryd.func46 (by kernel_rfl) rfl
theorem enters54 : ∀ (args : Array Value) (w : World), (callFunc 54 args).run Tryd.prog w = .ok (.enter 54 args) w := enters_of Tryd.func54 (by kernel_rfl) rfl

set_option maxRecDepth 100000 in
set_option maxHeartbeats 4000000 in
theorem Public_no (D : List Int) (leaf : Int) (h : lfB leaf = false) (w : World) : Calls Tryd.prog 24 #[.agg (bsC D), .int .i64 leaf] w fun e w' => e = .returned (.tuple #[.agg (bsC z16), .int .i64 2]) ∧ Below w.heap.size w w' := by
  have HLF := Lib.hid isLeaf_any
  go_enter Tryd.func24, Tryd.ntmps24
  go_upto_region 1 with (fail)
  change Code.wp Tryd.prog _ _ _ (((w.alloc (.cells (bsC D) 31)).alloc (.cells #[.int .i64 leaf] 3)).alloc (.cells (bsC z16) 22))
  generalize hW0 : ((w.alloc (.cells (bsC D) 31)).alloc (.cells #[.int .i64 leaf] 3)).alloc (.cells (bsC z16) 22) = W0
  obtain ⟨_, hb2, hb3, hB0⟩ := boxes3 w hW0
  have cl := blk1_cell hb2
  have R0 := Lib.hid hb3; have B0 := Lib.hid hB0
  clear hW0 hb2 hb3 hB0
  go_wp2_with (first
    | (go_at_call 37; refine (HLF.out _ _).mono ?_; rintro e w9 ⟨rfl, rfl⟩)
    | (refine sto_bs info16u _ z16 z16_len _ R0.out (by rw [bsC_size]; exact z16_len) (by rfl) _ _ (by rfl) (by rfl) (by rfl) ?_; intro w6 hw6))
  have hf : Blk w6 (w.heap.size + 1 + 1) 22 (bsC z16) := by rw [hw6.out]; exact R0.out.row _
  have hfB : Below w.heap.size w w6 := by rw [hw6.out]; exact below_row B0.out _ (by omega) _
  exact bodyPost_ret (results_cell_tmp rfl _ _ (w.heap.size + 1 + 1) _ _ _ _ rfl hf (by rfl) Tryd.underlying22 (by rw [bsC_size, z16_len]; exact info16u)) rfl ⟨rfl, hfB⟩

set_option maxRecDepth 100000 in
set_option maxHeartbeats 4000000 in
theorem Public_ok (seed : List Nat) (hs : seed.length = 32) (hsb : ∀ x ∈ seed, x < 256) (leaf : Nat) (hl : leaf ≤ 65535) (w : World) (hT : Tab w) :
    Calls Tryd.prog 24 #[.agg (bsC (nI seed)), .int .i64 leaf] w fun e w' => e = .returned (.tuple #[.agg (bsC (nI (S7.comp leaf (pre (S7.valP seed leaf) 35)))), .int .i64 0]) ∧ Below w.heap.size w w' := by
  have hp := hT.1
  have HLF := Lib.hid isLeaf_any
  have h1 := lfB_of leaf hl
  obtain ⟨V, hV⟩ : ∃ V, V = nI (S7.comp leaf (pre (S7.valP seed leaf) 35)) := ⟨_, rfl⟩
  obtain ⟨E, hE⟩ : ∃ E, E = nI (pre (S7.valP seed leaf) 35) := ⟨_, rfl⟩
  obtain ⟨D, hD⟩ : ∃ D, D = nI seed := ⟨_, rfl⟩
  have HVE := Lib.hid hV
  have HVL := Lib.hid (show V.length = 16 by rw [hV, nI_len]; exact S7.half_len _)
  have HC := Lib.hid (show ∀ W, Tab W → Calls Tryd.prog 43 #[.int .i64 leaf, .agg (bsC E)] W fun e w' => e = .returned (.agg (bsC V)) ∧ Below W.heap.size W w' from fun W hT => by
    rw [hV, hE]
    exact compress_any leaf _ (pre_len _ (fun i _ => S7.valP_len seed leaf i) 35 (by omega)) (pre_lt _ (fun i _ => S7.valP_lt seed leaf i) 35 (by omega)) hl W hT)
  have HP := Lib.hid (show ∀ (gl gs : Nat) W, Tab W → Blk W gl 3 #[.int .i64 leaf] → Blk W gs 31 (bsC D) → Calls Tryd.prog 44 #[.func (.func 45) #[] #[.pointer (some ⟨gl, 0, none⟩), .pointer (some ⟨gs, 0, none⟩)]] W fun e w' => e = .returned (.agg (bsC E)) ∧ Below W.heap.size W w' from fun gl gs W hT hL hS => by
    rw [hE]
    rw [hD] at hS
    exact perChain2_any _ _ _ (S7.valP seed leaf) (fun i _ => S7.valP_len seed leaf i) W enters45 (fun i hi W2 hb => pub1_any seed hs hsb leaf i hl (by omega) gl gs W2 (hT.below hb hT.1) (hL.keep hb hL.lt) (hS.keep hb hS.lt)))
  rw [← hD]
  clear hV hE hD hs hsb
  go_enter Tryd.func24, Tryd.ntmps24
  go_upto_region 1 with (fail)
  change Code.wp Tryd.prog _ _ _ (((w.alloc (.cells (bsC D) 31)).alloc (.cells #[.int .i64 leaf] 3)).alloc (.cells (bsC z16) 22))
  generalize hW0 : ((w.alloc (.cells (bsC D) 31)).alloc (.cells #[.int .i64 leaf] 3)).alloc (.cells (bsC z16) 22) = W0
  obtain ⟨hb1, hb2, hb3, hB0⟩ := boxes3 w hW0
  have cl := blk1_cell hb2
  have S0 := Lib.hid hb1.draw; have L0 := Lib.hid hb2.draw; have R0 := Lib.hid hb3.draw; have B0 := Lib.hid hB0.drew
  clear hW0 hb1 hb2 hb3 hB0
  go_upto_region 3 with (go_at_call 37; refine (HLF.out _ _).mono ?_; rintro e w9 ⟨rfl, rfl⟩)
  clear cl

  refine wp_region_held_drew (S := (fun W => Blk W (w.heap.size + 1) 3 #[.int .i64 leaf])) (by kernel_rfl) ?_ (fun hHeld => ?_)
  · exact L0.out
  refine wpAnyH_take (i := 0) (v := .int .i64 leaf) rfl (by kernel_rfl) (by kernel_rfl) (by kernel_rfl) (fun _ _ _ h => h) (yl_int (fun w => by kernel_rfl) (w.heap.size + 1) 0 leaf (fun _ h => blk1_cell h) (by rfl) _ rfl rfl) (by assumption) ?_
  simp only [Act.put, List.getElem_toArray, List.getElem_cons_zero, List.setIfInBounds_toArray, List.set_cons_succ, List.set_cons_zero]
  refine wpAnyH_ready (rs := [1]) (by kernel_rfl) (by simp) ?_
  refine AllReadyH.cons rfl (fun K hK => ?_) AllReadyH.nil
  go_simp
  refine hK.out _ _ L0.out (fun hHeld => ?_)
  clear hK K
  refine wpAnyH_ready (rs := [2]) (by kernel_rfl) (by simp) ?_
  refine AllReadyH.cons rfl (fun K hK => ?_) AllReadyH.nil
  go_simp
  refine (HP.out _ _ _ (hT.below B0.out hp) L0.out S0.out).mono ?_
  rintro e w1 ⟨rfl, hb⟩
  have L1 := Lib.hid (L0.out.keep hb L0.out.lt)
  have S1 := Lib.hid (S0.out.keep hb S0.out.lt)
  have R1 := Lib.hid (R0.out.keep hb R0.out.lt)
  have B1 := Lib.hid (B0.out.trans (hb.mono B0.out.size))
  clear hb
  refine hK.out _ _ L1.out (fun hHeld => ?_)
  clear hK K
  refine wpAnyH_ready (rs := [3]) (by kernel_rfl) (by simp) ?_
  refine AllReadyH.cons rfl (fun K hK => ?_) AllReadyH.nil
  go_simp
  refine (HC.out _ (hT.below B1.out hp)).mono ?_
  rintro e w2 ⟨rfl, hb⟩
  have L2 := Lib.hid (L1.out.keep hb L1.out.lt)
  have S2 := Lib.hid (S1.out.keep hb S1.out.lt)
  have R2 := Lib.hid (R1.out.keep hb R1.out.lt)
  have B2 := Lib.hid (B1.out.trans (hb.mono B1.out.size))
  clear hb
  refine hK.out _ _ L2.out (fun hHeld => ?_)
  clear hK K
  refine wpAnyH_ready (rs := [4]) (by kernel_rfl) (by simp) ?_
  refine AllReadyH.cons rfl (fun K hK => ?_) AllReadyH.nil
  refine step_sto_bs info16u (w.heap.size + 1 + 1) V HVL.out _ R2.out (by rw [bsC_size]; exact z16_len) (by rfl) _ _ rfl (by rfl) (by rfl) ?_
  obtain ⟨wf, hwf⟩ : ∃ W, W = w2.setRow (w.heap.size + 1 + 1) (bsC V) := ⟨_, rfl⟩
  rw [← hwf]
  have RF := Lib.hid (show Blk wf (w.heap.size + 1 + 1) 22 (bsC V) by rw [hwf]; exact R2.out.row _)
  have BF := Lib.hid (show Below w.heap.size w wf by rw [hwf]; exact below_row B2.out _ (by omega) _)
  have LF := Lib.hid (show Blk wf _ _ _ by rw [hwf]; exact L2.out.far (by omega) _)
  refine hK.out _ _ LF.out (fun hHeld => ?_)
  clear hK K
  refine wpAnyH_take (i := 5) (v := ?_) rfl (by kernel_rfl) (by kernel_rfl) (by kernel_rfl) (fun _ _ _ h => h) (Or.inl ⟨by rfl, ?_⟩) (by assumption) ?_
  rotate_left
  · (intro w9 _; go_simp; try with_reducible rfl)
  simp only [Act.put, List.getElem_toArray, List.getElem_cons_succ, List.getElem_cons_zero, List.setIfInBounds_toArray, List.set_cons_succ, List.set_cons_zero]
  refine wpAnyH_done (by kernel_rfl) ?_ _
  go_wp2_with fail
  exact bodyPost_ret (results_cell_tmp rfl _ _ (w.heap.size + 1 + 1) _ _ _ _ rfl RF.out (by rfl) Tryd.underlying22 (by rw [bsC_size, HVL.out]; exact info16u)) rfl ⟨by rw [HVE.out]; rfl, BF.out⟩
end Go.Proofs.YtgfolgmheinbiaaDoorRRR
