/- The program's Sign, ends, Recover, Verify. (Written by mk_sign.py.) -/
import Derived.Test.YtgfolgmheinbiaaDoorRRRPub
namespace S7
theorem split_le (d : List Nat) (h : ∀ x ∈ d, x < 256) (hd : d.length = 16) (i : Nat) : (split d).getD i 0 ≤ 15 := by
  rw [List.getD_eq_getElem?_getD]
  by_cases hi : i < (split d).length
  · rw [List.getElem?_eq_getElem hi]
    have hm : (split d)[i] ∈ split d := List.getElem_mem hi
    generalize (split d)[i] = y at *
    show y ≤ 15
    have hg := gap_le (nibs d)
    rw [nibs_len, hd] at hg
    unfold split at hm
    rcases List.mem_append.1 hm with h1 | h1
    · exact nibs_lt d h y h1
    · simp only [List.mem_cons, List.not_mem_nil, or_false] at h1
      rcases h1 with rfl | rfl | rfl <;> omega
  · rw [List.getElem?_eq_none (by omega)]
    exact Nat.zero_le _
def dg (d : List Nat) (c : Nat) : Nat := (split d).getD c 0
def valS (seed d : List Nat) (leaf c : Nat) : List Nat := adv leaf c 0 (dg d c) (sec seed leaf c)
def valE (s d : List Nat) (leaf c : Nat) : List Nat := adv leaf c (dg d c) (15 - dg d c) ((s.drop (c * 16)).take 16)
theorem valS_len (seed d : List Nat) (leaf c : Nat) : (valS seed d leaf c).length = 16 := adv_len _ _ _ _ _ (half_len _)
theorem valS_lt (seed d : List Nat) (leaf c : Nat) : ∀ x ∈ valS seed d leaf c, x < 256 := adv_lt _ _ _ _ _ (half_lt _)
theorem valE_len (s d : List Nat) (leaf c : Nat) (hs : s.length = 560) (hc : c < 35) : (valE s d leaf c).length = 16 := adv_len _ _ _ _ _ (by rw [List.length_take, List.length_drop, hs]; omega)
theorem valE_lt (s d : List Nat) (leaf c : Nat) (hs : ∀ x ∈ s, x < 256) : ∀ x ∈ valE s d leaf c, x < 256 := adv_lt _ _ _ _ _ (fun x hx => hs x (List.mem_of_mem_drop (List.mem_of_mem_take hx)))
end S7
namespace Go.Proofs.YtgfolgmheinbiaaDoorRRR
open Go.RowKit

theorem wp_bld0 {T : TypeId} {v : Value} (hr : ∀ w, (Instr.build T #[]).run Tryd.prog w = .ok v w) {ops : Array Oper} {rest : List Oper} {o : Oper} {a : Act} {w : World} {Q : Exit → Act → World → Prop} (hw : Region.wanted o (yielded ops a.tmps) = true) (ho : o.op = .build T #[])
    (hk : wpList Tryd.prog ops Q rest (a.put o.dst v) w) : wpList Tryd.prog ops Q (o :: rest) a w :=
  wpList_step fun K hK => by
    have hrun := hr w
    simp only [hw, if_true]
    unfold Oper.wp
    simp [execOp, ho, hrun, Result.andThen]
    exact hK _ _ hk
theorem nI_getD (l : List Nat) (i : Nat) : (nI l).getD i 0 = ((l.getD i 0 : Nat) : Int) := by
  rw [List.getD_eq_getElem?_getD, List.getD_eq_getElem?_getD, List.getElem?_map]
  cases l[i]? <;> rfl
theorem infoSg : (Tryd.prog.info? 57).map (·.size) = some 560 := by kernel_rfl
theorem zs_len (n : Nat) : (zs n).length = n := List.length_replicate

set_option maxRecDepth 100000 in
set_option maxHeartbeats 4000000 in
theorem Sign_no (D G : List Int) (leaf : Int) (h : lfB leaf = false) (w : World) : Calls Tryd.prog 29 #[.agg (bsC D), .int .i64 leaf, .agg (bsC G)] w fun e w' => e = .returned (.tuple #[.agg (bsC (zs 560)), .int .i64 2]) ∧ Below w.heap.size w w' := by
  have HLF := Lib.hid isLeaf_any
  obtain ⟨Z, hZ⟩ : ∃ Z, Z = zs 560 := ⟨_, rfl⟩
  have HZL := Lib.hid (show Z.length = 560 by rw [hZ]; exact zs_len 560)
  have hbz : ∀ w, (Instr.build 57 #[]).run Tryd.prog w = .ok (.agg (bsC Z)) w := fun w => by rw [hZ]; kernel_rfl
  have HBZ := Lib.hid hbz
  rw [← hZ]
  clear hbz
  go_enter Tryd.func29, Tryd.ntmps29
  go_upto_region 1 with (fail)
  change Code.wp Tryd.prog _ _ _ ((((w.alloc (.cells (bsC D) 31)).alloc (.cells #[.int .i64 leaf] 3)).alloc (.cells (bsC G) 22)).alloc (.cells (bsC (zs 560)) 57))
  rw [← hZ]
  clear hZ
  generalize hW0 : (((w.alloc (.cells (bsC D) 31)).alloc (.cells #[.int .i64 leaf] 3)).alloc (.cells (bsC G) 22)).alloc (.cells (bsC Z) 57) = W0
  obtain ⟨_, hb2, _, hb4, hB0⟩ := boxes4 w hW0
  have cl := blk1_cell hb2
  have R0 := Lib.hid hb4; have B0 := Lib.hid hB0
  clear hW0 hb2 hb4 hB0
  go_wp2_with (first
    | (go_at_call 37; refine (HLF.out _ _).mono ?_; rintro e w9 ⟨rfl, rfl⟩)
    | (refine wp_bld0 HBZ.out (by rfl) (by rfl) ?_)
    | (refine sto_bs infoSg _ Z HZL.out _ R0.out (by rw [bsC_size]; exact HZL.out) (by rfl) _ _ (by rfl) (by rfl) (by rfl) ?_; intro w6 hw6))
  have hf : Blk w6 (w.heap.size + 1 + 1 + 1) 57 (bsC Z) := by rw [hw6.out]; exact R0.out.row _
  have hfB : Below w.heap.size w w6 := by rw [hw6.out]; exact below_row B0.out _ (by omega) _
  exact bodyPost_ret (results_cell_tmp rfl _ _ (w.heap.size + 1 + 1 + 1) _ _ _ _ rfl hf (by rfl) Tryd.underlying57 (by rw [bsC_size, HZL.out]; exact infoSg)) rfl ⟨rfl, hfB⟩

set_option maxRecDepth 100000 in
set_option maxHeartbeats 4000000 in
theorem Sign_ok (seed d : List Nat) (hs : seed.length = 32) (hsb : ∀ x ∈ seed, x < 256) (hd : d.length = 16) (hdb : ∀ x ∈ d, x < 256) (leaf : Nat) (hl : leaf ≤ 65535) (w : World) (hT : Tab w) :
    Calls Tryd.prog 29 #[.agg (bsC (nI seed)), .int .i64 leaf, .agg (bsC (nI d))] w fun e w' => e = .returned (.tuple #[.agg (bsC (nI (pre (S7.valS seed d leaf) 35))), .int .i64 0]) ∧ Below w.heap.size w w' := by
  have hp := hT.1
  have HLF := Lib.hid isLeaf_any
  have h1 := lfB_of leaf hl
  obtain ⟨V, hV⟩ : ∃ V, V = nI (pre (S7.valS seed d leaf) 35) := ⟨_, rfl⟩
  obtain ⟨D, hD⟩ : ∃ D, D = nI seed := ⟨_, rfl⟩
  obtain ⟨G, hG⟩ : ∃ G, G = nI d := ⟨_, rfl⟩
  obtain ⟨X, hX⟩ : ∃ X, X = nI (S7.split d) := ⟨_, rfl⟩
  have HVE := Lib.hid hV
  have HVL := Lib.hid (show V.length = 560 by rw [hV, nI_len, pre_len _ (fun i _ => S7.valS_len seed d leaf i) 35 (by omega)])
  have HGL := Lib.hid (show G.length = 16 by rw [hG, nI_len, hd])
  have hXL : X.length = 35 := by rw [hX, nI_len, S7.split_len d hd]
  have HXL := Lib.hid hXL
  have HSP := Lib.hid (fun W => split_any d hd hdb W)
  rw [← hG, ← hX] at HSP
  have HP := Lib.hid (show ∀ (gl gd gs : Nat) W, Tab W → Blk W gl 3 #[.int .i64 leaf] → Blk W gd 27 (ksC .i64 X) → Blk W gs 31 (bsC D) → Calls Tryd.prog 44 #[.func (.func 46) #[] #[.pointer (some ⟨gl, 0, none⟩), .pointer (some ⟨gd, 0, none⟩), .pointer (some ⟨gs, 0, none⟩)]] W fun e w' => e = .returned (.agg (bsC V)) ∧ Below W.heap.size W w' from fun gl gd gs W hT hL hG hS => by
    rw [hV]
    rw [hD] at hS
    exact perChain3_any _ _ _ _ (S7.valS seed d leaf) (fun i _ => S7.valS_len seed d leaf i) W enters46 (fun i hi W2 hb => sign1_any seed hs hsb leaf i (S7.dg d i) X hXL (S7.split_le d hdb hd i) (by rw [hX, nI_getD]; rfl) hl (by omega) gl gd gs W2 (hT.below hb hT.1) (hL.keep hb hL.lt) (hG.keep hb hG.lt) (hS.keep hb hS.lt)))
  rw [← hD, ← hG]
  clear hV hD hG hX hs hsb hd hdb hXL
  go_enter Tryd.func29, Tryd.ntmps29
  go_upto_region 1 with (fail)
  change Code.wp Tryd.prog _ _ _ ((((w.alloc (.cells (bsC D) 31)).alloc (.cells #[.int .i64 leaf] 3)).alloc (.cells (bsC G) 22)).alloc (.cells (bsC (zs 560)) 57))
  generalize hW0 : (((w.alloc (.cells (bsC D) 31)).alloc (.cells #[.int .i64 leaf] 3)).alloc (.cells (bsC G) 22)).alloc (.cells (bsC (zs 560)) 57) = W0
  obtain ⟨hb1, hb2, hb3, hb4, hB0⟩ := boxes4 w hW0
  have cl := blk1_cell hb2
  have S0 := Lib.hid hb1; have L0 := Lib.hid hb2; have G0 := Lib.hid hb3; have R0 := Lib.hid hb4; have B0 := Lib.hid hB0
  clear hW0 hb1 hb2 hb3 hb4 hB0
  go_upto_region 4 with (first
    | (go_at_call 37; refine (HLF.out _ _).mono ?_; rintro e w9 ⟨rfl, rfl⟩)
    | (refine ld_bs Tryd.underlying22 info16u _ G HGL.out G0.out (by rfl) _ (by rfl) (by rfl) ?_)
    | (go_at_call 15; refine (HSP.out _).mono ?_; rintro e w1 ⟨rfl, hb⟩; have S1 := Lib.hid (S0.out.keep hb S0.out.lt); have L1 := Lib.hid (L0.out.keep hb L0.out.lt); have R1 := Lib.hid (R0.out.keep hb R0.out.lt); have B1 := Lib.hid (B0.out.trans (hb.mono B0.out.size)); clear hb)
    | (refine sto_ks info35 _ X HXL.out _ (Blk.fresh w1 27 (ksC .i64 z35)) (by rw [ksC_size]; exact z35_len) (by rfl) _ _ (by rfl) (by rfl) (by rfl) ?_; intro w2 hw))
  have X2 := Lib.hid (show Blk w2 w1.heap.size 27 (ksC .i64 X) by rw [hw.out]; exact (Blk.fresh w1 _ _).row _)
  have S2 := Lib.hid (show Blk w2 w.heap.size 31 (bsC D) by rw [hw.out]; exact (S1.out.more _).far (Nat.ne_of_lt S1.out.lt) _)
  have L2 := Lib.hid (show Blk w2 (w.heap.size + 1) 3 #[.int .i64 leaf] by rw [hw.out]; exact (L1.out.more _).far (Nat.ne_of_lt L1.out.lt) _)
  have R2 := Lib.hid (show Blk w2 (w.heap.size + 1 + 1 + 1) 57 (bsC (zs 560)) by rw [hw.out]; exact (R1.out.more _).far (Nat.ne_of_lt R1.out.lt) _)
  have B2 := Lib.hid (show Below w.heap.size w w2 by rw [hw.out]; exact below_row (B1.out.alloc B1.out.size _) _ B1.out.size _)
  clear hw cl S0 L0 G0 R0 B0 S1 L1 R1 B1
  generalize w1.heap.size = gd at *
  go_wp2_with (first
    | (go_at_call 44; refine (HP.out _ _ _ _ (hT.below B2.out hp) L2.out X2.out S2.out).mono ?_; rintro e w3 ⟨rfl, hb⟩; have R3 := Lib.hid (R2.out.keep hb R2.out.lt); have B3 := Lib.hid (B2.out.trans (hb.mono B2.out.size)); clear hb)
    | (refine sto_bs infoSg _ V HVL.out _ R3.out (by rw [bsC_size]; exact zs_len 560) (by rfl) _ _ (by rfl) (by rfl) (by rfl) ?_; intro w6 hw6))
  have hf : Blk w6 (w.heap.size + 1 + 1 + 1) 57 (bsC V) := by rw [hw6.out]; exact R3.out.row _
  have hfB : Below w.heap.size w w6 := by rw [hw6.out]; exact below_row B3.out _ (by omega) _
  exact bodyPost_ret (results_cell_tmp rfl _ _ (w.heap.size + 1 + 1 + 1) _ _ _ _ rfl hf (by rfl) Tryd.underlying57 (by rw [bsC_size, HVL.out]; exact infoSg)) rfl ⟨by rw [HVE.out]; rfl, hfB⟩

set_option maxRecDepth 100000 in
set_option maxHeartbeats 4000000 in
theorem ends_any (s d : List Nat) (hs : s.length = 560) (hsb : ∀ x ∈ s, x < 256) (hd : d.length = 16) (hdb : ∀ x ∈ d, x < 256) (leaf : Nat) (hl : leaf ≤ 65535) (w : World) (hT : Tab w) :
    Calls Tryd.prog 47 #[.int .i64 leaf, .agg (bsC (nI d)), .agg (bsC (nI s))] w fun e w' => e = .returned (.agg (bsC (nI (pre (S7.valE s d leaf) 35)))) ∧ Below w.heap.size w w' := by
  have hp := hT.1
  obtain ⟨V, hV⟩ : ∃ V, V = nI (pre (S7.valE s d leaf) 35) := ⟨_, rfl⟩
  obtain ⟨D, hD⟩ : ∃ D, D = nI s := ⟨_, rfl⟩
  obtain ⟨G, hG⟩ : ∃ G, G = nI d := ⟨_, rfl⟩
  obtain ⟨X, hX⟩ : ∃ X, X = nI (S7.split d) := ⟨_, rfl⟩
  have HVE := Lib.hid hV
  have HVL := Lib.hid (show V.length = 560 by rw [hV, nI_len, pre_len _ (fun i hi => S7.valE_len s d leaf i hs hi) 35 (by omega)])
  have HGL := Lib.hid (show G.length = 16 by rw [hG, nI_len, hd])
  have hXL : X.length = 35 := by rw [hX, nI_len, S7.split_len d hd]
  have HXL := Lib.hid hXL
  have HSP := Lib.hid (fun W => split_any d hd hdb W)
  rw [← hG, ← hX] at HSP
  have HP := Lib.hid (show ∀ (gl gd gs : Nat) W, Tab W → Blk W gl 3 #[.int .i64 leaf] → Blk W gd 27 (ksC .i64 X) → Blk W gs 57 (bsC D) → Calls Tryd.prog 44 #[.func (.func 54) #[] #[.pointer (some ⟨gl, 0, none⟩), .pointer (some ⟨gd, 0, none⟩), .pointer (some ⟨gs, 0, none⟩)]] W fun e w' => e = .returned (.agg (bsC V)) ∧ Below W.heap.size W w' from fun gl gd gs W hT hL hG hS => by
    rw [hV]
    rw [hD] at hS
    exact perChain3_any _ _ _ _ (S7.valE s d leaf) (fun i hi => S7.valE_len s d leaf i hs hi) W enters54 (fun i hi W2 hb => ends1_any s hs hsb leaf i (S7.dg d i) X hXL (S7.split_le d hdb hd i) (by rw [hX, nI_getD]; rfl) hl (by omega) _ gl gd gs W2 (hT.below hb hT.1) (hL.keep hb hL.lt) (hG.keep hb hG.lt) (hS.keep hb hS.lt)))
  rw [← hD, ← hG]
  clear hV hD hG hX hs hsb hd hdb hXL
  go_enter Tryd.func47, Tryd.ntmps47
  go_upto_region 1 with (fail)
  change Code.wp Tryd.prog _ _ _ ((((w.alloc (.cells #[.int .i64 leaf] 3)).alloc (.cells (bsC G) 22)).alloc (.cells (bsC D) 57)).alloc (.cells (bsC (zs 560)) 51))
  generalize hW0 : (((w.alloc (.cells #[.int .i64 leaf] 3)).alloc (.cells (bsC G) 22)).alloc (.cells (bsC D) 57)).alloc (.cells (bsC (zs 560)) 51) = W0
  obtain ⟨hb1, hb2, hb3, hb4, hB0⟩ := boxes4 w hW0
  have L0 := Lib.hid hb1; have G0 := Lib.hid hb2; have S0 := Lib.hid hb3; have R0 := Lib.hid hb4; have B0 := Lib.hid hB0
  clear hW0 hb1 hb2 hb3 hb4 hB0
  go_upto_region 2 with (first
    | (refine ld_bs Tryd.underlying22 info16u _ G HGL.out G0.out (by rfl) _ (by rfl) (by rfl) ?_)
    | (go_at_call 15; refine (HSP.out _).mono ?_; rintro e w1 ⟨rfl, hb⟩; have S1 := Lib.hid (S0.out.keep hb S0.out.lt); have L1 := Lib.hid (L0.out.keep hb L0.out.lt); have R1 := Lib.hid (R0.out.keep hb R0.out.lt); have B1 := Lib.hid (B0.out.trans (hb.mono B0.out.size)); clear hb)
    | (refine sto_ks info35 _ X HXL.out _ (Blk.fresh w1 27 (ksC .i64 z35)) (by rw [ksC_size]; exact z35_len) (by rfl) _ _ (by rfl) (by rfl) (by rfl) ?_; intro w2 hw))
  have X2 := Lib.hid (show Blk w2 w1.heap.size 27 (ksC .i64 X) by rw [hw.out]; exact (Blk.fresh w1 _ _).row _)
  have L2 := Lib.hid (show Blk w2 w.heap.size 3 #[.int .i64 leaf] by rw [hw.out]; exact (L1.out.more _).far (Nat.ne_of_lt L1.out.lt) _)
  have S2 := Lib.hid (show Blk w2 (w.heap.size + 1 + 1) 57 (bsC D) by rw [hw.out]; exact (S1.out.more _).far (Nat.ne_of_lt S1.out.lt) _)
  have R2 := Lib.hid (show Blk w2 (w.heap.size + 1 + 1 + 1) 51 (bsC (zs 560)) by rw [hw.out]; exact (R1.out.more _).far (Nat.ne_of_lt R1.out.lt) _)
  have B2 := Lib.hid (show Below w.heap.size w w2 by rw [hw.out]; exact below_row (B1.out.alloc B1.out.size _) _ B1.out.size _)
  clear hw S0 L0 G0 R0 B0 S1 L1 R1 B1
  generalize w1.heap.size = gd at *
  go_wp2_with (first
    | (go_at_call 44; refine (HP.out _ _ _ _ (hT.below B2.out hp) L2.out X2.out S2.out).mono ?_; rintro e w3 ⟨rfl, hb⟩; have R3 := Lib.hid (R2.out.keep hb R2.out.lt); have B3 := Lib.hid (B2.out.trans (hb.mono B2.out.size)); clear hb)
    | (refine sto_bs infoVs _ V HVL.out _ R3.out (by rw [bsC_size]; exact zs_len 560) (by rfl) _ _ (by rfl) (by rfl) (by rfl) ?_; intro w6 hw6))
  have hf : Blk w6 (w.heap.size + 1 + 1 + 1) 51 (bsC V) := by rw [hw6.out]; exact R3.out.row _
  have hfB : Below w.heap.size w w6 := by rw [hw6.out]; exact below_row B3.out _ (by omega) _
  exact bodyPost_ret (results_cell_row rfl _ _ (w.heap.size + 1 + 1 + 1) _ _ _ _ rfl hf Tryd.underlying51 rfl (by rw [bsC_size, HVL.out]; exact infoVs)) rfl ⟨by rw [HVE.out], hfB⟩
end Go.Proofs.YtgfolgmheinbiaaDoorRRR
