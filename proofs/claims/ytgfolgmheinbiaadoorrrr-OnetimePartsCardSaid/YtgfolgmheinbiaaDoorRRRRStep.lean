/- The reference's Secret and Step. (Written by mk_rstep.py.) -/
import Derived.Test.YtgfolgmheinbiaaDoorRRRRHalf
import Derived.Test.YtgfolgmheinbiaaDoorRRRSecret
import Derived.Deep.RegionHeld3
namespace Go.Proofs.YtgfolgmheinbiaaDoorRRR
open Go.RowKit

theorem step_append_bytes {ops : Array Oper} {o : Oper} {a : Act} {w : World} {K : Act → World → Prop} {Q : Exit → Act → World → Prop} {E : Prop} (hgd : o.guard = none) (s x : Operand)
    (ho : o.op = .call { callee := .builtin .append, args := #[s, x], argTypes := #[78, 78] })
    (base : Nat) (v : Value) (xs : List Nat) (hs : a.eval s = v) (hown : OwnL base w v xs) (src : Value) (l : List Nat) (hx : a.eval x = src) (hb : Bytes w src l)
    (hn : xs.length + l.length ≤ 1000000000) (hbase : base ≤ w.heap.size)
    (h : ∀ v' w', Hid (OwnL base w' v' (xs ++ l)) → Hid (w.grownBy w' v.ownBlock) → K (a.put o.dst v') w') : if Region.wanted o (yielded ops a.tmps) = true then Oper.wp Tryd.prog o a w K Q else E := by
  obtain ⟨i0, hi, hz0, hz1, hz2⟩ := info_partsM infoU8
  have hw : Region.wanted o (yielded ops a.tmps) = true := by simp [Region.wanted, hgd]
  rw [if_pos hw]
  have hb' := hb
  obtain ⟨_, y, cap, rfl, _, _, hnil, hc⟩ := hb
  cases y with
  | none =>
    have h0 : l = [] := by
      cases l with
      | nil => rfl
      | cons z l => obtain ⟨b, off, e, _⟩ := hc 0 (by simp); cases e
    subst h0
    obtain rfl := hnil rfl
    have hrun := run_append_owned_none (P := Tryd.prog) (w := w) base 78 o.type 5 i0 1 Tryd.underlying78 hi v xs.length (byteVals xs) hown
    have := h v w (Lib.hid (by simpa using hown)) (Lib.hid ⟨rfl, rfl, rfl, Nat.le_refl _, fun _ _ _ => rfl⟩)
    unfold Oper.wp
    simp [execOp, ho, resolve, invoke, builtin, hs, hx, hrun, Result.andThen]
    exact this
  | some ad =>
    refine wp_append_own w s x 78 ho base 5 i0 (.int .u8 0) 1 1 Tryd.underlying78 hi hz0 hz1 hz2 rfl (by decide) v xs.length (byteVals xs) hs hown ad l.length cap (byteVals l) hx (by simp [byteVals]) (bytes_vals hb') ?_ (by unfold maxLen; omega) (by omega) hbase (fun v' w' h1 h2 h3 => h v' w' (Lib.hid (by unfold OwnL; simpa [byteVals] using h1)) (Lib.hid h2))
    intro u hu
    simp only [byteVals, List.mem_map] at hu
    obtain ⟨z, _, rfl⟩ := hu
    rfl

theorem OwnL.low {base b2 : Nat} {w : World} {v : Value} {l : List Nat} (h : OwnL base w v l) (hb : b2 ≤ base) : OwnL b2 w v l := by
  obtain ⟨h1, h2⟩ := h
  refine ⟨h1, ?_⟩
  rcases h2 with h2 | ⟨g, cap, cur, e, hg, r⟩
  · exact .inl h2
  · exact .inr ⟨g, cap, cur, e, Nat.le_trans hb hg, r⟩
theorem step_sto_bs {ops : Array Oper} {o : Oper} {a : Act} {w : World} {K : Act → World → Prop} {Q : Exit → Act → World → Prop} {E : Prop} {T : TypeId} {n : Nat} (hi : (Tryd.prog.info? T).map (·.size) = some n) (g : Nat) (l : List Int) (hl : l.length = n) (old : Array Value) (h : Blk w g T old) (hold : old.size = n) (hw : Region.wanted o (yielded ops a.tmps) = true) (x y : Operand) (ho : o.op = .store T x y)
    (hx : a.eval x = .pointer (some ⟨g, 0, none⟩)) (hy : a.eval y = .agg (bsC l)) (hk : K (a.put o.dst undef) (w.setRow g (bsC l))) : if Region.wanted o (yielded ops a.tmps) = true then Oper.wp Tryd.prog o a w K Q else E := by
  rw [if_pos hw]
  exact wp_store_row T x y ho g _ hx hy _ _ h (by rw [bsC_size, hl]; exact hi) (by rw [hold, bsC_size, hl]) (bsC_one l) hk


set_option maxRecDepth 100000 in
set_option maxHeartbeats 4000000 in
theorem rSecret_any (seed : List Nat) (hv : seed.length = 32) (hvb : ∀ x ∈ seed, x < 256) (leaf c : Nat) (hl : leaf ≤ 65535) (hc : c ≤ 34) (w : World) : Calls Tryd.prog 19 #[.agg (bsC (nI seed)), .int .i64 leaf, .int .i64 c] w fun e w' => e = .returned (.agg (bsC (nI (S7.sec seed leaf c)))) ∧ Below w.heap.size w w' := by
  obtain ⟨D, hD⟩ : ∃ D, D = nI seed := ⟨_, rfl⟩
  obtain ⟨V, hV⟩ : ∃ V, V = nI (S7.sec seed leaf c) := ⟨_, rfl⟩
  have HVL := Lib.hid (show V.length = 16 by rw [hV, nI_len]; exact S7.half_len _)
  have HVE := Lib.hid hV
  have HLT := Lib.hid (S7.app_lt (S7.app_lt (S7.hd_lt 2 leaf (by omega) hl) (S7.one_lt (show c < 256 by omega))) hvb)
  have hlen : (S7.hd 2 leaf ++ [c] ++ seed).length ≤ 100000000 := by rw [List.length_append, List.length_append, hv]; show 5 + _ + _ ≤ _; simp
  have HHF := Lib.hid (show ∀ (x9 : Value) (W : World), Bytes W x9 (S7.hd 2 leaf ++ [c] ++ seed) → Calls Tryd.prog 40 #[x9] W fun e w' => e = .returned (.agg (bsC V)) ∧ Below W.heap.size W w' from fun x9 W h => by rw [hV]; exact rHalf_any x9 _ hlen W h)
  have HHD := Lib.hid (fun W => head_any 2 leaf hl W)
  have HC := Lib.hid (fun W => bytes_new W [c] (0, 0) (S7.one_lt (show c < 256 by omega)) (by unfold maxLen; simp))
  have HSB := Lib.hid (fun (W : World) g t h => bytes_arr (w := W) (g := g) (t := t) seed hvb hv (by unfold maxLen; omega) h)
  have HL1 := Lib.hid (show (S7.hd 2 leaf).length + [c].length ≤ 1000000000 by simp [S7.hd])
  have HL2 := Lib.hid (show (S7.hd 2 leaf ++ [c]).length + seed.length ≤ 1000000000 by rw [hv]; simp [S7.hd])
  have hcI : (c : Int) ≤ 34 := by omega
  have q1 : IntKind.u8.wrap (c : Int) = (c : Int) := by simp [IntKind.wrap, IntKind.bits, IntKind.signed]; omega
  rw [← hD] at HSB ⊢
  clear hD hV hlen hv hvb
  go_enter Tryd.func19, Tryd.ntmps19
  go_upto_region 1 with (fail)
  change Code.wp Tryd.prog _ _ _ ((w.alloc (.cells (bsC D) 31)).alloc (.cells (bsC z16) 36))
  generalize hW0 : (w.alloc (.cells (bsC D) 31)).alloc (.cells (bsC z16) 36) = W0
  obtain ⟨hb1, hb2, hB0⟩ := boxes2 w hW0
  have K0 := Lib.hid (show Blk W0.drew _ _ _ from hb1.draw); have R0 := Lib.hid (show Blk W0.drew _ _ _ from hb2.draw); have BW := Lib.hid (show Below w.heap.size w W0.drew from hB0.drew); have B0 := Lib.hid (Below.refl W0.drew.heap.size W0.drew)
  clear hW0 hb1 hb2 hB0
  generalize hWd : W0.drew = Wd at *
  refine wp_region_held_drew (S := fun _ => True) (by kernel_rfl) ?_ (fun hHeld => ?_)
  · trivial
  rw [hWd]
  clear hWd
  refine wpAnyH_take (i := 0) (v := ?_) rfl (by kernel_rfl) (by kernel_rfl) (by kernel_rfl) (fun _ _ _ h => h) (Or.inl ⟨by rfl, ?_⟩) (by assumption) ?_
  rotate_left
  · (intro w9 _; go_simp; try with_reducible rfl)
  simp only [Act.put, List.getElem_toArray, List.getElem_cons_zero, List.setIfInBounds_toArray, List.set_cons_succ, List.set_cons_zero]
  refine wpAnyH_take (i := 2) (v := ?_) rfl (by kernel_rfl) (by kernel_rfl) (by kernel_rfl) (fun _ _ _ h => h) (Or.inl ⟨by rfl, ?_⟩) (by assumption) ?_
  rotate_left
  · (intro w9 _; go_simp; try with_reducible rfl)
  simp only [Act.put, List.getElem_toArray, List.getElem_cons_succ, List.getElem_cons_zero, List.setIfInBounds_toArray, List.set_cons_succ, List.set_cons_zero]
  refine wpAnyH_take (i := 3) (v := ?_) rfl (by kernel_rfl) (by kernel_rfl) (by kernel_rfl) (fun _ _ _ h => h) (Or.inl ⟨by rfl, ?_⟩) (by assumption) ?_
  rotate_left
  · (intro w9 _; go_simp; try with_reducible rfl)
  simp only [Act.put, List.getElem_toArray, List.getElem_cons_succ, List.getElem_cons_zero, List.setIfInBounds_toArray, List.set_cons_succ, List.set_cons_zero]
  refine wpAnyH_take (i := 6) (v := ?_) rfl (by kernel_rfl) (by kernel_rfl) (by kernel_rfl) (fun _ _ _ h => h) (Or.inl ⟨by rfl, ?_⟩) (by assumption) ?_
  rotate_left
  · (intro w9 _; go_simp; try with_reducible rfl)
  simp only [Act.put, List.getElem_toArray, List.getElem_cons_succ, List.getElem_cons_zero, List.setIfInBounds_toArray, List.set_cons_succ, List.set_cons_zero]
  refine wpAnyH_ready (rs := [1, 4]) (by kernel_rfl) (by simp) ?_
  refine AllReadyH.cons rfl (fun K hK => ?_) (AllReadyH.cons rfl (fun K hK => ?_) AllReadyH.nil)
  · skip
    go_simp
    refine (HHD.out _).mono ?_
    rintro e w1 ⟨v1, rfl, ho, hb⟩
    have B_1 := Lib.hid (B0.out.trans (hb.mono B0.out.size))
    have O_1 := Lib.hid (OwnL.low ho B0.out.size)
    clear ho hb
    refine hK.out _ _ trivial (fun hHeld => ?_)
    clear hK K
    refine wpAnyH_ready (rs := [4]) (by kernel_rfl) (by simp) ?_
    refine AllReadyH.cons rfl (fun K hK => ?_) AllReadyH.nil
    · skip
      go_simp
      change K _ (w1.alloc (.cells #[.int .u8 c] 5))
      obtain ⟨w2, hw2⟩ : ∃ W, W = w1.alloc (.cells #[.int .u8 c] 5) := ⟨_, rfl⟩
      rw [← hw2]
      have Y_2 := Lib.hid (show Bytes w2 (.slice (some ⟨w1.heap.size, 0, none⟩) 1 1) [c] by rw [hw2]; exact HC.out _)
      have B_2 := Lib.hid (show Below Wd.heap.size Wd w2 by rw [hw2]; exact B_1.out.alloc B_1.out.size _)
      have O_2 := Lib.hid (show OwnL Wd.heap.size w2 _ _ by rw [hw2]; exact O_1.out.more _)
      clear hw2
      refine hK.out _ _ trivial (fun hHeld => ?_)
      clear hK K
      refine wpAnyH_ready (rs := [5]) (by kernel_rfl) (by simp) ?_
      refine AllReadyH.cons rfl (fun K hK => ?_) AllReadyH.nil
      · skip
        refine step_append_bytes rfl _ _ rfl Wd.heap.size v1 _ (by rfl) O_2.out (.slice (some ⟨w1.heap.size, 0, none⟩) 1 1) [c] (by rfl) Y_2.out HL1.out B_2.out.size ?_
        intro v3 w3 ho hg
        have B_3 := Lib.hid (OwnL.grown O_2.out hg.out B_2.out B_2.out.size (Nat.le_refl _))
        have O_3 := ho
        clear ho hg
        refine hK.out _ _ trivial (fun hHeld => ?_)
        clear hK K
        refine wpAnyH_ready (rs := [7]) (by kernel_rfl) (by simp) ?_
        refine AllReadyH.cons rfl (fun K hK => ?_) AllReadyH.nil
        · skip
          refine step_append_bytes rfl _ _ rfl Wd.heap.size v3 _ (by rfl) O_3.out (.slice (some ⟨w.heap.size, 0, none⟩) 32 32) seed (by rfl) (HSB.out _ _ _ (K0.out.keep B_3.out K0.out.lt)) HL2.out B_3.out.size ?_
          intro v4 w4 ho hg
          have B_4 := Lib.hid (OwnL.grown O_3.out hg.out B_3.out B_3.out.size (Nat.le_refl _))
          have O_4 := ho
          clear ho hg
          refine hK.out _ _ trivial (fun hHeld => ?_)
          clear hK K
          refine wpAnyH_ready (rs := [8]) (by kernel_rfl) (by simp) ?_
          refine AllReadyH.cons rfl (fun K hK => ?_) AllReadyH.nil
          · skip
            go_simp
            refine (HHF.out _ _ (O_4.out.bytes HLT.out)).mono ?_
            rintro e w5 ⟨rfl, hb⟩
            have B_5 := Lib.hid (B_4.out.trans (hb.mono B_4.out.size))
            clear hb
            refine hK.out _ _ trivial (fun hHeld => ?_)
            clear hK K
            refine wpAnyH_ready (rs := [9]) (by kernel_rfl) (by simp) ?_
            refine AllReadyH.cons rfl (fun K hK => ?_) AllReadyH.nil
            · skip
              refine step_sto_bs infoRV (w.heap.size + 1) V HVL.out _ (R0.out.keep B_5.out R0.out.lt) (by rw [bsC_size]; exact z16_len) (by rfl) _ _ rfl (by rfl) (by rfl) ?_
              obtain ⟨w6, hw6⟩ : ∃ W, W = w5.setRow (w.heap.size + 1) (bsC V) := ⟨_, rfl⟩
              rw [← hw6]
              have R_6 := Lib.hid (show Blk w6 (w.heap.size + 1) 36 (bsC V) by rw [hw6]; exact (R0.out.keep B_5.out R0.out.lt).row _)
              have F_6 := Lib.hid (show Below w.heap.size w w6 by rw [hw6]; exact below_row (BW.out.trans (B_5.out.mono BW.out.size)) _ (by omega) _)
              clear hw6
              refine hK.out _ _ trivial (fun hHeld => ?_)
              clear hK K
              refine wpAnyH_done (by kernel_rfl) ?_ _
              go_wp2_with fail
              exact bodyPost_ret (results_cell_row rfl _ _ (w.heap.size + 1) _ _ _ _ rfl R_6.out Tryd.underlying36 rfl (by rw [bsC_size, HVL.out]; exact infoRV)) rfl ⟨by rw [HVE.out], F_6.out⟩
  · skip
    go_simp
    change K _ (Wd.alloc (.cells #[.int .u8 c] 5))
    obtain ⟨w7, hw7⟩ : ∃ W, W = Wd.alloc (.cells #[.int .u8 c] 5) := ⟨_, rfl⟩
    rw [← hw7]
    have Y_7 := Lib.hid (show Bytes w7 (.slice (some ⟨Wd.heap.size, 0, none⟩) 1 1) [c] by rw [hw7]; exact HC.out _)
    have B_7 := Lib.hid (show Below Wd.heap.size Wd w7 by rw [hw7]; exact B0.out.alloc B0.out.size _)
    clear hw7
    refine hK.out _ _ trivial (fun hHeld => ?_)
    clear hK K
    refine wpAnyH_ready (rs := [1]) (by kernel_rfl) (by simp) ?_
    refine AllReadyH.cons rfl (fun K hK => ?_) AllReadyH.nil
    · skip
      go_simp
      refine (HHD.out _).mono ?_
      rintro e w8 ⟨v8, rfl, ho, hb⟩
      have B_8 := Lib.hid (B_7.out.trans (hb.mono B_7.out.size))
      have O_8 := Lib.hid (OwnL.low ho B_7.out.size)
      have Y_8 := Lib.hid (Y_7.out.below hb)
      clear ho hb
      refine hK.out _ _ trivial (fun hHeld => ?_)
      clear hK K
      refine wpAnyH_ready (rs := [5]) (by kernel_rfl) (by simp) ?_
      refine AllReadyH.cons rfl (fun K hK => ?_) AllReadyH.nil
      · skip
        refine step_append_bytes rfl _ _ rfl Wd.heap.size v8 _ (by rfl) O_8.out (.slice (some ⟨Wd.heap.size, 0, none⟩) 1 1) [c] (by rfl) Y_8.out HL1.out B_8.out.size ?_
        intro v9 w9 ho hg
        have B_9 := Lib.hid (OwnL.grown O_8.out hg.out B_8.out B_8.out.size (Nat.le_refl _))
        have O_9 := ho
        clear ho hg
        refine hK.out _ _ trivial (fun hHeld => ?_)
        clear hK K
        refine wpAnyH_ready (rs := [7]) (by kernel_rfl) (by simp) ?_
        refine AllReadyH.cons rfl (fun K hK => ?_) AllReadyH.nil
        · skip
          refine step_append_bytes rfl _ _ rfl Wd.heap.size v9 _ (by rfl) O_9.out (.slice (some ⟨w.heap.size, 0, none⟩) 32 32) seed (by rfl) (HSB.out _ _ _ (K0.out.keep B_9.out K0.out.lt)) HL2.out B_9.out.size ?_
          intro v10 w10 ho hg
          have B_10 := Lib.hid (OwnL.grown O_9.out hg.out B_9.out B_9.out.size (Nat.le_refl _))
          have O_10 := ho
          clear ho hg
          refine hK.out _ _ trivial (fun hHeld => ?_)
          clear hK K
          refine wpAnyH_ready (rs := [8]) (by kernel_rfl) (by simp) ?_
          refine AllReadyH.cons rfl (fun K hK => ?_) AllReadyH.nil
          · skip
            go_simp
            refine (HHF.out _ _ (O_10.out.bytes HLT.out)).mono ?_
            rintro e w11 ⟨rfl, hb⟩
            have B_11 := Lib.hid (B_10.out.trans (hb.mono B_10.out.size))
            clear hb
            refine hK.out _ _ trivial (fun hHeld => ?_)
            clear hK K
            refine wpAnyH_ready (rs := [9]) (by kernel_rfl) (by simp) ?_
            refine AllReadyH.cons rfl (fun K hK => ?_) AllReadyH.nil
            · skip
              refine step_sto_bs infoRV (w.heap.size + 1) V HVL.out _ (R0.out.keep B_11.out R0.out.lt) (by rw [bsC_size]; exact z16_len) (by rfl) _ _ rfl (by rfl) (by rfl) ?_
              obtain ⟨w12, hw12⟩ : ∃ W, W = w11.setRow (w.heap.size + 1) (bsC V) := ⟨_, rfl⟩
              rw [← hw12]
              have R_12 := Lib.hid (show Blk w12 (w.heap.size + 1) 36 (bsC V) by rw [hw12]; exact (R0.out.keep B_11.out R0.out.lt).row _)
              have F_12 := Lib.hid (show Below w.heap.size w w12 by rw [hw12]; exact below_row (BW.out.trans (B_11.out.mono BW.out.size)) _ (by omega) _)
              clear hw12
              refine hK.out _ _ trivial (fun hHeld => ?_)
              clear hK K
              refine wpAnyH_done (by kernel_rfl) ?_ _
              go_wp2_with fail
              exact bodyPost_ret (results_cell_row rfl _ _ (w.heap.size + 1) _ _ _ _ rfl R_12.out Tryd.underlying36 rfl (by rw [bsC_size, HVL.out]; exact infoRV)) rfl ⟨by rw [HVE.out], F_12.out⟩

set_option maxRecDepth 100000 in
set_option maxHeartbeats 4000000 in
theorem rStep_any (leaf c k : Nat) (v : List Nat) (hv : v.length = 16) (hvb : ∀ x ∈ v, x < 256) (hl : leaf ≤ 65535) (hc : c ≤ 34) (hk : k ≤ 15) (w : World) : Calls Tryd.prog 22 #[.int .i64 leaf, .int .i64 c, .int .i64 k, .agg (bsC (nI v))] w fun e w' => e = .returned (.agg (bsC (nI (S7.step leaf c k v)))) ∧ Below w.heap.size w w' := by
  obtain ⟨D, hD⟩ : ∃ D, D = nI v := ⟨_, rfl⟩
  obtain ⟨V, hV⟩ : ∃ V, V = nI (S7.step leaf c k v) := ⟨_, rfl⟩
  have HVL := Lib.hid (show V.length = 16 by rw [hV, nI_len]; exact S7.half_len _)
  have HVE := Lib.hid hV
  have HLT := Lib.hid (S7.app_lt (S7.app_lt (S7.hd_lt 3 leaf (by omega) hl) (S7.two_lt (show c < 256 by omega) (show k < 256 by omega))) hvb)
  have hlen : (S7.hd 3 leaf ++ [c, k] ++ v).length ≤ 100000000 := by rw [List.length_append, List.length_append, hv]; show 5 + _ + _ ≤ _; simp
  have HHF := Lib.hid (show ∀ (x9 : Value) (W : World), Bytes W x9 (S7.hd 3 leaf ++ [c, k] ++ v) → Calls Tryd.prog 40 #[x9] W fun e w' => e = .returned (.agg (bsC V)) ∧ Below W.heap.size W w' from fun x9 W h => by rw [hV]; exact rHalf_any x9 _ hlen W h)
  have HHD := Lib.hid (fun W => head_any 3 leaf hl W)
  have HC := Lib.hid (fun W => bytes_new W [c, k] (0, 0) (S7.two_lt (show c < 256 by omega) (show k < 256 by omega)) (by unfold maxLen; simp))
  have HSB := Lib.hid (fun (W : World) g t h => bytes_arr (w := W) (g := g) (t := t) v hvb hv (by unfold maxLen; omega) h)
  have HL1 := Lib.hid (show (S7.hd 3 leaf).length + [c, k].length ≤ 1000000000 by simp [S7.hd])
  have HL2 := Lib.hid (show (S7.hd 3 leaf ++ [c, k]).length + v.length ≤ 1000000000 by rw [hv]; simp [S7.hd])
  have hcI : (c : Int) ≤ 34 := by omega
  have q1 : IntKind.u8.wrap (c : Int) = (c : Int) := by simp [IntKind.wrap, IntKind.bits, IntKind.signed]; omega
  have hkI : (k : Int) ≤ 15 := by omega
  have q2 : IntKind.u8.wrap (k : Int) = (k : Int) := by simp [IntKind.wrap, IntKind.bits, IntKind.signed]; omega
  rw [← hD] at HSB ⊢
  clear hD hV hlen hv hvb
  go_enter Tryd.func22, Tryd.ntmps22
  go_upto_region 1 with (fail)
  change Code.wp Tryd.prog _ _ _ ((w.alloc (.cells (bsC D) 36)).alloc (.cells (bsC z16) 36))
  generalize hW0 : (w.alloc (.cells (bsC D) 36)).alloc (.cells (bsC z16) 36) = W0
  obtain ⟨hb1, hb2, hB0⟩ := boxes2 w hW0
  have K0 := Lib.hid (show Blk W0.drew _ _ _ from hb1.draw); have R0 := Lib.hid (show Blk W0.drew _ _ _ from hb2.draw); have BW := Lib.hid (show Below w.heap.size w W0.drew from hB0.drew); have B0 := Lib.hid (Below.refl W0.drew.heap.size W0.drew)
  clear hW0 hb1 hb2 hB0
  generalize hWd : W0.drew = Wd at *
  refine wp_region_held_drew (S := fun _ => True) (by kernel_rfl) ?_ (fun hHeld => ?_)
  · trivial
  rw [hWd]
  clear hWd
  refine wpAnyH_take (i := 0) (v := ?_) rfl (by kernel_rfl) (by kernel_rfl) (by kernel_rfl) (fun _ _ _ h => h) (Or.inl ⟨by rfl, ?_⟩) (by assumption) ?_
  rotate_left
  · (intro w9 _; go_simp; try with_reducible rfl)
  simp only [Act.put, List.getElem_toArray, List.getElem_cons_zero, List.setIfInBounds_toArray, List.set_cons_succ, List.set_cons_zero]
  refine wpAnyH_take (i := 2) (v := ?_) rfl (by kernel_rfl) (by kernel_rfl) (by kernel_rfl) (fun _ _ _ h => h) (Or.inl ⟨by rfl, ?_⟩) (by assumption) ?_
  rotate_left
  · (intro w9 _; go_simp; try with_reducible rfl)
  simp only [Act.put, List.getElem_toArray, List.getElem_cons_succ, List.getElem_cons_zero, List.setIfInBounds_toArray, List.set_cons_succ, List.set_cons_zero]
  refine wpAnyH_take (i := 3) (v := ?_) rfl (by kernel_rfl) (by kernel_rfl) (by kernel_rfl) (fun _ _ _ h => h) (Or.inl ⟨by rfl, ?_⟩) (by assumption) ?_
  rotate_left
  · (intro w9 _; go_simp; try with_reducible rfl)
  simp only [Act.put, List.getElem_toArray, List.getElem_cons_succ, List.getElem_cons_zero, List.setIfInBounds_toArray, List.set_cons_succ, List.set_cons_zero]
  refine wpAnyH_take (i := 4) (v := ?_) rfl (by kernel_rfl) (by kernel_rfl) (by kernel_rfl) (fun _ _ _ h => h) (Or.inl ⟨by rfl, ?_⟩) (by assumption) ?_
  rotate_left
  · (intro w9 _; go_simp; try with_reducible rfl)
  simp only [Act.put, List.getElem_toArray, List.getElem_cons_succ, List.getElem_cons_zero, List.setIfInBounds_toArray, List.set_cons_succ, List.set_cons_zero]
  refine wpAnyH_take (i := 5) (v := ?_) rfl (by kernel_rfl) (by kernel_rfl) (by kernel_rfl) (fun _ _ _ h => h) (Or.inl ⟨by rfl, ?_⟩) (by assumption) ?_
  rotate_left
  · (intro w9 _; go_simp; try with_reducible rfl)
  simp only [Act.put, List.getElem_toArray, List.getElem_cons_succ, List.getElem_cons_zero, List.setIfInBounds_toArray, List.set_cons_succ, List.set_cons_zero]
  refine wpAnyH_take (i := 8) (v := ?_) rfl (by kernel_rfl) (by kernel_rfl) (by kernel_rfl) (fun _ _ _ h => h) (Or.inl ⟨by rfl, ?_⟩) (by assumption) ?_
  rotate_left
  · (intro w9 _; go_simp; try with_reducible rfl)
  simp only [Act.put, List.getElem_toArray, List.getElem_cons_succ, List.getElem_cons_zero, List.setIfInBounds_toArray, List.set_cons_succ, List.set_cons_zero]
  refine wpAnyH_ready (rs := [1, 6]) (by kernel_rfl) (by simp) ?_
  refine AllReadyH.cons rfl (fun K hK => ?_) (AllReadyH.cons rfl (fun K hK => ?_) AllReadyH.nil)
  · skip
    go_simp
    refine (HHD.out _).mono ?_
    rintro e w1 ⟨v1, rfl, ho, hb⟩
    have B_1 := Lib.hid (B0.out.trans (hb.mono B0.out.size))
    have O_1 := Lib.hid (OwnL.low ho B0.out.size)
    clear ho hb
    refine hK.out _ _ trivial (fun hHeld => ?_)
    clear hK K
    refine wpAnyH_ready (rs := [6]) (by kernel_rfl) (by simp) ?_
    refine AllReadyH.cons rfl (fun K hK => ?_) AllReadyH.nil
    · skip
      go_simp
      change K _ (w1.alloc (.cells #[.int .u8 c, .int .u8 k] 5))
      obtain ⟨w2, hw2⟩ : ∃ W, W = w1.alloc (.cells #[.int .u8 c, .int .u8 k] 5) := ⟨_, rfl⟩
      rw [← hw2]
      have Y_2 := Lib.hid (show Bytes w2 (.slice (some ⟨w1.heap.size, 0, none⟩) 2 2) [c, k] by rw [hw2]; exact HC.out _)
      have B_2 := Lib.hid (show Below Wd.heap.size Wd w2 by rw [hw2]; exact B_1.out.alloc B_1.out.size _)
      have O_2 := Lib.hid (show OwnL Wd.heap.size w2 _ _ by rw [hw2]; exact O_1.out.more _)
      clear hw2
      refine hK.out _ _ trivial (fun hHeld => ?_)
      clear hK K
      refine wpAnyH_ready (rs := [7]) (by kernel_rfl) (by simp) ?_
      refine AllReadyH.cons rfl (fun K hK => ?_) AllReadyH.nil
      · skip
        refine step_append_bytes rfl _ _ rfl Wd.heap.size v1 _ (by rfl) O_2.out (.slice (some ⟨w1.heap.size, 0, none⟩) 2 2) [c, k] (by rfl) Y_2.out HL1.out B_2.out.size ?_
        intro v3 w3 ho hg
        have B_3 := Lib.hid (OwnL.grown O_2.out hg.out B_2.out B_2.out.size (Nat.le_refl _))
        have O_3 := ho
        clear ho hg
        refine hK.out _ _ trivial (fun hHeld => ?_)
        clear hK K
        refine wpAnyH_ready (rs := [9]) (by kernel_rfl) (by simp) ?_
        refine AllReadyH.cons rfl (fun K hK => ?_) AllReadyH.nil
        · skip
          refine step_append_bytes rfl _ _ rfl Wd.heap.size v3 _ (by rfl) O_3.out (.slice (some ⟨w.heap.size, 0, none⟩) 16 16) v (by rfl) (HSB.out _ _ _ (K0.out.keep B_3.out K0.out.lt)) HL2.out B_3.out.size ?_
          intro v4 w4 ho hg
          have B_4 := Lib.hid (OwnL.grown O_3.out hg.out B_3.out B_3.out.size (Nat.le_refl _))
          have O_4 := ho
          clear ho hg
          refine hK.out _ _ trivial (fun hHeld => ?_)
          clear hK K
          refine wpAnyH_ready (rs := [10]) (by kernel_rfl) (by simp) ?_
          refine AllReadyH.cons rfl (fun K hK => ?_) AllReadyH.nil
          · skip
            go_simp
            refine (HHF.out _ _ (O_4.out.bytes HLT.out)).mono ?_
            rintro e w5 ⟨rfl, hb⟩
            have B_5 := Lib.hid (B_4.out.trans (hb.mono B_4.out.size))
            clear hb
            refine hK.out _ _ trivial (fun hHeld => ?_)
            clear hK K
            refine wpAnyH_ready (rs := [11]) (by kernel_rfl) (by simp) ?_
            refine AllReadyH.cons rfl (fun K hK => ?_) AllReadyH.nil
            · skip
              refine step_sto_bs infoRV (w.heap.size + 1) V HVL.out _ (R0.out.keep B_5.out R0.out.lt) (by rw [bsC_size]; exact z16_len) (by rfl) _ _ rfl (by rfl) (by rfl) ?_
              obtain ⟨w6, hw6⟩ : ∃ W, W = w5.setRow (w.heap.size + 1) (bsC V) := ⟨_, rfl⟩
              rw [← hw6]
              have R_6 := Lib.hid (show Blk w6 (w.heap.size + 1) 36 (bsC V) by rw [hw6]; exact (R0.out.keep B_5.out R0.out.lt).row _)
              have F_6 := Lib.hid (show Below w.heap.size w w6 by rw [hw6]; exact below_row (BW.out.trans (B_5.out.mono BW.out.size)) _ (by omega) _)
              clear hw6
              refine hK.out _ _ trivial (fun hHeld => ?_)
              clear hK K
              refine wpAnyH_done (by kernel_rfl) ?_ _
              go_wp2_with fail
              exact bodyPost_ret (results_cell_row rfl _ _ (w.heap.size + 1) _ _ _ _ rfl R_6.out Tryd.underlying36 rfl (by rw [bsC_size, HVL.out]; exact infoRV)) rfl ⟨by rw [HVE.out], F_6.out⟩
  · skip
    go_simp
    change K _ (Wd.alloc (.cells #[.int .u8 c, .int .u8 k] 5))
    obtain ⟨w7, hw7⟩ : ∃ W, W = Wd.alloc (.cells #[.int .u8 c, .int .u8 k] 5) := ⟨_, rfl⟩
    rw [← hw7]
    have Y_7 := Lib.hid (show Bytes w7 (.slice (some ⟨Wd.heap.size, 0, none⟩) 2 2) [c, k] by rw [hw7]; exact HC.out _)
    have B_7 := Lib.hid (show Below Wd.heap.size Wd w7 by rw [hw7]; exact B0.out.alloc B0.out.size _)
    clear hw7
    refine hK.out _ _ trivial (fun hHeld => ?_)
    clear hK K
    refine wpAnyH_ready (rs := [1]) (by kernel_rfl) (by simp) ?_
    refine AllReadyH.cons rfl (fun K hK => ?_) AllReadyH.nil
    · skip
      go_simp
      refine (HHD.out _).mono ?_
      rintro e w8 ⟨v8, rfl, ho, hb⟩
      have B_8 := Lib.hid (B_7.out.trans (hb.mono B_7.out.size))
      have O_8 := Lib.hid (OwnL.low ho B_7.out.size)
      have Y_8 := Lib.hid (Y_7.out.below hb)
      clear ho hb
      refine hK.out _ _ trivial (fun hHeld => ?_)
      clear hK K
      refine wpAnyH_ready (rs := [7]) (by kernel_rfl) (by simp) ?_
      refine AllReadyH.cons rfl (fun K hK => ?_) AllReadyH.nil
      · skip
        refine step_append_bytes rfl _ _ rfl Wd.heap.size v8 _ (by rfl) O_8.out (.slice (some ⟨Wd.heap.size, 0, none⟩) 2 2) [c, k] (by rfl) Y_8.out HL1.out B_8.out.size ?_
        intro v9 w9 ho hg
        have B_9 := Lib.hid (OwnL.grown O_8.out hg.out B_8.out B_8.out.size (Nat.le_refl _))
        have O_9 := ho
        clear ho hg
        refine hK.out _ _ trivial (fun hHeld => ?_)
        clear hK K
        refine wpAnyH_ready (rs := [9]) (by kernel_rfl) (by simp) ?_
        refine AllReadyH.cons rfl (fun K hK => ?_) AllReadyH.nil
        · skip
          refine step_append_bytes rfl _ _ rfl Wd.heap.size v9 _ (by rfl) O_9.out (.slice (some ⟨w.heap.size, 0, none⟩) 16 16) v (by rfl) (HSB.out _ _ _ (K0.out.keep B_9.out K0.out.lt)) HL2.out B_9.out.size ?_
          intro v10 w10 ho hg
          have B_10 := Lib.hid (OwnL.grown O_9.out hg.out B_9.out B_9.out.size (Nat.le_refl _))
          have O_10 := ho
          clear ho hg
          refine hK.out _ _ trivial (fun hHeld => ?_)
          clear hK K
          refine wpAnyH_ready (rs := [10]) (by kernel_rfl) (by simp) ?_
          refine AllReadyH.cons rfl (fun K hK => ?_) AllReadyH.nil
          · skip
            go_simp
            refine (HHF.out _ _ (O_10.out.bytes HLT.out)).mono ?_
            rintro e w11 ⟨rfl, hb⟩
            have B_11 := Lib.hid (B_10.out.trans (hb.mono B_10.out.size))
            clear hb
            refine hK.out _ _ trivial (fun hHeld => ?_)
            clear hK K
            refine wpAnyH_ready (rs := [11]) (by kernel_rfl) (by simp) ?_
            refine AllReadyH.cons rfl (fun K hK => ?_) AllReadyH.nil
            · skip
              refine step_sto_bs infoRV (w.heap.size + 1) V HVL.out _ (R0.out.keep B_11.out R0.out.lt) (by rw [bsC_size]; exact z16_len) (by rfl) _ _ rfl (by rfl) (by rfl) ?_
              obtain ⟨w12, hw12⟩ : ∃ W, W = w11.setRow (w.heap.size + 1) (bsC V) := ⟨_, rfl⟩
              rw [← hw12]
              have R_12 := Lib.hid (show Blk w12 (w.heap.size + 1) 36 (bsC V) by rw [hw12]; exact (R0.out.keep B_11.out R0.out.lt).row _)
              have F_12 := Lib.hid (show Below w.heap.size w w12 by rw [hw12]; exact below_row (BW.out.trans (B_11.out.mono BW.out.size)) _ (by omega) _)
              clear hw12
              refine hK.out _ _ trivial (fun hHeld => ?_)
              clear hK K
              refine wpAnyH_done (by kernel_rfl) ?_ _
              go_wp2_with fail
              exact bodyPost_ret (results_cell_row rfl _ _ (w.heap.size + 1) _ _ _ _ rfl R_12.out Tryd.underlying36 rfl (by rw [bsC_size, HVL.out]; exact infoRV)) rfl ⟨by rw [HVE.out], F_12.out⟩

end Go.Proofs.YtgfolgmheinbiaaDoorRRR
