/- The reference's Reply. -/
import Derived.Test.YtnejfhapifpllaaRep
namespace Go.Proofs.Ytnejfhapifpllaa
open Go.RowKit

theorem own_zero_d {T : TypeId} (W : World) (base : Nat) (hb : base ≤ W.heap.size) : OwnI T base (W.alloc (.cells #[] T)).drew (.slice (some ⟨W.heap.size, 0, none⟩) 0 0) [] := own_zero W base hb

set_option maxRecDepth 100000 in
set_option maxHeartbeats 2000000 in
theorem refReply_any (v : Value) (ls : List Mid.Id) (p : Mid.Id) (w : World) (hv : Ids w v ls) :
    Calls Try.prog 23 #[v, .agg (encI p).toArray] w (ReplyPost ls p w) := by
  have HC := Lib.hid (fun W h => refCheck_any v ls W h)
  have HH := Lib.hid (fun W hl h => refHas_any v ls p W hl h)
  have HTR := Lib.hid (fun W u l h1 h => refCut_any u l 20 W (by omega) (by omega) h1 h)
  have HB0 := Lib.hid ((Below.refl w.heap.size w).alloc (Nat.le_refl _) (.cells (encI p).toArray 48))
  have HK0 := Lib.hid (Blk.fresh w 48 (encI p).toArray)
  have V0 := Lib.hid (hv.below HB0.out)
  obtain ⟨q, cap, rfl, hlc, hcm, _, _⟩ := hv
  have HR := Lib.hid (show Mid.replyE ls p = if Mid.chk ls ≠ 0 then ([], Mid.chk ls) else if p = default then ([], 1) else if p ∈ ls then ([], 7) else (Mid.cutL (ls ++ [p]) 20, 0) from rfl)
  have HCH := Lib.hid (fun h => Mid.chk_len (l := ls) h)
  obtain ⟨n, hn⟩ : ∃ n, n = ls.length := ⟨_, rfl⟩
  rw [← hn] at HH HC V0 ⊢
  have HLN := Lib.hid hn
  have hip := info_enc infoRid p
  have hle := encI_len p
  have hu : Try.prog.underlying 48 = some (.array 32 5) := Try.underlying48
  have heq := fun w => eq_enc (t := 48) hu p default w
  generalize hch : Mid.chk ls = c at *
  clear hlc hcm hn
  go_enter Try.func23, Try.ntmps23
  go_upto_region 1 with (fail)
  obtain ⟨W0, hW0⟩ : ∃ W0, W0 = w.alloc (.cells (encI p).toArray 48) := ⟨_, rfl⟩
  rw [← hW0] at HB0 HK0 V0 ⊢
  clear hW0 hch
  go_wp2_with fail
  refine (HC.out _ V0.out).mono ?_
  rintro e w1 ⟨rfl, hb1⟩
  have B_1 := Lib.hid (HB0.out.trans (hb1.mono HB0.out.size))
  have V_1 := Lib.hid (V0.out.below hb1)
  have K_1 := Lib.hid (HK0.out.keep hb1 HK0.out.lt)
  clear hb1 
  by_cases h1 : c = 0
  rotate_left
  · have hI : ¬ (c : Int) = 0 := by omega
    have hr := HR.out
    rw [if_pos h1] at hr
    have HR2 := Lib.hid hr
    clear hr h1
    go_wp2_with fail
    go_ret2
    exact ⟨_, [], c, rfl, HR2.out, Ids.nil _, B_1.out⟩
  have hr := HR.out
  rw [if_neg (by omega)] at hr
  have HR := Lib.hid hr
  subst h1
  have HL := Lib.hid (HCH.out rfl)
  clear hr HCH HC
  by_cases h1 : p = default
  · rw [decide_eq_true h1] at heq
    have hr := HR.out
    rw [if_pos h1] at hr
    have HR2 := Lib.hid hr
    clear hr h1
    go_wp2_with (first
      | (refine wpList_load_mid rfl _ _ rfl w.heap.size 0 (by rfl) (encI p) _ (encBlk K_1.out) hu rfl hip ?_)
      | (refine wp_build_R rfl rfl ?_))
    go_ret2
    exact ⟨_, [], 1, rfl, HR2.out, Ids.nil _, B_1.out⟩
  rw [decide_eq_false h1] at heq
  have hr := HR.out
  rw [if_neg h1] at hr
  have HR := Lib.hid hr
  clear hr h1
  go_wp2_with (first
    | (refine wpList_load_mid rfl _ _ rfl w.heap.size 0 (by rfl) (encI p) _ (encBlk K_1.out) hu rfl hip ?_)
    | (refine wp_build_R rfl rfl ?_))
  refine (HH.out _ (by have := HLN.out; have := HL.out; omega) V_1.out).mono ?_
  rintro e w2 ⟨rfl, hb2⟩
  have B_2 := Lib.hid (B_1.out.trans (hb2.mono B_1.out.size))
  have V_2 := Lib.hid (V_1.out.below hb2)
  have K_2 := Lib.hid (K_1.out.keep hb2 K_1.out.lt)
  clear hb2 
  clear heq
  by_cases hm : p ∈ ls
  · rw [decide_eq_true hm]
    have hr := HR.out
    rw [if_pos hm] at hr
    have HR2 := Lib.hid hr
    clear hr hm
    go_wp2_with fail
    go_ret2
    exact ⟨_, [], 7, rfl, HR2.out, Ids.nil _, B_2.out⟩
  rw [decide_eq_false hm]
  have hr := HR.out
  rw [if_neg hm] at hr
  have HR := Lib.hid hr
  clear hr hm
  go_wp2_with fail
  have B9 := B_2; have K9 := K_2; have V9 := V_2
  generalize w2 = w9 at *
  obtain ⟨q9, hq9⟩ : ∃ q9, q9 = w9.heap.size := ⟨_, rfl⟩
  have QA := Lib.hid (show q9 ≤ w9.heap.size by rw [hq9]; exact Nat.le_refl _)
  have QB := Lib.hid (show w9.heap.size ≤ q9 by rw [hq9]; exact Nat.le_refl _)
  clear hq9
  have HS := Lib.hid (fun W (hb : Below w9.heap.size w9 W) => encBlk (K9.out.keep hb K9.out.lt))
  refine wp_region_held_drew (S := (fun w' => w'.rangeAt w.heap.size 0 (encI p))) (by kernel_rfl) ?_ (fun hHeld => ?_)
  · exact (HS.out _ (Below.refl _ w9).drew)
  refine wpAnyH_take (i := 1) (v := ?_) rfl (by kernel_rfl) (by kernel_rfl) (by kernel_rfl) (fun _ _ _ h => h) (Or.inl ⟨by rfl, ?_⟩) (by assumption) ?_
  rotate_left
  · (intro w9 _; go_simp; try with_reducible rfl)
  simp only [Act.put, List.getElem_toArray, List.getElem_cons_succ, List.getElem_cons_zero, List.setIfInBounds_toArray, List.set_cons_succ, List.set_cons_zero]
  refine wpAnyH_take (i := 3) (v := .agg (encI p).toArray) rfl (by kernel_rfl) (by kernel_rfl) (by kernel_rfl) (fun _ _ _ h => h) (yieldsIf_load_mid (by rfl) _ _ rfl _ _ rfl (encI p) _ (fun _ h => h) hu rfl hip) (by assumption) ?_
  simp only [Act.put, List.getElem_toArray, List.getElem_cons_succ, List.getElem_cons_zero, List.setIfInBounds_toArray, List.set_cons_succ, List.set_cons_zero]
  refine wpAnyH_ready (rs := [0, 4]) (by kernel_rfl) (by simp) ?_
  refine AllReadyH.cons rfl (fun K hK => ?_) (AllReadyH.cons rfl (fun K hK => ?_) AllReadyH.nil)
  · go_simp
    have Ou0 := Lib.hid (show OwnI 48 q9 (w9.alloc (.cells #[] 48)).drew (.slice (some ⟨w9.heap.size, 0, none⟩) 0 0) [] from own_zero_d w9 _ QA.out)
    have Fu0 := Lib.hid (show Below w9.heap.size w9 (w9.alloc (.cells #[] 48)).drew from ((Below.refl _ w9).alloc (Nat.le_refl _) _).drew)
    obtain ⟨go, hgo⟩ : ∃ g, g = w9.heap.size := ⟨_, rfl⟩
    rw [← hgo] at Ou0 ⊢
    clear hgo
    generalize (w9.alloc (.cells #[] 48)).drew = u0 at *
    refine hK.out _ _ (HS.out _ Fu0.out) (fun hHeld => ?_)
    clear hK K
    refine wpAnyH_ready (rs := [2, 4]) (by kernel_rfl) (by simp) ?_
    refine AllReadyH.cons rfl (fun K hK => ?_) (AllReadyH.cons rfl (fun K hK => ?_) AllReadyH.nil)
    · refine step_appR (by rfl) _ _ rfl q9 (.slice (some ⟨go, 0, none⟩) 0 0) [] (by rfl) Ou0.out _ ls (by rfl) (V9.out.below Fu0.out) (by have := HLN.out; have := HL.out; simp; omega) (Nat.le_trans QA.out Fu0.out.size) ?_
      intro vu1 u1 Ou1 Gu1
      have Fu1 := Lib.hid (Fu0.out.grown Gu1.out Fu0.out.size (fun j hj => Nat.le_trans QB.out (Ou0.out.lt j hj).1))
      refine hK.out _ _ (HS.out _ Fu1.out) (fun hHeld => ?_)
      clear hK K
      refine wpAnyH_ready (rs := [4]) (by kernel_rfl) (by simp) ?_
      refine AllReadyH.cons rfl (fun K hK => ?_) AllReadyH.nil
      go_simp
      rw [fold_enc p]
      have Xu2 := Lib.hid (show Blk (u1.alloc (.cells (encI p).toArray 48)) u1.heap.size 48 (encI p).toArray from Blk.fresh u1 48 (encI p).toArray)
      have Fu2 := Lib.hid (show Below w9.heap.size w9 (u1.alloc (.cells (encI p).toArray 48)) from Fu1.out.alloc Fu1.out.size _)
      have Ou2 := Lib.hid (Ou1.out.alloc (.cells (encI p).toArray 48))
      obtain ⟨gx, hgx⟩ : ∃ g, g = u1.heap.size := ⟨_, rfl⟩
      rw [← hgx] at Xu2 ⊢
      clear hgx
      generalize (u1.alloc (.cells (encI p).toArray 48)) = u2 at *
      refine hK.out _ _ (HS.out _ Fu2.out) (fun hHeld => ?_)
      clear hK K
      refine wpAnyH_ready (rs := [5]) (by kernel_rfl) (by simp) ?_
      refine AllReadyH.cons rfl (fun K hK => ?_) AllReadyH.nil
      refine step_appR (by rfl) _ _ rfl q9 vu1 ([] ++ ls) (by rfl) Ou2.out _ [p] (by rfl) (own_one (base := 0) Xu2.out (Nat.zero_le _)).ids (by have := HLN.out; have := HL.out; simp; omega) (Nat.le_trans QA.out Fu2.out.size) ?_
      intro vu3 u3 Ou3 Gu3
      have Fu3 := Lib.hid (Fu2.out.grown Gu3.out Fu2.out.size (fun j hj => Nat.le_trans QB.out (Ou2.out.lt j hj).1))
      refine hK.out _ _ (HS.out _ Fu3.out) (fun hHeld => ?_)
      clear hK K
      refine wpAnyH_ready (rs := [6]) (by kernel_rfl) (by simp) ?_
      refine AllReadyH.cons rfl (fun K hK => ?_) AllReadyH.nil
      go_simp
      refine (HTR.out _ _ _ (by have := HLN.out; have := HL.out; simp; omega) Ou3.out.ids).mono ?_
      rintro e w4 ⟨v4, rfl, hi4, hb4⟩
      have I4 := Lib.hid hi4; have F4 := Lib.hid (Fu3.out.trans (hb4.mono Fu3.out.size))
      clear hi4 hb4
      refine hK.out _ _ (HS.out _ F4.out) (fun hHeld => ?_)
      clear hK K
      refine wpAnyH_take (i := 7) (v := ?_) rfl (by kernel_rfl) (by kernel_rfl) (by kernel_rfl) (fun _ _ _ h => h) (Or.inl ⟨by rfl, ?_⟩) (by assumption) ?_
      rotate_left
      · (intro w9 _; go_simp; try with_reducible rfl)
      simp only [Act.put, List.getElem_toArray, List.getElem_cons_succ, List.getElem_cons_zero, List.setIfInBounds_toArray, List.set_cons_succ, List.set_cons_zero]
      refine wpAnyH_take (i := 8) (v := ?_) rfl (by kernel_rfl) (by kernel_rfl) (by kernel_rfl) (fun _ _ _ h => h) (Or.inl ⟨by rfl, ?_⟩) (by assumption) ?_
      rotate_left
      · (intro w9 _; go_simp; try with_reducible rfl)
      simp only [Act.put, List.getElem_toArray, List.getElem_cons_succ, List.getElem_cons_zero, List.setIfInBounds_toArray, List.set_cons_succ, List.set_cons_zero]
      refine wpAnyH_done (by kernel_rfl) ?_ _
      clear hHeld
      go_wp2_with fail
      go_ret2
      exact ⟨_, _, 0, rfl, HR.out, (by have h := I4.out; rwa [List.nil_append] at h), B9.out.trans (F4.out.mono B9.out.size)⟩
    · go_simp
      rw [fold_enc p]
      have Xu1 := Lib.hid (show Blk (u0.alloc (.cells (encI p).toArray 48)) u0.heap.size 48 (encI p).toArray from Blk.fresh u0 48 (encI p).toArray)
      have Fu1 := Lib.hid (show Below w9.heap.size w9 (u0.alloc (.cells (encI p).toArray 48)) from Fu0.out.alloc Fu0.out.size _)
      have Ou1 := Lib.hid (Ou0.out.alloc (.cells (encI p).toArray 48))
      have hlo := (Ou0.out.lt go rfl).2
      obtain ⟨gx, hgx⟩ : ∃ g, g = u0.heap.size := ⟨_, rfl⟩
      rw [← hgx] at Xu1 ⊢
      have HNE := Lib.hid (show gx ≠ go by omega)
      clear hlo
      clear hgx
      generalize (u0.alloc (.cells (encI p).toArray 48)) = u1 at *
      refine hK.out _ _ (HS.out _ Fu1.out) (fun hHeld => ?_)
      clear hK K
      refine wpAnyH_ready (rs := [2]) (by kernel_rfl) (by simp) ?_
      refine AllReadyH.cons rfl (fun K hK => ?_) AllReadyH.nil
      refine step_appR (by rfl) _ _ rfl q9 (.slice (some ⟨go, 0, none⟩) 0 0) [] (by rfl) Ou1.out _ ls (by rfl) (V9.out.below Fu1.out) (by have := HLN.out; have := HL.out; simp; omega) (Nat.le_trans QA.out Fu1.out.size) ?_
      intro vu2 u2 Ou2 Gu2
      have Fu2 := Lib.hid (Fu1.out.grown Gu2.out Fu1.out.size (fun j hj => Nat.le_trans QB.out (Ou1.out.lt j hj).1))
      have Xu2 := Lib.hid ((Gu2.out.block gx Xu1.out.lt (by have := HNE.out; simpa [Value.ownBlock] using this)).trans Xu1.out)
      refine hK.out _ _ (HS.out _ Fu2.out) (fun hHeld => ?_)
      clear hK K
      refine wpAnyH_ready (rs := [5]) (by kernel_rfl) (by simp) ?_
      refine AllReadyH.cons rfl (fun K hK => ?_) AllReadyH.nil
      refine step_appR (by rfl) _ _ rfl q9 vu2 ([] ++ ls) (by rfl) Ou2.out _ [p] (by rfl) (own_one (base := 0) Xu2.out (Nat.zero_le _)).ids (by have := HLN.out; have := HL.out; simp; omega) (Nat.le_trans QA.out Fu2.out.size) ?_
      intro vu3 u3 Ou3 Gu3
      have Fu3 := Lib.hid (Fu2.out.grown Gu3.out Fu2.out.size (fun j hj => Nat.le_trans QB.out (Ou2.out.lt j hj).1))
      refine hK.out _ _ (HS.out _ Fu3.out) (fun hHeld => ?_)
      clear hK K
      refine wpAnyH_ready (rs := [6]) (by kernel_rfl) (by simp) ?_
      refine AllReadyH.cons rfl (fun K hK => ?_) AllReadyH.nil
      go_simp
      refine (HTR.out _ _ _ (by have := HLN.out; have := HL.out; simp; omega) Ou3.out.ids).mono ?_
      rintro e w4 ⟨v4, rfl, hi4, hb4⟩
      have I4 := Lib.hid hi4; have F4 := Lib.hid (Fu3.out.trans (hb4.mono Fu3.out.size))
      clear hi4 hb4
      refine hK.out _ _ (HS.out _ F4.out) (fun hHeld => ?_)
      clear hK K
      refine wpAnyH_take (i := 7) (v := ?_) rfl (by kernel_rfl) (by kernel_rfl) (by kernel_rfl) (fun _ _ _ h => h) (Or.inl ⟨by rfl, ?_⟩) (by assumption) ?_
      rotate_left
      · (intro w9 _; go_simp; try with_reducible rfl)
      simp only [Act.put, List.getElem_toArray, List.getElem_cons_succ, List.getElem_cons_zero, List.setIfInBounds_toArray, List.set_cons_succ, List.set_cons_zero]
      refine wpAnyH_take (i := 8) (v := ?_) rfl (by kernel_rfl) (by kernel_rfl) (by kernel_rfl) (fun _ _ _ h => h) (Or.inl ⟨by rfl, ?_⟩) (by assumption) ?_
      rotate_left
      · (intro w9 _; go_simp; try with_reducible rfl)
      simp only [Act.put, List.getElem_toArray, List.getElem_cons_succ, List.getElem_cons_zero, List.setIfInBounds_toArray, List.set_cons_succ, List.set_cons_zero]
      refine wpAnyH_done (by kernel_rfl) ?_ _
      clear hHeld
      go_wp2_with fail
      go_ret2
      exact ⟨_, _, 0, rfl, HR.out, (by have h := I4.out; rwa [List.nil_append] at h), B9.out.trans (F4.out.mono B9.out.size)⟩
  · go_simp
    rw [fold_enc p]
    have Xu0 := Lib.hid (show Blk (w9.alloc (.cells (encI p).toArray 48)).drew w9.heap.size 48 (encI p).toArray from Blk.fresh w9 48 (encI p).toArray)
    have Fu0 := Lib.hid (show Below w9.heap.size w9 (w9.alloc (.cells (encI p).toArray 48)).drew from ((Below.refl _ w9).alloc (Nat.le_refl _) _).drew)
    obtain ⟨gx, hgx⟩ : ∃ g, g = w9.heap.size := ⟨_, rfl⟩
    rw [← hgx] at Xu0 ⊢
    clear hgx
    generalize (w9.alloc (.cells (encI p).toArray 48)).drew = u0 at *
    refine hK.out _ _ (HS.out _ Fu0.out) (fun hHeld => ?_)
    clear hK K
    refine wpAnyH_ready (rs := [0]) (by kernel_rfl) (by simp) ?_
    refine AllReadyH.cons rfl (fun K hK => ?_) AllReadyH.nil
    go_simp
    have Ou1 := Lib.hid (show OwnI 48 q9 (u0.alloc (.cells #[] 48)) (.slice (some ⟨u0.heap.size, 0, none⟩) 0 0) [] from own_zero u0 _ (Nat.le_trans QA.out Fu0.out.size))
    have Fu1 := Lib.hid (show Below w9.heap.size w9 (u0.alloc (.cells #[] 48)) from Fu0.out.alloc Fu0.out.size _)
    have Xu1 := Lib.hid (Xu0.out.more (.cells #[] 48)); have hlx := Xu0.out.lt
    obtain ⟨go, hgo⟩ : ∃ g, g = u0.heap.size := ⟨_, rfl⟩
    rw [← hgo] at Ou1 ⊢
    have HNE := Lib.hid (show gx ≠ go by omega)
    clear hlx
    clear hgo
    generalize (u0.alloc (.cells #[] 48)) = u1 at *
    refine hK.out _ _ (HS.out _ Fu1.out) (fun hHeld => ?_)
    clear hK K
    refine wpAnyH_ready (rs := [2]) (by kernel_rfl) (by simp) ?_
    refine AllReadyH.cons rfl (fun K hK => ?_) AllReadyH.nil
    refine step_appR (by rfl) _ _ rfl q9 (.slice (some ⟨go, 0, none⟩) 0 0) [] (by rfl) Ou1.out _ ls (by rfl) (V9.out.below Fu1.out) (by have := HLN.out; have := HL.out; simp; omega) (Nat.le_trans QA.out Fu1.out.size) ?_
    intro vu2 u2 Ou2 Gu2
    have Fu2 := Lib.hid (Fu1.out.grown Gu2.out Fu1.out.size (fun j hj => Nat.le_trans QB.out (Ou1.out.lt j hj).1))
    have Xu2 := Lib.hid ((Gu2.out.block gx Xu1.out.lt (by have := HNE.out; simpa [Value.ownBlock] using this)).trans Xu1.out)
    refine hK.out _ _ (HS.out _ Fu2.out) (fun hHeld => ?_)
    clear hK K
    refine wpAnyH_ready (rs := [5]) (by kernel_rfl) (by simp) ?_
    refine AllReadyH.cons rfl (fun K hK => ?_) AllReadyH.nil
    refine step_appR (by rfl) _ _ rfl q9 vu2 ([] ++ ls) (by rfl) Ou2.out _ [p] (by rfl) (own_one (base := 0) Xu2.out (Nat.zero_le _)).ids (by have := HLN.out; have := HL.out; simp; omega) (Nat.le_trans QA.out Fu2.out.size) ?_
    intro vu3 u3 Ou3 Gu3
    have Fu3 := Lib.hid (Fu2.out.grown Gu3.out Fu2.out.size (fun j hj => Nat.le_trans QB.out (Ou2.out.lt j hj).1))
    refine hK.out _ _ (HS.out _ Fu3.out) (fun hHeld => ?_)
    clear hK K
    refine wpAnyH_ready (rs := [6]) (by kernel_rfl) (by simp) ?_
    refine AllReadyH.cons rfl (fun K hK => ?_) AllReadyH.nil
    go_simp
    refine (HTR.out _ _ _ (by have := HLN.out; have := HL.out; simp; omega) Ou3.out.ids).mono ?_
    rintro e w4 ⟨v4, rfl, hi4, hb4⟩
    have I4 := Lib.hid hi4; have F4 := Lib.hid (Fu3.out.trans (hb4.mono Fu3.out.size))
    clear hi4 hb4
    refine hK.out _ _ (HS.out _ F4.out) (fun hHeld => ?_)
    clear hK K
    refine wpAnyH_take (i := 7) (v := ?_) rfl (by kernel_rfl) (by kernel_rfl) (by kernel_rfl) (fun _ _ _ h => h) (Or.inl ⟨by rfl, ?_⟩) (by assumption) ?_
    rotate_left
    · (intro w9 _; go_simp; try with_reducible rfl)
    simp only [Act.put, List.getElem_toArray, List.getElem_cons_succ, List.getElem_cons_zero, List.setIfInBounds_toArray, List.set_cons_succ, List.set_cons_zero]
    refine wpAnyH_take (i := 8) (v := ?_) rfl (by kernel_rfl) (by kernel_rfl) (by kernel_rfl) (fun _ _ _ h => h) (Or.inl ⟨by rfl, ?_⟩) (by assumption) ?_
    rotate_left
    · (intro w9 _; go_simp; try with_reducible rfl)
    simp only [Act.put, List.getElem_toArray, List.getElem_cons_succ, List.getElem_cons_zero, List.setIfInBounds_toArray, List.set_cons_succ, List.set_cons_zero]
    refine wpAnyH_done (by kernel_rfl) ?_ _
    clear hHeld
    go_wp2_with fail
    go_ret2
    exact ⟨_, _, 0, rfl, HR.out, (by have h := I4.out; rwa [List.nil_append] at h), B9.out.trans (F4.out.mono B9.out.size)⟩
end Go.Proofs.Ytnejfhapifpllaa
