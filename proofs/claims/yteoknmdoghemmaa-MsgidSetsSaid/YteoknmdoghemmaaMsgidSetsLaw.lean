/- MsgidSets: whatever the two lists, Set, Union, Minus and Both answer as the reference does. Conditions: none beyond the row's own. -/
import Derived.Test.YteoknmdoghemmaaApp
namespace Go.Proofs.Yteoknmdoghemmaa.msgidSetsLaw
open Go.ChangeShapes Go.WideShapes Go.ChangeAt Go.RowKit
open Go.ChangeMaps (open_string shut_string)

set_option maxRecDepth 100000 in
theorem cut {w : World} {a : Option Addr} {len cap : Nat} {ls : List Mid.Id} (hv : Ids w (.slice a len cap) ls) (hlen : ls.length = len) (m : Nat) :
    ∃ (n : Nat) (ms : List Mid.Id), Ids w (.slice a n cap) ms ∧ ms.length = n ∧ min (len : Int) m = (n : Int) ∧ (n : Int) ≤ (len : Int) ∧ (n : Int) ≤ m ∧ (len : Int) ≤ (cap : Int) ∧ (cap : Int) ≤ 9223372036854775807 := by
  have hlc : len ≤ cap := by
    obtain ⟨_, _, h, h1, _⟩ := hv; cases h; omega
  have hcm : cap ≤ maxLen := by
    obtain ⟨_, _, h, _, h2, _⟩ := hv; cases h; omega
  unfold maxLen at hcm
  refine ⟨min len m, ls.take (min len m), hv.take _ (by omega), by rw [List.length_take]; omega, by omega, by omega, by omega, by omega, by omega⟩

set_option maxRecDepth 100000 in
set_option maxHeartbeats 4000000 in
theorem walk (a1 : Option Addr) (len1 cap1 : Nat) (l1 : List Mid.Id) (a2 : Option Addr) (len2 cap2 : Nat) (l2 : List Mid.Id) (w : World)
    (v1 : Ids w (.slice a1 len1 cap1) l1) (e1 : l1.length = len1) (v2 : Ids w (.slice a2 len2 cap2) l2) (e2 : l2.length = len2) :
    Calls Try.prog 7 #[.slice a1 len1 cap1, .slice a2 len2 cap2] w fun e w' => e = .returned (.bool true) ∧ Below w.heap.size w w' := by
  obtain ⟨n1, A, hA, hAl, m1, i1, j1, k1, t1⟩ := cut v1 e1 40
  obtain ⟨n2, B, hB, hBl, m2, i2, j2, k2, t2⟩ := cut v2 e2 40
  have c40 : ((40 : Nat) : Int) = 40 := rfl
  rw [c40] at m1 m2 j1 j2
  have HA := Lib.hid hA; have HB := Lib.hid hB
  have HL := Lib.hid (show A.length ≤ 40 ∧ B.length ≤ 40 by omega)
  have q1 : n1 ≤ cap1 := by omega
  have q2 : n2 ≤ cap2 := by omega
  have HK := Lib.hid (fun w => known_any w)
  have HU := Lib.hid (fun v1 v2 w h1 h2 => opUnion_any v1 v2 A B w (by omega) (by omega) h1 h2)
  have HM := Lib.hid (fun v1 v2 w h1 h2 => opMinus_any v1 v2 A B w (by omega) (by omega) h1 h2)
  have HBO := Lib.hid (fun v1 v2 w h1 h2 => opBoth_any v1 v2 A B w (by omega) (by omega) h1 h2)
  have HS := Lib.hid (fun v w h => set2_any v A w (by omega) h)
  have HRS := Lib.hid (fun v l w ha h => refSet_any v l w ha h)
  have HTO := Lib.hid (fun v a w ha h => to_any v a w ha h)
  have HOW := Lib.hid (fun v a w ha h => toOwn_any v a w ha h)
  have HP := Lib.hid (fun v1 v2 q w h1 h2 => refPick_any v1 v2 A B q w (by omega) (by omega) h1 h2)
  have HE := Lib.hid (fun v1 v2 a w ha h1 h2 => equal_any v1 v2 a w ha h1 h2)
  clear hA hB hAl hBl v1 v2 e1 e2 c40
  go_enter Try.func7, Try.ntmps7
  go_wp2_with fail
  refine wp_region_held_drew (S := (fun _ => True)) (by kernel_rfl) ?_ (fun hHeld => ?_)
  · exact trivial
  refine wpAnyH_take (i := 0) (v := ?_) rfl (by kernel_rfl) (by kernel_rfl) (by kernel_rfl) (fun _ _ _ h => h) (Or.inl ⟨by rfl, ?_⟩) (by assumption) ?_
  rotate_left
  · (intro w9 _; go_simp; try with_reducible rfl)
  simp only [Act.put, List.getElem_toArray, List.getElem_cons_zero, List.setIfInBounds_toArray, List.set_cons_succ, List.set_cons_zero]
  refine wpAnyH_take (i := 1) (v := ?_) rfl (by kernel_rfl) (by kernel_rfl) (by kernel_rfl) (fun _ _ _ h => h) (Or.inl ⟨by rfl, ?_⟩) (by assumption) ?_
  rotate_left
  · (intro w9 _; go_simp; try with_reducible rfl)
  simp only [Act.put, List.getElem_toArray, List.getElem_cons_succ, List.getElem_cons_zero, List.setIfInBounds_toArray, List.set_cons_succ, List.set_cons_zero]
  refine wpAnyH_take (i := 2) (v := ?_) rfl (by kernel_rfl) (by kernel_rfl) (by kernel_rfl) (fun _ _ _ h => h) (Or.inl ⟨by rfl, ?_⟩) (by assumption) ?_
  rotate_left
  · (intro w9 _; go_simp; try with_reducible rfl)
  simp only [Act.put, List.getElem_toArray, List.getElem_cons_succ, List.getElem_cons_zero, List.setIfInBounds_toArray, List.set_cons_succ, List.set_cons_zero]
  refine wpAnyH_take (i := 3) (v := ?_) rfl (by kernel_rfl) (by kernel_rfl) (by kernel_rfl) (fun _ _ _ h => h) (Or.inl ⟨by rfl, ?_⟩) (by assumption) ?_
  rotate_left
  · (intro w9 _; go_simp; try with_reducible rfl)
  simp only [Act.put, List.getElem_toArray, List.getElem_cons_succ, List.getElem_cons_zero, List.setIfInBounds_toArray, List.set_cons_succ, List.set_cons_zero]
  refine wpAnyH_take (i := 4) (v := ?_) rfl (by kernel_rfl) (by kernel_rfl) (by kernel_rfl) (fun _ _ _ h => h) (Or.inl ⟨by rfl, ?_⟩) (by assumption) ?_
  rotate_left
  · (intro w9 _; go_simp; try with_reducible rfl)
  simp only [Act.put, List.getElem_toArray, List.getElem_cons_succ, List.getElem_cons_zero, List.setIfInBounds_toArray, List.set_cons_succ, List.set_cons_zero]
  refine wpAnyH_take (i := 5) (v := ?_) rfl (by kernel_rfl) (by kernel_rfl) (by kernel_rfl) (fun _ _ _ h => h) (Or.inl ⟨by rfl, ?_⟩) (by assumption) ?_
  rotate_left
  · (intro w9 _; go_simp; try with_reducible rfl)
  simp only [Act.put, List.getElem_toArray, List.getElem_cons_succ, List.getElem_cons_zero, List.setIfInBounds_toArray, List.set_cons_succ, List.set_cons_zero]
  refine wpAnyH_take (i := 6) (v := ?_) rfl (by kernel_rfl) (by kernel_rfl) (by kernel_rfl) (fun _ _ _ h => h) (Or.inl ⟨by rfl, ?_⟩) (by assumption) ?_
  rotate_left
  · (intro w9 _; go_simp; try with_reducible rfl)
  simp only [Act.put, List.getElem_toArray, List.getElem_cons_succ, List.getElem_cons_zero, List.setIfInBounds_toArray, List.set_cons_succ, List.set_cons_zero]
  refine wpAnyH_take (i := 7) (v := ?_) rfl (by kernel_rfl) (by kernel_rfl) (by kernel_rfl) (fun _ _ _ h => h) (Or.inl ⟨by rfl, ?_⟩) (by assumption) ?_
  rotate_left
  · (intro w9 _; go_simp; try with_reducible rfl)
  simp only [Act.put, List.getElem_toArray, List.getElem_cons_succ, List.getElem_cons_zero, List.setIfInBounds_toArray, List.set_cons_succ, List.set_cons_zero]
  refine wpAnyH_take (i := 8) (v := ?_) rfl (by kernel_rfl) (by kernel_rfl) (by kernel_rfl) (fun _ _ _ h => h) (Or.inl ⟨by rfl, ?_⟩) (by assumption) ?_
  rotate_left
  · (intro w9 _; go_simp; try with_reducible rfl)
  simp only [Act.put, List.getElem_toArray, List.getElem_cons_succ, List.getElem_cons_zero, List.setIfInBounds_toArray, List.set_cons_succ, List.set_cons_zero]
  refine wpAnyH_take (i := 9) (v := ?_) rfl (by kernel_rfl) (by kernel_rfl) (by kernel_rfl) (fun _ _ _ h => h) (Or.inl ⟨by rfl, ?_⟩) (by assumption) ?_
  rotate_left
  · (intro w9 _; go_simp; try with_reducible rfl)
  simp only [Act.put, List.getElem_toArray, List.getElem_cons_succ, List.getElem_cons_zero, List.setIfInBounds_toArray, List.set_cons_succ, List.set_cons_zero]
  refine wpAnyH_take (i := 10) (v := ?_) rfl (by kernel_rfl) (by kernel_rfl) (by kernel_rfl) (fun _ _ _ h => h) (Or.inl ⟨by rfl, ?_⟩) (by assumption) ?_
  rotate_left
  · (intro w9 _; go_simp; try with_reducible rfl)
  simp only [Act.put, List.getElem_toArray, List.getElem_cons_succ, List.getElem_cons_zero, List.setIfInBounds_toArray, List.set_cons_zero]
  refine wpAnyH_take (i := 11) (v := ?_) rfl (by kernel_rfl) (by kernel_rfl) (by kernel_rfl) (fun _ _ _ h => h) (Or.inl ⟨by rfl, ?_⟩) (by assumption) ?_
  rotate_left
  · (intro w9 _; go_simp; try with_reducible rfl)
  simp only [Act.put, List.getElem_toArray, List.getElem_cons_succ, List.getElem_cons_zero, List.setIfInBounds_toArray, List.set_cons_succ, List.set_cons_zero]
  refine wpAnyH_done (by kernel_rfl) ?_ _
  clear hHeld
  have B0 := Lib.hid ((Below.refl w.heap.size w).drew)
  have A0 := Lib.hid (HA.out.below B0.out); have C0 := Lib.hid (HB.out.below B0.out)
  clear HA HB
  go_wp2_with fail
  refine (HTO.out _ A _ HL.out.1 A0.out).mono ?_
  rintro e w1 ⟨x5, rfl, hx, hb⟩
  have A_1 := Lib.hid (A0.out.below hb)
  have C_1 := Lib.hid (C0.out.below hb)
  have X0 := Lib.hid hx
  clear hx
  have B1 := Lib.hid (B0.out.trans (hb.mono B0.out.size))
  clear hb
  go_wp2_with fail
  refine (HTO.out _ B _ HL.out.2 C_1.out).mono ?_
  rintro e w2 ⟨y5, rfl, hy, hb⟩
  have A_2 := Lib.hid (A_1.out.below hb)
  have C_2 := Lib.hid (C_1.out.below hb)
  have X_2 := Lib.hid (X0.out.below hb)
  have Y0 := Lib.hid hy
  clear hy
  have B2 := Lib.hid (B1.out.trans (hb.mono B1.out.size))
  clear hb
  go_wp2_with fail
  refine (HK.out _).mono ?_
  rintro e w3 ⟨rfl, hb⟩
  have A_3 := Lib.hid (A_2.out.below hb)
  have C_3 := Lib.hid (C_2.out.below hb)
  have X_3 := Lib.hid (X_2.out.below hb)
  have Y_3 := Lib.hid (Y0.out.below hb)
  have B3 := Lib.hid (B2.out.trans (hb.mono B2.out.size))
  clear hb
  go_wp2_with fail
  refine (HS.out _ _ A_3.out).mono ?_
  rintro e w4 ⟨u1, D1, rfl, hI, hA1, hm1, hl1, hb⟩
  have A_4 := Lib.hid (A_3.out.below hb)
  have C_4 := Lib.hid (C_3.out.below hb)
  have X_4 := Lib.hid (X_3.out.below hb)
  have Y_4 := Lib.hid (Y_3.out.below hb)
  have I1 := Lib.hid hI; have A1 := Lib.hid hA1; have M1 := Lib.hid hm1; have L1 := Lib.hid hl1
  clear hI hA1 hm1 hl1
  have B4 := Lib.hid (B3.out.trans (hb.mono B3.out.size))
  clear hb
  rename_i K9 hK9
  refine hK9 _ _ ?_
  clear hK9 K9
  go_wp2_with fail
  refine (HRS.out _ A _ (by have := HL.out; omega) X_4.out).mono ?_
  rintro e w5 ⟨u2, D2, rfl, hJ, hA2, hm2, hl2, hb⟩
  have A_5 := Lib.hid (A_4.out.below hb)
  have C_5 := Lib.hid (C_4.out.below hb)
  have X_5 := Lib.hid (X_4.out.below hb)
  have Y_5 := Lib.hid (Y_4.out.below hb)
  have I_5 := Lib.hid (I1.out.below hb)
  have hD : D2 = D1 := Mid.uniq _ _ hA2 A1.out (fun u => by rw [hm2 u, M1.out u])
  subst hD
  have J1 := Lib.hid hJ
  clear hJ hA2 hm2 hl2 A1 M1
  have B5 := Lib.hid (B4.out.trans (hb.mono B4.out.size))
  clear hb
  rename_i K9 hK9
  refine hK9 _ _ ?_
  clear hK9 K9
  go_wp2_with fail
  refine (HE.out _ _ _ _ (by have := HL.out; have := L1.out; omega) I_5.out J1.out).mono ?_
  rintro e w6 ⟨rfl, hb⟩
  have A_6 := Lib.hid (A_5.out.below hb)
  have C_6 := Lib.hid (C_5.out.below hb)
  have X_6 := Lib.hid (X_5.out.below hb)
  have Y_6 := Lib.hid (Y_5.out.below hb)
  have I_6 := Lib.hid (I_5.out.below hb)
  have J_6 := Lib.hid (J1.out.below hb)
  have B6 := Lib.hid (B5.out.trans (hb.mono B5.out.size))
  clear hb
  rename_i K9 hK9
  refine hK9 _ _ ?_
  clear hK9 K9
  go_wp2_with fail
  refine (HU.out _ _ _ A_6.out C_6.out).mono ?_
  rintro e w7 ⟨u3, D3, rfl, hI, hA3, hm3, hl3, -, hb⟩
  have A_7 := Lib.hid (A_6.out.below hb)
  have C_7 := Lib.hid (C_6.out.below hb)
  have X_7 := Lib.hid (X_6.out.below hb)
  have Y_7 := Lib.hid (Y_6.out.below hb)
  have I3 := Lib.hid hI; have A3 := Lib.hid hA3; have M3 := Lib.hid hm3; have L3 := Lib.hid hl3
  clear hI hA3 hm3 hl3
  have B7 := Lib.hid (B6.out.trans (hb.mono B6.out.size))
  clear hb
  rename_i K9 hK9
  refine hK9 _ _ ?_
  clear hK9 K9
  go_wp2_with fail
  refine (HOW.out _ A _ HL.out.1 A_7.out).mono ?_
  rintro e w8 ⟨z5, rfl, hz, hb⟩
  have A_8 := Lib.hid (A_7.out.below hb)
  have C_8 := Lib.hid (C_7.out.below hb)
  have X_8 := Lib.hid (X_7.out.below hb)
  have Y_8 := Lib.hid (Y_7.out.below hb)
  have I_8 := Lib.hid (I3.out.below hb)
  have Z0 := Lib.hid hz
  have ZF := Lib.hid (Below.refl w8.heap.size w8)
  have B8 := Lib.hid (B7.out.trans (hb.mono B7.out.size))
  have ZB := Lib.hid hb
  clear hb hz
  rename_i K9 hK9
  refine hK9 _ _ ?_
  clear hK9 K9
  go_wp2_with (refine wpList_app_g (by rfl) _ _ rfl w7.heap.size z5 A (by rfl) Z0.out _ B (by rfl) Y_8.out (by have := HL.out; omega) ZB.out.size ?_; intro z6 wz OZ GZ)
  have GB := Lib.hid (show Below w7.heap.size w7 wz from ZB.out.grown GZ.out ZB.out.size (fun j hj => (Z0.out.lt j hj).1))
  have A_z := Lib.hid (A_7.out.below GB.out)
  have C_z := Lib.hid (C_7.out.below GB.out)
  have X_z := Lib.hid (X_7.out.below GB.out)
  have Y_z := Lib.hid (Y_7.out.below GB.out)
  have I_z := Lib.hid (I3.out.below GB.out)
  have BZ := Lib.hid (B7.out.trans (GB.out.mono B7.out.size))
  have IZ := Lib.hid OZ.out.ids
  clear Z0 ZB GB OZ GZ ZF
  go_wp2_with fail
  refine (HRS.out _ (A ++ B) _ (by have := HL.out; simp; omega) IZ.out).mono ?_
  rintro e w9 ⟨u4, D4, rfl, hJ, hA4, hm4, hl4, hb⟩
  have A_9 := Lib.hid (A_z.out.below hb)
  have C_9 := Lib.hid (C_z.out.below hb)
  have X_9 := Lib.hid (X_z.out.below hb)
  have Y_9 := Lib.hid (Y_z.out.below hb)
  have I_9 := Lib.hid (I_z.out.below hb)
  have Z_9 := Lib.hid (IZ.out.below hb)
  have hD : D4 = D3 := Mid.uniq _ _ hA4 A3.out (fun u => by rw [hm4 u, M3.out u]; by_cases x1 : u ∈ A <;> by_cases x2 : u ∈ B <;> simp [x1, x2])
  subst hD
  have J4 := Lib.hid hJ
  clear hJ hA4 hm4 hl4 A3 M3
  have B9 := Lib.hid (BZ.out.trans (hb.mono BZ.out.size))
  clear hb
  rename_i K9 hK9
  refine hK9 _ _ ?_
  clear hK9 K9
  go_wp2_with fail
  refine (HE.out _ _ _ _ (by have := HL.out; have := L3.out; omega) I_9.out J4.out).mono ?_
  rintro e w10 ⟨rfl, hb⟩
  have A_10 := Lib.hid (A_9.out.below hb)
  have C_10 := Lib.hid (C_9.out.below hb)
  have X_10 := Lib.hid (X_9.out.below hb)
  have Y_10 := Lib.hid (Y_9.out.below hb)
  have I_10 := Lib.hid (I_9.out.below hb)
  have J_10 := Lib.hid (J4.out.below hb)
  have B10 := Lib.hid (B9.out.trans (hb.mono B9.out.size))
  clear hb
  rename_i K9 hK9
  refine hK9 _ _ ?_
  clear hK9 K9
  go_wp2_with fail
  refine (HM.out _ _ _ A_10.out C_10.out).mono ?_
  rintro e w11 ⟨u5, D5, rfl, hI, hA5, hm5, hl5, -, hb⟩
  have A_11 := Lib.hid (A_10.out.below hb)
  have C_11 := Lib.hid (C_10.out.below hb)
  have X_11 := Lib.hid (X_10.out.below hb)
  have Y_11 := Lib.hid (Y_10.out.below hb)
  have I5 := Lib.hid hI; have A5 := Lib.hid hA5; have M5 := Lib.hid hm5; have L5 := Lib.hid hl5
  clear hI hA5 hm5 hl5
  have B11 := Lib.hid (B10.out.trans (hb.mono B10.out.size))
  clear hb
  rename_i K9 hK9
  refine hK9 _ _ ?_
  clear hK9 K9
  go_wp2_with fail
  refine (HP.out _ _ false _ X_11.out Y_11.out).mono ?_
  rintro e w12 ⟨p5, E5, rfl, hJ, hAE, hmE, hlE, hb⟩
  have A_12 := Lib.hid (A_11.out.below hb)
  have C_12 := Lib.hid (C_11.out.below hb)
  have X_12 := Lib.hid (X_11.out.below hb)
  have Y_12 := Lib.hid (Y_11.out.below hb)
  have I_12 := Lib.hid (I5.out.below hb)
  have hD : E5 = D5 := Mid.uniq _ _ hAE A5.out (fun u => by rw [hmE u, M5.out u]; by_cases x1 : u ∈ A <;> by_cases x2 : u ∈ B <;> simp [x1, x2])
  subst hD
  have J5 := Lib.hid hJ
  clear hJ hAE hmE hlE A5 M5
  have B12 := Lib.hid (B11.out.trans (hb.mono B11.out.size))
  clear hb
  rename_i K9 hK9
  refine hK9 _ _ ?_
  clear hK9 K9
  go_wp2_with fail
  refine (HE.out _ _ _ _ (by have := HL.out; have := L5.out; omega) I_12.out J5.out).mono ?_
  rintro e w13 ⟨rfl, hb⟩
  have A_13 := Lib.hid (A_12.out.below hb)
  have C_13 := Lib.hid (C_12.out.below hb)
  have X_13 := Lib.hid (X_12.out.below hb)
  have Y_13 := Lib.hid (Y_12.out.below hb)
  have I_13 := Lib.hid (I_12.out.below hb)
  have J_13 := Lib.hid (J5.out.below hb)
  have B13 := Lib.hid (B12.out.trans (hb.mono B12.out.size))
  clear hb
  rename_i K9 hK9
  refine hK9 _ _ ?_
  clear hK9 K9
  go_wp2_with fail
  refine (HBO.out _ _ _ A_13.out C_13.out).mono ?_
  rintro e w14 ⟨u6, D6, rfl, hI, hA6, hm6, hl6, -, hb⟩
  have A_14 := Lib.hid (A_13.out.below hb)
  have C_14 := Lib.hid (C_13.out.below hb)
  have X_14 := Lib.hid (X_13.out.below hb)
  have Y_14 := Lib.hid (Y_13.out.below hb)
  have I6 := Lib.hid hI; have A6 := Lib.hid hA6; have M6 := Lib.hid hm6; have L6 := Lib.hid hl6
  clear hI hA6 hm6 hl6
  have B14 := Lib.hid (B13.out.trans (hb.mono B13.out.size))
  clear hb
  rename_i K9 hK9
  refine hK9 _ _ ?_
  clear hK9 K9
  go_wp2_with fail
  refine (HP.out _ _ true _ X_14.out Y_14.out).mono ?_
  rintro e w15 ⟨p6, E6, rfl, hJ, hAE, hmE, hlE, hb⟩
  have A_15 := Lib.hid (A_14.out.below hb)
  have C_15 := Lib.hid (C_14.out.below hb)
  have X_15 := Lib.hid (X_14.out.below hb)
  have Y_15 := Lib.hid (Y_14.out.below hb)
  have I_15 := Lib.hid (I6.out.below hb)
  have hD : E6 = D6 := Mid.uniq _ _ hAE A6.out (fun u => by rw [hmE u, M6.out u]; by_cases x1 : u ∈ A <;> by_cases x2 : u ∈ B <;> simp [x1, x2])
  subst hD
  have J6 := Lib.hid hJ
  clear hJ hAE hmE hlE A6 M6
  have B15 := Lib.hid (B14.out.trans (hb.mono B14.out.size))
  clear hb
  rename_i K9 hK9
  refine hK9 _ _ ?_
  clear hK9 K9
  go_wp2_with fail
  refine (HE.out _ _ _ _ (by have := HL.out; have := L6.out; omega) I_15.out J6.out).mono ?_
  rintro e w16 ⟨rfl, hb⟩
  have A_16 := Lib.hid (A_15.out.below hb)
  have C_16 := Lib.hid (C_15.out.below hb)
  have X_16 := Lib.hid (X_15.out.below hb)
  have Y_16 := Lib.hid (Y_15.out.below hb)
  have I_16 := Lib.hid (I_15.out.below hb)
  have J_16 := Lib.hid (J6.out.below hb)
  have B16 := Lib.hid (B15.out.trans (hb.mono B15.out.size))
  clear hb
  rename_i K9 hK9
  refine hK9 _ _ ?_
  clear hK9 K9
  go_wp2_with fail
  go_ret
  exact ⟨rfl, B16.out⟩

set_option maxRecDepth 100000 in
theorem contract (H : Type) (enc : TypeId × Value → H) (W : World) (base : Nat) (args : Array Value) (ds gs : List (DataW H)) (before : List MemPlace)
    (hval : ∀ (j : Nat) t v, Try.f7.params[j]? = some t → args[j]? = some v → Value.okWide Try.prog W .any base t v)
    (hW : DataW.Whole enc Try.prog Try.f7.params.toList Rows.msgidSetsSpec.vars false W args.toList ds gs before) (_hL : laidMetH Try.prog Rows.msgidSetsRow.laid W) (_hs : W.ShapedOpen Try.prog) :
    Calls Try.prog 7 args W fun e W' => ∃ v, e = .returned v ∧ Rows.msgidSetsSpec.post enc Try.prog Try.f7 false true false false W args v W' := by
  have hW' := hW
  obtain ⟨p, q, hA0, hV, rfl, hfz, hnd⟩ := hW
  have hA : DataW.TrodAll enc Try.prog W 0 (fun _ => true) true Try.f7.params.toList args.toList ds p := hA0
  rw [Try.params7] at hA hval
  obtain ⟨v0, vs0, d0, ds0, p0, q0, hargs, rfl, rfl, h0, r0⟩ := trodAll_cons hA
  obtain ⟨v1, vs1, d1, ds1, p1, q1, rfl, rfl, rfl, h1, r1⟩ := trodAll_cons r0
  obtain ⟨rfl, rfl, rfl⟩ := trodAll_nil r1
  obtain rfl : args = #[v0, v1] := by cases args; simp_all
  obtain ⟨rfl, rfl⟩ := trodVars_none hV
  obtain ⟨a0, len0, cap0, rfl⟩ := okWide_slice Try.underlying41 (hval 0 41 v0 rfl rfl)
  have k0 := h0
  have lt0 : ∀ x ∈ p0, x.block < W.heap.size := by obtain ⟨m, hm⟩ := k0; exact DataW.trod_lt m _ _ _ hm
  obtain ⟨l0, w0, e0⟩ := ids_open h0
  obtain ⟨a1, len1, cap1, rfl⟩ := okWide_slice Try.underlying41 (hval 1 41 v1 rfl rfl)
  have k1 := h1
  have lt1 : ∀ x ∈ p1, x.block < W.heap.size := by obtain ⟨m, hm⟩ := k1; exact DataW.trod_lt m _ _ _ hm
  obtain ⟨l1, w1, e1⟩ := ids_open h1
  clear hA0
  refine (walk a0 len0 cap0 l0 a1 len1 cap1 l1 W w0 e0 w1 e1).mono fun e W' ⟨he, bel⟩ => ?_
  subst he
  exact ⟨_, rfl, _, _, _, [], _, [], hW', trodAll_mk1 (shut_bool Try.underlying4 _), (trodAll_cons_mk (Below.trod laidOut (by kernel_rfl) (of_decide_eq_true (by kernel_rfl)) k0 bel lt0) (trodAll_cons_mk (Below.trod laidOut (by kernel_rfl) (of_decide_eq_true (by kernel_rfl)) k1 bel lt1) trodAll_mk0)), rfl, bel.frame _, fun h => by cases h⟩

theorem laid_met (os : Os) : laidMet Try.prog Rows.msgidSetsRow.laid ((laidWorld os).forCall (fun _ _ => 0) ⟨#[], #[.slice none 0 0, .slice none 0 0], []⟩).memory :=
  laidMet_of_run' 8 (by kernel_rfl) (by kernel_rfl)
theorem reads (os : Os) {H : Type} (enc : TypeId × Value → H) : ∃ places, DataW.whole enc Try.prog ((laidWorld os).forCall (fun _ _ => 0) ⟨#[], #[.slice none 0 0, .slice none 0 0], []⟩).memory Try.f7.params.toList Rows.msgidSetsSpec.vars false (#[.slice none 0 0, .slice none 0 0] : Array Value).toList 8 = some ([.nil, .nil], [], places) :=
  ⟨[], by kernel_rfl⟩

set_option maxRecDepth 100000 in
theorem lifted (os : Os) (started : os.Started) (H : Type) (enc : TypeId × Value → H) (F : Stop.Interp) :
    ReturnsInHanded {} Try.checked os 7 .any ((OpenSpec.ofChange Rows.msgidSetsSpec).preRow enc Try.prog Try.f7 Rows.msgidSetsRow.domain false Rows.msgidSetsRow.laid) (((OpenSpec.ofChange Rows.msgidSetsSpec).at F).post enc Try.prog Try.f7 false true false false) := by
  obtain ⟨places, hx⟩ := reads os enc
  refine returnsInHanded_of_row (C := Try.checked) (s := OpenSpec.ofChange Rows.msgidSetsSpec) own started (by kernel_rfl) Try.func7
    (witness_row_at (enc := enc) (C := Try.checked) false (laidWorld os) #[.slice none 0 0, .slice none 0 0] rfl (by kernel_rfl) (by kernel_rfl) (by kernel_rfl)
      (OpenSpec.preRow_of_cond 8 hx (by kernel_rfl) (fun k hk => by cases hk) (by kernel_rfl) (laid_met os))) ?_
  intro W base args ds gs before hval hW _ _ _ hL hs _
  exact contract H enc W base args ds gs before hval hW hL hs

theorem said : Rows.MsgidSetsSaid :=
  OpenClaim.holds_of_cond 7 Try.f7 rfl rfl rfl rfl rfl rfl rfl ⟨rfl, rfl, rfl, rfl, rfl⟩ rfl rfl rfl rfl rfl (by kernel_rfl) Try.func7 (by kernel_rfl)
    (of_decide_eq_true (by kernel_rfl)) (by unfold Func.isWrapper; first | (rw [if_pos (by decide +kernel)]; kernel_rfl) | (rw [if_neg (by decide +kernel)]; exact ⟨rfl, rfl⟩))
    (fun os started H enc _ F => by rw [OpenClaim.pre_eq_preRow]; exact lifted os started H enc F)

end Go.Proofs.Yteoknmdoghemmaa.msgidSetsLaw
namespace Go.Proofs.Yteoknmdoghemmaa

/-- THE STATEMENT OF MsgidSets -/
theorem msgidSets_said : Rows.MsgidSetsSaid := msgidSetsLaw.said
#print axioms msgidSets_said
end Go.Proofs.Yteoknmdoghemmaa
