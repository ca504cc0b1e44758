/- ReferencesMerge: whatever the two lists, IsTrimmed and Merge answer as the reference does, and the order of Merge's arguments does not matter. Conditions: none beyond the row's own. -/
import Derived.Test.YtnejfhapifpllaaMerge
import Derived.Test.YtnejfhapifpllaaOpenR
namespace Go.Proofs.Ytnejfhapifpllaa.referencesMergeLaw
open Go.ChangeShapes Go.WideShapes Go.ChangeAt Go.RowKit
open Go.ChangeMaps (open_string shut_string)

set_option maxRecDepth 100000 in
set_option maxHeartbeats 4000000 in
theorem walk (p : Option Addr) (len cap : Nat) (a : List Mid.Id) (p2 : Option Addr) (len2 cap2 : Nat) (b : List Mid.Id) (w : World) (hv : Ids w (.slice p len cap) a) (hlen : a.length = len) (hu : Ids w (.slice p2 len2 cap2) b) (hlen2 : b.length = len2) :
    Calls Try.prog 10 #[.slice p len cap, .slice p2 len2 cap2] w fun e w' => e = .returned (.bool true) ∧ Below w.heap.size w w' := by
  have HK := Lib.hid (fun w => known_any w)
  by_cases hl : 30 < len
  · have hlI : (30 : Int) < (len : Int) := by omega
    go_enter Try.func10, Try.ntmps10
    have B_20 := Lib.hid (Below.refl w.heap.size w)
    go_wp2_with fail
    refine (HK.out _).mono ?_
    rintro e w21 ⟨rfl, hb21⟩
    have B_21 := Lib.hid (B_20.out.trans (hb21.mono B_20.out.size))
    clear hb21 
    go_wp2_with fail
    refine (HK.out _).mono ?_
    rintro e w22 ⟨rfl, hb22⟩
    have B_22 := Lib.hid (B_21.out.trans (hb22.mono B_21.out.size))
    clear hb22 
    go_wp2_with fail
    go_ret
    exact ⟨rfl, B_22.out⟩
  have hlI : ¬ (30 : Int) < (len : Int) := by omega
  by_cases hl2 : 30 < len2
  · have hlI2 : (30 : Int) < (len2 : Int) := by omega
    go_enter Try.func10, Try.ntmps10
    have B_20 := Lib.hid (Below.refl w.heap.size w)
    go_wp2_with fail
    refine (HK.out _).mono ?_
    rintro e w21 ⟨rfl, hb21⟩
    have B_21 := Lib.hid (B_20.out.trans (hb21.mono B_20.out.size))
    clear hb21 
    go_wp2_with fail
    refine (HK.out _).mono ?_
    rintro e w22 ⟨rfl, hb22⟩
    have B_22 := Lib.hid (B_21.out.trans (hb22.mono B_21.out.size))
    clear hb22 
    go_wp2_with fail
    go_ret
    exact ⟨rfl, B_22.out⟩
  have hlI2 : ¬ (30 : Int) < (len2 : Int) := by omega
  have HA := Lib.hid (show a.length ≤ 30 by omega); have HB := Lib.hid (show b.length ≤ 30 by omega)
  have HOA := Lib.hid (fun W v h => own_any v a W (by have := HA.out; omega) h)
  have HOB := Lib.hid (fun W v h => own_any v b W (by have := HB.out; omega) h)
  have HM := Lib.hid (fun W v u h1 h2 => merge_any v u a b W h1 h2)
  have HN := Lib.hid (fun W v u h1 h2 => merge_any v u b a W h1 h2)
  have HR := Lib.hid (fun W v u h1 h2 => refMerge_any v u a b W h1 h2)
  have HT := Lib.hid (fun W v u h1 h2 => isTrimmed_any v u a b W (by have := HA.out; omega) (by have := HB.out; omega) h1 h2)
  have HS := Lib.hid (fun W v u h1 h2 => refIsTrimmed_any v u a b W (by have := HA.out; omega) (by have := HB.out; omega) h1 h2)
  have HC := Lib.hid (Mid.merge_comm a b)
  have V := Lib.hid hv; have U := Lib.hid hu
  obtain ⟨D, q, hD⟩ : ∃ D q, Mid.merge a b = (D, q) := ⟨_, _, rfl⟩
  obtain ⟨D', q', hD'⟩ : ∃ D q, Mid.merge b a = (D, q) := ⟨_, _, rfl⟩
  rw [hD, hD'] at HC
  have HD := Lib.hid hD; have HD' := Lib.hid hD'
  have HSA := Lib.hid (fun W v u h1 h2 => same_any v u D D W h1 h2)
  rw [decide_eq_true rfl] at HSA
  clear hv hu hlen hlen2 hl hl2 hD hD'
  go_enter Try.func10, Try.ntmps10
  have B_0 := Lib.hid (Below.refl w.heap.size w)
  go_wp2_with fail
  refine (HK.out _).mono ?_
  rintro e w1 ⟨rfl, hb1⟩
  have B_1 := Lib.hid (B_0.out.trans (hb1.mono B_0.out.size))
  have V_1 := Lib.hid (V.out.below hb1)
  have U_1 := Lib.hid (U.out.below hb1)
  clear hb1 
  go_wp2_with fail
  refine (HOA.out _ _ V_1.out).mono ?_
  rintro e w2 ⟨v1, rfl, hi, hb2⟩
  have B_2 := Lib.hid (B_1.out.trans (hb2.mono B_1.out.size))
  have V_2 := Lib.hid (V_1.out.below hb2)
  have U_2 := Lib.hid (U_1.out.below hb2)
  have A_2 := Lib.hid (hi)
  clear hb2 hi
  go_wp2_with fail
  refine (HOB.out _ _ U_2.out).mono ?_
  rintro e w3 ⟨v2, rfl, hi, hb3⟩
  have B_3 := Lib.hid (B_2.out.trans (hb3.mono B_2.out.size))
  have V_3 := Lib.hid (V_2.out.below hb3)
  have U_3 := Lib.hid (U_2.out.below hb3)
  have A_3 := Lib.hid (A_2.out.below hb3)
  have C_3 := Lib.hid (hi)
  clear hb3 hi
  go_wp2_with fail
  refine (HM.out _ _ _ A_3.out C_3.out).mono ?_
  rintro e w4 ⟨v3, l3, q3, rfl, he3, hi3, hb4⟩
  have B_4 := Lib.hid (B_3.out.trans (hb4.mono B_3.out.size))
  have V_4 := Lib.hid (V_3.out.below hb4)
  have U_4 := Lib.hid (U_3.out.below hb4)
  have A_4 := Lib.hid (A_3.out.below hb4)
  have C_4 := Lib.hid (C_3.out.below hb4)
  clear hb4 
  obtain ⟨rfl, rfl⟩ : l3 = D ∧ q3 = q := by have := he3.symm.trans HD.out; exact Prod.mk.inj this
  have J_4 := Lib.hid (hi3)
  clear he3 hi3
  go_wp2_with fail
  refine (HR.out _ _ _ V_4.out U_4.out).mono ?_
  rintro e w5 ⟨v4, l4, q4, rfl, he4, hi4, hb5⟩
  have B_5 := Lib.hid (B_4.out.trans (hb5.mono B_4.out.size))
  have V_5 := Lib.hid (V_4.out.below hb5)
  have U_5 := Lib.hid (U_4.out.below hb5)
  have A_5 := Lib.hid (A_4.out.below hb5)
  have C_5 := Lib.hid (C_4.out.below hb5)
  have J_5 := Lib.hid (J_4.out.below hb5)
  clear hb5 
  obtain ⟨rfl, rfl⟩ : l4 = l3 ∧ q4 = q3 := by have := he4.symm.trans HD.out; exact Prod.mk.inj this
  have L_5 := Lib.hid (hi4)
  clear he4 hi4
  go_wp2_with fail
  refine (HOB.out _ _ U_5.out).mono ?_
  rintro e w6 ⟨v5, rfl, hi, hb6⟩
  have B_6 := Lib.hid (B_5.out.trans (hb6.mono B_5.out.size))
  have V_6 := Lib.hid (V_5.out.below hb6)
  have U_6 := Lib.hid (U_5.out.below hb6)
  have A_6 := Lib.hid (A_5.out.below hb6)
  have C_6 := Lib.hid (C_5.out.below hb6)
  have J_6 := Lib.hid (J_5.out.below hb6)
  have L_6 := Lib.hid (L_5.out.below hb6)
  have C_6 := Lib.hid (hi)
  clear hb6 hi
  go_wp2_with fail
  refine (HOA.out _ _ V_6.out).mono ?_
  rintro e w7 ⟨v6, rfl, hi, hb7⟩
  have B_7 := Lib.hid (B_6.out.trans (hb7.mono B_6.out.size))
  have V_7 := Lib.hid (V_6.out.below hb7)
  have U_7 := Lib.hid (U_6.out.below hb7)
  have A_7 := Lib.hid (A_6.out.below hb7)
  have C_7 := Lib.hid (C_6.out.below hb7)
  have J_7 := Lib.hid (J_6.out.below hb7)
  have L_7 := Lib.hid (L_6.out.below hb7)
  have A_7 := Lib.hid (hi)
  clear hb7 hi
  go_wp2_with fail
  refine (HN.out _ _ _ C_7.out A_7.out).mono ?_
  rintro e w8 ⟨v7, l7, q7, rfl, he7, hi7, hb8⟩
  have B_8 := Lib.hid (B_7.out.trans (hb8.mono B_7.out.size))
  have V_8 := Lib.hid (V_7.out.below hb8)
  have U_8 := Lib.hid (U_7.out.below hb8)
  have A_8 := Lib.hid (A_7.out.below hb8)
  have C_8 := Lib.hid (C_7.out.below hb8)
  have J_8 := Lib.hid (J_7.out.below hb8)
  have L_8 := Lib.hid (L_7.out.below hb8)
  clear hb8 
  obtain ⟨rfl, rfl⟩ : l7 = D' ∧ q7 = q' := by have := he7.symm.trans HD'.out; exact Prod.mk.inj this
  have M_8 := Lib.hid (hi7)
  clear he7 hi7
  go_wp2_with fail
  refine (HSA.out _ _ _ J_8.out L_8.out).mono ?_
  rintro e w9 ⟨rfl, hb9⟩
  have B_9 := Lib.hid (B_8.out.trans (hb9.mono B_8.out.size))
  have V_9 := Lib.hid (V_8.out.below hb9)
  have U_9 := Lib.hid (U_8.out.below hb9)
  have A_9 := Lib.hid (A_8.out.below hb9)
  have C_9 := Lib.hid (C_8.out.below hb9)
  have J_9 := Lib.hid (J_8.out.below hb9)
  have L_9 := Lib.hid (L_8.out.below hb9)
  have M_9 := Lib.hid (M_8.out.below hb9)
  clear hb9 
  go_wp2_with fail
  refine (HOA.out _ _ V_9.out).mono ?_
  rintro e w10 ⟨v8, rfl, hi, hb10⟩
  have B_10 := Lib.hid (B_9.out.trans (hb10.mono B_9.out.size))
  have V_10 := Lib.hid (V_9.out.below hb10)
  have U_10 := Lib.hid (U_9.out.below hb10)
  have A_10 := Lib.hid (A_9.out.below hb10)
  have C_10 := Lib.hid (C_9.out.below hb10)
  have J_10 := Lib.hid (J_9.out.below hb10)
  have L_10 := Lib.hid (L_9.out.below hb10)
  have M_10 := Lib.hid (M_9.out.below hb10)
  have A_10 := Lib.hid (hi)
  clear hb10 hi
  go_wp2_with fail
  refine (HOB.out _ _ U_10.out).mono ?_
  rintro e w11 ⟨v9, rfl, hi, hb11⟩
  have B_11 := Lib.hid (B_10.out.trans (hb11.mono B_10.out.size))
  have V_11 := Lib.hid (V_10.out.below hb11)
  have U_11 := Lib.hid (U_10.out.below hb11)
  have A_11 := Lib.hid (A_10.out.below hb11)
  have C_11 := Lib.hid (C_10.out.below hb11)
  have J_11 := Lib.hid (J_10.out.below hb11)
  have L_11 := Lib.hid (L_10.out.below hb11)
  have M_11 := Lib.hid (M_10.out.below hb11)
  have C_11 := Lib.hid (hi)
  clear hb11 hi
  go_wp2_with fail
  refine (HT.out _ _ _ A_11.out C_11.out).mono ?_
  rintro e w12 ⟨rfl, hb12⟩
  have B_12 := Lib.hid (B_11.out.trans (hb12.mono B_11.out.size))
  have V_12 := Lib.hid (V_11.out.below hb12)
  have U_12 := Lib.hid (U_11.out.below hb12)
  have A_12 := Lib.hid (A_11.out.below hb12)
  have C_12 := Lib.hid (C_11.out.below hb12)
  have J_12 := Lib.hid (J_11.out.below hb12)
  have L_12 := Lib.hid (L_11.out.below hb12)
  have M_12 := Lib.hid (M_11.out.below hb12)
  clear hb12 
  go_wp2_with fail
  refine (HS.out _ _ _ V_12.out U_12.out).mono ?_
  rintro e w13 ⟨rfl, hb13⟩
  have B_13 := Lib.hid (B_12.out.trans (hb13.mono B_12.out.size))
  have V_13 := Lib.hid (V_12.out.below hb13)
  have U_13 := Lib.hid (U_12.out.below hb13)
  have A_13 := Lib.hid (A_12.out.below hb13)
  have C_13 := Lib.hid (C_12.out.below hb13)
  have J_13 := Lib.hid (J_12.out.below hb13)
  have L_13 := Lib.hid (L_12.out.below hb13)
  have M_13 := Lib.hid (M_12.out.below hb13)
  clear hb13 
  generalize Mid.isTr a b = tb at *
  by_cases hq : q4 = 0
  · have hq7 : q7 = 0 := HC.out.1.1 hq
    have hl7 : l7 = l4 := HC.out.2 hq
    subst hq hq7 hl7
    cases tb
    · go_wp2_with fail
      refine (HSA.out _ _ _ M_13.out L_13.out).mono ?_
      rintro e w14 ⟨rfl, hb14⟩
      have B_14 := Lib.hid (B_13.out.trans (hb14.mono B_13.out.size))
      have V_14 := Lib.hid (V_13.out.below hb14)
      have U_14 := Lib.hid (U_13.out.below hb14)
      have A_14 := Lib.hid (A_13.out.below hb14)
      have C_14 := Lib.hid (C_13.out.below hb14)
      have J_14 := Lib.hid (J_13.out.below hb14)
      have L_14 := Lib.hid (L_13.out.below hb14)
      have M_14 := Lib.hid (M_13.out.below hb14)
      clear hb14 
      go_wp2_with fail
      go_ret
      exact ⟨rfl, B_14.out⟩
    · go_wp2_with fail
      refine (HSA.out _ _ _ M_13.out L_13.out).mono ?_
      rintro e w14 ⟨rfl, hb14⟩
      have B_14 := Lib.hid (B_13.out.trans (hb14.mono B_13.out.size))
      have V_14 := Lib.hid (V_13.out.below hb14)
      have U_14 := Lib.hid (U_13.out.below hb14)
      have A_14 := Lib.hid (A_13.out.below hb14)
      have C_14 := Lib.hid (C_13.out.below hb14)
      have J_14 := Lib.hid (J_13.out.below hb14)
      have L_14 := Lib.hid (L_13.out.below hb14)
      have M_14 := Lib.hid (M_13.out.below hb14)
      clear hb14 
      go_wp2_with fail
      go_ret
      exact ⟨rfl, B_14.out⟩
  · have hqI : ¬ (q4 : Int) = 0 := by omega
    have hq7 : ¬ q7 = 0 := fun h => hq (HC.out.1.2 h)
    have hqI7 : ¬ (q7 : Int) = 0 := by omega
    have hbb : ((q4 : Int) == 0) = ((q7 : Int) == 0) := by rw [beq_eq_false_iff_ne.2 hqI, beq_eq_false_iff_ne.2 hqI7]
    cases tb
    · go_wp2_with fail
      go_ret
      exact ⟨rfl, B_13.out⟩
    · go_wp2_with fail
      go_ret
      exact ⟨rfl, B_13.out⟩

set_option maxRecDepth 100000 in
theorem contract (H : Type) (enc : TypeId × Value → H) (W : World) (base : Nat) (args : Array Value) (ds gs : List (DataW H)) (before : List MemPlace)
    (hval : ∀ (j : Nat) t v, Try.f10.params[j]? = some t → args[j]? = some v → Value.okWide Try.prog W .any base t v)
    (hW : DataW.Whole enc Try.prog Try.f10.params.toList Rows.referencesMergeSpec.vars false W args.toList ds gs before) (_hL : laidMetH Try.prog Rows.referencesMergeRow.laid W) (_hs : W.ShapedOpen Try.prog) :
    Calls Try.prog 10 args W fun e W' => ∃ v, e = .returned v ∧ Rows.referencesMergeSpec.post enc Try.prog Try.f10 false true false false W args v W' := by
  have hW' := hW
  obtain ⟨p, q, hA0, hV, rfl, hfz, hnd⟩ := hW
  have hA : DataW.TrodAll enc Try.prog W 0 (fun _ => true) true Try.f10.params.toList args.toList ds p := hA0
  rw [Try.params10] at hA hval
  obtain ⟨v0, vs0, d0, ds0, p0, q0, hargs, rfl, rfl, h0, r0⟩ := trodAll_cons hA
  obtain ⟨v1, vs1, d1, ds1, p1, q1, rfl, rfl, rfl, h1, r1⟩ := trodAll_cons r0
  obtain ⟨rfl, rfl, rfl⟩ := trodAll_nil r1
  obtain rfl : args = #[v0, v1] := by cases args; simp_all
  obtain ⟨rfl, rfl⟩ := trodVars_none hV
  obtain ⟨a0, len0, cap0, rfl⟩ := okWide_slice Try.underlying22 (hval 0 22 v0 rfl rfl)
  have k0 := h0
  have lt0 : ∀ x ∈ p0, x.block < W.heap.size := by obtain ⟨m, hm⟩ := k0; exact DataW.trod_lt m _ _ _ hm
  obtain ⟨l0, w0, e0⟩ := ids_openR h0
  obtain ⟨a1, len1, cap1, rfl⟩ := okWide_slice Try.underlying22 (hval 1 22 v1 rfl rfl)
  have k1 := h1
  have lt1 : ∀ x ∈ p1, x.block < W.heap.size := by obtain ⟨m, hm⟩ := k1; exact DataW.trod_lt m _ _ _ hm
  obtain ⟨l1, w1, e1⟩ := ids_openR h1
  clear hA0
  refine (walk a0 len0 cap0 l0 a1 len1 cap1 l1 W w0 e0 w1 e1).mono fun e W' ⟨he, bel⟩ => ?_
  subst he
  exact ⟨_, rfl, _, _, _, [], _, [], hW', trodAll_mk1 (shut_bool Try.underlying4 _), (trodAll_cons_mk (Below.trod laidOut (by kernel_rfl) (of_decide_eq_true (by kernel_rfl)) k0 bel lt0) (trodAll_cons_mk (Below.trod laidOut (by kernel_rfl) (of_decide_eq_true (by kernel_rfl)) k1 bel lt1) trodAll_mk0)), rfl, bel.frame _, fun h => by cases h⟩

theorem laid_met (os : Os) : laidMet Try.prog Rows.referencesMergeRow.laid ((laidWorld os).forCall (fun _ _ => 0) ⟨#[], #[.slice none 0 0, .slice none 0 0], []⟩).memory :=
  laidMet_of_run' 8 (by kernel_rfl) (by kernel_rfl)
theorem reads (os : Os) {H : Type} (enc : TypeId × Value → H) : ∃ places, DataW.whole enc Try.prog ((laidWorld os).forCall (fun _ _ => 0) ⟨#[], #[.slice none 0 0, .slice none 0 0], []⟩).memory Try.f10.params.toList Rows.referencesMergeSpec.vars false (#[.slice none 0 0, .slice none 0 0] : Array Value).toList 8 = some ([.nil, .nil], [], places) :=
  ⟨[], by kernel_rfl⟩

set_option maxRecDepth 100000 in
theorem lifted (os : Os) (started : os.Started) (H : Type) (enc : TypeId × Value → H) (F : Stop.Interp) :
    ReturnsInHanded {} Try.checked os 10 .any ((OpenSpec.ofChange Rows.referencesMergeSpec).preRow enc Try.prog Try.f10 Rows.referencesMergeRow.domain false Rows.referencesMergeRow.laid) (((OpenSpec.ofChange Rows.referencesMergeSpec).at F).post enc Try.prog Try.f10 false true false false) := by
  obtain ⟨places, hx⟩ := reads os enc
  refine returnsInHanded_of_row (C := Try.checked) (s := OpenSpec.ofChange Rows.referencesMergeSpec) own started (by kernel_rfl) Try.func10
    (witness_row_at (enc := enc) (C := Try.checked) false (laidWorld os) #[.slice none 0 0, .slice none 0 0] rfl (by kernel_rfl) (by kernel_rfl) (by kernel_rfl)
      (OpenSpec.preRow_of_cond 8 hx (by kernel_rfl) (fun k hk => by cases hk) (by kernel_rfl) (laid_met os))) ?_
  intro W base args ds gs before hval hW _ _ _ hL hs _
  exact contract H enc W base args ds gs before hval hW hL hs

theorem said : Rows.ReferencesMergeSaid :=
  OpenClaim.holds_of_cond 10 Try.f10 rfl rfl rfl rfl rfl rfl rfl ⟨rfl, rfl, rfl, rfl, rfl⟩ rfl rfl rfl rfl rfl (by kernel_rfl) Try.func10 (by kernel_rfl)
    (of_decide_eq_true (by kernel_rfl)) (by unfold Func.isWrapper; first | (rw [if_pos (by decide +kernel)]; kernel_rfl) | (rw [if_neg (by decide +kernel)]; exact ⟨rfl, rfl⟩))
    (fun os started H enc _ F => by rw [OpenClaim.pre_eq_preRow]; exact lifted os started H enc F)

end Go.Proofs.Ytnejfhapifpllaa.referencesMergeLaw
namespace Go.Proofs.Ytnejfhapifpllaa

/-- THE STATEMENT OF ReferencesMerge -/
theorem referencesMerge_said : Rows.ReferencesMergeSaid := referencesMergeLaw.said
#print axioms referencesMerge_said
end Go.Proofs.Ytnejfhapifpllaa
