/- ReferencesPrint: whatever the list, Print and Check answer as the reference does. Conditions: none beyond the row's own. -/
import Derived.Test.YtnejfhapifpllaaPPrt
import Derived.Test.YtnejfhapifpllaaOpenR
import Derived.Test.YtnejfhapifpllaaKnown
import Derived.Test.YtnejfhapifpllaaTo
namespace Go.Proofs.Ytnejfhapifpllaa.referencesPrintLaw
open Go.ChangeShapes Go.WideShapes Go.ChangeAt Go.RowKit
open Go.ChangeMaps (open_string shut_string)

set_option maxRecDepth 100000 in
set_option maxHeartbeats 4000000 in
theorem walk (p : Option Addr) (len cap : Nat) (ls : List Mid.Id) (w : World) (hv : Ids w (.slice p len cap) ls) (hlen : ls.length = len) :
    Calls Try.prog 3 #[.slice p len cap] w fun e w' => e = .returned (.bool true) ∧ Below w.heap.size w w' := by
  have HK := Lib.hid (fun w => known_any w)
  by_cases hl : 30 < len
  · have hlI : (30 : Int) < (len : Int) := by omega
    go_enter Try.func3, Try.ntmps3
    have B_0 := Lib.hid (Below.refl w.heap.size w)
    go_wp2_with fail
    refine (HK.out _).mono ?_
    rintro e w1 ⟨rfl, hb1⟩
    have B_1 := Lib.hid (B_0.out.trans (hb1.mono B_0.out.size))
    clear hb1 
    go_wp2_with fail
    refine (HK.out _).mono ?_
    rintro e w2 ⟨rfl, hb2⟩
    have B_2 := Lib.hid (B_1.out.trans (hb2.mono B_1.out.size))
    clear hb2 
    go_wp2_with fail
    go_ret
    exact ⟨rfl, B_2.out⟩
  have hlI : ¬ (30 : Int) < (len : Int) := by omega
  have HO := Lib.hid (fun W v h => own_any v ls W (by omega) h)
  have HCK := Lib.hid (fun W v h => check_any v ls W h)
  obtain ⟨L, q, hD⟩ : ∃ L q, Mid.printE ls = (L, q) := ⟨_, _, rfl⟩
  obtain ⟨t, ht⟩ : ∃ t : ByteArray, t.data.toList = L := ⟨⟨L.toArray⟩, by simp⟩
  rw [← ht] at hD
  have HP := Lib.hid (fun W v h => pPrint_any v ls W h q t hD)
  have HR := Lib.hid (fun W v h => refPrint_any v ls W h q t hD)
  have hq : Mid.chk ls = q := by
    unfold Mid.printE at hD
    by_cases h : Mid.chk ls = 0
    · rw [if_neg (by omega)] at hD; rw [h]; exact (Prod.mk.inj hD).2
    · rw [if_pos h] at hD; exact (Prod.mk.inj hD).2
  rw [hq] at HCK
  have V := Lib.hid hv
  clear hv hlen hl hD ht hq
  go_enter Try.func3, Try.ntmps3
  have B_0 := Lib.hid (Below.refl w.heap.size w)
  go_wp2_with fail
  refine (HK.out _).mono ?_
  rintro e w1 ⟨rfl, hb1⟩
  have B_1 := Lib.hid (B_0.out.trans (hb1.mono B_0.out.size))
  have V_1 := Lib.hid (V.out.below hb1)
  clear hb1 
  go_wp2_with fail
  refine (HO.out _ _ V_1.out).mono ?_
  rintro e w2 ⟨v1, rfl, hi, hb2⟩
  have B_2 := Lib.hid (B_1.out.trans (hb2.mono B_1.out.size))
  have V_2 := Lib.hid (V_1.out.below hb2)
  have A_2 := Lib.hid (hi)
  clear hb2 hi
  go_wp2_with fail
  refine (HP.out _ _ A_2.out).mono ?_
  rintro e w3 ⟨rfl, hb3⟩
  have B_3 := Lib.hid (B_2.out.trans (hb3.mono B_2.out.size))
  have V_3 := Lib.hid (V_2.out.below hb3)
  have A_3 := Lib.hid (A_2.out.below hb3)
  clear hb3 
  go_wp2_with fail
  refine (HR.out _ _ V_3.out).mono ?_
  rintro e w4 ⟨rfl, hb4⟩
  have B_4 := Lib.hid (B_3.out.trans (hb4.mono B_3.out.size))
  have V_4 := Lib.hid (V_3.out.below hb4)
  have A_4 := Lib.hid (A_3.out.below hb4)
  clear hb4 
  go_wp2_with fail
  refine (HO.out _ _ V_4.out).mono ?_
  rintro e w5 ⟨v2, rfl, hi, hb5⟩
  have B_5 := Lib.hid (B_4.out.trans (hb5.mono B_4.out.size))
  have V_5 := Lib.hid (V_4.out.below hb5)
  have A_5 := Lib.hid (A_4.out.below hb5)
  have C_5 := Lib.hid (hi)
  clear hb5 hi
  go_wp2_with fail
  refine (HCK.out _ _ C_5.out).mono ?_
  rintro e w6 ⟨rfl, hb6⟩
  have B_6 := Lib.hid (B_5.out.trans (hb6.mono B_5.out.size))
  have V_6 := Lib.hid (V_5.out.below hb6)
  have A_6 := Lib.hid (A_5.out.below hb6)
  have C_6 := Lib.hid (C_5.out.below hb6)
  clear hb6 
  go_wp2_with fail
  go_ret
  exact ⟨rfl, B_6.out⟩

set_option maxRecDepth 100000 in
theorem contract (H : Type) (enc : TypeId × Value → H) (W : World) (base : Nat) (args : Array Value) (ds gs : List (DataW H)) (before : List MemPlace)
    (hval : ∀ (j : Nat) t v, Try.f3.params[j]? = some t → args[j]? = some v → Value.okWide Try.prog W .any base t v)
    (hW : DataW.Whole enc Try.prog Try.f3.params.toList Rows.referencesPrintSpec.vars false W args.toList ds gs before) (_hL : laidMetH Try.prog Rows.referencesPrintRow.laid W) (_hs : W.ShapedOpen Try.prog) :
    Calls Try.prog 3 args W fun e W' => ∃ v, e = .returned v ∧ Rows.referencesPrintSpec.post enc Try.prog Try.f3 false true false false W args v W' := by
  have hW' := hW
  obtain ⟨p, q, hA0, hV, rfl, hfz, hnd⟩ := hW
  have hA : DataW.TrodAll enc Try.prog W 0 (fun _ => true) true Try.f3.params.toList args.toList ds p := hA0
  rw [Try.params3] at hA hval
  obtain ⟨v0, vs0, d0, ds0, p0, q0, hargs, rfl, rfl, h0, r0⟩ := trodAll_cons hA
  obtain ⟨rfl, rfl, rfl⟩ := trodAll_nil r0
  obtain rfl : args = #[v0] := by cases args; simp_all
  obtain ⟨rfl, rfl⟩ := trodVars_none hV
  obtain ⟨a0, len0, cap0, rfl⟩ := okWide_slice Try.underlying22 (hval 0 22 v0 rfl rfl)
  have k0 := h0
  have lt0 : ∀ x ∈ p0, x.block < W.heap.size := by obtain ⟨m, hm⟩ := k0; exact DataW.trod_lt m _ _ _ hm
  obtain ⟨l0, w0, e0⟩ := ids_openR h0
  clear hA0
  refine (walk a0 len0 cap0 l0 W w0 e0).mono fun e W' ⟨he, bel⟩ => ?_
  subst he
  exact ⟨_, rfl, _, _, _, [], _, [], hW', trodAll_mk1 (shut_bool Try.underlying4 _), (trodAll_cons_mk (Below.trod laidOut (by kernel_rfl) (of_decide_eq_true (by kernel_rfl)) k0 bel lt0) trodAll_mk0), rfl, bel.frame _, fun h => by cases h⟩

theorem laid_met (os : Os) : laidMet Try.prog Rows.referencesPrintRow.laid ((laidWorld os).forCall (fun _ _ => 0) ⟨#[], #[.slice none 0 0], []⟩).memory :=
  laidMet_of_run' 8 (by kernel_rfl) (by kernel_rfl)
theorem reads (os : Os) {H : Type} (enc : TypeId × Value → H) : ∃ places, DataW.whole enc Try.prog ((laidWorld os).forCall (fun _ _ => 0) ⟨#[], #[.slice none 0 0], []⟩).memory Try.f3.params.toList Rows.referencesPrintSpec.vars false (#[.slice none 0 0] : Array Value).toList 8 = some ([.nil], [], places) :=
  ⟨[], by kernel_rfl⟩

set_option maxRecDepth 100000 in
theorem lifted (os : Os) (started : os.Started) (H : Type) (enc : TypeId × Value → H) (F : Stop.Interp) :
    ReturnsInHanded {} Try.checked os 3 .any ((OpenSpec.ofChange Rows.referencesPrintSpec).preRow enc Try.prog Try.f3 Rows.referencesPrintRow.domain false Rows.referencesPrintRow.laid) (((OpenSpec.ofChange Rows.referencesPrintSpec).at F).post enc Try.prog Try.f3 false true false false) := by
  obtain ⟨places, hx⟩ := reads os enc
  refine returnsInHanded_of_row (C := Try.checked) (s := OpenSpec.ofChange Rows.referencesPrintSpec) own started (by kernel_rfl) Try.func3
    (witness_row_at (enc := enc) (C := Try.checked) false (laidWorld os) #[.slice none 0 0] rfl (by kernel_rfl) (by kernel_rfl) (by kernel_rfl)
      (OpenSpec.preRow_of_cond 8 hx (by kernel_rfl) (fun k hk => by cases hk) (by kernel_rfl) (laid_met os))) ?_
  intro W base args ds gs before hval hW _ _ _ hL hs _
  exact contract H enc W base args ds gs before hval hW hL hs

theorem said : Rows.ReferencesPrintSaid :=
  OpenClaim.holds_of_cond 3 Try.f3 rfl rfl rfl rfl rfl rfl rfl ⟨rfl, rfl, rfl, rfl, rfl⟩ rfl rfl rfl rfl rfl (by kernel_rfl) Try.func3 (by kernel_rfl)
    (of_decide_eq_true (by kernel_rfl)) (by unfold Func.isWrapper; first | (rw [if_pos (by decide +kernel)]; kernel_rfl) | (rw [if_neg (by decide +kernel)]; exact ⟨rfl, rfl⟩))
    (fun os started H enc _ F => by rw [OpenClaim.pre_eq_preRow]; exact lifted os started H enc F)

end Go.Proofs.Ytnejfhapifpllaa.referencesPrintLaw
namespace Go.Proofs.Ytnejfhapifpllaa

/-- THE STATEMENT OF ReferencesPrint -/
theorem referencesPrint_said : Rows.ReferencesPrintSaid := referencesPrintLaw.said
#print axioms referencesPrint_said
end Go.Proofs.Ytnejfhapifpllaa
