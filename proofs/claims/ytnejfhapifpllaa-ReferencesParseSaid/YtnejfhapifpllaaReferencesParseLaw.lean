/- ReferencesParse: whatever the text, Parse answers as the reference does. Conditions: none beyond the row's own. -/
import Derived.Test.YtnejfhapifpllaaPrs
import Derived.Test.YtnejfhapifpllaaRPrs
import Derived.Test.YtnejfhapifpllaaOpenR
import Derived.Test.YtnejfhapifpllaaKnown
namespace Go.Proofs.Ytnejfhapifpllaa.referencesParseLaw
open Go.ChangeShapes Go.WideShapes Go.ChangeAt Go.RowKit
open Go.ChangeMaps (open_string shut_string)

set_option maxRecDepth 100000 in
set_option maxHeartbeats 4000000 in
theorem walk (s : ByteArray) (w : World) :
    Calls Try.prog 4 #[.string s] w fun e w' => e = .returned (.bool true) ∧ Below w.heap.size w w' := by
  have HK := Lib.hid (fun w => known_any w)
  by_cases hl : 3000 < s.size
  · have hlI : (3000 : Int) < (s.size : Int) := by omega
    go_enter Try.func4, Try.ntmps4
    have B_0 := Lib.hid (Below.refl w.heap.size w)
    go_wp2_with fail
    refine (HK.out _).mono ?_
    rintro e w1 ⟨rfl, hb1⟩
    have B_1 := Lib.hid (B_0.out.trans (hb1.mono B_0.out.size))
    clear hb1 
    go_wp2_with fail
    refine (HK.out _).mono ?_
    rintro e w2 ⟨rfl, hb2⟩
    have B_2 := Lib.hid (B_1.out.trans (hb2.mono B_1.out.size))
    clear hb2 
    go_wp2_with fail
    go_ret
    exact ⟨rfl, B_2.out⟩
  have hlI : ¬ (3000 : Int) < (s.size : Int) := by omega
  obtain ⟨R0, hR0⟩ := Mid.toks_ex s.data.toList _ 0 (Nat.le_refl _)
  have HP := Lib.hid (fun W => pParse_any s (by omega) R0 hR0 W)
  have HR := Lib.hid (fun W => refParseL_any s (by omega) R0 hR0 W)
  obtain ⟨D, q1, q2, hD⟩ : ∃ D q1 q2, Mid.prs R0 [] = (D, q1, q2) := ⟨_, _, _, rfl⟩
  have HD := Lib.hid hD
  have HSA := Lib.hid (fun W v u h1 h2 => same_any v u D D W h1 h2)
  rw [decide_eq_true rfl] at HSA
  clear hl hD hR0
  go_enter Try.func4, Try.ntmps4
  have B_0 := Lib.hid (Below.refl w.heap.size w)
  go_wp2_with fail
  refine (HK.out _).mono ?_
  rintro e w1 ⟨rfl, hb1⟩
  have B_1 := Lib.hid (B_0.out.trans (hb1.mono B_0.out.size))
  clear hb1 
  go_wp2_with fail
  refine (HP.out _).mono ?_
  rintro e w2 ⟨v1, l1, a1, b1, rfl, he1, hi1, hb2⟩
  have B_2 := Lib.hid (B_1.out.trans (hb2.mono B_1.out.size))
  clear hb2 
  obtain ⟨rfl, rfl, rfl⟩ : l1 = D ∧ a1 = q1 ∧ b1 = q2 := by have h := he1.symm.trans HD.out; obtain ⟨h1, h2⟩ := Prod.mk.inj h; obtain ⟨h3, h4⟩ := Prod.mk.inj h2; exact ⟨h1, h3, h4⟩
  have J_2 := Lib.hid (hi1)
  clear he1 hi1
  go_wp2_with fail
  refine (HR.out _).mono ?_
  rintro e w3 ⟨v2, l2, a2, b2, rfl, he2, hi2, hb3⟩
  have B_3 := Lib.hid (B_2.out.trans (hb3.mono B_2.out.size))
  have J_3 := Lib.hid (J_2.out.below hb3)
  clear hb3 
  obtain ⟨rfl, rfl, rfl⟩ : l2 = l1 ∧ a2 = a1 ∧ b2 = b1 := by have h := he2.symm.trans HD.out; obtain ⟨h1, h2⟩ := Prod.mk.inj h; obtain ⟨h3, h4⟩ := Prod.mk.inj h2; exact ⟨h1, h3, h4⟩
  have L_3 := Lib.hid (hi2)
  clear he2 hi2
  go_wp2_with fail
  refine (HSA.out _ _ _ J_3.out L_3.out).mono ?_
  rintro e w4 ⟨rfl, hb4⟩
  have B_4 := Lib.hid (B_3.out.trans (hb4.mono B_3.out.size))
  have J_4 := Lib.hid (J_3.out.below hb4)
  have L_4 := Lib.hid (L_3.out.below hb4)
  clear hb4 
  go_wp2_with fail
  go_ret
  exact ⟨rfl, B_4.out⟩

set_option maxRecDepth 100000 in
theorem contract (H : Type) (enc : TypeId × Value → H) (W : World) (base : Nat) (args : Array Value) (ds gs : List (DataW H)) (before : List MemPlace)
    (hval : ∀ (j : Nat) t v, Try.f4.params[j]? = some t → args[j]? = some v → Value.okWide Try.prog W .any base t v)
    (hW : DataW.Whole enc Try.prog Try.f4.params.toList Rows.referencesParseSpec.vars false W args.toList ds gs before) (_hL : laidMetH Try.prog Rows.referencesParseRow.laid W) (_hs : W.ShapedOpen Try.prog) :
    Calls Try.prog 4 args W fun e W' => ∃ v, e = .returned v ∧ Rows.referencesParseSpec.post enc Try.prog Try.f4 false true false false W args v W' := by
  have hW' := hW
  obtain ⟨p, q, hA0, hV, rfl, hfz, hnd⟩ := hW
  have hA : DataW.TrodAll enc Try.prog W 0 (fun _ => true) true Try.f4.params.toList args.toList ds p := hA0
  rw [Try.params4] at hA hval
  obtain ⟨v0, vs0, d0, ds0, p0, q0, hargs, rfl, rfl, h0, r0⟩ := trodAll_cons hA
  obtain ⟨rfl, rfl, rfl⟩ := trodAll_nil r0
  obtain rfl : args = #[v0] := by cases args; simp_all
  obtain ⟨rfl, rfl⟩ := trodVars_none hV
  obtain ⟨a0, rfl, rfl, rfl, w0⟩ := open_string Try.underlying9 (hval 0 9 v0 rfl rfl) h0
  clear hA0
  simp only [List.append_nil] at hW'
  refine (walk a0 W).mono fun e W' ⟨he, bel⟩ => ?_
  subst he
  exact ⟨_, rfl, _, _, _, [], [], [], hW', trodAll_mk1 (shut_bool Try.underlying4 _), (trodAll_cons_mk (shut_string Try.underlying9 w0) trodAll_mk0), rfl, bel.frame _, fun h => by cases h⟩

theorem laid_met (os : Os) : laidMet Try.prog Rows.referencesParseRow.laid ((laidWorld os).forCall (fun _ _ => 0) ⟨#[], #[.string ByteArray.empty], []⟩).memory :=
  laidMet_of_run' 8 (by kernel_rfl) (by kernel_rfl)
theorem reads (os : Os) {H : Type} (enc : TypeId × Value → H) : ∃ places, DataW.whole enc Try.prog ((laidWorld os).forCall (fun _ _ => 0) ⟨#[], #[.string ByteArray.empty], []⟩).memory Try.f4.params.toList Rows.referencesParseSpec.vars false (#[.string ByteArray.empty] : Array Value).toList 8 = some ([.lit (.string [])], [], places) :=
  ⟨[], by kernel_rfl⟩

set_option maxRecDepth 100000 in
theorem lifted (os : Os) (started : os.Started) (H : Type) (enc : TypeId × Value → H) (F : Stop.Interp) :
    ReturnsInHanded {} Try.checked os 4 .any ((OpenSpec.ofChange Rows.referencesParseSpec).preRow enc Try.prog Try.f4 Rows.referencesParseRow.domain false Rows.referencesParseRow.laid) (((OpenSpec.ofChange Rows.referencesParseSpec).at F).post enc Try.prog Try.f4 false true false false) := by
  obtain ⟨places, hx⟩ := reads os enc
  refine returnsInHanded_of_row (C := Try.checked) (s := OpenSpec.ofChange Rows.referencesParseSpec) own started (by kernel_rfl) Try.func4
    (witness_row_at (enc := enc) (C := Try.checked) false (laidWorld os) #[.string ByteArray.empty] rfl (by kernel_rfl) (by kernel_rfl) (by kernel_rfl)
      (OpenSpec.preRow_of_cond 8 hx (by kernel_rfl) (fun k hk => by cases hk) (by kernel_rfl) (laid_met os))) ?_
  intro W base args ds gs before hval hW _ _ _ hL hs _
  exact contract H enc W base args ds gs before hval hW hL hs

theorem said : Rows.ReferencesParseSaid :=
  OpenClaim.holds_of_cond 4 Try.f4 rfl rfl rfl rfl rfl rfl rfl ⟨rfl, rfl, rfl, rfl, rfl⟩ rfl rfl rfl rfl rfl (by kernel_rfl) Try.func4 (by kernel_rfl)
    (of_decide_eq_true (by kernel_rfl)) (by unfold Func.isWrapper; first | (rw [if_pos (by decide +kernel)]; kernel_rfl) | (rw [if_neg (by decide +kernel)]; exact ⟨rfl, rfl⟩))
    (fun os started H enc _ F => by rw [OpenClaim.pre_eq_preRow]; exact lifted os started H enc F)

end Go.Proofs.Ytnejfhapifpllaa.referencesParseLaw
namespace Go.Proofs.Ytnejfhapifpllaa

/-- THE STATEMENT OF ReferencesParse -/
theorem referencesParse_said : Rows.ReferencesParseSaid := referencesParseLaw.said
#print axioms referencesParse_said
end Go.Proofs.Ytnejfhapifpllaa
