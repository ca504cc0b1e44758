/- AsciiClasses: whatever text comes in, the law's call returns true and its arguments read as before; the library's variables read as the program's text lays them (the card ties them).
   Conditions: none beyond the row's own. -/
import Derived.Test.YtgopcplcamljmaaDoorOpen
namespace Go.Proofs.YtgopcplcamljmaaDoor.asciiClassesLaw
open Go.ChangeShapes Go.WideShapes Go.ChangeAt Go.RowKit
open Go.ChangeMaps (open_string shut_string)

set_option maxRecDepth 20000 in
set_option maxHeartbeats 1000000 in
theorem walk (s0 : ByteArray) (hs0 : s0.size ≤ maxLen) (w : World) (hI : Inv w) :
    Calls Tryd.prog 3 #[.string s0] w fun e w' => e = .returned (.bool true) ∧ Below w.heap.size w w' := by
  obtain ⟨s, hs⟩ : ∃ t, t = cutS s0 := ⟨_, rfl⟩
  have hss : s.size ≤ 300 := by rw [hs]; exact cutS_size s0
  have hm : ∀ s : ByteArray, s.size ≤ 300 → s.size ≤ maxLen := fun s h => by unfold maxLen; omega
  obtain ⟨z, hz⟩ : ∃ z, z = prAt s := ⟨_, rfl⟩
  have h1 := fun w => cut_any s0 w hs0 s hs
  have h2 := fun w hI => known_any w hI
  have h3 := fun w => printable_any s w (hm s hss) z hz
  have h4 := fun w => refPrintable_any s w (by omega) z hz
  have H1 := Lib.hid h1; have H2 := Lib.hid h2; have H3 := Lib.hid h3; have H4 := Lib.hid h4
  clear h1 h2 h3 h4 hs hz hm
  go_enter Tryd.func3, Tryd.ntmps3
  go_wp2_with fail
  go_loop [3] (fun i => ∃ k : Nat, i = .int .i64 k ∧ k ≤ 256) (fun i => 256 - (intOf i).toNat)
  case atStart => exact ⟨0, rfl, by omega⟩
  case round =>
    obtain ⟨k, rfl, hk⟩ := hrel
    by_cases hlt : k < 256
    · obtain ⟨c, hc⟩ : ∃ c : UInt8, (c.toNat : Int) = (k : Int) := ⟨UInt8.ofNat k, by rw [UInt8.toNat_ofNat']; omega⟩
      have k1 := fun w => isLower_any c w
      have k2 := fun w => refLower_any c w
      have k3 := fun w => isUpper_any c w
      have k4 := fun w => refUpper_any c w
      have k5 := fun w => isLetter_any c w
      have k6 := fun w => isDigit_any c w
      have k7 := fun w => refDigit_any c w
      have k8 := fun w => isVisible_any c w
      have k9 := fun w => refVisible_any c w
      have k10 := fun w => isBlank_any c w
      have k11 := fun w => refBlank_any c w
      rw [hc] at k1 k2 k3 k4 k5 k6 k7 k8 k9 k10 k11
      generalize loB c = b1 at *
      generalize upB c = b2 at *
      generalize Asc.digB c = b3 at *
      generalize viB c = b4 at *
      generalize blB c = b5 at *
      have K1 := Lib.hid k1; have K2 := Lib.hid k2; have K3 := Lib.hid k3; have K4 := Lib.hid k4; have K5 := Lib.hid k5; have K6 := Lib.hid k6; have K7 := Lib.hid k7; have K8 := Lib.hid k8; have K9 := Lib.hid k9; have K10 := Lib.hid k10; have K11 := Lib.hid k11
      clear k1 k2 k3 k4 k5 k6 k7 k8 k9 k10 k11 hc
      cases b1
      all_goals
        go_wp2_with fail
        refine (K1.out _).mono ?_
        rintro e w0' ⟨rfl, rfl⟩
        go_wp2_with fail
        refine (K2.out _).mono ?_
        rintro e w0' ⟨rfl, rfl⟩
        go_wp2_with fail
        refine (K3.out _).mono ?_
        rintro e w0' ⟨rfl, rfl⟩
        go_wp2_with fail
        refine (K4.out _).mono ?_
        rintro e w0' ⟨rfl, rfl⟩
        go_wp2_with fail
        refine (K5.out _).mono ?_
        rintro e w0' ⟨rfl, rfl⟩
        go_wp2_with fail
        refine (K2.out _).mono ?_
        rintro e w0' ⟨rfl, rfl⟩
        go_wp2_with (go_at_call 15; refine (K4.out _).mono ?_; rintro e w0' ⟨rfl, rfl⟩)
        go_wp2_with fail
        refine (K6.out _).mono ?_
        rintro e w0' ⟨rfl, rfl⟩
        go_wp2_with fail
        refine (K7.out _).mono ?_
        rintro e w0' ⟨rfl, rfl⟩
        go_wp2_with fail
        refine (K8.out _).mono ?_
        rintro e w0' ⟨rfl, rfl⟩
        go_wp2_with fail
        refine (K9.out _).mono ?_
        rintro e w0' ⟨rfl, rfl⟩
        go_wp2_with fail
        refine (K10.out _).mono ?_
        rintro e w0' ⟨rfl, rfl⟩
        go_wp2_with fail
        refine (K11.out _).mono ?_
        rintro e w0' ⟨rfl, rfl⟩
        go_wp2_with fail
        go_round
        case rel => exact ⟨k + 1, by go_num, by omega⟩
        case measure => simp [intOf]; omega
    · have hge : ¬ (k : Int) < 256 := by omega
      go_wp2_with fail
      refine (H2.out _ hI).mono ?_
      rintro e w1 ⟨rfl, hb1⟩
      go_wp2_with fail
      refine (H1.out _).mono ?_
      rintro e w0' ⟨rfl, rfl⟩
      go_wp2_with fail
      refine (H3.out _).mono ?_
      rintro e w0' ⟨rfl, rfl⟩
      go_wp2_with fail
      refine (H1.out _).mono ?_
      rintro e w0' ⟨rfl, rfl⟩
      go_wp2_with fail
      refine (H4.out _).mono ?_
      rintro e w0' ⟨rfl, rfl⟩
      go_wp2_with fail
      go_ret
      exact ⟨rfl, hb1⟩

theorem contract (H : Type) (enc : TypeId × Value → H) (W : World) (base : Nat) (args : Array Value) (ds gs : List (DataW H)) (before : List MemPlace)
    (hval : ∀ (j : Nat) t v, Tryd.f3.params[j]? = some t → args[j]? = some v → Value.okWide Tryd.prog W .any base t v)
    (hW : DataW.Whole enc Tryd.prog Tryd.f3.params.toList Rows.asciiClassesSpec.vars false W args.toList ds gs before) (hL : laidMetH Tryd.prog Rows.asciiClassesRow.laid W) (hs : W.ShapedOpen Tryd.prog) :
    Calls Tryd.prog 3 args W fun e W' => ∃ v, e = .returned v ∧ Rows.asciiClassesSpec.post enc Tryd.prog Tryd.f3 false true false false W args v W' := by
  have hW' := hW
  obtain ⟨p, q, hA0, hV, rfl, hfz, hnd⟩ := hW
  have hA : DataW.TrodAll enc Tryd.prog W 0 (fun _ => true) true Tryd.f3.params.toList args.toList ds p := hA0
  rw [Tryd.params3] at hA hval
  obtain ⟨v0, vs0, d0, ds0, p0, q0, hargs, rfl, rfl, h0, r0⟩ := trodAll_cons hA
  obtain ⟨rfl, rfl, rfl⟩ := trodAll_nil r0
  obtain rfl : args = #[v0] := by cases args; simp_all
  obtain ⟨rfl, rfl⟩ := trodVars_none hV
  obtain ⟨a0, rfl, rfl, rfl, w0⟩ := open_string Tryd.underlying9 (hval 0 9 v0 rfl rfl) h0
  clear hA0
  simp only [List.append_nil] at hW'
  refine (walk a0 w0 W (inv hL hs)).mono fun e W' ⟨he, bel⟩ => ?_
  subst he
  exact ⟨_, rfl, _, _, _, [], [], [], hW', trodAll_mk1 (shut_bool Tryd.underlying4 _), (trodAll_cons_mk (shut_string Tryd.underlying9 w0) trodAll_mk0), rfl, bel.frame _, fun h => by cases h⟩

theorem laid_met (os : Os) : laidMet Tryd.prog Rows.asciiClassesRow.laid ((laidWorld os).forCall (fun _ _ => 0) ⟨#[], #[.string ByteArray.empty], []⟩).memory :=
  laidMet_of_run' 8 (by kernel_rfl) (by kernel_rfl)
theorem reads (os : Os) {H : Type} (enc : TypeId × Value → H) : ∃ places, DataW.whole enc Tryd.prog ((laidWorld os).forCall (fun _ _ => 0) ⟨#[], #[.string ByteArray.empty], []⟩).memory Tryd.f3.params.toList Rows.asciiClassesSpec.vars false (#[.string ByteArray.empty] : Array Value).toList 8 = some ([.lit (.string [])], [], places) :=
  ⟨[], by kernel_rfl⟩

set_option maxRecDepth 100000 in
theorem lifted (os : Os) (started : os.Started) (H : Type) (enc : TypeId × Value → H) (F : Stop.Interp) :
    ReturnsInHanded {} Tryd.checked os 3 .any ((OpenSpec.ofChange Rows.asciiClassesSpec).preRow enc Tryd.prog Tryd.f3 Rows.asciiClassesRow.domain false Rows.asciiClassesRow.laid) (((OpenSpec.ofChange Rows.asciiClassesSpec).at F).post enc Tryd.prog Tryd.f3 false true false false) := by
  obtain ⟨places, hx⟩ := reads os enc
  refine returnsInHanded_of_row (C := Tryd.checked) (s := OpenSpec.ofChange Rows.asciiClassesSpec) own started (by kernel_rfl) Tryd.func3
    (witness_row_at (enc := enc) (C := Tryd.checked) false (laidWorld os) #[.string ByteArray.empty] rfl (by kernel_rfl) (by kernel_rfl) (by kernel_rfl)
      (OpenSpec.preRow_of_cond 8 hx (by kernel_rfl) (fun k hk => by cases hk) (by kernel_rfl) (laid_met os))) ?_
  intro W base args ds gs before hval hW _ _ _ hL hs _
  exact contract H enc W base args ds gs before hval hW hL hs

theorem said : Rows.AsciiClassesSaid :=
  OpenClaim.holds_of_cond 3 Tryd.f3 rfl rfl rfl rfl rfl rfl rfl ⟨rfl, rfl, rfl, rfl, rfl⟩ rfl rfl rfl rfl rfl (by kernel_rfl) Tryd.func3 (by kernel_rfl)
    (of_decide_eq_true (by kernel_rfl)) (by unfold Func.isWrapper; first | (rw [if_pos (by decide +kernel)]; kernel_rfl) | (rw [if_neg (by decide +kernel)]; exact ⟨rfl, rfl⟩))
    (fun os started H enc _ F => by rw [OpenClaim.pre_eq_preRow]; exact lifted os started H enc F)

theorem plain (f : FuncId) (fn : Func) (hf : Tryd.pinned.checked.prog.funcNamed "bulletin/bulletinlaw01.AsciiClasses" = some f) (hfn : Tryd.pinned.checked.prog.funcs[f]? = some fn) :
    true = Tryd.pinned.checked.prog.looks [] ∧ ∀ (j : Nat) t, fn.params[j]? = some t → Tryd.pinned.checked.prog.wantsStandIn t = false := by
  obtain rfl : f = 3 := Option.some.inj ((show Tryd.prog.funcNamed "bulletin/bulletinlaw01.AsciiClasses" = some 3 by kernel_rfl).symm.trans hf) |>.symm
  obtain rfl : fn = Tryd.f3 := (Option.some.inj (Tryd.func3.symm.trans hfn)).symm
  refine ⟨by kernel_rfl, fun j t ht => ?_⟩
  rw [Tryd.params3] at ht
  obtain rfl : t = 9 := by simpa using Array.mem_of_getElem? ht
  exact (show Tryd.prog.wantsStandIn 9 = false by kernel_rfl)

end Go.Proofs.YtgopcplcamljmaaDoor.asciiClassesLaw
namespace Go.Proofs.YtgopcplcamljmaaDoor

/-- THE CARD OF AsciiClasses -/
theorem asciiClasses_card : Rows.AsciiClassesCardSaid :=
  Claim7.holds_tied_plain_at .later [] _ _ _ _ asciiClassesLaw.said (fun _ h => by cases h) (by kernel_rfl) (fun _ h => by cases h) asciiClasses_row_tie rfl ⟨rfl, rfl⟩ (by kernel_rfl) rfl asciiClassesLaw.plain (by kernel_rfl)
#print axioms asciiClasses_card
end Go.Proofs.YtgopcplcamljmaaDoor
