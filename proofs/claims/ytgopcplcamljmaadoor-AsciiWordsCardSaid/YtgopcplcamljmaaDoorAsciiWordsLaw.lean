/- AsciiWords: whatever text comes in, the law's call returns true and its arguments read as before; the library's variables read as the program's text lays them (the card ties them).
   Conditions: none beyond the row's own. -/
import Derived.Test.YtgopcplcamljmaaDoorOpen
namespace Go.Proofs.YtgopcplcamljmaaDoor.asciiWordsLaw
open Go.ChangeShapes Go.WideShapes Go.ChangeAt Go.RowKit
open Go.ChangeMaps (open_string shut_string)

set_option maxRecDepth 20000 in
set_option maxHeartbeats 1000000 in
theorem walk (s0 : ByteArray) (hs0 : s0.size ≤ maxLen) (w : World) (hI : Inv w) :
    Calls Tryd.prog 7 #[.string s0] w fun e w' => e = .returned (.bool true) ∧ Below w.heap.size w w' := by
  obtain ⟨s, hs⟩ : ∃ t, t = cutS s0 := ⟨_, rfl⟩
  have hss : s.size ≤ 300 := by rw [hs]; exact cutS_size s0
  obtain ⟨t, ht⟩ : ∃ t, t = squS s := ⟨_, rfl⟩
  obtain ⟨u, hu⟩ : ∃ u : ByteArray, u = ⟨(Asc.trim s.data.toList).toArray⟩ := ⟨_, rfl⟩
  have hts : t.size ≤ 301 := by have := squS_size s; rw [ht]; omega
  have htl : t.data.toList = Asc.squeeze s.data.toList := by rw [ht]; rfl
  have htw : wordsS t = wordsS s := by unfold wordsS; rw [htl, Asc.words_squeeze]
  have htt : t = squS t := by
    conv => lhs; rw [ht]
    unfold squS; rw [htl, Asc.squeeze_squeeze]
  have htr : t = ⟨(Asc.trim t.data.toList).toArray⟩ := by
    rw [htl, Asc.trim_squeeze, ht]; rfl
  have hwl : (wordsS s).length ≤ 301 := by have := wordsS_len s; omega
  have h1 := fun w => cut_any s0 w hs0 s hs
  have h2 := fun w => words_strs s w (by omega)
  have h3 := fun w => squeeze_any s w (by omega) (by rw [← ht]; omega) t ht
  have h4 := fun w => refWords_strs s w (by omega)
  have h5 := fun v1 v2 w g1 g2 => same_any v1 v2 (wordsS s) (wordsS s) w g1 g2 (by omega) (by omega) true (by simp)
  have h6 := fun w => refSqueeze_any s w (by omega) t ht
  have h7 := fun w => trim_any s w (by omega) u hu
  have h8 := fun w => refTrim_any s w (by omega) u hu
  have h9 := fun w hI => known_any w hI
  have h10 := fun w => words_strs t w (by omega)
  rw [htw] at h10
  have h11 := fun w => squeeze_any t w (by omega) (by rw [← htt]; omega) t htt
  have h12 := fun w => trim_any t w (by omega) t htr
  have H1 := Lib.hid h1; have H2 := Lib.hid h2; have H3 := Lib.hid h3; have H4 := Lib.hid h4; have H5 := Lib.hid h5; have H6 := Lib.hid h6; have H7 := Lib.hid h7; have H8 := Lib.hid h8
  have H9 := Lib.hid h9; have H10 := Lib.hid h10; have H11 := Lib.hid h11; have H12 := Lib.hid h12
  have hb0 := Below.refl w.heap.size w
  clear h1 h2 h3 h4 h5 h6 h7 h8 h9 h10 h11 h12 hs hu ht htl htw htt htr hwl
  go_enter Tryd.func7, Tryd.ntmps7
  go_wp2_with fail
  refine (H1.out _).mono ?_
  rintro e w0' ⟨rfl, rfl⟩
  go_wp2_with fail
  refine (H2.out _).mono ?_
  rintro e w1 ⟨v, rfl, hv, hb1⟩
  have HV1 := Lib.hid hv
  clear hv
  go_wp2_with fail
  refine (H3.out _).mono ?_
  rintro e w2 ⟨rfl, hb2'⟩
  have hb2 := hb1.trans (hb2'.mono hb1.size)
  have HV2 := Lib.hid (HV1.out.below hb2')
  clear hb2' hb1
  go_wp2_with fail
  refine (H4.out _).mono ?_
  rintro e w3 ⟨v3, rfl, hv3, hb3'⟩
  have hb3 := hb2.trans (hb3'.mono hb2.size)
  have HV3 := Lib.hid (HV2.out.below hb3')
  have HX := Lib.hid hv3
  clear hb3' hb2 hv3
  go_wp2_with fail
  refine (H5.out _ _ _ HV3.out HX.out).mono ?_
  rintro e w4 ⟨rfl, hb4'⟩
  have hb4 := hb3.trans (hb4'.mono hb3.size)
  have HV4 := Lib.hid (HV3.out.below hb4')
  clear hb4' hb3
  go_wp2_with fail
  refine (H6.out _).mono ?_
  rintro e w5 ⟨rfl, hb5'⟩
  have hb5 := hb4.trans (hb5'.mono hb4.size)
  have HV5 := Lib.hid (HV4.out.below hb5')
  clear hb5' hb4
  go_wp2_with fail
  refine (H7.out _).mono ?_
  rintro e w6 ⟨rfl, hb6'⟩
  have hb6 := hb5.trans (hb6'.mono hb5.size)
  have HV6 := Lib.hid (HV5.out.below hb6')
  clear hb6' hb5
  go_wp2_with fail
  refine (H8.out _).mono ?_
  rintro e w0' ⟨rfl, rfl⟩
  go_wp2_with fail
  refine (H9.out _ (hI.below hb6 hI.sz)).mono ?_
  rintro e w7 ⟨rfl, hb7'⟩
  have hb7 := hb6.trans (hb7'.mono hb6.size)
  have HV7 := Lib.hid (HV6.out.below hb7')
  clear hb7' hb6
  go_wp2_with fail
  refine (H10.out _).mono ?_
  rintro e w8 ⟨v8, rfl, hv8, hb8'⟩
  have hb8 := hb7.trans (hb8'.mono hb7.size)
  have HV8 := Lib.hid (HV7.out.below hb8')
  have HY := Lib.hid hv8
  clear hb8' hb7 hv8
  go_wp2_with fail
  refine (H5.out _ _ _ HY.out HV8.out).mono ?_
  rintro e w9 ⟨rfl, hb9'⟩
  have hb9 := hb8.trans (hb9'.mono hb8.size)
  clear hb9' hb8
  go_wp2_with fail
  refine (H11.out _).mono ?_
  rintro e w10 ⟨rfl, hb10'⟩
  have hb10 := hb9.trans (hb10'.mono hb9.size)
  clear hb10' hb9
  go_wp2_with fail
  refine (H12.out _).mono ?_
  rintro e w11 ⟨rfl, hb11'⟩
  have hb11 := hb10.trans (hb11'.mono hb10.size)
  clear hb11' hb10
  go_wp2_with fail
  go_ret
  exact ⟨rfl, hb11⟩

theorem contract (H : Type) (enc : TypeId × Value → H) (W : World) (base : Nat) (args : Array Value) (ds gs : List (DataW H)) (before : List MemPlace)
    (hval : ∀ (j : Nat) t v, Tryd.f7.params[j]? = some t → args[j]? = some v → Value.okWide Tryd.prog W .any base t v)
    (hW : DataW.Whole enc Tryd.prog Tryd.f7.params.toList Rows.asciiWordsSpec.vars false W args.toList ds gs before) (hL : laidMetH Tryd.prog Rows.asciiWordsRow.laid W) (hs : W.ShapedOpen Tryd.prog) :
    Calls Tryd.prog 7 args W fun e W' => ∃ v, e = .returned v ∧ Rows.asciiWordsSpec.post enc Tryd.prog Tryd.f7 false true false false W args v W' := by
  have hW' := hW
  obtain ⟨p, q, hA0, hV, rfl, hfz, hnd⟩ := hW
  have hA : DataW.TrodAll enc Tryd.prog W 0 (fun _ => true) true Tryd.f7.params.toList args.toList ds p := hA0
  rw [Tryd.params7] at hA hval
  obtain ⟨v0, vs0, d0, ds0, p0, q0, hargs, rfl, rfl, h0, r0⟩ := trodAll_cons hA
  obtain ⟨rfl, rfl, rfl⟩ := trodAll_nil r0
  obtain rfl : args = #[v0] := by cases args; simp_all
  obtain ⟨rfl, rfl⟩ := trodVars_none hV
  obtain ⟨a0, rfl, rfl, rfl, w0⟩ := open_string Tryd.underlying9 (hval 0 9 v0 rfl rfl) h0
  clear hA0
  simp only [List.append_nil] at hW'
  refine (walk a0 w0 W (inv hL hs)).mono fun e W' ⟨he, bel⟩ => ?_
  subst he
  exact ⟨_, rfl, _, _, _, [], [], [], hW', trodAll_mk1 (shut_bool Tryd.underlying4 _), (trodAll_cons_mk (shut_string Tryd.underlying9 w0) trodAll_mk0), rfl, bel.frame _, fun h => by cases h⟩

theorem laid_met (os : Os) : laidMet Tryd.prog Rows.asciiWordsRow.laid ((laidWorld os).forCall (fun _ _ => 0) ⟨#[], #[.string ByteArray.empty], []⟩).memory :=
  laidMet_of_run' 8 (by kernel_rfl) (by kernel_rfl)
theorem reads (os : Os) {H : Type} (enc : TypeId × Value → H) : ∃ places, DataW.whole enc Tryd.prog ((laidWorld os).forCall (fun _ _ => 0) ⟨#[], #[.string ByteArray.empty], []⟩).memory Tryd.f7.params.toList Rows.asciiWordsSpec.vars false (#[.string ByteArray.empty] : Array Value).toList 8 = some ([.lit (.string [])], [], places) :=
  ⟨[], by kernel_rfl⟩

set_option maxRecDepth 100000 in
theorem lifted (os : Os) (started : os.Started) (H : Type) (enc : TypeId × Value → H) (F : Stop.Interp) :
    ReturnsInHanded {} Tryd.checked os 7 .any ((OpenSpec.ofChange Rows.asciiWordsSpec).preRow enc Tryd.prog Tryd.f7 Rows.asciiWordsRow.domain false Rows.asciiWordsRow.laid) (((OpenSpec.ofChange Rows.asciiWordsSpec).at F).post enc Tryd.prog Tryd.f7 false true false false) := by
  obtain ⟨places, hx⟩ := reads os enc
  refine returnsInHanded_of_row (C := Tryd.checked) (s := OpenSpec.ofChange Rows.asciiWordsSpec) own started (by kernel_rfl) Tryd.func7
    (witness_row_at (enc := enc) (C := Tryd.checked) false (laidWorld os) #[.string ByteArray.empty] rfl (by kernel_rfl) (by kernel_rfl) (by kernel_rfl)
      (OpenSpec.preRow_of_cond 8 hx (by kernel_rfl) (fun k hk => by cases hk) (by kernel_rfl) (laid_met os))) ?_
  intro W base args ds gs before hval hW _ _ _ hL hs _
  exact contract H enc W base args ds gs before hval hW hL hs

theorem said : Rows.AsciiWordsSaid :=
  OpenClaim.holds_of_cond 7 Tryd.f7 rfl rfl rfl rfl rfl rfl rfl ⟨rfl, rfl, rfl, rfl, rfl⟩ rfl rfl rfl rfl rfl (by kernel_rfl) Tryd.func7 (by kernel_rfl)
    (of_decide_eq_true (by kernel_rfl)) (by unfold Func.isWrapper; first | (rw [if_pos (by decide +kernel)]; kernel_rfl) | (rw [if_neg (by decide +kernel)]; exact ⟨rfl, rfl⟩))
    (fun os started H enc _ F => by rw [OpenClaim.pre_eq_preRow]; exact lifted os started H enc F)

theorem plain (f : FuncId) (fn : Func) (hf : Tryd.pinned.checked.prog.funcNamed "bulletin/bulletinlaw01.AsciiWords" = some f) (hfn : Tryd.pinned.checked.prog.funcs[f]? = some fn) :
    true = Tryd.pinned.checked.prog.looks [] ∧ ∀ (j : Nat) t, fn.params[j]? = some t → Tryd.pinned.checked.prog.wantsStandIn t = false := by
  obtain rfl : f = 7 := Option.some.inj ((show Tryd.prog.funcNamed "bulletin/bulletinlaw01.AsciiWords" = some 7 by kernel_rfl).symm.trans hf) |>.symm
  obtain rfl : fn = Tryd.f7 := (Option.some.inj (Tryd.func7.symm.trans hfn)).symm
  refine ⟨by kernel_rfl, fun j t ht => ?_⟩
  rw [Tryd.params7] at ht
  obtain rfl : t = 9 := by simpa using Array.mem_of_getElem? ht
  exact (show Tryd.prog.wantsStandIn 9 = false by kernel_rfl)

end Go.Proofs.YtgopcplcamljmaaDoor.asciiWordsLaw
namespace Go.Proofs.YtgopcplcamljmaaDoor

/-- THE CARD OF AsciiWords -/
theorem asciiWords_card : Rows.AsciiWordsCardSaid :=
  Claim7.holds_tied_plain_at .later [] _ _ _ _ asciiWordsLaw.said (fun _ h => by cases h) (by kernel_rfl) (fun _ h => by cases h) asciiWords_row_tie rfl ⟨rfl, rfl⟩ (by kernel_rfl) rfl asciiWordsLaw.plain (by kernel_rfl)
#print axioms asciiWords_card
end Go.Proofs.YtgopcplcamljmaaDoor
