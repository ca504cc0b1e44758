/- AsciiIndex: whatever two texts come in, the law's call returns true and its arguments read as before; the library's variables read as the program's text lays them (the card ties them).
   Conditions: none beyond the row's own. -/
import Derived.Test.YtgopcplcamljmaaDoorOpen
namespace Go.Proofs.YtgopcplcamljmaaDoor.asciiIndexLaw
open Go.ChangeShapes Go.WideShapes Go.ChangeAt Go.RowKit
open Go.ChangeMaps (open_string shut_string)

set_option maxRecDepth 20000 in
set_option maxHeartbeats 1000000 in
theorem walk (s0 p0 : ByteArray) (hs0 : s0.size ≤ maxLen) (hp0 : p0.size ≤ maxLen) (w : World) (hI : Inv w) :
    Calls Tryd.prog 6 #[.string s0, .string p0] w fun e w' => e = .returned (.bool true) ∧ Below w.heap.size w w' := by
  obtain ⟨s, hs⟩ : ∃ t, t = cutS s0 := ⟨_, rfl⟩
  have hss : s.size ≤ 300 := by rw [hs]; exact cutS_size s0
  obtain ⟨p, hp⟩ : ∃ t, t = cutS p0 := ⟨_, rfl⟩
  have hps : p.size ≤ 300 := by rw [hp]; exact cutS_size p0
  have hm : ∀ s : ByteArray, s.size ≤ 300 → s.size ≤ maxLen := fun s h => by unfold maxLen; omega
  obtain ⟨r, hr⟩ : ∃ z, z = Lib.index (Asc.low s.data.toList) (Asc.low p.data.toList) := ⟨_, rfl⟩
  have hssI : (s.size : Int) ≤ 300 := by omega
  have hpsI : (p.size : Int) ≤ 300 := by omega
  have h1 := fun w => cut_any s0 w hs0 s hs
  have h2 := fun w => cut_any p0 w hp0 p hp
  have h3 := fun w hI => indexFold_any s p w hI (by omega) (by omega) r hr
  have h5 := fun w hI => known_any w hI
  have h6 := fun w => refIndex_any s p w (by omega) (by omega) r hr
  have H1 := Lib.hid h1; have H2 := Lib.hid h2; have H3 := Lib.hid h3; have H5 := Lib.hid h5; have H6 := Lib.hid h6
  have hb0 := Below.refl w.heap.size w
  rcases index_range (Asc.low s.data.toList) (Asc.low p.data.toList) with h | ⟨i, h, hroom, hocc⟩
  · have hr1 : r = -1 := by rw [hr, h]
    subst hr1
    clear h1 h2 h3 h5 h6 hs hp hr h hm
    go_enter Tryd.func6, Tryd.ntmps6
    go_wp2_with fail
    refine (H1.out _).mono ?_
    rintro e w0' ⟨rfl, rfl⟩
    go_wp2_with fail
    refine (H2.out _).mono ?_
    rintro e w0' ⟨rfl, rfl⟩
    go_wp2_with fail
    refine (H3.out _ hI).mono ?_
    rintro e w1 ⟨rfl, hb1'⟩
    have hb1 := hb0.trans (hb1'.mono hb0.size)
    clear hb1' hb0
    go_wp2_with fail
    refine (H5.out _ (hI.below hb1 hI.sz)).mono ?_
    rintro e w2 ⟨rfl, hb2'⟩
    have hb2 := hb1.trans (hb2'.mono hb1.size)
    clear hb2' hb1
    go_wp2_with fail
    refine (H6.out _).mono ?_
    rintro e w3 ⟨rfl, hb3'⟩
    have hb3 := hb2.trans (hb3'.mono hb2.size)
    clear hb3' hb2
    go_wp2_with fail
    go_ret
    exact ⟨rfl, hb3⟩
  · have hr1 : r = (i : Int) := by rw [hr, h]
    subst hr1
    rw [Asc.low_length, Asc.low_length, size_toList, size_toList] at hroom
    have hroomI : (i : Int) + (p.size : Int) ≤ (s.size : Int) := by omega
    obtain ⟨q, hq⟩ : ∃ q, s.extract i (i + p.size) = q := ⟨_, rfl⟩
    have hqs : q.size ≤ 300 := by rw [← hq]; simp; omega
    have hqe : true = (Asc.low q.data.toList == Asc.low p.data.toList) := by
      have ho := Lib.occAt_iff_take (Asc.low s.data.toList) (Asc.low p.data.toList) i (by rw [Asc.low_length, Asc.low_length, size_toList, size_toList]; exact hroom)
      rw [hocc] at ho
      rw [ho, ← hq, extract_piece, Asc.low_length, size_toList, Nat.add_sub_cancel_left]
      simp [Asc.low]
    have h4 := fun w => equalFold_any q p w (hm q hqs) (hm p hps) true hqe
    have H4 := Lib.hid h4
    clear h1 h2 h3 h4 h5 h6 hs hp hr h hm hqe hocc
    go_enter Tryd.func6, Tryd.ntmps6
    go_wp2_with fail
    refine (H1.out _).mono ?_
    rintro e w0' ⟨rfl, rfl⟩
    go_wp2_with fail
    refine (H2.out _).mono ?_
    rintro e w0' ⟨rfl, rfl⟩
    go_wp2_with fail
    refine (H3.out _ hI).mono ?_
    rintro e w1 ⟨rfl, hb1'⟩
    have hb1 := hb0.trans (hb1'.mono hb0.size)
    clear hb1' hb0
    go_wp2_with fail
    refine (H4.out _).mono ?_
    rintro e w2 ⟨rfl, hb2'⟩
    have hb2 := hb1.trans (hb2'.mono hb1.size)
    clear hb2' hb1
    go_wp2_with fail
    refine (H5.out _ (hI.below hb2 hI.sz)).mono ?_
    rintro e w3 ⟨rfl, hb3'⟩
    have hb3 := hb2.trans (hb3'.mono hb2.size)
    clear hb3' hb2
    go_wp2_with fail
    refine (H6.out _).mono ?_
    rintro e w4 ⟨rfl, hb4'⟩
    have hb4 := hb3.trans (hb4'.mono hb3.size)
    clear hb4' hb3
    go_wp2_with fail
    go_ret
    exact ⟨rfl, hb4⟩

theorem contract (H : Type) (enc : TypeId × Value → H) (W : World) (base : Nat) (args : Array Value) (ds gs : List (DataW H)) (before : List MemPlace)
    (hval : ∀ (j : Nat) t v, Tryd.f6.params[j]? = some t → args[j]? = some v → Value.okWide Tryd.prog W .any base t v)
    (hW : DataW.Whole enc Tryd.prog Tryd.f6.params.toList Rows.asciiIndexSpec.vars false W args.toList ds gs before) (hL : laidMetH Tryd.prog Rows.asciiIndexRow.laid W) (hs : W.ShapedOpen Tryd.prog) :
    Calls Tryd.prog 6 args W fun e W' => ∃ v, e = .returned v ∧ Rows.asciiIndexSpec.post enc Tryd.prog Tryd.f6 false true false false W args v W' := by
  have hW' := hW
  obtain ⟨p, q, hA0, hV, rfl, hfz, hnd⟩ := hW
  have hA : DataW.TrodAll enc Tryd.prog W 0 (fun _ => true) true Tryd.f6.params.toList args.toList ds p := hA0
  rw [Tryd.params6] at hA hval
  obtain ⟨v0, vs0, d0, ds0, p0, q0, hargs, rfl, rfl, h0, r0⟩ := trodAll_cons hA
  obtain ⟨v1, vs1, d1, ds1, p1, q1, rfl, rfl, rfl, h1, r1⟩ := trodAll_cons r0
  obtain ⟨rfl, rfl, rfl⟩ := trodAll_nil r1
  obtain rfl : args = #[v0, v1] := by cases args; simp_all
  obtain ⟨rfl, rfl⟩ := trodVars_none hV
  obtain ⟨a0, rfl, rfl, rfl, w0⟩ := open_string Tryd.underlying9 (hval 0 9 v0 rfl rfl) h0
  obtain ⟨a1, rfl, rfl, rfl, w1⟩ := open_string Tryd.underlying9 (hval 1 9 v1 rfl rfl) h1
  clear hA0
  simp only [List.append_nil] at hW'
  refine (walk a0 a1 w0 w1 W (inv hL hs)).mono fun e W' ⟨he, bel⟩ => ?_
  subst he
  exact ⟨_, rfl, _, _, _, [], [], [], hW', trodAll_mk1 (shut_bool Tryd.underlying4 _), (trodAll_cons_mk (shut_string Tryd.underlying9 w0) (trodAll_cons_mk (shut_string Tryd.underlying9 w1) trodAll_mk0)), rfl, bel.frame _, fun h => by cases h⟩

theorem laid_met (os : Os) : laidMet Tryd.prog Rows.asciiIndexRow.laid ((laidWorld os).forCall (fun _ _ => 0) ⟨#[], #[.string ByteArray.empty, .string ByteArray.empty], []⟩).memory :=
  laidMet_of_run' 8 (by kernel_rfl) (by kernel_rfl)
theorem reads (os : Os) {H : Type} (enc : TypeId × Value → H) : ∃ places, DataW.whole enc Tryd.prog ((laidWorld os).forCall (fun _ _ => 0) ⟨#[], #[.string ByteArray.empty, .string ByteArray.empty], []⟩).memory Tryd.f6.params.toList Rows.asciiIndexSpec.vars false (#[.string ByteArray.empty, .string ByteArray.empty] : Array Value).toList 8 = some ([.lit (.string []), .lit (.string [])], [], places) :=
  ⟨[], by kernel_rfl⟩

set_option maxRecDepth 100000 in
theorem lifted (os : Os) (started : os.Started) (H : Type) (enc : TypeId × Value → H) (F : Stop.Interp) :
    ReturnsInHanded {} Tryd.checked os 6 .any ((OpenSpec.ofChange Rows.asciiIndexSpec).preRow enc Tryd.prog Tryd.f6 Rows.asciiIndexRow.domain false Rows.asciiIndexRow.laid) (((OpenSpec.ofChange Rows.asciiIndexSpec).at F).post enc Tryd.prog Tryd.f6 false true false false) := by
  obtain ⟨places, hx⟩ := reads os enc
  refine returnsInHanded_of_row (C := Tryd.checked) (s := OpenSpec.ofChange Rows.asciiIndexSpec) own started (by kernel_rfl) Tryd.func6
    (witness_row_at (enc := enc) (C := Tryd.checked) false (laidWorld os) #[.string ByteArray.empty, .string ByteArray.empty] rfl (by kernel_rfl) (by kernel_rfl) (by kernel_rfl)
      (OpenSpec.preRow_of_cond 8 hx (by kernel_rfl) (fun k hk => by cases hk) (by kernel_rfl) (laid_met os))) ?_
  intro W base args ds gs before hval hW _ _ _ hL hs _
  exact contract H enc W base args ds gs before hval hW hL hs

theorem said : Rows.AsciiIndexSaid :=
  OpenClaim.holds_of_cond 6 Tryd.f6 rfl rfl rfl rfl rfl rfl rfl ⟨rfl, rfl, rfl, rfl, rfl⟩ rfl rfl rfl rfl rfl (by kernel_rfl) Tryd.func6 (by kernel_rfl)
    (of_decide_eq_true (by kernel_rfl)) (by unfold Func.isWrapper; first | (rw [if_pos (by decide +kernel)]; kernel_rfl) | (rw [if_neg (by decide +kernel)]; exact ⟨rfl, rfl⟩))
    (fun os started H enc _ F => by rw [OpenClaim.pre_eq_preRow]; exact lifted os started H enc F)

theorem plain (f : FuncId) (fn : Func) (hf : Tryd.pinned.checked.prog.funcNamed "bulletin/bulletinlaw01.AsciiIndex" = some f) (hfn : Tryd.pinned.checked.prog.funcs[f]? = some fn) :
    true = Tryd.pinned.checked.prog.looks [] ∧ ∀ (j : Nat) t, fn.params[j]? = some t → Tryd.pinned.checked.prog.wantsStandIn t = false := by
  obtain rfl : f = 6 := Option.some.inj ((show Tryd.prog.funcNamed "bulletin/bulletinlaw01.AsciiIndex" = some 6 by kernel_rfl).symm.trans hf) |>.symm
  obtain rfl : fn = Tryd.f6 := (Option.some.inj (Tryd.func6.symm.trans hfn)).symm
  refine ⟨by kernel_rfl, fun j t ht => ?_⟩
  rw [Tryd.params6] at ht
  obtain rfl : t = 9 := by simpa using Array.mem_of_getElem? ht
  exact (show Tryd.prog.wantsStandIn 9 = false by kernel_rfl)

end Go.Proofs.YtgopcplcamljmaaDoor.asciiIndexLaw
namespace Go.Proofs.YtgopcplcamljmaaDoor

/-- THE CARD OF AsciiIndex -/
theorem asciiIndex_card : Rows.AsciiIndexCardSaid :=
  Claim7.holds_tied_plain_at .later [] _ _ _ _ asciiIndexLaw.said (fun _ h => by cases h) (by kernel_rfl) (fun _ h => by cases h) asciiIndex_row_tie rfl ⟨rfl, rfl⟩ (by kernel_rfl) rfl asciiIndexLaw.plain (by kernel_rfl)
#print axioms asciiIndex_card
end Go.Proofs.YtgopcplcamljmaaDoor
