/- AsciiNumber: whatever text and number come in, the law's call returns true and its arguments read as before; the library's variables read as the program's text lays them (the card ties them).
   Conditions: none beyond the row's own. -/
import Derived.Test.YtgopcplcamljmaaDoorOpen
namespace Go.Proofs.YtgopcplcamljmaaDoor.asciiNumberLaw
open Go.ChangeShapes Go.WideShapes Go.ChangeAt Go.RowKit
open Go.ChangeMaps (open_string shut_string)

set_option maxRecDepth 20000 in
set_option maxHeartbeats 1000000 in
theorem walk (s0 : ByteArray) (most : Int) (hs0 : s0.size ≤ maxLen) (w : World) (hI : Inv w) :
    Calls Tryd.prog 9 #[.string s0, .int .i64 most] w fun e w' => e = .returned (.bool true) ∧ Below w.heap.size w w' := by
  obtain ⟨s, hs⟩ : ∃ t, t = cutS s0 := ⟨_, rfl⟩
  have hss : s.size ≤ 300 := by rw [hs]; exact cutS_size s0
  obtain ⟨⟨v, e⟩, hve⟩ : ∃ x, numA s.data.toList most = x := ⟨_, rfl⟩
  have h1 := fun w => cut_any s0 w hs0 s hs
  have h2 := fun w hI => number_any s most w hI (by omega) v e hve
  have h3 := fun w => refNumber_any s most w (by omega) v e hve
  have h4 := fun w hI => known_any w hI
  have H1 := Lib.hid h1; have H2 := Lib.hid h2; have H3 := Lib.hid h3; have H4 := Lib.hid h4
  have hb0 := Below.refl w.heap.size w
  have hcase : (e = 0 ∧ s.data.toList = Lib.itoa v ∧ -9223372036854775808 ≤ v ∧ v ≤ 9223372036854775807) ∨ (e ≠ 0 ∧ 0 ≤ e ∧ e ≤ 3) := by
    unfold numA at hve
    split at hve
    · rename_i hn
      split at hve
      · rename_i hh
        simp only [Prod.mk.injEq] at hve
        obtain ⟨rfl, rfl⟩ := hve
        left
        refine ⟨rfl, ?_, by omega, by omega⟩
        rw [Lib.itoa, if_neg (by omega), Int.toNat_natCast, Asc.digits_val _ hn]
      · simp only [Prod.mk.injEq] at hve; right; omega
    · simp only [Prod.mk.injEq] at hve; right; omega
  rcases hcase with ⟨rfl, hit, v0, v1⟩ | ⟨hne, e0, e1⟩
  · have h5 := fun w hI => digits_any v w hI v0 v1
    have hsit : (⟨(Lib.itoa v).toArray⟩ : ByteArray) = s := by rw [← hit]
    rw [hsit] at h5
    have H5 := Lib.hid h5
    clear h1 h2 h3 h4 h5 hs hve hit hsit v0 v1
    go_enter Tryd.func9, Tryd.ntmps9
    go_wp2_with fail
    refine (H1.out _).mono ?_
    rintro e w0' ⟨rfl, rfl⟩
    go_wp2_with fail
    refine (H2.out _ hI).mono ?_
    rintro e w1 ⟨rfl, hb1'⟩
    have hb1 := hb0.trans (hb1'.mono hb0.size)
    clear hb1' hb0
    go_wp2_with fail
    refine (H3.out _).mono ?_
    rintro e w0' ⟨rfl, rfl⟩
    go_wp2_with fail
    refine (H4.out _ (hI.below hb1 hI.sz)).mono ?_
    rintro e w2 ⟨rfl, hb2'⟩
    have hb2 := hb1.trans (hb2'.mono hb1.size)
    clear hb2' hb1
    go_wp2_with fail
    refine (H5.out _ (hI.below hb2 hI.sz)).mono ?_
    rintro e w3 ⟨rfl, hb3'⟩
    have hb3 := hb2.trans (hb3'.mono hb2.size)
    clear hb3' hb2
    go_wp2_with fail
    go_ret
    exact ⟨rfl, hb3⟩
  · have g1 : (e != 0) = true := by simpa using hne
    clear h1 h2 h3 h4 hs hve hne
    go_enter Tryd.func9, Tryd.ntmps9
    go_wp2_with fail
    refine (H1.out _).mono ?_
    rintro e w0' ⟨rfl, rfl⟩
    go_wp2_with fail
    refine (H2.out _ hI).mono ?_
    rintro e w1 ⟨rfl, hb1'⟩
    have hb1 := hb0.trans (hb1'.mono hb0.size)
    clear hb1' hb0
    go_wp2_with fail
    refine (H3.out _).mono ?_
    rintro e w0' ⟨rfl, rfl⟩
    go_wp2_with fail
    refine (H4.out _ (hI.below hb1 hI.sz)).mono ?_
    rintro e w2 ⟨rfl, hb2'⟩
    have hb2 := hb1.trans (hb2'.mono hb1.size)
    clear hb2' hb1
    go_wp2_with fail
    go_ret
    exact ⟨rfl, hb2⟩

theorem contract (H : Type) (enc : TypeId × Value → H) (W : World) (base : Nat) (args : Array Value) (ds gs : List (DataW H)) (before : List MemPlace)
    (hval : ∀ (j : Nat) t v, Tryd.f9.params[j]? = some t → args[j]? = some v → Value.okWide Tryd.prog W .any base t v)
    (hW : DataW.Whole enc Tryd.prog Tryd.f9.params.toList Rows.asciiNumberSpec.vars false W args.toList ds gs before) (hL : laidMetH Tryd.prog Rows.asciiNumberRow.laid W) (hs : W.ShapedOpen Tryd.prog) :
    Calls Tryd.prog 9 args W fun e W' => ∃ v, e = .returned v ∧ Rows.asciiNumberSpec.post enc Tryd.prog Tryd.f9 false true false false W args v W' := by
  have hW' := hW
  obtain ⟨p, q, hA0, hV, rfl, hfz, hnd⟩ := hW
  have hA : DataW.TrodAll enc Tryd.prog W 0 (fun _ => true) true Tryd.f9.params.toList args.toList ds p := hA0
  rw [Tryd.params9] at hA hval
  obtain ⟨v0, vs0, d0, ds0, p0, q0, hargs, rfl, rfl, h0, r0⟩ := trodAll_cons hA
  obtain ⟨v1, vs1, d1, ds1, p1, q1, rfl, rfl, rfl, h1, r1⟩ := trodAll_cons r0
  obtain ⟨rfl, rfl, rfl⟩ := trodAll_nil r1
  obtain rfl : args = #[v0, v1] := by cases args; simp_all
  obtain ⟨rfl, rfl⟩ := trodVars_none hV
  obtain ⟨a0, rfl, rfl, rfl, w0⟩ := open_string Tryd.underlying9 (hval 0 9 v0 rfl rfl) h0
  obtain ⟨a1, rfl, rfl, rfl, w1⟩ := open_int Tryd.underlying3 (hval 1 3 v1 rfl rfl) h1
  clear hA0
  simp only [List.append_nil] at hW'
  refine (walk a0 a1 w0 W (inv hL hs)).mono fun e W' ⟨he, bel⟩ => ?_
  subst he
  exact ⟨_, rfl, _, _, _, [], [], [], hW', trodAll_mk1 (shut_bool Tryd.underlying4 _), (trodAll_cons_mk (shut_string Tryd.underlying9 w0) (trodAll_cons_mk (shut_int Tryd.underlying3 w1) trodAll_mk0)), rfl, bel.frame _, fun h => by cases h⟩

theorem laid_met (os : Os) : laidMet Tryd.prog Rows.asciiNumberRow.laid ((laidWorld os).forCall (fun _ _ => 0) ⟨#[], #[.string ByteArray.empty, .int .i64 0], []⟩).memory :=
  laidMet_of_run' 8 (by kernel_rfl) (by kernel_rfl)
theorem reads (os : Os) {H : Type} (enc : TypeId × Value → H) : ∃ places, DataW.whole enc Tryd.prog ((laidWorld os).forCall (fun _ _ => 0) ⟨#[], #[.string ByteArray.empty, .int .i64 0], []⟩).memory Tryd.f9.params.toList Rows.asciiNumberSpec.vars false (#[.string ByteArray.empty, .int .i64 0] : Array Value).toList 8 = some ([.lit (.string []), .lit (.int .i64 0)], [], places) :=
  ⟨[], by kernel_rfl⟩

set_option maxRecDepth 100000 in
theorem lifted (os : Os) (started : os.Started) (H : Type) (enc : TypeId × Value → H) (F : Stop.Interp) :
    ReturnsInHanded {} Tryd.checked os 9 .any ((OpenSpec.ofChange Rows.asciiNumberSpec).preRow enc Tryd.prog Tryd.f9 Rows.asciiNumberRow.domain false Rows.asciiNumberRow.laid) (((OpenSpec.ofChange Rows.asciiNumberSpec).at F).post enc Tryd.prog Tryd.f9 false true false false) := by
  obtain ⟨places, hx⟩ := reads os enc
  refine returnsInHanded_of_row (C := Tryd.checked) (s := OpenSpec.ofChange Rows.asciiNumberSpec) own started (by kernel_rfl) Tryd.func9
    (witness_row_at (enc := enc) (C := Tryd.checked) false (laidWorld os) #[.string ByteArray.empty, .int .i64 0] rfl (by kernel_rfl) (by kernel_rfl) (by kernel_rfl)
      (OpenSpec.preRow_of_cond 8 hx (by kernel_rfl) (fun k hk => by cases hk) (by kernel_rfl) (laid_met os))) ?_
  intro W base args ds gs before hval hW _ _ _ hL hs _
  exact contract H enc W base args ds gs before hval hW hL hs

theorem said : Rows.AsciiNumberSaid :=
  OpenClaim.holds_of_cond 9 Tryd.f9 rfl rfl rfl rfl rfl rfl rfl ⟨rfl, rfl, rfl, rfl, rfl⟩ rfl rfl rfl rfl rfl (by kernel_rfl) Tryd.func9 (by kernel_rfl)
    (of_decide_eq_true (by kernel_rfl)) (by unfold Func.isWrapper; first | (rw [if_pos (by decide +kernel)]; kernel_rfl) | (rw [if_neg (by decide +kernel)]; exact ⟨rfl, rfl⟩))
    (fun os started H enc _ F => by rw [OpenClaim.pre_eq_preRow]; exact lifted os started H enc F)

theorem plain (f : FuncId) (fn : Func) (hf : Tryd.pinned.checked.prog.funcNamed "bulletin/bulletinlaw01.AsciiNumber" = some f) (hfn : Tryd.pinned.checked.prog.funcs[f]? = some fn) :
    true = Tryd.pinned.checked.prog.looks [] ∧ ∀ (j : Nat) t, fn.params[j]? = some t → Tryd.pinned.checked.prog.wantsStandIn t = false := by
  obtain rfl : f = 9 := Option.some.inj ((show Tryd.prog.funcNamed "bulletin/bulletinlaw01.AsciiNumber" = some 9 by kernel_rfl).symm.trans hf) |>.symm
  obtain rfl : fn = Tryd.f9 := (Option.some.inj (Tryd.func9.symm.trans hfn)).symm
  refine ⟨by kernel_rfl, fun j t ht => ?_⟩
  rw [Tryd.params9] at ht
  have hm : t = 9 ∨ t = 3 := by simpa using Array.mem_of_getElem? ht
  rcases hm with rfl | rfl
  · exact (show Tryd.prog.wantsStandIn 9 = false by kernel_rfl)
  · exact (show Tryd.prog.wantsStandIn 3 = false by kernel_rfl)

end Go.Proofs.YtgopcplcamljmaaDoor.asciiNumberLaw
namespace Go.Proofs.YtgopcplcamljmaaDoor

/-- THE CARD OF AsciiNumber -/
theorem asciiNumber_card : Rows.AsciiNumberCardSaid :=
  Claim7.holds_tied_plain_at .later [] _ _ _ _ asciiNumberLaw.said (fun _ h => by cases h) (by kernel_rfl) (fun _ h => by cases h) asciiNumber_row_tie rfl ⟨rfl, rfl⟩ (by kernel_rfl) rfl asciiNumberLaw.plain (by kernel_rfl)
#print axioms asciiNumber_card
end Go.Proofs.YtgopcplcamljmaaDoor
