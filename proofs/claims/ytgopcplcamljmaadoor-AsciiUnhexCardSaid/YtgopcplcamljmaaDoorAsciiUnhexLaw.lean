/- AsciiUnhex: whatever text comes in, the law's call returns true and its arguments read as before; the library's variables read as the program's text lays them (the card ties them).
   Conditions: none beyond the row's own. -/
import Derived.Test.YtgopcplcamljmaaDoorOpen
namespace Go.Proofs.YtgopcplcamljmaaDoor.asciiUnhexLaw
open Go.ChangeShapes Go.WideShapes Go.ChangeAt Go.RowKit
open Go.ChangeMaps (open_string shut_string)

/-- the text of bytes -/
def strB (l : List Nat) : ByteArray := ⟨(l.map fun x => UInt8.ofNat x).toArray⟩

theorem conv_bytes {w : World} {v : Value} {l : List Nat} (h : Bytes w v l) : (convert 41 9 v).run Tryd.prog w = .ok (.string (strB l)) w := by
  obtain ⟨hb, x, cap, rfl, _, _, hc⟩ := h
  cases x with
  | none =>
    have h0 : l = [] := by
      cases l with
      | nil => rfl
      | cons y l => obtain ⟨b, off, e, _⟩ := hc 0 (by simp); cases e
    subst h0
    exact run_convert_bytes_nil w 41 5 Tryd.underlying41 Tryd.underlying5 _ _ 9 Tryd.underlying9
  | some a =>
    have hk := run_convert_bytes_back (P := Tryd.prog) w 41 9 5 a cap (l.map fun x => UInt8.ofNat x) Tryd.underlying41 Tryd.underlying5 Tryd.underlying9 (fun j hj => by
      simp only [List.length_map] at hj
      obtain ⟨b, off, e, h0⟩ := hc j hj
      obtain rfl := Option.some.inj e
      rw [addr_add, h0]
      have : l[j] < 256 := hb _ (List.getElem_mem hj)
      simp [List.getElem?_eq_getElem hj]
      omega)
    simpa [strB] using hk

set_option maxRecDepth 20000 in
set_option maxHeartbeats 1000000 in
theorem walk (s0 : ByteArray) (hs0 : s0.size ≤ maxLen) (w : World) (hI : Inv w) :
    Calls Tryd.prog 11 #[.string s0] w fun e w' => e = .returned (.bool true) ∧ Below w.heap.size w w' := by
  obtain ⟨s, hs⟩ : ∃ t, t = cutS s0 := ⟨_, rfl⟩
  have hss : s.size ≤ 300 := by rw [hs]; exact cutS_size s0
  have h1 := fun w => cut_any s0 w hs0 s hs
  have h2 := fun w => unhex_any s w (by omega)
  have h3 := fun w => refUnhex_any s w (by omega)
  have h4 := fun w hI => known_any w hI
  have H1 := Lib.hid h1; have H4 := Lib.hid h4
  have hb0 := Below.refl w.heap.size w
  cases hu : Asc.unhexL s.data.toList with
  | none =>
    rw [hu] at h2 h3
    have hn := conv_bytes (Bytes.nil w)
    have H2 := Lib.hid h2; have H3 := Lib.hid h3
    clear h1 h2 h3 h4 hs hu
    go_enter Tryd.func11, Tryd.ntmps11
    go_wp2_with fail
    refine (H1.out _).mono ?_
    rintro e w0' ⟨rfl, rfl⟩
    go_wp2_with fail
    refine (H2.out _).mono ?_
    rintro e w1 ⟨rfl, hb1⟩
    go_wp2_with fail
    refine (H3.out _).mono ?_
    rintro e w2 ⟨rfl, hb2'⟩
    have hb2 := hb1.trans (hb2'.mono hb1.size)
    have hcv := conv_bytes (Bytes.nil w2)
    clear hb2' hn
    go_wp2_with fail
    refine (H4.out _ (hI.below hb2 hI.sz)).mono ?_
    rintro e w3 ⟨rfl, hb3'⟩
    have hb3 := hb2.trans (hb3'.mono hb2.size)
    clear hb3' hb2
    go_wp2_with fail
    go_ret
    exact ⟨rfl, hb3⟩
  | some l =>
    rw [hu] at h2 h3
    obtain ⟨hh, hlt, hl2⟩ := Asc.hex_unhex _ _ hu
    rw [size_toList] at hl2
    have hst : s = ⟨(Asc.hexL l).toArray⟩ := by rw [hh]
    have h5 := fun v w hv => hex_any v l w hv (by omega) s hst
    have H2 := Lib.hid h2; have H3 := Lib.hid h3; have H5 := Lib.hid h5
    clear h1 h2 h3 h4 h5 hs hu hst hh hl2 hlt
    go_enter Tryd.func11, Tryd.ntmps11
    go_wp2_with fail
    refine (H1.out _).mono ?_
    rintro e w0' ⟨rfl, rfl⟩
    go_wp2_with fail
    refine (H2.out _).mono ?_
    rintro e w1 ⟨v1, rfl, hv1, hb1⟩
    have HV1 := Lib.hid hv1
    clear hv1
    go_wp2_with fail
    refine (H3.out _).mono ?_
    rintro e w2 ⟨v2, rfl, hv2, hb2'⟩
    have hb2 := hb1.trans (hb2'.mono hb1.size)
    have HV3 := Lib.hid (HV1.out.below hb2')
    have hcv1 := conv_bytes (HV1.out.below hb2')
    have hcv2 := conv_bytes hv2
    clear hb2' hv2
    go_wp2_with fail
    refine (H4.out _ (hI.below hb2 hI.sz)).mono ?_
    rintro e w3 ⟨rfl, hb3'⟩
    have hb3 := hb2.trans (hb3'.mono hb2.size)
    have HV4 := Lib.hid (HV3.out.below hb3')
    clear hb3' hb2 hcv1 hcv2
    go_wp2_with fail
    refine (H5.out _ _ HV4.out).mono ?_
    rintro e w4 ⟨rfl, hb4'⟩
    have hb4 := hb3.trans (hb4'.mono hb3.size)
    clear hb4' hb3
    go_wp2_with fail
    go_ret
    exact ⟨rfl, hb4⟩

theorem contract (H : Type) (enc : TypeId × Value → H) (W : World) (base : Nat) (args : Array Value) (ds gs : List (DataW H)) (before : List MemPlace)
    (hval : ∀ (j : Nat) t v, Tryd.f11.params[j]? = some t → args[j]? = some v → Value.okWide Tryd.prog W .any base t v)
    (hW : DataW.Whole enc Tryd.prog Tryd.f11.params.toList Rows.asciiUnhexSpec.vars false W args.toList ds gs before) (hL : laidMetH Tryd.prog Rows.asciiUnhexRow.laid W) (hs : W.ShapedOpen Tryd.prog) :
    Calls Tryd.prog 11 args W fun e W' => ∃ v, e = .returned v ∧ Rows.asciiUnhexSpec.post enc Tryd.prog Tryd.f11 false true false false W args v W' := by
  have hW' := hW
  obtain ⟨p, q, hA0, hV, rfl, hfz, hnd⟩ := hW
  have hA : DataW.TrodAll enc Tryd.prog W 0 (fun _ => true) true Tryd.f11.params.toList args.toList ds p := hA0
  rw [Tryd.params11] at hA hval
  obtain ⟨v0, vs0, d0, ds0, p0, q0, hargs, rfl, rfl, h0, r0⟩ := trodAll_cons hA
  obtain ⟨rfl, rfl, rfl⟩ := trodAll_nil r0
  obtain rfl : args = #[v0] := by cases args; simp_all
  obtain ⟨rfl, rfl⟩ := trodVars_none hV
  obtain ⟨a0, rfl, rfl, rfl, w0⟩ := open_string Tryd.underlying9 (hval 0 9 v0 rfl rfl) h0
  clear hA0
  simp only [List.append_nil] at hW'
  refine (walk a0 w0 W (inv hL hs)).mono fun e W' ⟨he, bel⟩ => ?_
  subst he
  exact ⟨_, rfl, _, _, _, [], [], [], hW', trodAll_mk1 (shut_bool Tryd.underlying4 _), (trodAll_cons_mk (shut_string Tryd.underlying9 w0) trodAll_mk0), rfl, bel.frame _, fun h => by cases h⟩

theorem laid_met (os : Os) : laidMet Tryd.prog Rows.asciiUnhexRow.laid ((laidWorld os).forCall (fun _ _ => 0) ⟨#[], #[.string ByteArray.empty], []⟩).memory :=
  laidMet_of_run' 8 (by kernel_rfl) (by kernel_rfl)
theorem reads (os : Os) {H : Type} (enc : TypeId × Value → H) : ∃ places, DataW.whole enc Tryd.prog ((laidWorld os).forCall (fun _ _ => 0) ⟨#[], #[.string ByteArray.empty], []⟩).memory Tryd.f11.params.toList Rows.asciiUnhexSpec.vars false (#[.string ByteArray.empty] : Array Value).toList 8 = some ([.lit (.string [])], [], places) :=
  ⟨[], by kernel_rfl⟩

set_option maxRecDepth 100000 in
theorem lifted (os : Os) (started : os.Started) (H : Type) (enc : TypeId × Value → H) (F : Stop.Interp) :
    ReturnsInHanded {} Tryd.checked os 11 .any ((OpenSpec.ofChange Rows.asciiUnhexSpec).preRow enc Tryd.prog Tryd.f11 Rows.asciiUnhexRow.domain false Rows.asciiUnhexRow.laid) (((OpenSpec.ofChange Rows.asciiUnhexSpec).at F).post enc Tryd.prog Tryd.f11 false true false false) := by
  obtain ⟨places, hx⟩ := reads os enc
  refine returnsInHanded_of_row (C := Tryd.checked) (s := OpenSpec.ofChange Rows.asciiUnhexSpec) own started (by kernel_rfl) Tryd.func11
    (witness_row_at (enc := enc) (C := Tryd.checked) false (laidWorld os) #[.string ByteArray.empty] rfl (by kernel_rfl) (by kernel_rfl) (by kernel_rfl)
      (OpenSpec.preRow_of_cond 8 hx (by kernel_rfl) (fun k hk => by cases hk) (by kernel_rfl) (laid_met os))) ?_
  intro W base args ds gs before hval hW _ _ _ hL hs _
  exact contract H enc W base args ds gs before hval hW hL hs

theorem said : Rows.AsciiUnhexSaid :=
  OpenClaim.holds_of_cond 11 Tryd.f11 rfl rfl rfl rfl rfl rfl rfl ⟨rfl, rfl, rfl, rfl, rfl⟩ rfl rfl rfl rfl rfl (by kernel_rfl) Tryd.func11 (by kernel_rfl)
    (of_decide_eq_true (by kernel_rfl)) (by unfold Func.isWrapper; first | (rw [if_pos (by decide +kernel)]; kernel_rfl) | (rw [if_neg (by decide +kernel)]; exact ⟨rfl, rfl⟩))
    (fun os started H enc _ F => by rw [OpenClaim.pre_eq_preRow]; exact lifted os started H enc F)

theorem plain (f : FuncId) (fn : Func) (hf : Tryd.pinned.checked.prog.funcNamed "bulletin/bulletinlaw01.AsciiUnhex" = some f) (hfn : Tryd.pinned.checked.prog.funcs[f]? = some fn) :
    true = Tryd.pinned.checked.prog.looks [] ∧ ∀ (j : Nat) t, fn.params[j]? = some t → Tryd.pinned.checked.prog.wantsStandIn t = false := by
  obtain rfl : f = 11 := Option.some.inj ((show Tryd.prog.funcNamed "bulletin/bulletinlaw01.AsciiUnhex" = some 11 by kernel_rfl).symm.trans hf) |>.symm
  obtain rfl : fn = Tryd.f11 := (Option.some.inj (Tryd.func11.symm.trans hfn)).symm
  refine ⟨by kernel_rfl, fun j t ht => ?_⟩
  rw [Tryd.params11] at ht
  obtain rfl : t = 9 := by simpa using Array.mem_of_getElem? ht
  exact (show Tryd.prog.wantsStandIn 9 = false by kernel_rfl)

end Go.Proofs.YtgopcplcamljmaaDoor.asciiUnhexLaw
namespace Go.Proofs.YtgopcplcamljmaaDoor

/-- THE CARD OF AsciiUnhex -/
theorem asciiUnhex_card : Rows.AsciiUnhexCardSaid :=
  Claim7.holds_tied_plain_at .later [] _ _ _ _ asciiUnhexLaw.said (fun _ h => by cases h) (by kernel_rfl) (fun _ h => by cases h) asciiUnhex_row_tie rfl ⟨rfl, rfl⟩ (by kernel_rfl) rfl asciiUnhexLaw.plain (by kernel_rfl)
#print axioms asciiUnhex_card
end Go.Proofs.YtgopcplcamljmaaDoor
