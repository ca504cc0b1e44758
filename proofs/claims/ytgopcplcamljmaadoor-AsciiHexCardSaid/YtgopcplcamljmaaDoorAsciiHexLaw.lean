/- AsciiHex: whatever slice of bytes comes in, the law's call returns true and its arguments read as before; the library's variables read as the program's text lays them (the card ties them).
   Conditions: none beyond the row's own. -/
import Derived.Test.YtgopcplcamljmaaDoorOpen
namespace Go.Proofs.YtgopcplcamljmaaDoor.asciiHexLaw
open Go.ChangeShapes Go.WideShapes Go.ChangeAt Go.RowKit
open Go.ChangeMaps (open_string shut_string)

/-- the text of bytes -/
def strB (l : List Nat) : ByteArray := ⟨(l.map fun x => UInt8.ofNat x).toArray⟩

theorem conv_bytes {w : World} {v : Value} {l : List Nat} (h : Bytes w v l) : (convert 41 9 v).run Tryd.prog w = .ok (.string (strB l)) w := by
  obtain ⟨hb, x, cap, rfl, _, _, hc⟩ := h
  cases x with
  | none =>
    have h0 : l = [] := by
      cases l with
      | nil => rfl
      | cons y l => obtain ⟨b, off, e, _⟩ := hc 0 (by simp); cases e
    subst h0
    exact run_convert_bytes_nil w 41 5 Tryd.underlying41 Tryd.underlying5 _ _ 9 Tryd.underlying9
  | some a =>
    have hk := run_convert_bytes_back (P := Tryd.prog) w 41 9 5 a cap (l.map fun x => UInt8.ofNat x) Tryd.underlying41 Tryd.underlying5 Tryd.underlying9 (fun j hj => by
      simp only [List.length_map] at hj
      obtain ⟨b, off, e, h0⟩ := hc j hj
      obtain rfl := Option.some.inj e
      rw [addr_add, h0]
      have : l[j] < 256 := hb _ (List.getElem_mem hj)
      simp [List.getElem?_eq_getElem hj]
      omega)
    simpa [strB] using hk

theorem Bytes.cutB {w : World} {x : Option Addr} {len cap : Nat} {l : List Nat} (h : Bytes w (.slice x len cap) l) (m : Nat) (hm : m ≤ len) : Bytes w (.slice x m cap) (l.take m) := by
  obtain ⟨hb, y, c, e, hc, hmx, hg⟩ := h
  cases e
  have hl : (l.take m).length = m := by simp; omega
  refine ⟨fun z hz => hb z (List.mem_of_mem_take hz), x, cap, by rw [hl], by omega, hmx, fun i hi => ?_⟩
  rw [hl] at hi
  obtain ⟨b, off, e, h0⟩ := hg i (by omega)
  refine ⟨b, off, e, ?_⟩
  rw [h0, List.getD_eq_getElem?_getD, List.getD_eq_getElem?_getD, List.getElem?_take_of_lt hi]

set_option maxRecDepth 20000 in
set_option maxHeartbeats 1000000 in
theorem walk (v0 : Value) (l0 : List Nat) (w : World) (hI : Inv w) (hv0 : Bytes w v0 l0) :
    Calls Tryd.prog 10 #[v0] w fun e w' => e = .returned (.bool true) ∧ Below w.heap.size w w' := by
  obtain ⟨x, cap, rfl, hcap, hmax⟩ : ∃ x cap, v0 = .slice x l0.length cap ∧ l0.length ≤ cap ∧ cap ≤ maxLen := by
    obtain ⟨_, x, cap, e, h1, h2, _⟩ := hv0
    exact ⟨x, cap, e, h1, h2⟩
  unfold maxLen at hmax
  obtain ⟨m, hm⟩ : ∃ m : Nat, m = min l0.length 300 := ⟨_, rfl⟩
  have hv := Bytes.cutB hv0 m (by omega)
  obtain ⟨l, hl⟩ : ∃ l, l = l0.take m := ⟨_, rfl⟩
  have hlen : l.length ≤ 300 := by rw [hl]; simp; omega
  rw [← hl] at hv
  have hmI : min (l0.length : Int) 300 = (m : Int) := by omega
  have hm2 : (m : Int) ≤ (cap : Int) := by omega
  obtain ⟨s, hs⟩ : ∃ s : ByteArray, s = ⟨(Asc.hexL l).toArray⟩ := ⟨_, rfl⟩
  have hss : s.size ≤ 600 := by
    rw [hs, ← size_toList]
    show (Asc.hexL l).length ≤ 600
    rw [hexL_len]; omega
  have hu : Asc.unhexL s.data.toList = some l := by rw [hs]; exact Asc.unhex_hex l hv.1
  have h1 := fun v w hv => hex_any v l w hv (by omega) s hs
  have h2 := fun w => unhex_any s w (by omega)
  rw [hu] at h2
  have h3 := fun w hI => known_any w hI
  have h4 := fun v w hv => refHex_any v l w hv (by omega) s hs
  have H1 := Lib.hid h1; have H2 := Lib.hid h2; have H3 := Lib.hid h3; have H4 := Lib.hid h4; have HV := Lib.hid hv
  have hb0 := Below.refl w.heap.size w
  clear h1 h2 h3 h4 hs hu hm hl hv hv0
  go_enter Tryd.func10, Tryd.ntmps10
  go_wp2_with fail
  refine (H1.out _ _ HV.out).mono ?_
  rintro e w1 ⟨rfl, hb1'⟩
  have hb1 := hb0.trans (hb1'.mono hb0.size)
  clear hb1' hb0
  go_wp2_with fail
  refine (H2.out _).mono ?_
  rintro e w2 ⟨v2, rfl, hv2, hb2'⟩
  have hb2 := hb1.trans (hb2'.mono hb1.size)
  have HV2 := Lib.hid hv2
  clear hb2' hb1 hv2
  go_wp2_with fail
  refine (H3.out _ (hI.below hb2 hI.sz)).mono ?_
  rintro e w3 ⟨rfl, hb3'⟩
  have hb3 := hb2.trans (hb3'.mono hb2.size)
  have HV3 := Lib.hid (HV2.out.below hb3')
  clear hb3' hb2
  go_wp2_with fail
  refine (H4.out _ _ (HV.out.below hb3)).mono ?_
  rintro e w4 ⟨rfl, hb4'⟩
  have hb4 := hb3.trans (hb4'.mono hb3.size)
  have hcv1 := conv_bytes (HV3.out.below hb4')
  have hcv2 := conv_bytes (HV.out.below hb4)
  clear hb4' hb3
  go_wp2_with fail
  go_ret
  exact ⟨rfl, hb4⟩

theorem contract (H : Type) (enc : TypeId × Value → H) (W : World) (base : Nat) (args : Array Value) (ds gs : List (DataW H)) (before : List MemPlace)
    (hval : ∀ (j : Nat) t v, Tryd.f10.params[j]? = some t → args[j]? = some v → Value.okWide Tryd.prog W .any base t v)
    (hW : DataW.Whole enc Tryd.prog Tryd.f10.params.toList Rows.asciiHexSpec.vars false W args.toList ds gs before) (hL : laidMetH Tryd.prog Rows.asciiHexRow.laid W) (hs : W.ShapedOpen Tryd.prog) :
    Calls Tryd.prog 10 args W fun e W' => ∃ v, e = .returned v ∧ Rows.asciiHexSpec.post enc Tryd.prog Tryd.f10 false true false false W args v W' := by
  have hW' := hW
  obtain ⟨p, q, hA0, hV, rfl, hfz, hnd⟩ := hW
  have hA : DataW.TrodAll enc Tryd.prog W 0 (fun _ => true) true Tryd.f10.params.toList args.toList ds p := hA0
  rw [Tryd.params10] at hA hval
  obtain ⟨v0, vs0, d0, ds0, p0, q0, hargs, rfl, rfl, h0, r0⟩ := trodAll_cons hA
  obtain ⟨rfl, rfl, rfl⟩ := trodAll_nil r0
  obtain rfl : args = #[v0] := by cases args; simp_all
  obtain ⟨rfl, rfl⟩ := trodVars_none hV
  obtain ⟨a0, len0, cap0, rfl⟩ := okWide_slice Tryd.underlying41 (hval 0 41 v0 rfl rfl)
  have k0 := h0
  have lt0 : ∀ x ∈ p0, x.block < W.heap.size := by obtain ⟨m, hm⟩ := k0; exact DataW.trod_lt m _ _ _ hm
  obtain ⟨l0, w0⟩ := bytes_open h0
  clear hA0
  refine (walk _ l0 W (inv hL hs) w0.1).mono fun e W' ⟨he, bel⟩ => ?_
  subst he
  exact ⟨_, rfl, _, _, _, [], _, [], hW', trodAll_mk1 (shut_bool Tryd.underlying4 _), (trodAll_cons_mk (Below.trod laidOut (by kernel_rfl) (of_decide_eq_true (by kernel_rfl)) k0 bel lt0) trodAll_mk0), rfl, bel.frame _, fun h => by cases h⟩

theorem laid_met (os : Os) : laidMet Tryd.prog Rows.asciiHexRow.laid ((laidWorld os).forCall (fun _ _ => 0) ⟨#[], #[.slice none 0 0], []⟩).memory :=
  laidMet_of_run' 8 (by kernel_rfl) (by kernel_rfl)
theorem reads (os : Os) {H : Type} (enc : TypeId × Value → H) : ∃ places, DataW.whole enc Tryd.prog ((laidWorld os).forCall (fun _ _ => 0) ⟨#[], #[.slice none 0 0], []⟩).memory Tryd.f10.params.toList Rows.asciiHexSpec.vars false (#[.slice none 0 0] : Array Value).toList 8 = some ([.nil], [], places) :=
  ⟨[], by kernel_rfl⟩

set_option maxRecDepth 100000 in
theorem lifted (os : Os) (started : os.Started) (H : Type) (enc : TypeId × Value → H) (F : Stop.Interp) :
    ReturnsInHanded {} Tryd.checked os 10 .any ((OpenSpec.ofChange Rows.asciiHexSpec).preRow enc Tryd.prog Tryd.f10 Rows.asciiHexRow.domain false Rows.asciiHexRow.laid) (((OpenSpec.ofChange Rows.asciiHexSpec).at F).post enc Tryd.prog Tryd.f10 false true false false) := by
  obtain ⟨places, hx⟩ := reads os enc
  refine returnsInHanded_of_row (C := Tryd.checked) (s := OpenSpec.ofChange Rows.asciiHexSpec) own started (by kernel_rfl) Tryd.func10
    (witness_row_at (enc := enc) (C := Tryd.checked) false (laidWorld os) #[.slice none 0 0] rfl (by kernel_rfl) (by kernel_rfl) (by kernel_rfl)
      (OpenSpec.preRow_of_cond 8 hx (by kernel_rfl) (fun k hk => by cases hk) (by kernel_rfl) (laid_met os))) ?_
  intro W base args ds gs before hval hW _ _ _ hL hs _
  exact contract H enc W base args ds gs before hval hW hL hs

theorem said : Rows.AsciiHexSaid :=
  OpenClaim.holds_of_cond 10 Tryd.f10 rfl rfl rfl rfl rfl rfl rfl ⟨rfl, rfl, rfl, rfl, rfl⟩ rfl rfl rfl rfl rfl (by kernel_rfl) Tryd.func10 (by kernel_rfl)
    (of_decide_eq_true (by kernel_rfl)) (by unfold Func.isWrapper; first | (rw [if_pos (by decide +kernel)]; kernel_rfl) | (rw [if_neg (by decide +kernel)]; exact ⟨rfl, rfl⟩))
    (fun os started H enc _ F => by rw [OpenClaim.pre_eq_preRow]; exact lifted os started H enc F)

theorem plain (f : FuncId) (fn : Func) (hf : Tryd.pinned.checked.prog.funcNamed "bulletin/bulletinlaw01.AsciiHex" = some f) (hfn : Tryd.pinned.checked.prog.funcs[f]? = some fn) :
    true = Tryd.pinned.checked.prog.looks [] ∧ ∀ (j : Nat) t, fn.params[j]? = some t → Tryd.pinned.checked.prog.wantsStandIn t = false := by
  obtain rfl : f = 10 := Option.some.inj ((show Tryd.prog.funcNamed "bulletin/bulletinlaw01.AsciiHex" = some 10 by kernel_rfl).symm.trans hf) |>.symm
  obtain rfl : fn = Tryd.f10 := (Option.some.inj (Tryd.func10.symm.trans hfn)).symm
  refine ⟨by kernel_rfl, fun j t ht => ?_⟩
  rw [Tryd.params10] at ht
  obtain rfl : t = 41 := by simpa using Array.mem_of_getElem? ht
  exact (show Tryd.prog.wantsStandIn 41 = false by kernel_rfl)

end Go.Proofs.YtgopcplcamljmaaDoor.asciiHexLaw
namespace Go.Proofs.YtgopcplcamljmaaDoor

/-- THE CARD OF AsciiHex -/
theorem asciiHex_card : Rows.AsciiHexCardSaid :=
  Claim7.holds_tied_plain_at .later [] _ _ _ _ asciiHexLaw.said (fun _ h => by cases h) (by kernel_rfl) (fun _ h => by cases h) asciiHex_row_tie rfl ⟨rfl, rfl⟩ (by kernel_rfl) rfl asciiHexLaw.plain (by kernel_rfl)
#print axioms asciiHex_card
end Go.Proofs.YtgopcplcamljmaaDoor
