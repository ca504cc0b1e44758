/- Base64Encode: whatever bytes and number come in, the law's call returns true and both read as before; the alphabet's table reads as the program's text lays it (the card ties it).
   Conditions: none beyond the row's own. -/
import Derived.Test.YtbojodgeknjpjaaDoorOpen
import Derived.Test.YtbojodgeknjpjaaDoorRefEnc
namespace Go.Proofs.YtbojodgeknjpjaaDoor.encodeLaw
open Go.ChangeShapes Go.WideShapes Go.ChangeAt Go.RowKit
open Go.ChangeMaps (open_string shut_string)

/-- what Size answers for every number -/
def sizeF (n : Int) : Int := if n < 0 ∨ 131072 < n then 0 else (n + 2) / 3 * 4

theorem size15 (n : Int) (w : World) (z : Int) (hz : z = sizeF n) : Calls Tryd.prog 15 #[.int .i64 n] w fun e w' => e = .returned (.int .i64 z) ∧ w = w' := by
  have HZ := Lib.hid hz
  clear hz
  by_cases h0 : n < 0
  · go_enter Tryd.func15, Tryd.ntmps15
    go_wp2
    go_ret
    exact ⟨by rw [HZ.out, sizeF, if_pos (Or.inl h0)]; rfl, rfl⟩
  · by_cases h1 : 131072 < n
    · have g1 : decide (n < 0) = false := by simpa using h0
      go_enter Tryd.func15, Tryd.ntmps15
      go_wp2
      go_ret
      exact ⟨by rw [HZ.out, sizeF, if_pos (Or.inr h1)]; rfl, rfl⟩
    · refine (size_ok n w (by omega) (by omega)).mono ?_
      rintro e w' ⟨rfl, rfl⟩
      exact ⟨by rw [HZ.out, sizeF, if_neg (by omega)], rfl⟩

theorem size16 (n : Int) (w : World) (z : Int) (hz : z = sizeF n) : Calls Tryd.prog 16 #[.int .i64 n] w fun e w' => e = .returned (.int .i64 z) ∧ w = w' := by
  have HZ := Lib.hid hz
  clear hz
  by_cases h0 : n < 0
  · go_enter Tryd.func16, Tryd.ntmps16
    go_wp2
    go_ret
    exact ⟨by rw [HZ.out, sizeF, if_pos (Or.inl h0)]; rfl, rfl⟩
  · by_cases h1 : 131072 < n
    · have g1 : decide (n < 0) = false := by simpa using h0
      go_enter Tryd.func16, Tryd.ntmps16
      go_wp2
      go_ret
      exact ⟨by rw [HZ.out, sizeF, if_pos (Or.inr h1)]; rfl, rfl⟩
    · have g1 : decide (n < 0) = false := by simpa using h0
      go_enter Tryd.func16, Tryd.ntmps16
      go_wp2
      go_ret
      exact ⟨by rw [HZ.out, sizeF, if_neg (by omega)]; rfl, rfl⟩

set_option maxHeartbeats 400000 in
theorem walk (v : Value) (l : List Nat) (n : Int) (w : World) (hT : Tab w) (hv : Bytes w v l) :
    Calls Tryd.prog 3 #[v, .int .i64 n] w fun e w' => e = .returned (.bool true) ∧ Below w.heap.size w w' := by
  have hk := known_any w hT
  have HK := Lib.hid hk
  have HV := Lib.hid hv
  clear hk
  obtain ⟨hby, x, cap, rfl, hcap, hmax, _⟩ := hv
  unfold maxLen at hmax
  by_cases hl : 600 < l.length
  · have hl2 : (600 : Int) < (l.length : Int) := by omega
    go_enter Tryd.func3, Tryd.ntmps3
    go_wp2_with fail
    refine HK.out.mono ?_
    rintro e w1 ⟨rfl, hb1⟩
    go_wp2_with fail
    refine (known_any w1 (hT.below hb1 hT.1)).mono ?_
    rintro e w2 ⟨rfl, hb2⟩
    go_wp2
    go_ret
    exact ⟨rfl, hb1.trans (hb2.mono hb1.size)⟩
  · have hl2 : ¬ (600 : Int) < (l.length : Int) := by omega
    have hel := B64.encT_length l hby
    obtain ⟨s, hs⟩ : ∃ s : ByteArray, s = ⟨(B64.encT l).toArray⟩ := ⟨_, rfl⟩
    have hsl : s.data.toList = B64.encT l := by rw [hs]
    have hsz : s.size = (l.length + 2) / 3 * 4 := by rw [← size_toList, hsl, hel]
    obtain ⟨z, hz⟩ : ∃ z : Int, z = sizeF (l.length : Int) := ⟨_, rfl⟩
    obtain ⟨zn, hzn⟩ : ∃ z : Int, z = sizeF n := ⟨_, rfl⟩
    have hzs : (z == (s.size : Int)) = true := by
      rw [hz, hsz, sizeF, if_neg (by omega)]
      simp
    have HS := Lib.hid hs; have HZ := Lib.hid hz; have HZN := Lib.hid hzn
    clear hs hel hsl hsz hby hz hzn
    go_enter Tryd.func3, Tryd.ntmps3
    go_wp2_with fail
    refine HK.out.mono ?_
    rintro e w1 ⟨rfl, hb1⟩
    have hE := Encode_ok _ l w1 (hT.below hb1 hT.1) (HV.out.below hb1) (by omega)
    rw [← HS.out] at hE
    have HE := Lib.hid hE
    clear hE
    go_wp2_with fail
    refine HE.out.mono ?_
    rintro e w2 ⟨rfl, hb2⟩
    have hb3 : Below w.heap.size w w2 := hb1.trans (hb2.mono hb1.size)
    clear hb1 hb2 HE
    have hR := refEnc_any _ l w2 (HV.out.below hb3) (by omega)
    rw [← HS.out] at hR
    have HR := Lib.hid hR
    clear hR
    go_wp2_with fail
    refine HR.out.mono ?_
    rintro e w3 ⟨rfl, rfl⟩
    go_wp2_with fail
    refine (size15 _ _ z HZ.out).mono ?_
    rintro e w3 ⟨rfl, rfl⟩
    go_wp2_with fail
    refine (size15 _ _ zn HZN.out).mono ?_
    rintro e w3 ⟨rfl, rfl⟩
    go_wp2_with fail
    refine (size16 _ _ zn HZN.out).mono ?_
    rintro e w3 ⟨rfl, rfl⟩
    go_wp2
    go_ret
    exact ⟨rfl, hb3⟩

theorem contract (H : Type) (enc : TypeId × Value → H) (W : World) (base : Nat) (args : Array Value) (ds gs : List (DataW H)) (before : List MemPlace)
    (hval : ∀ (j : Nat) t v, Tryd.f3.params[j]? = some t → args[j]? = some v → Value.okWide Tryd.prog W .any base t v)
    (hW : DataW.Whole enc Tryd.prog Tryd.f3.params.toList Rows.base64EncodeSpec.vars false W args.toList ds gs before) (hL : laidMetH Tryd.prog Rows.base64EncodeRow.laid W) :
    Calls Tryd.prog 3 args W fun e W' => ∃ v, e = .returned v ∧ Rows.base64EncodeSpec.post enc Tryd.prog Tryd.f3 false true false false W args v W' := by
  have hW' := hW
  obtain ⟨p, q, hA0, hV, rfl, hfz, hnd⟩ := hW
  have hA : DataW.TrodAll enc Tryd.prog W 0 (fun _ => true) true Tryd.f3.params.toList args.toList ds p := hA0
  rw [Tryd.params3] at hA hval
  obtain ⟨v0, vs0, d0, ds0, p0, q0, hargs, rfl, rfl, h0, r0⟩ := trodAll_cons hA
  obtain ⟨v1, vs1, d1, ds1, p1, q1, rfl, rfl, rfl, h1, r1⟩ := trodAll_cons r0
  obtain ⟨rfl, rfl, rfl⟩ := trodAll_nil r1
  obtain rfl : args = #[v0, v1] := by cases args; simp_all
  obtain ⟨rfl, rfl⟩ := trodVars_none hV
  obtain ⟨a0, len0, cap0, rfl⟩ := okWide_slice Tryd.underlying22 (hval 0 22 v0 rfl rfl)
  have k0 := h0
  have lt0 : ∀ x ∈ p0, x.block < W.heap.size := by obtain ⟨m, hm⟩ := k0; exact DataW.trod_lt m _ _ _ hm
  obtain ⟨l0, w0⟩ := bytes_open h0
  obtain ⟨a1, rfl, rfl, rfl, w1⟩ := open_int Tryd.underlying3 (hval 1 3 v1 rfl rfl) h1
  clear hA0
  refine (walk _ l0 a1 W (table hL) w0.1).mono fun e W' ⟨he, bel⟩ => ?_
  subst he
  exact ⟨_, rfl, _, _, _, [], _, [], hW', trodAll_mk1 (shut_bool Tryd.underlying4 _), (trodAll_cons_mk (Below.trod laidOut (by kernel_rfl) (of_decide_eq_true (by kernel_rfl)) k0 bel lt0) (trodAll_cons_mk (shut_int Tryd.underlying3 w1) trodAll_mk0)), rfl, bel.frame _, fun h => by cases h⟩

theorem laid_met (os : Os) : laidMet Tryd.prog Rows.base64EncodeRow.laid ((laidWorld os).forCall (fun _ _ => 0) ⟨#[], #[.slice none 0 0, .int .i64 0], []⟩).memory :=
  laidMet_of_run' 8 (by kernel_rfl) (by kernel_rfl)
theorem reads (os : Os) {H : Type} (enc : TypeId × Value → H) : ∃ places, DataW.whole enc Tryd.prog ((laidWorld os).forCall (fun _ _ => 0) ⟨#[], #[.slice none 0 0, .int .i64 0], []⟩).memory Tryd.f3.params.toList Rows.base64EncodeSpec.vars false (#[.slice none 0 0, .int .i64 0] : Array Value).toList 8 = some ([.nil, .lit (.int .i64 0)], [], places) :=
  ⟨[], by kernel_rfl⟩

set_option maxRecDepth 100000 in
theorem lifted (os : Os) (started : os.Started) (H : Type) (enc : TypeId × Value → H) (F : Stop.Interp) :
    ReturnsInHanded {} Tryd.checked os 3 .any ((OpenSpec.ofChange Rows.base64EncodeSpec).preRow enc Tryd.prog Tryd.f3 Rows.base64EncodeRow.domain false Rows.base64EncodeRow.laid) (((OpenSpec.ofChange Rows.base64EncodeSpec).at F).post enc Tryd.prog Tryd.f3 false true false false) := by
  obtain ⟨places, hx⟩ := reads os enc
  refine returnsInHanded_of_row (C := Tryd.checked) (s := OpenSpec.ofChange Rows.base64EncodeSpec) own started (by kernel_rfl) Tryd.func3
    (witness_row_at (enc := enc) (C := Tryd.checked) false (laidWorld os) #[.slice none 0 0, .int .i64 0] rfl (by kernel_rfl) (by kernel_rfl) (by kernel_rfl)
      (OpenSpec.preRow_of_cond 8 hx (by kernel_rfl) (fun k hk => by cases hk) (by kernel_rfl) (laid_met os))) ?_
  intro W base args ds gs before hval hW _ _ _ hL _ _
  exact contract H enc W base args ds gs before hval hW hL

theorem said : Rows.Base64EncodeSaid :=
  OpenClaim.holds_of_cond 3 Tryd.f3 rfl rfl rfl rfl rfl rfl rfl ⟨rfl, rfl, rfl, rfl, rfl⟩ rfl rfl rfl rfl rfl (by kernel_rfl) Tryd.func3 (by kernel_rfl)
    (of_decide_eq_true (by kernel_rfl)) (by unfold Func.isWrapper; first | (rw [if_pos (by decide +kernel)]; kernel_rfl) | (rw [if_neg (by decide +kernel)]; exact ⟨rfl, rfl⟩))
    (fun os started H enc _ F => by rw [OpenClaim.pre_eq_preRow]; exact lifted os started H enc F)

theorem plain (f : FuncId) (fn : Func) (hf : Tryd.pinned.checked.prog.funcNamed "bulletin/bulletinlaw02.Base64Encode" = some f) (hfn : Tryd.pinned.checked.prog.funcs[f]? = some fn) :
    false = Tryd.pinned.checked.prog.looks [] ∧ ∀ (j : Nat) t, fn.params[j]? = some t → Tryd.pinned.checked.prog.wantsStandIn t = false := by
  obtain rfl : f = 3 := Option.some.inj ((show Tryd.prog.funcNamed "bulletin/bulletinlaw02.Base64Encode" = some 3 by kernel_rfl).symm.trans hf) |>.symm
  obtain rfl : fn = Tryd.f3 := (Option.some.inj (Tryd.func3.symm.trans hfn)).symm
  refine ⟨by kernel_rfl, fun j t ht => ?_⟩
  rw [Tryd.params3] at ht
  have hm : t = 22 ∨ t = 3 := by simpa using Array.mem_of_getElem? ht
  rcases hm with rfl | rfl
  · exact (show Tryd.prog.wantsStandIn 22 = false by kernel_rfl)
  · exact (show Tryd.prog.wantsStandIn 3 = false by kernel_rfl)

end Go.Proofs.YtbojodgeknjpjaaDoor.encodeLaw
namespace Go.Proofs.YtbojodgeknjpjaaDoor

/-- THE CARD OF Base64Encode -/
theorem base64Encode_card : Rows.Base64EncodeCardSaid :=
  Claim7.holds_tied_plain_at .later [] _ _ _ _ encodeLaw.said (fun _ h => by cases h) (by kernel_rfl) (fun _ h => by cases h) base64Encode_row_tie rfl ⟨rfl, rfl⟩ (by kernel_rfl) rfl encodeLaw.plain (by kernel_rfl)
#print axioms base64Encode_card
end Go.Proofs.YtbojodgeknjpjaaDoor
