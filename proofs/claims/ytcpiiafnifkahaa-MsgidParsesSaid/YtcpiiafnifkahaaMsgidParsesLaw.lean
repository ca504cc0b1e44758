/- MsgidParses: for whatever string of up to 200 bytes Parse answers as the reference does, and what it accepts is printed unchanged. Conditions: none beyond the row's own. -/
import Derived.Test.YtcpiiafnifkahaaFrame
import Derived.Test.YtcpiiafnifkahaaParseZero
namespace Go.Proofs.Ytcpiiafnifkahaa.msgidParsesLaw
open Go.ChangeShapes Go.WideShapes Go.ChangeAt Go.RowKit
open Go.ChangeMaps (open_string shut_string)

theorem info_eq (l : List Int) (hl : l.length = 32) (w : World) : (Op.equalIn 10000 30 (.agg (bsC l)) (.agg (bsC l))).run Try.prog w = .ok true w := eq_same (t := 30) Try.underlying30 l hl w

set_option maxRecDepth 100000 in
set_option maxHeartbeats 4000000 in
theorem walk (s0 : ByteArray) (hs0 : s0.size ≤ maxLen) (w : World) :
    Calls Try.prog 4 #[.string s0] w fun e w' => e = .returned (.bool true) ∧ Below w.heap.size w w' := by
  unfold maxLen at hs0
  obtain ⟨m, hm⟩ : ∃ m, m = min s0.size 200 := ⟨_, rfl⟩
  have hmin : min (s0.size : Int) 200 = (m : Int) := by omega
  have hms : (m : Int) ≤ (s0.size : Int) := by omega
  have hsz : (s0.extract 0 m).size ≤ 100000 := by simp; omega
  obtain ⟨⟨v, a, b⟩, hab⟩ : ∃ x, x = Mid.parse (s0.extract 0 m).data.toList := ⟨_, rfl⟩
  have hv := Mid.parse_len _ _ _ _ hab.symm
  have H1 := Lib.hid (fun w => parse_any (s0.extract 0 m) hsz v a b hab.symm w)
  have H2 := Lib.hid (fun w => refParse_any (s0.extract 0 m) hsz v a b hab.symm w)
  have HK := Lib.hid (fun w => known_any w)
  have hb0 : b = 0 → s0.extract 0 m = ⟨(Mid.printL v).toArray⟩ := fun h => by
    have hp := Mid.parse_zero _ _ _ _ hab.symm h
    apply ByteArray.ext
    show (s0.extract 0 m).data = (Mid.printL v).toArray
    rw [hp]
  have HB0 := Lib.hid hb0
  have HP := Lib.hid (fun (h : b = 0) w => print_any v hv.1 hv.2 w (s0.extract 0 m) (hb0 h))
  have hal : (nI v).length = 32 := by rw [nI_len]; exact hv.1
  have heq := fun w => info_eq (nI v) hal w
  generalize nI v = A at *
  have HA := Lib.hid hal
  clear hab hsz hm hs0 hal hv hb0 HB0
  go_enter Try.func4, Try.ntmps4
  have B0 := Lib.hid (Below.refl w.heap.size w)
  go_upto_region 2 with (fail)
  clear hmin hms
  generalize s0.extract 0 m = t at *
  go_upto_region 3 with (first
    | (go_at_call 14; refine (H1.out _).mono ?_; rintro e w2 ⟨rfl, hb2⟩; have B2 := Lib.hid (B0.out.trans (hb2.mono B0.out.size)); clear hb2)
    | (refine sto_bs infoId _ A HA.out _ (Blk.fresh w2 _ _) rfl (by rfl) _ _ (by rfl) (by rfl) (by rfl) ?_; intro w3 hw3))
  have L3 := Lib.hid (show Blk w3 w2.heap.size 23 (bsC A) by rw [hw3.out]; exact (Blk.fresh w2 _ _).row _)
  have B3 := Lib.hid (show Below w.heap.size w w3 by rw [hw3.out]; exact below_row (B2.out.alloc B2.out.size _) _ B2.out.size _)
  clear hw3
  generalize w2.heap.size = g at *
  go_upto_region 4 with (first
    | (go_at_call 17; refine (H2.out _).mono ?_; rintro e w4 ⟨rfl, hb4⟩; have B4 := Lib.hid (B3.out.trans (hb4.mono B3.out.size)); have L4 := Lib.hid (L3.out.keep hb4 L3.out.lt); clear hb4)
    | (refine sto_bs infoRid _ A HA.out _ (Blk.fresh w4 _ _) rfl (by rfl) _ _ (by rfl) (by rfl) (by rfl) ?_; intro w5 hw5))
  have M5 := Lib.hid (show Blk w5 w4.heap.size 30 (bsC A) by rw [hw5.out]; exact (Blk.fresh w4 _ _).row _)
  have L5 := Lib.hid (show Blk w5 g 23 (bsC A) by rw [hw5.out]; exact (L4.out.more _).far (by have := L4.out.lt; omega) _)
  have B5 := Lib.hid (show Below w.heap.size w w5 by rw [hw5.out]; exact below_row (B4.out.alloc B4.out.size _) _ B4.out.size _)
  clear hw5
  generalize w4.heap.size = h at *
  by_cases hb : b = 0
  · have HPR := Lib.hid (HP.out hb)
    subst hb
    go_wp2_with (first
      | (go_at_call 15; refine (HK.out _).mono ?_; rintro e w6 ⟨rfl, hb6⟩; have B6 := Lib.hid (B5.out.trans (hb6.mono B5.out.size)); have L6 := Lib.hid (L5.out.keep hb6 L5.out.lt); have M6 := Lib.hid (M5.out.keep hb6 M5.out.lt); clear hb6)
      | (refine ld_bs_g Try.underlying30 infoRid _ A HA.out M6.out (by rfl) _ (by rfl) (by rfl) ?_)
      | (refine ld_bs_g Try.underlying23 infoId _ A HA.out L6.out (by rfl) _ (by rfl) (by rfl) ?_))
    refine (HPR.out _).mono ?_
    rintro e w7 ⟨rfl, hb7⟩
    have B7 := Lib.hid (B6.out.trans (hb7.mono B6.out.size))
    clear hb7
    rename_i K9 hK9
    refine hK9 _ _ ?_
    go_wp2_with fail
    go_ret
    exact ⟨rfl, B7.out⟩
  · have hbI : ¬ (b : Int) = 0 := by omega
    clear hb
    go_wp2_with (first
      | (go_at_call 15; refine (HK.out _).mono ?_; rintro e w6 ⟨rfl, hb6⟩; have B6 := Lib.hid (B5.out.trans (hb6.mono B5.out.size)); have L6 := Lib.hid (L5.out.keep hb6 L5.out.lt); have M6 := Lib.hid (M5.out.keep hb6 M5.out.lt); clear hb6)
      | (refine ld_bs_g Try.underlying30 infoRid _ A HA.out M6.out (by rfl) _ (by rfl) (by rfl) ?_)
      | (refine ld_bs_g Try.underlying23 infoId _ A HA.out L6.out (by rfl) _ (by rfl) (by rfl) ?_))
    go_ret
    exact ⟨rfl, B6.out⟩

set_option maxRecDepth 100000 in
theorem contract (H : Type) (enc : TypeId × Value → H) (W : World) (base : Nat) (args : Array Value) (ds gs : List (DataW H)) (before : List MemPlace)
    (hval : ∀ (j : Nat) t v, Try.f4.params[j]? = some t → args[j]? = some v → Value.okWide Try.prog W .any base t v)
    (hW : DataW.Whole enc Try.prog Try.f4.params.toList Rows.msgidParsesSpec.vars false W args.toList ds gs before) (_hL : laidMetH Try.prog Rows.msgidParsesRow.laid W) (_hs : W.ShapedOpen Try.prog) :
    Calls Try.prog 4 args W fun e W' => ∃ v, e = .returned v ∧ Rows.msgidParsesSpec.post enc Try.prog Try.f4 false true false false W args v W' := by
  have hW' := hW
  obtain ⟨p, q, hA0, hV, rfl, hfz, hnd⟩ := hW
  have hA : DataW.TrodAll enc Try.prog W 0 (fun _ => true) true Try.f4.params.toList args.toList ds p := hA0
  rw [Try.params4] at hA hval
  obtain ⟨v0, vs0, d0, ds0, p0, q0, hargs, rfl, rfl, h0, r0⟩ := trodAll_cons hA
  obtain ⟨rfl, rfl, rfl⟩ := trodAll_nil r0
  obtain rfl : args = #[v0] := by cases args; simp_all
  obtain ⟨rfl, rfl⟩ := trodVars_none hV
  obtain ⟨a0, rfl, rfl, rfl, w0⟩ := open_string Try.underlying9 (hval 0 9 v0 rfl rfl) h0
  clear hA0
  simp only [List.append_nil] at hW'
  refine (walk a0 w0 W).mono fun e W' ⟨he, bel⟩ => ?_
  subst he
  exact ⟨_, rfl, _, _, _, [], [], [], hW', trodAll_mk1 (shut_bool Try.underlying4 _), (trodAll_cons_mk (shut_string Try.underlying9 w0) trodAll_mk0), rfl, bel.frame _, fun h => by cases h⟩

theorem laid_met (os : Os) : laidMet Try.prog Rows.msgidParsesRow.laid ((laidWorld os).forCall (fun _ _ => 0) ⟨#[], #[.string ByteArray.empty], []⟩).memory :=
  laidMet_of_run' 8 (by kernel_rfl) (by kernel_rfl)
theorem reads (os : Os) {H : Type} (enc : TypeId × Value → H) : ∃ places, DataW.whole enc Try.prog ((laidWorld os).forCall (fun _ _ => 0) ⟨#[], #[.string ByteArray.empty], []⟩).memory Try.f4.params.toList Rows.msgidParsesSpec.vars false (#[.string ByteArray.empty] : Array Value).toList 8 = some ([.lit (.string [])], [], places) :=
  ⟨[], by kernel_rfl⟩

set_option maxRecDepth 100000 in
theorem lifted (os : Os) (started : os.Started) (H : Type) (enc : TypeId × Value → H) (F : Stop.Interp) :
    ReturnsInHanded {} Try.checked os 4 .any ((OpenSpec.ofChange Rows.msgidParsesSpec).preRow enc Try.prog Try.f4 Rows.msgidParsesRow.domain false Rows.msgidParsesRow.laid) (((OpenSpec.ofChange Rows.msgidParsesSpec).at F).post enc Try.prog Try.f4 false true false false) := by
  obtain ⟨places, hx⟩ := reads os enc
  refine returnsInHanded_of_row (C := Try.checked) (s := OpenSpec.ofChange Rows.msgidParsesSpec) own started (by kernel_rfl) Try.func4
    (witness_row_at (enc := enc) (C := Try.checked) false (laidWorld os) #[.string ByteArray.empty] rfl (by kernel_rfl) (by kernel_rfl) (by kernel_rfl)
      (OpenSpec.preRow_of_cond 8 hx (by kernel_rfl) (fun k hk => by cases hk) (by kernel_rfl) (laid_met os))) ?_
  intro W base args ds gs before hval hW _ _ _ hL hs _
  exact contract H enc W base args ds gs before hval hW hL hs

theorem said : Rows.MsgidParsesSaid :=
  OpenClaim.holds_of_cond 4 Try.f4 rfl rfl rfl rfl rfl rfl rfl ⟨rfl, rfl, rfl, rfl, rfl⟩ rfl rfl rfl rfl rfl (by kernel_rfl) Try.func4 (by kernel_rfl)
    (of_decide_eq_true (by kernel_rfl)) (by unfold Func.isWrapper; first | (rw [if_pos (by decide +kernel)]; kernel_rfl) | (rw [if_neg (by decide +kernel)]; exact ⟨rfl, rfl⟩))
    (fun os started H enc _ F => by rw [OpenClaim.pre_eq_preRow]; exact lifted os started H enc F)

end Go.Proofs.Ytcpiiafnifkahaa.msgidParsesLaw
namespace Go.Proofs.Ytcpiiafnifkahaa

/-- THE STATEMENT OF MsgidParses -/
theorem msgidParses_said : Rows.MsgidParsesSaid := msgidParsesLaw.said
#print axioms msgidParses_said
end Go.Proofs.Ytcpiiafnifkahaa
