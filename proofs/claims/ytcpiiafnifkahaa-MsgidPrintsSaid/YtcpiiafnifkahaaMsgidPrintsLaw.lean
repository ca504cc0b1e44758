/- MsgidPrints: whatever the identity, Print answers as the reference does, and Parse undoes it. Conditions: none beyond the row's own. -/
import Derived.Test.YtcpiiafnifkahaaFrame
namespace Go.Proofs.Ytcpiiafnifkahaa.msgidPrintsLaw
open Go.ChangeShapes Go.WideShapes Go.ChangeAt Go.RowKit
open Go.ChangeMaps (open_string shut_string)

set_option maxRecDepth 100000 in
set_option maxHeartbeats 2000000 in
theorem walk (l : List Nat) (hl : l.length = 32) (hb : ∀ x ∈ l, x < 256) (w : World) :
    Calls Try.prog 3 #[.agg (bsC (nI l))] w fun e w' => e = .returned (.bool true) ∧ Below w.heap.size w w' := by
  obtain ⟨t, ht⟩ : ∃ t : ByteArray, t = ⟨(Mid.printL l).toArray⟩ := ⟨_, rfl⟩
  have htl : t.data.toList = Mid.printL l := by rw [ht]
  have hsz : t.size = 71 := by rw [← size_toList, htl]; exact Mid.printL_len l hl
  have H1 := Lib.hid (fun w => print_any l hl hb w t ht)
  have H2 := Lib.hid (fun w => parse_any t (by omega) l 0 0 (by rw [htl]; exact Mid.parse_print l hl hb) w)
  have H3 := Lib.hid (fun w => refPrint_any l hl hb w t ht)
  have HK := Lib.hid (fun w => known_any w)
  have hal : (nI l).length = 32 := by rw [nI_len]; exact hl
  have heq := fun w => eq_same (t := 23) Try.underlying23 (nI l) hal w
  generalize nI l = A at *
  have HA := Lib.hid hal
  clear hal ht htl hsz hl hb
  go_enter Try.func3, Try.ntmps3
  go_upto_region 1 with (fail)
  have ha := Blk.fresh w 23 (bsC A)
  have hB : Below w.heap.size w (w.alloc (.cells (bsC A) 23)) := (Below.refl _ w).alloc (Nat.le_refl _) _
  generalize w.alloc (.cells (bsC A) 23) = W0 at *
  have K0 := Lib.hid ha; have B0 := Lib.hid hB
  clear ha hB
  go_upto_region 2 with (first
    | (refine ld_bs Try.underlying23 infoId _ A HA.out K0.out (by rfl) _ (by rfl) (by rfl) ?_)
    | (go_at_call 13; refine (H1.out _).mono ?_; rintro e w1 ⟨rfl, hb1⟩; have B1 := Lib.hid (B0.out.trans (hb1.mono B0.out.size)); have K1 := Lib.hid (K0.out.keep hb1 K0.out.lt); clear hb1))
  go_upto_region 3 with (first
    | (go_at_call 14; refine (H2.out _).mono ?_; rintro e w2 ⟨rfl, hb2⟩; have B2 := Lib.hid (B1.out.trans (hb2.mono B1.out.size)); have K2 := Lib.hid (K1.out.keep hb2 K1.out.lt); clear hb2)
    | (refine sto_bs infoId _ A HA.out _ (Blk.fresh w2 _ _) rfl (by rfl) _ _ (by rfl) (by rfl) (by rfl) ?_; intro w3 hw3))
  have L3 := Lib.hid (show Blk w3 w2.heap.size 23 (bsC A) by rw [hw3.out]; exact (Blk.fresh w2 _ _).row _)
  have K3 := Lib.hid (show Blk w3 w.heap.size 23 (bsC A) by rw [hw3.out]; exact (K2.out.more _).far (by have := K2.out.lt; omega) _)
  have B3 := Lib.hid (show Below w.heap.size w w3 by rw [hw3.out]; exact below_row (B2.out.alloc B2.out.size _) _ B2.out.size _)
  clear hw3
  go_wp2_with (first
    | (go_at_call 15; refine (HK.out _).mono ?_; rintro e w4 ⟨rfl, hb4⟩; have B4 := Lib.hid (B3.out.trans (hb4.mono B3.out.size)); have K4 := Lib.hid (K3.out.keep hb4 K3.out.lt); have L4 := Lib.hid (L3.out.keep hb4 L3.out.lt); clear hb4)
    | (refine ld_bs_g Try.underlying23 infoId _ A HA.out K4.out (by rfl) _ (by rfl) (by rfl) ?_))
  refine (H3.out _).mono ?_
  rintro e w5 ⟨rfl, hb5⟩
  have B5 := Lib.hid (B4.out.trans (hb5.mono B4.out.size))
  have K5 := Lib.hid (K4.out.keep hb5 K4.out.lt)
  have L5 := Lib.hid (L4.out.keep hb5 L4.out.lt)
  clear hb5
  rename_i K9 hK9
  refine hK9 _ _ ?_
  go_wp2_with (first
    | (refine ld_bs_g Try.underlying23 infoId _ A HA.out L5.out (by rfl) _ (by rfl) (by rfl) ?_)
    | (refine ld_bs_g Try.underlying23 infoId _ A HA.out K5.out (by rfl) _ (by rfl) (by rfl) ?_))
  go_ret
  exact ⟨rfl, B5.out⟩

set_option maxRecDepth 100000 in
theorem contract (H : Type) (enc : TypeId × Value → H) (W : World) (base : Nat) (args : Array Value) (ds gs : List (DataW H)) (before : List MemPlace)
    (hval : ∀ (j : Nat) t v, Try.f3.params[j]? = some t → args[j]? = some v → Value.okWide Try.prog W .any base t v)
    (hW : DataW.Whole enc Try.prog Try.f3.params.toList Rows.msgidPrintsSpec.vars false W args.toList ds gs before) (_hL : laidMetH Try.prog Rows.msgidPrintsRow.laid W) (_hs : W.ShapedOpen Try.prog) :
    Calls Try.prog 3 args W fun e W' => ∃ v, e = .returned v ∧ Rows.msgidPrintsSpec.post enc Try.prog Try.f3 false true false false W args v W' := by
  have hW' := hW
  obtain ⟨p, q, hA0, hV, rfl, hfz, hnd⟩ := hW
  have hA : DataW.TrodAll enc Try.prog W 0 (fun _ => true) true Try.f3.params.toList args.toList ds p := hA0
  rw [Try.params3] at hA hval
  obtain ⟨v0, vs0, d0, ds0, p0, q0, hargs, rfl, rfl, h0, r0⟩ := trodAll_cons hA
  obtain ⟨rfl, rfl, rfl⟩ := trodAll_nil r0
  obtain rfl : args = #[v0] := by cases args; simp_all
  obtain ⟨rfl, rfl⟩ := trodVars_none hV
  have k0 := h0
  have lt0 : ∀ x ∈ p0, x.block < W.heap.size := by obtain ⟨m, hm⟩ := k0; exact DataW.trod_lt m _ _ _ hm
  obtain ⟨l0, rfl, n0, b0⟩ := arr_open Try.underlying23 (by kernel_rfl) (hval 0 23 v0 rfl rfl) h0
  clear hA0
  refine (walk l0 n0 b0 W).mono fun e W' ⟨he, bel⟩ => ?_
  subst he
  exact ⟨_, rfl, _, _, _, [], _, [], hW', trodAll_mk1 (shut_bool Try.underlying4 _), (trodAll_cons_mk (Below.trod laidOut (by kernel_rfl) (of_decide_eq_true (by kernel_rfl)) k0 bel lt0) trodAll_mk0), rfl, bel.frame _, fun h => by cases h⟩

theorem laid_met (os : Os) : laidMet Try.prog Rows.msgidPrintsRow.laid ((laidWorld os).forCall (fun _ _ => 0) ⟨#[], #[.agg (bsC zD)], []⟩).memory :=
  laidMet_of_run' 8 (by kernel_rfl) (by kernel_rfl)
theorem reads (os : Os) {H : Type} (enc : TypeId × Value → H) : ∃ places, DataW.whole enc Try.prog ((laidWorld os).forCall (fun _ _ => 0) ⟨#[], #[.agg (bsC zD)], []⟩).memory Try.f3.params.toList Rows.msgidPrintsSpec.vars false (#[.agg (bsC zD)] : Array Value).toList 8 = some ([.agg (zD.map fun z => .lit (.int .u8 z))], [], places) :=
  ⟨[], by kernel_rfl⟩

set_option maxRecDepth 100000 in
theorem lifted (os : Os) (started : os.Started) (H : Type) (enc : TypeId × Value → H) (F : Stop.Interp) :
    ReturnsInHanded {} Try.checked os 3 .any ((OpenSpec.ofChange Rows.msgidPrintsSpec).preRow enc Try.prog Try.f3 Rows.msgidPrintsRow.domain false Rows.msgidPrintsRow.laid) (((OpenSpec.ofChange Rows.msgidPrintsSpec).at F).post enc Try.prog Try.f3 false true false false) := by
  obtain ⟨places, hx⟩ := reads os enc
  refine returnsInHanded_of_row (C := Try.checked) (s := OpenSpec.ofChange Rows.msgidPrintsSpec) own started (by kernel_rfl) Try.func3
    (witness_row_at (enc := enc) (C := Try.checked) false (laidWorld os) #[.agg (bsC zD)] rfl (by kernel_rfl) (by kernel_rfl) (by kernel_rfl)
      (OpenSpec.preRow_of_cond 8 hx (by kernel_rfl) (fun k hk => by cases hk) (by kernel_rfl) (laid_met os))) ?_
  intro W base args ds gs before hval hW _ _ _ hL hs _
  exact contract H enc W base args ds gs before hval hW hL hs

theorem said : Rows.MsgidPrintsSaid :=
  OpenClaim.holds_of_cond 3 Try.f3 rfl rfl rfl rfl rfl rfl rfl ⟨rfl, rfl, rfl, rfl, rfl⟩ rfl rfl rfl rfl rfl (by kernel_rfl) Try.func3 (by kernel_rfl)
    (of_decide_eq_true (by kernel_rfl)) (by unfold Func.isWrapper; first | (rw [if_pos (by decide +kernel)]; kernel_rfl) | (rw [if_neg (by decide +kernel)]; exact ⟨rfl, rfl⟩))
    (fun os started H enc _ F => by rw [OpenClaim.pre_eq_preRow]; exact lifted os started H enc F)

end Go.Proofs.Ytcpiiafnifkahaa.msgidPrintsLaw
namespace Go.Proofs.Ytcpiiafnifkahaa

/-- THE STATEMENT OF MsgidPrints -/
theorem msgidPrints_said : Rows.MsgidPrintsSaid := msgidPrintsLaw.said
#print axioms msgidPrints_said
end Go.Proofs.Ytcpiiafnifkahaa
