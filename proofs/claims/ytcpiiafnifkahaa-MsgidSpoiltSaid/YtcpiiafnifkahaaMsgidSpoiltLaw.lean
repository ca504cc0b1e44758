/- MsgidSpoilt: whatever the identity and whichever byte of its text is changed, Parse answers another identity or the place of that byte. Conditions: none beyond the row's own. -/
import Derived.Test.YtcpiiafnifkahaaFrame
import Derived.Test.YtcpiiafnifkahaaConv
namespace Go.Proofs.Ytcpiiafnifkahaa.msgidSpoiltLaw
open Go.ChangeShapes Go.WideShapes Go.ChangeAt Go.RowKit
open Go.ChangeMaps (open_string shut_string)

theorem wrap_u8 (x : Int) (h : 0 ≤ x ∧ x ≤ 255) : wrap64 x = x := by
  unfold wrap64
  omega

theorem nI_inj {l m : List Nat} (h : nI l = nI m) : l = m := (List.map_inj_right (f := fun (x : Nat) => (x : Int)) (fun _ _ h => Int.ofNat.inj h)).1 h

set_option maxRecDepth 100000 in
set_option maxHeartbeats 4000000 in
theorem walk (l : List Nat) (hl : l.length = 32) (hb : ∀ x ∈ l, x < 256) (x y : Int) (hx : 0 ≤ x ∧ x ≤ 255) (hy : 0 ≤ y ∧ y ≤ 255) (w : World) :
    Calls Try.prog 5 #[.agg (bsC (nI l)), .int .u8 x, .int .u8 y] w fun e w' => e = .returned (.bool true) ∧ Below w.heap.size w w' := by
  obtain ⟨t, ht⟩ : ∃ t : ByteArray, t = ⟨(Mid.printL l).toArray⟩ := ⟨_, rfl⟩
  have htl : t.data.toList = Mid.printL l := by rw [ht]
  have hsz : t.size = 71 := by rw [← size_toList, htl]; exact Mid.printL_len l hl
  have hwx : wrap64 x = x := wrap_u8 x hx
  obtain ⟨q, hq⟩ : ∃ q : Nat, q = (x.tmod 71).toNat := ⟨_, rfl⟩
  have hq1 : x.tmod 71 = (q : Int) := by rw [hq, Int.tmod_eq_emod_of_nonneg hx.1]; omega
  have hq71 : q < 71 := by rw [Int.tmod_eq_emod_of_nonneg hx.1] at hq1; omega
  obtain ⟨c, hc⟩ : ∃ c : UInt8, y = (c.toNat : Int) := ⟨UInt8.ofNat y.toNat, by rw [UInt8.toNat_ofNat']; omega⟩
  obtain ⟨c0, hc0⟩ : ∃ c0 : UInt8, c0 = (Mid.printL l).getD q 0 := ⟨_, rfl⟩
  have hsp := Mid.spoilt l hl hb q hq71 c
  rw [← hc0] at hsp
  have H3 := Lib.hid (fun w => refPrint_any l hl hb w t ht)
  have HK := Lib.hid (fun w => known_any w)
  have HCI := Lib.hid (fun w => conv_in w t)
  have hal : (nI l).length = 32 := by rw [nI_len]; exact hl
  have HNI := Lib.hid (fun m (h : nI m = nI l) => nI_inj h)
  generalize hA : nI l = A at *
  have HA := Lib.hid hal; have HSP := Lib.hid hsp; have HC := Lib.hid hc; have HT := Lib.hid htl; have HC0 := Lib.hid hc0; have HQ := Lib.hid hq71
  have HLN := Lib.hid (show (Mid.printL l).length = 71 from Mid.printL_len l hl)
  have hqI : (q : Int) < 71 := by omega
  clear hal hsp hc htl hc0 hA ht hq hl hb hx hy hq71
  go_enter Try.func5, Try.ntmps5
  go_upto_region 1 with (fail)
  have ha := Blk.fresh w 23 (bsC A)
  have hB : Below w.heap.size w (w.alloc (.cells (bsC A) 23)) := (Below.refl _ w).alloc (Nat.le_refl _) _
  generalize w.alloc (.cells (bsC A) 23) = W0 at *
  have K0 := Lib.hid ha; have B0 := Lib.hid hB
  clear ha hB
  go_upto_region 3 with (go_at_call 15; refine (HK.out _).mono ?_; rintro e w1 ⟨rfl, hb1⟩; have B1 := Lib.hid (B0.out.trans (hb1.mono B0.out.size)); have K1 := Lib.hid (K0.out.keep hb1 K0.out.lt); clear hb1)
  go_upto_region 4 with (first
    | (refine ld_bs Try.underlying23 infoId _ A HA.out K1.out (by rfl) _ (by rfl) (by rfl) ?_)
    | (go_at_call 16; refine (H3.out _).mono ?_; rintro e w2 ⟨rfl, hb2⟩; have B2 := Lib.hid (B1.out.trans (hb2.mono B1.out.size)); have K2 := Lib.hid (K1.out.keep hb2 K1.out.lt); clear hb2; obtain ⟨W4, cap, hcv, hrow, hbel⟩ := HCI.out w2))
  have hBn : w.heap.size < w2.heap.size := K2.out.lt
  have K4 := Lib.hid (K2.out.keep hbel K2.out.lt)
  have B4 := Lib.hid (B2.out.trans (hbel.mono B2.out.size))
  have hR : RowAt W4 w2.heap.size (Mid.printL l) := by rw [← HT.out]; exact hrow
  have hql : q < (Mid.printL l).length := by rw [HLN.out]; exact HQ.out
  have hcell := (hR.2 q hql).1
  have f1 := (hR.2 q hql).2
  have hget : (Mid.printL l)[q] = c0 := by rw [HC0.out, List.getD_eq_getElem?_getD, List.getElem?_eq_getElem hql]; rfl
  rw [hget] at hcell
  have HR := Lib.hid hR; have HBN := Lib.hid hBn
  clear hcv hrow hbel hR hql hget hBn
  generalize w2.heap.size = B at *
  obtain ⟨z, hz⟩ : ∃ z : Int, z = (c0.toNat : Int) := ⟨_, rfl⟩
  rw [← hz] at hcell
  have HZ := Lib.hid hz
  clear hz
  by_cases he : z = y
  · subst he
    go_wp2_with fail
    go_ret
    exact ⟨rfl, B4.out⟩
  · have hne : c0 ≠ c := fun e => he (by rw [HC.out, HZ.out, e])
    go_upto_region 8 with (fail)
    have hsp := HSP.out hne
    have hR5 : RowAt (W4.setCell ⟨B, q, none⟩ (.int .u8 y)) B ((Mid.printL l).set q c) := by rw [HC.out]; exact HR.out.set q (by rw [HLN.out]; exact HQ.out) c
    have hl5 : ((Mid.printL l).set q c).length = 71 := by rw [List.length_set]; exact HLN.out
    have hcv2 := conv_out _ B cap _ hR5
    rw [hl5] at hcv2
    have K5 := Lib.hid (K4.out.away (k := B) (by have := HBN.out; omega) q (.int .u8 y))
    have B5 := Lib.hid (below_put B4.out B q (by have := HBN.out; omega) (.int .u8 y))
    obtain ⟨s', hs'⟩ : ∃ s' : ByteArray, s' = ⟨((Mid.printL l).set q c).toArray⟩ := ⟨_, rfl⟩
    have hsl : s'.data.toList = (Mid.printL l).set q c := by rw [hs']
    have hsz' : s'.size ≤ 100000 := by rw [← size_toList, hsl, hl5]; omega
    rw [← hs'] at hcv2
    generalize W4.setCell ⟨B, q, none⟩ (.int .u8 y) = W5 at *
    rcases hsp with hbad | ⟨hbad, hnid, hq1', hq64⟩
    · have HP := Lib.hid (fun w => parse_any s' hsz' Mid.zN q 6 (by rw [hsl]; exact Mid.parse_bad _ q hbad) w)
      rw [nI_zN] at HP
      have HZR := Lib.hid kZero
      have HZL := Lib.hid zD_len
      clear hbad hsl hsz' hl5 hs' hne hR5
      generalize zD = Z at *
      go_upto_region 9 with (first
        | (go_at_call 14; refine (HP.out _).mono ?_; rintro e w6 ⟨rfl, hb6⟩; have B6 := Lib.hid (B5.out.trans (hb6.mono B5.out.size)); have K6 := Lib.hid (K5.out.keep hb6 K5.out.lt); clear hb6)
        | (refine sto_bs infoId _ Z HZL.out _ (Blk.fresh w6 _ _) rfl (by rfl) _ _ (by rfl) (by rfl) (by rfl) ?_; intro w7 hw7))
      have L7 := Lib.hid (show Blk w7 w6.heap.size 23 (bsC Z) by rw [hw7.out]; exact (Blk.fresh w6 _ _).row _)
      have B7 := Lib.hid (show Below w.heap.size w w7 by rw [hw7.out]; exact below_row (B6.out.alloc B6.out.size _) _ B6.out.size _)
      clear hw7
      go_wp2_with (refine ld_bs_g Try.underlying23 infoId _ Z HZL.out L7.out (by rfl) _ (by rfl) (by rfl) ?_)
      refine (HZR.out _).mono ?_
      rintro e w8 ⟨rfl, hb8⟩
      have B8 := Lib.hid (B7.out.trans (hb8.mono B7.out.size))
      clear hb8
      rename_i K9 hK9
      refine hK9 _ _ ?_
      go_wp2_with fail
      go_ret
      exact ⟨rfl, B8.out⟩
    · have HP := Lib.hid (fun w => parse_any s' hsz' (Mid.idL s'.data.toList) 0 0 (Mid.parse_ok _ (by rw [hsl]; exact hbad) (by rw [hsl]; exact hl5)) w)
      have hXl : (nI (Mid.idL s'.data.toList)).length = 32 := by rw [nI_len]; exact Mid.idL_len _
      have hXne : ¬ nI (Mid.idL s'.data.toList) = A := fun h => hnid (by rw [← hsl]; exact HNI.out _ h)
      have heq := fun w => eq_arr (t := 23) Try.underlying23 (nI (Mid.idL s'.data.toList)) A hXl HA.out 9998 w
      rw [decide_eq_false hXne] at heq
      have heq : ∀ w, (Op.equalIn 10000 23 (.agg (bsC (nI (Mid.idL s'.data.toList)))) (.agg (bsC A))).run Try.prog w = .ok false w := heq
      have HXL := Lib.hid hXl
      have h1 : (1 : Int) ≤ (q : Int) := by omega
      have h64 : (q : Int) ≤ 64 := by omega
      clear hXl hXne hbad hsl hsz' hl5 hs' hne hR5 hnid hq1' hq64
      generalize nI (Mid.idL s'.data.toList) = X at *
      go_upto_region 9 with (first
        | (go_at_call 14; refine (HP.out _).mono ?_; rintro e w6 ⟨rfl, hb6⟩; have B6 := Lib.hid (B5.out.trans (hb6.mono B5.out.size)); have K6 := Lib.hid (K5.out.keep hb6 K5.out.lt); clear hb6)
        | (refine sto_bs infoId _ X HXL.out _ (Blk.fresh w6 _ _) rfl (by rfl) _ _ (by rfl) (by rfl) (by rfl) ?_; intro w7 hw7))
      have L7 := Lib.hid (show Blk w7 w6.heap.size 23 (bsC X) by rw [hw7.out]; exact (Blk.fresh w6 _ _).row _)
      have K7 := Lib.hid (show Blk w7 w.heap.size 23 (bsC A) by rw [hw7.out]; exact (K6.out.more _).far (by have := K6.out.lt; omega) _)
      have B7 := Lib.hid (show Below w.heap.size w w7 by rw [hw7.out]; exact below_row (B6.out.alloc B6.out.size _) _ B6.out.size _)
      clear hw7
      go_wp2_with (first
        | (refine ld_bs_g Try.underlying23 infoId _ X HXL.out L7.out (by rfl) _ (by rfl) (by rfl) ?_)
        | (refine ld_bs_g Try.underlying23 infoId _ A HA.out K7.out (by rfl) _ (by rfl) (by rfl) ?_))
      go_ret
      exact ⟨rfl, B7.out⟩

set_option maxRecDepth 100000 in
theorem contract (H : Type) (enc : TypeId × Value → H) (W : World) (base : Nat) (args : Array Value) (ds gs : List (DataW H)) (before : List MemPlace)
    (hval : ∀ (j : Nat) t v, Try.f5.params[j]? = some t → args[j]? = some v → Value.okWide Try.prog W .any base t v)
    (hW : DataW.Whole enc Try.prog Try.f5.params.toList Rows.msgidSpoiltSpec.vars false W args.toList ds gs before) (_hL : laidMetH Try.prog Rows.msgidSpoiltRow.laid W) (_hs : W.ShapedOpen Try.prog) :
    Calls Try.prog 5 args W fun e W' => ∃ v, e = .returned v ∧ Rows.msgidSpoiltSpec.post enc Try.prog Try.f5 false true false false W args v W' := by
  have hW' := hW
  obtain ⟨p, q, hA0, hV, rfl, hfz, hnd⟩ := hW
  have hA : DataW.TrodAll enc Try.prog W 0 (fun _ => true) true Try.f5.params.toList args.toList ds p := hA0
  rw [Try.params5] at hA hval
  obtain ⟨v0, vs0, d0, ds0, p0, q0, hargs, rfl, rfl, h0, r0⟩ := trodAll_cons hA
  obtain ⟨v1, vs1, d1, ds1, p1, q1, rfl, rfl, rfl, h1, r1⟩ := trodAll_cons r0
  obtain ⟨v2, vs2, d2, ds2, p2, q2, rfl, rfl, rfl, h2, r2⟩ := trodAll_cons r1
  obtain ⟨rfl, rfl, rfl⟩ := trodAll_nil r2
  obtain rfl : args = #[v0, v1, v2] := by cases args; simp_all
  obtain ⟨rfl, rfl⟩ := trodVars_none hV
  have k0 := h0
  have lt0 : ∀ x ∈ p0, x.block < W.heap.size := by obtain ⟨m, hm⟩ := k0; exact DataW.trod_lt m _ _ _ hm
  obtain ⟨l0, rfl, n0, b0⟩ := arr_open Try.underlying23 (by kernel_rfl) (hval 0 23 v0 rfl rfl) h0
  obtain ⟨a1, rfl, rfl, rfl, w1⟩ := open_int Try.underlying5 (hval 1 5 v1 rfl rfl) h1
  obtain ⟨a2, rfl, rfl, rfl, w2⟩ := open_int Try.underlying5 (hval 2 5 v2 rfl rfl) h2
  clear hA0
  refine (walk l0 n0 b0 a1 a2 (bounds_u8 w1) (bounds_u8 w2) W).mono fun e W' ⟨he, bel⟩ => ?_
  subst he
  exact ⟨_, rfl, _, _, _, [], _, [], hW', trodAll_mk1 (shut_bool Try.underlying4 _), (trodAll_cons_mk (Below.trod laidOut (by kernel_rfl) (of_decide_eq_true (by kernel_rfl)) k0 bel lt0) (trodAll_cons_mk (shut_int Try.underlying5 w1) (trodAll_cons_mk (shut_int Try.underlying5 w2) trodAll_mk0))), rfl, bel.frame _, fun h => by cases h⟩

theorem laid_met (os : Os) : laidMet Try.prog Rows.msgidSpoiltRow.laid ((laidWorld os).forCall (fun _ _ => 0) ⟨#[], #[.agg (bsC zD), .int .u8 0, .int .u8 0], []⟩).memory :=
  laidMet_of_run' 8 (by kernel_rfl) (by kernel_rfl)
theorem reads (os : Os) {H : Type} (enc : TypeId × Value → H) : ∃ places, DataW.whole enc Try.prog ((laidWorld os).forCall (fun _ _ => 0) ⟨#[], #[.agg (bsC zD), .int .u8 0, .int .u8 0], []⟩).memory Try.f5.params.toList Rows.msgidSpoiltSpec.vars false (#[.agg (bsC zD), .int .u8 0, .int .u8 0] : Array Value).toList 8 = some ([.agg (zD.map fun z => .lit (.int .u8 z)), .lit (.int .u8 0), .lit (.int .u8 0)], [], places) :=
  ⟨[], by kernel_rfl⟩

set_option maxRecDepth 100000 in
theorem lifted (os : Os) (started : os.Started) (H : Type) (enc : TypeId × Value → H) (F : Stop.Interp) :
    ReturnsInHanded {} Try.checked os 5 .any ((OpenSpec.ofChange Rows.msgidSpoiltSpec).preRow enc Try.prog Try.f5 Rows.msgidSpoiltRow.domain false Rows.msgidSpoiltRow.laid) (((OpenSpec.ofChange Rows.msgidSpoiltSpec).at F).post enc Try.prog Try.f5 false true false false) := by
  obtain ⟨places, hx⟩ := reads os enc
  refine returnsInHanded_of_row (C := Try.checked) (s := OpenSpec.ofChange Rows.msgidSpoiltSpec) own started (by kernel_rfl) Try.func5
    (witness_row_at (enc := enc) (C := Try.checked) false (laidWorld os) #[.agg (bsC zD), .int .u8 0, .int .u8 0] rfl (by kernel_rfl) (by kernel_rfl) (by kernel_rfl)
      (OpenSpec.preRow_of_cond 8 hx (by kernel_rfl) (fun k hk => by cases hk) (by kernel_rfl) (laid_met os))) ?_
  intro W base args ds gs before hval hW _ _ _ hL hs _
  exact contract H enc W base args ds gs before hval hW hL hs

theorem said : Rows.MsgidSpoiltSaid :=
  OpenClaim.holds_of_cond 5 Try.f5 rfl rfl rfl rfl rfl rfl rfl ⟨rfl, rfl, rfl, rfl, rfl⟩ rfl rfl rfl rfl rfl (by kernel_rfl) Try.func5 (by kernel_rfl)
    (of_decide_eq_true (by kernel_rfl)) (by unfold Func.isWrapper; first | (rw [if_pos (by decide +kernel)]; kernel_rfl) | (rw [if_neg (by decide +kernel)]; exact ⟨rfl, rfl⟩))
    (fun os started H enc _ F => by rw [OpenClaim.pre_eq_preRow]; exact lifted os started H enc F)

end Go.Proofs.Ytcpiiafnifkahaa.msgidSpoiltLaw
namespace Go.Proofs.Ytcpiiafnifkahaa

/-- THE STATEMENT OF MsgidSpoilt -/
theorem msgidSpoilt_said : Rows.MsgidSpoiltSaid := msgidSpoiltLaw.said
#print axioms msgidSpoilt_said
end Go.Proofs.Ytcpiiafnifkahaa
