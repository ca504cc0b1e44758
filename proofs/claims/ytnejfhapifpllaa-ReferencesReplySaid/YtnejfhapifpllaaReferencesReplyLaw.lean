/- ReferencesReply: whatever the list and the parent, Reply answers as the reference does. Conditions: none beyond the row's own. -/
import Derived.Test.YtnejfhapifpllaaRRep
import Derived.Test.YtnejfhapifpllaaOpenR
namespace Go.Proofs.Ytnejfhapifpllaa.referencesReplyLaw
open Go.ChangeShapes Go.WideShapes Go.ChangeAt Go.RowKit
open Go.ChangeMaps (open_string shut_string)

set_option maxRecDepth 100000 in
set_option maxHeartbeats 4000000 in
theorem walk (p : Option Addr) (len cap : Nat) (ls : List Mid.Id) (x : Mid.Id) (w : World) (hv : Ids w (.slice p len cap) ls) (hlen : ls.length = len) :
    Calls Try.prog 7 #[.slice p len cap, .agg (encI x).toArray] w fun e w' => e = .returned (.bool true) ∧ Below w.heap.size w w' := by
  have HK := Lib.hid (fun w => known_any w)
  have HB0 := Lib.hid ((Below.refl w.heap.size w).alloc (Nat.le_refl _) (.cells (encI x).toArray 48))
  have HK0 := Lib.hid (Blk.fresh w 48 (encI x).toArray)
  have V0 := Lib.hid (hv.below HB0.out)
  by_cases hl : 30 < len
  · have hlI : (30 : Int) < (len : Int) := by omega
    go_enter Try.func7, Try.ntmps7
    go_wp2_with fail
    obtain ⟨W0, hW0⟩ : ∃ W0, W0 = w.alloc (.cells (encI x).toArray 48) := ⟨_, rfl⟩
    rw [← hW0] at HB0 HK0 V0 ⊢
    clear hW0
    refine (HK.out _).mono ?_
    rintro e w1 ⟨rfl, hb1⟩
    have B_1 := Lib.hid (HB0.out.trans (hb1.mono HB0.out.size))
    clear hb1 
    go_wp2_with fail
    refine (HK.out _).mono ?_
    rintro e w2 ⟨rfl, hb2⟩
    have B_2 := Lib.hid (B_1.out.trans (hb2.mono B_1.out.size))
    clear hb2 
    go_wp2_with fail
    go_ret
    exact ⟨rfl, B_2.out⟩
  have hlI : ¬ (30 : Int) < (len : Int) := by omega
  have HO := Lib.hid (fun W v h => own_any v ls W (by omega) h)
  have HRP := Lib.hid (fun W v h => reply_any v ls x W h)
  have HRR := Lib.hid (fun W v h => refReply_any v ls x W h)
  obtain ⟨D, q, hD⟩ : ∃ D q, Mid.replyE ls x = (D, q) := ⟨_, _, rfl⟩
  have HD := Lib.hid hD
  have HSA := Lib.hid (fun W v u h1 h2 => same_any v u D D W h1 h2)
  rw [decide_eq_true rfl] at HSA
  have hu : Try.prog.underlying 48 = some (.array 32 5) := Try.underlying48
  have hix := info_enc infoRid x
  clear hv hlen hl hD
  go_enter Try.func7, Try.ntmps7
  go_wp2_with fail
  obtain ⟨W0, hW0⟩ : ∃ W0, W0 = w.alloc (.cells (encI x).toArray 48) := ⟨_, rfl⟩
  obtain ⟨gb, hgb⟩ : ∃ g, g = w.heap.size := ⟨_, rfl⟩
  rw [← hW0] at HB0 HK0 V0 ⊢
  rw [← hgb] at HK0 ⊢
  have HGB := Lib.hid hgb
  clear hW0 hgb
  refine (HK.out _).mono ?_
  rintro e w1 ⟨rfl, hb1⟩
  have B_1 := Lib.hid (HB0.out.trans (hb1.mono HB0.out.size))
  have V_1 := Lib.hid (V0.out.below hb1)
  have K_1 := Lib.hid (HK0.out.keep hb1 HK0.out.lt)
  clear hb1 
  go_wp2_with fail
  have HS3 := Lib.hid (fun W (hb : Below w1.heap.size w1 W) => encBlk (K_1.out.keep hb K_1.out.lt))
  have D3 := Lib.hid ((Below.refl w1.heap.size w1).drew)
  refine wp_region_held_drew (S := (fun w' => w'.rangeAt gb 0 (encI x))) (by kernel_rfl) ?_ (fun hHeld => ?_)
  · exact (HS3.out _ D3.out)
  refine wpAnyH_take (i := 0) (v := ?_) rfl (by kernel_rfl) (by kernel_rfl) (by kernel_rfl) (fun _ _ _ h => h) (Or.inl ⟨by rfl, ?_⟩) (by assumption) ?_
  rotate_left
  · (intro w9 _; go_simp; try with_reducible rfl)
  simp only [Act.put, List.getElem_toArray, List.getElem_cons_zero, List.setIfInBounds_toArray, List.set_cons_succ, List.set_cons_zero]
  refine wpAnyH_take (i := 2) (v := .agg (encI x).toArray) rfl (by kernel_rfl) (by kernel_rfl) (by kernel_rfl) (fun _ _ _ h => h) (yieldsIf_load_mid (by rfl) _ _ rfl _ _ rfl (encI x) _ (fun _ h => h) hu rfl hix) (by assumption) ?_
  simp only [Act.put, List.getElem_toArray, List.getElem_cons_succ, List.getElem_cons_zero, List.setIfInBounds_toArray, List.set_cons_succ, List.set_cons_zero]
  refine wpAnyH_ready (rs := [1]) (by kernel_rfl) (by simp) ?_
  refine AllReadyH.cons rfl (fun K hK => ?_) AllReadyH.nil
  go_simp
  refine (HO.out _ _ (V_1.out.below D3.out)).mono ?_
  rintro e u1 ⟨v1, rfl, hi, hb⟩
  have U1 := Lib.hid (D3.out.trans (hb.mono D3.out.size)); have I1 := Lib.hid hi
  clear hb hi
  refine hK.out _ _ (HS3.out _ U1.out) (fun hHeld => ?_)
  clear hK K
  refine wpAnyH_ready (rs := [3]) (by kernel_rfl) (by simp) ?_
  refine AllReadyH.cons rfl (fun K hK => ?_) AllReadyH.nil
  go_simp
  refine (HRP.out _ _ I1.out).mono ?_
  rintro e u2 ⟨v2, l2, q2, rfl, he2, hi2, hb⟩
  have U2 := Lib.hid (U1.out.trans (hb.mono U1.out.size)); have I2 := Lib.hid hi2
  obtain ⟨rfl, rfl⟩ : l2 = D ∧ q2 = q := by have := he2.symm.trans HD.out; exact Prod.mk.inj this
  clear hb hi2 he2
  refine hK.out _ _ (HS3.out _ U2.out) (fun hHeld => ?_)
  clear hK K
  refine wpAnyH_take (i := 4) (v := ?_) rfl (by kernel_rfl) (by kernel_rfl) (by kernel_rfl) (fun _ _ _ h => h) (Or.inl ⟨by rfl, ?_⟩) (by assumption) ?_
  rotate_left
  · (intro w9 _; go_simp; try with_reducible rfl)
  simp only [Act.put, List.getElem_toArray, List.getElem_cons_succ, List.getElem_cons_zero, List.setIfInBounds_toArray, List.set_cons_succ, List.set_cons_zero]
  refine wpAnyH_take (i := 5) (v := ?_) rfl (by kernel_rfl) (by kernel_rfl) (by kernel_rfl) (fun _ _ _ h => h) (Or.inl ⟨by rfl, ?_⟩) (by assumption) ?_
  rotate_left
  · (intro w9 _; go_simp; try with_reducible rfl)
  simp only [Act.put, List.getElem_toArray, List.getElem_cons_succ, List.getElem_cons_zero, List.setIfInBounds_toArray, List.set_cons_succ, List.set_cons_zero]
  refine wpAnyH_take (i := 6) (v := ?_) rfl (by kernel_rfl) (by kernel_rfl) (by kernel_rfl) (fun _ _ _ h => h) (Or.inl ⟨by rfl, ?_⟩) (by assumption) ?_
  rotate_left
  · (intro w9 _; go_simp; try with_reducible rfl)
  simp only [Act.put, List.getElem_toArray, List.getElem_cons_succ, List.getElem_cons_zero, List.setIfInBounds_toArray, List.set_cons_succ, List.set_cons_zero]
  refine wpAnyH_take (i := 7) (v := ?_) rfl (by kernel_rfl) (by kernel_rfl) (by kernel_rfl) (fun _ _ _ h => h) (Or.inl ⟨by rfl, ?_⟩) (by assumption) ?_
  rotate_left
  · (intro w9 _; go_simp; try with_reducible rfl)
  simp only [Act.put, List.getElem_toArray, List.getElem_cons_succ, List.getElem_cons_zero, List.setIfInBounds_toArray, List.set_cons_succ, List.set_cons_zero]
  refine wpAnyH_take (i := 8) (v := ?_) rfl (by kernel_rfl) (by kernel_rfl) (by kernel_rfl) (fun _ _ _ h => h) (Or.inl ⟨by rfl, ?_⟩) (by assumption) ?_
  rotate_left
  · (intro w9 _; go_simp; try with_reducible rfl)
  simp only [Act.put, List.getElem_toArray, List.getElem_cons_succ, List.getElem_cons_zero, List.setIfInBounds_toArray, List.set_cons_succ, List.set_cons_zero]
  refine wpAnyH_done (by kernel_rfl) ?_ _
  clear hHeld
  have B_r3 := Lib.hid (B_1.out.trans (U2.out.mono B_1.out.size))
  have V_r3 := Lib.hid (V_1.out.below U2.out)
  have K_r3 := Lib.hid (K_1.out.keep U2.out K_1.out.lt)
  clear D3 HS3 U1 U2 I1
  go_wp2_with (refine wpList_load_mid rfl _ _ rfl gb 0 (by rfl) (encI x) _ (encBlk K_r3.out) hu rfl hix ?_)
  refine (HRR.out _ _ V_r3.out).mono ?_
  rintro e w5 ⟨v4, l4, q4, rfl, he4, hi4, hb5⟩
  have B_5 := Lib.hid (B_r3.out.trans (hb5.mono B_r3.out.size))
  have V_5 := Lib.hid (V_r3.out.below hb5)
  have K_5 := Lib.hid (K_r3.out.keep hb5 K_r3.out.lt)
  have J_5 := Lib.hid (I2.out.below hb5)
  have L_5 := Lib.hid (hi4)
  clear hb5 hi4
  obtain ⟨rfl, rfl⟩ : l4 = l2 ∧ q4 = q2 := by have := he4.symm.trans HD.out; exact Prod.mk.inj this
  clear he4
  go_wp2_with fail
  refine (HSA.out _ _ _ J_5.out L_5.out).mono ?_
  rintro e w6 ⟨rfl, hb6⟩
  have B_6 := Lib.hid (B_5.out.trans (hb6.mono B_5.out.size))
  have V_6 := Lib.hid (V_5.out.below hb6)
  have K_6 := Lib.hid (K_5.out.keep hb6 K_5.out.lt)
  have J_6 := Lib.hid (J_5.out.below hb6)
  have L_6 := Lib.hid (L_5.out.below hb6)
  clear hb6 
  go_wp2_with fail
  go_ret
  exact ⟨rfl, B_6.out⟩

theorem walkN (p : Option Addr) (len cap : Nat) (ls : List Mid.Id) (l : List Nat) (n : l.length = 32) (b : ∀ x ∈ l, x < 256) (w : World) (hv : Ids w (.slice p len cap) ls) (hlen : ls.length = len) :
    Calls Try.prog 7 #[.slice p len cap, .agg (bsC (l.map fun (x : Nat) => (x : Int)))] w fun e w' => e = .returned (.bool true) ∧ Below w.heap.size w w' := by
  have h : bsC (l.map fun (x : Nat) => (x : Int)) = (encI ⟨l, n, b⟩).toArray := by unfold bsC encI; rw [List.map_map]; rfl
  rw [h]
  exact walk p len cap ls ⟨l, n, b⟩ w hv hlen

set_option maxRecDepth 100000 in
theorem contract (H : Type) (enc : TypeId × Value → H) (W : World) (base : Nat) (args : Array Value) (ds gs : List (DataW H)) (before : List MemPlace)
    (hval : ∀ (j : Nat) t v, Try.f7.params[j]? = some t → args[j]? = some v → Value.okWide Try.prog W .any base t v)
    (hW : DataW.Whole enc Try.prog Try.f7.params.toList Rows.referencesReplySpec.vars false W args.toList ds gs before) (_hL : laidMetH Try.prog Rows.referencesReplyRow.laid W) (_hs : W.ShapedOpen Try.prog) :
    Calls Try.prog 7 args W fun e W' => ∃ v, e = .returned v ∧ Rows.referencesReplySpec.post enc Try.prog Try.f7 false true false false W args v W' := by
  have hW' := hW
  obtain ⟨p, q, hA0, hV, rfl, hfz, hnd⟩ := hW
  have hA : DataW.TrodAll enc Try.prog W 0 (fun _ => true) true Try.f7.params.toList args.toList ds p := hA0
  rw [Try.params7] at hA hval
  obtain ⟨v0, vs0, d0, ds0, p0, q0, hargs, rfl, rfl, h0, r0⟩ := trodAll_cons hA
  obtain ⟨v1, vs1, d1, ds1, p1, q1, rfl, rfl, rfl, h1, r1⟩ := trodAll_cons r0
  obtain ⟨rfl, rfl, rfl⟩ := trodAll_nil r1
  obtain rfl : args = #[v0, v1] := by cases args; simp_all
  obtain ⟨rfl, rfl⟩ := trodVars_none hV
  obtain ⟨a0, len0, cap0, rfl⟩ := okWide_slice Try.underlying22 (hval 0 22 v0 rfl rfl)
  have k0 := h0
  have lt0 : ∀ x ∈ p0, x.block < W.heap.size := by obtain ⟨m, hm⟩ := k0; exact DataW.trod_lt m _ _ _ hm
  obtain ⟨l0, w0, e0⟩ := ids_openR h0
  have k1 := h1
  have lt1 : ∀ x ∈ p1, x.block < W.heap.size := by obtain ⟨m, hm⟩ := k1; exact DataW.trod_lt m _ _ _ hm
  obtain ⟨l1, rfl, n1, b1⟩ := arr_open Try.underlying48 (by kernel_rfl) (hval 1 48 v1 rfl rfl) h1
  clear hA0
  refine (walkN a0 len0 cap0 l0 l1 n1 b1 W w0 e0).mono fun e W' ⟨he, bel⟩ => ?_
  subst he
  exact ⟨_, rfl, _, _, _, [], _, [], hW', trodAll_mk1 (shut_bool Try.underlying4 _), (trodAll_cons_mk (Below.trod laidOut (by kernel_rfl) (of_decide_eq_true (by kernel_rfl)) k0 bel lt0) (trodAll_cons_mk (Below.trod laidOut (by kernel_rfl) (of_decide_eq_true (by kernel_rfl)) k1 bel lt1) trodAll_mk0)), rfl, bel.frame _, fun h => by cases h⟩

theorem laid_met (os : Os) : laidMet Try.prog Rows.referencesReplyRow.laid ((laidWorld os).forCall (fun _ _ => 0) ⟨#[], #[.slice none 0 0, .agg (bsC zD)], []⟩).memory :=
  laidMet_of_run' 8 (by kernel_rfl) (by kernel_rfl)
theorem reads (os : Os) {H : Type} (enc : TypeId × Value → H) : ∃ places, DataW.whole enc Try.prog ((laidWorld os).forCall (fun _ _ => 0) ⟨#[], #[.slice none 0 0, .agg (bsC zD)], []⟩).memory Try.f7.params.toList Rows.referencesReplySpec.vars false (#[.slice none 0 0, .agg (bsC zD)] : Array Value).toList 8 = some ([.nil, .agg (zD.map fun z => .lit (.int .u8 z))], [], places) :=
  ⟨[], by kernel_rfl⟩

set_option maxRecDepth 100000 in
theorem lifted (os : Os) (started : os.Started) (H : Type) (enc : TypeId × Value → H) (F : Stop.Interp) :
    ReturnsInHanded {} Try.checked os 7 .any ((OpenSpec.ofChange Rows.referencesReplySpec).preRow enc Try.prog Try.f7 Rows.referencesReplyRow.domain false Rows.referencesReplyRow.laid) (((OpenSpec.ofChange Rows.referencesReplySpec).at F).post enc Try.prog Try.f7 false true false false) := by
  obtain ⟨places, hx⟩ := reads os enc
  refine returnsInHanded_of_row (C := Try.checked) (s := OpenSpec.ofChange Rows.referencesReplySpec) own started (by kernel_rfl) Try.func7
    (witness_row_at (enc := enc) (C := Try.checked) false (laidWorld os) #[.slice none 0 0, .agg (bsC zD)] rfl (by kernel_rfl) (by kernel_rfl) (by kernel_rfl)
      (OpenSpec.preRow_of_cond 8 hx (by kernel_rfl) (fun k hk => by cases hk) (by kernel_rfl) (laid_met os))) ?_
  intro W base args ds gs before hval hW _ _ _ hL hs _
  exact contract H enc W base args ds gs before hval hW hL hs

theorem said : Rows.ReferencesReplySaid :=
  OpenClaim.holds_of_cond 7 Try.f7 rfl rfl rfl rfl rfl rfl rfl ⟨rfl, rfl, rfl, rfl, rfl⟩ rfl rfl rfl rfl rfl (by kernel_rfl) Try.func7 (by kernel_rfl)
    (of_decide_eq_true (by kernel_rfl)) (by unfold Func.isWrapper; first | (rw [if_pos (by decide +kernel)]; kernel_rfl) | (rw [if_neg (by decide +kernel)]; exact ⟨rfl, rfl⟩))
    (fun os started H enc _ F => by rw [OpenClaim.pre_eq_preRow]; exact lifted os started H enc F)

end Go.Proofs.Ytnejfhapifpllaa.referencesReplyLaw
namespace Go.Proofs.Ytnejfhapifpllaa

/-- THE STATEMENT OF ReferencesReply -/
theorem referencesReply_said : Rows.ReferencesReplySaid := referencesReplyLaw.said
#print axioms referencesReply_said
end Go.Proofs.Ytnejfhapifpllaa
