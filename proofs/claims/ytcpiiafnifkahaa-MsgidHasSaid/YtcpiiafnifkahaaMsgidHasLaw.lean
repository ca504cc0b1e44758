/- MsgidHas: whatever the list and the identity, Has answers whether the list has it, of the set of the list too. Conditions: none beyond the row's own. -/
import Derived.Test.YtcpiiafnifkahaaSet
import Derived.Test.YtcpiiafnifkahaaTo
namespace Go.Proofs.Ytcpiiafnifkahaa.msgidHasLaw
open Go.ChangeShapes Go.WideShapes Go.ChangeAt Go.RowKit
open Go.ChangeMaps (open_string shut_string)

set_option maxRecDepth 100000 in
set_option maxHeartbeats 2000000 in
theorem walk (a : Option Addr) (len cap : Nat) (ls : List Mid.Id) (x : Mid.Id) (w : World) (hv : Ids w (.slice a len cap) ls) (hlen : ls.length = len) :
    Calls Try.prog 8 #[.slice a len cap, .agg (encI x).toArray] w fun e w' => e = .returned (.bool true) ∧ Below w.heap.size w w' := by
  obtain ⟨n, hn⟩ : ∃ n, n = min len 40 := ⟨_, rfl⟩
  have hn40 : n ≤ 40 := by omega
  have hnl : n ≤ len := by omega
  have hlc : len ≤ cap := by
    obtain ⟨_, _, h, h1, _⟩ := hv; cases h; omega
  have hcm : cap ≤ maxLen := by
    obtain ⟨_, _, h, _, h2, _⟩ := hv; cases h; omega
  unfold maxLen at hcm
  have hT : Ids w (.slice a n cap) (ls.take n) := hv.take n (by omega)
  have hTl : (ls.take n).length = n := by rw [List.length_take]; omega
  have hmin : min (len : Int) 40 = (n : Int) := by omega
  have hnI : (n : Int) ≤ (len : Int) := by omega
  have hn4 : (n : Int) ≤ 40 := by omega
  have hlI : (len : Int) ≤ (cap : Int) := by omega
  have hcI : (cap : Int) ≤ 9223372036854775807 := by omega
  generalize ls.take n = ms at *
  have HT := Lib.hid hT; have HTL := Lib.hid hTl
  have HK := Lib.hid (fun w => known_any w)
  have HTO := Lib.hid (fun W h => to_any (.slice a n cap) ms W (by omega) h)
  have HRH := Lib.hid (fun W v h => refHas_any v ms x W (by omega) h)
  have HH := Lib.hid (fun W v h => has_any v ms x W (by omega) h)
  have HC := Lib.hid (fun W v M hl h => has_any v M x W hl h)
  have HS := Lib.hid (fun W h => set_any (.slice a n cap) ms W (by omega) h)
  have hix := info_enc infoId x
  have hu23 : Try.prog.underlying 23 = some (.array 32 5) := Try.underlying23
  generalize hqq : decide (x ∈ ms) = q at *
  have HQ := Lib.hid hqq
  clear hqq
  clear hT hTl hv hlen hn hn40 hnl hlc hcm
  go_enter Try.func8, Try.ntmps8
  go_upto_region 1 with (fail)
  have hA := Blk.fresh w 23 (encI x).toArray
  have hB : Below w.heap.size w (w.alloc (.cells (encI x).toArray 23)) := (Below.refl _ w).alloc (Nat.le_refl _) _
  generalize w.alloc (.cells (encI x).toArray 23) = W0 at *
  have HA := Lib.hid hA; have HB := Lib.hid hB
  clear hA hB
  go_wp2_with fail
  have K1 := Lib.hid HA.out.draw; have B1 := Lib.hid HB.out.drew
  refine wp_region_held_drew (S := (fun w' => w'.rangeAt w.heap.size 0 (encI x))) (by kernel_rfl) ?_ (fun hHeld => ?_)
  · exact encBlk K1.out
  refine wpAnyH_take (i := 0) (v := ?_) rfl (by kernel_rfl) (by kernel_rfl) (by kernel_rfl) (fun _ _ _ h => h) (Or.inl ⟨by rfl, ?_⟩) (by assumption) ?_
  rotate_left
  · (intro w9 _; go_simp; try with_reducible rfl)
  simp only [Act.put, List.getElem_toArray, List.getElem_cons_zero, List.setIfInBounds_toArray, List.set_cons_succ, List.set_cons_zero]
  refine wpAnyH_take (i := 2) (v := .agg (encI x).toArray) rfl (by kernel_rfl) (by kernel_rfl) (by kernel_rfl) (fun _ _ _ h => h) (yieldsIf_load_mid (by rfl) _ _ rfl _ _ rfl (encI x) _ (fun _ h => h) hu23 rfl hix) (by assumption) ?_
  simp only [Act.put, List.getElem_toArray, List.getElem_cons_succ, List.getElem_cons_zero, List.setIfInBounds_toArray, List.set_cons_succ, List.set_cons_zero]
  refine wpAnyH_ready (rs := [1]) (by kernel_rfl) (by simp) ?_
  refine AllReadyH.cons rfl (fun K hK => ?_) AllReadyH.nil
  go_simp
  refine (HTO.out _ (HT.out.below B1.out)).mono ?_
  rintro e w2 ⟨v1, rfl, hI1, hb2⟩
  have I2 := Lib.hid hI1
  have B2 := Lib.hid (B1.out.trans (hb2.mono B1.out.size)); have K2 := Lib.hid (K1.out.keep hb2 K1.out.lt)
  clear hb2 hI1
  refine hK.out _ _ (encBlk K2.out) (fun hHeld => ?_)
  clear hK K
  refine wpAnyH_ready (rs := [3]) (by kernel_rfl) (by simp) ?_
  refine AllReadyH.cons rfl (fun K hK => ?_) AllReadyH.nil
  go_simp
  refine (HRH.out _ _ I2.out).mono ?_
  rintro e w3 ⟨rfl, hb3⟩
  have B3 := Lib.hid (B2.out.trans (hb3.mono B2.out.size)); have K3 := Lib.hid (K2.out.keep hb3 K2.out.lt)
  clear hb3
  refine hK.out _ _ (encBlk K3.out) (fun hHeld => ?_)
  clear hK K
  refine wpAnyH_take (i := 4) (v := ?_) rfl (by kernel_rfl) (by kernel_rfl) (by kernel_rfl) (fun _ _ _ h => h) (Or.inl ⟨by rfl, ?_⟩) (by assumption) ?_
  rotate_left
  · (intro w9 _; go_simp; try with_reducible rfl)
  simp only [Act.put, List.getElem_toArray, List.getElem_cons_succ, List.getElem_cons_zero, List.setIfInBounds_toArray, List.set_cons_succ, List.set_cons_zero]
  refine wpAnyH_done (by kernel_rfl) ?_ _
  clear hHeld
  go_wp2_with fail
  have K3d := Lib.hid K3.out.draw; have B3d := Lib.hid B3.out.drew
  refine wp_region_held_drew (S := (fun w' => w'.rangeAt w.heap.size 0 (encI x))) (by kernel_rfl) ?_ (fun hHeld => ?_)
  · exact encBlk K3d.out
  refine wpAnyH_ready (rs := [0]) (by kernel_rfl) (by simp) ?_
  refine AllReadyH.cons rfl (fun K hK => ?_) AllReadyH.nil
  go_simp
  refine (HK.out _).mono ?_
  rintro e w4 ⟨rfl, hb4⟩
  have B4 := Lib.hid (B3d.out.trans (hb4.mono B3d.out.size)); have K4 := Lib.hid (K3d.out.keep hb4 K3d.out.lt)
  clear hb4
  refine hK.out _ _ (encBlk K4.out) (fun hHeld => ?_)
  clear hK K
  refine wpAnyH_take (i := 1) (v := ?_) rfl (by kernel_rfl) (by kernel_rfl) (by kernel_rfl) (fun _ _ _ h => h) (Or.inl ⟨by rfl, ?_⟩) (by assumption) ?_
  rotate_left
  · (intro w9 _; go_simp; try with_reducible rfl)
  simp only [Act.put, List.getElem_toArray, List.getElem_cons_succ, List.getElem_cons_zero, List.setIfInBounds_toArray, List.set_cons_succ, List.set_cons_zero]
  refine wpAnyH_take (i := 2) (v := ?_) rfl (by kernel_rfl) (by kernel_rfl) (by kernel_rfl) (fun _ _ _ h => h) (Or.inl ⟨by rfl, ?_⟩) (by assumption) ?_
  rotate_left
  · (intro w9 _; go_simp; try with_reducible rfl)
  simp only [Act.put, List.getElem_toArray, List.getElem_cons_succ, List.getElem_cons_zero, List.setIfInBounds_toArray, List.set_cons_succ, List.set_cons_zero]
  refine wpAnyH_take (i := 3) (v := .agg (encI x).toArray) rfl (by kernel_rfl) (by kernel_rfl) (by kernel_rfl) (fun _ _ _ h => h) (yieldsIf_load_mid (by rfl) _ _ rfl _ _ rfl (encI x) _ (fun _ h => h) hu23 rfl hix) (by assumption) ?_
  simp only [Act.put, List.getElem_toArray, List.getElem_cons_succ, List.getElem_cons_zero, List.setIfInBounds_toArray, List.set_cons_succ, List.set_cons_zero]
  refine wpAnyH_take (i := 5) (v := ?_) rfl (by kernel_rfl) (by kernel_rfl) (by kernel_rfl) (fun _ _ _ h => h) (Or.inl ⟨by rfl, ?_⟩) (by assumption) ?_
  rotate_left
  · (intro w9 _; go_simp; try with_reducible rfl)
  simp only [Act.put, List.getElem_toArray, List.getElem_cons_succ, List.getElem_cons_zero, List.setIfInBounds_toArray, List.set_cons_succ, List.set_cons_zero]
  refine wpAnyH_ready (rs := [4]) (by kernel_rfl) (by simp) ?_
  refine AllReadyH.cons rfl (fun K hK => ?_) AllReadyH.nil
  go_simp
  refine (HH.out _ _ (HT.out.below B4.out)).mono ?_
  rintro e w5 ⟨rfl, hb5⟩
  have B5 := Lib.hid (B4.out.trans (hb5.mono B4.out.size)); have K5 := Lib.hid (K4.out.keep hb5 K4.out.lt)
  clear hb5
  refine hK.out _ _ (encBlk K5.out) (fun hHeld => ?_)
  clear hK K
  refine wpAnyH_take (i := 6) (v := ?_) rfl (by kernel_rfl) (by kernel_rfl) (by kernel_rfl) (fun _ _ _ h => h) (Or.inl ⟨by rfl, ?_⟩) (by assumption) ?_
  rotate_left
  · (intro w9 _; go_simp; try with_reducible rfl)
  simp only [Act.put, List.getElem_toArray, List.getElem_cons_succ, List.getElem_cons_zero, List.setIfInBounds_toArray, List.set_cons_succ, List.set_cons_zero]
  refine wpAnyH_take (i := 7) (v := ?_) rfl (by kernel_rfl) (by kernel_rfl) (by kernel_rfl) (fun _ _ _ h => h) (Or.inl ⟨by rfl, ?_⟩) (by assumption) ?_
  rotate_left
  · (intro w9 _; go_simp; try with_reducible rfl)
  simp only [Act.put, List.getElem_toArray, List.getElem_cons_succ, List.getElem_cons_zero, List.setIfInBounds_toArray, List.set_cons_succ, List.set_cons_zero]
  refine wpAnyH_take (i := 8) (v := ?_) rfl (by kernel_rfl) (by kernel_rfl) (by kernel_rfl) (fun _ _ _ h => h) (Or.inl ⟨by rfl, ?_⟩) (by assumption) ?_
  rotate_left
  · (intro w9 _; go_simp; try with_reducible rfl)
  simp only [Act.put, List.getElem_toArray, List.getElem_cons_succ, List.getElem_cons_zero, List.setIfInBounds_toArray, List.set_cons_succ, List.set_cons_zero]
  refine wpAnyH_take (i := 9) (v := ?_) rfl (by kernel_rfl) (by kernel_rfl) (by kernel_rfl) (fun _ _ _ h => h) (Or.inl ⟨by rfl, ?_⟩) (by assumption) ?_
  rotate_left
  · (intro w9 _; go_simp; try with_reducible rfl)
  simp only [Act.put, List.getElem_toArray, List.getElem_cons_succ, List.getElem_cons_zero, List.setIfInBounds_toArray, List.set_cons_succ, List.set_cons_zero]
  refine wpAnyH_take (i := 11) (v := .agg (encI x).toArray) rfl (by kernel_rfl) (by kernel_rfl) (by kernel_rfl) (fun _ _ _ h => h) (yieldsIf_load_mid (by rfl) _ _ rfl _ _ rfl (encI x) _ (fun _ h => h) hu23 rfl hix) (by assumption) ?_
  simp only [Act.put, List.getElem_toArray, List.getElem_cons_succ, List.getElem_cons_zero, List.setIfInBounds_toArray, List.set_cons_succ, List.set_cons_zero]
  refine wpAnyH_take (i := 13) (v := ?_) rfl (by kernel_rfl) (by kernel_rfl) (by kernel_rfl) (fun _ _ _ h => h) (Or.inl ⟨by rfl, ?_⟩) (by assumption) ?_
  rotate_left
  · (intro w9 _; go_simp; try with_reducible rfl)
  simp only [Act.put, List.getElem_toArray, List.getElem_cons_succ, List.getElem_cons_zero, List.setIfInBounds_toArray, List.set_cons_succ, List.set_cons_zero]
  refine wpAnyH_ready (rs := [10]) (by kernel_rfl) (by simp) ?_
  refine AllReadyH.cons rfl (fun K hK => ?_) AllReadyH.nil
  go_simp
  refine (HS.out _ (HT.out.below B5.out)).mono ?_
  rintro e w6 ⟨v6, ms6, rfl, hml6, hsp6, hI6, hb6⟩
  have hmem : decide (x ∈ Mid.dd ms6 ms6.length) = q := by
    rw [← HQ.out, decide_eq_decide, Mid.dd_mem ms6 x _ (Nat.le_refl _), List.take_of_length_le (Nat.le_refl _)]
    exact hsp6.1.mem_iff
  have hl6 : (Mid.dd ms6 ms6.length).length ≤ 1000000 := by have := Mid.dd_len ms6 ms6.length; have := HTL.out; have := hn4; omega
  generalize Mid.dd ms6 ms6.length = M6 at *
  have I6 := Lib.hid hI6; have L6 := Lib.hid hl6; have E6 := Lib.hid hmem
  have B6 := Lib.hid (B5.out.trans (hb6.mono B5.out.size)); have K6 := Lib.hid (K5.out.keep hb6 K5.out.lt)
  clear hb6 hI6 hml6 hsp6 hmem hl6
  refine hK.out _ _ (encBlk K6.out) (fun hHeld => ?_)
  clear hK K
  refine wpAnyH_ready (rs := [12]) (by kernel_rfl) (by simp) ?_
  refine AllReadyH.cons rfl (fun K hK => ?_) AllReadyH.nil
  go_simp
  refine (HC.out _ _ _ L6.out I6.out).mono ?_
  rintro e w7 ⟨rfl, hb7⟩
  rw [E6.out]
  have B7 := Lib.hid (B6.out.trans (hb7.mono B6.out.size)); have K7 := Lib.hid (K6.out.keep hb7 K6.out.lt)
  clear hb7
  refine hK.out _ _ (encBlk K7.out) (fun hHeld => ?_)
  clear hK K
  refine wpAnyH_take (i := 14) (v := ?_) rfl (by kernel_rfl) (by kernel_rfl) (by kernel_rfl) (fun _ _ _ h => h) (Or.inl ⟨by rfl, ?_⟩) (by assumption) ?_
  rotate_left
  · (intro w9 _; go_simp; try with_reducible rfl)
  simp only [Act.put, List.getElem_toArray, List.getElem_cons_succ, List.getElem_cons_zero, List.setIfInBounds_toArray, List.set_cons_succ, List.set_cons_zero]
  refine wpAnyH_take (i := 15) (v := ?_) rfl (by kernel_rfl) (by kernel_rfl) (by kernel_rfl) (fun _ _ _ h => h) (Or.inl ⟨by rfl, ?_⟩) (by assumption) ?_
  rotate_left
  · (intro w9 _; go_simp; try with_reducible rfl)
  simp only [Act.put, List.getElem_toArray, List.getElem_cons_succ, List.getElem_cons_zero, List.setIfInBounds_toArray, List.set_cons_succ, List.set_cons_zero]
  refine wpAnyH_take (i := 16) (v := ?_) rfl (by kernel_rfl) (by kernel_rfl) (by kernel_rfl) (fun _ _ _ h => h) (Or.inl ⟨by rfl, ?_⟩) (by assumption) ?_
  rotate_left
  · (intro w9 _; go_simp; try with_reducible rfl)
  simp only [Act.put, List.getElem_toArray, List.getElem_cons_succ, List.getElem_cons_zero, List.setIfInBounds_toArray, List.set_cons_succ, List.set_cons_zero]
  refine wpAnyH_done (by kernel_rfl) ?_ _
  clear hHeld
  go_wp2_with fail
  go_ret
  exact ⟨rfl, B7.out⟩
  

theorem walkN (a : Option Addr) (len cap : Nat) (ls : List Mid.Id) (l : List Nat) (hl : l.length = 32) (hb : ∀ x ∈ l, x < 256) (w : World) (hv : Ids w (.slice a len cap) ls) (hlen : ls.length = len) :
    Calls Try.prog 8 #[.slice a len cap, .agg (bsC (nI l))] w fun e w' => e = .returned (.bool true) ∧ Below w.heap.size w w' := by
  have e : (encI (⟨l, hl, hb⟩ : Mid.Id)).toArray = bsC (nI l) := encI_arr _
  rw [← e]
  exact walk a len cap ls ⟨l, hl, hb⟩ w hv hlen

set_option maxRecDepth 100000 in
theorem contract (H : Type) (enc : TypeId × Value → H) (W : World) (base : Nat) (args : Array Value) (ds gs : List (DataW H)) (before : List MemPlace)
    (hval : ∀ (j : Nat) t v, Try.f8.params[j]? = some t → args[j]? = some v → Value.okWide Try.prog W .any base t v)
    (hW : DataW.Whole enc Try.prog Try.f8.params.toList Rows.msgidHasSpec.vars false W args.toList ds gs before) (_hL : laidMetH Try.prog Rows.msgidHasRow.laid W) (_hs : W.ShapedOpen Try.prog) :
    Calls Try.prog 8 args W fun e W' => ∃ v, e = .returned v ∧ Rows.msgidHasSpec.post enc Try.prog Try.f8 false true false false W args v W' := by
  have hW' := hW
  obtain ⟨p, q, hA0, hV, rfl, hfz, hnd⟩ := hW
  have hA : DataW.TrodAll enc Try.prog W 0 (fun _ => true) true Try.f8.params.toList args.toList ds p := hA0
  rw [Try.params8] at hA hval
  obtain ⟨v0, vs0, d0, ds0, p0, q0, hargs, rfl, rfl, h0, r0⟩ := trodAll_cons hA
  obtain ⟨v1, vs1, d1, ds1, p1, q1, rfl, rfl, rfl, h1, r1⟩ := trodAll_cons r0
  obtain ⟨rfl, rfl, rfl⟩ := trodAll_nil r1
  obtain rfl : args = #[v0, v1] := by cases args; simp_all
  obtain ⟨rfl, rfl⟩ := trodVars_none hV
  obtain ⟨a0, len0, cap0, rfl⟩ := okWide_slice Try.underlying41 (hval 0 41 v0 rfl rfl)
  have k0 := h0
  have lt0 : ∀ x ∈ p0, x.block < W.heap.size := by obtain ⟨m, hm⟩ := k0; exact DataW.trod_lt m _ _ _ hm
  obtain ⟨l0, w0, e0⟩ := ids_open h0
  have k1 := h1
  have lt1 : ∀ x ∈ p1, x.block < W.heap.size := by obtain ⟨m, hm⟩ := k1; exact DataW.trod_lt m _ _ _ hm
  obtain ⟨l1, rfl, n1, b1⟩ := arr_open Try.underlying23 (by kernel_rfl) (hval 1 23 v1 rfl rfl) h1
  clear hA0
  refine (walkN a0 len0 cap0 l0 l1 n1 b1 W w0 e0).mono fun e W' ⟨he, bel⟩ => ?_
  subst he
  exact ⟨_, rfl, _, _, _, [], _, [], hW', trodAll_mk1 (shut_bool Try.underlying4 _), (trodAll_cons_mk (Below.trod laidOut (by kernel_rfl) (of_decide_eq_true (by kernel_rfl)) k0 bel lt0) (trodAll_cons_mk (Below.trod laidOut (by kernel_rfl) (of_decide_eq_true (by kernel_rfl)) k1 bel lt1) trodAll_mk0)), rfl, bel.frame _, fun h => by cases h⟩

theorem laid_met (os : Os) : laidMet Try.prog Rows.msgidHasRow.laid ((laidWorld os).forCall (fun _ _ => 0) ⟨#[], #[.slice none 0 0, .agg (bsC zD)], []⟩).memory :=
  laidMet_of_run' 8 (by kernel_rfl) (by kernel_rfl)
theorem reads (os : Os) {H : Type} (enc : TypeId × Value → H) : ∃ places, DataW.whole enc Try.prog ((laidWorld os).forCall (fun _ _ => 0) ⟨#[], #[.slice none 0 0, .agg (bsC zD)], []⟩).memory Try.f8.params.toList Rows.msgidHasSpec.vars false (#[.slice none 0 0, .agg (bsC zD)] : Array Value).toList 8 = some ([.nil, .agg (zD.map fun z => .lit (.int .u8 z))], [], places) :=
  ⟨[], by kernel_rfl⟩

set_option maxRecDepth 100000 in
theorem lifted (os : Os) (started : os.Started) (H : Type) (enc : TypeId × Value → H) (F : Stop.Interp) :
    ReturnsInHanded {} Try.checked os 8 .any ((OpenSpec.ofChange Rows.msgidHasSpec).preRow enc Try.prog Try.f8 Rows.msgidHasRow.domain false Rows.msgidHasRow.laid) (((OpenSpec.ofChange Rows.msgidHasSpec).at F).post enc Try.prog Try.f8 false true false false) := by
  obtain ⟨places, hx⟩ := reads os enc
  refine returnsInHanded_of_row (C := Try.checked) (s := OpenSpec.ofChange Rows.msgidHasSpec) own started (by kernel_rfl) Try.func8
    (witness_row_at (enc := enc) (C := Try.checked) false (laidWorld os) #[.slice none 0 0, .agg (bsC zD)] rfl (by kernel_rfl) (by kernel_rfl) (by kernel_rfl)
      (OpenSpec.preRow_of_cond 8 hx (by kernel_rfl) (fun k hk => by cases hk) (by kernel_rfl) (laid_met os))) ?_
  intro W base args ds gs before hval hW _ _ _ hL hs _
  exact contract H enc W base args ds gs before hval hW hL hs

theorem said : Rows.MsgidHasSaid :=
  OpenClaim.holds_of_cond 8 Try.f8 rfl rfl rfl rfl rfl rfl rfl ⟨rfl, rfl, rfl, rfl, rfl⟩ rfl rfl rfl rfl rfl (by kernel_rfl) Try.func8 (by kernel_rfl)
    (of_decide_eq_true (by kernel_rfl)) (by unfold Func.isWrapper; first | (rw [if_pos (by decide +kernel)]; kernel_rfl) | (rw [if_neg (by decide +kernel)]; exact ⟨rfl, rfl⟩))
    (fun os started H enc _ F => by rw [OpenClaim.pre_eq_preRow]; exact lifted os started H enc F)

end Go.Proofs.Ytcpiiafnifkahaa.msgidHasLaw
namespace Go.Proofs.Ytcpiiafnifkahaa

/-- THE STATEMENT OF MsgidHas -/
theorem msgidHas_said : Rows.MsgidHasSaid := msgidHasLaw.said
#print axioms msgidHas_said
end Go.Proofs.Ytcpiiafnifkahaa
