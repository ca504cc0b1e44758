/- MsgidShortens: whatever the identity and the list, Shorten answers as the reference does, and what it gives resolves to the identity. Conditions: none beyond the row's own. -/
import Derived.Test.YtcpiiafnifkahaaShRef
import Derived.Test.YtcpiiafnifkahaaTo
namespace Go.Proofs.Ytcpiiafnifkahaa.msgidShortensLaw
open Go.ChangeShapes Go.WideShapes Go.ChangeAt Go.RowKit
open Go.ChangeMaps (open_string shut_string)

set_option maxRecDepth 100000 in
set_option maxHeartbeats 2000000 in
theorem walk (x : Mid.Id) (a : Option Addr) (len cap : Nat) (ls : List Mid.Id) (w : World) (hv : Ids w (.slice a len cap) ls) (hlen : ls.length = len) :
    Calls Try.prog 11 #[.agg (bsC (nI x.1)), .slice a len cap] w fun e w' => e = .returned (.bool true) ∧ Below w.heap.size w w' := by
  obtain ⟨n, hn⟩ : ∃ n, n = min len 20 := ⟨_, rfl⟩
  have hn40 : n ≤ 20 := by omega
  have hnl : n ≤ len := by omega
  have hlc : len ≤ cap := by
    obtain ⟨_, _, h, h1, _⟩ := hv; cases h; omega
  have hcm : cap ≤ maxLen := by
    obtain ⟨_, _, h, _, h2, _⟩ := hv; cases h; omega
  unfold maxLen at hcm
  have hT : Ids w (.slice a n cap) (ls.take n) := hv.take n (by omega)
  have hTl : (ls.take n).length = n := by rw [List.length_take]; omega
  have hmin : min (len : Int) 20 = (n : Int) := by omega
  have hnI : (n : Int) ≤ (len : Int) := by omega
  have hn4 : (n : Int) ≤ 20 := by omega
  have hlI : (len : Int) ≤ (cap : Int) := by omega
  have hcI : (cap : Int) ≤ 9223372036854775807 := by omega
  generalize ls.take n = ms at *
  obtain ⟨⟨sl, b⟩, hs⟩ : ∃ r, r = Mid.shorten x ms := ⟨_, rfl⟩
  obtain ⟨s, rfl⟩ : ∃ s : ByteArray, s.data.toList = sl := ⟨⟨sl.toArray⟩, rfl⟩
  obtain ⟨⟨y, c⟩, hy⟩ : ∃ r, r = Mid.resolve s.data.toList ms := ⟨_, rfl⟩
  have hss : s.size ≤ 64 ∧ (b = 0 → y = x ∧ c = 0) := by
    unfold Mid.shorten at hs
    by_cases hx : x ∈ ms
    · rw [if_pos hx] at hs
      obtain ⟨e1, e2⟩ := Prod.mk.inj hs
      have hr := (Mid.resolve_hx x ms (Mid.shN x ms ms.length) (Mid.shN_ge x ms _) (Mid.shN_64 x ms _)).2 ⟨hx, Nat.le_refl _⟩
      rw [← e1, ← hy] at hr
      obtain ⟨e3, e4⟩ := Prod.mk.inj hr
      refine ⟨?_, fun _ => ⟨e3, e4⟩⟩
      rw [← size_toList, e1, List.length_take]
      have := Mid.shN_64 x ms ms.length
      omega
    · rw [if_neg hx] at hs
      obtain ⟨e1, e2⟩ := Prod.mk.inj hs
      refine ⟨?_, fun h => by omega⟩
      rw [← size_toList, e1]; simp
  have H1 := Lib.hid (fun W h => shorten_any x (.slice a n cap) ms W (by omega) h s b hs.symm)
  have H2 := Lib.hid (fun W v h => refShorten_any x v ms W (by omega) h s b hs.symm)
  have H3 := Lib.hid (fun W h => resolve_any s (.slice a n cap) ms W (by omega) (by omega) h y c hy.symm)
  rw [encI_arr] at H3
  have HT := Lib.hid hT
  have HTO := Lib.hid (fun W h => to_any (.slice a n cap) ms W (by omega) h)
  have HK := Lib.hid (fun w => known_any w)
  have HA := Lib.hid (show (nI x.1).length = 32 by rw [nI_len]; exact x.2.1)
  have HBL := Lib.hid (show (nI y.1).length = 32 by rw [nI_len]; exact y.2.1)
  have HSAME := Lib.hid (fun w => eq_same (t := 23) Try.underlying23 (nI x.1) HA.out w)
  have HB0 := Lib.hid (show b = 0 → nI y.1 = nI x.1 ∧ c = 0 from fun h => ⟨by rw [(hss.2 h).1], (hss.2 h).2⟩)
  generalize nI x.1 = A at *
  generalize nI y.1 = B at *
  clear hT hTl hv hlen hn hn40 hnl hlc hcm hs hy hss
  go_enter Try.func11, Try.ntmps11
  go_upto_region 1 with (fail)
  have ka := Blk.fresh w 23 (bsC A)
  have hB : Below w.heap.size w (w.alloc (.cells (bsC A) 23)) := (Below.refl _ w).alloc (Nat.le_refl _) _
  generalize w.alloc (.cells (bsC A) 23) = W0 at *
  have K0 := Lib.hid ka; have B0 := Lib.hid hB
  clear ka hB
  go_wp2_with (refine ld_bs Try.underlying23 infoId _ A HA.out K0.out (by rfl) _ (by rfl) (by rfl) ?_)
  refine (H1.out _ (HT.out.below B0.out)).mono ?_
  rintro e w1 ⟨rfl, hb1⟩
  have K1 := Lib.hid (K0.out.keep hb1 K0.out.lt)
  have B1 := Lib.hid (B0.out.trans (hb1.mono B0.out.size))
  clear hb1
  go_wp2_with (refine ld_bs Try.underlying23 infoId _ A HA.out K1.out (by rfl) _ (by rfl) (by rfl) ?_)
  have K1d := Lib.hid K1.out.draw; have B1d := Lib.hid B1.out.drew
  have hu23 : Try.prog.underlying 23 = some (.array 32 5) := Try.underlying23
  have hiA : (Try.prog.info? 23).map (·.size) = some (bsL A).length := by rw [bsL_len, HA.out]; exact infoId
  refine wp_region_held_drew (S := (fun w' => w'.rangeAt w.heap.size 0 (bsL A))) (by kernel_rfl) ?_ (fun hHeld => ?_)
  · exact K1d.out.range
  refine wpAnyH_take (i := 0) (v := .agg (bsL A).toArray) rfl (by kernel_rfl) (by kernel_rfl) (by kernel_rfl) (fun _ _ _ h => h) (yieldsIf_load_mid (by rfl) _ _ rfl _ _ rfl (bsL A) _ (fun _ h => h) hu23 rfl hiA) (by assumption) ?_
  simp only [Act.put, List.getElem_toArray, List.getElem_cons_zero, List.setIfInBounds_toArray, List.set_cons_succ, List.set_cons_zero]
  refine wpAnyH_take (i := 1) (v := ?_) rfl (by kernel_rfl) (by kernel_rfl) (by kernel_rfl) (fun _ _ _ h => h) (Or.inl ⟨by rfl, ?_⟩) (by assumption) ?_
  rotate_left
  · (intro w9 _; go_simp; try with_reducible rfl)
  simp only [Act.put, List.getElem_toArray, List.getElem_cons_succ, List.getElem_cons_zero, List.setIfInBounds_toArray, List.set_cons_succ, List.set_cons_zero]
  refine wpAnyH_ready (rs := [2]) (by kernel_rfl) (by simp) ?_
  refine AllReadyH.cons rfl (fun K hK => ?_) AllReadyH.nil
  go_simp
  refine (HTO.out _ (HT.out.below B1d.out)).mono ?_
  rintro e w2 ⟨v2, rfl, hI2, hb2⟩
  have I2 := Lib.hid hI2; have B2 := Lib.hid (B1d.out.trans (hb2.mono B1d.out.size)); have K2 := Lib.hid (K1d.out.keep hb2 K1d.out.lt)
  clear hb2 hI2
  refine hK.out _ _ K2.out.range (fun hHeld => ?_)
  clear hK K
  refine wpAnyH_ready (rs := [3]) (by kernel_rfl) (by simp) ?_
  refine AllReadyH.cons rfl (fun K hK => ?_) AllReadyH.nil
  go_simp
  refine (H2.out _ _ I2.out).mono ?_
  rintro e w3 ⟨rfl, hb3⟩
  have B3 := Lib.hid (B2.out.trans (hb3.mono B2.out.size)); have K3 := Lib.hid (K2.out.keep hb3 K2.out.lt)
  clear hb3
  refine hK.out _ _ K3.out.range (fun hHeld => ?_)
  clear hK K
  refine wpAnyH_take (i := 4) (v := ?_) rfl (by kernel_rfl) (by kernel_rfl) (by kernel_rfl) (fun _ _ _ h => h) (Or.inl ⟨by rfl, ?_⟩) (by assumption) ?_
  rotate_left
  · (intro w9 _; go_simp; try with_reducible rfl)
  simp only [Act.put, List.getElem_toArray, List.getElem_cons_succ, List.getElem_cons_zero, List.setIfInBounds_toArray, List.set_cons_succ, List.set_cons_zero]
  refine wpAnyH_take (i := 5) (v := ?_) rfl (by kernel_rfl) (by kernel_rfl) (by kernel_rfl) (fun _ _ _ h => h) (Or.inl ⟨by rfl, ?_⟩) (by assumption) ?_
  rotate_left
  · (intro w9 _; go_simp; try with_reducible rfl)
  simp only [Act.put, List.getElem_toArray, List.getElem_cons_succ, List.getElem_cons_zero, List.setIfInBounds_toArray, List.set_cons_succ, List.set_cons_zero]
  refine wpAnyH_take (i := 6) (v := ?_) rfl (by kernel_rfl) (by kernel_rfl) (by kernel_rfl) (fun _ _ _ h => h) (Or.inl ⟨by rfl, ?_⟩) (by assumption) ?_
  rotate_left
  · (intro w9 _; go_simp; try with_reducible rfl)
  simp only [Act.put, List.getElem_toArray, List.getElem_cons_succ, List.getElem_cons_zero, List.setIfInBounds_toArray, List.set_cons_succ, List.set_cons_zero]
  refine wpAnyH_take (i := 7) (v := ?_) rfl (by kernel_rfl) (by kernel_rfl) (by kernel_rfl) (fun _ _ _ h => h) (Or.inl ⟨by rfl, ?_⟩) (by assumption) ?_
  rotate_left
  · (intro w9 _; go_simp; try with_reducible rfl)
  simp only [Act.put, List.getElem_toArray, List.getElem_cons_succ, List.getElem_cons_zero, List.setIfInBounds_toArray, List.set_cons_succ, List.set_cons_zero]
  refine wpAnyH_take (i := 8) (v := ?_) rfl (by kernel_rfl) (by kernel_rfl) (by kernel_rfl) (fun _ _ _ h => h) (Or.inl ⟨by rfl, ?_⟩) (by assumption) ?_
  rotate_left
  · (intro w9 _; go_simp; try with_reducible rfl)
  simp only [Act.put, List.getElem_toArray, List.getElem_cons_succ, List.getElem_cons_zero, List.setIfInBounds_toArray, List.set_cons_succ, List.set_cons_zero]
  refine wpAnyH_done (by kernel_rfl) ?_ _
  clear hHeld
  go_wp2_with fail
  refine (HK.out _).mono ?_
  rintro e w4 ⟨rfl, hb4⟩
  have B4 := Lib.hid (B3.out.trans (hb4.mono B3.out.size)); have K4 := Lib.hid (K3.out.keep hb4 K3.out.lt)
  clear hb4
  go_wp2_with fail
  refine (H3.out _ (HT.out.below B4.out)).mono ?_
  rintro e w5 ⟨rfl, hb5⟩
  have B5 := Lib.hid (B4.out.trans (hb5.mono B4.out.size)); have K5 := Lib.hid (K4.out.keep hb5 K4.out.lt)
  clear hb5
  by_cases hb0 : b = 0
  · obtain ⟨e1, e2⟩ := HB0.out hb0
    subst hb0 e2
    subst e1
    have heq := HSAME.out
    go_wp2_with (first
      | (refine sto_bs infoId _ B HBL.out _ (Blk.fresh w5 _ _) rfl (by rfl) _ _ (by rfl) (by rfl) (by rfl) ?_; intro w6 hw6; have L6 := Lib.hid (show Blk w6 w5.heap.size 23 (bsC B) by rw [hw6.out]; exact (Blk.fresh w5 _ _).row _); have K6 := Lib.hid (show Blk w6 w.heap.size 23 (bsC B) by rw [hw6.out]; exact (K5.out.more _).far (by have := K5.out.lt; omega) _); have B6 := Lib.hid (show Below w.heap.size w w6 by rw [hw6.out]; exact below_row (B5.out.alloc B5.out.size _) _ B5.out.size _); clear hw6)
      | (refine ld_bs_g Try.underlying23 infoId _ B HBL.out L6.out (by rfl) _ (by rfl) (by rfl) ?_)
      | (refine ld_bs_g Try.underlying23 infoId _ B HBL.out K6.out (by rfl) _ (by rfl) (by rfl) ?_))
    go_ret
    exact ⟨rfl, B6.out⟩
  · have hbI : ¬ (b : Int) = 0 := by omega
    clear hb0
    go_wp2_with (refine sto_bs infoId _ B HBL.out _ (Blk.fresh w5 _ _) rfl (by rfl) _ _ (by rfl) (by rfl) (by rfl) ?_; intro w6 hw6; have B6 := Lib.hid (show Below w.heap.size w w6 by rw [hw6.out]; exact below_row (B5.out.alloc B5.out.size _) _ B5.out.size _); clear hw6)
    go_ret
    exact ⟨rfl, B6.out⟩

set_option maxRecDepth 100000 in
theorem contract (H : Type) (enc : TypeId × Value → H) (W : World) (base : Nat) (args : Array Value) (ds gs : List (DataW H)) (before : List MemPlace)
    (hval : ∀ (j : Nat) t v, Try.f11.params[j]? = some t → args[j]? = some v → Value.okWide Try.prog W .any base t v)
    (hW : DataW.Whole enc Try.prog Try.f11.params.toList Rows.msgidShortensSpec.vars false W args.toList ds gs before) (_hL : laidMetH Try.prog Rows.msgidShortensRow.laid W) (_hs : W.ShapedOpen Try.prog) :
    Calls Try.prog 11 args W fun e W' => ∃ v, e = .returned v ∧ Rows.msgidShortensSpec.post enc Try.prog Try.f11 false true false false W args v W' := by
  have hW' := hW
  obtain ⟨p, q, hA0, hV, rfl, hfz, hnd⟩ := hW
  have hA : DataW.TrodAll enc Try.prog W 0 (fun _ => true) true Try.f11.params.toList args.toList ds p := hA0
  rw [Try.params11] at hA hval
  obtain ⟨v0, vs0, d0, ds0, p0, q0, hargs, rfl, rfl, h0, r0⟩ := trodAll_cons hA
  obtain ⟨v1, vs1, d1, ds1, p1, q1, rfl, rfl, rfl, h1, r1⟩ := trodAll_cons r0
  obtain ⟨rfl, rfl, rfl⟩ := trodAll_nil r1
  obtain rfl : args = #[v0, v1] := by cases args; simp_all
  obtain ⟨rfl, rfl⟩ := trodVars_none hV
  have k0 := h0
  have lt0 : ∀ x ∈ p0, x.block < W.heap.size := by obtain ⟨m, hm⟩ := k0; exact DataW.trod_lt m _ _ _ hm
  obtain ⟨l0, rfl, n0, b0⟩ := arr_open Try.underlying23 (by kernel_rfl) (hval 0 23 v0 rfl rfl) h0
  obtain ⟨a1, len1, cap1, rfl⟩ := okWide_slice Try.underlying41 (hval 1 41 v1 rfl rfl)
  have k1 := h1
  have lt1 : ∀ x ∈ p1, x.block < W.heap.size := by obtain ⟨m, hm⟩ := k1; exact DataW.trod_lt m _ _ _ hm
  obtain ⟨l1, w1, e1⟩ := ids_open h1
  clear hA0
  refine (walk ⟨l0, n0, b0⟩ a1 len1 cap1 l1 W w1 e1).mono fun e W' ⟨he, bel⟩ => ?_
  subst he
  exact ⟨_, rfl, _, _, _, [], _, [], hW', trodAll_mk1 (shut_bool Try.underlying4 _), (trodAll_cons_mk (Below.trod laidOut (by kernel_rfl) (of_decide_eq_true (by kernel_rfl)) k0 bel lt0) (trodAll_cons_mk (Below.trod laidOut (by kernel_rfl) (of_decide_eq_true (by kernel_rfl)) k1 bel lt1) trodAll_mk0)), rfl, bel.frame _, fun h => by cases h⟩

theorem laid_met (os : Os) : laidMet Try.prog Rows.msgidShortensRow.laid ((laidWorld os).forCall (fun _ _ => 0) ⟨#[], #[.agg (bsC zD), .slice none 0 0], []⟩).memory :=
  laidMet_of_run' 8 (by kernel_rfl) (by kernel_rfl)
theorem reads (os : Os) {H : Type} (enc : TypeId × Value → H) : ∃ places, DataW.whole enc Try.prog ((laidWorld os).forCall (fun _ _ => 0) ⟨#[], #[.agg (bsC zD), .slice none 0 0], []⟩).memory Try.f11.params.toList Rows.msgidShortensSpec.vars false (#[.agg (bsC zD), .slice none 0 0] : Array Value).toList 8 = some ([.agg (zD.map fun z => .lit (.int .u8 z)), .nil], [], places) :=
  ⟨[], by kernel_rfl⟩

set_option maxRecDepth 100000 in
theorem lifted (os : Os) (started : os.Started) (H : Type) (enc : TypeId × Value → H) (F : Stop.Interp) :
    ReturnsInHanded {} Try.checked os 11 .any ((OpenSpec.ofChange Rows.msgidShortensSpec).preRow enc Try.prog Try.f11 Rows.msgidShortensRow.domain false Rows.msgidShortensRow.laid) (((OpenSpec.ofChange Rows.msgidShortensSpec).at F).post enc Try.prog Try.f11 false true false false) := by
  obtain ⟨places, hx⟩ := reads os enc
  refine returnsInHanded_of_row (C := Try.checked) (s := OpenSpec.ofChange Rows.msgidShortensSpec) own started (by kernel_rfl) Try.func11
    (witness_row_at (enc := enc) (C := Try.checked) false (laidWorld os) #[.agg (bsC zD), .slice none 0 0] rfl (by kernel_rfl) (by kernel_rfl) (by kernel_rfl)
      (OpenSpec.preRow_of_cond 8 hx (by kernel_rfl) (fun k hk => by cases hk) (by kernel_rfl) (laid_met os))) ?_
  intro W base args ds gs before hval hW _ _ _ hL hs _
  exact contract H enc W base args ds gs before hval hW hL hs

theorem said : Rows.MsgidShortensSaid :=
  OpenClaim.holds_of_cond 11 Try.f11 rfl rfl rfl rfl rfl rfl rfl ⟨rfl, rfl, rfl, rfl, rfl⟩ rfl rfl rfl rfl rfl (by kernel_rfl) Try.func11 (by kernel_rfl)
    (of_decide_eq_true (by kernel_rfl)) (by unfold Func.isWrapper; first | (rw [if_pos (by decide +kernel)]; kernel_rfl) | (rw [if_neg (by decide +kernel)]; exact ⟨rfl, rfl⟩))
    (fun os started H enc _ F => by rw [OpenClaim.pre_eq_preRow]; exact lifted os started H enc F)

end Go.Proofs.Ytcpiiafnifkahaa.msgidShortensLaw
namespace Go.Proofs.Ytcpiiafnifkahaa

/-- THE STATEMENT OF MsgidShortens -/
theorem msgidShortens_said : Rows.MsgidShortensSaid := msgidShortensLaw.said
#print axioms msgidShortens_said
end Go.Proofs.Ytcpiiafnifkahaa
