/- ReferencesTrim: whatever the list and the two numbers, Trim answers as the reference does, and trimming twice is trimming to the smaller number. Conditions: none beyond the row's own. -/
import Derived.Test.YtnejfhapifpllaaOpenR
namespace Go.Proofs.Ytnejfhapifpllaa.referencesTrimLaw
open Go.ChangeShapes Go.WideShapes Go.ChangeAt Go.RowKit
open Go.ChangeMaps (open_string shut_string)

set_option maxRecDepth 100000 in
set_option maxHeartbeats 2000000 in
theorem walk (a : Option Addr) (len cap : Nat) (ls : List Mid.Id) (m n : Int) (w : World) (hv : Ids w (.slice a len cap) ls) (hlen : ls.length = len) :
    Calls Try.prog 6 #[.slice a len cap, .int .i64 m, .int .i64 n] w fun e w' => e = .returned (.bool true) ∧ Below w.heap.size w w' := by
  have HK := Lib.hid (fun w => known_any w)
  by_cases hl : 60 < len
  · have hlI : (60 : Int) < (len : Int) := by omega
    go_enter Try.func6, Try.ntmps6
    have B_0 := Lib.hid (Below.refl w.heap.size w)
    go_wp2_with fail
    refine (HK.out _).mono ?_
    rintro e w1 ⟨rfl, hb1⟩
    have B_1 := Lib.hid (B_0.out.trans (hb1.mono B_0.out.size))
    clear hb1 
    go_wp2_with fail
    refine (HK.out _).mono ?_
    rintro e w2 ⟨rfl, hb2⟩
    have B_2 := Lib.hid (B_1.out.trans (hb2.mono B_1.out.size))
    clear hb2 
    go_wp2_with fail
    go_ret
    exact ⟨rfl, B_2.out⟩
  · have hlI : ¬ (60 : Int) < (len : Int) := by omega
    have hls : ls.length ≤ 60 := by omega
    have HO := Lib.hid (fun W v h => own_any v ls W (by omega) h)
    have HT := Lib.hid (fun W v h => trimE_any v ls m W (by omega) h)
    have HTn := Lib.hid (fun W v h => trimE_any v ls n W (by omega) h)
    have HR := Lib.hid (fun W v h => refTrim_any v ls m W (by omega) h)
    have HL := Lib.hid hls
    obtain ⟨D, q, hD⟩ : ∃ D q, Mid.trimE ls m = (D, q) := ⟨_, _, rfl⟩
    have HD := Lib.hid hD
    have HS := Lib.hid (fun W v u h1 h2 => same_any v u D D W h1 h2)
    rw [decide_eq_true rfl] at HS
    have V := Lib.hid hv
    clear hv hlen hls hl hD
    go_enter Try.func6, Try.ntmps6
    have B_0 := Lib.hid (Below.refl w.heap.size w)
    go_wp2_with fail
    refine (HK.out _).mono ?_
    rintro e w1 ⟨rfl, hb1⟩
    have B_1 := Lib.hid (B_0.out.trans (hb1.mono B_0.out.size))
    have V_1 := Lib.hid (V.out.below hb1)
    clear hb1 
    go_wp2_with fail
    refine (HO.out _ _ V_1.out).mono ?_
    rintro e w2 ⟨v1, rfl, hi, hb2⟩
    have B_2 := Lib.hid (B_1.out.trans (hb2.mono B_1.out.size))
    have V_2 := Lib.hid (V_1.out.below hb2)
    have I_2 := Lib.hid (hi)
    clear hb2 hi
    go_wp2_with fail
    refine (HT.out _ _ I_2.out).mono ?_
    rintro e w3 ⟨v2, l2, q2, rfl, he2, hi2, hb3⟩
    have B_3 := Lib.hid (B_2.out.trans (hb3.mono B_2.out.size))
    have V_3 := Lib.hid (V_2.out.below hb3)
    have I_3 := Lib.hid (I_2.out.below hb3)
    clear hb3 
    obtain ⟨rfl, rfl⟩ : l2 = D ∧ q2 = q := by have := he2.symm.trans HD.out; exact Prod.mk.inj this
    have J_3 := Lib.hid (hi2)
    clear he2 hi2
    go_wp2_with fail
    refine (HR.out _ _ V_3.out).mono ?_
    rintro e w4 ⟨v3, l3, q3, rfl, he3, hi3, hb4⟩
    have B_4 := Lib.hid (B_3.out.trans (hb4.mono B_3.out.size))
    have V_4 := Lib.hid (V_3.out.below hb4)
    have I_4 := Lib.hid (I_3.out.below hb4)
    have J_4 := Lib.hid (J_3.out.below hb4)
    clear hb4 
    obtain ⟨rfl, rfl⟩ : l3 = l2 ∧ q3 = q2 := by have := he3.symm.trans HD.out; exact Prod.mk.inj this
    have L_4 := Lib.hid (hi3)
    clear he3 hi3
    go_wp2_with fail
    refine (HS.out _ _ _ J_4.out L_4.out).mono ?_
    rintro e w5 ⟨rfl, hb5⟩
    have B_5 := Lib.hid (B_4.out.trans (hb5.mono B_4.out.size))
    have V_5 := Lib.hid (V_4.out.below hb5)
    have I_5 := Lib.hid (I_4.out.below hb5)
    have J_5 := Lib.hid (J_4.out.below hb5)
    have L_5 := Lib.hid (L_4.out.below hb5)
    clear hb5 
    by_cases hq : q3 = 0
    · subst hq
      obtain ⟨k, rfl, hk1, hk2, hDk⟩ := Mid.trimE_zero HD.out
      by_cases hn1 : n < 1
      · go_wp2_with fail
        go_ret
        exact ⟨rfl, B_5.out⟩
      by_cases hn2 : (k : Int) < n
      · go_wp2_with fail
        go_ret
        exact ⟨rfl, B_5.out⟩
      obtain ⟨j, rfl⟩ : ∃ j : Nat, n = j := ⟨n.toNat, by omega⟩
      obtain ⟨E, hE⟩ : ∃ E, E = Mid.cutL ls j := ⟨_, rfl⟩
      have hE1 : Mid.trimE l3 (j : Int) = (E, 0) := by
        rw [Mid.trimE_ok l3 j (by omega) (by omega) (by rw [hDk, Mid.cutL_len _ _ hk1]; omega), hE, hDk, Mid.cut_cut ls k j (by omega) (by omega)]
      have hE2 : Mid.trimE ls (j : Int) = (E, 0) := by rw [Mid.trimE_ok ls j (by omega) (by omega) (by have := HL.out; omega), hE]
      have HT2 := Lib.hid (fun W v h => trimE_any v l3 (j : Int) W (by rw [hDk, Mid.cutL_len _ _ hk1]; omega) h)
      have HE1 := Lib.hid hE1; have HE2 := Lib.hid hE2
      have HEL := Lib.hid (show E.length ≤ 20 by rw [hE, Mid.cutL_len _ _ (by omega)]; omega)
      have heq := fun (x : Mid.Id) w => (show (Op.equalIn 10000 46 (.agg (encI x).toArray) (.agg (encI x).toArray)).run Try.prog w = .ok true w by rw [eq_enc (t := 46) Try.underlying46 x x w, decide_eq_true rfl])
      have HEQ := Lib.hid heq
      clear hE1 hE2 hE hDk heq
      go_wp2_with fail
      refine (HT2.out _ _ J_5.out).mono ?_
      rintro e w6 ⟨v6, l6, q6, rfl, he6, hi6, hb6⟩
      have B_6 := Lib.hid (B_5.out.trans (hb6.mono B_5.out.size))
      have V_6 := Lib.hid (V_5.out.below hb6)
      have I_6 := Lib.hid (I_5.out.below hb6)
      have J_6 := Lib.hid (J_5.out.below hb6)
      have L_6 := Lib.hid (L_5.out.below hb6)
      clear hb6 
      obtain ⟨rfl, rfl⟩ : l6 = E ∧ q6 = 0 := by have := he6.symm.trans HE1.out; exact Prod.mk.inj this
      have X_6 := Lib.hid (hi6)
      clear he6 hi6
      go_wp2_with fail
      refine (HO.out _ _ V_6.out).mono ?_
      rintro e w7 ⟨v7, rfl, hi7, hb7⟩
      have B_7 := Lib.hid (B_6.out.trans (hb7.mono B_6.out.size))
      have V_7 := Lib.hid (V_6.out.below hb7)
      have I_7 := Lib.hid (I_6.out.below hb7)
      have J_7 := Lib.hid (J_6.out.below hb7)
      have L_7 := Lib.hid (L_6.out.below hb7)
      have X_7 := Lib.hid (X_6.out.below hb7)
      have I2_7 := Lib.hid (hi7)
      clear hb7 hi7
      go_wp2_with fail
      refine (HTn.out _ _ I2_7.out).mono ?_
      rintro e w8 ⟨v8, l8, q8, rfl, he8, hi8, hb8⟩
      have B_8 := Lib.hid (B_7.out.trans (hb8.mono B_7.out.size))
      have V_8 := Lib.hid (V_7.out.below hb8)
      have I_8 := Lib.hid (I_7.out.below hb8)
      have J_8 := Lib.hid (J_7.out.below hb8)
      have L_8 := Lib.hid (L_7.out.below hb8)
      have X_8 := Lib.hid (X_7.out.below hb8)
      have I2_8 := Lib.hid (I2_7.out.below hb8)
      clear hb8 
      obtain ⟨rfl, rfl⟩ : l8 = l6 ∧ q8 = 0 := by have := he8.symm.trans HE2.out; exact Prod.mk.inj this
      have Y_8 := Lib.hid (hi8)
      clear he8 hi8
      obtain ⟨p, cp, rfl, hc1, hm1, _, hx⟩ := X_8.out
      obtain ⟨p2, cp2, rfl, hc2, hm2, _, hy⟩ := Y_8.out
      obtain ⟨z, hz⟩ : ∃ z, z = l8.length := ⟨_, rfl⟩
      rw [← hz]
      have hz20 : z ≤ 20 := by have := HEL.out; omega
      have hzI : (z : Int) ≤ 20 := by omega
      have HX := Lib.hid hx; have HY := Lib.hid hy; have HZ := Lib.hid hz
      have hu23 : Try.prog.underlying 46 = some (.array 32 5) := Try.underlying46
      clear hx hy hz hc1 hm1 hc2 hm2 HEL hn1 hn2 hk1 hk2
      go_wp2_with fail
      go_loopw [15] (fun i wr => ∃ c : Nat, i = .int .i64 c ∧ c ≤ z ∧ Hid (Below w8.heap.size w8 wr)) (fun i _ => z - (intOf i).toNat)
      case atStart => exact ⟨0, rfl, Nat.zero_le _, Lib.hid (Below.refl _ _)⟩
      case round =>
        obtain ⟨c, rfl, hc, hbl⟩ := hrel
        by_cases hlt : c < z
        · have hkl : c < l8.length := by rw [← HZ.out]; exact hlt
          rcases HX.out with h0 | ⟨b, off, rfl, hcx⟩
          · rw [h0] at hkl; exact absurd hkl (by simp)
          rcases HY.out with h0 | ⟨b2, off2, rfl, hcy⟩
          · rw [h0] at hkl; exact absurd hkl (by simp)
          have hne : l8 ≠ [] := by intro h; rw [h] at hkl; exact absurd hkl (by simp)
          have hrg := (hcx.keep hbl.out (hcx.lt hne)).range c hkl
          have hrg2 := (hcy.keep hbl.out (hcy.lt hne)).range c hkl
          generalize l8[c]! = x at *
          have hrel2 : wr.drew.rangeAt b (off + c * 32) (encI x) ∧ wr.drew.rangeAt b2 (off2 + c * 32) (encI x) := ⟨hrg, hrg2⟩
          have hix := info_enc infoId x
          have heq := HEQ.out x
          have hltI : (c : Int) < (z : Int) := by omega
          clear hrg hrg2 hkl hcx hcy hne
          go_wp2_with fail
          refine wp_region_held_drew (S := (fun w' => w'.rangeAt b (off + c * 32) (encI x) ∧ w'.rangeAt b2 (off2 + c * 32) (encI x))) (by kernel_rfl) ?_ (fun hHeld => ?_)
          · exact hrel2
          refine wpAnyH_take (i := 0) (v := ?_) rfl (by kernel_rfl) (by kernel_rfl) (by kernel_rfl) (fun _ _ _ h => h) (Or.inl ⟨by rfl, ?_⟩) (by assumption) ?_
          rotate_left
          · (intro w9 _; go_simp; try with_reducible rfl)
          simp only [Act.put, List.getElem_toArray, List.getElem_cons_zero, List.setIfInBounds_toArray, List.set_cons_succ, List.set_cons_zero]
          refine wpAnyH_take (i := 1) (v := ?_) rfl (by kernel_rfl) (by kernel_rfl) (by kernel_rfl) (fun _ _ _ h => h) (Or.inl ⟨by rfl, ?_⟩) (by assumption) ?_
          rotate_left
          · (intro w9 _; go_simp; try with_reducible rfl)
          simp only [Act.put, List.getElem_toArray, List.getElem_cons_succ, List.getElem_cons_zero, List.setIfInBounds_toArray, List.set_cons_succ, List.set_cons_zero]
          refine wpAnyH_take (i := 2) (v := ?_) rfl (by kernel_rfl) (by kernel_rfl) (by kernel_rfl) (fun _ _ _ h => h) (Or.inl ⟨by rfl, ?_⟩) (by assumption) ?_
          rotate_left
          · (intro w9 _; go_simp; try with_reducible rfl)
          simp only [Act.put, List.getElem_toArray, List.getElem_cons_succ, List.getElem_cons_zero, List.setIfInBounds_toArray, List.set_cons_succ, List.set_cons_zero]
          refine wpAnyH_take (i := 3) (v := .agg (encI x).toArray) rfl (by kernel_rfl) (by kernel_rfl) (by kernel_rfl) (fun _ _ _ h => h) (yieldsIf_load_mid (by rfl) _ _ rfl _ _ rfl (encI x) _ (fun _ h => h.1) hu23 rfl hix) (by assumption) ?_
          simp only [Act.put, List.getElem_toArray, List.getElem_cons_succ, List.getElem_cons_zero, List.setIfInBounds_toArray, List.set_cons_succ, List.set_cons_zero]
          refine wpAnyH_take (i := 4) (v := ?_) rfl (by kernel_rfl) (by kernel_rfl) (by kernel_rfl) (fun _ _ _ h => h) (Or.inl ⟨by rfl, ?_⟩) (by assumption) ?_
          rotate_left
          · (intro w9 _; go_simp; try with_reducible rfl)
          simp only [Act.put, List.getElem_toArray, List.getElem_cons_succ, List.getElem_cons_zero, List.setIfInBounds_toArray, List.set_cons_succ, List.set_cons_zero]
          refine wpAnyH_take (i := 5) (v := ?_) rfl (by kernel_rfl) (by kernel_rfl) (by kernel_rfl) (fun _ _ _ h => h) (Or.inl ⟨by rfl, ?_⟩) (by assumption) ?_
          rotate_left
          · (intro w9 _; go_simp; try with_reducible rfl)
          simp only [Act.put, List.getElem_toArray, List.getElem_cons_succ, List.getElem_cons_zero, List.setIfInBounds_toArray, List.set_cons_succ, List.set_cons_zero]
          refine wpAnyH_take (i := 6) (v := ?_) rfl (by kernel_rfl) (by kernel_rfl) (by kernel_rfl) (fun _ _ _ h => h) (Or.inl ⟨by rfl, ?_⟩) (by assumption) ?_
          rotate_left
          · (intro w9 _; go_simp; try with_reducible rfl)
          simp only [Act.put, List.getElem_toArray, List.getElem_cons_succ, List.getElem_cons_zero, List.setIfInBounds_toArray, List.set_cons_succ, List.set_cons_zero]
          refine wpAnyH_take (i := 7) (v := .agg (encI x).toArray) rfl (by kernel_rfl) (by kernel_rfl) (by kernel_rfl) (fun _ _ _ h => h) (yieldsIf_load_mid (by rfl) _ _ rfl _ _ rfl (encI x) _ (fun _ h => h.2) hu23 rfl hix) (by assumption) ?_
          simp only [Act.put, List.getElem_toArray, List.getElem_cons_succ, List.getElem_cons_zero, List.setIfInBounds_toArray, List.set_cons_succ, List.set_cons_zero]
          refine wpAnyH_take (i := 8) (v := ?_) rfl (by kernel_rfl) (by kernel_rfl) (by kernel_rfl) (fun _ _ _ h => h) (Or.inl ⟨by rfl, ?_⟩) (by assumption) ?_
          rotate_left
          · (intro w9 _; go_simp; try with_reducible rfl)
          simp only [Act.put, List.getElem_toArray, List.getElem_cons_succ, List.getElem_cons_zero, List.setIfInBounds_toArray, List.set_cons_succ, List.set_cons_zero]
          refine wpAnyH_done (by kernel_rfl) ?_ _
          go_wp2_with fail
          go_roundw
          case rel => exact ⟨c + 1, by go_num, hlt, Lib.hid hbl.out.drew⟩
          case measure => simp [intOf]; omega
        · go_wp2_with fail
          go_ret
          exact ⟨rfl, B_8.out.trans (hbl.out.mono B_8.out.size)⟩
    · have hqI : ¬ (q3 : Int) = 0 := by omega
      clear hq
      go_wp2_with fail
      go_ret
      exact ⟨rfl, B_5.out⟩

set_option maxRecDepth 100000 in
theorem contract (H : Type) (enc : TypeId × Value → H) (W : World) (base : Nat) (args : Array Value) (ds gs : List (DataW H)) (before : List MemPlace)
    (hval : ∀ (j : Nat) t v, Try.f6.params[j]? = some t → args[j]? = some v → Value.okWide Try.prog W .any base t v)
    (hW : DataW.Whole enc Try.prog Try.f6.params.toList Rows.referencesTrimSpec.vars false W args.toList ds gs before) (_hL : laidMetH Try.prog Rows.referencesTrimRow.laid W) (_hs : W.ShapedOpen Try.prog) :
    Calls Try.prog 6 args W fun e W' => ∃ v, e = .returned v ∧ Rows.referencesTrimSpec.post enc Try.prog Try.f6 false true false false W args v W' := by
  have hW' := hW
  obtain ⟨p, q, hA0, hV, rfl, hfz, hnd⟩ := hW
  have hA : DataW.TrodAll enc Try.prog W 0 (fun _ => true) true Try.f6.params.toList args.toList ds p := hA0
  rw [Try.params6] at hA hval
  obtain ⟨v0, vs0, d0, ds0, p0, q0, hargs, rfl, rfl, h0, r0⟩ := trodAll_cons hA
  obtain ⟨v1, vs1, d1, ds1, p1, q1, rfl, rfl, rfl, h1, r1⟩ := trodAll_cons r0
  obtain ⟨v2, vs2, d2, ds2, p2, q2, rfl, rfl, rfl, h2, r2⟩ := trodAll_cons r1
  obtain ⟨rfl, rfl, rfl⟩ := trodAll_nil r2
  obtain rfl : args = #[v0, v1, v2] := by cases args; simp_all
  obtain ⟨rfl, rfl⟩ := trodVars_none hV
  obtain ⟨a0, len0, cap0, rfl⟩ := okWide_slice Try.underlying22 (hval 0 22 v0 rfl rfl)
  have k0 := h0
  have lt0 : ∀ x ∈ p0, x.block < W.heap.size := by obtain ⟨m, hm⟩ := k0; exact DataW.trod_lt m _ _ _ hm
  obtain ⟨l0, w0, e0⟩ := ids_openR h0
  obtain ⟨a1, rfl, rfl, rfl, w1⟩ := open_int Try.underlying3 (hval 1 3 v1 rfl rfl) h1
  obtain ⟨a2, rfl, rfl, rfl, w2⟩ := open_int Try.underlying3 (hval 2 3 v2 rfl rfl) h2
  clear hA0
  refine (walk a0 len0 cap0 l0 a1 a2 W w0 e0).mono fun e W' ⟨he, bel⟩ => ?_
  subst he
  exact ⟨_, rfl, _, _, _, [], _, [], hW', trodAll_mk1 (shut_bool Try.underlying4 _), (trodAll_cons_mk (Below.trod laidOut (by kernel_rfl) (of_decide_eq_true (by kernel_rfl)) k0 bel lt0) (trodAll_cons_mk (shut_int Try.underlying3 w1) (trodAll_cons_mk (shut_int Try.underlying3 w2) trodAll_mk0))), rfl, bel.frame _, fun h => by cases h⟩

theorem laid_met (os : Os) : laidMet Try.prog Rows.referencesTrimRow.laid ((laidWorld os).forCall (fun _ _ => 0) ⟨#[], #[.slice none 0 0, .int .i64 0, .int .i64 0], []⟩).memory :=
  laidMet_of_run' 8 (by kernel_rfl) (by kernel_rfl)
theorem reads (os : Os) {H : Type} (enc : TypeId × Value → H) : ∃ places, DataW.whole enc Try.prog ((laidWorld os).forCall (fun _ _ => 0) ⟨#[], #[.slice none 0 0, .int .i64 0, .int .i64 0], []⟩).memory Try.f6.params.toList Rows.referencesTrimSpec.vars false (#[.slice none 0 0, .int .i64 0, .int .i64 0] : Array Value).toList 8 = some ([.nil, .lit (.int .i64 0), .lit (.int .i64 0)], [], places) :=
  ⟨[], by kernel_rfl⟩

set_option maxRecDepth 100000 in
theorem lifted (os : Os) (started : os.Started) (H : Type) (enc : TypeId × Value → H) (F : Stop.Interp) :
    ReturnsInHanded {} Try.checked os 6 .any ((OpenSpec.ofChange Rows.referencesTrimSpec).preRow enc Try.prog Try.f6 Rows.referencesTrimRow.domain false Rows.referencesTrimRow.laid) (((OpenSpec.ofChange Rows.referencesTrimSpec).at F).post enc Try.prog Try.f6 false true false false) := by
  obtain ⟨places, hx⟩ := reads os enc
  refine returnsInHanded_of_row (C := Try.checked) (s := OpenSpec.ofChange Rows.referencesTrimSpec) own started (by kernel_rfl) Try.func6
    (witness_row_at (enc := enc) (C := Try.checked) false (laidWorld os) #[.slice none 0 0, .int .i64 0, .int .i64 0] rfl (by kernel_rfl) (by kernel_rfl) (by kernel_rfl)
      (OpenSpec.preRow_of_cond 8 hx (by kernel_rfl) (fun k hk => by cases hk) (by kernel_rfl) (laid_met os))) ?_
  intro W base args ds gs before hval hW _ _ _ hL hs _
  exact contract H enc W base args ds gs before hval hW hL hs

theorem said : Rows.ReferencesTrimSaid :=
  OpenClaim.holds_of_cond 6 Try.f6 rfl rfl rfl rfl rfl rfl rfl ⟨rfl, rfl, rfl, rfl, rfl⟩ rfl rfl rfl rfl rfl (by kernel_rfl) Try.func6 (by kernel_rfl)
    (of_decide_eq_true (by kernel_rfl)) (by unfold Func.isWrapper; first | (rw [if_pos (by decide +kernel)]; kernel_rfl) | (rw [if_neg (by decide +kernel)]; exact ⟨rfl, rfl⟩))
    (fun os started H enc _ F => by rw [OpenClaim.pre_eq_preRow]; exact lifted os started H enc F)

end Go.Proofs.Ytnejfhapifpllaa.referencesTrimLaw
namespace Go.Proofs.Ytnejfhapifpllaa

/-- THE STATEMENT OF ReferencesTrim -/
theorem referencesTrim_said : Rows.ReferencesTrimSaid := referencesTrimLaw.said
#print axioms referencesTrim_said
end Go.Proofs.Ytnejfhapifpllaa
