/- ReferencesKept: whatever the list and the number, a trimmed list is recognized and merged into the whole. Conditions: none beyond the row's own. -/
import Derived.Test.YtnejfhapifpllaaMerge
import Derived.Test.YtnejfhapifpllaaOpenR
namespace Go.Proofs.Ytnejfhapifpllaa.referencesKeptLaw
open Go.ChangeShapes Go.WideShapes Go.ChangeAt Go.RowKit
open Go.ChangeMaps (open_string shut_string)

set_option maxRecDepth 100000 in
set_option maxHeartbeats 4000000 in
theorem walk (p : Option Addr) (len cap : Nat) (ls : List Mid.Id) (m : Int) (w : World) (hv : Ids w (.slice p len cap) ls) (hlen : ls.length = len) (hsz : len * 32 ≤ 140737488355328) :
    Calls Try.prog 11 #[.slice p len cap, .int .i64 m] w fun e w' => e = .returned (.bool true) ∧ Below w.heap.size w w' := by
  have HK := Lib.hid (fun w => known_any w)
  have HO := Lib.hid (fun W v h => own_any v ls W (by omega) h)
  have HCK := Lib.hid (fun W v h => check_any v ls W h)
  have V := Lib.hid hv
  have HLEN := Lib.hid hlen
  clear hv hlen hsz
  go_enter Try.func11, Try.ntmps11
  have B_0 := Lib.hid (Below.refl w.heap.size w)
  go_wp2_with fail
  refine (HK.out _).mono ?_
  rintro e w1 ⟨rfl, hb1⟩
  have B_1 := Lib.hid (B_0.out.trans (hb1.mono B_0.out.size))
  have V_1 := Lib.hid (V.out.below hb1)
  clear hb1 
  go_wp2_with fail
  refine (HO.out _ _ V_1.out).mono ?_
  rintro e w2 ⟨v1, rfl, hi, hb2⟩
  have B_2 := Lib.hid (B_1.out.trans (hb2.mono B_1.out.size))
  have V_2 := Lib.hid (V_1.out.below hb2)
  have A_2 := Lib.hid (hi)
  clear hb2 hi
  go_wp2_with fail
  refine (HCK.out _ _ A_2.out).mono ?_
  rintro e w3 ⟨rfl, hb3⟩
  have B_3 := Lib.hid (B_2.out.trans (hb3.mono B_2.out.size))
  have V_3 := Lib.hid (V_2.out.below hb3)
  have A_3 := Lib.hid (A_2.out.below hb3)
  clear hb3 
  generalize hq : Mid.chk ls = q at *
  by_cases h0 : q = 0
  rotate_left
  · have hI : ¬ (q : Int) = 0 := by omega
    go_wp2_with fail
    refine (HK.out _).mono ?_
    rintro e w4 ⟨rfl, hb4⟩
    have B_4 := Lib.hid (B_3.out.trans (hb4.mono B_3.out.size))
    have V_4 := Lib.hid (V_3.out.below hb4)
    have A_4 := Lib.hid (A_3.out.below hb4)
    clear hb4 
    go_wp2_with fail
    go_ret
    exact ⟨rfl, B_4.out⟩
  subst h0
  have hl20 := Mid.chk_len hq
  have HQ := Lib.hid hq; have HL := Lib.hid hl20
  have HT := Lib.hid (fun W v h => trimE_any v ls m W (by omega) h)
  obtain ⟨D, e0, hD⟩ : ∃ D q, Mid.trimE ls m = (D, q) := ⟨_, _, rfl⟩
  have HD := Lib.hid hD
  clear hq hl20 hD HCK
  go_wp2_with fail
  refine (HO.out _ _ V_3.out).mono ?_
  rintro e w4 ⟨v2, rfl, hi, hb4⟩
  have B_4 := Lib.hid (B_3.out.trans (hb4.mono B_3.out.size))
  have V_4 := Lib.hid (V_3.out.below hb4)
  have A_4 := Lib.hid (A_3.out.below hb4)
  have A_4 := Lib.hid (hi)
  clear hb4 hi
  go_wp2_with fail
  refine (HT.out _ _ A_4.out).mono ?_
  rintro e w5 ⟨v3, l3, q3, rfl, he3, hi3, hb5⟩
  have B_5 := Lib.hid (B_4.out.trans (hb5.mono B_4.out.size))
  have V_5 := Lib.hid (V_4.out.below hb5)
  have A_5 := Lib.hid (A_4.out.below hb5)
  clear hb5 
  obtain ⟨rfl, rfl⟩ : l3 = D ∧ q3 = e0 := by have := he3.symm.trans HD.out; exact Prod.mk.inj this
  have J_5 := Lib.hid (hi3)
  clear he3 hi3
  by_cases h1 : m < 1 ∨ 20 < m
  · have h2 := HD.out
    rw [Mid.trimE_out ls m h1] at h2
    obtain ⟨rfl, rfl⟩ := Prod.mk.inj h2
    clear h1 h2 HD
    go_wp2_with fail
    go_ret
    exact ⟨rfl, B_5.out⟩
  obtain ⟨k, rfl⟩ : ∃ k : Nat, m = k := ⟨m.toNat, by omega⟩
  have h2 := HD.out
  rw [Mid.trimE_ok ls k (by omega) (by omega) (by have := HL.out; omega)] at h2
  obtain ⟨rfl, rfl⟩ := Prod.mk.inj h2
  have hk : 1 ≤ k := by omega
  have hcl := Mid.cutL_len ls k hk
  have HIT := Lib.hid (Mid.isTr_cut ls k hk)
  have HMG := Lib.hid (Mid.merge_cut ls k hk HQ.out)
  have hcl20 : (Mid.cutL ls k).length ≤ 20 := by have := HL.out; omega
  have HC20 := Lib.hid hcl20
  have HM := Lib.hid (fun W v u h1 h2 => merge_any v u (Mid.cutL ls k) ls W h1 h2)
  have HI := Lib.hid (fun W v u h1 h2 => isTrimmed_any v u (Mid.cutL ls k) ls W (by have := HC20.out; omega) (by have := HL.out; omega) h1 h2)
  have HS := Lib.hid (fun W v u h1 h2 => same_any v u ls ls W h1 h2)
  rw [decide_eq_true rfl] at HS
  rw [HIT.out] at HI
  obtain ⟨pj, cj, rfl, hj1, hj2, _, _⟩ := J_5.out
  by_cases hn : ls = []
  · have hl0 : len = 0 := by rw [← HLEN.out, hn]; rfl
    have hlI : (len : Int) = 0 := by omega
    have hc0 : ((Mid.cutL ls k).length : Int) = 0 := by rw [hcl, hn]; simp
    clear h1 h2 HD hk hcl hcl20 hn hj1 hj2
    go_wp2_with fail
    go_ret
    exact ⟨rfl, B_5.out⟩
  have hl0 : 0 < len := by rw [← HLEN.out]; exact List.length_pos_iff.2 hn
  have hlI : ¬ (len : Int) = 0 := by omega
  have hln : ¬ len = 0 := by omega
  have HMC := Lib.hid HMG.out
  generalize (Mid.cutL ls k).length = jl at *
  clear h1 h2 HD hk hcl hcl20 hn hj1 hj2 hl0 HMG
  go_wp2_with fail
  refine (HO.out _ _ V_5.out).mono ?_
  rintro e w6 ⟨v5, rfl, hi, hb6⟩
  have B_6 := Lib.hid (B_5.out.trans (hb6.mono B_5.out.size))
  have V_6 := Lib.hid (V_5.out.below hb6)
  have A_6 := Lib.hid (A_5.out.below hb6)
  have J_6 := Lib.hid (J_5.out.below hb6)
  have A_6 := Lib.hid (hi)
  clear hb6 hi
  go_wp2_with fail
  refine (HM.out _ _ _ J_6.out A_6.out).mono ?_
  rintro e w7 ⟨v6, l6, q6, rfl, he6, hi6, hb7⟩
  have B_7 := Lib.hid (B_6.out.trans (hb7.mono B_6.out.size))
  have V_7 := Lib.hid (V_6.out.below hb7)
  have A_7 := Lib.hid (A_6.out.below hb7)
  have J_7 := Lib.hid (J_6.out.below hb7)
  clear hb7 
  obtain ⟨rfl, rfl⟩ : l6 = ls ∧ q6 = 0 := by have := he6.symm.trans HMC.out; exact Prod.mk.inj this
  have M_7 := Lib.hid (hi6)
  clear he6 hi6
  go_wp2_with fail
  refine (HO.out _ _ V_7.out).mono ?_
  rintro e w8 ⟨v7, rfl, hi, hb8⟩
  have B_8 := Lib.hid (B_7.out.trans (hb8.mono B_7.out.size))
  have V_8 := Lib.hid (V_7.out.below hb8)
  have A_8 := Lib.hid (A_7.out.below hb8)
  have J_8 := Lib.hid (J_7.out.below hb8)
  have M_8 := Lib.hid (M_7.out.below hb8)
  have A_8 := Lib.hid (hi)
  clear hb8 hi
  go_wp2_with fail
  refine (HI.out _ _ _ J_8.out A_8.out).mono ?_
  rintro e w9 ⟨rfl, hb9⟩
  have B_9 := Lib.hid (B_8.out.trans (hb9.mono B_8.out.size))
  have V_9 := Lib.hid (V_8.out.below hb9)
  have A_9 := Lib.hid (A_8.out.below hb9)
  have J_9 := Lib.hid (J_8.out.below hb9)
  have M_9 := Lib.hid (M_8.out.below hb9)
  clear hb9 
  go_wp2_with fail
  refine (HS.out _ _ _ M_9.out V_9.out).mono ?_
  rintro e w10 ⟨rfl, hb10⟩
  have B_10 := Lib.hid (B_9.out.trans (hb10.mono B_9.out.size))
  have V_10 := Lib.hid (V_9.out.below hb10)
  have A_10 := Lib.hid (A_9.out.below hb10)
  have J_10 := Lib.hid (J_9.out.below hb10)
  have M_10 := Lib.hid (M_9.out.below hb10)
  clear hb10 
  go_wp2_with fail
  go_ret
  exact ⟨rfl, B_10.out⟩

set_option maxRecDepth 100000 in
theorem contract (H : Type) (enc : TypeId × Value → H) (W : World) (base : Nat) (args : Array Value) (ds gs : List (DataW H)) (before : List MemPlace)
    (hval : ∀ (j : Nat) t v, Try.f11.params[j]? = some t → args[j]? = some v → Value.okWide Try.prog W .any base t v)
    (hW : DataW.Whole enc Try.prog Try.f11.params.toList Rows.referencesKeptSpec.vars false W args.toList ds gs before) (hz : (DataW.weightsEach Try.prog (Try.f11.params.toList ++ (OpenSpec.ofChange Rows.referencesKeptSpec).bare.plain.varTypes Try.prog) (ds ++ gs)).all (· ≤ reachBytes) = true) (_hL : laidMetH Try.prog Rows.referencesKeptRow.laid W) (_hs : W.ShapedOpen Try.prog) :
    Calls Try.prog 11 args W fun e W' => ∃ v, e = .returned v ∧ Rows.referencesKeptSpec.post enc Try.prog Try.f11 false true false false W args v W' := by
  have hW' := hW
  obtain ⟨p, q, hA0, hV, rfl, hfz, hnd⟩ := hW
  have hA : DataW.TrodAll enc Try.prog W 0 (fun _ => true) true Try.f11.params.toList args.toList ds p := hA0
  rw [Try.params11] at hA hval
  obtain ⟨v0, vs0, d0, ds0, p0, q0, hargs, rfl, rfl, h0, r0⟩ := trodAll_cons hA
  obtain ⟨v1, vs1, d1, ds1, p1, q1, rfl, rfl, rfl, h1, r1⟩ := trodAll_cons r0
  obtain ⟨rfl, rfl, rfl⟩ := trodAll_nil r1
  obtain rfl : args = #[v0, v1] := by cases args; simp_all
  obtain ⟨rfl, rfl⟩ := trodVars_none hV
  obtain ⟨a0, len0, cap0, rfl⟩ := okWide_slice Try.underlying22 (hval 0 22 v0 rfl rfl)
  have k0 := h0
  have lt0 : ∀ x ∈ p0, x.block < W.heap.size := by obtain ⟨m, hm⟩ := k0; exact DataW.trod_lt m _ _ _ hm
  obtain ⟨l0, w0, e0⟩ := ids_openR h0
  obtain ⟨a1, rfl, rfl, rfl, w1⟩ := open_int Try.underlying3 (hval 1 3 v1 rfl rfl) h1
  have hz0 := ids_size h0 hz (j := 0) rfl rfl
  clear hA0
  refine (walk a0 len0 cap0 l0 a1 W w0 e0 hz0).mono fun e W' ⟨he, bel⟩ => ?_
  subst he
  exact ⟨_, rfl, _, _, _, [], _, [], hW', trodAll_mk1 (shut_bool Try.underlying4 _), (trodAll_cons_mk (Below.trod laidOut (by kernel_rfl) (of_decide_eq_true (by kernel_rfl)) k0 bel lt0) (trodAll_cons_mk (shut_int Try.underlying3 w1) trodAll_mk0)), rfl, bel.frame _, fun h => by cases h⟩

theorem laid_met (os : Os) : laidMet Try.prog Rows.referencesKeptRow.laid ((laidWorld os).forCall (fun _ _ => 0) ⟨#[], #[.slice none 0 0, .int .i64 0], []⟩).memory :=
  laidMet_of_run' 8 (by kernel_rfl) (by kernel_rfl)
theorem reads (os : Os) {H : Type} (enc : TypeId × Value → H) : ∃ places, DataW.whole enc Try.prog ((laidWorld os).forCall (fun _ _ => 0) ⟨#[], #[.slice none 0 0, .int .i64 0], []⟩).memory Try.f11.params.toList Rows.referencesKeptSpec.vars false (#[.slice none 0 0, .int .i64 0] : Array Value).toList 8 = some ([.nil, .lit (.int .i64 0)], [], places) :=
  ⟨[], by kernel_rfl⟩

set_option maxRecDepth 100000 in
theorem lifted (os : Os) (started : os.Started) (H : Type) (enc : TypeId × Value → H) (F : Stop.Interp) :
    ReturnsInHanded {} Try.checked os 11 .any ((OpenSpec.ofChange Rows.referencesKeptSpec).preRow enc Try.prog Try.f11 Rows.referencesKeptRow.domain false Rows.referencesKeptRow.laid) (((OpenSpec.ofChange Rows.referencesKeptSpec).at F).post enc Try.prog Try.f11 false true false false) := by
  obtain ⟨places, hx⟩ := reads os enc
  refine returnsInHanded_of_row (C := Try.checked) (s := OpenSpec.ofChange Rows.referencesKeptSpec) own started (by kernel_rfl) Try.func11
    (witness_row_at (enc := enc) (C := Try.checked) false (laidWorld os) #[.slice none 0 0, .int .i64 0] rfl (by kernel_rfl) (by kernel_rfl) (by kernel_rfl)
      (OpenSpec.preRow_of_cond 8 hx (by kernel_rfl) (fun k hk => by cases hk) (by kernel_rfl) (laid_met os))) ?_
  intro W base args ds gs before hval hW _ _ hz hL hs _
  exact contract H enc W base args ds gs before hval hW hz hL hs

theorem said : Rows.ReferencesKeptSaid :=
  OpenClaim.holds_of_cond 11 Try.f11 rfl rfl rfl rfl rfl rfl rfl ⟨rfl, rfl, rfl, rfl, rfl⟩ rfl rfl rfl rfl rfl (by kernel_rfl) Try.func11 (by kernel_rfl)
    (of_decide_eq_true (by kernel_rfl)) (by unfold Func.isWrapper; first | (rw [if_pos (by decide +kernel)]; kernel_rfl) | (rw [if_neg (by decide +kernel)]; exact ⟨rfl, rfl⟩))
    (fun os started H enc _ F => by rw [OpenClaim.pre_eq_preRow]; exact lifted os started H enc F)

end Go.Proofs.Ytnejfhapifpllaa.referencesKeptLaw
namespace Go.Proofs.Ytnejfhapifpllaa

/-- THE STATEMENT OF ReferencesKept -/
theorem referencesKept_said : Rows.ReferencesKeptSaid := referencesKeptLaw.said
#print axioms referencesKept_said
end Go.Proofs.Ytnejfhapifpllaa
