/- ReferencesChain: whatever the number, each list of a chain of answers is valid, ends with the parent, begins with the first article and has its latest ancestors. Conditions: none beyond the row's own. -/
import Derived.Test.YtnejfhapifpllaaChn
import Derived.Test.YtnejfhapifpllaaOpenR
import Derived.Test.YtnejfhapifpllaaKnown
namespace Go.Proofs.Ytnejfhapifpllaa.referencesChainLaw
open Go.ChangeShapes Go.WideShapes Go.ChangeAt Go.RowKit
open Go.ChangeMaps (open_string shut_string)

set_option maxRecDepth 100000 in
set_option maxHeartbeats 4000000 in
theorem walk (n : Int) (hn : 0 ≤ n ∧ n ≤ 255) (w : World) :
    Calls Try.prog 8 #[.int .u8 n] w fun e w' => e = .returned (.bool true) ∧ Below w.heap.size w w' := by
  have HK := Lib.hid (fun w => known_any w)
  obtain ⟨m, hm, hm60⟩ : ∃ m : Nat, Int.tmod n 60 = (m : Int) ∧ m < 60 := by
    refine ⟨(Int.tmod n 60).toNat, ?_, ?_⟩ <;> (rw [Int.tmod_eq_emod_of_nonneg hn.1]; omega)
  have HM := Lib.hid hm60
  have hwm : wrap64 (m : Int) = (m : Int) := by unfold wrap64; omega
  have hu46 : Try.prog.underlying 46 = some (.array 32 5) := Try.underlying46
  clear hm60 hn
  go_enter Try.func8, Try.ntmps8
  go_wp2_with fail
  refine (HK.out _).mono ?_
  rintro e w1 ⟨rfl, hb1⟩
  have B1 := Lib.hid hb1
  clear hb1
  go_wp2_with fail
  go_loopw [3, 4] (fun o i wr => ∃ (k : Nat) (v : Value), v = o ∧ i = .int .i64 k ∧ k ≤ m ∧ Hid (Ids wr v (Mid.chain k)) ∧ Hid (Below w.heap.size w wr)) (fun _ i _ => m - (intOf i).toNat)
  case atStart => exact ⟨0, _, rfl, rfl, Nat.zero_le _, Lib.hid (by rw [Mid.chain_zero]; exact Ids.nil _), B1⟩
  case round =>
    clear B1
    obtain ⟨k, v0, rfl, rfl, hk, hi, hbl⟩ := hrel
    by_cases hlt : k < m
    · have hltI : (k : Int) < (m : Int) := by omega
      have hk60 : k < 60 := by have := HM.out; omega
      have HRP := Lib.hid (fun W v h => reply_any v (Mid.chain k) (Mid.num (k + 1)) W h)
      have HPA := Lib.hid (fun W v h => parent_any v (Mid.chain (k + 1)) W h)
      have HCK := Lib.hid (fun W v h => check_any v (Mid.chain (k + 1)) W h)
      have hlen := Mid.chain_len ⟨k, hk60⟩
      have hAT := Mid.chain_at ⟨k, hk60⟩
      have hhd := Mid.chain_head ⟨k, hk60⟩
      have HRE := Lib.hid (Mid.chain_reply ⟨k, hk60⟩)
      rw [Mid.chain_last ⟨k, hk60⟩] at HPA
      rw [Mid.chain_chk ⟨k, hk60⟩] at HCK
      simp only at hlen hAT hhd HPA HCK
      obtain ⟨N, hN⟩ : ∃ N, N = min (k + 1) 20 := ⟨_, rfl⟩
      have hmn : min ((k : Int) + 1) 20 = (N : Int) := by omega
      rw [← hN] at hlen hAT
      have hN1 : 0 < N := by omega
      have HN := Lib.hid hN
      have HL := Lib.hid hlen; have HAT := Lib.hid hAT; have HHD := Lib.hid hhd
      have HB := Lib.hid (fun w => (show (Instr.build 46 #[(0, .int .u8 ((k : Int) + 1))]).run Try.prog w = .ok (.agg (encI (Mid.num (k + 1))).toArray) w from run_build_num (k + 1) (by omega) w))
      have HBC := Lib.hid (fun w => run_build_num 1 (by omega) w)
      have heqx := fun w => (show (Op.equalIn 10000 46 (.agg (encI (Mid.num (k + 1))).toArray) (.agg (encI (Mid.num (k + 1))).toArray)).run Try.prog w = .ok true w by rw [eq_enc (t := 46) Try.underlying46 _ _ w, decide_eq_true rfl])
      have heq1 := fun w => (show (Op.equalIn 10000 46 (.agg (encI (Mid.num 1)).toArray) (.agg (encI (Mid.num 1)).toArray)).run Try.prog w = .ok true w by rw [eq_enc (t := 46) Try.underlying46 _ _ w, decide_eq_true rfl])
      have hix := info_enc infoId (Mid.num (k + 1))
      have hi1 := info_enc infoId (Mid.num 1)
      generalize Mid.num 1 = o1 at *
      generalize Mid.num (k + 1) = x at *
      obtain ⟨l', hl'⟩ : ∃ l', l' = Mid.chain (k + 1) := ⟨_, rfl⟩
      rw [← hl'] at HRE HPA HCK HL HAT HHD
      have HCH := Lib.hid hl'
      clear hl'
      clear hN hlen hAT hhd
      go_upto_region 8 with (first
        | (refine wp_build_of HB.out (by rfl) _ (by rfl) (by rfl) ?_)
        | (refine sto_id infoId wr.heap.size x _ (Blk.fresh wr _ _) (by rfl) (by rfl) _ _ (by rfl) (by rfl) (by rfl) ?_; intro w3 hw3; have K3 := Lib.hid (show Blk w3 wr.heap.size 46 (encI x).toArray by rw [hw3.out]; exact (Blk.fresh wr _ _).row _); have B3 := Lib.hid (show Below wr.heap.size wr w3 by rw [hw3.out]; exact below_row ((Below.refl _ wr).alloc (Nat.le_refl _) _) _ (Nat.le_refl _) _); clear hw3))
      obtain ⟨g5, hg5⟩ : ∃ g, g = wr.heap.size := ⟨_, rfl⟩
      have B4 := Lib.hid (hbl.out.trans (B3.out.mono hbl.out.size))
      have V3 := Lib.hid (hi.out.below B3.out)
      rw [← hg5] at K3 ⊢
      clear hg5 B3 hi hbl
      go_wp2_with (refine wpList_load_mid rfl _ _ rfl g5 0 (by rfl) (encI x) _ (encBlk K3.out) hu46 rfl hix ?_)
      refine (HRP.out _ _ V3.out).mono ?_
      rintro e w5 ⟨v5, l5, q5, rfl, he5, hi5, hb5⟩
      obtain ⟨rfl, rfl⟩ : l5 = l' ∧ q5 = 0 := by have := he5.symm.trans HRE.out; exact Prod.mk.inj this
      have V5 := Lib.hid hi5
      have B5 := Lib.hid (B4.out.trans (hb5.mono B4.out.size)); have K5 := Lib.hid (K3.out.keep hb5 K3.out.lt)
      clear he5 hi5 hb5 V3 K3 B4 HRE HRP
      go_wp2_with fail
      refine (HPA.out _ _ V5.out).mono ?_
      rintro e w6 ⟨rfl, hb6⟩
      have V6 := Lib.hid (V5.out.below hb6)
      have B6 := Lib.hid (B5.out.trans (hb6.mono B5.out.size)); have K6 := Lib.hid (K5.out.keep hb6 K5.out.lt)
      clear hb6 V5 B5 K5 HPA
      go_upto_region 10 with (refine sto_id infoId w6.heap.size x _ (Blk.fresh w6 _ _) (by rfl) (by rfl) _ _ (by rfl) (by rfl) (by rfl) ?_; intro w7 hw7; have L7 := Lib.hid (show Blk w7 w6.heap.size 46 (encI x).toArray by rw [hw7.out]; exact (Blk.fresh w6 _ _).row _); have BB := Lib.hid (show Below w6.heap.size w6 w7 by rw [hw7.out]; exact below_row ((Below.refl _ w6).alloc (Nat.le_refl _) _) _ (Nat.le_refl _) _); clear hw7)
      obtain ⟨g8, hg8⟩ : ∃ g, g = w6.heap.size := ⟨_, rfl⟩
      have V7 := Lib.hid (V6.out.below BB.out)
      have B7 := Lib.hid (B6.out.trans (BB.out.mono B6.out.size)); have K7 := Lib.hid (K6.out.keep BB.out K6.out.lt)
      rw [← hg8] at L7 ⊢
      clear hg8 BB V6 B6 K6
      go_wp2_with fail
      refine (HCK.out _ _ V7.out).mono ?_
      rintro e w8 ⟨rfl, hb8⟩
      have V8 := Lib.hid (V7.out.below hb8)
      have B8 := Lib.hid (B7.out.trans (hb8.mono B7.out.size)); have K8 := Lib.hid (K7.out.keep hb8 K7.out.lt); have L8 := Lib.hid (L7.out.keep hb8 L7.out.lt)
      clear hb8 V7 B7 K7 L7 HCK
      have hv8 := V8.out
      obtain ⟨q8, c8, rfl, hl8, hm8, _, hcells⟩ := hv8
      rw [HL.out] at hl8 ⊢
      rcases hcells with h0 | ⟨b, off, rfl, hc⟩
      · exfalso; have := HL.out; rw [h0] at this; simp at this; omega
      have hrg := hc.range 0 (by rw [HL.out]; exact hN1)
      rw [HHD.out] at hrg
      have HRG0 := Lib.hid hrg
      have HC := Lib.hid hc
      have V9 := Lib.hid (show Ids w8 (.slice (some ⟨b, off, none⟩) N c8) l5 by have h := V8.out; rwa [HL.out] at h)
      clear hrg hc hl8 hm8
      go_upto_region 12 with (first
        | (refine load_g (by rfl) _ _ rfl g5 0 (by rfl) (encI x) _ (encBlk K8.out) hu46 rfl hix ?_)
        | (refine load_g (by rfl) _ _ rfl g8 0 (by rfl) (encI x) _ (encBlk L8.out) hu46 rfl hix ?_)
        | (refine load_g (by rfl) _ _ rfl b (off + 0 * 32) (by rfl) (encI o1) _ HRG0.out hu46 rfl hi1 ?_)
        | (refine wp_build_of HBC.out (by rfl) _ (by rfl) (by rfl) ?_))
      clear HRG0 heqx heq1 HB HBC hix hi1 K8 L8 HHD
      go_wp2_with fail
      go_loopw [10] (fun i wx => ∃ (j : Nat), i = .int .i64 j ∧ 1 ≤ j ∧ j ≤ N ∧ Hid (Below w8.heap.size w8 wx)) (fun i _ => N - (intOf i).toNat)
      case atStart => exact ⟨1, rfl, Nat.le_refl _, hN1, Lib.hid (Below.refl _ _)⟩
      case round =>
        obtain ⟨j, rfl, hj1, hj2, hbx⟩ := hrel
        by_cases hjN : j < N
        · have hjI : (j : Int) < (N : Int) := by omega
          obtain ⟨y, hy, hy256⟩ : ∃ y : Nat, (k : Int) + 2 - (j : Int) = (y : Int) ∧ y < 256 := ⟨k + 2 - j, by have := HN.out; omega, by omega⟩
          obtain ⟨p, hp⟩ : ∃ p : Nat, (N : Int) - (j : Int) = (p : Int) := ⟨N - j, by omega⟩
          have hpN : p < N := by omega
          have hpI : (p : Int) < (N : Int) := by omega
          have hz := HAT.out ⟨j, by have := HN.out; omega⟩ hj1 (by have := HN.out; simp only; omega)
          simp only at hz
          rw [show N - j = p by omega, show k + 2 - j = y by omega] at hz
          have hrg := (HC.out.keep hbx.out (HC.out.lt (by intro h; have := HL.out; rw [h] at this; simp at this; omega))).range p (by rw [HL.out]; exact hpN)
          rw [hz] at hrg
          have HRG := Lib.hid hrg
          have HBY := Lib.hid (fun w => run_build_num y hy256 w)
          have heqz := fun w => (show (Op.equalIn 10000 46 (.agg (encI (Mid.num y)).toArray) (.agg (encI (Mid.num y)).toArray)).run Try.prog w = .ok true w by rw [eq_enc (t := 46) Try.underlying46 _ _ w, decide_eq_true rfl])
          have hiz := info_enc infoId (Mid.num y)
          generalize Mid.num y = z at *
          have hym : (y : Int) % 256 = (y : Int) := by omega
          clear hz hrg
          go_wp2_with (first
            | (refine wpList_load_mid rfl _ _ rfl b (off + p * 32) (by rfl) (encI z) _ HRG.out hu46 rfl hiz ?_)
            | (refine wp_build_of HBY.out (by rfl) _ (by rfl) (by rfl) ?_))
          go_roundw
          case rel => exact ⟨j + 1, by go_num, by omega, by omega, hbx⟩
          case measure => simp [intOf]; omega
        · go_wp2_with fail
          go_roundw
          case rel => exact ⟨k + 1, _, rfl, by go_num, hlt, Lib.hid (by rw [← HCH.out]; exact V9.out.below hbx.out), Lib.hid (B8.out.trans (hbx.out.mono B8.out.size))⟩
          case measure => simp [intOf]; omega
    · go_wp2_with fail
      go_ret
      exact ⟨rfl, hbl.out⟩

set_option maxRecDepth 100000 in
theorem contract (H : Type) (enc : TypeId × Value → H) (W : World) (base : Nat) (args : Array Value) (ds gs : List (DataW H)) (before : List MemPlace)
    (hval : ∀ (j : Nat) t v, Try.f8.params[j]? = some t → args[j]? = some v → Value.okWide Try.prog W .any base t v)
    (hW : DataW.Whole enc Try.prog Try.f8.params.toList Rows.referencesChainSpec.vars false W args.toList ds gs before) (_hL : laidMetH Try.prog Rows.referencesChainRow.laid W) (_hs : W.ShapedOpen Try.prog) :
    Calls Try.prog 8 args W fun e W' => ∃ v, e = .returned v ∧ Rows.referencesChainSpec.post enc Try.prog Try.f8 false true false false W args v W' := by
  have hW' := hW
  obtain ⟨p, q, hA0, hV, rfl, hfz, hnd⟩ := hW
  have hA : DataW.TrodAll enc Try.prog W 0 (fun _ => true) true Try.f8.params.toList args.toList ds p := hA0
  rw [Try.params8] at hA hval
  obtain ⟨v0, vs0, d0, ds0, p0, q0, hargs, rfl, rfl, h0, r0⟩ := trodAll_cons hA
  obtain ⟨rfl, rfl, rfl⟩ := trodAll_nil r0
  obtain rfl : args = #[v0] := by cases args; simp_all
  obtain ⟨rfl, rfl⟩ := trodVars_none hV
  obtain ⟨a0, rfl, rfl, rfl, w0⟩ := open_int Try.underlying5 (hval 0 5 v0 rfl rfl) h0
  clear hA0
  simp only [List.append_nil] at hW'
  refine (walk a0 (bounds_u8 w0) W).mono fun e W' ⟨he, bel⟩ => ?_
  subst he
  exact ⟨_, rfl, _, _, _, [], [], [], hW', trodAll_mk1 (shut_bool Try.underlying4 _), (trodAll_cons_mk (shut_int Try.underlying5 w0) trodAll_mk0), rfl, bel.frame _, fun h => by cases h⟩

theorem laid_met (os : Os) : laidMet Try.prog Rows.referencesChainRow.laid ((laidWorld os).forCall (fun _ _ => 0) ⟨#[], #[.int .u8 0], []⟩).memory :=
  laidMet_of_run' 8 (by kernel_rfl) (by kernel_rfl)
theorem reads (os : Os) {H : Type} (enc : TypeId × Value → H) : ∃ places, DataW.whole enc Try.prog ((laidWorld os).forCall (fun _ _ => 0) ⟨#[], #[.int .u8 0], []⟩).memory Try.f8.params.toList Rows.referencesChainSpec.vars false (#[.int .u8 0] : Array Value).toList 8 = some ([.lit (.int .u8 0)], [], places) :=
  ⟨[], by kernel_rfl⟩

set_option maxRecDepth 100000 in
theorem lifted (os : Os) (started : os.Started) (H : Type) (enc : TypeId × Value → H) (F : Stop.Interp) :
    ReturnsInHanded {} Try.checked os 8 .any ((OpenSpec.ofChange Rows.referencesChainSpec).preRow enc Try.prog Try.f8 Rows.referencesChainRow.domain false Rows.referencesChainRow.laid) (((OpenSpec.ofChange Rows.referencesChainSpec).at F).post enc Try.prog Try.f8 false true false false) := by
  obtain ⟨places, hx⟩ := reads os enc
  refine returnsInHanded_of_row (C := Try.checked) (s := OpenSpec.ofChange Rows.referencesChainSpec) own started (by kernel_rfl) Try.func8
    (witness_row_at (enc := enc) (C := Try.checked) false (laidWorld os) #[.int .u8 0] rfl (by kernel_rfl) (by kernel_rfl) (by kernel_rfl)
      (OpenSpec.preRow_of_cond 8 hx (by kernel_rfl) (fun k hk => by cases hk) (by kernel_rfl) (laid_met os))) ?_
  intro W base args ds gs before hval hW _ _ _ hL hs _
  exact contract H enc W base args ds gs before hval hW hL hs

theorem said : Rows.ReferencesChainSaid :=
  OpenClaim.holds_of_cond 8 Try.f8 rfl rfl rfl rfl rfl rfl rfl ⟨rfl, rfl, rfl, rfl, rfl⟩ rfl rfl rfl rfl rfl (by kernel_rfl) Try.func8 (by kernel_rfl)
    (of_decide_eq_true (by kernel_rfl)) (by unfold Func.isWrapper; first | (rw [if_pos (by decide +kernel)]; kernel_rfl) | (rw [if_neg (by decide +kernel)]; exact ⟨rfl, rfl⟩))
    (fun os started H enc _ F => by rw [OpenClaim.pre_eq_preRow]; exact lifted os started H enc F)

end Go.Proofs.Ytnejfhapifpllaa.referencesChainLaw
namespace Go.Proofs.Ytnejfhapifpllaa

/-- THE STATEMENT OF ReferencesChain -/
theorem referencesChain_said : Rows.ReferencesChainSaid := referencesChainLaw.said
#print axioms referencesChain_said
end Go.Proofs.Ytnejfhapifpllaa
