/- The reference's Check. -/
import Derived.Test.YtcofplbdapjdjaaChk
namespace Go.Proofs.Ytcofplbdapjdjaa
open Go.RowKit

theorem run_build_R (w : World) : (Instr.build 48 #[]).run Try.prog w = .ok (.agg (encI default).toArray) w := by kernel_rfl
theorem wp_build_R {ops : Array Oper} {rest : List Oper} {o : Oper} {a : Act} {w : World} {Q : Exit → Act → World → Prop} (hgd : o.guard = none) (ho : o.op = .build 48 #[])
    (hk : wpList Try.prog ops Q rest (a.put o.dst (.agg (encI default).toArray)) w) : wpList Try.prog ops Q (o :: rest) a w := by
  have hrun := run_build_R w
  refine wpList_plain hgd fun K hK => ?_
  unfold Oper.wp
  simp [execOp, ho, hrun, Result.andThen]
  exact hK _ _ hk

set_option maxRecDepth 100000 in
set_option maxHeartbeats 1000000 in
theorem refCheck_any (v : Value) (ls : List Mid.Id) (w : World) (hv : Ids w v ls) :
    Calls Try.prog 34 #[v] w fun e w' => e = .returned (.int .i64 (Mid.chk ls)) ∧ Below w.heap.size w w' := by
  have hv0 := hv
  obtain ⟨ad, cap, rfl, hlc, hcm, _, hcells⟩ := hv
  unfold maxLen at hcm
  have HR := Lib.hid (show Mid.chk ls = if 20 < ls.length then 9 else Mid.chkAt ls 0 ls from rfl)
  generalize Mid.chk ls = q at *
  obtain ⟨n, hnn⟩ : ∃ n, n = ls.length := ⟨_, rfl⟩
  rw [← hnn] at HR hlc hv0 ⊢
  by_cases hbig : 20 < n
  · have hI : (20 : Int) < (n : Int) := by omega
    have hq := HR.out
    rw [if_pos hbig] at hq
    subst hq
    clear HR hcells hlc hcm hnn hbig hv0
    go_enter Try.func34, Try.ntmps34
    go_wp2_with fail
    go_ret
    exact ⟨rfl, Below.refl _ _⟩
  · have hI : ¬ (20 : Int) < (n : Int) := by omega
    have hq := HR.out
    rw [if_neg hbig] at hq
    have HQ := Lib.hid hq
    have hnI : (n : Int) ≤ 20 := by omega
    have HN := Lib.hid hnn; have HCL := Lib.hid hcells; have HV := Lib.hid hv0
    have hlI : (n : Int) ≤ (cap : Int) := by omega
    have hcI : (cap : Int) ≤ 9223372036854775807 := by omega
    have hu30 : Try.prog.underlying 48 = some (.array 32 5) := Try.underlying48
    have HEQ := Lib.hid (fun y w => eq_enc (t := 48) hu30 y default w)
    have HHAS := Lib.hid (fun v l (hl : List.length l ≤ 1000000) x W h => refHas_any v l x W hl h)
    clear HR hcells hlc hcm hnn hbig hq hv0
    go_enter Try.func34, Try.ntmps34
    go_wp2_with fail
    go_loopw [3] (fun i wr => ∃ k : Nat, i = .int .i64 k ∧ k ≤ n ∧ Hid (Mid.chkAt ls k (ls.drop k) = q) ∧ Hid (Below w.heap.size w wr)) (fun i _ => n - (intOf i).toNat)
    case atStart => exact ⟨0, rfl, Nat.zero_le _, Lib.hid (by rw [HQ.out]; rfl), Lib.hid (Below.refl _ w)⟩
    case round =>
      clear HQ
      obtain ⟨k, rfl, hk, hf, hbl⟩ := hrel
      by_cases hlt : k < n
      · have hkl : k < ls.length := by rw [← HN.out]; exact hlt
        have HT := Lib.hid ((HV.out.take k (Nat.le_of_lt hkl)))
        rcases HCL.out with h0 | ⟨b, off, rfl, hc⟩
        · rw [h0] at hkl; exact absurd hkl (by simp)
        have hblt : b < w.heap.size := hc.lt (by intro h; rw [h] at hkl; exact absurd hkl (by simp))
        have HBLT := Lib.hid hblt; have HC := Lib.hid hc
        have hrg := (hc.keep hbl.out hblt).range k hkl
        have hst := Mid.chkAt_step ls k hkl
        rw [hf.out] at hst
        have hlt' : (ls.take k).length ≤ 1000000 := by rw [List.length_take]; have := HN.out; omega
        have HH0 := Lib.hid (fun x W (hb : Below wr.heap.size wr W) => HHAS.out (.slice (some ⟨b, off, none⟩) k cap) (ls.take k) hlt' x W (HT.out.below (hbl.out.trans (hb.mono hbl.out.size))))
        have HRX0 := Lib.hid (fun W (hb : Below wr.drew.heap.size wr.drew W) => (HC.out.keep (hbl.out.trans ((show Below wr.heap.size wr W from ⟨hb.os, hb.tape, hb.output, hb.size, hb.block⟩).mono hbl.out.size)) HBLT.out).range k hkl)
        generalize ls[k]! = x at *
        have HST := Lib.hid hst
        have HRG := Lib.hid (show wr.drew.rangeAt b (off + k * 32) (encI x) from hrg)
        have HRX := HRX0
        have HRW := Lib.hid (show wr.rangeAt b (off + k * 32) (encI x) from hrg)
        have hix := info_enc infoRid x
        have heq := HEQ.out x
        have hltI : (k : Int) < (n : Int) := by omega
        have hkc : (k : Int) ≤ (cap : Int) := by omega
        clear hst hrg hkl hc hblt hf HRX0 hlt' HT HC HBLT
        by_cases hz : x = default
        · rw [decide_eq_true hz] at heq
          have hq0 := HST.out
          rw [if_pos hz] at hq0
          subst hq0
          clear hz HST
          go_wp2_with (first
            | (refine wpList_load_mid rfl _ _ rfl b (off + k * 32) (by rfl) (encI x) _ HRW.out hu30 rfl hix ?_)
            | (refine wp_build_R rfl rfl ?_))
          go_ret
          exact ⟨rfl, hbl.out⟩
        · rw [decide_eq_false hz] at heq
          have hq0 := HST.out
          rw [if_neg hz] at hq0
          clear hz HST
          by_cases hm : x ∈ ls.take k
          · rw [if_pos hm] at hq0
            have HH := Lib.hid (fun W hb => HH0.out x W hb)
            rw [decide_eq_true hm] at HH
            subst hq0
            clear hm HH0
            go_wp2_with (first
              | (refine wpList_load_mid rfl _ _ rfl b (off + k * 32) (by rfl) (encI x) _ HRW.out hu30 rfl hix ?_)
              | (refine wp_build_R rfl rfl ?_))
            refine wp_region_held_drew (S := (fun w' => w'.rangeAt b (off + k * 32) (encI x))) (by kernel_rfl) ?_ (fun hHeld => ?_)
            · exact HRG.out
            refine wpAnyH_take (i := 0) (v := ?_) rfl (by kernel_rfl) (by kernel_rfl) (by kernel_rfl) (fun _ _ _ h => h) (Or.inl ⟨by rfl, ?_⟩) (by assumption) ?_
            rotate_left
            · (intro w9 _; go_simp; try with_reducible rfl)
            simp only [Act.put, List.getElem_toArray, List.getElem_cons_zero, List.setIfInBounds_toArray, List.set_cons_succ, List.set_cons_zero]
            refine wpAnyH_take (i := 1) (v := ?_) rfl (by kernel_rfl) (by kernel_rfl) (by kernel_rfl) (fun _ _ _ h => h) (Or.inl ⟨by rfl, ?_⟩) (by assumption) ?_
            rotate_left
            · (intro w9 _; go_simp; try with_reducible rfl)
            simp only [Act.put, List.getElem_toArray, List.getElem_cons_succ, List.getElem_cons_zero, List.setIfInBounds_toArray, List.set_cons_succ, List.set_cons_zero]
            refine wpAnyH_take (i := 2) (v := ?_) rfl (by kernel_rfl) (by kernel_rfl) (by kernel_rfl) (fun _ _ _ h => h) (Or.inl ⟨by rfl, ?_⟩) (by assumption) ?_
            rotate_left
            · (intro w9 _; go_simp; try with_reducible rfl)
            simp only [Act.put, List.getElem_toArray, List.getElem_cons_succ, List.getElem_cons_zero, List.setIfInBounds_toArray, List.set_cons_succ, List.set_cons_zero]
            refine wpAnyH_take (i := 3) (v := ?_) rfl (by kernel_rfl) (by kernel_rfl) (by kernel_rfl) (fun _ _ _ h => h) (Or.inl ⟨by rfl, ?_⟩) (by assumption) ?_
            rotate_left
            · (intro w9 _; go_simp; try with_reducible rfl)
            simp only [Act.put, List.getElem_toArray, List.getElem_cons_succ, List.getElem_cons_zero, List.setIfInBounds_toArray, List.set_cons_succ, List.set_cons_zero]
            refine wpAnyH_take (i := 4) (v := ?_) rfl (by kernel_rfl) (by kernel_rfl) (by kernel_rfl) (fun _ _ _ h => h) (Or.inl ⟨by rfl, ?_⟩) (by assumption) ?_
            rotate_left
            · (intro w9 _; go_simp; try with_reducible rfl)
            simp only [Act.put, List.getElem_toArray, List.getElem_cons_succ, List.getElem_cons_zero, List.setIfInBounds_toArray, List.set_cons_succ, List.set_cons_zero]
            refine wpAnyH_take (i := 5) (v := ?_) rfl (by kernel_rfl) (by kernel_rfl) (by kernel_rfl) (fun _ _ _ h => h) (Or.inl ⟨by rfl, ?_⟩) (by assumption) ?_
            rotate_left
            · (intro w9 _; go_simp; try with_reducible rfl)
            simp only [Act.put, List.getElem_toArray, List.getElem_cons_succ, List.getElem_cons_zero, List.setIfInBounds_toArray, List.set_cons_succ, List.set_cons_zero]
            refine wpAnyH_take (i := 6) (v := .agg (encI x).toArray) rfl (by kernel_rfl) (by kernel_rfl) (by kernel_rfl) (fun _ _ _ h => h) (yieldsIf_load_mid (by rfl) _ _ rfl _ _ rfl (encI x) _ (fun _ h => h) hu30 rfl hix) (by assumption) ?_
            simp only [Act.put, List.getElem_toArray, List.getElem_cons_succ, List.getElem_cons_zero, List.setIfInBounds_toArray, List.set_cons_succ, List.set_cons_zero]
            refine wpAnyH_ready (rs := [7]) (by kernel_rfl) (by simp) ?_
            refine AllReadyH.cons rfl (fun K hK => ?_) AllReadyH.nil
            go_simp
            refine (HH.out _ (Below.refl _ wr).drew).mono ?_
            rintro e w4 ⟨rfl, hb4⟩
            have B4 := Lib.hid (hbl.out.drew.trans (hb4.mono hbl.out.drew.size))
            refine hK.out _ _ (HRX.out _ hb4) (fun hHeld => ?_)
            clear hK K
            refine wpAnyH_done (by kernel_rfl) ?_ _
            clear hHeld hb4
            go_wp2_with fail
            go_ret
            exact ⟨rfl, B4.out⟩
          · rw [if_neg hm] at hq0
            have HH := Lib.hid (fun W hb => HH0.out x W hb)
            rw [decide_eq_false hm] at HH
            have HQ3 := Lib.hid hq0.symm
            clear hm HH0 hq0
            go_wp2_with (first
              | (refine wpList_load_mid rfl _ _ rfl b (off + k * 32) (by rfl) (encI x) _ HRW.out hu30 rfl hix ?_)
              | (refine wp_build_R rfl rfl ?_))
            refine wp_region_held_drew (S := (fun w' => w'.rangeAt b (off + k * 32) (encI x))) (by kernel_rfl) ?_ (fun hHeld => ?_)
            · exact HRG.out
            refine wpAnyH_take (i := 0) (v := ?_) rfl (by kernel_rfl) (by kernel_rfl) (by kernel_rfl) (fun _ _ _ h => h) (Or.inl ⟨by rfl, ?_⟩) (by assumption) ?_
            rotate_left
            · (intro w9 _; go_simp; try with_reducible rfl)
            simp only [Act.put, List.getElem_toArray, List.getElem_cons_zero, List.setIfInBounds_toArray, List.set_cons_succ, List.set_cons_zero]
            refine wpAnyH_take (i := 1) (v := ?_) rfl (by kernel_rfl) (by kernel_rfl) (by kernel_rfl) (fun _ _ _ h => h) (Or.inl ⟨by rfl, ?_⟩) (by assumption) ?_
            rotate_left
            · (intro w9 _; go_simp; try with_reducible rfl)
            simp only [Act.put, List.getElem_toArray, List.getElem_cons_succ, List.getElem_cons_zero, List.setIfInBounds_toArray, List.set_cons_succ, List.set_cons_zero]
            refine wpAnyH_take (i := 2) (v := ?_) rfl (by kernel_rfl) (by kernel_rfl) (by kernel_rfl) (fun _ _ _ h => h) (Or.inl ⟨by rfl, ?_⟩) (by assumption) ?_
            rotate_left
            · (intro w9 _; go_simp; try with_reducible rfl)
            simp only [Act.put, List.getElem_toArray, List.getElem_cons_succ, List.getElem_cons_zero, List.setIfInBounds_toArray, List.set_cons_succ, List.set_cons_zero]
            refine wpAnyH_take (i := 3) (v := ?_) rfl (by kernel_rfl) (by kernel_rfl) (by kernel_rfl) (fun _ _ _ h => h) (Or.inl ⟨by rfl, ?_⟩) (by assumption) ?_
            rotate_left
            · (intro w9 _; go_simp; try with_reducible rfl)
            simp only [Act.put, List.getElem_toArray, List.getElem_cons_succ, List.getElem_cons_zero, List.setIfInBounds_toArray, List.set_cons_succ, List.set_cons_zero]
            refine wpAnyH_take (i := 4) (v := ?_) rfl (by kernel_rfl) (by kernel_rfl) (by kernel_rfl) (fun _ _ _ h => h) (Or.inl ⟨by rfl, ?_⟩) (by assumption) ?_
            rotate_left
            · (intro w9 _; go_simp; try with_reducible rfl)
            simp only [Act.put, List.getElem_toArray, List.getElem_cons_succ, List.getElem_cons_zero, List.setIfInBounds_toArray, List.set_cons_succ, List.set_cons_zero]
            refine wpAnyH_take (i := 5) (v := ?_) rfl (by kernel_rfl) (by kernel_rfl) (by kernel_rfl) (fun _ _ _ h => h) (Or.inl ⟨by rfl, ?_⟩) (by assumption) ?_
            rotate_left
            · (intro w9 _; go_simp; try with_reducible rfl)
            simp only [Act.put, List.getElem_toArray, List.getElem_cons_succ, List.getElem_cons_zero, List.setIfInBounds_toArray, List.set_cons_succ, List.set_cons_zero]
            refine wpAnyH_take (i := 6) (v := .agg (encI x).toArray) rfl (by kernel_rfl) (by kernel_rfl) (by kernel_rfl) (fun _ _ _ h => h) (yieldsIf_load_mid (by rfl) _ _ rfl _ _ rfl (encI x) _ (fun _ h => h) hu30 rfl hix) (by assumption) ?_
            simp only [Act.put, List.getElem_toArray, List.getElem_cons_succ, List.getElem_cons_zero, List.setIfInBounds_toArray, List.set_cons_succ, List.set_cons_zero]
            refine wpAnyH_ready (rs := [7]) (by kernel_rfl) (by simp) ?_
            refine AllReadyH.cons rfl (fun K hK => ?_) AllReadyH.nil
            go_simp
            refine (HH.out _ (Below.refl _ wr).drew).mono ?_
            rintro e w4 ⟨rfl, hb4⟩
            have B4 := Lib.hid (hbl.out.drew.trans (hb4.mono hbl.out.drew.size))
            refine hK.out _ _ (HRX.out _ hb4) (fun hHeld => ?_)
            clear hK K
            refine wpAnyH_done (by kernel_rfl) ?_ _
            clear hHeld hb4
            go_wp2_with fail
            go_roundw
            case rel => exact ⟨k + 1, by go_num, hlt, HQ3, B4⟩
            case measure => simp [intOf]; omega
      · have hq0 := hf.out
        rw [Mid.chkAt_end ls k (by rw [← HN.out]; omega)] at hq0
        subst hq0
        go_wp2_with fail
        go_ret
        exact ⟨rfl, hbl.out⟩
end Go.Proofs.Ytcofplbdapjdjaa
