/- Equality of two lists of identities: the law's Same, the reference's, slices.Equal. -/
import Derived.Test.YtcofplbdapjdjaaTo
import Derived.Deep.RegionHeld3
namespace Go.Proofs.Ytcofplbdapjdjaa
open Go.RowKit

set_option maxRecDepth 100000 in
set_option maxHeartbeats 1000000 in
theorem same_any (v u : Value) (ls ms : List Mid.Id) (w : World) (hv : Ids w v ls) (hu : Ids w u ms) :
    Calls Try.prog 19 #[v, u] w fun e w' => e = .returned (.bool (decide (ls = ms))) ∧ Below w.heap.size w w' := by
  obtain ⟨ad, cap, rfl, hlc, hcm, _, hcells⟩ := hv
  obtain ⟨bd, dap, rfl, hld, hdm, _, hdells⟩ := hu
  unfold maxLen at hcm hdm
  by_cases hlm : ls.length = ms.length
  · obtain ⟨n, hnn⟩ : ∃ n, n = ls.length := ⟨_, rfl⟩
    have hmm : n = ms.length := by omega
    rw [← hnn, ← hmm]
    have hnI : (n : Int) ≤ 9223372036854775807 := by omega
    have HN := Lib.hid hnn; have HM := Lib.hid hmm; have HCL := Lib.hid hcells; have HDL := Lib.hid hdells
    have HIX := Lib.hid (fun x => info_enc infoId x); have HIY := Lib.hid (fun x => info_enc infoRid x)
    have HEQ := Lib.hid (fun x y w => eq_enc (t := 46) Try.underlying46 x y w)
    clear hnn hmm hcells hdells hlc hld hcm hdm hlm
    go_enter Try.func19, Try.ntmps19
    go_wp2_with fail
    go_loopw [5] (fun i wr => ∃ k : Nat, i = .int .i64 k ∧ k ≤ n ∧ Hid (ls.take k = ms.take k) ∧ Hid (Below w.heap.size w wr)) (fun i _ => n - (intOf i).toNat)
    case atStart => exact ⟨0, rfl, Nat.zero_le _, Lib.hid rfl, Lib.hid (Below.refl _ w)⟩
    case round =>
      obtain ⟨k, rfl, hk, hf, hbl⟩ := hrel
      by_cases hlt : k < n
      · have hkl : k < ls.length := by rw [← HN.out]; exact hlt
        have hkm : k < ms.length := by rw [← HM.out]; exact hlt
        rcases HCL.out with h0 | ⟨b, off, rfl, hc⟩
        · rw [h0] at hkl; exact absurd hkl (by simp)
        rcases HDL.out with h0 | ⟨b2, off2, rfl, hd⟩
        · rw [h0] at hkm; exact absurd hkm (by simp)
        have hblt : b < w.heap.size := hc.lt (by intro h; rw [h] at hkl; exact absurd hkl (by simp))
        have hblt2 : b2 < w.heap.size := hd.lt (by intro h; rw [h] at hkm; exact absurd hkm (by simp))
        have hrg := (hc.keep hbl.out hblt).range k hkl
        have hrg2 := (hd.keep hbl.out hblt2).range k hkm
        have e1 : ls.take (k + 1) = ls.take k ++ [ls[k]!] := by rw [List.take_succ_eq_append_getElem hkl, getE ls k hkl]
        have e2 : ms.take (k + 1) = ms.take k ++ [ms[k]!] := by rw [List.take_succ_eq_append_getElem hkm, getE ms k hkm]
        have e3 : ls = ms → ls[k]! = ms[k]! := fun h => by rw [h]
        generalize ls[k]! = x at *
        generalize ms[k]! = y at *
        have hrel2 : wr.drew.rangeAt b (off + k * 32) (encI x) ∧ wr.drew.rangeAt b2 (off2 + k * 32) (encI y) := ⟨hrg, hrg2⟩
        have hiX := HIX.out x
        have hiY := HIY.out y
        have heq := HEQ.out x y
        have E1 := Lib.hid e1; have E2 := Lib.hid e2; have E3 := Lib.hid e3
        have hltI : (k : Int) < (n : Int) := by omega
        clear hrg hrg2 e1 e2 e3 hkl hkm hc hd hblt hblt2
        by_cases hxy : x = y
        · rw [decide_eq_true hxy] at heq
          have HR := Lib.hid (show ls.take (k + 1) = ms.take (k + 1) by rw [E1.out, E2.out, hf.out, hxy])
          clear hxy
          go_wp2_with fail
          refine wp_region_held_drew (S := (fun w' => w'.rangeAt b (off + k * 32) (encI x) ∧ w'.rangeAt b2 (off2 + k * 32) (encI y))) (by kernel_rfl) ?_ (fun hHeld => ?_)
          · exact hrel2
          refine wpAnyH_take (i := 0) (v := ?_) rfl (by kernel_rfl) (by kernel_rfl) (by kernel_rfl) (fun _ _ _ h => h) (Or.inl ⟨by rfl, ?_⟩) (by assumption) ?_
          rotate_left
          · (intro w9 _; go_simp; try with_reducible rfl)
          simp only [Act.put, List.getElem_toArray, List.getElem_cons_zero, List.setIfInBounds_toArray, List.set_cons_succ, List.set_cons_zero]
          refine wpAnyH_take (i := 1) (v := ?_) rfl (by kernel_rfl) (by kernel_rfl) (by kernel_rfl) (fun _ _ _ h => h) (Or.inl ⟨by rfl, ?_⟩) (by assumption) ?_
          rotate_left
          · (intro w9 _; go_simp; try with_reducible rfl)
          simp only [Act.put, List.getElem_toArray, List.getElem_cons_succ, List.getElem_cons_zero, List.setIfInBounds_toArray, List.set_cons_succ, List.set_cons_zero]
          refine wpAnyH_take (i := 2) (v := ?_) rfl (by kernel_rfl) (by kernel_rfl) (by kernel_rfl) (fun _ _ _ h => h) (Or.inl ⟨by rfl, ?_⟩) (by assumption) ?_
          rotate_left
          · (intro w9 _; go_simp; try with_reducible rfl)
          simp only [Act.put, List.getElem_toArray, List.getElem_cons_succ, List.getElem_cons_zero, List.setIfInBounds_toArray, List.set_cons_succ, List.set_cons_zero]
          refine wpAnyH_take (i := 3) (v := .agg (encI x).toArray) rfl (by kernel_rfl) (by kernel_rfl) (by kernel_rfl) (fun _ _ _ h => h) (yieldsIf_load_mid (by rfl) _ _ rfl _ _ rfl (encI x) _ (fun _ h => h.1) Try.underlying46 rfl hiX) (by assumption) ?_
          simp only [Act.put, List.getElem_toArray, List.getElem_cons_succ, List.getElem_cons_zero, List.setIfInBounds_toArray, List.set_cons_succ, List.set_cons_zero]
          refine wpAnyH_take (i := 4) (v := ?_) rfl (by kernel_rfl) (by kernel_rfl) (by kernel_rfl) (fun _ _ _ h => h) (Or.inl ⟨by rfl, ?_⟩) (by assumption) ?_
          rotate_left
          · (intro w9 _; go_simp; try with_reducible rfl)
          simp only [Act.put, List.getElem_toArray, List.getElem_cons_succ, List.getElem_cons_zero, List.setIfInBounds_toArray, List.set_cons_succ, List.set_cons_zero]
          refine wpAnyH_take (i := 5) (v := ?_) rfl (by kernel_rfl) (by kernel_rfl) (by kernel_rfl) (fun _ _ _ h => h) (Or.inl ⟨by rfl, ?_⟩) (by assumption) ?_
          rotate_left
          · (intro w9 _; go_simp; try with_reducible rfl)
          simp only [Act.put, List.getElem_toArray, List.getElem_cons_succ, List.getElem_cons_zero, List.setIfInBounds_toArray, List.set_cons_succ, List.set_cons_zero]
          refine wpAnyH_take (i := 6) (v := ?_) rfl (by kernel_rfl) (by kernel_rfl) (by kernel_rfl) (fun _ _ _ h => h) (Or.inl ⟨by rfl, ?_⟩) (by assumption) ?_
          rotate_left
          · (intro w9 _; go_simp; try with_reducible rfl)
          simp only [Act.put, List.getElem_toArray, List.getElem_cons_succ, List.getElem_cons_zero, List.setIfInBounds_toArray, List.set_cons_succ, List.set_cons_zero]
          refine wpAnyH_take (i := 7) (v := .agg (encI y).toArray) rfl (by kernel_rfl) (by kernel_rfl) (by kernel_rfl) (fun _ _ _ h => h) (yieldsIf_load_mid (by rfl) _ _ rfl _ _ rfl (encI y) _ (fun _ h => h.2) Try.underlying48 rfl hiY) (by assumption) ?_
          simp only [Act.put, List.getElem_toArray, List.getElem_cons_succ, List.getElem_cons_zero, List.setIfInBounds_toArray, List.set_cons_succ, List.set_cons_zero]
          refine wpAnyH_take (i := 8) (v := ?_) rfl (by kernel_rfl) (by kernel_rfl) (by kernel_rfl) (fun _ _ _ h => h) (Or.inl ⟨by rfl, ?_⟩) (by assumption) ?_
          rotate_left
          · (intro w9 _; go_simp; try with_reducible rfl)
          simp only [Act.put, List.getElem_toArray, List.getElem_cons_succ, List.getElem_cons_zero, List.setIfInBounds_toArray, List.set_cons_succ, List.set_cons_zero]
          refine wpAnyH_done (by kernel_rfl) ?_ _
          go_wp2_with fail
          go_roundw
          case rel => exact ⟨k + 1, by go_num, hlt, HR, Lib.hid hbl.out.drew⟩
          case measure => simp [intOf]; omega
        · rw [decide_eq_false hxy] at heq
          have HR := Lib.hid (decide_eq_false (fun h => hxy (E3.out h)))
          clear hxy
          go_wp2_with fail
          refine wp_region_held_drew (S := (fun w' => w'.rangeAt b (off + k * 32) (encI x) ∧ w'.rangeAt b2 (off2 + k * 32) (encI y))) (by kernel_rfl) ?_ (fun hHeld => ?_)
          · exact hrel2
          refine wpAnyH_take (i := 0) (v := ?_) rfl (by kernel_rfl) (by kernel_rfl) (by kernel_rfl) (fun _ _ _ h => h) (Or.inl ⟨by rfl, ?_⟩) (by assumption) ?_
          rotate_left
          · (intro w9 _; go_simp; try with_reducible rfl)
          simp only [Act.put, List.getElem_toArray, List.getElem_cons_zero, List.setIfInBounds_toArray, List.set_cons_succ, List.set_cons_zero]
          refine wpAnyH_take (i := 1) (v := ?_) rfl (by kernel_rfl) (by kernel_rfl) (by kernel_rfl) (fun _ _ _ h => h) (Or.inl ⟨by rfl, ?_⟩) (by assumption) ?_
          rotate_left
          · (intro w9 _; go_simp; try with_reducible rfl)
          simp only [Act.put, List.getElem_toArray, List.getElem_cons_succ, List.getElem_cons_zero, List.setIfInBounds_toArray, List.set_cons_succ, List.set_cons_zero]
          refine wpAnyH_take (i := 2) (v := ?_) rfl (by kernel_rfl) (by kernel_rfl) (by kernel_rfl) (fun _ _ _ h => h) (Or.inl ⟨by rfl, ?_⟩) (by assumption) ?_
          rotate_left
          · (intro w9 _; go_simp; try with_reducible rfl)
          simp only [Act.put, List.getElem_toArray, List.getElem_cons_succ, List.getElem_cons_zero, List.setIfInBounds_toArray, List.set_cons_succ, List.set_cons_zero]
          refine wpAnyH_take (i := 3) (v := .agg (encI x).toArray) rfl (by kernel_rfl) (by kernel_rfl) (by kernel_rfl) (fun _ _ _ h => h) (yieldsIf_load_mid (by rfl) _ _ rfl _ _ rfl (encI x) _ (fun _ h => h.1) Try.underlying46 rfl hiX) (by assumption) ?_
          simp only [Act.put, List.getElem_toArray, List.getElem_cons_succ, List.getElem_cons_zero, List.setIfInBounds_toArray, List.set_cons_succ, List.set_cons_zero]
          refine wpAnyH_take (i := 4) (v := ?_) rfl (by kernel_rfl) (by kernel_rfl) (by kernel_rfl) (fun _ _ _ h => h) (Or.inl ⟨by rfl, ?_⟩) (by assumption) ?_
          rotate_left
          · (intro w9 _; go_simp; try with_reducible rfl)
          simp only [Act.put, List.getElem_toArray, List.getElem_cons_succ, List.getElem_cons_zero, List.setIfInBounds_toArray, List.set_cons_succ, List.set_cons_zero]
          refine wpAnyH_take (i := 5) (v := ?_) rfl (by kernel_rfl) (by kernel_rfl) (by kernel_rfl) (fun _ _ _ h => h) (Or.inl ⟨by rfl, ?_⟩) (by assumption) ?_
          rotate_left
          · (intro w9 _; go_simp; try with_reducible rfl)
          simp only [Act.put, List.getElem_toArray, List.getElem_cons_succ, List.getElem_cons_zero, List.setIfInBounds_toArray, List.set_cons_succ, List.set_cons_zero]
          refine wpAnyH_take (i := 6) (v := ?_) rfl (by kernel_rfl) (by kernel_rfl) (by kernel_rfl) (fun _ _ _ h => h) (Or.inl ⟨by rfl, ?_⟩) (by assumption) ?_
          rotate_left
          · (intro w9 _; go_simp; try with_reducible rfl)
          simp only [Act.put, List.getElem_toArray, List.getElem_cons_succ, List.getElem_cons_zero, List.setIfInBounds_toArray, List.set_cons_succ, List.set_cons_zero]
          refine wpAnyH_take (i := 7) (v := .agg (encI y).toArray) rfl (by kernel_rfl) (by kernel_rfl) (by kernel_rfl) (fun _ _ _ h => h) (yieldsIf_load_mid (by rfl) _ _ rfl _ _ rfl (encI y) _ (fun _ h => h.2) Try.underlying48 rfl hiY) (by assumption) ?_
          simp only [Act.put, List.getElem_toArray, List.getElem_cons_succ, List.getElem_cons_zero, List.setIfInBounds_toArray, List.set_cons_succ, List.set_cons_zero]
          refine wpAnyH_take (i := 8) (v := ?_) rfl (by kernel_rfl) (by kernel_rfl) (by kernel_rfl) (fun _ _ _ h => h) (Or.inl ⟨by rfl, ?_⟩) (by assumption) ?_
          rotate_left
          · (intro w9 _; go_simp; try with_reducible rfl)
          simp only [Act.put, List.getElem_toArray, List.getElem_cons_succ, List.getElem_cons_zero, List.setIfInBounds_toArray, List.set_cons_succ, List.set_cons_zero]
          refine wpAnyH_done (by kernel_rfl) ?_ _
          go_wp2_with fail
          go_ret
          exact ⟨ret_bool HR.out.symm, hbl.out.drew⟩
      · have HR := Lib.hid (show decide (ls = ms) = true from decide_eq_true (by
          have h := hf.out
          rwa [List.take_of_length_le (by rw [← HN.out]; omega), List.take_of_length_le (by rw [← HM.out]; omega)] at h))
        go_wp2_with fail
        go_ret
        exact ⟨ret_bool HR.out.symm, hbl.out⟩
  · have HR := Lib.hid (show decide (ls = ms) = false from decide_eq_false (fun h => hlm (by rw [h])))
    obtain ⟨n, hnn⟩ : ∃ n, n = ls.length := ⟨_, rfl⟩
    obtain ⟨m, hmm⟩ : ∃ m, m = ms.length := ⟨_, rfl⟩
    rw [← hnn, ← hmm] at hlm ⊢
    have hI : ¬ (n : Int) = (m : Int) := by omega
    clear hnn hmm hcells hdells hlc hld hcm hdm
    go_enter Try.func19, Try.ntmps19
    go_wp2_with fail
    go_ret
    exact ⟨ret_bool HR.out.symm, Below.refl _ _⟩

set_option maxRecDepth 100000 in
set_option maxHeartbeats 1000000 in
theorem refSame_any (v u : Value) (ls ms : List Mid.Id) (w : World) (hv : Ids w v ls) (hu : Ids w u ms) :
    Calls Try.prog 51 #[v, u] w fun e w' => e = .returned (.bool (decide (ls = ms))) ∧ Below w.heap.size w w' := by
  obtain ⟨ad, cap, rfl, hlc, hcm, _, hcells⟩ := hv
  obtain ⟨bd, dap, rfl, hld, hdm, _, hdells⟩ := hu
  unfold maxLen at hcm hdm
  by_cases hlm : ls.length = ms.length
  · obtain ⟨n, hnn⟩ : ∃ n, n = ls.length := ⟨_, rfl⟩
    have hmm : n = ms.length := by omega
    rw [← hnn, ← hmm]
    have hnI : (n : Int) ≤ 9223372036854775807 := by omega
    have HN := Lib.hid hnn; have HM := Lib.hid hmm; have HCL := Lib.hid hcells; have HDL := Lib.hid hdells
    have HIX := Lib.hid (fun x => info_enc infoRid x); have HIY := Lib.hid (fun x => info_enc infoRid x)
    have HEQ := Lib.hid (fun x y w => eq_enc (t := 48) Try.underlying48 x y w)
    clear hnn hmm hcells hdells hlc hld hcm hdm hlm
    go_enter Try.func51, Try.ntmps51
    go_wp2_with fail
    go_loopw [5] (fun i wr => ∃ k : Nat, i = .int .i64 k ∧ k ≤ n ∧ Hid (ls.take k = ms.take k) ∧ Hid (Below w.heap.size w wr)) (fun i _ => n - (intOf i).toNat)
    case atStart => exact ⟨0, rfl, Nat.zero_le _, Lib.hid rfl, Lib.hid (Below.refl _ w)⟩
    case round =>
      obtain ⟨k, rfl, hk, hf, hbl⟩ := hrel
      by_cases hlt : k < n
      · have hkl : k < ls.length := by rw [← HN.out]; exact hlt
        have hkm : k < ms.length := by rw [← HM.out]; exact hlt
        rcases HCL.out with h0 | ⟨b, off, rfl, hc⟩
        · rw [h0] at hkl; exact absurd hkl (by simp)
        rcases HDL.out with h0 | ⟨b2, off2, rfl, hd⟩
        · rw [h0] at hkm; exact absurd hkm (by simp)
        have hblt : b < w.heap.size := hc.lt (by intro h; rw [h] at hkl; exact absurd hkl (by simp))
        have hblt2 : b2 < w.heap.size := hd.lt (by intro h; rw [h] at hkm; exact absurd hkm (by simp))
        have hrg := (hc.keep hbl.out hblt).range k hkl
        have hrg2 := (hd.keep hbl.out hblt2).range k hkm
        have e1 : ls.take (k + 1) = ls.take k ++ [ls[k]!] := by rw [List.take_succ_eq_append_getElem hkl, getE ls k hkl]
        have e2 : ms.take (k + 1) = ms.take k ++ [ms[k]!] := by rw [List.take_succ_eq_append_getElem hkm, getE ms k hkm]
        have e3 : ls = ms → ls[k]! = ms[k]! := fun h => by rw [h]
        generalize ls[k]! = x at *
        generalize ms[k]! = y at *
        have hrel2 : wr.drew.rangeAt b (off + k * 32) (encI x) ∧ wr.drew.rangeAt b2 (off2 + k * 32) (encI y) := ⟨hrg, hrg2⟩
        have hiX := HIX.out x
        have hiY := HIY.out y
        have heq := HEQ.out x y
        have E1 := Lib.hid e1; have E2 := Lib.hid e2; have E3 := Lib.hid e3
        have hltI : (k : Int) < (n : Int) := by omega
        clear hrg hrg2 e1 e2 e3 hkl hkm hc hd hblt hblt2
        by_cases hxy : x = y
        · rw [decide_eq_true hxy] at heq
          have HR := Lib.hid (show ls.take (k + 1) = ms.take (k + 1) by rw [E1.out, E2.out, hf.out, hxy])
          clear hxy
          go_wp2_with fail
          refine wp_region_held_drew (S := (fun w' => w'.rangeAt b (off + k * 32) (encI x) ∧ w'.rangeAt b2 (off2 + k * 32) (encI y))) (by kernel_rfl) ?_ (fun hHeld => ?_)
          · exact hrel2
          refine wpAnyH_take (i := 0) (v := ?_) rfl (by kernel_rfl) (by kernel_rfl) (by kernel_rfl) (fun _ _ _ h => h) (Or.inl ⟨by rfl, ?_⟩) (by assumption) ?_
          rotate_left
          · (intro w9 _; go_simp; try with_reducible rfl)
          simp only [Act.put, List.getElem_toArray, List.getElem_cons_zero, List.setIfInBounds_toArray, List.set_cons_succ, List.set_cons_zero]
          refine wpAnyH_take (i := 1) (v := ?_) rfl (by kernel_rfl) (by kernel_rfl) (by kernel_rfl) (fun _ _ _ h => h) (Or.inl ⟨by rfl, ?_⟩) (by assumption) ?_
          rotate_left
          · (intro w9 _; go_simp; try with_reducible rfl)
          simp only [Act.put, List.getElem_toArray, List.getElem_cons_succ, List.getElem_cons_zero, List.setIfInBounds_toArray, List.set_cons_succ, List.set_cons_zero]
          refine wpAnyH_take (i := 2) (v := ?_) rfl (by kernel_rfl) (by kernel_rfl) (by kernel_rfl) (fun _ _ _ h => h) (Or.inl ⟨by rfl, ?_⟩) (by assumption) ?_
          rotate_left
          · (intro w9 _; go_simp; try with_reducible rfl)
          simp only [Act.put, List.getElem_toArray, List.getElem_cons_succ, List.getElem_cons_zero, List.setIfInBounds_toArray, List.set_cons_succ, List.set_cons_zero]
          refine wpAnyH_take (i := 3) (v := .agg (encI x).toArray) rfl (by kernel_rfl) (by kernel_rfl) (by kernel_rfl) (fun _ _ _ h => h) (yieldsIf_load_mid (by rfl) _ _ rfl _ _ rfl (encI x) _ (fun _ h => h.1) Try.underlying48 rfl hiX) (by assumption) ?_
          simp only [Act.put, List.getElem_toArray, List.getElem_cons_succ, List.getElem_cons_zero, List.setIfInBounds_toArray, List.set_cons_succ, List.set_cons_zero]
          refine wpAnyH_take (i := 4) (v := ?_) rfl (by kernel_rfl) (by kernel_rfl) (by kernel_rfl) (fun _ _ _ h => h) (Or.inl ⟨by rfl, ?_⟩) (by assumption) ?_
          rotate_left
          · (intro w9 _; go_simp; try with_reducible rfl)
          simp only [Act.put, List.getElem_toArray, List.getElem_cons_succ, List.getElem_cons_zero, List.setIfInBounds_toArray, List.set_cons_succ, List.set_cons_zero]
          refine wpAnyH_take (i := 5) (v := ?_) rfl (by kernel_rfl) (by kernel_rfl) (by kernel_rfl) (fun _ _ _ h => h) (Or.inl ⟨by rfl, ?_⟩) (by assumption) ?_
          rotate_left
          · (intro w9 _; go_simp; try with_reducible rfl)
          simp only [Act.put, List.getElem_toArray, List.getElem_cons_succ, List.getElem_cons_zero, List.setIfInBounds_toArray, List.set_cons_succ, List.set_cons_zero]
          refine wpAnyH_take (i := 6) (v := ?_) rfl (by kernel_rfl) (by kernel_rfl) (by kernel_rfl) (fun _ _ _ h => h) (Or.inl ⟨by rfl, ?_⟩) (by assumption) ?_
          rotate_left
          · (intro w9 _; go_simp; try with_reducible rfl)
          simp only [Act.put, List.getElem_toArray, List.getElem_cons_succ, List.getElem_cons_zero, List.setIfInBounds_toArray, List.set_cons_succ, List.set_cons_zero]
          refine wpAnyH_take (i := 7) (v := .agg (encI y).toArray) rfl (by kernel_rfl) (by kernel_rfl) (by kernel_rfl) (fun _ _ _ h => h) (yieldsIf_load_mid (by rfl) _ _ rfl _ _ rfl (encI y) _ (fun _ h => h.2) Try.underlying48 rfl hiY) (by assumption) ?_
          simp only [Act.put, List.getElem_toArray, List.getElem_cons_succ, List.getElem_cons_zero, List.setIfInBounds_toArray, List.set_cons_succ, List.set_cons_zero]
          refine wpAnyH_take (i := 8) (v := ?_) rfl (by kernel_rfl) (by kernel_rfl) (by kernel_rfl) (fun _ _ _ h => h) (Or.inl ⟨by rfl, ?_⟩) (by assumption) ?_
          rotate_left
          · (intro w9 _; go_simp; try with_reducible rfl)
          simp only [Act.put, List.getElem_toArray, List.getElem_cons_succ, List.getElem_cons_zero, List.setIfInBounds_toArray, List.set_cons_succ, List.set_cons_zero]
          refine wpAnyH_done (by kernel_rfl) ?_ _
          go_wp2_with fail
          go_roundw
          case rel => exact ⟨k + 1, by go_num, hlt, HR, Lib.hid hbl.out.drew⟩
          case measure => simp [intOf]; omega
        · rw [decide_eq_false hxy] at heq
          have HR := Lib.hid (decide_eq_false (fun h => hxy (E3.out h)))
          clear hxy
          go_wp2_with fail
          refine wp_region_held_drew (S := (fun w' => w'.rangeAt b (off + k * 32) (encI x) ∧ w'.rangeAt b2 (off2 + k * 32) (encI y))) (by kernel_rfl) ?_ (fun hHeld => ?_)
          · exact hrel2
          refine wpAnyH_take (i := 0) (v := ?_) rfl (by kernel_rfl) (by kernel_rfl) (by kernel_rfl) (fun _ _ _ h => h) (Or.inl ⟨by rfl, ?_⟩) (by assumption) ?_
          rotate_left
          · (intro w9 _; go_simp; try with_reducible rfl)
          simp only [Act.put, List.getElem_toArray, List.getElem_cons_zero, List.setIfInBounds_toArray, List.set_cons_succ, List.set_cons_zero]
          refine wpAnyH_take (i := 1) (v := ?_) rfl (by kernel_rfl) (by kernel_rfl) (by kernel_rfl) (fun _ _ _ h => h) (Or.inl ⟨by rfl, ?_⟩) (by assumption) ?_
          rotate_left
          · (intro w9 _; go_simp; try with_reducible rfl)
          simp only [Act.put, List.getElem_toArray, List.getElem_cons_succ, List.getElem_cons_zero, List.setIfInBounds_toArray, List.set_cons_succ, List.set_cons_zero]
          refine wpAnyH_take (i := 2) (v := ?_) rfl (by kernel_rfl) (by kernel_rfl) (by kernel_rfl) (fun _ _ _ h => h) (Or.inl ⟨by rfl, ?_⟩) (by assumption) ?_
          rotate_left
          · (intro w9 _; go_simp; try with_reducible rfl)
          simp only [Act.put, List.getElem_toArray, List.getElem_cons_succ, List.getElem_cons_zero, List.setIfInBounds_toArray, List.set_cons_succ, List.set_cons_zero]
          refine wpAnyH_take (i := 3) (v := .agg (encI x).toArray) rfl (by kernel_rfl) (by kernel_rfl) (by kernel_rfl) (fun _ _ _ h => h) (yieldsIf_load_mid (by rfl) _ _ rfl _ _ rfl (encI x) _ (fun _ h => h.1) Try.underlying48 rfl hiX) (by assumption) ?_
          simp only [Act.put, List.getElem_toArray, List.getElem_cons_succ, List.getElem_cons_zero, List.setIfInBounds_toArray, List.set_cons_succ, List.set_cons_zero]
          refine wpAnyH_take (i := 4) (v := ?_) rfl (by kernel_rfl) (by kernel_rfl) (by kernel_rfl) (fun _ _ _ h => h) (Or.inl ⟨by rfl, ?_⟩) (by assumption) ?_
          rotate_left
          · (intro w9 _; go_simp; try with_reducible rfl)
          simp only [Act.put, List.getElem_toArray, List.getElem_cons_succ, List.getElem_cons_zero, List.setIfInBounds_toArray, List.set_cons_succ, List.set_cons_zero]
          refine wpAnyH_take (i := 5) (v := ?_) rfl (by kernel_rfl) (by kernel_rfl) (by kernel_rfl) (fun _ _ _ h => h) (Or.inl ⟨by rfl, ?_⟩) (by assumption) ?_
          rotate_left
          · (intro w9 _; go_simp; try with_reducible rfl)
          simp only [Act.put, List.getElem_toArray, List.getElem_cons_succ, List.getElem_cons_zero, List.setIfInBounds_toArray, List.set_cons_succ, List.set_cons_zero]
          refine wpAnyH_take (i := 6) (v := ?_) rfl (by kernel_rfl) (by kernel_rfl) (by kernel_rfl) (fun _ _ _ h => h) (Or.inl ⟨by rfl, ?_⟩) (by assumption) ?_
          rotate_left
          · (intro w9 _; go_simp; try with_reducible rfl)
          simp only [Act.put, List.getElem_toArray, List.getElem_cons_succ, List.getElem_cons_zero, List.setIfInBounds_toArray, List.set_cons_succ, List.set_cons_zero]
          refine wpAnyH_take (i := 7) (v := .agg (encI y).toArray) rfl (by kernel_rfl) (by kernel_rfl) (by kernel_rfl) (fun _ _ _ h => h) (yieldsIf_load_mid (by rfl) _ _ rfl _ _ rfl (encI y) _ (fun _ h => h.2) Try.underlying48 rfl hiY) (by assumption) ?_
          simp only [Act.put, List.getElem_toArray, List.getElem_cons_succ, List.getElem_cons_zero, List.setIfInBounds_toArray, List.set_cons_succ, List.set_cons_zero]
          refine wpAnyH_take (i := 8) (v := ?_) rfl (by kernel_rfl) (by kernel_rfl) (by kernel_rfl) (fun _ _ _ h => h) (Or.inl ⟨by rfl, ?_⟩) (by assumption) ?_
          rotate_left
          · (intro w9 _; go_simp; try with_reducible rfl)
          simp only [Act.put, List.getElem_toArray, List.getElem_cons_succ, List.getElem_cons_zero, List.setIfInBounds_toArray, List.set_cons_succ, List.set_cons_zero]
          refine wpAnyH_done (by kernel_rfl) ?_ _
          go_wp2_with fail
          go_ret
          exact ⟨ret_bool HR.out.symm, hbl.out.drew⟩
      · have HR := Lib.hid (show decide (ls = ms) = true from decide_eq_true (by
          have h := hf.out
          rwa [List.take_of_length_le (by rw [← HN.out]; omega), List.take_of_length_le (by rw [← HM.out]; omega)] at h))
        go_wp2_with fail
        go_ret
        exact ⟨ret_bool HR.out.symm, hbl.out⟩
  · have HR := Lib.hid (show decide (ls = ms) = false from decide_eq_false (fun h => hlm (by rw [h])))
    obtain ⟨n, hnn⟩ : ∃ n, n = ls.length := ⟨_, rfl⟩
    obtain ⟨m, hmm⟩ : ∃ m, m = ms.length := ⟨_, rfl⟩
    rw [← hnn, ← hmm] at hlm ⊢
    have hI : ¬ (n : Int) = (m : Int) := by omega
    clear hnn hmm hcells hdells hlc hld hcm hdm
    go_enter Try.func51, Try.ntmps51
    go_wp2_with fail
    go_ret
    exact ⟨ret_bool HR.out.symm, Below.refl _ _⟩

set_option maxRecDepth 100000 in
set_option maxHeartbeats 1000000 in
theorem equal_any (v u : Value) (ls ms : List Mid.Id) (w : World) (hv : Ids w v ls) (hu : Ids w u ms) :
    Calls Try.prog 50 #[v, u] w fun e w' => e = .returned (.bool (decide (ls = ms))) ∧ Below w.heap.size w w' := by
  obtain ⟨ad, cap, rfl, hlc, hcm, _, hcells⟩ := hv
  obtain ⟨bd, dap, rfl, hld, hdm, _, hdells⟩ := hu
  unfold maxLen at hcm hdm
  by_cases hlm : ls.length = ms.length
  · obtain ⟨n, hnn⟩ : ∃ n, n = ls.length := ⟨_, rfl⟩
    have hmm : n = ms.length := by omega
    rw [← hnn, ← hmm]
    have hnI : (n : Int) ≤ 9223372036854775807 := by omega
    have HN := Lib.hid hnn; have HM := Lib.hid hmm; have HCL := Lib.hid hcells; have HDL := Lib.hid hdells
    have HIX := Lib.hid (fun x => info_enc infoId x); have HIY := Lib.hid (fun x => info_enc infoId x)
    have HEQ := Lib.hid (fun x y w => eq_enc (t := 46) Try.underlying46 x y w)
    clear hnn hmm hcells hdells hlc hld hcm hdm hlm
    go_enter Try.func50, Try.ntmps50
    go_wp2_with fail
    go_loopw [13] (fun i wr => ∃ k : Nat, i = .int .i64 k ∧ k ≤ n ∧ Hid (ls.take k = ms.take k) ∧ Hid (Below w.heap.size w wr)) (fun i _ => n - (intOf i).toNat)
    case atStart => exact ⟨0, rfl, Nat.zero_le _, Lib.hid rfl, Lib.hid (Below.refl _ w)⟩
    case round =>
      obtain ⟨k, rfl, hk, hf, hbl⟩ := hrel
      by_cases hlt : k < n
      · have hkl : k < ls.length := by rw [← HN.out]; exact hlt
        have hkm : k < ms.length := by rw [← HM.out]; exact hlt
        rcases HCL.out with h0 | ⟨b, off, rfl, hc⟩
        · rw [h0] at hkl; exact absurd hkl (by simp)
        rcases HDL.out with h0 | ⟨b2, off2, rfl, hd⟩
        · rw [h0] at hkm; exact absurd hkm (by simp)
        have hblt : b < w.heap.size := hc.lt (by intro h; rw [h] at hkl; exact absurd hkl (by simp))
        have hblt2 : b2 < w.heap.size := hd.lt (by intro h; rw [h] at hkm; exact absurd hkm (by simp))
        have hrg := (hc.keep hbl.out hblt).range k hkl
        have hrg2 := (hd.keep hbl.out hblt2).range k hkm
        have e1 : ls.take (k + 1) = ls.take k ++ [ls[k]!] := by rw [List.take_succ_eq_append_getElem hkl, getE ls k hkl]
        have e2 : ms.take (k + 1) = ms.take k ++ [ms[k]!] := by rw [List.take_succ_eq_append_getElem hkm, getE ms k hkm]
        have e3 : ls = ms → ls[k]! = ms[k]! := fun h => by rw [h]
        generalize ls[k]! = x at *
        generalize ms[k]! = y at *
        have hrel2 : wr.drew.rangeAt b (off + k * 32) (encI x) ∧ wr.drew.rangeAt b2 (off2 + k * 32) (encI y) := ⟨hrg, hrg2⟩
        have hiX := HIX.out x
        have hiY := HIY.out y
        have heq := HEQ.out x y
        have E1 := Lib.hid e1; have E2 := Lib.hid e2; have E3 := Lib.hid e3
        have hltI : (k : Int) < (n : Int) := by omega
        clear hrg hrg2 e1 e2 e3 hkl hkm hc hd hblt hblt2
        by_cases hxy : x = y
        · rw [decide_eq_true hxy] at heq
          have HR := Lib.hid (show ls.take (k + 1) = ms.take (k + 1) by rw [E1.out, E2.out, hf.out, hxy])
          clear hxy
          go_wp2_with fail
          refine wp_region_held_drew (S := (fun w' => w'.rangeAt b (off + k * 32) (encI x) ∧ w'.rangeAt b2 (off2 + k * 32) (encI y))) (by kernel_rfl) ?_ (fun hHeld => ?_)
          · exact hrel2
          refine wpAnyH_take (i := 0) (v := ?_) rfl (by kernel_rfl) (by kernel_rfl) (by kernel_rfl) (fun _ _ _ h => h) (Or.inl ⟨by rfl, ?_⟩) (by assumption) ?_
          rotate_left
          · (intro w9 _; go_simp; try with_reducible rfl)
          simp only [Act.put, List.getElem_toArray, List.getElem_cons_zero, List.setIfInBounds_toArray, List.set_cons_succ, List.set_cons_zero]
          refine wpAnyH_take (i := 1) (v := ?_) rfl (by kernel_rfl) (by kernel_rfl) (by kernel_rfl) (fun _ _ _ h => h) (Or.inl ⟨by rfl, ?_⟩) (by assumption) ?_
          rotate_left
          · (intro w9 _; go_simp; try with_reducible rfl)
          simp only [Act.put, List.getElem_toArray, List.getElem_cons_succ, List.getElem_cons_zero, List.setIfInBounds_toArray, List.set_cons_succ, List.set_cons_zero]
          refine wpAnyH_take (i := 2) (v := ?_) rfl (by kernel_rfl) (by kernel_rfl) (by kernel_rfl) (fun _ _ _ h => h) (Or.inl ⟨by rfl, ?_⟩) (by assumption) ?_
          rotate_left
          · (intro w9 _; go_simp; try with_reducible rfl)
          simp only [Act.put, List.getElem_toArray, List.getElem_cons_succ, List.getElem_cons_zero, List.setIfInBounds_toArray, List.set_cons_succ, List.set_cons_zero]
          refine wpAnyH_take (i := 3) (v := .agg (encI x).toArray) rfl (by kernel_rfl) (by kernel_rfl) (by kernel_rfl) (fun _ _ _ h => h) (yieldsIf_load_mid (by rfl) _ _ rfl _ _ rfl (encI x) _ (fun _ h => h.1) Try.underlying46 rfl hiX) (by assumption) ?_
          simp only [Act.put, List.getElem_toArray, List.getElem_cons_succ, List.getElem_cons_zero, List.setIfInBounds_toArray, List.set_cons_succ, List.set_cons_zero]
          refine wpAnyH_take (i := 4) (v := ?_) rfl (by kernel_rfl) (by kernel_rfl) (by kernel_rfl) (fun _ _ _ h => h) (Or.inl ⟨by rfl, ?_⟩) (by assumption) ?_
          rotate_left
          · (intro w9 _; go_simp; try with_reducible rfl)
          simp only [Act.put, List.getElem_toArray, List.getElem_cons_succ, List.getElem_cons_zero, List.setIfInBounds_toArray, List.set_cons_succ, List.set_cons_zero]
          refine wpAnyH_take (i := 5) (v := ?_) rfl (by kernel_rfl) (by kernel_rfl) (by kernel_rfl) (fun _ _ _ h => h) (Or.inl ⟨by rfl, ?_⟩) (by assumption) ?_
          rotate_left
          · (intro w9 _; go_simp; try with_reducible rfl)
          simp only [Act.put, List.getElem_toArray, List.getElem_cons_succ, List.getElem_cons_zero, List.setIfInBounds_toArray, List.set_cons_succ, List.set_cons_zero]
          refine wpAnyH_take (i := 6) (v := ?_) rfl (by kernel_rfl) (by kernel_rfl) (by kernel_rfl) (fun _ _ _ h => h) (Or.inl ⟨by rfl, ?_⟩) (by assumption) ?_
          rotate_left
          · (intro w9 _; go_simp; try with_reducible rfl)
          simp only [Act.put, List.getElem_toArray, List.getElem_cons_succ, List.getElem_cons_zero, List.setIfInBounds_toArray, List.set_cons_succ, List.set_cons_zero]
          refine wpAnyH_take (i := 7) (v := .agg (encI y).toArray) rfl (by kernel_rfl) (by kernel_rfl) (by kernel_rfl) (fun _ _ _ h => h) (yieldsIf_load_mid (by rfl) _ _ rfl _ _ rfl (encI y) _ (fun _ h => h.2) Try.underlying46 rfl hiY) (by assumption) ?_
          simp only [Act.put, List.getElem_toArray, List.getElem_cons_succ, List.getElem_cons_zero, List.setIfInBounds_toArray, List.set_cons_succ, List.set_cons_zero]
          refine wpAnyH_take (i := 8) (v := ?_) rfl (by kernel_rfl) (by kernel_rfl) (by kernel_rfl) (fun _ _ _ h => h) (Or.inl ⟨by rfl, ?_⟩) (by assumption) ?_
          rotate_left
          · (intro w9 _; go_simp; try with_reducible rfl)
          simp only [Act.put, List.getElem_toArray, List.getElem_cons_succ, List.getElem_cons_zero, List.setIfInBounds_toArray, List.set_cons_succ, List.set_cons_zero]
          refine wpAnyH_done (by kernel_rfl) ?_ _
          go_wp2_with fail
          go_roundw
          case rel => exact ⟨k + 1, by go_num, hlt, HR, Lib.hid hbl.out.drew⟩
          case measure => simp [intOf]; omega
        · rw [decide_eq_false hxy] at heq
          have HR := Lib.hid (decide_eq_false (fun h => hxy (E3.out h)))
          clear hxy
          go_wp2_with fail
          refine wp_region_held_drew (S := (fun w' => w'.rangeAt b (off + k * 32) (encI x) ∧ w'.rangeAt b2 (off2 + k * 32) (encI y))) (by kernel_rfl) ?_ (fun hHeld => ?_)
          · exact hrel2
          refine wpAnyH_take (i := 0) (v := ?_) rfl (by kernel_rfl) (by kernel_rfl) (by kernel_rfl) (fun _ _ _ h => h) (Or.inl ⟨by rfl, ?_⟩) (by assumption) ?_
          rotate_left
          · (intro w9 _; go_simp; try with_reducible rfl)
          simp only [Act.put, List.getElem_toArray, List.getElem_cons_zero, List.setIfInBounds_toArray, List.set_cons_succ, List.set_cons_zero]
          refine wpAnyH_take (i := 1) (v := ?_) rfl (by kernel_rfl) (by kernel_rfl) (by kernel_rfl) (fun _ _ _ h => h) (Or.inl ⟨by rfl, ?_⟩) (by assumption) ?_
          rotate_left
          · (intro w9 _; go_simp; try with_reducible rfl)
          simp only [Act.put, List.getElem_toArray, List.getElem_cons_succ, List.getElem_cons_zero, List.setIfInBounds_toArray, List.set_cons_succ, List.set_cons_zero]
          refine wpAnyH_take (i := 2) (v := ?_) rfl (by kernel_rfl) (by kernel_rfl) (by kernel_rfl) (fun _ _ _ h => h) (Or.inl ⟨by rfl, ?_⟩) (by assumption) ?_
          rotate_left
          · (intro w9 _; go_simp; try with_reducible rfl)
          simp only [Act.put, List.getElem_toArray, List.getElem_cons_succ, List.getElem_cons_zero, List.setIfInBounds_toArray, List.set_cons_succ, List.set_cons_zero]
          refine wpAnyH_take (i := 3) (v := .agg (encI x).toArray) rfl (by kernel_rfl) (by kernel_rfl) (by kernel_rfl) (fun _ _ _ h => h) (yieldsIf_load_mid (by rfl) _ _ rfl _ _ rfl (encI x) _ (fun _ h => h.1) Try.underlying46 rfl hiX) (by assumption) ?_
          simp only [Act.put, List.getElem_toArray, List.getElem_cons_succ, List.getElem_cons_zero, List.setIfInBounds_toArray, List.set_cons_succ, List.set_cons_zero]
          refine wpAnyH_take (i := 4) (v := ?_) rfl (by kernel_rfl) (by kernel_rfl) (by kernel_rfl) (fun _ _ _ h => h) (Or.inl ⟨by rfl, ?_⟩) (by assumption) ?_
          rotate_left
          · (intro w9 _; go_simp; try with_reducible rfl)
          simp only [Act.put, List.getElem_toArray, List.getElem_cons_succ, List.getElem_cons_zero, List.setIfInBounds_toArray, List.set_cons_succ, List.set_cons_zero]
          refine wpAnyH_take (i := 5) (v := ?_) rfl (by kernel_rfl) (by kernel_rfl) (by kernel_rfl) (fun _ _ _ h => h) (Or.inl ⟨by rfl, ?_⟩) (by assumption) ?_
          rotate_left
          · (intro w9 _; go_simp; try with_reducible rfl)
          simp only [Act.put, List.getElem_toArray, List.getElem_cons_succ, List.getElem_cons_zero, List.setIfInBounds_toArray, List.set_cons_succ, List.set_cons_zero]
          refine wpAnyH_take (i := 6) (v := ?_) rfl (by kernel_rfl) (by kernel_rfl) (by kernel_rfl) (fun _ _ _ h => h) (Or.inl ⟨by rfl, ?_⟩) (by assumption) ?_
          rotate_left
          · (intro w9 _; go_simp; try with_reducible rfl)
          simp only [Act.put, List.getElem_toArray, List.getElem_cons_succ, List.getElem_cons_zero, List.setIfInBounds_toArray, List.set_cons_succ, List.set_cons_zero]
          refine wpAnyH_take (i := 7) (v := .agg (encI y).toArray) rfl (by kernel_rfl) (by kernel_rfl) (by kernel_rfl) (fun _ _ _ h => h) (yieldsIf_load_mid (by rfl) _ _ rfl _ _ rfl (encI y) _ (fun _ h => h.2) Try.underlying46 rfl hiY) (by assumption) ?_
          simp only [Act.put, List.getElem_toArray, List.getElem_cons_succ, List.getElem_cons_zero, List.setIfInBounds_toArray, List.set_cons_succ, List.set_cons_zero]
          refine wpAnyH_take (i := 8) (v := ?_) rfl (by kernel_rfl) (by kernel_rfl) (by kernel_rfl) (fun _ _ _ h => h) (Or.inl ⟨by rfl, ?_⟩) (by assumption) ?_
          rotate_left
          · (intro w9 _; go_simp; try with_reducible rfl)
          simp only [Act.put, List.getElem_toArray, List.getElem_cons_succ, List.getElem_cons_zero, List.setIfInBounds_toArray, List.set_cons_succ, List.set_cons_zero]
          refine wpAnyH_done (by kernel_rfl) ?_ _
          go_wp2_with fail
          go_ret
          exact ⟨ret_bool HR.out.symm, hbl.out.drew⟩
      · have HR := Lib.hid (show decide (ls = ms) = true from decide_eq_true (by
          have h := hf.out
          rwa [List.take_of_length_le (by rw [← HN.out]; omega), List.take_of_length_le (by rw [← HM.out]; omega)] at h))
        go_wp2_with fail
        go_ret
        exact ⟨ret_bool HR.out.symm, hbl.out⟩
  · have HR := Lib.hid (show decide (ls = ms) = false from decide_eq_false (fun h => hlm (by rw [h])))
    obtain ⟨n, hnn⟩ : ∃ n, n = ls.length := ⟨_, rfl⟩
    obtain ⟨m, hmm⟩ : ∃ m, m = ms.length := ⟨_, rfl⟩
    rw [← hnn, ← hmm] at hlm ⊢
    have hI : ¬ (n : Int) = (m : Int) := by omega
    clear hnn hmm hcells hdells hlc hld hcm hdm
    go_enter Try.func50, Try.ntmps50
    go_wp2_with fail
    go_ret
    exact ⟨ret_bool HR.out.symm, Below.refl _ _⟩

end Go.Proofs.Ytcofplbdapjdjaa
