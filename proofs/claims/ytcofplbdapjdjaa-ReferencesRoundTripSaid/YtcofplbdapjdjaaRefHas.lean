/- The reference's Has. -/
import Derived.Test.YtcofplbdapjdjaaIds
import Derived.Deep.RegionHeld3
namespace Mid
theorem mem_take_succ (ls : List Id) (k : Nat) (h : k < ls.length) (x : Id) : x ∈ ls.take (k + 1) ↔ x ∈ ls.take k ∨ x = ls[k]! := by
  rw [List.take_succ_eq_append_getElem h, List.mem_append, List.mem_singleton, getElem!_pos ls k h]
end Mid
namespace Go.Proofs.Ytcofplbdapjdjaa
open Go.RowKit

theorem ret_bool {a b : Bool} (h : a = b) : Ending.returned (.bool a) = .returned (.bool b) := by rw [h]
theorem nI_val {x y : Mid.Id} : nI x.1 = nI y.1 ↔ x = y := by
  constructor
  · intro h
    apply Subtype.ext
    exact (List.map_inj_right (f := fun (n : Nat) => (n : Int)) (fun _ _ h => Int.ofNat.inj h)).1 h
  · rintro rfl; rfl
theorem id_nI_len (x : Mid.Id) : (nI x.1).length = 32 := by rw [nI_len]; exact x.2.1
theorem eq_id {t : TypeId} (hu : Try.prog.underlying t = some (.array 32 5)) (x y : Mid.Id) (w : World) :
    (Op.equalIn 10000 t (.agg (bsC (nI x.1))) (.agg (bsC (nI y.1)))).run Try.prog w = .ok (decide (x = y)) w := by
  have h := eq_arr hu (nI x.1) (nI y.1) (id_nI_len x) (id_nI_len y) 9998 w
  rw [show decide (nI x.1 = nI y.1) = decide (x = y) from by rw [decide_eq_decide]; exact nI_val] at h
  exact h

theorem IdsC.range {w : World} {b off : Nat} {ls : List Mid.Id} (h : IdsC w b off ls) (j : Nat) (hj : j < ls.length) : w.rangeAt b (off + j * 32) (encI ls[j]!) :=
  fun i v hv => h j hj i v hv

theorem eq_enc {t : TypeId} (hu : Try.prog.underlying t = some (.array 32 5)) (x y : Mid.Id) (w : World) :
    (Op.equalIn 10000 t (.agg (encI x).toArray) (.agg (encI y).toArray)).run Try.prog w = .ok (decide (x = y)) w := by
  rw [encI_arr, encI_arr]
  exact eq_id hu x y w
theorem encBlk {w : World} {g : Nat} {t : TypeId} {x : Mid.Id} (h : Blk w g t (encI x).toArray) : w.rangeAt g 0 (encI x) := by
  intro i v hv
  rw [Nat.zero_add, h.cell, List.getElem?_toArray]
  exact hv
theorem info_enc {t : TypeId} (h : (Try.prog.info? t).map (·.size) = some 32) (x : Mid.Id) : (Try.prog.info? t).map (·.size) = some (encI x).length := by rw [encI_len]; exact h

set_option maxRecDepth 100000 in
set_option maxHeartbeats 1000000 in
theorem refHas_any (v : Value) (ls : List Mid.Id) (x : Mid.Id) (w : World) (hn : ls.length ≤ 1000000) (hv : Ids w v ls) :
    Calls Try.prog 41 #[v, .agg (encI x).toArray] w fun e w' => e = .returned (.bool (decide (x ∈ ls))) ∧ Below w.heap.size w w' := by
  obtain ⟨ad, cap, rfl, hlc, hcm, _, hcells⟩ := hv
  have hnI : (ls.length : Int) ≤ 1000000 := by omega
  obtain ⟨n, hnn⟩ : ∃ n, n = ls.length := ⟨_, rfl⟩
  rw [← hnn] at hnI ⊢
  have hu30 : Try.prog.underlying 48 = some (.array 32 5) := Try.underlying48
  have HEQ := Lib.hid (fun y w => eq_enc (t := 48) hu30 y x w)
  have HIX := Lib.hid (info_enc infoRid x)
  have HU := Lib.hid hu30
  clear hu30
  have HN := Lib.hid hnn; have HCL := Lib.hid hcells
  clear hnn hcells hlc hcm hn
  go_enter Try.func41, Try.ntmps41
  go_upto_region 1 with (fail)
  have ha := Blk.fresh w 48 (encI x).toArray
  have hB : Below w.heap.size w (w.alloc (.cells (encI x).toArray 48)) := (Below.refl _ w).alloc (Nat.le_refl _) _
  generalize w.alloc (.cells (encI x).toArray 48) = W0 at *
  have HA := Lib.hid ha; have HBL := Lib.hid hB
  clear ha hB
  go_wp2_with fail
  go_loopw [5] (fun i wr => ∃ k : Nat, i = .int .i64 k ∧ k ≤ n ∧ Hid (x ∉ ls.take k) ∧ Hid (Blk wr w.heap.size 48 (encI x).toArray) ∧ Hid (Below w.heap.size w wr)) (fun i _ => n - (intOf i).toNat)
  case atStart => exact ⟨0, rfl, Nat.zero_le _, Lib.hid (by simp), HA, HBL⟩
  case round =>
    clear HA HBL
    obtain ⟨k, rfl, hk, hf, ha, hbl⟩ := hrel
    by_cases hlt : k < n
    · have hkl : k < ls.length := by rw [← HN.out]; exact hlt
      rcases HCL.out with h0 | ⟨b, off, rfl, hc⟩
      · rw [h0] at hkl; exact absurd hkl (by simp)
      · have hblt : b < w.heap.size := hc.lt (by intro h; rw [h] at hkl; exact absurd hkl (by simp))
        have hrg := (hc.keep hbl.out hblt).range k hkl
        have hmem := Mid.mem_take_succ ls k hkl x
        have heq := HEQ.out ls[k]!
        generalize ls[k]! = y at *
        have HRG := Lib.hid (show wr.drew.rangeAt b (off + k * 32) (encI y) from hrg)
        have hiX := HIX.out
        have hiY := info_enc infoRid y
        have hu30 := HU.out
        have hrel2 : wr.drew.rangeAt b (off + k * 32) (encI y) ∧ wr.drew.rangeAt w.heap.size 0 (encI x) := ⟨hrg, encBlk ha.out.draw⟩
        have HMEM := Lib.hid hmem
        have hltI : (k : Int) < (n : Int) := by omega
        clear hrg hmem hkl hc
        by_cases hyx : y = x
        · have hres : decide (x ∈ ls) = true := decide_eq_true (List.mem_of_mem_take (HMEM.out.2 (.inr hyx.symm)))
          have HRES := Lib.hid hres
          rw [decide_eq_true hyx] at heq
          clear hres hyx
          go_wp2_with fail
          refine wp_region_held_drew (S := (fun w' => w'.rangeAt b (off + k * 32) (encI y) ∧ w'.rangeAt w.heap.size 0 (encI x))) (by kernel_rfl) ?_ (fun hHeld => ?_)
          · exact hrel2
          refine wpAnyH_take (i := 0) (v := ?_) rfl (by kernel_rfl) (by kernel_rfl) (by kernel_rfl) (fun _ _ _ h => h) (Or.inl ⟨by rfl, ?_⟩) (by assumption) ?_
          rotate_left
          · (intro w9 _; go_simp; try with_reducible rfl)
          simp only [Act.put, List.getElem_toArray, List.getElem_cons_zero, List.setIfInBounds_toArray, List.set_cons_succ, List.set_cons_zero]
          refine wpAnyH_take (i := 1) (v := ?_) rfl (by kernel_rfl) (by kernel_rfl) (by kernel_rfl) (fun _ _ _ h => h) (Or.inl ⟨by rfl, ?_⟩) (by assumption) ?_
          rotate_left
          · (intro w9 _; go_simp; try with_reducible rfl)
          simp only [Act.put, List.getElem_toArray, List.getElem_cons_succ, List.getElem_cons_zero, List.setIfInBounds_toArray, List.set_cons_succ, List.set_cons_zero]
          refine wpAnyH_take (i := 2) (v := ?_) rfl (by kernel_rfl) (by kernel_rfl) (by kernel_rfl) (fun _ _ _ h => h) (Or.inl ⟨by rfl, ?_⟩) (by assumption) ?_
          rotate_left
          · (intro w9 _; go_simp; try with_reducible rfl)
          simp only [Act.put, List.getElem_toArray, List.getElem_cons_succ, List.getElem_cons_zero, List.setIfInBounds_toArray, List.set_cons_succ, List.set_cons_zero]
          refine wpAnyH_take (i := 3) (v := .agg (encI y).toArray) rfl (by kernel_rfl) (by kernel_rfl) (by kernel_rfl) (fun _ _ _ h => h) (yieldsIf_load_mid (by rfl) _ _ rfl _ _ rfl (encI y) _ (fun _ h => h.1) hu30 rfl hiY) (by assumption) ?_
          simp only [Act.put, List.getElem_toArray, List.getElem_cons_succ, List.getElem_cons_zero, List.setIfInBounds_toArray, List.set_cons_succ, List.set_cons_zero]
          refine wpAnyH_take (i := 4) (v := .agg (encI x).toArray) rfl (by kernel_rfl) (by kernel_rfl) (by kernel_rfl) (fun _ _ _ h => h) (yieldsIf_load_mid (by rfl) _ _ rfl _ _ rfl (encI x) _ (fun _ h => h.2) hu30 rfl hiX) (by assumption) ?_
          simp only [Act.put, List.getElem_toArray, List.getElem_cons_succ, List.getElem_cons_zero, List.setIfInBounds_toArray, List.set_cons_succ, List.set_cons_zero]
          refine wpAnyH_take (i := 5) (v := ?_) rfl (by kernel_rfl) (by kernel_rfl) (by kernel_rfl) (fun _ _ _ h => h) (Or.inl ⟨by rfl, ?_⟩) (by assumption) ?_
          rotate_left
          · (intro w9 _; go_simp; try with_reducible rfl)
          simp only [Act.put, List.getElem_toArray, List.getElem_cons_succ, List.getElem_cons_zero, List.setIfInBounds_toArray, List.set_cons_succ, List.set_cons_zero]
          refine wpAnyH_done (by kernel_rfl) ?_ _
          go_wp2_with fail
          go_ret
          exact ⟨ret_bool HRES.out.symm, hbl.out.drew⟩
        · have hnx : x ∉ ls.take (k + 1) := fun h => (HMEM.out.1 h).elim hf.out (fun e => hyx e.symm)
          have HNX := Lib.hid hnx
          rw [decide_eq_false hyx] at heq
          clear hnx hyx
          go_wp2_with fail
          refine wp_region_held_drew (S := (fun w' => w'.rangeAt b (off + k * 32) (encI y) ∧ w'.rangeAt w.heap.size 0 (encI x))) (by kernel_rfl) ?_ (fun hHeld => ?_)
          · exact hrel2
          refine wpAnyH_take (i := 0) (v := ?_) rfl (by kernel_rfl) (by kernel_rfl) (by kernel_rfl) (fun _ _ _ h => h) (Or.inl ⟨by rfl, ?_⟩) (by assumption) ?_
          rotate_left
          · (intro w9 _; go_simp; try with_reducible rfl)
          simp only [Act.put, List.getElem_toArray, List.getElem_cons_zero, List.setIfInBounds_toArray, List.set_cons_succ, List.set_cons_zero]
          refine wpAnyH_take (i := 1) (v := ?_) rfl (by kernel_rfl) (by kernel_rfl) (by kernel_rfl) (fun _ _ _ h => h) (Or.inl ⟨by rfl, ?_⟩) (by assumption) ?_
          rotate_left
          · (intro w9 _; go_simp; try with_reducible rfl)
          simp only [Act.put, List.getElem_toArray, List.getElem_cons_succ, List.getElem_cons_zero, List.setIfInBounds_toArray, List.set_cons_succ, List.set_cons_zero]
          refine wpAnyH_take (i := 2) (v := ?_) rfl (by kernel_rfl) (by kernel_rfl) (by kernel_rfl) (fun _ _ _ h => h) (Or.inl ⟨by rfl, ?_⟩) (by assumption) ?_
          rotate_left
          · (intro w9 _; go_simp; try with_reducible rfl)
          simp only [Act.put, List.getElem_toArray, List.getElem_cons_succ, List.getElem_cons_zero, List.setIfInBounds_toArray, List.set_cons_succ, List.set_cons_zero]
          refine wpAnyH_take (i := 3) (v := .agg (encI y).toArray) rfl (by kernel_rfl) (by kernel_rfl) (by kernel_rfl) (fun _ _ _ h => h) (yieldsIf_load_mid (by rfl) _ _ rfl _ _ rfl (encI y) _ (fun _ h => h.1) hu30 rfl hiY) (by assumption) ?_
          simp only [Act.put, List.getElem_toArray, List.getElem_cons_succ, List.getElem_cons_zero, List.setIfInBounds_toArray, List.set_cons_succ, List.set_cons_zero]
          refine wpAnyH_take (i := 4) (v := .agg (encI x).toArray) rfl (by kernel_rfl) (by kernel_rfl) (by kernel_rfl) (fun _ _ _ h => h) (yieldsIf_load_mid (by rfl) _ _ rfl _ _ rfl (encI x) _ (fun _ h => h.2) hu30 rfl hiX) (by assumption) ?_
          simp only [Act.put, List.getElem_toArray, List.getElem_cons_succ, List.getElem_cons_zero, List.setIfInBounds_toArray, List.set_cons_succ, List.set_cons_zero]
          refine wpAnyH_take (i := 5) (v := ?_) rfl (by kernel_rfl) (by kernel_rfl) (by kernel_rfl) (fun _ _ _ h => h) (Or.inl ⟨by rfl, ?_⟩) (by assumption) ?_
          rotate_left
          · (intro w9 _; go_simp; try with_reducible rfl)
          simp only [Act.put, List.getElem_toArray, List.getElem_cons_succ, List.getElem_cons_zero, List.setIfInBounds_toArray, List.set_cons_succ, List.set_cons_zero]
          refine wpAnyH_done (by kernel_rfl) ?_ _
          go_wp2_with fail
          go_roundw
          case rel => exact ⟨k + 1, by go_num, hlt, HNX, Lib.hid ha.out.draw, Lib.hid hbl.out.drew⟩
          case measure => simp [intOf]; omega
    · have hres : decide (x ∈ ls) = false := decide_eq_false (fun h => hf.out (by rw [List.take_of_length_le (by rw [← HN.out]; omega)]; exact h))
      have HRES := Lib.hid hres
      clear hres
      go_wp2_with fail
      go_ret
      exact ⟨ret_bool HRES.out.symm, hbl.out⟩
end Go.Proofs.Ytcofplbdapjdjaa
