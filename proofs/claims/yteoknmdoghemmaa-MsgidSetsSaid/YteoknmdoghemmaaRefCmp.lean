/- The reference's Compare, Digits and Print. -/
import Derived.Test.YteoknmdoghemmaaPrint
namespace Go.Proofs.Yteoknmdoghemmaa
open Go.RowKit

theorem getD_lt (l : List Nat) (hb : ∀ x ∈ l, x < 256) (k : Nat) : l.getD k 0 < 256 := by
  by_cases h : k < l.length
  · rw [List.getD_eq_getElem?_getD, List.getElem?_eq_getElem h]; exact hb _ (List.getElem_mem h)
  · rw [List.getD_eq_getElem?_getD, List.getElem?_eq_none (by omega)]; decide
theorem cell_nI {w : World} {g : Nat} {t : TypeId} {l : List Nat} (h : Blk w g t (bsC (nI l))) (k : Nat) (hk : k < l.length) : w.cell? ⟨g, k, none⟩ = some (.int .u8 (l.getD k 0)) := by
  rw [h.cell, bsC_get _ k (by rw [nI_len]; exact hk)]
  congr 2
  simp [nI, List.getD_eq_getElem?_getD, List.getElem?_eq_getElem hk]

set_option maxRecDepth 100000 in
set_option maxHeartbeats 1000000 in
theorem refCompare_any (l m : List Nat) (hl : l.length = 32) (hm : m.length = 32) (w : World) :
    Calls Try.prog 20 #[.agg (bsC (nI l)), .agg (bsC (nI m))] w fun e w' => e = .returned (.int .i64 (Mid.cmpL l m)) ∧ Below w.heap.size w w' := by
  have HC1 := Lib.hid (fun (W : World) g t (h : Blk W g t (bsC (nI l))) k (hk : k < l.length) => cell_nI h k hk)
  have HC2 := Lib.hid (fun (W : World) g t (h : Blk W g t (bsC (nI m))) k (hk : k < m.length) => cell_nI h k hk)
  obtain ⟨A, hA⟩ : ∃ A, A = nI l := ⟨_, rfl⟩
  obtain ⟨B, hB⟩ : ∃ B, B = nI m := ⟨_, rfl⟩
  rw [← hA] at HC1 ⊢
  rw [← hB] at HC2 ⊢
  have HL := Lib.hid hl; have HM := Lib.hid hm
  clear hA hB hl hm
  go_enter Try.func20, Try.ntmps20
  go_upto_region 1 with (fail)
  have hb := Blk.fresh (w.alloc (.cells (bsC A) 30)) 30 (bsC B)
  have ha := (Blk.fresh w 30 (bsC A)).more (.cells (bsC B) 30)
  have hB : Below w.heap.size w ((w.alloc (.cells (bsC A) 30)).alloc (.cells (bsC B) 30)) := ((Below.refl _ w).alloc (Nat.le_refl _) _).alloc (by simp) _
  rw [show (w.alloc (.cells (bsC A) 30)).heap.size = w.heap.size + 1 by simp] at hb
  generalize (w.alloc (.cells (bsC A) 30)).alloc (.cells (bsC B) 30) = W0 at *
  have HA := Lib.hid ha; have HB := Lib.hid hb; have HBL := Lib.hid hB
  clear ha hb hB
  go_wp2_with fail
  go_loopw [5] (fun i wr => ∃ k : Nat, i = .int .i64 k ∧ k ≤ 32 ∧ Hid (Mid.cmpL l m = Mid.cmpL (l.drop k) (m.drop k)) ∧ Hid (Blk wr w.heap.size 30 (bsC A)) ∧ Hid (Blk wr (w.heap.size + 1) 30 (bsC B)) ∧ Hid (Below w.heap.size w wr)) (fun i _ => 32 - (intOf i).toNat)
  case atStart => exact ⟨0, rfl, by omega, Lib.hid rfl, HA, HB, HBL⟩
  case round =>
    clear HA HB HBL
    obtain ⟨k, rfl, hk, hf, ha, hb, hbl⟩ := hrel
    by_cases hlt : k < 32
    · have hst := Mid.cmpL_step l m k (by have := HL.out; omega) (by have := HM.out; omega)
      rw [← hf.out] at hst
      have c1 := HC1.out _ _ _ ha.out.draw k (by have := HL.out; omega)
      have c2 := HC2.out _ _ _ hb.out.draw k (by have := HM.out; omega)
      have d1 := HC1.out _ _ _ ha.out.draw.draw k (by have := HL.out; omega)
      have d2 := HC2.out _ _ _ hb.out.draw.draw k (by have := HM.out; omega)
      rw [show l[k]'(by have := HL.out; omega) = l.getD k 0 by rw [List.getD_eq_getElem?_getD, List.getElem?_eq_getElem (by have := HL.out; omega)]; rfl, show m[k]'(by have := HM.out; omega) = m.getD k 0 by rw [List.getD_eq_getElem?_getD, List.getElem?_eq_getElem (by have := HM.out; omega)]; rfl] at hst
      generalize l.getD k 0 = x at *
      generalize m.getD k 0 = y at *
      have HST := Lib.hid hst
      have hltI : (k : Int) < 32 := by omega
      clear hst hf
      by_cases h1 : x < y
      · have h1I : (x : Int) < (y : Int) := by omega
        have hres : Mid.cmpL l m = -1 := by rw [HST.out, if_pos h1]
        have HR := Lib.hid hres
        clear hres h1
        go_wp2_with fail
        go_region_law (fail)
        all_goals
          go_wp2_with fail
          go_ret
          exact ⟨ret_int HR.out.symm, hbl.out.drew⟩
      · have h1I : ¬ (x : Int) < (y : Int) := by omega
        by_cases h2 : y < x
        · have h2I : (y : Int) < (x : Int) := by omega
          have hres : Mid.cmpL l m = 1 := by rw [HST.out, if_neg h1, if_pos h2]
          have HR := Lib.hid hres
          clear hres h1 h2
          go_wp2_with fail
          go_region_law (fail)
          all_goals
            go_wp2_with fail
            go_region_law (fail)
            all_goals
              go_wp2_with fail
              go_ret
              exact ⟨ret_int HR.out.symm, hbl.out.drew.drew⟩
        · have h2I : ¬ (y : Int) < (x : Int) := by omega
          have hres : Mid.cmpL l m = Mid.cmpL (l.drop (k + 1)) (m.drop (k + 1)) := by rw [HST.out, if_neg h1, if_neg h2]
          have HR := Lib.hid hres
          clear hres h1 h2
          go_wp2_with fail
          go_region_law (fail)
          all_goals
            go_wp2_with fail
            go_region_law (fail)
            all_goals
              go_wp2_with fail
              go_roundw
              case rel => exact ⟨k + 1, by go_num, hlt, HR, Lib.hid ha.out.draw.draw, Lib.hid hb.out.draw.draw, Lib.hid hbl.out.drew.drew⟩
              case measure => simp [intOf]; omega
    · have hk32 : k = 32 := by omega
      have hres : Mid.cmpL l m = 0 := by rw [hf.out, List.drop_eq_nil_of_le (by have := HL.out; omega), List.drop_eq_nil_of_le (by have := HM.out; omega)]; rfl
      have HR := Lib.hid hres
      clear hres hf hk32
      go_wp2_with fail
      go_ret
      exact ⟨ret_int HR.out.symm, hbl.out⟩
end Go.Proofs.Yteoknmdoghemmaa
