/- slices.Compact over identities: the walk. -/
import Derived.Test.YteoknmdoghemmaaCln
namespace Go.Proofs.Yteoknmdoghemmaa
open Go.RowKit

/-- what Compact gives -/
def CompPost (base : Nat) (w0 : World) (g cap : Nat) (ms : List Mid.Id) (e : Ending) (w' : World) : Prop :=
  e = .returned (.slice (some ⟨g, 0, none⟩) (Mid.dd ms ms.length).length cap) ∧ IdsC w' g 0 (Mid.dd ms ms.length) ∧ Below base w0 w'

theorem neq_enc {t : TypeId} (hu : Try.prog.underlying t = some (.array 32 5)) (x y : Mid.Id) (q : Bool) (h : decide (x = y) = q) (w : World) :
    (Op.equalIn 10000 t (.agg (encI x).toArray) (.agg (encI y).toArray)).run Try.prog w = .ok q w := by rw [← h]; exact eq_enc hu x y w

set_option maxRecDepth 100000 in
set_option maxHeartbeats 4000000 in
theorem compact_any (g cap : Nat) (ms : List Mid.Id) (w : World) (base : Nat) (w0 : World) (hn : ms.length ≤ 1000000) (hcap : ms.length ≤ cap) (hcm : cap ≤ maxLen) (hM : Mrow base w0 w g 0 ms) :
    Calls Try.prog 45 #[.slice (some ⟨g, 0, none⟩) ms.length cap] w (CompPost base w0 g cap ms) := by
  obtain ⟨n, hnn⟩ : ∃ n, n = ms.length := ⟨_, rfl⟩
  have HN := Lib.hid hnn
  have hu23 : Try.prog.underlying 23 = some (.array 32 5) := Try.underlying23
  have HU := Lib.hid hu23
  unfold maxLen at hcm
  unfold CompPost
  rw [← hnn] at hn hcap ⊢
  have hnI : (n : Int) ≤ 1000000 := by omega
  have hcI : (n : Int) ≤ (cap : Int) := by omega
  have hcmI : (cap : Int) ≤ 9223372036854775807 := by omega
  have HM := Lib.hid hM
  clear hnn hn hcap hcm hM hu23
  by_cases h2 : n < 2
  · have h2I : (n : Int) < 2 := by omega
    have hdd : Mid.dd ms n = ms := by
      rcases Nat.lt_or_ge n 1 with h | h
      · obtain rfl : n = 0 := by omega
        exact (List.eq_nil_of_length_eq_zero HN.out.symm).symm
      · obtain rfl : n = 1 := by omega
        show ms.take 1 = ms
        exact List.take_of_length_le (by rw [← HN.out]; exact Nat.le_refl _)
    rw [hdd, ← HN.out]
    clear hdd h2
    go_enter Try.func45, Try.ntmps45
    go_wp2_with fail
    go_ret
    exact ⟨rfl, HM.out.2.2.1, HM.out.2.2.2.2⟩
  · have h2I : ¬ (n : Int) < 2 := by omega
    go_enter Try.func45, Try.ntmps45
    go_wp2_with fail
    go_loopw [3] (fun i wr => ∃ d : Nat, i = .int .i64 ((d : Int) + 1) ∧ d + 1 ≤ n ∧ Hid (∀ j, 1 ≤ j → j < d + 1 → ms[j]! ≠ ms[j - 1]!) ∧ Hid (Mrow base w0 wr g 0 ms)) (fun i _ => n - (intOf i).toNat)
    case atStart => exact ⟨0, rfl, by omega, Lib.hid (fun j h1 h2 => by omega), HM⟩
    case round =>
      clear HM
      obtain ⟨d, rfl, hk, hf, hM⟩ := hrel
      by_cases hlt : d + 1 < n
      · have hltI : (d : Int) + 1 < (n : Int) := by omega
        have hd0 : (0 : Int) ≤ (d : Int) + 1 := by omega
        have hdI : (d : Int) < (n : Int) := by omega
        have hwr : IntKind.i64.wrap (d : Int) = (d : Int) := by simp [IntKind.wrap, IntKind.bits, IntKind.signed]; omega
        have hx := hM.out.2.2.1.range (d + 1) (by rw [← HN.out]; exact hlt)
        have hy := hM.out.2.2.1.range d (by rw [← HN.out]; omega)
        rw [Nat.zero_add] at hx hy
        have hrel2 : wr.drew.rangeAt g ((d + 1) * 32) (encI ms[d + 1]!) ∧ wr.drew.rangeAt g (d * 32) (encI ms[d]!) := ⟨hx, hy⟩
        have HREL := Lib.hid hrel2
        have heqb := fun q h w => neq_enc HU.out ms[d + 1]! ms[d]! q h w
        obtain ⟨x, hxx⟩ : ∃ x, x = ms[d + 1]! := ⟨_, rfl⟩
        obtain ⟨y, hyy⟩ : ∃ y, y = ms[d]! := ⟨_, rfl⟩
        rw [← hxx, ← hyy] at HREL heqb
        have HXX := Lib.hid hxx; have HYY := Lib.hid hyy
        have hiX := info_enc infoId x
        have hiY := info_enc infoId y
        have hu23 := HU.out
        clear hx hy hrel2 hxx hyy
        -- WALK
        by_cases hxy : x = y
        · have heq := heqb true (decide_eq_true hxy)
          have hdd : Mid.dd ms (d + 2) = Mid.dd ms (d + 1) := by
            rw [Mid.dd_succ ms (d + 1) (by omega), show d + 1 - 1 = d from rfl, ← HXX.out, ← HYY.out, if_pos hxy]
          have hpl : Mid.dd ms (d + 1) = ms.take (d + 1) := Mid.dd_plain ms (d + 1) (by rw [← HN.out]; omega) hf.out
          have hkc : ¬ cap = d + 1 := by omega
          have hkcI : (d : Int) + 1 ≤ (cap : Int) := by omega
          have HPL := Lib.hid (show Mid.dd ms (d + 1 + 0 + 1) = ms.take (d + 1) by rw [← hpl]; exact hdd)
          have HLT := Lib.hid hlt
          clear heqb hxy hdd hpl hf hk hlt
          go_wp2_with fail
          refine wp_region_held_drew (S := (fun w' => w'.rangeAt g ((d + 1) * 32) (encI x) ∧ w'.rangeAt g (d * 32) (encI y))) (by kernel_rfl) ?_ (fun hHeld => ?_)
          · exact HREL.out
          refine wpAnyH_take (i := 0) (v := ?_) rfl (by kernel_rfl) (by kernel_rfl) (by kernel_rfl) (fun _ _ _ h => h) (Or.inl ⟨by rfl, ?_⟩) (by assumption) ?_
          rotate_left
          · (intro w9 _; go_simp; try with_reducible rfl)
          simp only [Act.put, List.getElem_toArray, List.getElem_cons_zero, List.setIfInBounds_toArray, List.set_cons_succ, List.set_cons_zero]
          refine wpAnyH_take (i := 1) (v := ?_) rfl (by kernel_rfl) (by kernel_rfl) (by kernel_rfl) (fun _ _ _ h => h) (Or.inl ⟨by rfl, ?_⟩) (by assumption) ?_
          rotate_left
          · (intro w9 _; go_simp; try with_reducible rfl)
          simp only [Act.put, List.getElem_toArray, List.getElem_cons_succ, List.getElem_cons_zero, List.setIfInBounds_toArray, List.set_cons_succ, List.set_cons_zero]
          refine wpAnyH_take (i := 2) (v := ?_) rfl (by kernel_rfl) (by kernel_rfl) (by kernel_rfl) (fun _ _ _ h => h) (Or.inl ⟨by rfl, ?_⟩) (by assumption) ?_
          rotate_left
          · (intro w9 _; go_simp; try with_reducible rfl)
          simp only [Act.put, List.getElem_toArray, List.getElem_cons_succ, List.getElem_cons_zero, List.setIfInBounds_toArray, List.set_cons_succ, List.set_cons_zero]
          refine wpAnyH_take (i := 3) (v := .agg (encI x).toArray) rfl (by kernel_rfl) (by kernel_rfl) (by kernel_rfl) (fun _ _ _ h => h) (yieldsIf_load_mid (by rfl) _ _ rfl _ _ rfl (encI x) _ (fun _ h => h.1) hu23 rfl hiX) (by assumption) ?_
          simp only [Act.put, List.getElem_toArray, List.getElem_cons_succ, List.getElem_cons_zero, List.setIfInBounds_toArray, List.set_cons_succ, List.set_cons_zero]
          refine wpAnyH_take (i := 4) (v := ?_) rfl (by kernel_rfl) (by kernel_rfl) (by kernel_rfl) (fun _ _ _ h => h) (Or.inl ⟨by rfl, ?_⟩) (by assumption) ?_
          rotate_left
          · (intro w9 _; go_simp; try with_reducible rfl)
          simp only [Act.put, List.getElem_toArray, List.getElem_cons_succ, List.getElem_cons_zero, List.setIfInBounds_toArray, List.set_cons_succ, List.set_cons_zero]
          refine wpAnyH_take (i := 5) (v := ?_) rfl (by kernel_rfl) (by kernel_rfl) (by kernel_rfl) (fun _ _ _ h => h) (Or.inl ⟨by rfl, ?_⟩) (by assumption) ?_
          rotate_left
          · (intro w9 _; go_simp; try with_reducible rfl)
          simp only [Act.put, List.getElem_toArray, List.getElem_cons_succ, List.getElem_cons_zero, List.setIfInBounds_toArray, List.set_cons_succ, List.set_cons_zero]
          refine wpAnyH_take (i := 6) (v := ?_) rfl (by kernel_rfl) (by kernel_rfl) (by kernel_rfl) (fun _ _ _ h => h) (Or.inl ⟨by rfl, ?_⟩) (by assumption) ?_
          rotate_left
          · (intro w9 _; go_simp; try with_reducible rfl)
          simp only [Act.put, List.getElem_toArray, List.getElem_cons_succ, List.getElem_cons_zero, List.setIfInBounds_toArray, List.set_cons_succ, List.set_cons_zero]
          refine wpAnyH_take (i := 7) (v := ?_) rfl (by kernel_rfl) (by kernel_rfl) (by kernel_rfl) (fun _ _ _ h => h) (Or.inl ⟨by rfl, ?_⟩) (by assumption) ?_
          rotate_left
          · (intro w9 _; go_simp; try with_reducible rfl)
          simp only [Act.put, List.getElem_toArray, List.getElem_cons_succ, List.getElem_cons_zero, List.setIfInBounds_toArray, List.set_cons_succ, List.set_cons_zero]
          refine wpAnyH_take (i := 8) (v := .agg (encI y).toArray) rfl (by kernel_rfl) (by kernel_rfl) (by kernel_rfl) (fun _ _ _ h => h) (yieldsIf_load_mid (by rfl) _ _ rfl _ _ rfl (encI y) _ (fun _ h => h.2) hu23 rfl hiY) (by assumption) ?_
          simp only [Act.put, List.getElem_toArray, List.getElem_cons_succ, List.getElem_cons_zero, List.setIfInBounds_toArray, List.set_cons_succ, List.set_cons_zero]
          refine wpAnyH_take (i := 9) (v := ?_) rfl (by kernel_rfl) (by kernel_rfl) (by kernel_rfl) (fun _ _ _ h => h) (Or.inl ⟨by rfl, ?_⟩) (by assumption) ?_
          rotate_left
          · (intro w9 _; go_simp; try with_reducible rfl)
          simp only [Act.put, List.getElem_toArray, List.getElem_cons_succ, List.getElem_cons_zero, List.setIfInBounds_toArray, List.set_cons_succ, List.set_cons_zero]
          refine wpAnyH_done (by kernel_rfl) ?_ _
          clear heq hHeld
          have hM1 := Lib.hid hM.out.drew
          clear hM
          generalize wr.drew = W1 at *
          go_wp2_with fail
          go_loopw [3, 5] (fun a b wq => ∃ (kk e : Nat) (M : List Mid.Id), a = .int .i64 kk ∧ b = .int .i64 ((e : Int) + 1) ∧ d + 1 + e + 1 ≤ n ∧ kk ≤ d + 1 + e ∧ Hid (kk = (Mid.dd ms (d + 1 + e + 1)).length) ∧ Hid (M.take kk = Mid.dd ms (d + 1 + e + 1)) ∧ Hid (M.length = n) ∧ Hid (∀ j, d + 1 + e ≤ j → M[j]! = ms[j]!) ∧ Hid (Mrow base w0 wq g 0 M)) (fun _ b _ => n - (intOf b).toNat)
          case atStart =>
            exact ⟨d + 1, 0, ms, by go_num, rfl, by have := HLT.out; omega, by omega, Lib.hid (by rw [HPL.out, List.length_take, ← HN.out]; have := HLT.out; omega), Lib.hid HPL.out.symm, Lib.hid HN.out.symm, Lib.hid (fun _ _ => rfl), hM1⟩
          case round =>
            clear hM1
            obtain ⟨kk, e, M, rfl, rfl, he, hke, hkl, hMt, hMl, hMs, hMr⟩ := hrel
            have hnl : ((n - (d + 1) : Nat) : Int) = (n : Int) - ((d : Int) + 1) := by have := HLT.out; omega
            by_cases hl2 : e + 1 < n - (d + 1)
            · have hl2I : (e : Int) + 1 < (n : Int) - ((d : Int) + 1) := by omega
              have he0 : (0 : Int) ≤ (e : Int) + 1 := by omega
              have heI : (e : Int) < (n : Int) - ((d : Int) + 1) := by omega
              have hwe : IntKind.i64.wrap (e : Int) = (e : Int) := by simp [IntKind.wrap, IntKind.bits, IntKind.signed]; omega
              have hx := hMr.out.2.2.1.range (d + 1 + (e + 1)) (by rw [hMl.out]; omega)
              have hy := hMr.out.2.2.1.range (d + 1 + e) (by rw [hMl.out]; omega)
              rw [Nat.zero_add, Nat.add_mul] at hx hy
              rw [hMs.out _ (by omega)] at hx hy
              have hrel2 : wr.drew.rangeAt g ((d + 1) * 32 + (e + 1) * 32) (encI ms[d + 1 + (e + 1)]!) ∧ wr.drew.rangeAt g ((d + 1) * 32 + e * 32) (encI ms[d + 1 + e]!) := ⟨hx, hy⟩
              have HREL2 := Lib.hid hrel2
              have heqb := fun q h w => neq_enc HU.out ms[d + 1 + (e + 1)]! ms[d + 1 + e]! q h w
              have hds := Mid.dd_succ ms (d + 1 + e + 1) (by omega)
              rw [show d + 1 + e + 1 - 1 = d + 1 + e from rfl, show d + 1 + e + 1 = d + 1 + (e + 1) from rfl] at hds
              obtain ⟨x2, hxx⟩ : ∃ x2, x2 = ms[d + 1 + (e + 1)]! := ⟨_, rfl⟩
              obtain ⟨y2, hyy⟩ : ∃ y2, y2 = ms[d + 1 + e]! := ⟨_, rfl⟩
              rw [← hxx, ← hyy] at HREL2 heqb hds
              have HX2 := Lib.hid hxx
              have HDS := Lib.hid hds
              have hiX2 := info_enc infoId x2
              have hiY2 := info_enc infoId y2
              have hu23 := HU.out
              clear hx hy hrel2 hxx hyy hds
              by_cases hxy2 : x2 = y2
              · have heq := heqb true (decide_eq_true hxy2)
                have hds2 := HDS.out
                rw [if_pos hxy2] at hds2
                have HD2 := Lib.hid hds2
                clear heqb hxy2 hds2
                go_wp2_with fail
                refine wp_region_held_drew (S := (fun w' => w'.rangeAt g ((d + 1) * 32 + (e + 1) * 32) (encI x2) ∧ w'.rangeAt g ((d + 1) * 32 + e * 32) (encI y2))) (by kernel_rfl) ?_ (fun hHeld => ?_)
                · exact HREL2.out
                refine wpAnyH_take (i := 0) (v := ?_) rfl (by kernel_rfl) (by kernel_rfl) (by kernel_rfl) (fun _ _ _ h => h) (Or.inl ⟨by rfl, ?_⟩) (by assumption) ?_
                rotate_left
                · (intro w9 _; go_simp; try with_reducible rfl)
                simp only [Act.put, List.getElem_toArray, List.getElem_cons_zero, List.setIfInBounds_toArray, List.set_cons_succ, List.set_cons_zero]
                refine wpAnyH_take (i := 1) (v := ?_) rfl (by kernel_rfl) (by kernel_rfl) (by kernel_rfl) (fun _ _ _ h => h) (Or.inl ⟨by rfl, ?_⟩) (by assumption) ?_
                rotate_left
                · (intro w9 _; go_simp; try with_reducible rfl)
                simp only [Act.put, List.getElem_toArray, List.getElem_cons_succ, List.getElem_cons_zero, List.setIfInBounds_toArray, List.set_cons_succ, List.set_cons_zero]
                refine wpAnyH_take (i := 2) (v := ?_) rfl (by kernel_rfl) (by kernel_rfl) (by kernel_rfl) (fun _ _ _ h => h) (Or.inl ⟨by rfl, ?_⟩) (by assumption) ?_
                rotate_left
                · (intro w9 _; go_simp; try with_reducible rfl)
                simp only [Act.put, List.getElem_toArray, List.getElem_cons_succ, List.getElem_cons_zero, List.setIfInBounds_toArray, List.set_cons_succ, List.set_cons_zero]
                refine wpAnyH_take (i := 3) (v := .agg (encI x2).toArray) rfl (by kernel_rfl) (by kernel_rfl) (by kernel_rfl) (fun _ _ _ h => h) (yieldsIf_load_mid (by rfl) _ _ rfl _ _ rfl (encI x2) _ (fun _ h => h.1) hu23 rfl hiX2) (by assumption) ?_
                simp only [Act.put, List.getElem_toArray, List.getElem_cons_succ, List.getElem_cons_zero, List.setIfInBounds_toArray, List.set_cons_succ, List.set_cons_zero]
                refine wpAnyH_take (i := 4) (v := ?_) rfl (by kernel_rfl) (by kernel_rfl) (by kernel_rfl) (fun _ _ _ h => h) (Or.inl ⟨by rfl, ?_⟩) (by assumption) ?_
                rotate_left
                · (intro w9 _; go_simp; try with_reducible rfl)
                simp only [Act.put, List.getElem_toArray, List.getElem_cons_succ, List.getElem_cons_zero, List.setIfInBounds_toArray, List.set_cons_succ, List.set_cons_zero]
                refine wpAnyH_take (i := 5) (v := ?_) rfl (by kernel_rfl) (by kernel_rfl) (by kernel_rfl) (fun _ _ _ h => h) (Or.inl ⟨by rfl, ?_⟩) (by assumption) ?_
                rotate_left
                · (intro w9 _; go_simp; try with_reducible rfl)
                simp only [Act.put, List.getElem_toArray, List.getElem_cons_succ, List.getElem_cons_zero, List.setIfInBounds_toArray, List.set_cons_succ, List.set_cons_zero]
                refine wpAnyH_take (i := 6) (v := ?_) rfl (by kernel_rfl) (by kernel_rfl) (by kernel_rfl) (fun _ _ _ h => h) (Or.inl ⟨by rfl, ?_⟩) (by assumption) ?_
                rotate_left
                · (intro w9 _; go_simp; try with_reducible rfl)
                simp only [Act.put, List.getElem_toArray, List.getElem_cons_succ, List.getElem_cons_zero, List.setIfInBounds_toArray, List.set_cons_succ, List.set_cons_zero]
                refine wpAnyH_take (i := 7) (v := ?_) rfl (by kernel_rfl) (by kernel_rfl) (by kernel_rfl) (fun _ _ _ h => h) (Or.inl ⟨by rfl, ?_⟩) (by assumption) ?_
                rotate_left
                · (intro w9 _; go_simp; try with_reducible rfl)
                simp only [Act.put, List.getElem_toArray, List.getElem_cons_succ, List.getElem_cons_zero, List.setIfInBounds_toArray, List.set_cons_succ, List.set_cons_zero]
                refine wpAnyH_take (i := 8) (v := .agg (encI y2).toArray) rfl (by kernel_rfl) (by kernel_rfl) (by kernel_rfl) (fun _ _ _ h => h) (yieldsIf_load_mid (by rfl) _ _ rfl _ _ rfl (encI y2) _ (fun _ h => h.2) hu23 rfl hiY2) (by assumption) ?_
                simp only [Act.put, List.getElem_toArray, List.getElem_cons_succ, List.getElem_cons_zero, List.setIfInBounds_toArray, List.set_cons_succ, List.set_cons_zero]
                refine wpAnyH_take (i := 9) (v := ?_) rfl (by kernel_rfl) (by kernel_rfl) (by kernel_rfl) (fun _ _ _ h => h) (Or.inl ⟨by rfl, ?_⟩) (by assumption) ?_
                rotate_left
                · (intro w9 _; go_simp; try with_reducible rfl)
                simp only [Act.put, List.getElem_toArray, List.getElem_cons_succ, List.getElem_cons_zero, List.setIfInBounds_toArray, List.set_cons_succ, List.set_cons_zero]
                refine wpAnyH_done (by kernel_rfl) ?_ _
                clear heq hHeld
                go_wp2_with fail
                go_roundw
                case rel => exact ⟨kk, e + 1, M, rfl, by go_num, by omega, by omega, Lib.hid (by rw [show d + 1 + (e + 1) + 1 = d + 1 + (e + 1) + 1 from rfl, HD2.out]; exact hkl.out), Lib.hid (by rw [HD2.out]; exact hMt.out), hMl, Lib.hid (fun j hj => hMs.out j (by omega)), Lib.hid hMr.out.drew⟩
                case measure => simp [intOf]; omega
              · have heq := heqb false (decide_eq_false hxy2)
                have hds2 := HDS.out
                rw [if_neg hxy2] at hds2
                have HD2 := Lib.hid hds2
                clear heqb hxy2 hds2
                go_wp2_with fail
                refine wp_region_held_drew (S := (fun w' => w'.rangeAt g ((d + 1) * 32 + (e + 1) * 32) (encI x2) ∧ w'.rangeAt g ((d + 1) * 32 + e * 32) (encI y2))) (by kernel_rfl) ?_ (fun hHeld => ?_)
                · exact HREL2.out
                refine wpAnyH_take (i := 0) (v := ?_) rfl (by kernel_rfl) (by kernel_rfl) (by kernel_rfl) (fun _ _ _ h => h) (Or.inl ⟨by rfl, ?_⟩) (by assumption) ?_
                rotate_left
                · (intro w9 _; go_simp; try with_reducible rfl)
                simp only [Act.put, List.getElem_toArray, List.getElem_cons_zero, List.setIfInBounds_toArray, List.set_cons_succ, List.set_cons_zero]
                refine wpAnyH_take (i := 1) (v := ?_) rfl (by kernel_rfl) (by kernel_rfl) (by kernel_rfl) (fun _ _ _ h => h) (Or.inl ⟨by rfl, ?_⟩) (by assumption) ?_
                rotate_left
                · (intro w9 _; go_simp; try with_reducible rfl)
                simp only [Act.put, List.getElem_toArray, List.getElem_cons_succ, List.getElem_cons_zero, List.setIfInBounds_toArray, List.set_cons_succ, List.set_cons_zero]
                refine wpAnyH_take (i := 2) (v := ?_) rfl (by kernel_rfl) (by kernel_rfl) (by kernel_rfl) (fun _ _ _ h => h) (Or.inl ⟨by rfl, ?_⟩) (by assumption) ?_
                rotate_left
                · (intro w9 _; go_simp; try with_reducible rfl)
                simp only [Act.put, List.getElem_toArray, List.getElem_cons_succ, List.getElem_cons_zero, List.setIfInBounds_toArray, List.set_cons_succ, List.set_cons_zero]
                refine wpAnyH_take (i := 3) (v := .agg (encI x2).toArray) rfl (by kernel_rfl) (by kernel_rfl) (by kernel_rfl) (fun _ _ _ h => h) (yieldsIf_load_mid (by rfl) _ _ rfl _ _ rfl (encI x2) _ (fun _ h => h.1) hu23 rfl hiX2) (by assumption) ?_
                simp only [Act.put, List.getElem_toArray, List.getElem_cons_succ, List.getElem_cons_zero, List.setIfInBounds_toArray, List.set_cons_succ, List.set_cons_zero]
                refine wpAnyH_take (i := 4) (v := ?_) rfl (by kernel_rfl) (by kernel_rfl) (by kernel_rfl) (fun _ _ _ h => h) (Or.inl ⟨by rfl, ?_⟩) (by assumption) ?_
                rotate_left
                · (intro w9 _; go_simp; try with_reducible rfl)
                simp only [Act.put, List.getElem_toArray, List.getElem_cons_succ, List.getElem_cons_zero, List.setIfInBounds_toArray, List.set_cons_succ, List.set_cons_zero]
                refine wpAnyH_take (i := 5) (v := ?_) rfl (by kernel_rfl) (by kernel_rfl) (by kernel_rfl) (fun _ _ _ h => h) (Or.inl ⟨by rfl, ?_⟩) (by assumption) ?_
                rotate_left
                · (intro w9 _; go_simp; try with_reducible rfl)
                simp only [Act.put, List.getElem_toArray, List.getElem_cons_succ, List.getElem_cons_zero, List.setIfInBounds_toArray, List.set_cons_succ, List.set_cons_zero]
                refine wpAnyH_take (i := 6) (v := ?_) rfl (by kernel_rfl) (by kernel_rfl) (by kernel_rfl) (fun _ _ _ h => h) (Or.inl ⟨by rfl, ?_⟩) (by assumption) ?_
                rotate_left
                · (intro w9 _; go_simp; try with_reducible rfl)
                simp only [Act.put, List.getElem_toArray, List.getElem_cons_succ, List.getElem_cons_zero, List.setIfInBounds_toArray, List.set_cons_succ, List.set_cons_zero]
                refine wpAnyH_take (i := 7) (v := ?_) rfl (by kernel_rfl) (by kernel_rfl) (by kernel_rfl) (fun _ _ _ h => h) (Or.inl ⟨by rfl, ?_⟩) (by assumption) ?_
                rotate_left
                · (intro w9 _; go_simp; try with_reducible rfl)
                simp only [Act.put, List.getElem_toArray, List.getElem_cons_succ, List.getElem_cons_zero, List.setIfInBounds_toArray, List.set_cons_succ, List.set_cons_zero]
                refine wpAnyH_take (i := 8) (v := .agg (encI y2).toArray) rfl (by kernel_rfl) (by kernel_rfl) (by kernel_rfl) (fun _ _ _ h => h) (yieldsIf_load_mid (by rfl) _ _ rfl _ _ rfl (encI y2) _ (fun _ h => h.2) hu23 rfl hiY2) (by assumption) ?_
                simp only [Act.put, List.getElem_toArray, List.getElem_cons_succ, List.getElem_cons_zero, List.setIfInBounds_toArray, List.set_cons_succ, List.set_cons_zero]
                refine wpAnyH_take (i := 9) (v := ?_) rfl (by kernel_rfl) (by kernel_rfl) (by kernel_rfl) (fun _ _ _ h => h) (Or.inl ⟨by rfl, ?_⟩) (by assumption) ?_
                rotate_left
                · (intro w9 _; go_simp; try with_reducible rfl)
                simp only [Act.put, List.getElem_toArray, List.getElem_cons_succ, List.getElem_cons_zero, List.setIfInBounds_toArray, List.set_cons_succ, List.set_cons_zero]
                refine wpAnyH_done (by kernel_rfl) ?_ _
                clear heq hHeld
                have hkn : kk < M.length := by rw [hMl.out]; omega
                have hkI : (kk : Int) < (n : Int) := by omega
                have hle := encI_len x2
                have hth : wr.drew.there g (kk * 32) (encI x2).toArray.size := by
                  intro j hj
                  have hj2 : j < 32 := by simpa [hle] using hj
                  have := hMr.out.2.2.2.1 (kk * 32 + j) (by omega)
                  simpa [Nat.add_assoc] using this
                have HTH := Lib.hid hth
                have HPUT := Lib.hid (hMr.out.drew.put kk hkn x2)
                have HIX := Lib.hid (show (Try.prog.info? 23).map (·.size) = some (encI x2).toArray.size by simpa using hiX2)
                have HKN := Lib.hid hkn
                clear hth hkn
                go_wp2_with (first
                  | (refine wpList_load_mid rfl _ _ rfl g ((d + 1) * 32 + (e + 1) * 32) (by rfl) (encI x2) _ HREL2.out.1 Try.underlying23 rfl hiX2 ?_)
                  | (refine wpList_store_mid rfl _ _ _ rfl g (kk * 32) (encI x2).toArray (by rfl) (by rfl) HTH.out HIX.out (all_oneCell_toArray (encI_one x2)) ?_))
                exact ⟨⟨kk + 1, e + 1, M.set kk x2, by go_num, by go_num, by omega, by omega, Lib.hid (by rw [HD2.out, List.length_append]; exact congrArg (· + 1) hkl.out), Lib.hid (by rw [HD2.out, set_take_keep M kk x2 HKN.out, hMt.out]; rfl), Lib.hid (by rw [List.length_set]; exact hMl.out), Lib.hid (fun j hj => by rw [set_get_far M kk j x2 (by omega)]; exact hMs.out j (by omega)), Lib.hid (by have h := HPUT.out; rwa [Nat.zero_add] at h)⟩, by simp [intOf]; omega⟩
            · have hen : d + 1 + e + 1 = n := by omega
              have hnl2 : ¬ (e : Int) + 1 < (n : Int) - ((d : Int) + 1) := by omega
              have hkn : (kk : Int) < (n : Int) := by omega
              have hkc2 : (kk : Int) ≤ (cap : Int) := by omega
              have HK := Lib.hid (show kk = (Mid.dd ms n).length by rw [hkl.out, hen])
              have HT := Lib.hid (show M.take kk = Mid.dd ms n by rw [hMt.out, hen])
              have hkn2 : kk < M.length := by rw [hMl.out]; omega
              have HKN := Lib.hid hkn2
              clear hen hkl hMt hMs hkn2 hl2
              go_wp2_with fail
              obtain ⟨vs, hvl, hrun⟩ := run_clear_ids wr _ 0 Try.underlying41 g (kk * 32) (n - kk) (cap - kk) (by have := HKN.out; have := hMl.out; omega) (fun j hj => by
                have := hMr.out.2.2.2.1 (kk * 32 + j) (by have := HKN.out; have := hMl.out; omega)
                simpa [Nat.add_assoc] using this)
              rw [hrun]
              have hB := below_setCells hMr.out.2.2.2.2 g (kk * 32) hMr.out.1 vs
              have hC : IdsC (wr.setCells g (kk * 32) vs) g 0 (Mid.dd ms n) := by
                rw [← HT.out]
                intro j hj i v hv
                have hl : (M.take kk).length = kk := by rw [List.length_take]; have := HKN.out; omega
                rw [hl] at hj
                have hi : i < 32 := by
                  have := (List.getElem?_eq_some_iff.1 hv).1
                  rwa [encI_len] at this
                rw [getE _ j (by rw [hl]; exact hj), List.getElem_take] at hv
                rw [World.cell?_setCells_out g vs (kk * 32) wr ⟨g, 0 + j * 32 + i, none⟩ (fun _ _ => by simp only; omega)]
                exact hMr.out.2.2.1 j (by have := HKN.out; omega) i v (by rw [getE _ j (by have := HKN.out; omega)]; exact hv)
              have HB := Lib.hid hB
              have HC := Lib.hid hC
              clear hB hC hrun hMr hMl HT
              generalize wr.setCells g (kk * 32) vs = W2 at *
              simp only [Result.andThen]
              rw [Oper.upon_value]
              go_wp2_with fail
              go_ret
              exact ⟨by rw [HK.out]; rfl, HC.out, HB.out⟩
        · have heq := heqb false (decide_eq_false hxy)
          have hf2 : ∀ j, 1 ≤ j → j < d + 1 + 1 → ms[j]! ≠ ms[j - 1]! := by
            intro j h1 h2
            by_cases hj : j = d + 1
            · subst hj
              rw [show d + 1 - 1 = d from rfl, ← HXX.out, ← HYY.out]
              exact hxy
            · exact hf.out j h1 (by omega)
          have HF2 := Lib.hid hf2
          clear heqb hxy hf2
          go_wp2_with fail
          refine wp_region_held_drew (S := (fun w' => w'.rangeAt g ((d + 1) * 32) (encI x) ∧ w'.rangeAt g (d * 32) (encI y))) (by kernel_rfl) ?_ (fun hHeld => ?_)
          · exact HREL.out
          refine wpAnyH_take (i := 0) (v := ?_) rfl (by kernel_rfl) (by kernel_rfl) (by kernel_rfl) (fun _ _ _ h => h) (Or.inl ⟨by rfl, ?_⟩) (by assumption) ?_
          rotate_left
          · (intro w9 _; go_simp; try with_reducible rfl)
          simp only [Act.put, List.getElem_toArray, List.getElem_cons_zero, List.setIfInBounds_toArray, List.set_cons_succ, List.set_cons_zero]
          refine wpAnyH_take (i := 1) (v := ?_) rfl (by kernel_rfl) (by kernel_rfl) (by kernel_rfl) (fun _ _ _ h => h) (Or.inl ⟨by rfl, ?_⟩) (by assumption) ?_
          rotate_left
          · (intro w9 _; go_simp; try with_reducible rfl)
          simp only [Act.put, List.getElem_toArray, List.getElem_cons_succ, List.getElem_cons_zero, List.setIfInBounds_toArray, List.set_cons_succ, List.set_cons_zero]
          refine wpAnyH_take (i := 2) (v := ?_) rfl (by kernel_rfl) (by kernel_rfl) (by kernel_rfl) (fun _ _ _ h => h) (Or.inl ⟨by rfl, ?_⟩) (by assumption) ?_
          rotate_left
          · (intro w9 _; go_simp; try with_reducible rfl)
          simp only [Act.put, List.getElem_toArray, List.getElem_cons_succ, List.getElem_cons_zero, List.setIfInBounds_toArray, List.set_cons_succ, List.set_cons_zero]
          refine wpAnyH_take (i := 3) (v := .agg (encI x).toArray) rfl (by kernel_rfl) (by kernel_rfl) (by kernel_rfl) (fun _ _ _ h => h) (yieldsIf_load_mid (by rfl) _ _ rfl _ _ rfl (encI x) _ (fun _ h => h.1) hu23 rfl hiX) (by assumption) ?_
          simp only [Act.put, List.getElem_toArray, List.getElem_cons_succ, List.getElem_cons_zero, List.setIfInBounds_toArray, List.set_cons_succ, List.set_cons_zero]
          refine wpAnyH_take (i := 4) (v := ?_) rfl (by kernel_rfl) (by kernel_rfl) (by kernel_rfl) (fun _ _ _ h => h) (Or.inl ⟨by rfl, ?_⟩) (by assumption) ?_
          rotate_left
          · (intro w9 _; go_simp; try with_reducible rfl)
          simp only [Act.put, List.getElem_toArray, List.getElem_cons_succ, List.getElem_cons_zero, List.setIfInBounds_toArray, List.set_cons_succ, List.set_cons_zero]
          refine wpAnyH_take (i := 5) (v := ?_) rfl (by kernel_rfl) (by kernel_rfl) (by kernel_rfl) (fun _ _ _ h => h) (Or.inl ⟨by rfl, ?_⟩) (by assumption) ?_
          rotate_left
          · (intro w9 _; go_simp; try with_reducible rfl)
          simp only [Act.put, List.getElem_toArray, List.getElem_cons_succ, List.getElem_cons_zero, List.setIfInBounds_toArray, List.set_cons_succ, List.set_cons_zero]
          refine wpAnyH_take (i := 6) (v := ?_) rfl (by kernel_rfl) (by kernel_rfl) (by kernel_rfl) (fun _ _ _ h => h) (Or.inl ⟨by rfl, ?_⟩) (by assumption) ?_
          rotate_left
          · (intro w9 _; go_simp; try with_reducible rfl)
          simp only [Act.put, List.getElem_toArray, List.getElem_cons_succ, List.getElem_cons_zero, List.setIfInBounds_toArray, List.set_cons_succ, List.set_cons_zero]
          refine wpAnyH_take (i := 7) (v := ?_) rfl (by kernel_rfl) (by kernel_rfl) (by kernel_rfl) (fun _ _ _ h => h) (Or.inl ⟨by rfl, ?_⟩) (by assumption) ?_
          rotate_left
          · (intro w9 _; go_simp; try with_reducible rfl)
          simp only [Act.put, List.getElem_toArray, List.getElem_cons_succ, List.getElem_cons_zero, List.setIfInBounds_toArray, List.set_cons_succ, List.set_cons_zero]
          refine wpAnyH_take (i := 8) (v := .agg (encI y).toArray) rfl (by kernel_rfl) (by kernel_rfl) (by kernel_rfl) (fun _ _ _ h => h) (yieldsIf_load_mid (by rfl) _ _ rfl _ _ rfl (encI y) _ (fun _ h => h.2) hu23 rfl hiY) (by assumption) ?_
          simp only [Act.put, List.getElem_toArray, List.getElem_cons_succ, List.getElem_cons_zero, List.setIfInBounds_toArray, List.set_cons_succ, List.set_cons_zero]
          refine wpAnyH_take (i := 9) (v := ?_) rfl (by kernel_rfl) (by kernel_rfl) (by kernel_rfl) (fun _ _ _ h => h) (Or.inl ⟨by rfl, ?_⟩) (by assumption) ?_
          rotate_left
          · (intro w9 _; go_simp; try with_reducible rfl)
          simp only [Act.put, List.getElem_toArray, List.getElem_cons_succ, List.getElem_cons_zero, List.setIfInBounds_toArray, List.set_cons_succ, List.set_cons_zero]
          refine wpAnyH_done (by kernel_rfl) ?_ _
          clear heq hHeld
          go_wp2_with fail
          go_roundw
          case rel => exact ⟨d + 1, by go_num, by omega, HF2, Lib.hid hM.out.drew⟩
          case measure => simp [intOf]; omega
      · have hdn : d + 1 = n := by omega
        have hdd : Mid.dd ms n = ms := by
          rw [Mid.dd_plain ms n (by rw [← HN.out]; exact Nat.le_refl _) (by rw [← hdn]; exact hf.out)]
          exact List.take_of_length_le (by rw [← HN.out]; exact Nat.le_refl _)
        have HDD := Lib.hid hdd
        have hfin : IdsC wr g 0 ms ∧ Below base w0 wr := ⟨hM.out.2.2.1, hM.out.2.2.2.2⟩
        have HFIN := Lib.hid hfin
        have hnlt : ¬ (d : Int) + 1 < (n : Int) := by omega
        clear hdd hdn hf hfin hM
        go_wp2_with fail
        go_ret
        exact ⟨by rw [HDD.out, ← HN.out]; rfl, by rw [HDD.out]; exact HFIN.out.1, HFIN.out.2⟩
end Go.Proofs.Yteoknmdoghemmaa
