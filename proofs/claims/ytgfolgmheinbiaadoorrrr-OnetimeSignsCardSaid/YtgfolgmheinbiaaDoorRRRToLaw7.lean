/- The law's to; arrays of arrays of bytes compared. -/
import Derived.Test.YtgfolgmheinbiaaDoorRRRRecov
namespace Go.Proofs.YtgfolgmheinbiaaDoorRRR
open Go.RowKit

theorem part_row {T : TypeId} (hs : ∀ w, (Go.sizeOf T).run Tryd.prog w = .ok 16 w) (ha : ∀ w, (isAgg T).run Tryd.prog w = .ok true w) (L : List Int) (o : Nat) (w : World) : (part T (bsC L) o).run Tryd.prog w = .ok (.agg (bsC ((L.drop o).take 16))) w := by
  simp [part, ha, hs, go_sem]
  rw [part_mid]
theorem eqItems_rows {T : TypeId} (hu : Tryd.prog.underlying T = some (.array 16 5)) (hs : ∀ w, (Go.sizeOf T).run Tryd.prog w = .ok 16 w) (ha : ∀ w, (isAgg T).run Tryd.prog w = .ok true w) (d : Nat) (L : List Int) (hL : L.length = 560) (w : World) : ∀ (is : List Nat), (∀ i ∈ is, i < 35) →
    (Op.eqItems (d + 2) T 16 (bsC L) (bsC L) is).run Tryd.prog w = .ok true w
  | [], _ => by simp [Op.eqItems]
  | i :: is, h => by
    have hi := h i (by simp)
    have ih := eqItems_rows hu hs ha d L hL w is (fun j hj => h j (by simp [hj]))
    have p1 := part_row hs ha L (i * 16) w
    have hl : ((L.drop (i * 16)).take 16).length = 16 := by rw [List.length_take, List.length_drop, hL]; omega
    have p3 := eq_arr hu _ _ hl hl d w
    rw [decide_eq_true rfl] at p3
    simp only [Op.eqItems, Sem.run_bind, p1, p3, Result.andThen_ok]
    simpa using ih
theorem eq_rows {t T : TypeId} (ht : Tryd.prog.underlying t = some (.array 35 T)) (hu : Tryd.prog.underlying T = some (.array 16 5)) (hc : Tryd.prog.cellsOf T = 16) (hs : ∀ w, (Go.sizeOf T).run Tryd.prog w = .ok 16 w) (ha : ∀ w, (isAgg T).run Tryd.prog w = .ok true w) (L : List Int) (hL : L.length = 560) (w : World) :
    (Op.equalIn 10000 t (.agg (bsC L)) (.agg (bsC L))).run Tryd.prog w = .ok true w := by
  obtain ⟨i, hi⟩ := info_of_underlying hu
  rw [run_equalIn_array w 9999 _ _ ht hi, hc, eqItems_rows hu hs ha 9997 L hL w (List.range 35) (fun i hi => List.mem_range.1 hi)]

def row7 (s : List Nat) (c : Nat) : List Nat := (s.drop (c * 16)).take 16
theorem row7_len (s : List Nat) (hs : s.length = 560) (c : Nat) (hc : c < 35) : (row7 s c).length = 16 := by unfold row7; rw [List.length_take, List.length_drop, hs]; omega
theorem pre_row (s : List Nat) : ∀ i, pre (row7 s) i = s.take (16 * i)
  | 0 => by simp [pre]
  | i + 1 => by
    rw [pre_next, pre_row s i]
    unfold row7
    rw [Nat.mul_comm i 16, show 16 * (i + 1) = 16 * i + 16 by omega, List.take_add]

set_option maxRecDepth 100000 in
set_option maxHeartbeats 4000000 in
theorem to_any (s : List Nat) (hs : s.length = 560) (w : World) : Calls Tryd.prog 32 #[.agg (bsC (nI s))] w fun e w' => e = .returned (.agg (bsC (nI s))) ∧ Below w.heap.size w w' := by
  have HFL := Lib.hid (row7_len s hs)
  obtain ⟨D, hD⟩ : ∃ D, D = nI s := ⟨_, rfl⟩
  have HDL := Lib.hid (show D.length = 560 by rw [hD, nI_len, hs])
  have HDE := Lib.hid (show nI (pre (row7 s) 35) = D by rw [pre_row, List.take_of_length_le (by omega), hD])
  have HRW := Lib.hid (show ∀ c, (D.drop (c * 16)).take 16 = nI (row7 s c) from fun c => by rw [hD]; unfold row7 nI; rw [List.map_take, List.map_drop])
  rw [← hD]
  clear hD hs
  generalize row7 s = f at *
  go_enter Tryd.func32, Tryd.ntmps32
  go_upto_region 2 with (fail)
  change Code.wp Tryd.prog _ _ _ (((w.alloc (.cells (bsC D) 57)).alloc (.cells (bsC (zs 560)) 53)).alloc (.cells (bsC (zs 560)) 53))
  generalize hW0 : ((w.alloc (.cells (bsC D) 57)).alloc (.cells (bsC (zs 560)) 53)).alloc (.cells (bsC (zs 560)) 53) = W0
  obtain ⟨hb1, hb2, hb3, hB0⟩ := boxes3 w hW0
  have D0 := Lib.hid hb1; have R0 := Lib.hid hb2; have K0 := Lib.hid hb3; have B0 := Lib.hid hB0
  clear hW0 hb1 hb2 hb3 hB0
  obtain ⟨g2, hg2⟩ : ∃ g, g = w.heap.size + 1 := ⟨_, rfl⟩
  obtain ⟨g3, hg3⟩ : ∃ g, g = w.heap.size + 1 + 1 := ⟨_, rfl⟩
  rw [← hg3] at K0 ⊢
  rw [← hg2] at R0 ⊢
  have o2 : w.heap.size < g2 := by omega
  have o3 : g2 < g3 := by omega
  clear hg2 hg3
  go_wp2_with fail
  go_loopw [4] (fun iv wr => ∃ i : Nat, iv = .int .i64 i ∧ i ≤ 35 ∧ Blk wr g3 53 (bsC (nI (pre f i) ++ zs (560 - 16 * i))) ∧ Blk wr g2 53 (bsC (zs 560)) ∧ Blk wr w.heap.size 57 (bsC D) ∧ Below w.heap.size w wr) (fun iv _ => 35 - (intOf iv).toNat)
  case atStart => exact ⟨0, rfl, by omega, K0.out, R0.out, D0.out, B0.out⟩
  case round =>
    clear K0 R0 D0 B0
    obtain ⟨i, rfl, hi, hK, hR, hD, hB⟩ := hrel
    have K := Lib.hid hK; have R := Lib.hid hR; have BB := Lib.hid hB; have DD := Lib.hid hD
    clear hK hR hB hD
    by_cases hlt : i < 35
    · have hiI : (i : Int) < 35 := by omega
      obtain ⟨L, hL⟩ : ∃ L, L = nI (pre f i) ++ zs (560 - 16 * i) := ⟨_, rfl⟩
      have hLL : L.length = 560 := by rw [hL, List.length_append, nI_len, pre_len f HFL.out i (by omega)]; unfold zs; rw [List.length_replicate]; omega
      have hst := pre_step f HFL.out i hlt (i * 16) (Nat.mul_comm _ _)
      rw [← hL] at K hst
      obtain ⟨V, hV⟩ : ∃ V, V = (D.drop (i * 16)).take 16 := ⟨_, rfl⟩
      have HVL := Lib.hid (show V.length = 16 by rw [hV, HRW.out, nI_len]; exact HFL.out i hlt)
      rw [← HRW.out, ← hV] at hst
      have HST := Lib.hid hst; have HLL := Lib.hid hLL; have HLT := Lib.hid hlt; have HVE := Lib.hid hV
      clear hL hV hst hLL
      go_wp2_with (first
        | (refine ld_mid Tryd.underlying22 info16u w.heap.size _ D (i * 16) (by rw [HDL.out]; have := HLT.out; omega) DD.out (by rfl) _ (by rfl) (by rfl) ?_; rw [← HVE.out])
        | (refine sto_mid (T := 36) infoRV g3 _ L (i * 16) V HVL.out (by have := HLL.out; have := HLT.out; omega) K.out (by rfl) _ _ (by rfl) (by rfl) (by rfl) ?_; intro w2 hw2 hw3 hw4))
      go_roundw
      case rel => exact ⟨i + 1, by go_num, by omega, by rw [← HST.out]; exact hw2.out, (hw3.out _ (by omega)).trans R.out, (hw3.out _ (by omega)).trans DD.out, hw4.out _ _ BB.out (by omega)⟩
      case measure => simp [intOf]; omega
    · obtain rfl : i = 35 := by omega
      have hK2 : Blk wr g3 53 (bsC D) := by
        have h := K.out
        rw [show zs (560 - 16 * 35) = [] from rfl, List.append_nil, HDE.out] at h
        exact h
      have HK2 := Lib.hid hK2
      clear hK2
      go_wp2_with (first
        | (refine ld_any Tryd.underlying53 infoRs _ D HDL.out HK2.out (by rfl) _ (by rfl) (by rfl) ?_)
        | (refine sto_bs infoRs _ D HDL.out _ R.out (by rw [bsC_size]; exact zs_len 560) (by rfl) _ _ (by rfl) (by rfl) (by rfl) ?_; intro w5 hw5))
      have hf5 : Blk w5 g2 53 (bsC D) := by rw [hw5.out]; exact R.out.row _
      have hfB : Below w.heap.size w w5 := by rw [hw5.out]; exact below_row BB.out _ (by omega) _
      exact bodyPost_ret (results_cell_row rfl _ _ g2 _ _ _ _ rfl hf5 Tryd.underlying53 rfl (by rw [bsC_size, HDL.out]; exact infoRs)) rfl ⟨rfl, hfB⟩
end Go.Proofs.YtgfolgmheinbiaaDoorRRR
