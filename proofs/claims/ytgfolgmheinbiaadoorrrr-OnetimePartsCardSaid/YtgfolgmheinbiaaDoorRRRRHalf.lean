/- The reference's Half and head. -/
import Derived.Test.YtgfolgmheinbiaaDoorRRRMid7
import Derived.Test.YtgfolgmheinbiaaDoorRRRSevPlain
import Derived.Test.YtgfolgmheinbiaaDoorRRRRefSum
import Derived.Deep.CutRange
namespace Go.Proofs.YtgfolgmheinbiaaDoorRRR
open Go.RowKit

theorem infoRV : (Tryd.prog.info? 36).map (·.size) = some 16 := by kernel_rfl
theorem take_set_next (V D : List Int) (i : Nat) (hi : i < V.length) (hd : i < D.length) (h : V.take i = D.take i) : (V.set i (D.getD i 0)).take (i + 1) = D.take (i + 1) := by
  rw [List.take_add_one, List.getElem?_set_self hi, List.take_set_of_le (Nat.le_refl _), h, List.take_add_one, List.getElem?_eq_getElem hd, List.getD_eq_getElem?_getD, List.getElem?_eq_getElem hd]
  rfl

set_option maxRecDepth 100000 in
set_option maxHeartbeats 1000000 in
theorem rHalf_any (v : Value) (l : List Nat) (hn : l.length ≤ 100000000) (w : World) (hv : Bytes w v l) :
    Calls Tryd.prog 40 #[v] w fun e w' => e = .returned (.agg (bsC (nI (S7.half l)))) ∧ Below w.heap.size w w' := by
  have HV := Lib.hid hv
  obtain ⟨D, hD⟩ : ∃ D, D = S5.sha S5.K l := ⟨_, rfl⟩
  have HS := Lib.hid (fun w hv => refSum_any v l hn w hv)
  rw [← hD] at HS
  have HDL := Lib.hid (show D.length = 32 by rw [hD]; exact sha_len l)
  have HD := Lib.hid (show nI (S7.half l) = D.take 16 by rw [hD]; exact (S7.half_spec l).1)
  clear hD hv
  go_enter Tryd.func40, Tryd.ntmps40
  go_upto_region 1 with (fail)
  change Code.wp Tryd.prog _ _ _ (w.alloc (.cells (bsC z16) 36))
  generalize hW0 : w.alloc (.cells (bsC z16) 36) = W0
  have B0 := Lib.hid (show Below w.heap.size w W0 by rw [← hW0]; exact (Below.refl _ w).alloc (Nat.le_refl _) _)
  have R0 := Lib.hid (show Blk W0 w.heap.size 36 (bsC z16) by rw [← hW0]; exact Blk.fresh w _ _)
  clear hW0
  go_upto_region 2 with (first
    | (go_at_call 53; refine (HS.out _ (HV.out.below B0.out)).mono ?_; rintro e w1 ⟨rfl, hb1⟩; have B1 := Lib.hid (B0.out.trans (hb1.mono B0.out.size)); have R1 := Lib.hid (R0.out.keep hb1 R0.out.lt); clear hb1)
    | (refine sto_bs info32u _ D HDL.out _ (Blk.fresh w1 _ _) (by rfl) (by rfl) _ _ (by rfl) (by rfl) (by rfl) ?_; intro w2 hw2; have K2 := Lib.hid (show Blk w2 w1.heap.size 31 (bsC D) by rw [hw2.out]; exact (Blk.fresh w1 _ _).row _); have R2 := Lib.hid (show Blk w2 w.heap.size 36 (bsC z16) by rw [hw2.out]; exact (R1.out.more _).far (by have := R1.out.lt; omega) _); have B2 := Lib.hid (show Below w.heap.size w w2 by rw [hw2.out]; exact below_row (B1.out.alloc B1.out.size _) _ B1.out.size _); clear hw2))
  go_upto_region 3 with (fail)
  change Code.wp Tryd.prog _ _ _ (w2.alloc (.cells (bsC z16) 36))
  generalize hW3 : w2.alloc (.cells (bsC z16) 36) = w3
  have O3 := Lib.hid (show Blk w3 w2.heap.size 36 (bsC z16) by rw [← hW3]; exact Blk.fresh w2 _ _)
  have K3 := Lib.hid (show Blk w3 w1.heap.size 31 (bsC D) by rw [← hW3]; exact K2.out.more _)
  have R3 := Lib.hid (show Blk w3 w.heap.size 36 (bsC z16) by rw [← hW3]; exact R2.out.more _)
  have B3 := Lib.hid (show Below w.heap.size w w3 by rw [← hW3]; exact B2.out.alloc B2.out.size _)
  have o1 : w.heap.size < w2.heap.size := R2.out.lt
  have o2 : w1.heap.size < w2.heap.size := K2.out.lt
  have o0 : w.heap.size ≤ w1.heap.size := B1.out.size
  clear hW3 R0 B0 R1 B1 K2 R2 B2
  generalize w1.heap.size = g1 at *
  generalize w2.heap.size = g2 at *
  go_wp2_with fail
  go_loopw [5] (fun iv wr => ∃ (i : Nat) (V : List Int), iv = .int .i64 i ∧ i ≤ 16 ∧ Hid (V.length = 16) ∧ Hid (V.take i = D.take i) ∧ Blk wr g2 36 (bsC V) ∧ Blk wr g1 31 (bsC D) ∧ Blk wr w.heap.size 36 (bsC z16) ∧ Below w.heap.size w wr) (fun iv _ => 16 - (intOf iv).toNat)
  case atStart => exact ⟨0, z16, rfl, by omega, Lib.hid z16_len, Lib.hid rfl, O3.out, K3.out, R3.out, B3.out⟩
  case round =>
    clear O3 K3 R3 B3
    obtain ⟨i, V, rfl, hi, HVL, HT, hO, hK, hR, hB⟩ := hrel
    have O := Lib.hid hO; have K := Lib.hid hK; have R := Lib.hid hR; have B := Lib.hid hB
    clear hO hK hR hB
    by_cases hlt : i < 16
    · have hiI : (i : Int) < 16 := by omega
      have hiI2 : (i : Int) < 32 := by omega
      have c1 := K.out.cell i
      rw [bsC_get D i (by rw [HDL.out]; omega)] at c1
      have c2 := O.out.cell i
      rw [bsC_get V i (by rw [HVL.out]; omega)] at c2
      have f2 := O.out.free i
      go_wp2_with fail
      go_roundw
      case rel => exact ⟨i + 1, V.set i (D.getD i 0), by go_num, by omega, Lib.hid (by rw [List.length_set]; exact HVL.out), Lib.hid (take_set_next V D i (by rw [HVL.out]; exact hlt) (by rw [HDL.out]; omega) HT.out), by rw [← bsC_set]; exact O.out.put i _, K.out.away (by omega) i _, R.out.away (by omega) i _, below_put B.out _ _ (by omega) _⟩
      case measure => simp [intOf]; omega
    · obtain rfl : i = 16 := by omega
      have hVD : V = D.take 16 := by rw [← HT.out, List.take_of_length_le (by rw [HVL.out]; exact Nat.le_refl _)]
      have HVD := Lib.hid hVD
      clear hVD
      go_wp2_with (first
        | (refine ld_bs Tryd.underlying36 infoRV _ V HVL.out O.out (by rfl) _ (by rfl) (by rfl) ?_)
        | (refine sto_bs infoRV _ V HVL.out _ R.out (by rw [bsC_size]; exact z16_len) (by rfl) _ _ (by rfl) (by rfl) (by rfl) ?_; intro w5 hw5))
      have hf : Blk w5 w.heap.size 36 (bsC V) := by rw [hw5.out]; exact R.out.row _
      have hfB : Below w.heap.size w w5 := by rw [hw5.out]; exact below_row B.out _ (Nat.le_refl _) _
      exact bodyPost_ret (results_cell_row rfl _ _ w.heap.size _ _ _ _ rfl hf Tryd.underlying36 rfl (by rw [bsC_size, HVL.out]; exact infoRV)) rfl ⟨by rw [HD.out, HVD.out], hfB⟩
end Go.Proofs.YtgfolgmheinbiaaDoorRRR
