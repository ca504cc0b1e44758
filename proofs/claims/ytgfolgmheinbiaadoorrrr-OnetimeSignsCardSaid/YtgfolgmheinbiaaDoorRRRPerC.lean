/- The program's perChain. (Written by mk_perc.py.) -/
import Derived.Test.YtgfolgmheinbiaaDoorRRRWrap7
import Derived.Shelf.Abstract
namespace Go.Proofs.YtgfolgmheinbiaaDoorRRR
open Go.RowKit

def pre (f : Nat → List Nat) (i : Nat) : List Nat := (List.range i).flatMap f
theorem pre_next (f : Nat → List Nat) (i : Nat) : pre f (i + 1) = pre f i ++ f i := by
  unfold pre
  rw [List.range_succ, List.flatMap_append]
  simp
theorem pre_len (f : Nat → List Nat) (hf : ∀ i, i < 35 → (f i).length = 16) : ∀ i, i ≤ 35 → (pre f i).length = 16 * i
  | 0, _ => rfl
  | i + 1, h => by rw [pre_next, List.length_append, pre_len f hf i (by omega), hf i (by omega)]; omega
theorem pre_lt (f : Nat → List Nat) (hf : ∀ i, i < 35 → ∀ x ∈ f i, x < 256) : ∀ i, i ≤ 35 → ∀ x ∈ pre f i, x < 256
  | 0, _ => fun x hx => by cases hx
  | i + 1, h => by rw [pre_next]; exact S7.app_lt (pre_lt f hf i (by omega)) (hf i (by omega))
def zs (n : Nat) : List Int := List.replicate n 0
theorem pre_step (f : Nat → List Nat) (hf : ∀ i, i < 35 → (f i).length = 16) (i : Nat) (hi : i < 35) (o : Nat) (ho : o = 16 * i) : splice (nI (pre f i) ++ zs (560 - 16 * i)) o (nI (f i)) = nI (pre f (i + 1)) ++ zs (560 - 16 * (i + 1)) := by
  subst ho
  rw [splice_mid (n := 16) _ _ _ (by rw [nI_len]; exact hf i hi) (by rw [nI_len]; exact pre_len f hf i (by omega)), pre_next]
  unfold nI zs
  rw [List.map_append, List.drop_replicate, show 560 - 16 * i - 16 = 560 - 16 * (i + 1) by omega]

set_option maxRecDepth 100000 in
set_option maxHeartbeats 4000000 in
theorem perChain2_any (F : FuncId) (c1 c2 : Value) (f : Nat → List Nat) (hf : ∀ i, i < 35 → (f i).length = 16) (w : World) (hE : ∀ args w, (callFunc F args).run Tryd.prog w = .ok (.enter F args) w)
    (hF : ∀ i : Nat, i < 35 → ∀ W, Below w.heap.size w W → Calls Tryd.prog F #[.int .i64 i, c1, c2] W fun e w' => e = .returned (.agg (bsC (nI (f i)))) ∧ Below W.heap.size W w') :
    Calls Tryd.prog 44 #[.func (.func F) #[] #[c1, c2]] w fun e w' => e = .returned (.agg (bsC (nI (pre f 35)))) ∧ Below w.heap.size w w' := by
  have HF := Lib.hid hF; have HFL := Lib.hid hf
  clear hF hf
  go_enter Tryd.func44, Tryd.ntmps44
  go_upto_region 2 with (fail)
  change Code.wp Tryd.prog _ _ _ ((w.alloc (.cells (bsC (zs 560)) 51)).alloc (.cells (bsC (zs 560)) 51))
  generalize hW0 : (w.alloc (.cells (bsC (zs 560)) 51)).alloc (.cells (bsC (zs 560)) 51) = W0
  obtain ⟨hb1, hb2, hB0⟩ := boxes2 w hW0
  have R0 := Lib.hid hb1; have K0 := Lib.hid hb2; have B0 := Lib.hid hB0
  clear hW0 hb1 hb2 hB0
  obtain ⟨g2, hg2⟩ : ∃ g2, g2 = w.heap.size + 1 := ⟨_, rfl⟩
  rw [← hg2] at K0 ⊢
  have o2 : w.heap.size < g2 := by omega
  clear hg2
  go_wp2_with fail
  go_loopw [5] (fun iv wr => ∃ i : Nat, iv = .int .i64 i ∧ i ≤ 35 ∧ Blk wr g2 51 (bsC (nI (pre f i) ++ zs (560 - 16 * i))) ∧ Blk wr w.heap.size 51 (bsC (zs 560)) ∧ Below w.heap.size w wr) (fun iv _ => 35 - (intOf iv).toNat)
  case atStart => exact ⟨0, rfl, by omega, K0.out, R0.out, B0.out⟩
  case round =>
    clear K0 R0 B0
    obtain ⟨i, rfl, hi, hK, hR, hB⟩ := hrel
    have K := Lib.hid hK; have R := Lib.hid hR; have BB := Lib.hid hB
    clear hK hR hB
    by_cases hlt : i < 35
    · have hiI : (i : Int) < 35 := by omega
      obtain ⟨L, hL⟩ : ∃ L, L = nI (pre f i) ++ zs (560 - 16 * i) := ⟨_, rfl⟩
      have hLL : L.length = 560 := by rw [hL, List.length_append, nI_len, pre_len f HFL.out i (by omega)]; unfold zs; rw [List.length_replicate]; omega
      have hst := pre_step f HFL.out i hlt (i * 16) (Nat.mul_comm _ _)
      rw [← hL] at K hst
      obtain ⟨V, hV⟩ : ∃ V, V = nI (f i) := ⟨_, rfl⟩
      have HVL := Lib.hid (show V.length = 16 by rw [hV, nI_len]; exact HFL.out i hlt)
      have HC := Lib.hid (HF.out i hlt)
      rw [← hV] at hst HC
      have HST := Lib.hid hst; have HLL := Lib.hid hLL; have HLT := Lib.hid hlt
      clear hL hV hst hLL
      go_wp2_with (first
        | (go_at_fn F; refine (HC.out _ BB.out).mono ?_; rintro e w1 ⟨rfl, hb⟩; have K1 := Lib.hid (K.out.keep hb K.out.lt); have R1 := Lib.hid (R.out.keep hb R.out.lt); have B1 := Lib.hid (BB.out.trans (hb.mono BB.out.size)); clear hb)
        | (refine sto_mid (T := 22) info16u g2 _ L (i * 16) V HVL.out (by have := HLL.out; have := HLT.out; omega) K1.out (by rfl) _ _ (by rfl) (by rfl) (by rfl) ?_; intro w2 hw2 hw3 hw4))
      go_roundw
      case rel => exact ⟨i + 1, by go_num, by omega, by rw [← HST.out]; exact hw2.out, (hw3.out _ (by omega)).trans R1.out, hw4.out _ _ B1.out (by omega)⟩
      case measure => simp [intOf]; omega
    · obtain rfl : i = 35 := by omega
      obtain ⟨L, hL⟩ : ∃ L, L = nI (pre f 35) := ⟨_, rfl⟩
      have hK2 : Blk wr g2 51 (bsC L) := by
        have h := K.out
        rw [show zs (560 - 16 * 35) = [] from rfl, List.append_nil, ← hL] at h
        exact h
      have HK2 := Lib.hid hK2
      have HLL := Lib.hid (show L.length = 560 by rw [hL, nI_len, pre_len f HFL.out 35 (by omega)])
      have HLE := Lib.hid hL
      clear hK2 hL
      go_wp2_with (first
        | (refine ld_any Tryd.underlying51 infoVs _ L HLL.out HK2.out (by rfl) _ (by rfl) (by rfl) ?_)
        | (refine sto_bs infoVs _ L HLL.out _ R.out (by rw [bsC_size]; unfold zs; rw [List.length_replicate]) (by rfl) _ _ (by rfl) (by rfl) (by rfl) ?_; intro w5 hw5))
      have hf5 : Blk w5 w.heap.size 51 (bsC L) := by rw [hw5.out]; exact R.out.row _
      have hfB : Below w.heap.size w w5 := by rw [hw5.out]; exact below_row BB.out _ (Nat.le_refl _) _
      exact bodyPost_ret (results_cell_row rfl _ _ w.heap.size _ _ _ _ rfl hf5 Tryd.underlying51 rfl (by rw [bsC_size, HLL.out]; exact infoVs)) rfl ⟨by rw [HLE.out], hfB⟩

set_option maxRecDepth 100000 in
set_option maxHeartbeats 4000000 in
theorem perChain3_any (F : FuncId) (c1 c2 c3 : Value) (f : Nat → List Nat) (hf : ∀ i, i < 35 → (f i).length = 16) (w : World) (hE : ∀ args w, (callFunc F args).run Tryd.prog w = .ok (.enter F args) w)
    (hF : ∀ i : Nat, i < 35 → ∀ W, Below w.heap.size w W → Calls Tryd.prog F #[.int .i64 i, c1, c2, c3] W fun e w' => e = .returned (.agg (bsC (nI (f i)))) ∧ Below W.heap.size W w') :
    Calls Tryd.prog 44 #[.func (.func F) #[] #[c1, c2, c3]] w fun e w' => e = .returned (.agg (bsC (nI (pre f 35)))) ∧ Below w.heap.size w w' := by
  have HF := Lib.hid hF; have HFL := Lib.hid hf
  clear hF hf
  go_enter Tryd.func44, Tryd.ntmps44
  go_upto_region 2 with (fail)
  change Code.wp Tryd.prog _ _ _ ((w.alloc (.cells (bsC (zs 560)) 51)).alloc (.cells (bsC (zs 560)) 51))
  generalize hW0 : (w.alloc (.cells (bsC (zs 560)) 51)).alloc (.cells (bsC (zs 560)) 51) = W0
  obtain ⟨hb1, hb2, hB0⟩ := boxes2 w hW0
  have R0 := Lib.hid hb1; have K0 := Lib.hid hb2; have B0 := Lib.hid hB0
  clear hW0 hb1 hb2 hB0
  obtain ⟨g2, hg2⟩ : ∃ g2, g2 = w.heap.size + 1 := ⟨_, rfl⟩
  rw [← hg2] at K0 ⊢
  have o2 : w.heap.size < g2 := by omega
  clear hg2
  go_wp2_with fail
  go_loopw [5] (fun iv wr => ∃ i : Nat, iv = .int .i64 i ∧ i ≤ 35 ∧ Blk wr g2 51 (bsC (nI (pre f i) ++ zs (560 - 16 * i))) ∧ Blk wr w.heap.size 51 (bsC (zs 560)) ∧ Below w.heap.size w wr) (fun iv _ => 35 - (intOf iv).toNat)
  case atStart => exact ⟨0, rfl, by omega, K0.out, R0.out, B0.out⟩
  case round =>
    clear K0 R0 B0
    obtain ⟨i, rfl, hi, hK, hR, hB⟩ := hrel
    have K := Lib.hid hK; have R := Lib.hid hR; have BB := Lib.hid hB
    clear hK hR hB
    by_cases hlt : i < 35
    · have hiI : (i : Int) < 35 := by omega
      obtain ⟨L, hL⟩ : ∃ L, L = nI (pre f i) ++ zs (560 - 16 * i) := ⟨_, rfl⟩
      have hLL : L.length = 560 := by rw [hL, List.length_append, nI_len, pre_len f HFL.out i (by omega)]; unfold zs; rw [List.length_replicate]; omega
      have hst := pre_step f HFL.out i hlt (i * 16) (Nat.mul_comm _ _)
      rw [← hL] at K hst
      obtain ⟨V, hV⟩ : ∃ V, V = nI (f i) := ⟨_, rfl⟩
      have HVL := Lib.hid (show V.length = 16 by rw [hV, nI_len]; exact HFL.out i hlt)
      have HC := Lib.hid (HF.out i hlt)
      rw [← hV] at hst HC
      have HST := Lib.hid hst; have HLL := Lib.hid hLL; have HLT := Lib.hid hlt
      clear hL hV hst hLL
      go_wp2_with (first
        | (go_at_fn F; refine (HC.out _ BB.out).mono ?_; rintro e w1 ⟨rfl, hb⟩; have K1 := Lib.hid (K.out.keep hb K.out.lt); have R1 := Lib.hid (R.out.keep hb R.out.lt); have B1 := Lib.hid (BB.out.trans (hb.mono BB.out.size)); clear hb)
        | (refine sto_mid (T := 22) info16u g2 _ L (i * 16) V HVL.out (by have := HLL.out; have := HLT.out; omega) K1.out (by rfl) _ _ (by rfl) (by rfl) (by rfl) ?_; intro w2 hw2 hw3 hw4))
      go_roundw
      case rel => exact ⟨i + 1, by go_num, by omega, by rw [← HST.out]; exact hw2.out, (hw3.out _ (by omega)).trans R1.out, hw4.out _ _ B1.out (by omega)⟩
      case measure => simp [intOf]; omega
    · obtain rfl : i = 35 := by omega
      obtain ⟨L, hL⟩ : ∃ L, L = nI (pre f 35) := ⟨_, rfl⟩
      have hK2 : Blk wr g2 51 (bsC L) := by
        have h := K.out
        rw [show zs (560 - 16 * 35) = [] from rfl, List.append_nil, ← hL] at h
        exact h
      have HK2 := Lib.hid hK2
      have HLL := Lib.hid (show L.length = 560 by rw [hL, nI_len, pre_len f HFL.out 35 (by omega)])
      have HLE := Lib.hid hL
      clear hK2 hL
      go_wp2_with (first
        | (refine ld_any Tryd.underlying51 infoVs _ L HLL.out HK2.out (by rfl) _ (by rfl) (by rfl) ?_)
        | (refine sto_bs infoVs _ L HLL.out _ R.out (by rw [bsC_size]; unfold zs; rw [List.length_replicate]) (by rfl) _ _ (by rfl) (by rfl) (by rfl) ?_; intro w5 hw5))
      have hf5 : Blk w5 w.heap.size 51 (bsC L) := by rw [hw5.out]; exact R.out.row _
      have hfB : Below w.heap.size w w5 := by rw [hw5.out]; exact below_row BB.out _ (Nat.le_refl _) _
      exact bodyPost_ret (results_cell_row rfl _ _ w.heap.size _ _ _ _ rfl hf5 Tryd.underlying51 rfl (by rw [bsC_size, HLL.out]; exact infoVs)) rfl ⟨by rw [HLE.out], hfB⟩

end Go.Proofs.YtgfolgmheinbiaaDoorRRR
