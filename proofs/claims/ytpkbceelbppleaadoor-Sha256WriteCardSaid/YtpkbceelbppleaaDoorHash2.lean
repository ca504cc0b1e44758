/- Hash: Clone, Sum. -/
import Derived.Test.YtpkbceelbppleaaDoorHash1
namespace Go.Proofs.YtpkbceelbppleaaDoor
open Go.RowKit

theorem infoHash : (Tryd.prog.info? 66).map (·.size) = some 73 := by kernel_rfl
theorem hashC_one (s : S5.St) (r : List Nat) (n : Nat) : (hashC s r n).all (·.oneCell') = true := by
  simp [hashC, stC, bsC, Value.oneCell']

theorem zeroHash (w : World) : (zeroValue 66).run Tryd.prog w = .ok (.agg (hashC ⟨0, 0, 0, 0, 0, 0, 0, 0⟩ r0 0)) w := by kernel_rfl

set_option maxRecDepth 100000 in
set_option maxHeartbeats 1000000 in
theorem clone_any (w : World) (g : Nat) (l : List Nat) (h : HashIs w g l) : Calls Tryd.prog 21 #[.pointer (some ⟨g, 0, none⟩)] w fun e w' => ∃ g', e = .returned (.pointer (some ⟨g', 0, none⟩)) ∧ Hid (HashIs w' g' l) ∧ Hid (w.heap.size ≤ g') ∧ Below w.heap.size w w' := by
  obtain ⟨r, hr, hrb, htl, hmax, hB⟩ := h
  obtain ⟨C, hC⟩ : ∃ C, C = hashC (S5.runAll S5.K S5.init l) r l.length := ⟨_, rfl⟩
  have hsz : C.size = 73 := by rw [hC]; exact hashC_size _ _ _ hr
  have hone : C.all (·.oneCell') = true := by rw [hC]; exact hashC_one _ _ _
  rw [← hC] at hB
  have HSZ := Lib.hid hsz; have HONE := Lib.hid hone; have K := Lib.hid hB
  have HH := Lib.hid (show ∀ W g', Blk W g' 66 C → HashIs W g' l from fun W g' h => ⟨r, hr, hrb, htl, hmax, by rw [← hC]; exact h⟩)
  clear hr hrb htl hmax hC hsz hone hB
  have hzero : ∀ w : World, (zeroValue 66).run Tryd.prog w = .ok (.agg (hashC ⟨0, 0, 0, 0, 0, 0, 0, 0⟩ r0 0)) w := fun w => zeroHash w
  go_enter Tryd.func21, Tryd.ntmps21
  go_wp2_with (first
    | (refine wpList_load_row (by rfl) _ _ (by rfl) g (by rfl) _ _ _ _ K.out Tryd.underlying66 rfl (by rw [HSZ.out]; exact infoHash) ?_)
    | (refine wpList_store_row (by rfl) _ _ _ (by rfl) w.heap.size C (by rfl) (by rfl) _ _ (Blk.fresh w _ _) (by rw [HSZ.out]; exact infoHash) (by rw [HSZ.out, hashC_size _ _ _ (by decide)]) HONE.out ?_))
  go_ret
  refine ⟨_, rfl, Lib.hid (HH.out _ _ ((Blk.fresh w _ _).row C)), Lib.hid (Nat.le_refl _), below_row ((Below.refl _ w).alloc (Nat.le_refl _) _) _ (Nat.le_refl _) _⟩

theorem finish_x (s : S5.St) (v : Value) (r : List Nat) (n : Nat) (hr : r.length < 64) (hn : n ≤ 1000000000) (w : World) (hT : Tab w) (hv : Bytes w v r) :
    Calls Tryd.prog 28 #[.agg #[.int .u32 s.a, .int .u32 s.b, .int .u32 s.c, .int .u32 s.d, .int .u32 s.e, .int .u32 s.f, .int .u32 s.g, .int .u32 s.h], v, .int .i64 n] w fun e w' => e = .returned (.agg (bsC (S5.digest (S5.runAll S5.K s (S5.lastB r n))))) ∧ Below w.heap.size w w' :=
  finish_any s v r n hr hn w hT hv

/-- the front of the rest -/
theorem hash_front {w : World} {g : Nat} {s : S5.St} {r : List Nat} {n : Nat} (hr : r.length = 64) (hrb : ∀ x ∈ r, x < 256) (h : Blk w g 66 (hashC s r n)) (m : Nat) (hm : m ≤ 64) : Bytes w (.slice (some ⟨g, 8, none⟩) m 64) (r.take m) := by
  have hl : (r.take m).length = m := by rw [List.length_take]; omega
  refine ⟨fun x hx => hrb x (List.mem_of_mem_take hx), some ⟨g, 8, none⟩, 64, by rw [hl], by rw [hl]; exact hm, by unfold maxLen; omega, (fun h => by cases h), fun i hi => ⟨g, 8, rfl, ?_⟩⟩
  rw [hl] at hi
  rw [h.cell, hashC_rest hr i (by omega)]
  congr 2
  simp [List.getD_eq_getElem?_getD, hi]

theorem hash_cells {w : World} {g : Nat} {s : S5.St} {r : List Nat} {n : Nat} (h : Blk w g 66 (hashC s r n)) : w.cell? ⟨g, 0, none⟩ = some (.int .u32 s.a) ∧ w.cell? ⟨g, 1, none⟩ = some (.int .u32 s.b) ∧ w.cell? ⟨g, 2, none⟩ = some (.int .u32 s.c) ∧ w.cell? ⟨g, 3, none⟩ = some (.int .u32 s.d) ∧ w.cell? ⟨g, 4, none⟩ = some (.int .u32 s.e) ∧ w.cell? ⟨g, 5, none⟩ = some (.int .u32 s.f) ∧ w.cell? ⟨g, 6, none⟩ = some (.int .u32 s.g) ∧ w.cell? ⟨g, 7, none⟩ = some (.int .u32 s.h) :=
  ⟨by rw [h.cell, hashC_state 0 (by omega)]; rfl, by rw [h.cell, hashC_state 1 (by omega)]; rfl, by rw [h.cell, hashC_state 2 (by omega)]; rfl, by rw [h.cell, hashC_state 3 (by omega)]; rfl, by rw [h.cell, hashC_state 4 (by omega)]; rfl, by rw [h.cell, hashC_state 5 (by omega)]; rfl, by rw [h.cell, hashC_state 6 (by omega)]; rfl, by rw [h.cell, hashC_state 7 (by omega)]; rfl⟩

set_option maxRecDepth 100000 in
set_option maxHeartbeats 2000000 in
theorem hsum_any (w : World) (hT : Tab w) (g : Nat) (l : List Nat) (h : HashIs w g l) : Calls Tryd.prog 19 #[.pointer (some ⟨g, 0, none⟩)] w fun e w' => e = .returned (.agg (bsC (S5.sha S5.K l))) ∧ Below w.heap.size w w' := by
  have hp := hT.1
  obtain ⟨r, hr, hrb, htl, hmax, hB⟩ := h
  obtain ⟨D, hD⟩ : ∃ D, D = S5.sha S5.K l := ⟨_, rfl⟩
  have HDL := Lib.hid (show D.length = 32 by rw [hD]; exact sha_len l)
  obtain ⟨s, hs⟩ : ∃ s, s = S5.runAll S5.K S5.init l := ⟨_, rfl⟩
  obtain ⟨m, hm⟩ : ∃ m, m = l.length % 64 := ⟨_, rfl⟩
  have hDs : S5.digest (S5.runAll S5.K s (S5.lastB (S5.tail l) l.length)) = D := by rw [hs, hD]; exact sum_eq l
  rw [← hm] at htl
  rw [← hs] at hB
  have HF := Lib.hid (fun w hT hv => finish_x s (.slice (some ⟨g, 8, none⟩) m 64) (S5.tail l) l.length (by rw [S5.tail_len]; omega) (by omega) w hT hv)
  rw [hDs] at HF
  have K := Lib.hid hB
  have HFR := Lib.hid (show ∀ W, Blk W g 66 (hashC s r l.length) → Bytes W (.slice (some ⟨g, 8, none⟩) m 64) (S5.tail l) from fun W hW => by
    rw [← htl]
    exact hash_front hr hrb hW m (by omega))
  have HN := Lib.hid (show ∀ W, Blk W g 66 (hashC s r l.length) → W.cell? ⟨g, 72, none⟩ = some (.int .i64 l.length) from fun W hW => by rw [hW.cell, hashC_n hr])
  have hmI : (m : Int) ≤ 64 := by omega
  have hrem : ((l.length : Int)).tmod 64 = (m : Int) := by rw [Int.tmod_eq_emod_of_nonneg (by omega)]; omega
  have HD := Lib.hid hD
  clear hD hs hm hDs hr hrb htl hmax hB
  go_enter Tryd.func19, Tryd.ntmps19
  go_upto_region 1 with (fail)
  change Code.wp Tryd.prog _ _ _ (w.alloc (.cells (bsC zD) 25))
  generalize hW0 : w.alloc (.cells (bsC zD) 25) = W0
  have B0 := Lib.hid (show Below w.heap.size w W0 by rw [← hW0]; exact (Below.refl _ w).alloc (Nat.le_refl _) _)
  have R0 := Lib.hid (show Blk W0 w.heap.size 25 (bsC zD) by rw [← hW0]; exact Blk.fresh w _ _)
  have K0 := Lib.hid (show Blk W0 g 66 (hashC s r l.length) by rw [← hW0]; exact K.out.more _)
  clear hW0
  go_wp2_with fail
  have hcn := HN.out _ K0.out.draw
  obtain ⟨c0, c1, c2, c3, c4, c5, c6, c7⟩ := hash_cells K0.out.draw
  refine wp_region_still_tail 17 (by kernel_rfl) (by kernel_rfl) ?_
  simp only [List.take_succ_cons, List.take_zero, List.drop_succ_cons, List.drop_zero]
  change wpStill _ _ W0.drew (fun a' => wpList _ _ _ _ a' W0.drew) _ _
  repeat still_step
  refine wpStill_nil ?_
  go_wp2_with (first
    | (go_at_call 28; refine (HF.out _ (hT.below B0.out.drew hp) (HFR.out _ K0.out.draw)).mono ?_; rintro e w1 ⟨rfl, hb1⟩; have B1 := Lib.hid (B0.out.drew.trans (hb1.mono B0.out.drew.size)); have R1 := Lib.hid (R0.out.draw.keep hb1 R0.out.draw.lt); clear hb1)
    | (refine sto_dg _ D HDL.out _ R1.out (by rfl) (by rfl) _ _ (by rfl) (by rfl) (by rfl) ?_; intro w2 hw2))
  have hf : Blk w2 w.heap.size 25 (bsC D) := by rw [hw2.out]; exact R1.out.row _
  have hfB : Below w.heap.size w w2 := by rw [hw2.out]; exact below_row B1.out _ (Nat.le_refl _) _
  exact bodyPost_ret (results_cell_row rfl _ _ w.heap.size _ _ _ _ rfl hf Tryd.underlying25 rfl (infoDg D HDL.out)) rfl ⟨by rw [HD.out], hfB⟩
end Go.Proofs.YtpkbceelbppleaaDoor
