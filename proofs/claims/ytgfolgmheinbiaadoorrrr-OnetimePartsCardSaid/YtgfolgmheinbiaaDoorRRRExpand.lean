/- The program's expand. -/
import Derived.Test.YtgfolgmheinbiaaDoorRRRRounds
import Derived.Test.YtgfolgmheinbiaaDoorRRRBlk
import Derived.StillTailTactics
namespace Go.Proofs.YtgfolgmheinbiaaDoorRRR
open Go.RowKit

def stC (s : S5.St) : Array Value := #[.int .u32 s.a, .int .u32 s.b, .int .u32 s.c, .int .u32 s.d, .int .u32 s.e, .int .u32 s.f, .int .u32 s.g, .int .u32 s.h]
def wsC (l : List Int) : Array Value := (l.map fun x => Value.int .u32 x).toArray
theorem stC_size (s : S5.St) : (stC s).size = 8 := rfl
theorem wsC_size (l : List Int) : (wsC l).size = l.length := by simp [wsC]
theorem wsC_get (l : List Int) (i : Nat) (h : i < l.length) : (wsC l)[i]? = some (.int .u32 (l.getD i 0)) := by
  simp [wsC, List.getD_eq_getElem?_getD, List.getElem?_eq_getElem h]
theorem wsC_one (l : List Int) : (wsC l).all (·.oneCell') = true := by
  simp [wsC, Value.oneCell']
theorem wsC_set (l : List Int) (i : Nat) (x : Int) : (wsC l).setIfInBounds i (.int .u32 x) = wsC (l.set i x) := by
  unfold wsC
  apply Array.toList_inj.1
  rw [Array.toList_setIfInBounds, List.map_set]

set_option maxRecDepth 100000 in
set_option maxHeartbeats 2000000 in
theorem expand_any (l : List Int) (hl : l.length = 16) (w : World) :
    Calls Tryd.prog 69 #[.agg (wsC l)] w fun e w' => e = .returned (.agg (wsC (S5.expN l 16))) ∧ Below w.heap.size w w' := by
  go_enter Tryd.func69, Tryd.ntmps69
  go_wp2_with fail
  obtain ⟨W0, hW0⟩ : ∃ W0, W0 = (w.alloc (.cells (wsC l) 107)).alloc (.cells #[.int .u32 0, .int .u32 0, .int .u32 0, .int .u32 0, .int .u32 0, .int .u32 0, .int .u32 0, .int .u32 0, .int .u32 0, .int .u32 0, .int .u32 0, .int .u32 0, .int .u32 0, .int .u32 0, .int .u32 0, .int .u32 0] 107) := ⟨_, rfl⟩
  have hB0 : Below w.heap.size w W0 := by rw [hW0]; exact ((Below.refl _ w).alloc (Nat.le_refl _) _).alloc (by simp) _
  have hK0 : Blk W0 w.heap.size 107 (wsC l) := by rw [hW0]; exact (Blk.fresh w _ _).more _
  have hR0 : Blk W0 (w.heap.size + 1) 107 #[.int .u32 0, .int .u32 0, .int .u32 0, .int .u32 0, .int .u32 0, .int .u32 0, .int .u32 0, .int .u32 0, .int .u32 0, .int .u32 0, .int .u32 0, .int .u32 0, .int .u32 0, .int .u32 0, .int .u32 0, .int .u32 0] := by rw [hW0]; simpa using Blk.fresh (w.alloc (.cells (wsC l) 107)) 107 #[.int .u32 0, .int .u32 0, .int .u32 0, .int .u32 0, .int .u32 0, .int .u32 0, .int .u32 0, .int .u32 0, .int .u32 0, .int .u32 0, .int .u32 0, .int .u32 0, .int .u32 0, .int .u32 0, .int .u32 0, .int .u32 0]
  rw [← hW0]
  clear hW0
  go_loopw [6] (fun kk wr => ∃ k : Nat, kk = .int .i64 k ∧ k ≤ 16 ∧ Blk wr w.heap.size 107 (wsC (S5.expN l k)) ∧ Blk wr (w.heap.size + 1) 107 #[.int .u32 0, .int .u32 0, .int .u32 0, .int .u32 0, .int .u32 0, .int .u32 0, .int .u32 0, .int .u32 0, .int .u32 0, .int .u32 0, .int .u32 0, .int .u32 0, .int .u32 0, .int .u32 0, .int .u32 0, .int .u32 0] ∧ Below w.heap.size w wr) (fun kk _ => 16 - (intOf kk).toNat)
  case atStart => exact ⟨0, rfl, by omega, hK0, hR0, hB0⟩
  case round =>
    clear hB0 hK0 hR0
    obtain ⟨k, rfl, hk, hK, hR, hB⟩ := hrel
    by_cases hlt : k < 16
    · obtain ⟨L, hL⟩ : ∃ L, L = S5.expN l k := ⟨_, rfl⟩
      have hLl : L.length = 16 := by rw [hL, S5.expN_len, hl]
      rw [← hL] at hK
      obtain ⟨i1, hi1⟩ : ∃ i, i = (k + 1) % 16 := ⟨_, rfl⟩
      obtain ⟨i2, hi2⟩ : ∃ i, i = (k + 14) % 16 := ⟨_, rfl⟩
      obtain ⟨i3, hi3⟩ : ∃ i, i = (k + 9) % 16 := ⟨_, rfl⟩
      have l1 : i1 < 16 := by omega
      have l2 : i2 < 16 := by omega
      have l3 : i3 < 16 := by omega
      obtain ⟨x0, hx0⟩ : ∃ x, x = L.getD k 0 := ⟨_, rfl⟩
      obtain ⟨x1, hx1⟩ : ∃ x, x = L.getD i1 0 := ⟨_, rfl⟩
      obtain ⟨x2, hx2⟩ : ∃ x, x = L.getD i2 0 := ⟨_, rfl⟩
      have HC := Lib.hid (show ∀ (W : World) (M : List Int), M.length = 16 → Blk W w.heap.size 107 (wsC M) → ∀ i, i < 16 → W.cell? ⟨w.heap.size, i, none⟩ = some (.int .u32 (M.getD i 0)) from fun W M hM h i hi => by rw [h.cell, wsC_get M i (by omega)])
      have c1 : ∀ m, (wr.drewN m).cell? ⟨w.heap.size, i1, none⟩ = some (.int .u32 x1) := fun m => by rw [hx1]; exact HC.out _ L hLl (hK.draws m) i1 l1
      have c2 : ∀ m, (wr.drewN m).cell? ⟨w.heap.size, i2, none⟩ = some (.int .u32 x2) := fun m => by rw [hx2]; exact HC.out _ L hLl (hK.draws m) i2 l2
      have b1 : ((k : Int) + 1).tmod 16 = (i1 : Int) := by rw [Int.tmod_eq_emod_of_nonneg (by omega)]; omega
      have b2 : ((k : Int) + 14).tmod 16 = (i2 : Int) := by rw [Int.tmod_eq_emod_of_nonneg (by omega)]; omega
      have HX0 := Lib.hid hx0; have HX1 := Lib.hid hx1; have HX2 := Lib.hid hx2; have HI1 := Lib.hid hi1; have HI2 := Lib.hid hi2; have HI3 := Lib.hid hi3; have HL := Lib.hid hL; have HLL := Lib.hid hLl
      have HK := Lib.hid hK; have HR := Lib.hid hR
      clear hx0 hx1 hx2 hi1 hi2 hi3 hL hLl hK hR
      go_wp2_with fail
      go_quiet (fail)
      clear c1 c2 b1 b2
      generalize hw2 : wr.drewN nq = w2
      have hB2 : Below w.heap.size w w2 := by rw [← hw2]; exact below_draws hB nq
      have hK2 : Blk w2 w.heap.size 107 (wsC L) := by rw [← hw2]; exact HK.out.draws nq
      have hR2 : Blk w2 (w.heap.size + 1) 107 #[.int .u32 0, .int .u32 0, .int .u32 0, .int .u32 0, .int .u32 0, .int .u32 0, .int .u32 0, .int .u32 0, .int .u32 0, .int .u32 0, .int .u32 0, .int .u32 0, .int .u32 0, .int .u32 0, .int .u32 0, .int .u32 0] := by rw [← hw2]; exact HR.out.draws nq
      clear hw2 hB HK HR
      have c0 : w2.drew.cell? ⟨w.heap.size, k, none⟩ = some (.int .u32 x0) := by rw [HX0.out]; exact HC.out _ L HLL.out hK2.draw k hlt
      have f0 : w2.drew.frozen? ⟨w.heap.size, k, none⟩ = false := hK2.draw.free k
      go_wp2_with fail
      refine wp_region_still_tail 13 (by kernel_rfl) (by kernel_rfl) ?_
      simp only [List.take_succ_cons, List.take_zero, List.drop_succ_cons, List.drop_zero]
      change wpStill _ _ w2.drew (fun a' => wpList _ _ _ _ a' w2.drew) _ _
      repeat still_step
      still_call (rotate_lit _ _ (by unfold RotsI; omega) _)
      repeat still_step
      still_call (rotate_lit _ _ (by unfold RotsI; omega) _)
      repeat still_step
      refine wpStill_nil ?_
      go_wp2_with fail
      obtain ⟨y1, hy1⟩ : ∃ y, y = (x0 + bits .xor .u32 (bits .xor .u32 (S5.rot x1 7) (S5.rot x1 18)) (x1 / 8)) % 4294967296 := ⟨_, rfl⟩
      rw [← hy1]
      generalize hw3 : (w2.setCell ⟨w.heap.size, k, none⟩ (.int .u32 y1)).drew = w3
      have hB3 : Below w.heap.size w w3 := by rw [← hw3]; exact (below_put hB2 _ k (Nat.le_refl _) _).drew
      have hK3 : Blk w3 w.heap.size 107 (wsC (L.set k y1)) := by rw [← hw3]; have := (hK2.put k (.int .u32 y1)).draw; rw [wsC_set] at this; exact this
      have hR3 : Blk w3 (w.heap.size + 1) 107 #[.int .u32 0, .int .u32 0, .int .u32 0, .int .u32 0, .int .u32 0, .int .u32 0, .int .u32 0, .int .u32 0, .int .u32 0, .int .u32 0, .int .u32 0, .int .u32 0, .int .u32 0, .int .u32 0, .int .u32 0, .int .u32 0] := by rw [← hw3]; exact (hR2.away (by omega) k _).draw
      have HY3 := Lib.hid hy1
      clear hw3 hB2 hK2 hR2 hy1 c0 f0
      have hL1 : (L.set k y1).length = 16 := by rw [List.length_set]; exact HLL.out
      have g1 : (L.set k y1).getD k 0 = y1 := by have := HLL.out; simp [List.getD_eq_getElem?_getD, this, hlt]
      have c0 : w3.drew.cell? ⟨w.heap.size, k, none⟩ = some (.int .u32 y1) := by have := HC.out _ _ hL1 hK3.draw k hlt; rwa [g1] at this
      have f0 : w3.drew.frozen? ⟨w.heap.size, k, none⟩ = false := hK3.draw.free k
      clear hL1 g1
      refine wp_region_still_tail 13 (by kernel_rfl) (by kernel_rfl) ?_
      simp only [List.take_succ_cons, List.take_zero, List.drop_succ_cons, List.drop_zero]
      change wpStill _ _ w3.drew (fun a' => wpList _ _ _ _ a' w3.drew) _ _
      repeat still_step
      still_call (rotate_lit _ _ (by unfold RotsI; omega) _)
      repeat still_step
      still_call (rotate_lit _ _ (by unfold RotsI; omega) _)
      repeat still_step
      refine wpStill_nil ?_
      go_wp2_with fail
      obtain ⟨y2, hy2⟩ : ∃ y, y = (y1 + bits .xor .u32 (bits .xor .u32 (S5.rot x2 17) (S5.rot x2 19)) (x2 / 1024)) % 4294967296 := ⟨_, rfl⟩
      rw [← hy2]
      generalize hw4 : (w3.setCell ⟨w.heap.size, k, none⟩ (.int .u32 y2)).drew = w4
      have hB4 : Below w.heap.size w w4 := by rw [← hw4]; exact (below_put hB3 _ k (Nat.le_refl _) _).drew
      have hK4 : Blk w4 w.heap.size 107 (wsC (L.set k y2)) := by rw [← hw4]; have := (hK3.put k (.int .u32 y2)).draw; rw [wsC_set, List.set_set] at this; exact this
      have hR4 : Blk w4 (w.heap.size + 1) 107 #[.int .u32 0, .int .u32 0, .int .u32 0, .int .u32 0, .int .u32 0, .int .u32 0, .int .u32 0, .int .u32 0, .int .u32 0, .int .u32 0, .int .u32 0, .int .u32 0, .int .u32 0, .int .u32 0, .int .u32 0, .int .u32 0] := by rw [← hw4]; exact (hR3.away (by omega) k _).draw
      have HY4 := Lib.hid hy2
      clear hw4 hB3 hK3 hR3 hy2 c0 f0
      obtain ⟨x3, hx3⟩ : ∃ x, x = L.getD i3 0 := ⟨_, rfl⟩
      have hL1 : (L.set k y2).length = 16 := by rw [List.length_set]; exact HLL.out
      have g1 : (L.set k y2).getD k 0 = y2 := by have := HLL.out; simp [List.getD_eq_getElem?_getD, this, hlt]
      have hne : k ≠ i3 := by rw [HI3.out]; omega
      have g3 : (L.set k y2).getD i3 0 = x3 := by rw [hx3]; simp [List.getD_eq_getElem?_getD, List.getElem?_set_ne hne]
      have c0 : w4.drew.cell? ⟨w.heap.size, k, none⟩ = some (.int .u32 y2) := by have := HC.out _ _ hL1 hK4.draw k hlt; rwa [g1] at this
      have c3 : w4.drew.cell? ⟨w.heap.size, i3, none⟩ = some (.int .u32 x3) := by have := HC.out _ _ hL1 hK4.draw i3 l3; rwa [g3] at this
      have f0 : w4.drew.frozen? ⟨w.heap.size, k, none⟩ = false := hK4.draw.free k
      have b3 : ((k : Int) + 9).tmod 16 = (i3 : Int) := by rw [Int.tmod_eq_emod_of_nonneg (by omega)]; have := HI3.out; omega
      have a3 : IntKind.i64.wrap ((k : Int) + 9) = (k : Int) + 9 := IntWalk.i64_in _ (by omega)
      have l3I : (i3 : Int) < 16 := by omega
      have HX3 := Lib.hid hx3
      clear hL1 g1 g3 hne hx3
      refine wp_region_still_tail 10 (by kernel_rfl) (by kernel_rfl) ?_
      simp only [List.take_succ_cons, List.take_zero, List.drop_succ_cons, List.drop_zero]
      change wpStill _ _ w4.drew (fun a' => wpList _ _ _ _ a' w4.drew) _ _
      repeat still_step
      refine wpStill_nil ?_
      go_wp2_with fail
      clear b3 a3 c3
      go_roundw
      case rel =>
        have he : S5.expN l (k + 1) = L.set k ((y2 + x3) % 4294967296) := by
          have e0 := HX0.out; have e1 := HX1.out; have e2 := HX2.out; have e3 := HX3.out
          rw [HI1.out] at e1; rw [HI2.out] at e2; rw [HI3.out] at e3
          show S5.expS (S5.expN l k) k = _
          rw [← HL.out]
          unfold S5.expS
          rw [← e0, ← e1, ← e2, ← e3, HY4.out, HY3.out]
          congr 1
          unfold S5.w32
          have f0 : S5.sm0 x1 = bits .xor .u32 (bits .xor .u32 (S5.rot x1 7) (S5.rot x1 18)) (x1 / 8) := rfl
          have f1 : S5.sm1 x2 = bits .xor .u32 (bits .xor .u32 (S5.rot x2 17) (S5.rot x2 19)) (x2 / 1024) := rfl
          rw [f0, f1]
          omega
        refine ⟨k + 1, by go_num, hlt, ?_, (hR4.away (by omega) k _).draw, (below_put hB4 _ k (Nat.le_refl _) _).drew⟩
        have := (hK4.put k (.int .u32 ((y2 + x3) % 4294967296))).draw
        rw [wsC_set, List.set_set, ← he] at this
        exact this
      case measure => simp [intOf]; omega
    · obtain rfl : k = 16 := by omega
      have hsz : (wsC (S5.expN l 16)).size = 16 := by rw [wsC_size, S5.expN_len, hl]
      have HSZ := Lib.hid hsz
      have HK := Lib.hid hK; have HR := Lib.hid hR
      obtain ⟨cs, hcs⟩ : ∃ cs, cs = wsC (S5.expN l 16) := ⟨_, rfl⟩
      have HCS := Lib.hid hcs
      clear hsz hK hR hcs
      go_wp2_with (first | (refine wpList_load_row rfl _ _ rfl w.heap.size rfl _ _ _ _ HK.out Tryd.underlying107 rfl (by rw [HSZ.out]; kernel_rfl) ?_; rw [← HCS.out]) | (refine wpList_store_row rfl _ _ _ rfl (w.heap.size + 1) cs rfl rfl _ _ HR.out (by rw [HCS.out, HSZ.out]; kernel_rfl) (by rw [HCS.out, HSZ.out]; rfl) (by rw [HCS.out]; exact wsC_one _) ?_))
      exact bodyPost_ret (results_cell_row rfl _ _ (w.heap.size + 1) _ _ _ _ rfl (HR.out.row cs) Tryd.underlying107 rfl (by rw [HCS.out, HSZ.out]; kernel_rfl)) rfl ⟨by rw [HCS.out], below_row hB _ (by omega) _⟩
end Go.Proofs.YtgfolgmheinbiaaDoorRRR
