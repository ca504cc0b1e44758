/- The reference's schedule. -/
import Derived.Test.YtgfolgmheinbiaaDoorRRRRef1
import Derived.Test.YtgfolgmheinbiaaDoorRRRWords
import Derived.Deep.RegionHeld3
namespace Go.Proofs.YtgfolgmheinbiaaDoorRRR
open Go.RowKit

/-- the first k words of the schedule, behind them zeros -/
def schL (m : List Int) (k : Nat) : List Int := (List.range 64).map fun i => if i < k then S5.W m i else 0
theorem schL_len (m : List Int) (k : Nat) : (schL m k).length = 64 := by simp [schL]
theorem schL_at (m : List Int) (k i : Nat) (h : i < 64) : (schL m k).getD i 0 = if i < k then S5.W m i else 0 := by
  simp [schL, List.getD_eq_getElem?_getD, List.getElem?_range h]
theorem schL_zero (m : List Int) : schL m 0 = z64 := by
  unfold schL z64
  apply List.ext_getElem (by simp)
  intro i h1 h2
  rw [List.getElem_map, List.getElem_range, if_neg (Nat.not_lt_zero _), List.getElem_replicate]
theorem schL_set (m : List Int) (k : Nat) (x : Int) (hx : x = S5.W m k) : (schL m k).set k x = schL m (k + 1) := by
  apply List.ext_getElem (by simp [schL_len])
  intro i h1 h2
  by_cases h : k = i
  · subst h
    simp [schL, hx]
  · simp only [schL, List.getElem_set, List.getElem_map, List.getElem_range, if_neg h]
    by_cases h3 : i < k
    · rw [if_pos h3, if_pos (by omega)]
    · rw [if_neg h3, if_neg (by omega)]

theorem refRotate_lit (x z : Int) (hz : RotsI z) (w : World) :
    Calls Tryd.prog 61 #[.int .u32 x, .int .i64 z] w fun e w' => e = .returned (.int .u32 (S5.rot x z.toNat)) ∧ ∃ k, w' = w.drewN k := by
  obtain ⟨n, rfl⟩ : ∃ n : Nat, z = (n : Int) := ⟨z.toNat, by unfold RotsI at hz; omega⟩
  exact refRotate_any x n (by unfold RotsI at hz; unfold Rots; omega) w

set_option maxRecDepth 100000 in
set_option maxHeartbeats 2000000 in
theorem schedule_any (v : Value) (l : List Nat) (h64 : l.length = 64) (w : World) (hv : Bytes w v l) :
    Calls Tryd.prog 60 #[v] w fun e w' => e = .returned (.agg (wsC (schL (S5.words l) 64))) ∧ Below w.heap.size w w' := by
  have hv' := hv
  obtain ⟨hb, x, cap, rfl, hcl, hcm, _, hc⟩ := hv
  obtain ⟨B, off, hx, _⟩ := hc 0 (by omega)
  subst hx
  rw [h64] at hv' hcl ⊢
  unfold maxLen at hcm
  have hcI : (64 : Int) ≤ (cap : Int) := by omega
  have hcmI : (cap : Int) ≤ 9223372036854775807 := by omega
  have HV := Lib.hid hv'
  have HC := Lib.hid (show ∀ W : World, Bytes W (.slice (some ⟨B, off, none⟩) 64 cap) l → ∀ j, j < 64 → W.cell? ⟨B, off + j, none⟩ = some (.int .u8 (l.getD j 0)) from fun W h j hj => by
    obtain ⟨_, x, c, e, _, _, _, hc⟩ := h
    obtain ⟨b', o', e', h'⟩ := hc j (by omega)
    have e1 := (Value.slice.inj e).1
    rw [e'] at e1
    cases e1
    exact h')
  have HLT := Lib.hid (show ∀ j, l.getD j 0 < 256 from fun j => by
    by_cases hj : j < l.length
    · rw [List.getD_eq_getElem?_getD, List.getElem?_eq_getElem hj]; exact HV.out.1 _ (List.getElem_mem hj)
    · rw [List.getD_eq_getElem?_getD, List.getElem?_eq_none (by omega)]; simp)
  obtain ⟨M, hM⟩ : ∃ M, M = S5.words l := ⟨_, rfl⟩
  have HM := Lib.hid hM
  have HMl := Lib.hid (show M.length = 16 by rw [hM]; exact S5.words_len l)
  rw [← hM]
  clear hv' hc hb hM
  go_enter Tryd.func60, Tryd.ntmps60
  go_upto_region 2 with (fail)
  change Code.wp Tryd.prog _ _ _ ((w.alloc (.cells (wsC z64) 94)).alloc (.cells (wsC z64) 94))
  obtain ⟨W0, hW0⟩ : ∃ W0, W0 = (w.alloc (.cells (wsC z64) 94)).alloc (.cells (wsC z64) 94) := ⟨_, rfl⟩
  have hB0 : Below w.heap.size w W0 := by rw [hW0]; exact ((Below.refl _ w).alloc (Nat.le_refl _) _).alloc (by simp) _
  have hK0 : Blk W0 w.heap.size 94 (wsC z64) := by rw [hW0]; exact (Blk.fresh w _ _).more _
  have hR0 : Blk W0 (w.heap.size + 1) 94 (wsC z64) := by rw [hW0]; simpa using Blk.fresh (w.alloc (.cells (wsC z64) 94)) 94 (wsC z64)
  rw [← hW0]
  clear hW0
  go_wp2_with fail
  go_loopw [4] (fun kk wr => ∃ k : Nat, kk = .int .i64 k ∧ k ≤ 64 ∧ Blk wr w.heap.size 94 (wsC z64) ∧ Blk wr (w.heap.size + 1) 94 (wsC (schL M k)) ∧ Below w.heap.size w wr) (fun kk _ => 64 - (intOf kk).toNat)
  case atStart => exact ⟨0, rfl, by omega, hK0, by rw [schL_zero]; exact hR0, hB0⟩
  case round =>
    clear hB0 hK0 hR0
    obtain ⟨k, rfl, hk, hK, hR, hB⟩ := hrel
    have HK := Lib.hid hK; have HR := Lib.hid hR
    clear hK hR
    by_cases hlt : k < 64
    · have hltI : (k : Int) < 64 := by omega
      by_cases h16 : k < 16
      · have h16I : (k : Int) < 16 := by omega
        have HVr := Lib.hid (HV.out.below hB)
        obtain ⟨p0, hp0⟩ : ∃ p, p = 4 * k := ⟨_, rfl⟩
        obtain ⟨p1, hp1⟩ : ∃ p, p = 4 * k + 1 := ⟨_, rfl⟩
        obtain ⟨p2, hp2⟩ : ∃ p, p = 4 * k + 2 := ⟨_, rfl⟩
        obtain ⟨p3, hp3⟩ : ∃ p, p = 4 * k + 3 := ⟨_, rfl⟩
        have m0 : IntKind.i64.wrap (4 * (k : Int)) = (p0 : Int) := by rw [hp0]; rw [show 4 * (k : Int) = ((4 * k : Nat) : Int) by omega]; exact IntWalk.i64_in _ (by omega)
        have m1 : IntKind.i64.wrap ((p0 : Int) + 1) = (p1 : Int) := by rw [hp0, hp1]; rw [show ((4 * k : Nat) : Int) + 1 = ((4 * k + 1 : Nat) : Int) by omega]; exact IntWalk.i64_in _ (by omega)
        have m2 : IntKind.i64.wrap ((p0 : Int) + 2) = (p2 : Int) := by rw [hp0, hp2]; rw [show ((4 * k : Nat) : Int) + 2 = ((4 * k + 2 : Nat) : Int) by omega]; exact IntWalk.i64_in _ (by omega)
        have m3 : IntKind.i64.wrap ((p0 : Int) + 3) = (p3 : Int) := by rw [hp0, hp3]; rw [show ((4 * k : Nat) : Int) + 3 = ((4 * k + 3 : Nat) : Int) by omega]; exact IntWalk.i64_in _ (by omega)
        have e0 : (p0 : Int) < 64 := by omega
        have e1 : (p1 : Int) < 64 := by omega
        have e2 : (p2 : Int) < 64 := by omega
        have e3 : (p3 : Int) < 64 := by omega
        obtain ⟨y0, hy0⟩ : ∃ y, y = l.getD p0 0 := ⟨_, rfl⟩
        obtain ⟨y1, hy1⟩ : ∃ y, y = l.getD p1 0 := ⟨_, rfl⟩
        obtain ⟨y2, hy2⟩ : ∃ y, y = l.getD p2 0 := ⟨_, rfl⟩
        obtain ⟨y3, hy3⟩ : ∃ y, y = l.getD p3 0 := ⟨_, rfl⟩
        have c0 : wr.drew.cell? ⟨B, off + p0, none⟩ = some (.int .u8 y0) := by rw [hy0]; exact HC.out _ HVr.out p0 (by omega)
        have c1 : wr.drew.cell? ⟨B, off + p1, none⟩ = some (.int .u8 y1) := by rw [hy1]; exact HC.out _ HVr.out p1 (by omega)
        have c2 : wr.drew.cell? ⟨B, off + p2, none⟩ = some (.int .u8 y2) := by rw [hy2]; exact HC.out _ HVr.out p2 (by omega)
        have c3 : wr.drew.cell? ⟨B, off + p3, none⟩ = some (.int .u8 y3) := by rw [hy3]; exact HC.out _ HVr.out p3 (by omega)
        have z0 : y0 < 256 := by rw [hy0]; exact HLT.out _
        have z1 : y1 < 256 := by rw [hy1]; exact HLT.out _
        have z2 : y2 < 256 := by rw [hy2]; exact HLT.out _
        have z3 : y3 < 256 := by rw [hy3]; exact HLT.out _
        have q0 : IntKind.u32.wrap (y0 : Int) = (y0 : Int) := by simp [IntKind.wrap, IntKind.bits, IntKind.signed]; omega
        have q1 : IntKind.u32.wrap (y1 : Int) = (y1 : Int) := by simp [IntKind.wrap, IntKind.bits, IntKind.signed]; omega
        have q2 : IntKind.u32.wrap (y2 : Int) = (y2 : Int) := by simp [IntKind.wrap, IntKind.bits, IntKind.signed]; omega
        have q3 : IntKind.u32.wrap (y3 : Int) = (y3 : Int) := by simp [IntKind.wrap, IntKind.bits, IntKind.signed]; omega
        have hcell : ∃ u, wr.drew.cell? ⟨w.heap.size + 1, k, none⟩ = some u := by
          rw [HR.out.draw.cell, wsC_get _ k (by rw [schL_len]; omega)]; exact ⟨_, rfl⟩
        obtain ⟨u, cu⟩ := hcell
        have fu : wr.drew.frozen? ⟨w.heap.size + 1, k, none⟩ = false := HR.out.draw.free k
        have HW := Lib.hid (show S5.word l k = bits .or .u32 (bits .or .u32 (bits .or .u32 ((y0 : Int) * 16777216 % 4294967296) ((y1 : Int) * 65536 % 4294967296)) ((y2 : Int) * 256 % 4294967296)) (y3 : Int) by
          rw [hy0, hy1, hy2, hy3, hp0, hp1, hp2, hp3]; rfl)
        clear hy0 hy1 hy2 hy3 z0 z1 z2 z3 hp0 hp1 hp2 hp3
        go_wp2_with fail
        refine wp_region_still_tail 35 (by kernel_rfl) (by kernel_rfl) ?_
        simp only [List.take_succ_cons, List.take_zero, List.drop_succ_cons, List.drop_zero]
        change wpStill _ _ wr.drew (fun a' => wpList _ _ _ _ a' wr.drew) _ _
        repeat still_step
        refine wpStill_nil ?_
        go_wp2_with fail
        go_roundw
        case rel =>
          refine ⟨k + 1, by go_num, hlt, (HK.out.away (by omega) k _).draw, ?_, (below_put hB _ k (by omega) _).drew⟩
          have := (HR.out.put k (.int .u32 (S5.word l k))).draw
          have hs : S5.word l k = S5.W M k := by rw [S5.W_start M HMl.out k h16, HM.out, S5.words_at l k h16]
          rw [wsC_set, schL_set M k _ hs, HW.out] at this
          exact this
        case measure => simp [intOf]; omega
      · have h16I : ¬ (k : Int) < 16 := by omega
        have h16J : (16 : Int) ≤ (k : Int) := by omega
        obtain ⟨k2, hk2⟩ : ∃ p, p = k - 2 := ⟨_, rfl⟩
        obtain ⟨k7, hk7⟩ : ∃ p, p = k - 7 := ⟨_, rfl⟩
        obtain ⟨k15, hk15⟩ : ∃ p, p = k - 15 := ⟨_, rfl⟩
        obtain ⟨k16, hk16⟩ : ∃ p, p = k - 16 := ⟨_, rfl⟩
        have s2 : (k : Int) - 2 = (k2 : Int) := by omega
        have s7 : (k : Int) - 7 = (k7 : Int) := by omega
        have s15 : (k : Int) - 15 = (k15 : Int) := by omega
        have s16 : (k : Int) - 16 = (k16 : Int) := by omega
        have r2 : IntKind.i64.wrap ((k : Int) - 2) = (k2 : Int) := by rw [s2]; exact IntWalk.i64_in _ (by omega)
        have r7 : IntKind.i64.wrap ((k : Int) - 7) = (k7 : Int) := by rw [s7]; exact IntWalk.i64_in _ (by omega)
        have r15 : IntKind.i64.wrap ((k : Int) - 15) = (k15 : Int) := by rw [s15]; exact IntWalk.i64_in _ (by omega)
        have r16 : IntKind.i64.wrap ((k : Int) - 16) = (k16 : Int) := by rw [s16]; exact IntWalk.i64_in _ (by omega)
        have e2 : (k2 : Int) < 64 := by omega
        have e7 : (k7 : Int) < 64 := by omega
        have e15 : (k15 : Int) < 64 := by omega
        have e16 : (k16 : Int) < 64 := by omega
        have v7 : IntKind.i64.wrap (k7 : Int) = (k7 : Int) := IntWalk.i64_in _ (by omega)
        have v16 : IntKind.i64.wrap (k16 : Int) = (k16 : Int) := IntWalk.i64_in _ (by omega)
        have n7 : k ≠ k7 := by omega
        have n16 : k ≠ k16 := by omega
        have HX := Lib.hid (show ∀ (W : World), Blk W (w.heap.size + 1) 94 (wsC (schL M k)) → ∀ i, i < k → W.cell? ⟨w.heap.size + 1, i, none⟩ = some (.int .u32 (S5.W M i)) from fun W h i hi => by
          rw [h.cell, wsC_get _ i (by rw [schL_len]; omega), schL_at M k i (by omega), if_pos hi])
        have c2 : ∀ m, (wr.drewN m).cell? ⟨w.heap.size + 1, k2, none⟩ = some (.int .u32 (S5.W M k2)) := fun m => HX.out _ (HR.out.draws m) k2 (by omega)
        have c15 : ∀ m, (wr.drewN m).cell? ⟨w.heap.size + 1, k15, none⟩ = some (.int .u32 (S5.W M k15)) := fun m => HX.out _ (HR.out.draws m) k15 (by omega)
        have HW := Lib.hid (show S5.W M k = S5.nw (S5.W M k2) (S5.W M k15) (S5.W M k7) (S5.W M k16) by
          have := S5.W_next M HMl.out k16
          rw [show k16 + 16 = k by omega, show k16 + 14 = k2 by omega, show k16 + 1 = k15 by omega, show k16 + 9 = k7 by omega] at this
          exact this)
        have L7 := Lib.hid (show k7 < k by omega); have L16 := Lib.hid (show k16 < k by omega)
        clear hk2 hk7 hk15 hk16
        generalize S5.W M k2 = x2 at *
        generalize S5.W M k15 = x15 at *
        go_wp2_with fail
        go_quiet (fail)
        clear c2 c15 r2 r15 s2 s15 e2 e15
        generalize hw2 : wr.drewN nq = w2
        have hB2 := Lib.hid (show Below w.heap.size w w2 by rw [← hw2]; exact below_draws hB nq)
        have hK2 := Lib.hid (show Blk w2 w.heap.size 94 (wsC z64) by rw [← hw2]; exact HK.out.draws nq)
        have hR2 := Lib.hid (show Blk w2 (w.heap.size + 1) 94 (wsC (schL M k)) by rw [← hw2]; exact HR.out.draws nq)
        clear hw2 hB HK HR
        go_upto_region 8 with (fail)
        have HF := Lib.hid (show ∀ W : World, (∃ m, W = w2.drewN m) → W.cell? ⟨w.heap.size + 1, k7, none⟩ = some (.int .u32 (S5.W M k7)) ∧ W.cell? ⟨w.heap.size + 1, k16, none⟩ = some (.int .u32 (S5.W M k16)) ∧ W.cell? ⟨w.heap.size + 1, k, none⟩ = some (.int .u32 0) ∧ W.frozen? ⟨w.heap.size + 1, k, none⟩ = false from fun W ⟨m, hW⟩ => by
          have hb : Blk W (w.heap.size + 1) 94 (wsC (schL M k)) := by rw [hW]; exact hR2.out.draws m
          refine ⟨HX.out _ hb k7 L7.out, HX.out _ hb k16 L16.out, ?_, hb.free k⟩
          rw [hb.cell, wsC_get _ k (by rw [schL_len]; omega), schL_at M k k hlt, if_neg (by omega)])
        have hG := Lib.hid (show ∃ m, w2.drew = w2.drewN m from ⟨1, rfl⟩)
        obtain ⟨a1, a2, a3, a4⟩ := HF.out _ hG.out
        have N7 : (⟨w.heap.size + 1, k, none⟩ : Addr) ≠ ⟨w.heap.size + 1, k7, none⟩ := by intro h; cases h; exact n7 rfl
        have N16 : (⟨w.heap.size + 1, k, none⟩ : Addr) ≠ ⟨w.heap.size + 1, k16, none⟩ := by intro h; cases h; exact n16 rfl
        generalize S5.W M k7 = x7 at *
        generalize S5.W M k16 = x16 at *
        go_region_held3 (fun w' => w'.cell? ⟨w.heap.size + 1, k7, none⟩ = some (.int .u32 x7) ∧ w'.cell? ⟨w.heap.size + 1, k16, none⟩ = some (.int .u32 x16)) (first | exact ⟨a1, a2⟩ | exact ⟨(World.cell?_setCell_other (h := N7) ..).trans a1, (World.cell?_setCell_other (h := N16) ..).trans a2⟩)
          (first
            | (go_at_call 61; refine (refRotate_lit _ _ (by unfold RotsI; omega) _).mono ?_; rintro e w3 ⟨rfl, n1, hw3⟩; have hG := Lib.hid (show ∃ m, w3 = w2.drewN m by obtain ⟨m, hm⟩ := hG.out; rw [hm, World.drewN_drewN] at hw3; exact ⟨_, hw3⟩); obtain ⟨a1, a2, a3, a4⟩ := HF.out _ hG.out; clear hw3))
        obtain ⟨m, hm⟩ := hG.out
        have hK3 := Lib.hid (show Blk w3 w.heap.size 94 (wsC z64) by rw [hm]; exact hK2.out.draws m)
        have hR3 := Lib.hid (show Blk w3 (w.heap.size + 1) 94 (wsC (schL M k)) by rw [hm]; exact hR2.out.draws m)
        have hB3 := Lib.hid (show Below w.heap.size w w3 by rw [hm]; exact below_draws hB2.out m)
        clear hm
        go_wp2_with fail
        go_roundw
        case rel =>
          refine ⟨k + 1, by go_num, hlt, hK3.out.away (by omega) k _, ?_, below_put hB3.out _ k (by omega) _⟩
          have := hR3.out.put k (.int .u32 (S5.nw x2 x15 x7 x16))
          rw [wsC_set, schL_set M k _ HW.out.symm] at this
          have hnw : S5.nw x2 x15 x7 x16 = (((bits .xor .u32 (bits .xor .u32 (S5.rot x2 17) (S5.rot x2 19)) (x2 / 1024) + x7) % 4294967296 + bits .xor .u32 (bits .xor .u32 (S5.rot x15 7) (S5.rot x15 18)) (x15 / 8)) % 4294967296 + x16) % 4294967296 := by
            have f0 : S5.sm0 x15 = bits .xor .u32 (bits .xor .u32 (S5.rot x15 7) (S5.rot x15 18)) (x15 / 8) := rfl
            have f1 : S5.sm1 x2 = bits .xor .u32 (bits .xor .u32 (S5.rot x2 17) (S5.rot x2 19)) (x2 / 1024) := rfl
            unfold S5.nw S5.w32
            rw [f0, f1]
            omega
          rw [hnw] at this
          exact this
        case measure => simp [intOf]; omega
    · obtain rfl : k = 64 := by omega
      obtain ⟨L, hL⟩ : ∃ L, L = schL M 64 := ⟨_, rfl⟩
      have HLl := Lib.hid (show L.length = 64 by rw [hL]; exact schL_len M 64)
      rw [← hL] at HR
      have HL := Lib.hid hL
      clear hL
      go_wp2_with (first
        | (refine ld_w64 _ L HLl.out HR.out (by rfl) _ (by rfl) (by rfl) ?_)
        | (refine sto_w64 _ L HLl.out _ HK.out (by rw [wsC_size]; exact z64_len) (by rfl) _ _ (by rfl) (by rfl) (by rfl) ?_; intro w1 hw1))
      have hfin : Blk w1 w.heap.size 94 (wsC L) := by rw [hw1.out]; exact HK.out.row _
      have hfB : Below w.heap.size w w1 := by rw [hw1.out]; exact below_row hB _ (Nat.le_refl _) _
      exact bodyPost_ret (results_cell_row rfl _ _ w.heap.size _ _ _ _ rfl hfin Tryd.underlying94 rfl (info64 L HLl.out)) rfl ⟨by rw [HL.out], hfB⟩
end Go.Proofs.YtgfolgmheinbiaaDoorRRR
