/- The program's words: sixteen words out of the first 64 bytes. -/
import Derived.Test.YtgfolgmheinbiaaDoorRRRExpand
import Derived.Test.YtgfolgmheinbiaaDoorRRRMem
namespace Go.Proofs.YtgfolgmheinbiaaDoorRRR
open Go.RowKit

theorem fill_next (m : List Int) (n k : Nat) (hm : m.length = n) (hk : k < n) (x : Int) (hx : x = m.getD k 0) : (m.take k ++ List.replicate (n - k) 0).set k x = m.take (k + 1) ++ List.replicate (n - (k + 1)) 0 := by
  have hl : (m.take k).length = k := by rw [List.length_take]; omega
  have h1 : List.replicate (n - k) (0 : Int) = 0 :: List.replicate (n - (k + 1)) 0 := by rw [show n - k = (n - (k + 1)) + 1 by omega]; rfl
  have h2 : x = m[k] := by rw [hx, List.getD_eq_getElem?_getD, List.getElem?_eq_getElem (by omega)]; rfl
  rw [h1, List.set_append_right _ _ (by omega), hl, Nat.sub_self, List.set_cons_zero, List.take_succ_eq_append_getElem (by omega), ← h2]
  simp

set_option maxRecDepth 100000 in
set_option maxHeartbeats 2000000 in
theorem words_any (v : Value) (l : List Nat) (h64 : 64 ≤ l.length) (w : World) (hv : Bytes w v l) :
    Calls Tryd.prog 66 #[v] w fun e w' => e = .returned (.agg (wsC (S5.words l))) ∧ Below w.heap.size w w' := by
  have hv' := hv
  obtain ⟨hb, x, cap, rfl, hcl, hcm, _, hc⟩ := hv
  obtain ⟨B, off, hx, _⟩ := hc 0 (by omega)
  subst hx
  unfold maxLen at hcm
  have hcI : (l.length : Int) ≤ (cap : Int) := by omega
  have h64I : (64 : Int) ≤ (l.length : Int) := by omega
  have hcmI : (cap : Int) ≤ 9223372036854775807 := by omega
  have HV := Lib.hid hv'
  clear hv' hc hb
  go_enter Tryd.func66, Tryd.ntmps66
  go_wp2_with fail
  obtain ⟨W0, hW0⟩ : ∃ W0, W0 = (w.alloc (.cells #[.int .u32 0, .int .u32 0, .int .u32 0, .int .u32 0, .int .u32 0, .int .u32 0, .int .u32 0, .int .u32 0, .int .u32 0, .int .u32 0, .int .u32 0, .int .u32 0, .int .u32 0, .int .u32 0, .int .u32 0, .int .u32 0] 107)).alloc (.cells #[.int .u32 0, .int .u32 0, .int .u32 0, .int .u32 0, .int .u32 0, .int .u32 0, .int .u32 0, .int .u32 0, .int .u32 0, .int .u32 0, .int .u32 0, .int .u32 0, .int .u32 0, .int .u32 0, .int .u32 0, .int .u32 0] 107) := ⟨_, rfl⟩
  have hB0 : Below w.heap.size w W0 := by rw [hW0]; exact ((Below.refl _ w).alloc (Nat.le_refl _) _).alloc (by simp) _
  have hK0 : Blk W0 w.heap.size 107 #[.int .u32 0, .int .u32 0, .int .u32 0, .int .u32 0, .int .u32 0, .int .u32 0, .int .u32 0, .int .u32 0, .int .u32 0, .int .u32 0, .int .u32 0, .int .u32 0, .int .u32 0, .int .u32 0, .int .u32 0, .int .u32 0] := by rw [hW0]; exact (Blk.fresh w _ _).more _
  have hR0 : Blk W0 (w.heap.size + 1) 107 #[.int .u32 0, .int .u32 0, .int .u32 0, .int .u32 0, .int .u32 0, .int .u32 0, .int .u32 0, .int .u32 0, .int .u32 0, .int .u32 0, .int .u32 0, .int .u32 0, .int .u32 0, .int .u32 0, .int .u32 0, .int .u32 0] := by rw [hW0]; simpa using Blk.fresh (w.alloc (.cells #[.int .u32 0, .int .u32 0, .int .u32 0, .int .u32 0, .int .u32 0, .int .u32 0, .int .u32 0, .int .u32 0, .int .u32 0, .int .u32 0, .int .u32 0, .int .u32 0, .int .u32 0, .int .u32 0, .int .u32 0, .int .u32 0] 107)) 107 #[.int .u32 0, .int .u32 0, .int .u32 0, .int .u32 0, .int .u32 0, .int .u32 0, .int .u32 0, .int .u32 0, .int .u32 0, .int .u32 0, .int .u32 0, .int .u32 0, .int .u32 0, .int .u32 0, .int .u32 0, .int .u32 0]
  rw [← hW0]
  clear hW0
  go_loopw [6] (fun kk wr => ∃ k : Nat, kk = .int .i64 k ∧ k ≤ 16 ∧ Blk wr w.heap.size 107 #[.int .u32 0, .int .u32 0, .int .u32 0, .int .u32 0, .int .u32 0, .int .u32 0, .int .u32 0, .int .u32 0, .int .u32 0, .int .u32 0, .int .u32 0, .int .u32 0, .int .u32 0, .int .u32 0, .int .u32 0, .int .u32 0] ∧ Blk wr (w.heap.size + 1) 107 (wsC ((S5.words l).take k ++ List.replicate (16 - k) 0)) ∧ Below w.heap.size w wr) (fun kk _ => 16 - (intOf kk).toNat)
  case atStart => exact ⟨0, rfl, by omega, hK0, hR0, hB0⟩
  case round =>
    clear hB0 hK0 hR0
    obtain ⟨k, rfl, hk, hK, hR, hB⟩ := hrel
    by_cases hlt : k < 16
    · have hne : ¬ cap = 4 * k := by omega
      have h4 : 4 * k + 4 - 4 * k = 4 := by omega
      have HC := Lib.hid (show ∀ W : World, Bytes W (.slice (some ⟨B, off, none⟩) l.length cap) l → ∀ j, j < l.length → W.cell? ⟨B, off + j, none⟩ = some (.int .u8 (l.getD j 0)) from fun W h j hj => by
        obtain ⟨_, x, c, e, _, _, _, hc⟩ := h
        cases e
        obtain ⟨b', o', e', h'⟩ := hc j hj
        cases e'
        exact h')
      have HVr := Lib.hid (HV.out.below hB)
      have HLT := Lib.hid (show ∀ j, l.getD j 0 < 256 from fun j => by
        by_cases hj : j < l.length
        · rw [List.getD_eq_getElem?_getD, List.getElem?_eq_getElem hj]; exact HV.out.1 _ (List.getElem_mem hj)
        · rw [List.getD_eq_getElem?_getD, List.getElem?_eq_none (by omega)]; simp)
      obtain ⟨y0, hy0⟩ : ∃ y, y = l.getD (4 * k) 0 := ⟨_, rfl⟩
      obtain ⟨y1, hy1⟩ : ∃ y, y = l.getD (4 * k + 1) 0 := ⟨_, rfl⟩
      obtain ⟨y2, hy2⟩ : ∃ y, y = l.getD (4 * k + 2) 0 := ⟨_, rfl⟩
      obtain ⟨y3, hy3⟩ : ∃ y, y = l.getD (4 * k + 3) 0 := ⟨_, rfl⟩
      have c0 : wr.drew.cell? ⟨B, off + 4 * k, none⟩ = some (.int .u8 y0) := by rw [hy0]; exact HC.out _ HVr.out (4 * k) (by omega)
      have c1 : wr.drew.cell? ⟨B, off + 4 * k + 1, none⟩ = some (.int .u8 y1) := by rw [hy1]; exact HC.out _ HVr.out (4 * k + 1) (by omega)
      have c2 : wr.drew.cell? ⟨B, off + 4 * k + 2, none⟩ = some (.int .u8 y2) := by rw [hy2]; exact HC.out _ HVr.out (4 * k + 2) (by omega)
      have c3 : wr.drew.cell? ⟨B, off + 4 * k + 3, none⟩ = some (.int .u8 y3) := by rw [hy3]; exact HC.out _ HVr.out (4 * k + 3) (by omega)
      have z0 : y0 < 256 := by rw [hy0]; exact HLT.out _
      have z1 : y1 < 256 := by rw [hy1]; exact HLT.out _
      have z2 : y2 < 256 := by rw [hy2]; exact HLT.out _
      have z3 : y3 < 256 := by rw [hy3]; exact HLT.out _
      have q0 : IntKind.u32.wrap (y0 : Int) = (y0 : Int) := by simp [IntKind.wrap, IntKind.bits, IntKind.signed]; omega
      have q1 : IntKind.u32.wrap (y1 : Int) = (y1 : Int) := by simp [IntKind.wrap, IntKind.bits, IntKind.signed]; omega
      have q2 : IntKind.u32.wrap (y2 : Int) = (y2 : Int) := by simp [IntKind.wrap, IntKind.bits, IntKind.signed]; omega
      have q3 : IntKind.u32.wrap (y3 : Int) = (y3 : Int) := by simp [IntKind.wrap, IntKind.bits, IntKind.signed]; omega
      have hcell : ∃ u, wr.drew.cell? ⟨w.heap.size + 1, k, none⟩ = some u := by
        rw [hR.draw.cell, wsC_get _ k (by simp [S5.words]; omega)]; exact ⟨_, rfl⟩
      obtain ⟨u, cu⟩ := hcell
      have fu : wr.drew.frozen? ⟨w.heap.size + 1, k, none⟩ = false := hR.draw.free k
      have HY0 := Lib.hid hy0; have HY1 := Lib.hid hy1; have HY2 := Lib.hid hy2; have HY3 := Lib.hid hy3
      have HK := Lib.hid hK; have HR := Lib.hid hR
      clear hy0 hy1 hy2 hy3 z0 z1 z2 z3 hK hR
      go_wp2_with fail
      refine wp_region_still_tail 24 (by kernel_rfl) (by kernel_rfl) ?_
      simp only [List.take_succ_cons, List.take_zero, List.drop_succ_cons, List.drop_zero]
      change wpStill _ _ wr.drew (fun a' => wpList _ _ _ _ a' wr.drew) _ _
      repeat still_step
      refine wpStill_nil ?_
      go_wp2_with fail
      go_roundw
      case rel =>
        refine ⟨k + 1, by go_num, hlt, (HK.out.away (by omega) k _).draw, ?_, (below_put hB _ k (by omega) _).drew⟩
        have := (HR.out.put k (.int .u32 (S5.word l k))).draw
        rw [wsC_set, fill_next (S5.words l) 16 k (S5.words_len l) hlt _ (S5.words_at l k hlt).symm] at this
        have hw : S5.word l k = bits .or .u32 (bits .or .u32 (bits .or .u32 ((y0 : Int) * 16777216 % 4294967296) ((y1 : Int) * 65536 % 4294967296)) ((y2 : Int) * 256 % 4294967296)) (y3 : Int) := by
          rw [HY0.out, HY1.out, HY2.out, HY3.out]; rfl
        rw [hw] at this
        exact this
      case measure => simp [intOf]; omega
    · obtain rfl : k = 16 := by omega
      have hfull : (S5.words l).take 16 ++ List.replicate (16 - 16) 0 = S5.words l := by simp [List.take_of_length_le, S5.words_len]
      rw [hfull] at hR
      have hsz : (wsC (S5.words l)).size = 16 := by rw [wsC_size, S5.words_len]
      have HSZ := Lib.hid hsz
      have HK := Lib.hid hK; have HR := Lib.hid hR
      obtain ⟨cs, hcs⟩ : ∃ cs, cs = wsC (S5.words l) := ⟨_, rfl⟩
      have HCS := Lib.hid hcs
      clear hsz hK hR hcs hfull
      go_wp2_with (first | (refine wpList_load_row rfl _ _ rfl (w.heap.size + 1) rfl _ _ _ _ HR.out Tryd.underlying107 rfl (by rw [HSZ.out]; kernel_rfl) ?_; rw [← HCS.out]) | (refine wpList_store_row rfl _ _ _ rfl w.heap.size cs rfl rfl _ _ HK.out (by rw [HCS.out, HSZ.out]; kernel_rfl) (by rw [HCS.out, HSZ.out]; rfl) (by rw [HCS.out]; exact wsC_one _) ?_))
      exact bodyPost_ret (results_cell_row rfl _ _ w.heap.size _ _ _ _ rfl (HK.out.row cs) Tryd.underlying107 rfl (by rw [HCS.out, HSZ.out]; kernel_rfl)) rfl ⟨by rw [HCS.out], below_row hB _ (Nat.le_refl _) _⟩
end Go.Proofs.YtgfolgmheinbiaaDoorRRR
