/- The reference's Split. -/
import Derived.Test.YtgfolgmheinbiaaDoorRRRSplit
import Derived.Deep.QuietTactic
import Derived.Deep.RegionHeld3
namespace Go.Proofs.YtgfolgmheinbiaaDoorRRR
open Go.RowKit

theorem two_sets (L : List Int) (o : Nat) (a b : Int) (h : o + 1 < L.length) : (L.set o a).set (o + 1) b = splice L o [a, b] := by
  rw [← splice_cons L o a [b] (by omega), ← splice_cons (L.set o a) (o + 1) b [] (by rw [List.length_set]; omega), splice_nil]
theorem dgs2 (x : Nat) (hx : x < 256) : dgs x 2 = [((x / 16 : Nat) : Int), ((x % 16 : Nat) : Int)] := by
  simp only [dgs]
  rw [Nat.pow_one, Nat.pow_zero, Nat.div_one, Nat.mod_eq_of_lt (show x / 16 < 16 by omega)]

set_option maxRecDepth 100000 in
set_option maxHeartbeats 2000000 in
theorem rSplit_any (d : List Nat) (hd : d.length = 16) (hb : ∀ x ∈ d, x < 256) (w : World) :
    Calls Tryd.prog 16 #[.agg (bsC (nI d))] w fun e w' => e = .returned (.agg (ksC .i64 (nI (S7.split d)))) ∧ Below w.heap.size w w' := by
  obtain ⟨D, hD⟩ : ∃ D, D = nI d := ⟨_, rfl⟩
  have HDL := Lib.hid (show D.length = 16 by rw [hD, nI_len, hd])
  have HD := Lib.hid hD
  have Hd := Lib.hid hd; have HB := Lib.hid hb
  rw [← hD]
  clear hD hd hb
  go_enter Tryd.func16, Tryd.ntmps16
  go_upto_region 2 with (fail)
  change Code.wp Tryd.prog _ _ _ (((w.alloc (.cells (bsC D) 22)).alloc (.cells (ksC .i64 z35) 27)).alloc (.cells (ksC .i64 z35) 27))
  generalize hW0 : ((w.alloc (.cells (bsC D) 22)).alloc (.cells (ksC .i64 z35) 27)).alloc (.cells (ksC .i64 z35) 27) = W0
  obtain ⟨hb1, hb2, hb3, hB0⟩ := boxes3 w hW0
  have B0 := Lib.hid hB0; have K1 := Lib.hid hb1; have K2 := Lib.hid hb2; have K3 := Lib.hid hb3
  obtain ⟨g1, hg1⟩ : ∃ g1, g1 = w.heap.size := ⟨_, rfl⟩
  obtain ⟨g2, hg2⟩ : ∃ g2, g2 = w.heap.size + 1 := ⟨_, rfl⟩
  obtain ⟨g3, hg3⟩ : ∃ g3, g3 = w.heap.size + 1 + 1 := ⟨_, rfl⟩
  rw [← hg3] at K3 ⊢
  rw [← hg2] at K2 ⊢
  rw [← hg1] at K1 B0 ⊢
  have HG1 := Lib.hid hg1
  have o2 : g1 < g2 := by omega
  have o3 : g2 < g3 := by omega
  have hne3 : g2 ≠ g3 := by omega
  have hne1 : g1 ≠ g3 := by omega
  clear hW0 hb1 hb2 hb3 hB0 hg1 hg2 hg3
  go_wp2_with fail
  go_loopw [4, 5] (fun sv iv wr => ∃ i : Nat, iv = .int .i64 i ∧ i ≤ 16 ∧ sv = .int .i64 (S7.gap (S7.nibs (d.take i)) : Nat) ∧ Blk wr g1 22 (bsC D) ∧ Blk wr g2 27 (ksC .i64 z35) ∧ Blk wr g3 27 (ksC .i64 (nI (S7.nibs (d.take i)) ++ List.replicate (35 - 2 * i) 0)) ∧ Below g1 w wr) (fun _ iv _ => 16 - (intOf iv).toNat)
  case atStart => exact ⟨0, rfl, by omega, rfl, K1.out, K2.out, K3.out, B0.out⟩
  case round =>
    clear K1 K2 K3 B0
    obtain ⟨i, rfl, hi, rfl, h1, h2, h3, hB⟩ := hrel
    have K1 := Lib.hid h1; have K2 := Lib.hid h2; have K3 := Lib.hid h3; have BW := Lib.hid hB
    clear h1 h2 h3 hB
    by_cases hlt : i < 16
    · have hiI : (i : Int) < 16 := by omega
      obtain ⟨x, hx⟩ : ∃ x, d.getD i 0 = x := ⟨_, rfl⟩
      have hx2 : x < 256 := by
        rw [← hx, List.getD_eq_getElem?_getD, List.getElem?_eq_getElem (by rw [Hd.out]; exact hlt)]
        exact HB.out _ (List.getElem_mem _)
      have cx : wr.drew.cell? ⟨g1, i, none⟩ = some (.int .u8 (x : Int)) := by
        rw [K1.out.draw.cell, bsC_get D i (by rw [HDL.out]; exact hlt), HD.out, ← hx, List.getD_eq_getElem?_getD, List.getElem?_map, List.getD_eq_getElem?_getD, List.getElem?_eq_getElem (by rw [Hd.out]; exact hlt)]
        rfl
      have hst := split_step d Hd.out HB.out i hlt _ rfl
      rw [hx] at hst
      obtain ⟨L, hL⟩ : ∃ L, L = nI (S7.nibs (d.take i)) ++ List.replicate (35 - 2 * i) 0 := ⟨_, rfl⟩
      rw [← hL] at hst K3
      have HLL := Lib.hid (show L.length = 35 by rw [hL, List.length_append, nI_len, S7.nibs_len, List.length_take, Hd.out, List.length_replicate]; omega)
      have hst2 : (L.set (2 * i) ((x / 16 : Nat) : Int)).set (2 * i + 1) ((x % 16 : Nat) : Int) = nI (S7.nibs (d.take (i + 1))) ++ List.replicate (35 - 2 * (i + 1)) 0 := by
        rw [two_sets L (2 * i) _ _ (by rw [HLL.out]; omega), ← dgs2 x hx2, ← hst]
        unfold splice
        rw [dgs_len]
      have hg : S7.gap (S7.nibs (d.take (i + 1))) = S7.gap (S7.nibs (d.take i)) + ((15 - x / 16) + (15 - x % 16)) := by
        rw [List.take_add_one, ← hx, List.getD_eq_getElem?_getD, List.getElem?_eq_getElem (by rw [Hd.out]; exact hlt), S7.nibs_app, S7.gap_app]
        rfl
      have hle : S7.gap (S7.nibs (d.take i)) ≤ 480 := by have := S7.gap_le (S7.nibs (d.take i)); rw [S7.nibs_len, List.length_take] at this; omega
      obtain ⟨G, hG⟩ : ∃ G, G = S7.gap (S7.nibs (d.take i)) := ⟨_, rfl⟩
      rw [← hG] at hg hle ⊢
      have HG := Lib.hid hg; have HST := Lib.hid hst2
      have hxI : (x : Int) < 256 := by omega
      have hGI : (G : Int) ≤ 480 := by omega
      obtain ⟨j, hj⟩ : ∃ j, j = 2 * i := ⟨_, rfl⟩
      obtain ⟨y, hy⟩ : ∃ y, y = x / 16 := ⟨_, rfl⟩
      obtain ⟨z, hz⟩ : ∃ z, z = x % 16 := ⟨_, rfl⟩
      have hj1 : IntKind.i64.wrap (2 * (i : Int)) = (j : Int) := by rw [IntKind.wrap_i64]; omega
      have hj2 : IntKind.i64.wrap ((j : Int) + 1) = ((j + 1 : Nat) : Int) := by rw [IntKind.wrap_i64]; omega
      have hjI : (j : Int) < 35 := by omega
      have hjI2 : (j : Int) + 1 < 35 := by omega
      have hjI3 : (0 : Int) ≤ (j : Int) + 1 := by omega
      have cj : wr.drew.cell? ⟨g3, j, none⟩ = some (.int .i64 (L.getD j 0)) := by rw [K3.out.draw.cell, ksC_get .i64 L j (by rw [HLL.out]; omega)]
      have fj : wr.drew.frozen? ⟨g3, j, none⟩ = false := K3.out.draw.free j
      have cj2 : ∀ u, (wr.setCell ⟨g3, j, none⟩ u).drew.cell? ⟨g3, j + 1, none⟩ = some (.int .i64 (L.getD (j + 1) 0)) := fun u => by
        rw [(K3.out.put j u).draw.cell, Array.getElem?_setIfInBounds_ne (by omega), ksC_get .i64 L (j + 1) (by rw [HLL.out]; omega)]
      have fj2 : ∀ u, (wr.setCell ⟨g3, j, none⟩ u).drew.frozen? ⟨g3, j + 1, none⟩ = false := fun u => (K3.out.put j u).draw.free (j + 1)
      have cx2 : ∀ u, (wr.setCell ⟨g3, j, none⟩ u).drew.cell? ⟨g1, i, none⟩ = some (.int .u8 (x : Int)) := fun u => by
        rw [(K1.out.away hne1 j u).draw.cell, ← K1.out.draw.cell]; exact cx
      have cx3 : ∀ u v, ((wr.setCell ⟨g3, j, none⟩ u).setCell ⟨g3, j + 1, none⟩ v).drew.cell? ⟨g1, i, none⟩ = some (.int .u8 (x : Int)) := fun u v => by
        rw [((K1.out.away hne1 j u).away hne1 (j + 1) v).draw.cell, ← K1.out.draw.cell]; exact cx
      have q1 : IntKind.i64.wrap (x : Int) = (x : Int) := by rw [IntKind.wrap_i64]; omega
      have q2 : (x : Int) / 16 = (y : Int) := by omega
      have q4 : IntKind.i64.wrap (y : Int) = (y : Int) := by rw [IntKind.wrap_i64]; omega
      have q3 : (x : Int).tmod 16 = (z : Int) := by rw [hz, Int.tmod_eq_emod_of_nonneg (by omega)]; omega
      have y1 : (y : Int) ≤ 15 := by omega
      have z1 : (z : Int) ≤ 15 := by omega
      have HJ := Lib.hid hj; have HY := Lib.hid hy; have HZ := Lib.hid hz
      clear hst hst2 hL hx hg hG hle hj hy hz
      go_wp2_with fail
      go_region_held3 (fun w' => w'.cell? ⟨g1, i, none⟩ = some (.int .u8 (x : Int))) ((first | exact cx | exact cx2 _ | exact cx3 _ _)) (fail)
      go_wp2_with fail
      generalize hw2 : ((wr.setCell ⟨g3, j, none⟩ (.int .i64 (y : Int))).setCell ⟨g3, j + 1, none⟩ (.int .i64 (z : Int))).drew = w2
      have K1' := Lib.hid (show Blk w2 g1 22 (bsC D) by rw [← hw2]; exact ((K1.out.away hne1 j _).away hne1 (j + 1) _).draw)
      have K2' := Lib.hid (show Blk w2 g2 27 (ksC .i64 z35) by rw [← hw2]; exact ((K2.out.away hne3 j _).away hne3 (j + 1) _).draw)
      have BW' := Lib.hid (show Below g1 w w2 by rw [← hw2]; exact (below_put (below_put BW.out g3 j (by omega) _) g3 (j + 1) (by omega) _).drew)
      have hK3 : Blk w2 g3 27 (ksC .i64 ((L.set j (y : Int)).set (j + 1) (z : Int))) := by
        rw [← hw2, ← ksC_set, ← ksC_set]
        exact ((K3.out.put j _).put (j + 1) _).draw
      have d1 : ∀ m, (w2.drewN m).cell? ⟨g3, j, none⟩ = some (.int .i64 (y : Int)) := fun m => by
        rw [(hK3.draws m).cell, ksC_get .i64 _ j (by rw [List.length_set, List.length_set, HLL.out]; omega), List.getD_eq_getElem?_getD, List.getElem?_set_ne (by omega), List.getElem?_set_self (by rw [HLL.out]; omega)]
        rfl
      have d2 : ∀ m, (w2.drewN m).cell? ⟨g3, j + 1, none⟩ = some (.int .i64 (z : Int)) := fun m => by
        rw [(hK3.draws m).cell, ksC_get .i64 _ (j + 1) (by rw [List.length_set, List.length_set, HLL.out]; omega), List.getD_eq_getElem?_getD, List.getElem?_set_self (by rw [List.length_set, HLL.out]; omega)]
        rfl
      rw [HJ.out, HY.out, HZ.out, HST.out] at hK3
      have K3' := Lib.hid hK3
      have y0 : (0 : Int) ≤ (y : Int) := by omega
      have z0 : (0 : Int) ≤ (z : Int) := by omega
      have G0 : (0 : Int) ≤ (G : Int) := by omega
      clear hw2 hK3 cx cx2 cx3 cj fj cj2 fj2 q2 q3
      go_quiet (fail)
      go_wp2_with fail
      go_roundw
      case rel => exact ⟨i + 1, by go_num, by omega, by rw [HG.out, ← HY.out, ← HZ.out]; congr 1; omega, K1'.out.draws _, K2'.out.draws _, K3'.out.draws _, below_draws BW'.out _⟩
      case measure => simp [intOf]; omega
    · obtain rfl : i = 16 := by omega
      have hK := K3.out
      have h16 : d.take 16 = d := List.take_of_length_le (by rw [Hd.out]; exact Nat.le_refl _)
      rw [h16] at hK ⊢
      obtain ⟨S, hS⟩ : ∃ S, S = S7.gap (S7.nibs d) := ⟨_, rfl⟩
      obtain ⟨L, hL⟩ : ∃ L, L = nI (S7.nibs d) ++ List.replicate 3 0 := ⟨_, rfl⟩
      have hK2 : Blk wr g3 27 (ksC .i64 L) := by rw [hL]; exact hK
      have hNL : (S7.nibs d).length = 32 := by rw [S7.nibs_len, Hd.out]
      have HLL := Lib.hid (show L.length = 35 by rw [hL, List.length_append, nI_len, hNL]; rfl)
      have hS480 : S ≤ 480 := by rw [hS]; have := S7.gap_le (S7.nibs d); rw [hNL] at this; omega
      obtain ⟨a, ha⟩ : ∃ a, a = S / 256 := ⟨_, rfl⟩
      obtain ⟨b, hb⟩ : ∃ b, b = S / 16 % 16 := ⟨_, rfl⟩
      obtain ⟨c, hc⟩ : ∃ c, c = S % 16 := ⟨_, rfl⟩
      have hend : ((L.set 32 (a : Int)).set 33 (b : Int)).set 34 (c : Int) = nI (S7.split d) := by
        rw [← splice_nil (((L.set 32 (a : Int)).set 33 (b : Int)).set 34 (c : Int)) 35, splice_cons _ 34 (c : Int) [] (by simp [HLL.out]), splice_cons _ 33 (b : Int) _ (by simp [HLL.out]), splice_cons _ 32 (a : Int) _ (by rw [HLL.out]; omega)]
        unfold splice S7.split nI
        rw [hL, List.take_left' (by rw [nI_len, hNL]), List.drop_eq_nil_of_le (by rw [List.length_append, nI_len, hNL]; simp), ← hS, ha, hb, hc, List.map_append]
        simp
      rw [← hS]
      have HE := Lib.hid hend; have K := Lib.hid hK2
      have HSL := Lib.hid (show (nI (S7.split d)).length = 35 by rw [nI_len, S7.split_len d Hd.out])
      have q1 : (S : Int) / 256 = (a : Int) := by omega
      have q2 : (S : Int) / 16 % 16 = (b : Int) := by omega
      have q3 : (S : Int) % 16 = (c : Int) := by omega
      have q4 : (S : Int) ≤ 480 := by omega
      have q5 : (0 : Int) ≤ (S : Int) := by omega
      have c1 := K.out.cell 32
      rw [ksC_get .i64 L 32 (by rw [HLL.out]; omega)] at c1
      have f1 := K.out.free 32
      have c2 : ∀ u, (wr.setCell ⟨g3, 32, none⟩ u).cell? ⟨g3, 33, none⟩ = some (.int .i64 (L.getD 33 0)) := fun u => by
        rw [(K.out.put 32 u).cell, Array.getElem?_setIfInBounds_ne (by omega), ksC_get .i64 L 33 (by rw [HLL.out]; omega)]
      have f2 : ∀ u, (wr.setCell ⟨g3, 32, none⟩ u).frozen? ⟨g3, 33, none⟩ = false := fun u => (K.out.put 32 u).free 33
      have c3 : ∀ u v, ((wr.setCell ⟨g3, 32, none⟩ u).setCell ⟨g3, 33, none⟩ v).cell? ⟨g3, 34, none⟩ = some (.int .i64 (L.getD 34 0)) := fun u v => by
        rw [((K.out.put 32 u).put 33 v).cell, Array.getElem?_setIfInBounds_ne (by omega), Array.getElem?_setIfInBounds_ne (by omega), ksC_get .i64 L 34 (by rw [HLL.out]; omega)]
      have f3 : ∀ u v, ((wr.setCell ⟨g3, 32, none⟩ u).setCell ⟨g3, 33, none⟩ v).frozen? ⟨g3, 34, none⟩ = false := fun u v => ((K.out.put 32 u).put 33 v).free 34
      have K9 := Lib.hid (show Blk (((wr.setCell ⟨g3, 32, none⟩ (.int .i64 (a : Int))).setCell ⟨g3, 33, none⟩ (.int .i64 (b : Int))).setCell ⟨g3, 34, none⟩ (.int .i64 (c : Int))) g3 27 (ksC .i64 (nI (S7.split d))) by
        rw [← HE.out, ← ksC_set, ← ksC_set, ← ksC_set]
        exact ((K.out.put 32 _).put 33 _).put 34 _)
      have R9 := Lib.hid (show Blk (((wr.setCell ⟨g3, 32, none⟩ (.int .i64 (a : Int))).setCell ⟨g3, 33, none⟩ (.int .i64 (b : Int))).setCell ⟨g3, 34, none⟩ (.int .i64 (c : Int))) g2 27 (ksC .i64 z35) from ((K2.out.away hne3 32 _).away hne3 33 _).away hne3 34 _)
      have B9 := Lib.hid (show Below g1 w (((wr.setCell ⟨g3, 32, none⟩ (.int .i64 (a : Int))).setCell ⟨g3, 33, none⟩ (.int .i64 (b : Int))).setCell ⟨g3, 34, none⟩ (.int .i64 (c : Int))) from below_put (below_put (below_put BW.out g3 32 (by omega) _) g3 33 (by omega) _) g3 34 (by omega) _)
      clear hK h16 hK2 hend hL hS ha hb hc hNL
      go_wp2_with (first
        | (refine ld_ks Tryd.underlying27 info35 _ (nI (S7.split d)) HSL.out K9.out (by rfl) _ (by rfl) (by rfl) ?_)
        | (refine sto_ks info35 _ (nI (S7.split d)) HSL.out _ R9.out (by rw [ksC_size]; exact z35_len) (by rfl) _ _ (by rfl) (by rfl) (by rfl) ?_; intro w5 hw5))
      have hf : Blk w5 g2 27 (ksC .i64 (nI (S7.split d))) := by rw [hw5.out]; exact R9.out.row _
      have hfB : Below g1 w w5 := by rw [hw5.out]; exact below_row B9.out _ (by omega) _
      exact bodyPost_ret (results_cell_row rfl _ _ g2 _ _ _ _ rfl hf Tryd.underlying27 rfl (by rw [ksC_size, HSL.out]; exact info35)) rfl ⟨rfl, by rw [← HG1.out]; exact hfB⟩
end Go.Proofs.YtgfolgmheinbiaaDoorRRR
