/- The program's Split. -/
import Derived.Test.YtgfolgmheinbiaaDoorRRRCollect
import Derived.Deep.CutRange
namespace S7
theorem nibs_app : ∀ a b : List Nat, nibs (a ++ b) = nibs a ++ nibs b
  | [], _ => rfl
  | x :: a, b => by rw [List.cons_append, nibs, nibs_app a b, nibs]; rfl
theorem gap_app : ∀ a b : List Nat, gap (a ++ b) = gap a + gap b
  | [], b => by rw [List.nil_append, gap]; omega
  | x :: a, b => by rw [List.cons_append, gap, gap_app a b, gap]; omega
end S7
namespace Go.Proofs.YtgfolgmheinbiaaDoorRRR
open Go.RowKit

theorem split_step (d : List Nat) (hd : d.length = 16) (hb : ∀ x ∈ d, x < 256) (i : Nat) (hi : i < 16) (L : List Int) (hL : L = nI (S7.nibs (d.take i)) ++ List.replicate (35 - 2 * i) 0) :
    L.take (2 * i) ++ dgs (d.getD i 0) 2 ++ L.drop (2 * i + 2) = nI (S7.nibs (d.take (i + 1))) ++ List.replicate (35 - 2 * (i + 1)) 0 := by
  have hp : (nI (S7.nibs (d.take i))).length = 2 * i := by rw [nI_len, S7.nibs_len, List.length_take]; omega
  have hx : d.getD i 0 < 256 := by
    rw [List.getD_eq_getElem?_getD, List.getElem?_eq_getElem (by omega)]
    exact hb _ (List.getElem_mem _)
  have e : d.take (i + 1) = d.take i ++ [d.getD i 0] := by
    rw [List.take_add_one, List.getD_eq_getElem?_getD, List.getElem?_eq_getElem (by omega)]
    rfl
  rw [hL, List.take_left' hp, List.drop_append, List.drop_eq_nil_of_le (by omega), List.nil_append, hp, e, S7.nibs_app]
  generalize d.getD i 0 = x at *
  have e3 : List.drop (2 * i + 2 - 2 * i) (List.replicate (35 - 2 * i) (0 : Int)) = List.replicate (35 - 2 * (i + 1)) 0 := by
    rw [List.drop_replicate]
    congr 1
    omega
  rw [e3]
  have e4 : dgs x 2 = nI (S7.nibs [x]) := by
    simp only [dgs, S7.nibs, nI, List.map_cons, List.map_nil]
    rw [Nat.pow_one, Nat.pow_zero, Nat.div_one, Nat.mod_eq_of_lt (show x / 16 < 16 by omega)]
  rw [e4]
  unfold nI
  rw [List.map_append]
theorem split_end (d : List Nat) (hd : d.length = 16) (L : List Int) (hL : L = nI (S7.nibs d) ++ List.replicate 3 0) :
    L.take 32 ++ dgs (S7.gap (S7.nibs d)) 3 ++ L.drop (32 + 3) = nI (S7.split d) := by
  have hp : (nI (S7.nibs d)).length = 32 := by rw [nI_len, S7.nibs_len, hd]
  have hg := S7.gap_le (S7.nibs d)
  rw [S7.nibs_len, hd] at hg
  have e : L.drop (32 + 3) = [] := List.drop_eq_nil_of_le (by rw [hL, List.length_append, hp, List.length_replicate]; omega)
  rw [e, hL, List.take_left' hp, List.append_nil]
  unfold S7.split
  generalize S7.gap (S7.nibs d) = g at *
  have e4 : dgs g 3 = nI [g / 256, g / 16 % 16, g % 16] := by
    simp only [dgs, nI, List.map_cons, List.map_nil]
    rw [Nat.pow_one, Nat.pow_zero, Nat.div_one, show g / 16 ^ 2 % 16 = g / 256 by omega]
  rw [e4]
  unfold nI
  rw [List.map_append]

set_option maxRecDepth 100000 in
set_option maxHeartbeats 2000000 in
theorem split_any (d : List Nat) (hd : d.length = 16) (hb : ∀ x ∈ d, x < 256) (w : World) :
    Calls Tryd.prog 15 #[.agg (bsC (nI d))] w fun e w' => e = .returned (.agg (ksC .i64 (nI (S7.split d)))) ∧ Below w.heap.size w w' := by
  obtain ⟨D, hD⟩ : ∃ D, D = nI d := ⟨_, rfl⟩
  have HDL := Lib.hid (show D.length = 16 by rw [hD, nI_len, hd])
  have HD := Lib.hid hD
  have Hd := Lib.hid hd; have HB := Lib.hid hb
  rw [← hD]
  clear hD hd hb
  go_enter Tryd.func15, Tryd.ntmps15
  go_upto_region 3 with (fail)
  change Code.wp Tryd.prog _ _ _ ((((w.alloc (.cells (bsC D) 22)).alloc (.cells (ksC .i64 z35) 27)).alloc (.cells (ksC .i64 z35) 27)).alloc (.cells #[.int .i64 0] 3))
  generalize hW0 : (((w.alloc (.cells (bsC D) 22)).alloc (.cells (ksC .i64 z35) 27)).alloc (.cells (ksC .i64 z35) 27)).alloc (.cells #[.int .i64 0] 3) = W0
  obtain ⟨hb1, hb2, hb3, hb4, hB0⟩ := boxes4 w hW0
  have B0 := Lib.hid hB0; have K1 := Lib.hid hb1; have K2 := Lib.hid hb2; have K3 := Lib.hid hb3; have K4 := Lib.hid hb4
  obtain ⟨g1, hg1⟩ : ∃ g1, g1 = w.heap.size := ⟨_, rfl⟩
  obtain ⟨g2, hg2⟩ : ∃ g2, g2 = w.heap.size + 1 := ⟨_, rfl⟩
  obtain ⟨g3, hg3⟩ : ∃ g3, g3 = w.heap.size + 1 + 1 := ⟨_, rfl⟩
  obtain ⟨g4, hg4⟩ : ∃ g4, g4 = w.heap.size + 1 + 1 + 1 := ⟨_, rfl⟩
  rw [← hg4] at K4 ⊢
  rw [← hg3] at K3 ⊢
  rw [← hg2] at K2 ⊢
  rw [← hg1] at K1 B0 ⊢
  have HG1 := Lib.hid hg1
  have o2 : g1 < g2 := by omega
  have o3 : g2 < g3 := by omega
  have o4 : g3 < g4 := by omega
  have hne : g3 ≠ g4 := by omega
  have hne2 : g2 ≠ g4 := by omega
  have hne3 : g2 ≠ g3 := by omega
  clear hW0 hb1 hb2 hb3 hb4 hB0 hg1 hg2 hg3 hg4
  go_wp2_with (refine ld_bs Tryd.underlying22 info16u _ D HDL.out K1.out (by rfl) _ (by rfl) (by rfl) ?_)
  go_loopw [13] (fun iv wr => ∃ i : Nat, iv = .int .i64 i ∧ i ≤ 16 ∧ Blk wr g2 27 (ksC .i64 z35) ∧ Blk wr g3 27 (ksC .i64 (nI (S7.nibs (d.take i)) ++ List.replicate (35 - 2 * i) 0)) ∧ Blk wr g4 3 #[.int .i64 (2 * i : Nat)] ∧ Below g1 w wr) (fun iv _ => 16 - (intOf iv).toNat)
  case atStart => exact ⟨0, rfl, by omega, K2.out, K3.out, K4.out, B0.out⟩
  case round =>
    clear K1 K2 K3 K4 B0
    obtain ⟨i, rfl, hi, h2, h3, h4, hB⟩ := hrel
    have R := Lib.hid h2; have K := Lib.hid h3; have N := Lib.hid h4; have BW := Lib.hid hB
    clear h2 h3 h4 hB
    by_cases hlt : i < 16
    · have hiI : (i : Int) < 16 := by omega
      obtain ⟨x, hx⟩ : ∃ x, d.getD i 0 = x := ⟨_, rfl⟩
      have hx2 : x < 256 := by
        rw [← hx, List.getD_eq_getElem?_getD, List.getElem?_eq_getElem (by rw [Hd.out]; exact hlt)]
        exact HB.out _ (List.getElem_mem _)
      have hix := fun w => idx_bs 22 16 Tryd.underlying22 D HDL.out i hlt (x : Int) (by
        rw [HD.out, ← hx, List.getD_eq_getElem?_getD, List.getElem?_map, List.getD_eq_getElem?_getD, List.getElem?_eq_getElem (by rw [Hd.out]; exact hlt)]
        rfl) w
      have hst := split_step d Hd.out HB.out i hlt _ rfl
      rw [hx] at hst
      obtain ⟨L, hL⟩ : ∃ L, L = nI (S7.nibs (d.take i)) ++ List.replicate (35 - 2 * i) 0 := ⟨_, rfl⟩
      rw [← hL] at hst K
      have HLL : L.length = 35 := by rw [hL, List.length_append, nI_len, S7.nibs_len, List.length_take, Hd.out, List.length_replicate]; omega
      have HC := Lib.hid (fun W h3 h4 => collect_any g3 g4 hne x 2 (2 * i) L W HLL h3 h4 (by omega) (by omega) (by omega))
      have HST := Lib.hid hst
      have hxI : (x : Int) < 256 := by omega
      clear hst hL HLL hx
      go_wp2_with (go_at_call 36; refine (HC.out _ K.out N.out).mono ?_; rintro e wc ⟨rfl, hk, hn, ht⟩; have KC := Lib.hid hk; have NC := Lib.hid hn; have TC := Lib.hid ht; clear hk hn ht)
      go_roundw
      case rel => exact ⟨i + 1, by go_num, by omega, (TC.out.1 g2 hne3 hne2).trans R.out, by rw [← HST.out]; exact KC.out, NC.out, TC.out.2 _ _ BW.out (by omega) (by omega)⟩
      case measure => simp [intOf]; omega
    · obtain rfl : i = 16 := by omega
      have hK := K.out
      have h16 : d.take 16 = d := List.take_of_length_le (by rw [Hd.out]; exact Nat.le_refl _)
      rw [h16] at hK
      obtain ⟨L, hL⟩ : ∃ L, L = nI (S7.nibs d) ++ List.replicate 3 0 := ⟨_, rfl⟩
      have hK2 : Blk wr g3 27 (ksC .i64 L) := by rw [hL]; exact hK
      have HLL : L.length = 35 := by rw [hL, List.length_append, nI_len, S7.nibs_len, Hd.out]; rfl
      have hend := split_end d Hd.out L hL
      obtain ⟨S, hS⟩ : ∃ S, S = S7.gap (S7.nibs d) := ⟨_, rfl⟩
      rw [← hS] at hend
      have hS480 : S ≤ 480 := by rw [hS]; have := S7.gap_le (S7.nibs d); rw [S7.nibs_len, Hd.out] at this; omega
      have HC := Lib.hid (fun W h3 h4 => collect_any g3 g4 hne S 3 32 L W HLL h3 h4 (by omega) (by omega) (by omega))
      have HE := Lib.hid hend; have K := Lib.hid hK2; have HLN := Lib.hid HLL; have HL := Lib.hid hL; have HS := Lib.hid hS
      have hNL : (S7.nibs d).length = 32 := by rw [S7.nibs_len, Hd.out]
      have HNL := Lib.hid hNL
      have HNB := Lib.hid (S7.nibs_lt d HB.out)
      have HSL := Lib.hid (show (nI (S7.split d)).length = 35 by rw [nI_len, S7.split_len d Hd.out])
      clear hK hK2 h16 hL hend hS HLL hNL
      go_wp2_with fail
      go_loop [8, 23] (fun sv kv => ∃ k : Nat, kv = .int .i64 k ∧ k ≤ 32 ∧ sv = .int .i64 (S7.gap ((S7.nibs d).take k) : Nat)) (fun _ kv => 32 - (intOf kv).toNat)
      case atStart => exact ⟨0, rfl, by omega, rfl⟩
      case round =>
        obtain ⟨k, rfl, hk, rfl⟩ := hrel
        by_cases hk32 : k < 32
        · have hkI : (k : Int) < 32 := by omega
          obtain ⟨x, hx⟩ : ∃ x, (S7.nibs d).getD k 0 = x := ⟨_, rfl⟩
          have hx15 : x ≤ 15 := by
            rw [← hx, List.getD_eq_getElem?_getD, List.getElem?_eq_getElem (by rw [HNL.out]; exact hk32)]
            exact HNB.out _ (List.getElem_mem _)
          have ck : wr.cell? ⟨g3, k, none⟩ = some (.int .i64 (x : Int)) := by
            rw [K.out.cell, ksC_get .i64 L k (by rw [HLN.out]; omega), HL.out, ← hx, List.getD_eq_getElem?_getD, List.getElem?_append_left (by rw [nI_len, HNL.out]; exact hk32), List.getElem?_map, List.getD_eq_getElem?_getD, List.getElem?_eq_getElem (by rw [HNL.out]; exact hk32)]
            rfl
          have hg : S7.gap ((S7.nibs d).take (k + 1)) = S7.gap ((S7.nibs d).take k) + (15 - x) := by
            rw [List.take_add_one, ← hx, List.getD_eq_getElem?_getD, List.getElem?_eq_getElem (by rw [HNL.out]; exact hk32), S7.gap_app]
            rfl
          have hle : S7.gap ((S7.nibs d).take k) ≤ 480 := by have := S7.gap_le ((S7.nibs d).take k); rw [List.length_take] at this; omega
          obtain ⟨G, hG⟩ : ∃ G, G = S7.gap ((S7.nibs d).take k) := ⟨_, rfl⟩
          rw [← hG] at hg hle ⊢
          have HG := Lib.hid hg
          have hxI : (x : Int) ≤ 15 := by omega
          have hxI0 : (0 : Int) ≤ (x : Int) := by omega
          have hGI : (G : Int) ≤ 480 := by omega
          clear hx hg hG hle
          go_wp2_with fail
          go_round
          case rel => exact ⟨k + 1, by go_num, by omega, by rw [HG.out]; congr 1; omega⟩
          case measure => simp [intOf]; omega
        · obtain rfl : k = 32 := by omega
          have hfull : (S7.nibs d).take 32 = S7.nibs d := List.take_of_length_le (by rw [HNL.out]; exact Nat.le_refl _)
          rw [hfull, ← HS.out]
          clear hfull
          have hS480I : (S : Int) ≤ 480 := by omega
          go_wp2_with (first
            | (go_at_call 36; refine (HC.out _ K.out N.out).mono ?_; rintro e wc ⟨rfl, hk, hn, ht⟩; rw [HE.out] at hk; have KC := Lib.hid hk; have RC := Lib.hid (show Blk wc g2 27 (ksC .i64 z35) from (ht.1 g2 hne3 hne2).trans R.out); have BC := Lib.hid (ht.2 _ _ BW.out (by omega) (by omega)); clear hk hn ht)
            | (refine ld_ks Tryd.underlying27 info35 _ (nI (S7.split d)) HSL.out KC.out (by rfl) _ (by rfl) (by rfl) ?_)
            | (refine sto_ks info35 _ (nI (S7.split d)) HSL.out _ RC.out (by rw [ksC_size]; exact z35_len) (by rfl) _ _ (by rfl) (by rfl) (by rfl) ?_; intro w5 hw5))
          have hf : Blk w5 g2 27 (ksC .i64 (nI (S7.split d))) := by rw [hw5.out]; exact RC.out.row _
          have hfB : Below g1 w w5 := by rw [hw5.out]; exact below_row BC.out _ (by omega) _
          exact bodyPost_ret (results_cell_row rfl _ _ g2 _ _ _ _ rfl hf Tryd.underlying27 rfl (by rw [ksC_size, HSL.out]; exact info35)) rfl ⟨rfl, by rw [← HG1.out]; exact hfB⟩
end Go.Proofs.YtgfolgmheinbiaaDoorRRR
