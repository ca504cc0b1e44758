/- The reference's Parse. -/
import Derived.Test.YteoknmdoghemmaaParseGo
import Derived.Test.YteoknmdoghemmaaRefCmp
namespace Mid
theorem good_zero (c : UInt8) : good c 0 = decide ((c.toNat : Int) = 60) := by
  have h : good c 0 = (c == 60) := rfl
  rw [h]
  exact u8_eq c 60
theorem good_mid (c : UInt8) (k : Nat) (h : 1 ≤ k) (h2 : k < 65) : good c k = decide (0 ≤ Asc.nib c) := by
  unfold good
  rw [if_neg (by omega), if_pos (by omega)]
theorem good_tail (c : UInt8) (k : Nat) (h : 65 ≤ k) : good c k = decide ((c.toNat : Int) = ((tail6.getD (k - 65) 0).toNat : Int)) := by
  unfold good
  rw [if_neg (by omega), if_neg (by omega)]
  exact u8_eq c _
/-- the reference's array once the places below k are read -/
def stA (s : List UInt8) (k : Nat) : List Nat := (List.range 32).map fun j => if 2 * j + 2 < k then 16 * dg s (2 * j) + dg s (2 * j + 1) else if 2 * j + 1 < k then dg s (2 * j) else 0
theorem stA_len (s : List UInt8) (k : Nat) : (stA s k).length = 32 := by simp [stA]
theorem stA_zero (s : List UInt8) : stA s 0 = zN := by
  have h : stA s 0 = (List.range 32).map fun _ => 0 := List.map_congr_left (fun j _ => by simp)
  rw [h]; rfl
theorem stA_one (s : List UInt8) : stA s 1 = stA s 0 := by
  apply List.map_congr_left
  intro j _
  simp
theorem stA_top (s : List UInt8) (k : Nat) (h : 65 ≤ k) : stA s k = idL s := by
  apply List.map_congr_left
  intro j hj
  have := List.mem_range.1 hj
  rw [if_pos (by omega)]
theorem stA_get (s : List UInt8) (k j : Nat) (hj : j < 32) : (stA s k).getD j 0 = if 2 * j + 2 < k then 16 * dg s (2 * j) + dg s (2 * j + 1) else if 2 * j + 1 < k then dg s (2 * j) else 0 := by
  rw [List.getD_eq_getElem?_getD, List.getElem?_eq_getElem (by rw [stA_len]; exact hj)]
  simp [stA]
theorem stA_step (s : List UInt8) (d : Nat) (hd : d < 64) : stA s (d + 2) = (stA s (d + 1)).set (d / 2) (16 * (stA s (d + 1)).getD (d / 2) 0 + dg s d) := by
  rw [stA_get s (d + 1) (d / 2) (by omega)]
  apply List.ext_getElem (by simp [stA])
  intro i h1 h2
  have hi : i < 32 := by simpa [stA] using h1
  rw [List.getElem_set]
  simp only [stA, List.getElem_map, List.getElem_range]
  by_cases e : d / 2 = i
  · rw [if_pos e]
    subst e
    by_cases hp : d % 2 = 0
    · have e2 : 2 * (d / 2) = d := by omega
      rw [if_neg (by omega), if_pos (by omega), if_neg (by omega), if_neg (by omega), e2]
      omega
    · have e2 : 2 * (d / 2) + 1 = d := by omega
      rw [if_pos (by omega), if_neg (by omega), if_pos (by omega), e2]
  · rw [if_neg e]
    by_cases h3 : 2 * i + 2 < d + 1
    · rw [if_pos (by omega), if_pos h3]
    · rw [if_neg (by omega), if_neg h3]
      by_cases h4 : 2 * i + 1 < d + 1
      · rw [if_pos (by omega), if_pos h4]
      · rw [if_neg (by omega), if_neg h4]
theorem stA_small (s : List UInt8) (d : Nat) (hd : d < 64) : 16 * (stA s (d + 1)).getD (d / 2) 0 + dg s d < 256 := by
  rw [stA_get s (d + 1) (d / 2) (by omega)]
  have h1 := dg_lt s d
  have h2 := dg_lt s (2 * (d / 2))
  have h3 := dg_lt s (2 * (d / 2) + 1)
  by_cases hp : d % 2 = 0
  · rw [if_neg (by omega), if_neg (by omega)]; omega
  · rw [if_neg (by omega), if_pos (by omega)]; omega
theorem stA_lt (s : List UInt8) (k : Nat) : ∀ x ∈ stA s k, x < 256 := by
  intro x hx
  simp only [stA, List.mem_map, List.mem_range] at hx
  obtain ⟨j, _, rfl⟩ := hx
  have h2 := dg_lt s (2 * j)
  have h3 := dg_lt s (2 * j + 1)
  split
  · omega
  · split <;> omega
end Mid
namespace Go.Proofs.Yteoknmdoghemmaa
open Go.RowKit

theorem nI_set (l : List Nat) (i x : Nat) : (nI l).set i (x : Int) = nI (l.set i x) := by
  unfold nI
  rw [List.map_set]

theorem run_build_rid (w : World) : (Instr.build 30 #[]).run Try.prog w = .ok (.agg (bsC zD)) w := by kernel_rfl
theorem wp_build_rid {ops : Array Oper} {rest : List Oper} {o : Oper} {a : Act} {w : World} {Q : Exit → Act → World → Prop} (hgd : o.guard = none) (ho : o.op = .build 30 #[])
    (hk : wpList Try.prog ops Q rest (a.put o.dst (.agg (bsC zD))) w) : wpList Try.prog ops Q (o :: rest) a w := by
  have hrun := run_build_rid w
  refine wpList_plain hgd fun K hK => ?_
  unfold Oper.wp
  simp [execOp, ho, hrun, Result.andThen]
  exact hK _ _ hk

set_option maxRecDepth 100000 in
set_option maxHeartbeats 4000000 in
theorem refParse_any (s : ByteArray) (hm : s.size ≤ 100000) (v : List Nat) (a b : Nat) (hp : Mid.parse s.data.toList = (v, a, b)) (w : World) :
    Calls Try.prog 17 #[.string s] w fun e w' => e = .returned (.tuple #[.agg (bsC (nI v)), .int .i64 a, .int .i64 b]) ∧ Below w.heap.size w w' := by
  have hmI : (s.size : Int) ≤ 100000 := by omega
  have HP := Lib.hid hp
  have HV := Lib.hid (Mid.parse_len _ _ _ _ hp)
  have HS := Lib.hid hm
  clear hp hm
  go_enter Try.func17, Try.ntmps17
  go_upto_region 2 with (fail)
  change Code.wp Try.prog _ _ _ ((w.alloc (.cells (bsC zD) 30)).alloc (.cells (bsC zD) 30))
  have k0 := (Blk.fresh w 30 (bsC zD)).more (.cells (bsC zD) 30)
  have k1 := Blk.fresh (w.alloc (.cells (bsC zD) 30)) 30 (bsC zD)
  have hB : Below w.heap.size w ((w.alloc (.cells (bsC zD) 30)).alloc (.cells (bsC zD) 30)) := ((Below.refl _ w).alloc (Nat.le_refl _) _).alloc (by simp) _
  rw [show (w.alloc (.cells (bsC zD) 30)).heap.size = w.heap.size + 1 by simp] at k1
  generalize (w.alloc (.cells (bsC zD) 30)).alloc (.cells (bsC zD) 30) = W0 at *
  have k1' : Blk W0 (w.heap.size + 1) 30 (bsC (nI (Mid.stA s.data.toList 0))) := by rw [Mid.stA_zero]; exact k1
  have K0 := Lib.hid k0; have K1 := Lib.hid k1'; have B0 := Lib.hid hB
  clear k0 k1 k1' hB
  go_wp2_with fail
  go_loopw [7, 8] (fun i d wr => ∃ k : Nat, i = .int .i64 k ∧ k ≤ 71 ∧ k ≤ s.size ∧ Hid (Mid.bad 0 s.data.toList = Mid.bad k (s.data.toList.drop k)) ∧ Hid (Blk wr w.heap.size 30 (bsC zD)) ∧ Hid (Blk wr (w.heap.size + 1) 30 (bsC (nI (Mid.stA s.data.toList k)))) ∧ Hid (Below w.heap.size w wr)) (fun i _ _ => 71 - (intOf i).toNat)
  case atStart => exact ⟨0, rfl, by omega, by omega, Lib.hid rfl, K0, K1, B0⟩
  case round =>
    clear K0 K1 B0
    obtain ⟨k, rfl, hk, hks, hf, ZZ, AA, BB⟩ := hrel
    by_cases hlt : k < 71 ∧ k < s.size
    · obtain ⟨h71, hls⟩ := hlt
      have hst := Mid.bad_step s.data.toList k (by rw [size_toList]; exact hls) h71
      rw [← hf.out, get_toList s k hls] at hst
      obtain ⟨x, hx⟩ : ∃ x, s[k] = x := ⟨_, rfl⟩
      have i1 := fun w => run_at s k hls x hx w
      rw [hx] at hst
      have hdg : s.data.toList.getD k 0 = x := by rw [getD_toList s k hls, hx]
      have HDG := Lib.hid hdg
      have hlsI : (k : Int) < (s.size : Int) := by omega
      have h71I : (k : Int) < 71 := by omega
      clear hf hx hdg
      by_cases h0 : k = 0
      · subst h0
        have i1 : ∀ w, (Instr.index 9 (.string s) (.int .i64 0)).run Try.prog w = .ok (.int .u8 (x.toNat : Int)) w := i1
        have hs0 : (0 : Int) < (s.size : Int) := by omega
        rw [Mid.good_zero] at hst
        obtain ⟨z, hz⟩ : ∃ z : Int, z = (x.toNat : Int) := ⟨_, rfl⟩
        rw [← hz] at i1 hst
        have HST := Lib.hid hst
        clear hst hz
        by_cases hq : z = 60
        · have HST2 := Lib.hid (show Mid.bad 0 s.data.toList = Mid.bad (0 + 1) (s.data.toList.drop (0 + 1)) by rw [HST.out, hq]; rfl)
          subst hq
          go_wp2_with fail
          go_roundw
          case rel => exact ⟨0 + 1, rfl, by omega, by omega, HST2, ZZ, Lib.hid (by rw [Mid.stA_one]; exact AA.out), BB⟩
          case measure => simp [intOf]
        · have hres := HP.out
          rw [Mid.parse_bad _ 0 (by rw [HST.out, decide_eq_false hq]; rfl)] at hres
          obtain ⟨e1, e2, e3⟩ := triple_inj hres
          subst e1 e2 e3
          clear hres
          go_wp2_with (first
            | (refine wp_build_rid (by rfl) (by rfl) ?_)
            | (refine sto_bs infoRid _ zD zD_len _ ZZ.out (by rw [bsC_size]; exact zD_len) (by rfl) _ _ (by rfl) (by rfl) (by rfl) ?_; intro w5 hw5))
          have hfin : Blk w5 w.heap.size 30 (bsC zD) := by rw [hw5.out]; exact ZZ.out.row _
          have hfB : Below w.heap.size w w5 := by rw [hw5.out]; exact below_row BB.out _ (Nat.le_refl _) _
          exact bodyPost_ret (results_cell_tmp2 rfl _ _ w.heap.size _ _ _ _ rfl hfin (by rfl) Try.underlying30 (by rw [bsC_size, zD_len]; exact infoRid)) rfl ⟨rfl, hfB⟩
      · by_cases h65k : k ≤ 64
        · obtain ⟨d, rfl⟩ : ∃ d, k = d + 1 := ⟨k - 1, by omega⟩
          have ek : ((d + 1 : Nat) : Int) = (d : Int) + 1 := by omega
          rw [ek] at i1 hlsI h71I
          have hd0 : ¬ (d : Int) + 1 = 0 := by omega
          have h65 : d < 64 := by omega
          · rw [Mid.good_mid x (d + 1) (by omega) (by omega)] at hst
            obtain ⟨y, hy⟩ : ∃ y, y = Asc.nib x := ⟨_, rfl⟩
            have HC := Lib.hid (fun w => refdigit_any x w)
            have hyr := Asc.nib_range x
            have hdy : Mid.dg s.data.toList d = y.toNat := by unfold Mid.dg; rw [HDG.out, hy]
            rw [← hy] at hst HC hyr
            have HST := Lib.hid hst; have HDY := Lib.hid hdy
            have hd64 : (d : Int) + 1 ≤ 64 := by omega
            clear hst hy hdy
            by_cases hneg : y < 0
            · have hres := HP.out
              rw [Mid.parse_bad _ (d + 1) (by rw [HST.out, decide_eq_false (by omega)]; rfl)] at hres
              obtain ⟨e1, e2, e3⟩ := triple_inj hres
              subst e1 e2 e3
              clear hres
              go_wp2_with fail
              refine (HC.out _).mono ?_
              rintro e w1 ⟨rfl, rfl⟩
              go_wp2_with (first
                | (refine wp_build_rid (by rfl) (by rfl) ?_)
                | (refine sto_bs infoRid _ zD zD_len _ ZZ.out (by rw [bsC_size]; exact zD_len) (by rfl) _ _ (by rfl) (by rfl) (by rfl) ?_; intro w5 hw5))
              have hfin : Blk w5 w.heap.size 30 (bsC zD) := by rw [hw5.out]; exact ZZ.out.row _
              have hfB : Below w.heap.size w w5 := by rw [hw5.out]; exact below_row BB.out _ (Nat.le_refl _) _
              exact bodyPost_ret (results_cell_tmp2 rfl _ _ w.heap.size _ _ _ _ rfl hfin (by rfl) Try.underlying30 (by rw [bsC_size, zD_len]; exact infoRid)) rfl ⟨rfl, hfB⟩
            · obtain ⟨o, ho⟩ : ∃ o, o = (Mid.stA s.data.toList (d + 1)).getD (d / 2) 0 := ⟨_, rfl⟩
              have hsm := Mid.stA_small s.data.toList d h65
              have hstp := Mid.stA_step s.data.toList d h65
              have c1 := cell_nI AA.out (d / 2) (by rw [Mid.stA_len]; omega)
              have f1 : wr.frozen? ⟨w.heap.size + 1, d / 2, none⟩ = false := AA.out.free _
              rw [HDY.out, ← ho] at hsm hstp
              rw [← ho] at c1
              have m1 : IntKind.u8.wrap ((o : Int) * 16) = (o : Int) * 16 := by simp [IntKind.wrap, IntKind.bits, IntKind.signed]; omega
              have m2 : IntKind.u8.wrap y = y := by simp [IntKind.wrap, IntKind.bits, IntKind.signed]; omega
              have m3 : IntKind.u8.wrap ((o : Int) * 16 + y) = (o : Int) * 16 + y := by simp [IntKind.wrap, IntKind.bits, IntKind.signed]; omega
              have hnew : ((bsC (nI (Mid.stA s.data.toList (d + 1)))).setIfInBounds (d / 2) (.int .u8 ((o : Int) * 16 + y))) = bsC (nI (Mid.stA s.data.toList (d + 2))) := by
                rw [bsC_set, hstp, ← nI_set]
                congr 2
                omega
              have HNW := Lib.hid hnew
              have HST2 := Lib.hid (show Mid.bad 0 s.data.toList = Mid.bad (d + 2) (s.data.toList.drop (d + 2)) by rw [HST.out, decide_eq_true (by omega)]; rfl)
              have hd32 : (d : Int) / 2 < 32 := by omega
              have hd33 : 0 ≤ (d : Int) / 2 := by omega
              clear hnew hsm hstp ho
              go_wp2_with fail
              refine (HC.out _).mono ?_
              rintro e w1 ⟨rfl, rfl⟩
              go_wp2_with fail
              exact ⟨⟨d + 2, by go_num, by omega, by omega, HST2, Lib.hid (ZZ.out.away (by omega) _ _), Lib.hid (by rw [← HNW.out]; exact AA.out.put _ _), Lib.hid (below_put BB.out _ _ (by omega) _)⟩, by simp [intOf]; omega⟩
        · have hd0 : ¬ (k : Int) = 0 := by omega
          rw [Mid.good_tail x k (by omega)] at hst
          have i2 := fun w => run_at_lit #[64, 104, 97, 115, 104, 62] (k - 65) (by show k - 65 < 6; omega) (Mid.tail6.getD (k - 65) 0) rfl w
          rw [show ((k - 65 : Nat) : Int) = (k : Int) - 65 by omega] at i2
          generalize Mid.tail6.getD (k - 65) 0 = y at *
          obtain ⟨z, hz⟩ : ∃ z : Int, z = (x.toNat : Int) := ⟨_, rfl⟩
          obtain ⟨u, hu⟩ : ∃ u : Int, u = (y.toNat : Int) := ⟨_, rfl⟩
          have h64 : ¬ (k : Int) ≤ 64 := by omega
          have hk0 : 0 ≤ (k : Int) - 65 := by omega
          have hk6 : (k : Int) - 65 < 6 := by omega
          have hwr : IntKind.i64.wrap ((k : Int) - 65) = (k : Int) - 65 := by simp [IntKind.wrap, IntKind.bits, IntKind.signed]; omega
          have HTP := Lib.hid (show Mid.stA s.data.toList (k + 1) = Mid.stA s.data.toList k by rw [Mid.stA_top _ _ (by omega), Mid.stA_top _ _ (by omega)])
          rw [← hz, ← hu] at hst
          rw [← hz] at i1
          rw [← hu] at i2
          have HST := Lib.hid hst
          clear hst hz hu
          by_cases hq : z = u
          · have HST2 := Lib.hid (show Mid.bad 0 s.data.toList = Mid.bad (k + 1) (s.data.toList.drop (k + 1)) by rw [HST.out, decide_eq_true hq]; rfl)
            subst hq
            go_wp2_with fail
            go_region_law (fail)
            all_goals
              go_wp2_with fail
              exact ⟨⟨k + 1, by go_num, by omega, by omega, HST2, Lib.hid ZZ.out.draw, Lib.hid (by rw [HTP.out]; exact AA.out.draw), Lib.hid BB.out.drew⟩, by simp [intOf]; omega⟩
          · have hres := HP.out
            rw [Mid.parse_bad _ k (by rw [HST.out, decide_eq_false hq]; rfl)] at hres
            obtain ⟨e1, e2, e3⟩ := triple_inj hres
            subst e1 e2 e3
            clear hres
            go_wp2_with fail
            go_region_law (fail)
            all_goals
              go_wp2_with (first
                | (refine wp_build_rid (by rfl) (by rfl) ?_)
                | (refine sto_bs infoRid _ zD zD_len _ ZZ.out.draw (by rw [bsC_size]; exact zD_len) (by rfl) _ _ (by rfl) (by rfl) (by rfl) ?_; intro w5 hw5))
              have hfin : Blk w5 w.heap.size 30 (bsC zD) := by rw [hw5.out]; exact ZZ.out.draw.row _
              have hfB : Below w.heap.size w w5 := by rw [hw5.out]; exact below_row BB.out.drew _ (Nat.le_refl _) _
              exact bodyPost_ret (results_cell_tmp2 rfl _ _ w.heap.size _ _ _ _ rfl hfin (by rfl) Try.underlying30 (by rw [bsC_size, zD_len]; exact infoRid)) rfl ⟨rfl, hfB⟩
    · have hnone : Mid.bad 0 s.data.toList = none := by rw [hf.out]; exact Mid.bad_end _ k (by rw [size_toList]; omega)
      have HN := Lib.hid hnone
      clear hnone hf
      have hstop : ¬ ((k : Int) < 71 ∧ (k : Int) < (s.size : Int)) := by omega
      by_cases h1 : s.size < 71
      · have h1I : (s.size : Int) < 71 := by omega
        have hkn : k = s.size := by omega
        have hres := HP.out
        rw [Mid.parse_short _ HN.out (by rw [size_toList]; exact h1), size_toList] at hres
        obtain ⟨e1, e2, e3⟩ := triple_inj hres
        subst e1 e2 e3
        clear hres h1 hstop hlt
        subst hkn
        go_wp2_with (first
          | (refine wp_build_rid (by rfl) (by rfl) ?_)
          | (refine sto_bs infoRid _ zD zD_len _ ZZ.out (by rw [bsC_size]; exact zD_len) (by rfl) _ _ (by rfl) (by rfl) (by rfl) ?_; intro w5 hw5))
        have hfin : Blk w5 w.heap.size 30 (bsC zD) := by rw [hw5.out]; exact ZZ.out.row _
        have hfB : Below w.heap.size w w5 := by rw [hw5.out]; exact below_row BB.out _ (Nat.le_refl _) _
        exact bodyPost_ret (results_cell_tmp2 rfl _ _ w.heap.size _ _ _ _ rfl hfin (by rfl) Try.underlying30 (by rw [bsC_size, zD_len]; exact infoRid)) rfl ⟨rfl, hfB⟩
      · have h1I : ¬ (s.size : Int) < 71 := by omega
        have hkn : k = 71 := by omega
        subst hkn
        by_cases h2 : 71 < s.size
        · have h2I : (71 : Int) < (s.size : Int) := by omega
          have hres := HP.out
          rw [Mid.parse_long _ HN.out (by rw [size_toList]; exact h2)] at hres
          obtain ⟨e1, e2, e3⟩ := triple_inj hres
          subst e1 e2 e3
          clear hres h1 h2 hstop hlt
          go_wp2_with (first
            | (refine wp_build_rid (by rfl) (by rfl) ?_)
            | (refine sto_bs infoRid _ zD zD_len _ ZZ.out (by rw [bsC_size]; exact zD_len) (by rfl) _ _ (by rfl) (by rfl) (by rfl) ?_; intro w5 hw5))
          have hfin : Blk w5 w.heap.size 30 (bsC zD) := by rw [hw5.out]; exact ZZ.out.row _
          have hfB : Below w.heap.size w w5 := by rw [hw5.out]; exact below_row BB.out _ (Nat.le_refl _) _
          exact bodyPost_ret (results_cell_tmp2 rfl _ _ w.heap.size _ _ _ _ rfl hfin (by rfl) Try.underlying30 (by rw [bsC_size, zD_len]; exact infoRid)) rfl ⟨rfl, hfB⟩
        · have h2I : ¬ (71 : Int) < (s.size : Int) := by omega
          have h71 : s.data.toList.length = 71 := by rw [size_toList]; omega
          have hres := HP.out
          rw [Mid.parse_ok _ HN.out h71] at hres
          obtain ⟨hv, e2, e3⟩ := triple_inj hres
          subst e2 e3
          have hst := AA.out
          rw [Mid.stA_top _ _ (by omega), hv] at hst
          have VV := Lib.hid hst
          have HVN := Lib.hid (show (nI v).length = 32 by rw [nI_len]; exact HV.out.1)
          clear hres h1 h2 h71 hv hst hstop hlt
          go_wp2_with (first
            | (refine ld_bs Try.underlying30 infoRid _ (nI v) HVN.out VV.out (by rfl) _ (by rfl) (by rfl) ?_)
            | (refine sto_bs infoRid _ (nI v) HVN.out _ ZZ.out (by rw [bsC_size]; exact zD_len) (by rfl) _ _ (by rfl) (by rfl) (by rfl) ?_; intro w6 hw6))
          have hfin : Blk w6 w.heap.size 30 (bsC (nI v)) := by rw [hw6.out]; exact ZZ.out.row _
          have hfB : Below w.heap.size w w6 := by rw [hw6.out]; exact below_row BB.out _ (Nat.le_refl _) _
          exact bodyPost_ret (results_cell_tmp2 rfl _ _ w.heap.size _ _ _ _ rfl hfin (by rfl) Try.underlying30 (by rw [bsC_size, HVN.out]; exact infoRid)) rfl ⟨rfl, hfB⟩
end Go.Proofs.Yteoknmdoghemmaa
