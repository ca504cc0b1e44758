/- The reference's Advance; the program's Step. -/
import Derived.Test.YtgfolgmheinbiaaDoorRRRRStep
import Derived.Test.YtgfolgmheinbiaaDoorRRRWrap7
namespace Go.Proofs.YtgfolgmheinbiaaDoorRRR
open Go.RowKit

set_option maxRecDepth 100000 in
set_option maxHeartbeats 4000000 in
theorem rAdvance_any (leaf c a n : Nat) (v : List Nat) (hv : v.length = 16) (hvb : ∀ x ∈ v, x < 256) (hl : leaf ≤ 65535) (hc : c ≤ 34) (han : a + n ≤ 15) (w : World) :
    Calls Tryd.prog 23 #[.int .i64 leaf, .int .i64 c, .int .i64 a, .int .i64 (a + n : Nat), .agg (bsC (nI v))] w fun e w' => e = .returned (.agg (bsC (nI (S7.adv leaf c a n v)))) ∧ Below w.heap.size w w' := by
  obtain ⟨b, hb⟩ : ∃ b, b = a + n := ⟨_, rfl⟩
  rw [← hb] at han ⊢
  obtain ⟨D, hD⟩ : ∃ D, D = nI v := ⟨_, rfl⟩
  have HD := Lib.hid hD
  have HDL := Lib.hid (show D.length = 16 by rw [hD, nI_len, hv])
  rw [← hD]
  have HV := Lib.hid hv; have HVB := Lib.hid hvb; have HBE := Lib.hid hb
  have hbI : (b : Int) ≤ 15 := by omega
  clear hD hv hvb hb
  go_enter Tryd.func23, Tryd.ntmps23
  go_upto_region 1 with (fail)
  change Code.wp Tryd.prog _ _ _ ((w.alloc (.cells (bsC D) 36)).alloc (.cells (bsC z16) 36))
  generalize hW0 : (w.alloc (.cells (bsC D) 36)).alloc (.cells (bsC z16) 36) = W0
  obtain ⟨hb1, hb2, hB0⟩ := boxes2 w hW0
  have K0 := Lib.hid hb1; have R0 := Lib.hid hb2; have B0 := Lib.hid hB0
  obtain ⟨g1, hg1⟩ : ∃ g1, g1 = w.heap.size := ⟨_, rfl⟩
  obtain ⟨g2, hg2⟩ : ∃ g2, g2 = w.heap.size + 1 := ⟨_, rfl⟩
  rw [← hg2] at R0 ⊢
  rw [← hg1] at K0 B0 ⊢
  have HG1 := Lib.hid hg1
  have o2 : g1 < g2 := by omega
  clear hW0 hb1 hb2 hB0 hg1 hg2
  go_wp2_with fail
  go_loopw [11] (fun sv wr => ∃ (k : Nat) (V : List Int), sv = .int .i64 (a + k : Nat) ∧ a + k ≤ b ∧ Hid (V = nI (S7.adv leaf c a k v)) ∧ Blk wr g1 36 (bsC V) ∧ Blk wr g2 36 (bsC z16) ∧ Below g1 w wr) (fun sv _ => b - (intOf sv).toNat)
  case atStart => exact ⟨0, D, rfl, by have := HBE.out; omega, Lib.hid HD.out, K0.out, R0.out, B0.out⟩
  case round =>
    clear K0 R0 B0
    obtain ⟨k, V, rfl, hk, HVE, h1, h2, hB⟩ := hrel
    have K0 := Lib.hid h1; have R0 := Lib.hid h2; have BB := Lib.hid hB
    obtain ⟨s, hs⟩ : ∃ s, s = a + k := ⟨_, rfl⟩
    rw [← hs] at hk ⊢
    have HVL := Lib.hid (show V.length = 16 by rw [HVE.out, nI_len]; exact S7.adv_len leaf c a k v HV.out)
    have HSE := Lib.hid hs
    clear h1 h2 hB hs
    by_cases hlt : s < b
    · obtain ⟨H, hH⟩ : ∃ H, H = nI (S7.step leaf c s (S7.adv leaf c a k v)) := ⟨_, rfl⟩
      have HS := Lib.hid (fun W => rStep_any leaf c s (S7.adv leaf c a k v) (S7.adv_len leaf c a k v HV.out) (S7.adv_lt leaf c a k v HVB.out) hl hc (by omega) W)
      rw [← HVE.out, ← hH] at HS
      have HHL := Lib.hid (show H.length = 16 by rw [hH, nI_len]; exact S7.half_len _)
      have HHE := Lib.hid (show H = nI (S7.adv leaf c a (k + 1) v) by rw [hH, S7.adv, ← HSE.out])
      have o1 : g2 < wr.heap.size := R0.out.lt
      clear hH
      go_wp2_with (first
        | (refine ld_bs Tryd.underlying36 infoRV _ V HVL.out K0.out (by rfl) _ (by rfl) (by rfl) ?_)
        | (go_at_call 22; refine (HS.out _).mono ?_; rintro e w5 ⟨rfl, hb5⟩; have B5 := Lib.hid hb5; clear hb5)
        | (refine sto_bs infoRV _ H HHL.out _ (K0.out.keep B5.out K0.out.lt) (by rw [bsC_size]; exact HVL.out) (by rfl) _ _ (by rfl) (by rfl) (by rfl) ?_; intro w6 hw6))
      go_roundw
      case rel => exact ⟨k + 1, H, by rw [show a + (k + 1) = s + 1 by rw [HSE.out]; omega]; go_num, by have := HSE.out; omega, HHE, by rw [hw6.out]; exact (K0.out.keep B5.out K0.out.lt).row _, by rw [hw6.out]; exact (R0.out.keep B5.out R0.out.lt).far (by omega) _, by rw [hw6.out]; exact below_row (BB.out.trans (B5.out.mono (by omega))) _ (Nat.le_refl _) _⟩
      case measure => simp [intOf]; omega
    · have hsb : s = b := by omega
      have hkn : k = n := by have := HSE.out; have := HBE.out; omega
      subst hkn
      have hlt2 : ¬ (s : Int) < (b : Int) := by omega
      have HFE := Lib.hid HVE.out.symm
      clear hsb
      go_wp2_with (first
        | (refine ld_bs Tryd.underlying36 infoRV _ V HVL.out K0.out (by rfl) _ (by rfl) (by rfl) ?_)
        | (refine sto_bs infoRV _ V HVL.out _ R0.out (by rw [bsC_size]; exact z16_len) (by rfl) _ _ (by rfl) (by rfl) (by rfl) ?_; intro w6 hw6))
      have hf : Blk w6 g2 36 (bsC V) := by rw [hw6.out]; exact R0.out.row _
      have hfB : Below g1 w w6 := by rw [hw6.out]; exact below_row BB.out _ (by omega) _
      exact bodyPost_ret (results_cell_row rfl _ _ g2 _ _ _ _ rfl hf Tryd.underlying36 rfl (by rw [bsC_size, HVL.out]; exact infoRV)) rfl ⟨by rw [HFE.out], by rw [← HG1.out]; exact hfB⟩

/-- Step by whatever Advance answers -/
theorem Step_via (D V : List Int) (hD : D.length = 16) (hV : V.length = 16) (leaf c p er : Int) (w : World)
    (HA : ∀ W, Below w.heap.size w W → Calls Tryd.prog 21 #[.int .i64 leaf, .int .i64 c, .int .i64 p, .int .i64 (wrap64 (p + 1)), .agg (bsC D)] W fun e w' => e = .returned (.tuple #[.agg (bsC V), .int .i64 er]) ∧ Below W.heap.size W w') :
    Calls Tryd.prog 20 #[.int .i64 leaf, .int .i64 c, .int .i64 p, .agg (bsC D)] w fun e w' => e = .returned (.tuple #[.agg (bsC V), .int .i64 er]) ∧ Below w.heap.size w w' := by
  obtain ⟨q, hq⟩ : ∃ q, q = wrap64 (p + 1) := ⟨_, rfl⟩
  rw [← hq] at HA
  have HAA := Lib.hid HA
  have q1 : IntKind.i64.wrap (p + 1) = q := by rw [hq, IntKind.wrap_i64]; unfold wrap64; omega
  have q2 : wrap64 (p + 1) = q := hq.symm
  clear hq HA
  go_enter Tryd.func20, Tryd.ntmps20
  go_upto_region 1 with (fail)
  change Code.wp Tryd.prog _ _ _ ((w.alloc (.cells (bsC D) 22)).alloc (.cells (bsC z16) 22))
  generalize hW0 : (w.alloc (.cells (bsC D) 22)).alloc (.cells (bsC z16) 22) = W0
  obtain ⟨hb1, hb2, hB0⟩ := boxes2 w hW0
  have K0 := Lib.hid hb1; have R0 := Lib.hid hb2; have B0 := Lib.hid hB0
  clear hW0 hb1 hb2 hB0
  go_wp2_with (first
    | (refine ld_bs Tryd.underlying22 info16u _ D hD K0.out (by rfl) _ (by rfl) (by rfl) ?_)
    | (go_at_call 21; refine (HAA.out _ B0.out).mono ?_; rintro e w5 ⟨rfl, hb5⟩; have R5 := Lib.hid (R0.out.keep hb5 R0.out.lt); have T5 := Lib.hid (B0.out.trans (hb5.mono B0.out.size)); clear hb5)
    | (refine sto_bs info16u _ V hV _ R5.out (by rw [bsC_size]; exact z16_len) (by rfl) _ _ (by rfl) (by rfl) (by rfl) ?_; intro w6 hw6))
  have hf : Blk w6 (w.heap.size + 1) 22 (bsC V) := by rw [hw6.out]; exact R5.out.row _
  have hfB : Below w.heap.size w w6 := by rw [hw6.out]; exact below_row T5.out _ (by omega) _
  exact bodyPost_ret (results_cell_tmp rfl _ _ (w.heap.size + 1) _ _ _ _ rfl hf (by rfl) Tryd.underlying22 (by rw [bsC_size, hV]; exact info16u)) rfl ⟨rfl, hfB⟩

theorem wrap64_small (k : Nat) (h : k ≤ 1000) : wrap64 ((k : Int) + 1) = ((k + 1 : Nat) : Int) := by unfold wrap64; omega
theorem Step_ok (leaf c k : Nat) (v : List Nat) (hv : v.length = 16) (hvb : ∀ x ∈ v, x < 256) (hl : leaf ≤ 65535) (hc : c ≤ 34) (hk : k ≤ 14) (w : World) (hT : Tab w) :
    Calls Tryd.prog 20 #[.int .i64 leaf, .int .i64 c, .int .i64 k, .agg (bsC (nI v))] w fun e w' => e = .returned (.tuple #[.agg (bsC (nI (S7.step leaf c k v))), .int .i64 0]) ∧ Below w.heap.size w w' :=
  Step_via (nI v) (nI (S7.step leaf c k v)) (by rw [nI_len, hv]) (by rw [nI_len]; exact S7.half_len _) leaf c k 0 w fun W hb => by
    rw [wrap64_small k (by omega)]
    exact Advance_ok leaf c k 1 v hv hvb hl hc (by omega) W (hT.below hb hT.1)
theorem Step_no (D : List Int) (hD : D.length = 16) (leaf c p : Int) (hp1 : -9223372036854775808 ≤ p) (hp2 : p ≤ 9223372036854775807) (h : lfB leaf = false ∨ chB c = false ∨ p < 0 ∨ 14 < p) (w : World) :
    Calls Tryd.prog 20 #[.int .i64 leaf, .int .i64 c, .int .i64 p, .agg (bsC D)] w fun e w' => e = .returned (.tuple #[.agg (bsC z16), .int .i64 2]) ∧ Below w.heap.size w w' :=
  Step_via D z16 hD z16_len leaf c p 2 w fun W _ => Advance_no D leaf c p _ (by
    cases h1 : lfB leaf
    · exact .inl rfl
    · cases h2 : chB c
      · exact .inr (.inl ⟨rfl, rfl⟩)
      · have h3 : p < 0 ∨ 14 < p := by
          rcases h with h | h | h | h
          · rw [h] at h1; cases h1
          · rw [h] at h2; cases h2
          · exact .inl h
          · exact .inr h
        refine .inr (.inr ?_)
        rcases h3 with h3 | h3
        · exact .inl ⟨rfl, rfl, h3⟩
        · by_cases h4 : p = 9223372036854775807
          · refine .inr (.inl ⟨rfl, rfl, by omega, ?_⟩)
            subst h4
            unfold wrap64
            omega
          · refine .inr (.inr ⟨rfl, rfl, by omega, ?_, ?_⟩) <;> (unfold wrap64; omega)) W
end Go.Proofs.YtgfolgmheinbiaaDoorRRR
