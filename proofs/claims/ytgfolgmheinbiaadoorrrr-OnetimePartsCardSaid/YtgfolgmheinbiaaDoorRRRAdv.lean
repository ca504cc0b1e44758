/- The program's advance and compress. -/
import Derived.Test.YtgfolgmheinbiaaDoorRRRSecret
namespace Go.Proofs.YtgfolgmheinbiaaDoorRRR
open Go.RowKit

set_option maxRecDepth 100000 in
set_option maxHeartbeats 4000000 in
theorem advance_any (leaf c a n : Nat) (v : List Nat) (hv : v.length = 16) (hvb : ∀ x ∈ v, x < 256) (hl : leaf ≤ 65535) (hc : c ≤ 34) (han : a + n ≤ 15) (w : World) (hT : Tab w) :
    Calls Tryd.prog 42 #[.int .i64 leaf, .int .i64 c, .int .i64 a, .int .i64 (a + n : Nat), .agg (bsC (nI v))] w fun e w' => e = .returned (.agg (bsC (nI (S7.adv leaf c a n v)))) ∧ Below w.heap.size w w' := by
  have hp := hT.1
  obtain ⟨b, hb⟩ : ∃ b, b = a + n := ⟨_, rfl⟩
  rw [← hb] at han ⊢
  obtain ⟨D, hD⟩ : ∃ D, D = nI v := ⟨_, rfl⟩
  have HD := Lib.hid hD
  have HDL := Lib.hid (show D.length = 16 by rw [hD, nI_len, hv])
  rw [← hD]
  have HV := Lib.hid hv; have HVB := Lib.hid hvb; have HBE := Lib.hid hb
  have HBG := Lib.hid (fun base v W h1 h2 => begin_any base v [] 3 leaf (by omega) hl W h1 h2 (by simp))
  have HDLT := Lib.hid (S7.hd_lt 3 leaf (by omega) hl)
  have hcI : (c : Int) ≤ 34 := by omega
  have hbI : (b : Int) ≤ 15 := by omega
  have q1 : IntKind.u8.wrap (c : Int) = (c : Int) := by simp [IntKind.wrap, IntKind.bits, IntKind.signed]; omega
  have hmk := mk23
  clear hD hv hvb hb
  go_enter Tryd.func42, Tryd.ntmps42
  go_upto_region 1 with (fail)
  change Code.wp Tryd.prog _ _ _ ((w.alloc (.cells (bsC D) 22)).alloc (.cells (bsC z16) 22))
  generalize hW0 : (w.alloc (.cells (bsC D) 22)).alloc (.cells (bsC z16) 22) = W0
  obtain ⟨hb1, hb2, hB0⟩ := boxes2 w hW0
  have K0 := Lib.hid hb1; have R0 := Lib.hid hb2; have B0 := Lib.hid hB0
  obtain ⟨g1, hg1⟩ : ∃ g1, g1 = w.heap.size := ⟨_, rfl⟩
  obtain ⟨g2, hg2⟩ : ∃ g2, g2 = w.heap.size + 1 := ⟨_, rfl⟩
  rw [← hg2] at R0 ⊢
  rw [← hg1] at K0 B0 ⊢
  have HG1 := Lib.hid hg1
  have o2 : g1 < g2 := by omega
  clear hW0 hb1 hb2 hB0 hg1 hg2
  go_wp2_with fail
  go_loopw [11, 12] (fun sv uv wr => ∃ (k : Nat) (V : List Int), sv = .int .i64 (a + k : Nat) ∧ a + k ≤ b ∧ Hid (V = nI (S7.adv leaf c a k v)) ∧ Blk wr g1 22 (bsC V) ∧ Blk wr g2 22 (bsC z16) ∧ Below g1 w wr) (fun sv _ _ => b - (intOf sv).toNat)
  case atStart => exact ⟨0, D, rfl, by have := HBE.out; omega, Lib.hid HD.out, K0.out, R0.out, B0.out⟩
  case round =>
    clear K0 R0 B0
    obtain ⟨k, V, rfl, hk, HVE, h1, h2, hB⟩ := hrel
    have K0 := Lib.hid h1; have R0 := Lib.hid h2; have BB := Lib.hid hB
    obtain ⟨s, hs⟩ : ∃ s, s = a + k := ⟨_, rfl⟩
    rw [← hs] at hk ⊢
    have HVL := Lib.hid (show V.length = 16 by rw [HVE.out, nI_len]; exact S7.adv_len leaf c a k v HV.out)
    have HSE := Lib.hid hs
    clear h1 h2 hB hs
    by_cases hlt : s < b
    · obtain ⟨u, hu⟩ : ∃ u, u = S7.adv leaf c a k v := ⟨_, rfl⟩
      have hul : u.length = 16 := by rw [hu]; exact S7.adv_len leaf c a k v HV.out
      have hub : ∀ x ∈ u, x < 256 := by rw [hu]; exact S7.adv_lt leaf c a k v HVB.out
      have hVu : V = nI u := by rw [HVE.out, hu]
      have HSP := S7.half_spec (S7.hd 3 leaf ++ [c, s] ++ u)
      have hlen : (S7.hd 3 leaf ++ [c, s] ++ u).length = 23 := by rw [List.length_append, List.length_append, hul]; rfl
      have HS := Lib.hid (fun W v hT hv => sumHalf_any v (S7.hd 3 leaf ++ [c, s] ++ u) (by rw [hlen]; omega) W hT hv)
      have HLT := Lib.hid (S7.app_lt (S7.app_lt HDLT.out (S7.two_lt (show c < 256 by omega) (show s < 256 by omega))) hub)
      obtain ⟨H, hH⟩ : ∃ H, H = (S5.sha S5.K (S7.hd 3 leaf ++ [c, s] ++ u)).take 16 := ⟨_, rfl⟩
      rw [← hH] at HS HSP
      have HHL := Lib.hid (show H.length = 16 by rw [← HSP.1, nI_len]; exact HSP.2.1)
      have HHE := Lib.hid (show H = nI (S7.adv leaf c a (k + 1) v) by rw [← HSP.1, S7.adv, ← hu, ← HSE.out]; rfl)
      have HC := Lib.hid (fun W => bytes_new W [c, s] (0, 0) (S7.two_lt (show c < 256 by omega) (show s < 256 by omega)) (by unfold maxLen; simp))
      have HSB := Lib.hid (fun (W : World) g t h => bytes_arr (w := W) (g := g) (t := t) u hub hul (by unfold maxLen; omega) h)
      rw [← hVu] at HSB
      have HUL := Lib.hid hul
      have hltI : (s : Int) < (b : Int) := by omega
      have q2 : IntKind.u8.wrap (s : Int) = (s : Int) := by simp [IntKind.wrap, IntKind.bits, IntKind.signed]; omega
      have o1 : g2 < wr.heap.size := R0.out.lt
      clear hVu hu hul hub HSP hlen hH
      generalize wr = Wr at *
      go_wp2_with (first
        | (go_at_call 51; refine (HBG.out Wr.heap.size _ _ (by simp) (OwnL.made Wr 23 (Nat.le_refl _) (by unfold maxLen; omega))).mono ?_; rintro e w2 ⟨v2, rfl, ho, hb⟩; have O2 := Lib.hid ho; have B2 := Lib.hid (hb _ _ ((Below.refl _ Wr).alloc (Nat.le_refl _) _) (Nat.le_refl _)); clear ho hb)
        | (refine wpList_appL Wr.heap.size v2 _ (O2.out.more _) (.slice (some ⟨w2.heap.size, 0, none⟩) 2 2) [c, s] (HC.out w2) (by simp [S7.hd]) (by have := B2.out.size; simp; omega) (by rfl) _ _ (by rfl) (by rfl) (by rfl) ?_; intro v3 w3 O3 hb; have B3 := Lib.hid (hb.out _ _ (B2.out.alloc B2.out.size _) (Nat.le_refl _)); clear hb)
        | (refine wpList_appL Wr.heap.size v3 _ O3.out (.slice (some ⟨g1, 0, none⟩) 16 16) u (HSB.out _ _ _ (K0.out.keep B3.out K0.out.lt)) (by have := HUL.out; simp [S7.hd]; omega) B3.out.size (by rfl) _ _ (by rfl) (by rfl) (by rfl) ?_; intro v4 w4 O4 hb; have B4 := Lib.hid (hb.out _ _ B3.out (Nat.le_refl _)); have T4 := Lib.hid (BB.out.trans (B4.out.mono (by omega))); clear hb)
        | (go_at_call 52; refine (HS.out _ _ (hT.below (by rw [← HG1.out]; exact T4.out) hp) (O4.out.bytes HLT.out)).mono ?_; rintro e w5 ⟨rfl, hb5⟩; have B5 := Lib.hid (B4.out.trans (hb5.mono B4.out.size)); clear hb5)
        | (refine sto_bs info16u _ H HHL.out _ (K0.out.keep B5.out K0.out.lt) (by rw [bsC_size]; exact HVL.out) (by rfl) _ _ (by rfl) (by rfl) (by rfl) ?_; intro w6 hw6))
      go_roundw
      case rel => exact ⟨k + 1, H, by rw [show a + (k + 1) = s + 1 by rw [HSE.out]; omega]; go_num, by have := HSE.out; omega, HHE, by rw [hw6.out]; exact (K0.out.keep B5.out K0.out.lt).row _, by rw [hw6.out]; exact (R0.out.keep B5.out R0.out.lt).far (by omega) _, by rw [hw6.out]; exact below_row (BB.out.trans (B5.out.mono (by omega))) _ (Nat.le_refl _) _⟩
      case measure => simp [intOf]; omega
    · have hsb : s = b := by omega
      have hkn : k = n := by have := HSE.out; have := HBE.out; omega
      subst hkn
      have hlt2 : ¬ (s : Int) < (b : Int) := by omega
      have HFE := Lib.hid HVE.out.symm
      clear hsb
      go_wp2_with (first
        | (refine ld_bs Tryd.underlying22 info16u _ V HVL.out K0.out (by rfl) _ (by rfl) (by rfl) ?_)
        | (refine sto_bs info16u _ V HVL.out _ R0.out (by rw [bsC_size]; exact z16_len) (by rfl) _ _ (by rfl) (by rfl) (by rfl) ?_; intro w6 hw6))
      have hf : Blk w6 g2 22 (bsC V) := by rw [hw6.out]; exact R0.out.row _
      have hfB : Below g1 w w6 := by rw [hw6.out]; exact below_row BB.out _ (by omega) _
      exact bodyPost_ret (results_cell_row rfl _ _ g2 _ _ _ _ rfl hf Tryd.underlying22 rfl (by rw [bsC_size, HVL.out]; exact info16u)) rfl ⟨by rw [HFE.out], by rw [← HG1.out]; exact hfB⟩
end Go.Proofs.YtgfolgmheinbiaaDoorRRR
