/- The program's compress; arrays of values. -/
import Derived.Test.YtgfolgmheinbiaaDoorRRRAdv
namespace Go.Proofs.YtgfolgmheinbiaaDoorRRR
open Go.RowKit

theorem ld_any {ops : Array Oper} {rest : List Oper} {o : Oper} {a : Act} {w : World} {Q : Exit → Act → World → Prop} {T te : TypeId} {n m : Nat} (hu : Tryd.prog.underlying T = some (.array n te)) (hi : (Tryd.prog.info? T).map (·.size) = some m) (g : Nat) (l : List Int) (hl : l.length = m) (h : Blk w g T (bsC l)) (hgd : o.guard = none) (x : Operand) (ho : o.op = .load T x)
    (hx : a.eval x = .pointer (some ⟨g, 0, none⟩)) (hk : wpList Tryd.prog ops Q rest (a.put o.dst (.agg (bsC l))) w) : wpList Tryd.prog ops Q (o :: rest) a w :=
  wpList_load_row hgd _ x ho g hx _ _ _ _ h hu rfl (by rw [bsC_size, hl]; exact hi) hk
theorem infoVs : (Tryd.prog.info? 51).map (·.size) = some 560 := by kernel_rfl
def z560 : List Int := List.replicate 560 0
theorem z560_len : z560.length = 560 := List.length_replicate

theorem part_mid (L : List Int) (o n : Nat) : (bsC L).extract o (o + n) = bsC ((L.drop o).take n) := by
  apply Array.toList_inj.1
  rw [Array.toList_extract]
  show List.extract (L.map fun x => Value.int .u8 x) o (o + n) = (((L.drop o).take n).map fun x => Value.int .u8 x)
  rw [List.extract_eq_take_drop, Nat.add_sub_cancel_left, List.map_take, List.map_drop]

theorem idx_mid (T te : TypeId) (n m : Nat) (hu : Tryd.prog.underlying T = some (.array n te)) (hs : ∀ w, (Go.sizeOf te).run Tryd.prog w = .ok m w) (ha : ∀ w, (isAgg te).run Tryd.prog w = .ok true w) (L : List Int) (i : Nat) (hi : i < n) (w : World) :
    (Instr.index T (.agg (bsC L)) (.int .i64 i)).run Tryd.prog w = .ok (.agg (bsC ((L.drop (m * i)).take m))) w := by
  have hn : (0 : Int) ≤ (i : Int) ∧ (i : Int) < (n : Int) := by omega
  simp [Instr.index, run_underlying hu, asIntOf, hn, hs, ha, go_sem, part]
  rw [if_pos hi, part_mid, Nat.mul_comm]

set_option maxRecDepth 100000 in
set_option maxHeartbeats 4000000 in
theorem compress_any (leaf : Nat) (E : List Nat) (hE : E.length = 560) (hEb : ∀ x ∈ E, x < 256) (hl : leaf ≤ 65535) (w : World) (hT : Tab w) :
    Calls Tryd.prog 43 #[.int .i64 leaf, .agg (bsC (nI E))] w fun e w' => e = .returned (.agg (bsC (nI (S7.comp leaf E)))) ∧ Below w.heap.size w w' := by
  have hp := hT.1
  obtain ⟨D, hD⟩ : ∃ D, D = nI E := ⟨_, rfl⟩
  have HDL := Lib.hid (show D.length = 560 by rw [hD, nI_len, hE])
  have HDM := Lib.hid (show ∀ o n, (D.drop o).take n = nI ((E.drop o).take n) from fun o n => by rw [hD]; unfold nI; rw [List.map_take, List.map_drop])
  have HSP := S7.half_spec (S7.hd 4 leaf ++ E)
  have hlen : (S7.hd 4 leaf ++ E).length = 565 := by rw [List.length_append, hE]; rfl
  have HS := Lib.hid (fun W v hT hv => sumHalf_any v (S7.hd 4 leaf ++ E) (by rw [hlen]; omega) W hT hv)
  have HLT := Lib.hid (S7.app_lt (S7.hd_lt 4 leaf (by omega) hl) hEb)
  obtain ⟨H, hH⟩ : ∃ H, H = (S5.sha S5.K (S7.hd 4 leaf ++ E)).take 16 := ⟨_, rfl⟩
  rw [← hH] at HS HSP
  have HHL := Lib.hid (show H.length = 16 by rw [← HSP.1, nI_len]; exact HSP.2.1)
  have HHE := Lib.hid (show nI (S7.comp leaf E) = H from HSP.1)
  have HBG := Lib.hid (fun base v W h1 h2 => begin_any base v [] 4 leaf (by omega) hl W h1 h2 (by simp))
  have HE := Lib.hid hE; have HEB := Lib.hid hEb
  have hmk := mk565
  rw [← hD]
  clear hD HSP hlen hH hE hEb
  go_enter Tryd.func43, Tryd.ntmps43
  go_upto_region 1 with (fail)
  change Code.wp Tryd.prog _ _ _ ((w.alloc (.cells (bsC D) 51)).alloc (.cells (bsC z16) 22))
  generalize hW0 : (w.alloc (.cells (bsC D) 51)).alloc (.cells (bsC z16) 22) = W0
  obtain ⟨hb1, hb2, hB0⟩ := boxes2 w hW0
  have K0 := Lib.hid hb1; have R0 := Lib.hid hb2; have B0 := Lib.hid hB0
  clear hW0 hb1 hb2 hB0
  go_wp2_with (first
    | (go_at_call 51; refine (HBG.out W0.heap.size _ _ (by simp) (OwnL.made W0 565 (Nat.le_refl _) (by unfold maxLen; omega))).mono ?_; rintro e w2 ⟨v2, rfl, ho, hb⟩; have O2 := Lib.hid ho; have B2 := Lib.hid (hb _ _ ((Below.refl _ W0).alloc (Nat.le_refl _) _) (Nat.le_refl _)); clear ho hb)
    | (refine ld_any Tryd.underlying51 infoVs _ D HDL.out (K0.out.keep B2.out K0.out.lt) (by rfl) _ (by rfl) (by rfl) ?_))
  go_loopw [5, 12] (fun sv iv wr => ∃ i : Nat, iv = .int .i64 i ∧ i ≤ 35 ∧ Hid (OwnL W0.heap.size wr sv (S7.hd 4 leaf ++ E.take (16 * i))) ∧ Below W0.heap.size W0 wr) (fun _ iv _ => 35 - (intOf iv).toNat)
  case atStart => exact ⟨0, rfl, by omega, Lib.hid (by have := O2.out; rw [List.nil_append] at this; rw [Nat.mul_zero, List.take_zero, List.append_nil]; exact this), B2.out⟩
  case round =>
    clear O2 B2
    obtain ⟨i, rfl, hi, HO, hB⟩ := hrel
    have BB := Lib.hid hB
    clear hB
    by_cases hlt : i < 35
    · have hiI : (i : Int) < 35 := by omega
      obtain ⟨u, hu⟩ : ∃ u, u = (E.drop (16 * i)).take 16 := ⟨_, rfl⟩
      have hul : u.length = 16 := by rw [hu, List.length_take, List.length_drop, HE.out]; omega
      have hub : ∀ x ∈ u, x < 256 := fun x hx => HEB.out x (by rw [hu] at hx; exact List.mem_of_mem_drop (List.mem_of_mem_take hx))
      obtain ⟨U, hU⟩ : ∃ U, U = nI u := ⟨_, rfl⟩
      have hix := fun w => idx_mid 51 22 35 16 Tryd.underlying51 (fun w => by kernel_rfl) (fun w => by kernel_rfl) D i hlt w
      rw [HDM.out, ← hu, ← hU] at hix
      have HUL := Lib.hid (show U.length = 16 by rw [hU, nI_len, hul])
      have HSB := Lib.hid (fun (W : World) g t h => bytes_arr (w := W) (g := g) (t := t) u hub hul (by unfold maxLen; omega) h)
      rw [← hU] at HSB
      have HN := Lib.hid (show S7.hd 4 leaf ++ E.take (16 * i) ++ u = S7.hd 4 leaf ++ E.take (16 * (i + 1)) by rw [List.append_assoc, hu, show 16 * (i + 1) = 16 * i + 16 by omega, List.take_add])
      have HLN := Lib.hid (show (S7.hd 4 leaf ++ E.take (16 * i)).length + u.length ≤ 1000000 by rw [List.length_append, List.length_take, HE.out, hul]; show 5 + _ + _ ≤ _; omega)
      clear hu hU hul hub
      generalize S7.hd 4 leaf ++ E.take (16 * i) = acc at *
      go_upto_region 5 with (refine sto_bs info16u _ U HUL.out _ (Blk.fresh wr 22 (bsC z16)) (by rw [bsC_size]; exact z16_len) (by rfl) _ _ (by rfl) (by rfl) (by rfl) ?_; intro w2 hw2)
      have O2 := Lib.hid (show OwnL W0.heap.size w2 _ acc by rw [hw2.out]; exact HO.out.keep (below_row ((Below.refl _ wr).alloc (Nat.le_refl _) _) _ (Nat.le_refl _) _))
      have U2 := Lib.hid (show Blk w2 wr.heap.size 22 (bsC U) by rw [hw2.out]; exact (Blk.fresh wr _ _).row _)
      have B2 := Lib.hid (show Below W0.heap.size W0 w2 by rw [hw2.out]; exact below_row (BB.out.alloc BB.out.size _) _ BB.out.size _)
      clear hw2
      go_wp2_with (refine wpList_appL W0.heap.size _ _ O2.out (.slice (some ⟨wr.heap.size, 0, none⟩) 16 16) u (HSB.out _ _ _ U2.out) HLN.out B2.out.size (by rfl) _ _ (by rfl) (by rfl) (by rfl) ?_; intro v3 w3 O3 hb; have B3 := Lib.hid (hb.out _ _ B2.out (Nat.le_refl _)); clear hb)
      go_roundw
      case rel => exact ⟨i + 1, by go_num, by omega, Lib.hid (by rw [← HN.out]; exact O3.out), B3.out⟩
      case measure => simp [intOf]; omega
    · obtain rfl : i = 35 := by omega
      have hfull : E.take (16 * 35) = E := List.take_of_length_le (by rw [HE.out]; omega)
      rw [hfull] at HO
      have T3 := Lib.hid (B0.out.trans (BB.out.mono B0.out.size))
      clear hfull
      go_wp2_with (first
        | (go_at_call 52; refine (HS.out _ _ (hT.below T3.out hp) (HO.out.bytes HLT.out)).mono ?_; rintro e w5 ⟨rfl, hb5⟩; have R5 := Lib.hid ((R0.out.keep BB.out R0.out.lt).keep hb5 (R0.out.keep BB.out R0.out.lt).lt); have T5 := Lib.hid (T3.out.trans (hb5.mono T3.out.size)); clear hb5)
        | (refine sto_bs info16u _ H HHL.out _ R5.out (by rw [bsC_size]; exact z16_len) (by rfl) _ _ (by rfl) (by rfl) (by rfl) ?_; intro w6 hw6))
      have hf : Blk w6 (w.heap.size + 1) 22 (bsC H) := by rw [hw6.out]; exact R5.out.row _
      have hfB : Below w.heap.size w w6 := by rw [hw6.out]; exact below_row T5.out _ (by omega) _
      exact bodyPost_ret (results_cell_row rfl _ _ (w.heap.size + 1) _ _ _ _ rfl hf Tryd.underlying22 rfl (by rw [bsC_size, HHL.out]; exact info16u)) rfl ⟨by rw [HHE.out], hfB⟩
end Go.Proofs.YtgfolgmheinbiaaDoorRRR
