/- The reference's All, Values and Compress. (Written by mk_rvals.py.) -/
import Derived.Test.YtgfolgmheinbiaaDoorRRRPerC
import Derived.Test.YtgfolgmheinbiaaDoorRRRClos
namespace Go.Proofs.YtgfolgmheinbiaaDoorRRR
open Go.RowKit

theorem infoRs : (Tryd.prog.info? 53).map (·.size) = some 560 := by kernel_rfl
theorem bytes_mid {w : World} {g n : Nat} {t : TypeId} (E : List Nat) (o : Nat) (hb : ∀ x ∈ E, x < 256) (hl : o + n ≤ E.length) (hn : n ≤ maxLen) (h : Blk w g t (bsC (nI E))) : Bytes w (.slice (some ⟨g, o, none⟩) n n) ((E.drop o).take n) := by
  have hlen : ((E.drop o).take n).length = n := by rw [List.length_take, List.length_drop]; omega
  refine ⟨fun x hx => hb x (List.mem_of_mem_drop (List.mem_of_mem_take hx)), some ⟨g, o, none⟩, n, by rw [hlen], by rw [hlen]; exact Nat.le_refl _, hn, (fun h => by cases h), fun i hi => ⟨g, o, rfl, ?_⟩⟩
  rw [hlen] at hi
  rw [h.cell, bsC_get _ (o + i) (by rw [nI_len]; omega)]
  congr 2
  rw [List.getD_eq_getElem?_getD, List.getD_eq_getElem?_getD, List.getElem?_map, List.getElem?_take_of_lt hi, List.getElem?_drop, List.getElem?_eq_getElem (by omega)]
  rfl
theorem step_sto_mid {ops : Array Oper} {o : Oper} {a : Act} {w : World} {K : Act → World → Prop} {Q : Exit → Act → World → Prop} {E : Prop} {T : TypeId} {n : Nat} (hi : (Tryd.prog.info? T).map (·.size) = some n) (g : Nat) (t : TypeId) (L : List Int) (off : Nat) (v : List Int) (hv : v.length = n) (hl : off + n ≤ L.length) (h : Blk w g t (bsC L)) (hw : Region.wanted o (yielded ops a.tmps) = true) (x y : Operand) (ho : o.op = .store T x y)
    (hx : a.eval x = .pointer (some ⟨g, off, none⟩)) (hy : a.eval y = .agg (bsC v)) (hk : ∀ w', Hid (Blk w' g t (bsC (splice L off v))) → Hid (∀ k, k ≠ g → w'.heap[k]? = w.heap[k]?) → Hid (∀ B w0, Below B w0 w → B ≤ g → Below B w0 w') → K (a.put o.dst undef) w') : if Region.wanted o (yielded ops a.tmps) = true then Oper.wp Tryd.prog o a w K Q else E := by
  rw [if_pos hw]
  refine wp_store_mid T x y ho g off (bsC v) hx hy (by rw [bsC_size, hv]; exact mid_there h off n hl) (by rw [bsC_size, hv]; exact hi) (bsC_one v) ?_
  have e : (bsC v).toList = v.map fun z => Value.int .u8 z := by unfold bsC; rfl
  rw [e]
  exact hk _ (Lib.hid (blk_cells v w L off h (by omega))) (Lib.hid fun k hk => far_cells hk _ w off) (Lib.hid fun B w0 hb hg => below_cells hg _ w off hb)

def c15 : List Int := List.replicate 35 15
theorem c15_len : c15.length = 35 := List.length_replicate
theorem all_next (V : List Int) (i : Nat) (hi : i < V.length) (hv : V.length = 35) (h : V.take i = c15.take i) : (V.set i 15).take (i + 1) = c15.take (i + 1) := by
  have := take_set_next V c15 i hi (by rw [c15_len]; omega) h
  rwa [show c15.getD i 0 = 15 by unfold c15; rw [List.getD_eq_getElem?_getD, List.getElem?_replicate, if_pos (by omega)]; rfl] at this

set_option maxRecDepth 100000 in
set_option maxHeartbeats 4000000 in
theorem rAll_any (w : World) : Calls Tryd.prog 28 #[.int .i64 15] w fun e w' => e = .returned (.agg (ksC .i64 c15)) ∧ Below w.heap.size w w' := by
  go_enter Tryd.func28, Tryd.ntmps28
  go_upto_region 2 with (fail)
  change Code.wp Tryd.prog _ _ _ ((w.alloc (.cells (ksC .i64 z35) 27)).alloc (.cells (ksC .i64 z35) 27))
  generalize hW0 : (w.alloc (.cells (ksC .i64 z35) 27)).alloc (.cells (ksC .i64 z35) 27) = W0
  obtain ⟨hb1, hb2, hB0⟩ := boxes2 w hW0
  have R0 := Lib.hid hb1; have K0 := Lib.hid hb2; have B0 := Lib.hid hB0
  clear hW0 hb1 hb2 hB0
  obtain ⟨g2, hg2⟩ : ∃ g2, g2 = w.heap.size + 1 := ⟨_, rfl⟩
  rw [← hg2] at K0 ⊢
  have o2 : w.heap.size < g2 := by omega
  clear hg2
  go_wp2_with fail
  go_loopw [4] (fun iv wr => ∃ (i : Nat) (V : List Int), iv = .int .i64 i ∧ i ≤ 35 ∧ Hid (V.length = 35) ∧ Hid (V.take i = c15.take i) ∧ Blk wr g2 27 (ksC .i64 V) ∧ Blk wr w.heap.size 27 (ksC .i64 z35) ∧ Below w.heap.size w wr) (fun iv _ => 35 - (intOf iv).toNat)
  case atStart => exact ⟨0, z35, rfl, by omega, Lib.hid z35_len, Lib.hid rfl, K0.out, R0.out, B0.out⟩
  case round =>
    clear K0 R0 B0
    obtain ⟨i, V, rfl, hi, HVL, HT, hK, hR, hB⟩ := hrel
    have K := Lib.hid hK; have R := Lib.hid hR; have BB := Lib.hid hB
    clear hK hR hB
    by_cases hlt : i < 35
    · have hiI : (i : Int) < 35 := by omega
      have c2 := K.out.cell i
      rw [ksC_get .i64 V i (by rw [HVL.out]; exact hlt)] at c2
      have f2 := K.out.free i
      have HN := Lib.hid (all_next V i (by rw [HVL.out]; exact hlt) HVL.out HT.out)
      go_wp2_with fail
      go_roundw
      case rel => exact ⟨i + 1, V.set i 15, by go_num, by omega, Lib.hid (by rw [List.length_set]; exact HVL.out), HN, by rw [← ksC_set]; exact K.out.put i _, R.out.away (by omega) i _, below_put BB.out _ _ (by omega) _⟩
      case measure => simp [intOf]; omega
    · obtain rfl : i = 35 := by omega
      have hVD : V = c15 := by
        have h := HT.out
        rwa [List.take_of_length_le (by rw [HVL.out]; exact Nat.le_refl _), List.take_of_length_le (by rw [c15_len]; exact Nat.le_refl _)] at h
      have HVD := Lib.hid hVD
      clear hVD
      go_wp2_with (first
        | (refine ld_ks Tryd.underlying27 info35 _ V HVL.out K.out (by rfl) _ (by rfl) (by rfl) ?_)
        | (refine sto_ks info35 _ V HVL.out _ R.out (by rw [ksC_size]; exact z35_len) (by rfl) _ _ (by rfl) (by rfl) (by rfl) ?_; intro w5 hw5))
      have hf : Blk w5 w.heap.size 27 (ksC .i64 V) := by rw [hw5.out]; exact R.out.row _
      have hfB : Below w.heap.size w w5 := by rw [hw5.out]; exact below_row BB.out _ (Nat.le_refl _) _
      exact bodyPost_ret (results_cell_row rfl _ _ w.heap.size _ _ _ _ rfl hf Tryd.underlying27 rfl (by rw [ksC_size, HVL.out]; exact info35)) rfl ⟨by rw [HVD.out], hfB⟩

set_option maxRecDepth 100000 in
set_option maxHeartbeats 4000000 in
theorem rCompress_any (leaf : Nat) (E : List Nat) (hE : E.length = 560) (hEb : ∀ x ∈ E, x < 256) (hl : leaf ≤ 65535) (w : World) :
    Calls Tryd.prog 26 #[.int .i64 leaf, .agg (bsC (nI E))] w fun e w' => e = .returned (.agg (bsC (nI (S7.comp leaf E)))) ∧ Below w.heap.size w w' := by
  obtain ⟨D, hD⟩ : ∃ D, D = nI E := ⟨_, rfl⟩
  obtain ⟨V, hV⟩ : ∃ V, V = nI (S7.comp leaf E) := ⟨_, rfl⟩
  have hlen : (S7.hd 4 leaf ++ E).length ≤ 100000000 := by rw [List.length_append, hE]; show 5 + _ ≤ _; omega
  have HHF := Lib.hid (show ∀ (x9 : Value) (W : World), Bytes W x9 (S7.hd 4 leaf ++ E) → Calls Tryd.prog 40 #[x9] W fun e w' => e = .returned (.agg (bsC V)) ∧ Below W.heap.size W w' from fun x9 W h => by rw [hV]; exact rHalf_any x9 _ hlen W h)
  have HLT := Lib.hid (S7.app_lt (S7.hd_lt 4 leaf (by omega) hl) hEb)
  have HVL := Lib.hid (show V.length = 16 by rw [hV, nI_len]; exact S7.half_len _)
  have HVE := Lib.hid hV
  have HHD := Lib.hid (fun W => head_any 4 leaf hl W)
  have HSB := Lib.hid (fun (W : World) g t (o : Nat) (h : Blk W g t (bsC (nI E))) (hl : o + 16 ≤ E.length) => bytes_mid (n := 16) E o hEb hl (by unfold maxLen; omega) h)
  have HE := Lib.hid hE
  rw [← hD] at HSB ⊢
  clear hV hD hlen hE hEb
  go_enter Tryd.func26, Tryd.ntmps26
  go_upto_region 1 with (fail)
  change Code.wp Tryd.prog _ _ _ ((w.alloc (.cells (bsC D) 53)).alloc (.cells (bsC z16) 36))
  generalize hW0 : (w.alloc (.cells (bsC D) 53)).alloc (.cells (bsC z16) 36) = W0
  obtain ⟨hb1, hb2, hB0⟩ := boxes2 w hW0
  have K0 := Lib.hid hb1; have R0 := Lib.hid hb2; have B0 := Lib.hid hB0
  clear hW0 hb1 hb2 hB0
  go_wp2_with (go_at_call 41; refine (HHD.out _).mono ?_; rintro e w2 ⟨v2, rfl, ho, hb⟩; have O2 := Lib.hid ho; have B2 := Lib.hid hb; clear ho hb)
  go_loopw [5, 6] (fun sv iv wr => ∃ i : Nat, iv = .int .i64 i ∧ i ≤ 35 ∧ Hid (OwnL W0.heap.size wr sv (S7.hd 4 leaf ++ E.take (16 * i))) ∧ Below W0.heap.size W0 wr) (fun _ iv _ => 35 - (intOf iv).toNat)
  case atStart => exact ⟨0, rfl, by omega, Lib.hid (by have := O2.out; rw [Nat.mul_zero, List.take_zero, List.append_nil]; exact this), B2.out⟩
  case round =>
    clear O2 B2
    obtain ⟨i, rfl, hi, HO, hB⟩ := hrel
    have BB := Lib.hid hB
    clear hB
    by_cases hlt : i < 35
    · have hiI : (i : Int) < 35 := by omega
      obtain ⟨u, hu⟩ : ∃ u, u = (E.drop (i * 16)).take 16 := ⟨_, rfl⟩
      have hul : u.length = 16 := by rw [hu, List.length_take, List.length_drop, HE.out]; omega
      have HBY := Lib.hid (show Bytes wr (.slice (some ⟨w.heap.size, i * 16, none⟩) 16 16) u by rw [hu]; exact HSB.out _ _ _ _ (K0.out.keep BB.out K0.out.lt) (by rw [HE.out]; omega))
      have HN := Lib.hid (show S7.hd 4 leaf ++ E.take (16 * i) ++ u = S7.hd 4 leaf ++ E.take (16 * (i + 1)) by rw [List.append_assoc, hu, Nat.mul_comm i 16, show 16 * (i + 1) = 16 * i + 16 by omega, List.take_add])
      have HLN := Lib.hid (show (S7.hd 4 leaf ++ E.take (16 * i)).length + u.length ≤ 1000000 by rw [List.length_append, List.length_take, HE.out, hul]; show 5 + _ + _ ≤ _; omega)
      clear hu hul
      generalize S7.hd 4 leaf ++ E.take (16 * i) = acc at *
      go_wp2_with (refine wpList_appL W0.heap.size _ _ HO.out (.slice (some ⟨w.heap.size, i * 16, none⟩) 16 16) u HBY.out HLN.out BB.out.size (by rfl) _ _ (by rfl) (by rfl) (by rfl) ?_; intro v3 w3 O3 hb; have B3 := Lib.hid (hb.out _ _ BB.out (Nat.le_refl _)); clear hb)
      go_roundw
      case rel => exact ⟨i + 1, by go_num, by omega, Lib.hid (by rw [← HN.out]; exact O3.out), B3.out⟩
      case measure => simp [intOf]; omega
    · obtain rfl : i = 35 := by omega
      have hfull : E.take (16 * 35) = E := List.take_of_length_le (by rw [HE.out]; omega)
      rw [hfull] at HO
      have T3 := Lib.hid (B0.out.trans (BB.out.mono B0.out.size))
      clear hfull
      go_wp2_with (first
        | (go_at_call 40; refine (HHF.out _ _ (HO.out.bytes HLT.out)).mono ?_; rintro e w5 ⟨rfl, hb5⟩; have R5 := Lib.hid ((R0.out.keep BB.out R0.out.lt).keep hb5 (R0.out.keep BB.out R0.out.lt).lt); have T5 := Lib.hid (T3.out.trans (hb5.mono T3.out.size)); clear hb5)
        | (refine sto_bs infoRV _ V HVL.out _ R5.out (by rw [bsC_size]; exact z16_len) (by rfl) _ _ (by rfl) (by rfl) (by rfl) ?_; intro w6 hw6))
      have hf : Blk w6 (w.heap.size + 1) 36 (bsC V) := by rw [hw6.out]; exact R5.out.row _
      have hfB : Below w.heap.size w w6 := by rw [hw6.out]; exact below_row T5.out _ (by omega) _
      exact bodyPost_ret (results_cell_row rfl _ _ (w.heap.size + 1) _ _ _ _ rfl hf Tryd.underlying36 rfl (by rw [bsC_size, HVL.out]; exact infoRV)) rfl ⟨by rw [HVE.out], hfB⟩

set_option maxRecDepth 100000 in
set_option maxHeartbeats 4000000 in
theorem rValues_any (seed : List Nat) (hs : seed.length = 32) (hsb : ∀ x ∈ seed, x < 256) (leaf : Nat) (hl : leaf ≤ 65535) (dg : Nat → Nat) (hdg : ∀ i, i < 35 → dg i ≤ 15) (X : List Int) (hX : X.length = 35) (hXc : ∀ i, i < 35 → X.getD i 0 = (dg i : Int)) (w : World) :
    Calls Tryd.prog 27 #[.agg (bsC (nI seed)), .int .i64 leaf, .agg (ksC .i64 X)] w fun e w' => e = .returned (.agg (bsC (nI (pre (fun c => S7.adv leaf c 0 (dg c) (S7.sec seed leaf c)) 35)))) ∧ Below w.heap.size w w' := by
  obtain ⟨f, hf⟩ : ∃ f : Nat → List Nat, f = fun c => S7.adv leaf c 0 (dg c) (S7.sec seed leaf c) := ⟨_, rfl⟩
  have HFL := Lib.hid (show ∀ i, i < 35 → (f i).length = 16 from fun i _ => by rw [hf]; exact S7.adv_len _ _ _ _ _ (S7.half_len _))
  have HFE := Lib.hid (show ∀ i, f i = S7.adv leaf i 0 (dg i) (S7.sec seed leaf i) from fun i => by rw [hf])
  rw [← hf]
  obtain ⟨D, hD⟩ : ∃ D, D = nI seed := ⟨_, rfl⟩
  have HDL := Lib.hid (show D.length = 32 by rw [hD, nI_len, hs])
  have HDE := Lib.hid hD
  have HS := Lib.hid hs; have HSB := Lib.hid hsb; have HDG := Lib.hid hdg; have HXCA := Lib.hid hXc; have HXL := Lib.hid hX
  rw [← hD]
  clear hf hD hs hsb hdg hX hXc
  go_enter Tryd.func27, Tryd.ntmps27
  go_upto_region 2 with (fail)
  change Code.wp Tryd.prog _ _ _ ((((w.alloc (.cells (bsC D) 31)).alloc (.cells (ksC .i64 X) 27)).alloc (.cells (bsC (zs 560)) 53)).alloc (.cells (bsC (zs 560)) 53))
  generalize hW0 : (((w.alloc (.cells (bsC D) 31)).alloc (.cells (ksC .i64 X) 27)).alloc (.cells (bsC (zs 560)) 53)).alloc (.cells (bsC (zs 560)) 53) = W0
  obtain ⟨hb1, hb2, hb3, hb4, hB0⟩ := boxes4 w hW0
  have D0 := Lib.hid hb1; have X0 := Lib.hid hb2; have R0 := Lib.hid hb3; have K0 := Lib.hid hb4; have B0 := Lib.hid hB0
  clear hW0 hb1 hb2 hb3 hb4 hB0
  obtain ⟨g5, hg5⟩ : ∃ g, g = w.heap.size + 1 := ⟨_, rfl⟩
  obtain ⟨g6, hg6⟩ : ∃ g, g = w.heap.size + 1 + 1 := ⟨_, rfl⟩
  obtain ⟨g7, hg7⟩ : ∃ g, g = w.heap.size + 1 + 1 + 1 := ⟨_, rfl⟩
  rw [← hg7] at K0 ⊢
  rw [← hg6] at R0 ⊢
  rw [← hg5] at X0 ⊢
  have o5 : w.heap.size < g5 := by omega
  have o6 : g5 < g6 := by omega
  have o7 : g6 < g7 := by omega
  clear hg5 hg6 hg7
  go_wp2_with fail
  go_loopw [8] (fun iv wr => ∃ i : Nat, iv = .int .i64 i ∧ i ≤ 35 ∧ Blk wr g7 53 (bsC (nI (pre f i) ++ zs (560 - 16 * i))) ∧ Blk wr g6 53 (bsC (zs 560)) ∧ Blk wr g5 27 (ksC .i64 X) ∧ Blk wr w.heap.size 31 (bsC D) ∧ Below w.heap.size w wr) (fun iv _ => 35 - (intOf iv).toNat)
  case atStart => exact ⟨0, rfl, by omega, K0.out, R0.out, X0.out, D0.out, B0.out⟩
  case round =>
    clear K0 R0 X0 D0 B0
    obtain ⟨i, rfl, hi, hK, hR, hX, hD, hB⟩ := hrel
    have K := Lib.hid hK; have R := Lib.hid hR; have BB := Lib.hid hB; have XX := Lib.hid hX; have DD := Lib.hid hD
    clear hK hR hB hX hD
    by_cases hlt : i < 35
    · have hiI : (i : Int) < 35 := by omega
      have hi0 : (0 : Int) ≤ (i : Int) := by omega
      obtain ⟨L, hL⟩ : ∃ L, L = nI (pre f i) ++ zs (560 - 16 * i) := ⟨_, rfl⟩
      have hLL : L.length = 560 := by rw [hL, List.length_append, nI_len, pre_len f HFL.out i (by omega)]; unfold zs; rw [List.length_replicate]; omega
      have hst := pre_step f HFL.out i hlt (i * 16) (Nat.mul_comm _ _)
      rw [← hL] at K hst
      obtain ⟨V, hV⟩ : ∃ V, V = nI (f i) := ⟨_, rfl⟩
      have HVL := Lib.hid (show V.length = 16 by rw [hV, nI_len]; exact HFL.out i hlt)
      obtain ⟨E, hE⟩ : ∃ E, E = nI (S7.sec seed leaf i) := ⟨_, rfl⟩
      have h1 := fun W => rSecret_any seed HS.out HSB.out leaf i hl (by omega) W
      rw [← HDE.out, ← hE] at h1
      have hdgi := HDG.out i hlt
      have HXC := Lib.hid (HXCA.out i hlt)
      have h2 := fun W => rAdvance_any leaf i 0 (dg i) (S7.sec seed leaf i) (S7.half_len _) (S7.half_lt _) hl (by omega) (by omega) W
      rw [← HFE.out, ← hV, ← hE, Nat.zero_add] at h2
      generalize dg i = dg at *
      rw [← hV] at hst
      have H1 := Lib.hid h1; have H2 := Lib.hid h2
      have HST := Lib.hid hst; have HLL := Lib.hid hLL; have HLT := Lib.hid hlt
      have K0 := Lib.hid K.out.draw; have R0 := Lib.hid R.out.draw; have X0 := Lib.hid XX.out.draw; have D0 := Lib.hid DD.out.draw; have B0 := Lib.hid BB.out.drew
      clear hL hV hst hLL hE h1 h2 K R XX DD BB hdgi
      go_wp2_with fail
      refine wp_region_held_drew (S := (fun W => Blk W g5 27 (ksC .i64 X) ∧ Blk W w.heap.size 31 (bsC D))) (by kernel_rfl) ?_ (fun hHeld => ?_)
      · exact ⟨X0.out, D0.out⟩
      refine wpAnyH_take (i := 0) (v := ?_) rfl (by kernel_rfl) (by kernel_rfl) (by kernel_rfl) (fun _ _ _ h => h) (Or.inl ⟨by rfl, ?_⟩) (by assumption) ?_
      rotate_left
      · (intro w9 _; go_simp; try with_reducible rfl)
      simp only [Act.put, List.getElem_toArray, List.getElem_cons_zero, List.setIfInBounds_toArray, List.set_cons_succ, List.set_cons_zero]
      refine wpAnyH_take (i := 1) (v := ?_) rfl (by kernel_rfl) (by kernel_rfl) (by kernel_rfl) (fun _ _ _ h => h) (Or.inl ⟨by rfl, ?_⟩) (by assumption) ?_
      rotate_left
      · (intro w9 _; go_simp; try with_reducible rfl)
      simp only [Act.put, List.getElem_toArray, List.getElem_cons_succ, List.getElem_cons_zero, List.setIfInBounds_toArray, List.set_cons_succ, List.set_cons_zero]
      refine wpAnyH_take (i := 2) (v := ?_) rfl (by kernel_rfl) (by kernel_rfl) (by kernel_rfl) (fun _ _ _ h => h) (Or.inl ⟨by rfl, ?_⟩) (by assumption) ?_
      rotate_left
      · (intro w9 _; go_simp; try with_reducible rfl)
      simp only [Act.put, List.getElem_toArray, List.getElem_cons_succ, List.getElem_cons_zero, List.setIfInBounds_toArray, List.set_cons_succ, List.set_cons_zero]
      refine wpAnyH_take (i := 3) (v := ?_) rfl (by kernel_rfl) (by kernel_rfl) (by kernel_rfl) (fun _ _ _ h => h) (Or.inl ⟨by rfl, ?_⟩) (by assumption) ?_
      rotate_left
      · (intro w9 _; go_simp; try with_reducible rfl)
      simp only [Act.put, List.getElem_toArray, List.getElem_cons_succ, List.getElem_cons_zero, List.setIfInBounds_toArray, List.set_cons_succ, List.set_cons_zero]
      refine wpAnyH_take (i := 4) (v := ?_) rfl (by kernel_rfl) (by kernel_rfl) (by kernel_rfl) (fun _ _ _ h => h) (Or.inl ⟨by rfl, ?_⟩) (by assumption) ?_
      rotate_left
      · (intro w9 _; go_simp; try with_reducible rfl)
      simp only [Act.put, List.getElem_toArray, List.getElem_cons_succ, List.getElem_cons_zero, List.setIfInBounds_toArray, List.set_cons_succ, List.set_cons_zero]
      refine wpAnyH_take (i := 5) (v := .int .i64 dg) rfl (by kernel_rfl) (by kernel_rfl) (by kernel_rfl) (fun _ _ _ h => h) (yl_int (fun w => by kernel_rfl) g5 i dg (fun _ h => by rw [h.1.cell, ksC_get .i64 X i (by rw [HXL.out]; exact HLT.out), HXC.out]) (by rfl) _ rfl rfl) (by assumption) ?_
      simp only [Act.put, List.getElem_toArray, List.getElem_cons_succ, List.getElem_cons_zero, List.setIfInBounds_toArray, List.set_cons_succ, List.set_cons_zero]
      refine wpAnyH_take (i := 6) (v := .agg (bsC D)) rfl (by kernel_rfl) (by kernel_rfl) (by kernel_rfl) (fun _ _ _ h => h) (yl_bs Tryd.underlying31 info32u _ _ HDL.out (fun _ h => h.2) (by rfl) _ rfl rfl) (by assumption) ?_
      simp only [Act.put, List.getElem_toArray, List.getElem_cons_succ, List.getElem_cons_zero, List.setIfInBounds_toArray, List.set_cons_succ, List.set_cons_zero]
      refine wpAnyH_take (i := 7) (v := ?_) rfl (by kernel_rfl) (by kernel_rfl) (by kernel_rfl) (fun _ _ _ h => h) (Or.inl ⟨by rfl, ?_⟩) (by assumption) ?_
      rotate_left
      · (intro w9 _; go_simp; try with_reducible rfl)
      simp only [Act.put, List.getElem_toArray, List.getElem_cons_succ, List.getElem_cons_zero, List.setIfInBounds_toArray, List.set_cons_succ, List.set_cons_zero]
      refine wpAnyH_take (i := 8) (v := ?_) rfl (by kernel_rfl) (by kernel_rfl) (by kernel_rfl) (fun _ _ _ h => h) (Or.inl ⟨by rfl, ?_⟩) (by assumption) ?_
      rotate_left
      · (intro w9 _; go_simp; try with_reducible rfl)
      simp only [Act.put, List.getElem_toArray, List.getElem_cons_succ, List.getElem_cons_zero, List.setIfInBounds_toArray, List.set_cons_succ, List.set_cons_zero]
      refine wpAnyH_ready (rs := [9]) (by kernel_rfl) (by simp) ?_
      refine AllReadyH.cons rfl (fun K hK => ?_) AllReadyH.nil
      go_simp
      refine (H1.out _).mono ?_
      rintro e w1 ⟨rfl, hb⟩
      have X1 := Lib.hid (X0.out.keep hb X0.out.lt)
      have D1 := Lib.hid (D0.out.keep hb D0.out.lt)
      have K1 := Lib.hid (K0.out.keep hb K0.out.lt)
      have R1 := Lib.hid (R0.out.keep hb R0.out.lt)
      have B1 := Lib.hid (B0.out.trans (hb.mono B0.out.size))
      clear hb
      refine hK.out _ _ ⟨X1.out, D1.out⟩ (fun hHeld => ?_)
      clear hK K
      refine wpAnyH_ready (rs := [10]) (by kernel_rfl) (by simp) ?_
      refine AllReadyH.cons rfl (fun K hK => ?_) AllReadyH.nil
      go_simp
      refine (H2.out _).mono ?_
      rintro e w2 ⟨rfl, hb⟩
      have X2 := Lib.hid (X1.out.keep hb X1.out.lt)
      have D2 := Lib.hid (D1.out.keep hb D1.out.lt)
      have K2 := Lib.hid (K1.out.keep hb K1.out.lt)
      have R2 := Lib.hid (R1.out.keep hb R1.out.lt)
      have B2 := Lib.hid (B1.out.trans (hb.mono B1.out.size))
      clear hb
      refine hK.out _ _ ⟨X2.out, D2.out⟩ (fun hHeld => ?_)
      clear hK K
      refine wpAnyH_take (i := 11) (v := ?_) rfl (by kernel_rfl) (by kernel_rfl) (by kernel_rfl) (fun _ _ _ h => h) (Or.inl ⟨by rfl, ?_⟩) (by assumption) ?_
      rotate_left
      · (intro w9 _; go_simp; try with_reducible rfl)
      simp only [Act.put, List.getElem_toArray, List.getElem_cons_succ, List.getElem_cons_zero, List.setIfInBounds_toArray, List.set_cons_succ, List.set_cons_zero]
      refine wpAnyH_ready (rs := [12]) (by kernel_rfl) (by simp) ?_
      refine AllReadyH.cons rfl (fun K hK => ?_) AllReadyH.nil
      refine step_sto_mid (T := 36) infoRV g7 _ L (i * 16) V HVL.out (by rw [HLL.out]; have := HLT.out; omega) K2.out (by rfl) _ _ rfl (by rfl) (by rfl) ?_
      intro wf hw2 hw3 hw4
      have RF := Lib.hid (show Blk wf _ _ _ from (hw3.out _ (by omega)).trans R2.out)
      have XF := Lib.hid (show Blk wf _ _ _ from (hw3.out _ (by omega)).trans X2.out)
      have DF := Lib.hid (show Blk wf _ _ _ from (hw3.out _ (by omega)).trans D2.out)
      have BF := Lib.hid (hw4.out _ _ B2.out (by omega))
      refine hK.out _ _ ⟨XF.out, DF.out⟩ (fun hHeld => ?_)
      clear hK K
      refine wpAnyH_done (by kernel_rfl) ?_ _
      go_wp2_with fail
      go_roundw
      case rel => exact ⟨i + 1, by go_num, by omega, by rw [← HST.out]; exact hw2.out, RF.out, XF.out, DF.out, BF.out⟩
      case measure => simp [intOf]; omega
    · obtain rfl : i = 35 := by omega
      obtain ⟨L, hL⟩ : ∃ L, L = nI (pre f 35) := ⟨_, rfl⟩
      have hK2 : Blk wr g7 53 (bsC L) := by
        have h := K.out
        rw [show zs (560 - 16 * 35) = [] from rfl, List.append_nil, ← hL] at h
        exact h
      have HK2 := Lib.hid hK2
      have HLL := Lib.hid (show L.length = 560 by rw [hL, nI_len, pre_len f HFL.out 35 (by omega)])
      have HLE := Lib.hid hL
      clear hK2 hL
      go_wp2_with (first
        | (refine ld_any Tryd.underlying53 infoRs _ L HLL.out HK2.out (by rfl) _ (by rfl) (by rfl) ?_)
        | (refine sto_bs infoRs _ L HLL.out _ R.out (by rw [bsC_size]; unfold zs; rw [List.length_replicate]) (by rfl) _ _ (by rfl) (by rfl) (by rfl) ?_; intro w5 hw5))
      have hf5 : Blk w5 g6 53 (bsC L) := by rw [hw5.out]; exact R.out.row _
      have hfB : Below w.heap.size w w5 := by rw [hw5.out]; exact below_row BB.out _ (by omega) _
      exact bodyPost_ret (results_cell_row rfl _ _ g6 _ _ _ _ rfl hf5 Tryd.underlying53 rfl (by rw [bsC_size, HLL.out]; exact infoRs)) rfl ⟨by rw [HLE.out], hfB⟩
end Go.Proofs.YtgfolgmheinbiaaDoorRRR
