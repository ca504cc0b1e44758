/- MsgidCompares: whatever the identities, Compare orders them as their texts are ordered, and IsZero tells the zero one. Conditions: none beyond the row's own. -/
import Derived.Test.YtcpiiafnifkahaaHeld
namespace Go.Proofs.Ytcpiiafnifkahaa.msgidComparesLaw
open Go.ChangeShapes Go.WideShapes Go.ChangeAt Go.RowKit
open Go.ChangeMaps (open_string shut_string)

theorem wrap_u8c (x : Int) (h : 0 ≤ x ∧ x ≤ 255) : wrap64 x = x := by
  unfold wrap64
  omega
theorem info2c : (Try.prog.info? 37).map (·.size) = some 2 := by kernel_rfl

set_option maxRecDepth 100000 in
set_option maxHeartbeats 4000000 in
theorem walk (l c : List Nat) (hl : l.length = 32) (hb : ∀ x ∈ l, x < 256) (hcl : c.length = 32) (hcb : ∀ x ∈ c, x < 256) (p : List Nat) (hpl : p.length = 2) (hpb : ∀ x ∈ p, x < 256) (w : World) :
    Calls Try.prog 6 #[.agg (bsC (nI l)), .agg (bsC (nI c)), .agg (bsC (nI p))] w fun e w' => e = .returned (.bool true) ∧ Below w.heap.size w w' := by
  obtain ⟨p0, hp0⟩ : ∃ p0, p0 = p.getD 0 0 := ⟨_, rfl⟩
  obtain ⟨p1, hp1⟩ : ∃ p1, p1 = p.getD 1 0 := ⟨_, rfl⟩
  have b0 : p0 < 256 := by rw [hp0]; exact getD_lt p hpb 0
  have b1 : p1 < 256 := by rw [hp1]; exact getD_lt p hpb 1
  have hpp : nI p = [(p0 : Int), (p1 : Int)] := by
    match p, hpl with
    | [a, b], _ => simp [nI, hp0, hp1]
  rw [hpp]
  clear hp0 hp1 hpp hpl hpb
  have hwx : wrap64 (p0 : Int) = (p0 : Int) := wrap_u8c _ (by omega)
  obtain ⟨q, hq⟩ : ∃ q : Nat, q = p0 % 32 := ⟨_, rfl⟩
  have hq1 : (p0 : Int).tmod 32 = (q : Int) := by rw [hq, Int.tmod_eq_emod_of_nonneg (by omega)]; omega
  have hq32 : q < 32 := by omega
  obtain ⟨a, ha⟩ : ∃ a, a = l.getD q 0 := ⟨_, rfl⟩
  have hab : a < 256 := by rw [ha]; exact getD_lt l hb q
  obtain ⟨r, hr⟩ : ∃ r : Nat, r = a ^^^ p1 := ⟨_, rfl⟩
  have hr2 : r < 256 := by rw [hr]; exact Nat.xor_lt_two_pow (n := 8) hab b1
  have hxor : bits .xor .u8 (a : Int) (p1 : Int) = (r : Int) := by rw [hr]; exact u8_xor_nat a p1 hab b1
  obtain ⟨m, hm⟩ : ∃ m, m = l.set q r := ⟨_, rfl⟩
  have hml : m.length = 32 := by rw [hm, List.length_set, hl]
  have hmb : ∀ x ∈ m, x < 256 := by
    intro x hx
    rw [hm] at hx
    rcases List.mem_or_eq_of_mem_set hx with h | h
    · exact hb x h
    · rw [h]; exact hr2
  have hset : (bsC (nI l)).setIfInBounds q (.int .u8 (r : Int)) = bsC (nI m) := by rw [bsC_set, nI_set, hm]
  obtain ⟨t1, ht1⟩ : ∃ t : ByteArray, t = ⟨(Mid.printL l).toArray⟩ := ⟨_, rfl⟩
  obtain ⟨t2, ht2⟩ : ∃ t : ByteArray, t = ⟨(Mid.printL m).toArray⟩ := ⟨_, rfl⟩
  have hless1 : Op.bytesLess t1.toList t2.toList = decide (Mid.cmpL l m = -1) := by
    rw [ByteArray.toList_eq, ByteArray.toList_eq, ht1, ht2, Mid.bytesLess_eq]
    exact Mid.less_print l m hl hml hb hmb
  have hless2 : Op.bytesLess t2.toList t1.toList = decide (Mid.cmpL m l = -1) := by
    rw [ByteArray.toList_eq, ByteArray.toList_eq, ht1, ht2, Mid.bytesLess_eq]
    exact Mid.less_print m l hml hl hmb hb
  have P1 := Lib.hid (fun w => print_any l hl hb w t1 ht1)
  have P2 := Lib.hid (fun w => print_any m hml hmb w t2 ht2)
  have C1 := Lib.hid (fun w => compare_any l m hl hml hb hmb w)
  have C2 := Lib.hid (fun w => compare_any m l hml hl hmb hb w)
  have C3 := Lib.hid (fun w => compare_any l c hl hcl hb hcb w)
  have C4 := Lib.hid (fun w => refCompare_any l c hl hcl w)
  have Z1 := Lib.hid (fun w => isZero_any l hl w)
  have HK := Lib.hid (fun w => known_any w)
  have hz : ∀ w, (Op.equalIn 10000 23 (.agg (bsC (nI l))) (.agg (bsC zD))).run Try.prog w = .ok (decide (l = List.replicate 32 0)) w := fun w => by
    have h := eq_arr (t := 23) Try.underlying23 (nI l) zD (by rw [nI_len, hl]) zD_len 9998 w
    have hd : decide (nI l = zD) = decide (l = List.replicate 32 0) := by
      rw [decide_eq_decide]
      exact ⟨fun h => (List.map_inj_right (f := fun (x : Nat) => (x : Int)) (fun x y h => Int.ofNat.inj h)).1 h, fun h => by rw [h]; rfl⟩
    rw [hd] at h
    exact h
  have hneg := Mid.cmpL_neg l m
  have hrng := Mid.cmpL_range l m
  have hzero : Mid.cmpL l m = 0 → t1 = t2 := fun h => by rw [ht1, ht2, Mid.cmpL_zero l m h]
  generalize decide (l = List.replicate 32 0) = zz at *
  generalize Mid.cmpL l c = cc at *
  rw [hneg] at C2 hless2
  generalize Mid.cmpL l m = s at *
  have hcell := fun (W : World) g t (h : Blk W g t (bsC (nI l))) => cell_nI h q (by rw [hl]; exact hq32)
  rw [← ha] at hcell
  have HCELL := Lib.hid hcell; have HSET := Lib.hid hset
  have HA := Lib.hid (show (nI l).length = 32 by rw [nI_len]; exact hl)
  have HX := Lib.hid (show (nI m).length = 32 by rw [nI_len]; exact hml)
  have HCC := Lib.hid (show (nI c).length = 32 by rw [nI_len]; exact hcl)
  have HZ := Lib.hid hz
  generalize nI l = A at *
  generalize nI m = X at *
  generalize nI c = C at *
  have htri : (s = -1 ∧ Op.bytesLess t1.toList t2.toList = true ∧ Op.bytesLess t2.toList t1.toList = false ∧ (t1.toList == t2.toList) = false) ∨ (s = 0 ∧ Op.bytesLess t1.toList t2.toList = false ∧ Op.bytesLess t2.toList t1.toList = false ∧ (t1.toList == t2.toList) = true) ∨ (s = 1 ∧ Op.bytesLess t1.toList t2.toList = false ∧ Op.bytesLess t2.toList t1.toList = true ∧ (t1.toList == t2.toList) = false) := by
    have hne : Op.bytesLess t1.toList t2.toList ≠ Op.bytesLess t2.toList t1.toList → (t1.toList == t2.toList) = false := fun h => by
      rw [beq_eq_false_iff_ne]
      intro e
      rw [e] at h
      exact h rfl
    rcases hrng with h | h | h
    · subst h
      exact .inl ⟨rfl, by rw [hless1]; decide, by rw [hless2]; decide, hne (by rw [hless1, hless2]; decide)⟩
    · have hz0 := hzero h
      subst h
      exact .inr (.inl ⟨rfl, by rw [hless1]; decide, by rw [hless2]; decide, by rw [hz0]; simp⟩)
    · subst h
      exact .inr (.inr ⟨rfl, by rw [hless1]; decide, by rw [hless2]; decide, hne (by rw [hless1, hless2]; decide)⟩)
  have HT := Lib.hid htri
  have hqI : (q : Int) < 32 := by omega
  clear htri hzero hneg hrng hcell hset hz ht1 ht2 hless1 hless2 hmb hml hm hr2 hr hab ha hq b0 b1 hl hb hcl hcb hq32
  go_enter Try.func6, Try.ntmps6
  go_upto_region 1 with (fail)
  have ka := ((Blk.fresh w 23 (bsC A)).more (.cells (bsC C) 23)).more (.cells (bsC [(p0 : Int), (p1 : Int)]) 37)
  have kc := (Blk.fresh (w.alloc (.cells (bsC A) 23)) 23 (bsC C)).more (.cells (bsC [(p0 : Int), (p1 : Int)]) 37)
  have kp := Blk.fresh ((w.alloc (.cells (bsC A) 23)).alloc (.cells (bsC C) 23)) 37 (bsC [(p0 : Int), (p1 : Int)])
  have hB : Below w.heap.size w (((w.alloc (.cells (bsC A) 23)).alloc (.cells (bsC C) 23)).alloc (.cells (bsC [(p0 : Int), (p1 : Int)]) 37)) := (((Below.refl _ w).alloc (Nat.le_refl _) _).alloc (by simp) _).alloc (by simp; omega) _
  rw [show (w.alloc (.cells (bsC A) 23)).heap.size = w.heap.size + 1 by simp] at kc
  rw [show ((w.alloc (.cells (bsC A) 23)).alloc (.cells (bsC C) 23)).heap.size = w.heap.size + 1 + 1 by simp] at kp
  have hs3 : (((w.alloc (.cells (bsC A) 23)).alloc (.cells (bsC C) 23)).alloc (.cells (bsC [(p0 : Int), (p1 : Int)]) 37)).heap.size = w.heap.size + 1 + 1 + 1 := by simp
  generalize ((w.alloc (.cells (bsC A) 23)).alloc (.cells (bsC C) 23)).alloc (.cells (bsC [(p0 : Int), (p1 : Int)]) 37) = W0 at *
  have d0 : W0.drew.cell? ⟨w.heap.size + 1 + 1, 0, none⟩ = some (.int .u8 p0) := by rw [kp.draw.cell]; rfl
  have d1 : W0.drew.cell? ⟨w.heap.size + 1 + 1, 1, none⟩ = some (.int .u8 p1) := by rw [kp.draw.cell]; rfl
  have KA := Lib.hid ka; have KC := Lib.hid kc; have B0 := Lib.hid hB; have HS3 := Lib.hid hs3
  clear ka kc kp hB hs3
  go_wp2_with fail
  go_region_law (fail)
  all_goals
    go_upto_region 3 with (first
      | (refine ld_bs Try.underlying23 infoId _ A HA.out KA.out.draw (by rfl) _ (by rfl) (by rfl) ?_)
      | (refine sto_bs infoId _ A HA.out _ (Blk.fresh W0.drew _ _) rfl (by rfl) _ _ (by rfl) (by rfl) (by rfl) ?_; intro w3 hw3))
  all_goals
    have hu23 : Try.prog.underlying 23 = some (.array 32 5) := Try.underlying23
    have hiA : (Try.prog.info? 23).map (·.size) = some (bsL A).length := by rw [bsL_len, HA.out]; exact infoId
    have hiX : (Try.prog.info? 23).map (·.size) = some (bsL X).length := by rw [bsL_len, HX.out]; exact infoId
    have hiC : (Try.prog.info? 23).map (·.size) = some (bsL C).length := by rw [bsL_len, HCC.out]; exact infoId
    have HI := Lib.hid (And.intro hu23 (And.intro hiA (And.intro hiX hiC)))
    clear hu23 hiA hiX hiC
    have L3 := Lib.hid (show Blk w3 W0.heap.size 23 (bsC A) by rw [hw3.out]; exact (Blk.fresh W0.drew _ _).row _)
    have A3 := Lib.hid (show Blk w3 w.heap.size 23 (bsC A) by rw [hw3.out]; exact (KA.out.draw.more _).far (by have := HS3.out; show w.heap.size ≠ W0.heap.size; omega) _)
    have C3' := Lib.hid (show Blk w3 (w.heap.size + 1) 23 (bsC C) by rw [hw3.out]; exact (KC.out.draw.more _).far (by have := HS3.out; show w.heap.size + 1 ≠ W0.heap.size; omega) _)
    have B3 := Lib.hid (show Below w.heap.size w w3 by rw [hw3.out]; exact below_row (B0.out.drew.alloc B0.out.drew.size _) _ B0.out.size _)
    clear hw3
    have hN0 : w.heap.size ≠ W0.heap.size := by have := HS3.out; omega
    have hN1 : w.heap.size + 1 ≠ W0.heap.size := by have := HS3.out; omega
    have hN2 : w.heap.size ≤ W0.heap.size := by have := HS3.out; omega
    have HN := Lib.hid (And.intro hN0 (And.intro hN1 hN2))
    clear hN0 hN1 hN2
    generalize W0.heap.size = g at *
    have cc1 := HCELL.out _ _ _ L3.out
    have fc1 : w3.frozen? ⟨g, q, none⟩ = false := L3.out.free _
    go_upto_region 4 with (fail)
    have r4 : R3 w (w3.setCell ⟨g, q, none⟩ (.int .u8 (r : Int))) w.heap.size g (w.heap.size + 1) 23 A X C :=
      ⟨A3.out.away HN.out.1 _ _, by rw [← HSET.out]; exact L3.out.put _ _, C3'.out.away HN.out.2.1 _ _, below_put B3.out g _ HN.out.2.2 _⟩
    generalize w3.setCell ⟨g, q, none⟩ (.int .u8 (r : Int)) = W4 at *
    have R4 := Lib.hid r4.draw
    clear r4 cc1 fc1
    obtain ⟨hu23, hiA, hiX, hiC⟩ := HI.out
    refine wp_region_held_drew (S := (fun w' => w'.rangeAt w.heap.size 0 (bsL A) ∧ w'.rangeAt g 0 (bsL X) ∧ w'.rangeAt (w.heap.size + 1) 0 (bsL C))) (by kernel_rfl) ?_ (fun hHeld => ?_)
    · exact R4.out.rng
    refine wpAnyH_take (i := 0) (v := .agg (bsL A).toArray) rfl (by kernel_rfl) (by kernel_rfl) (by kernel_rfl) (fun _ _ _ h => h) (yieldsIf_load_mid (by rfl) _ _ rfl _ _ rfl (bsL A) _ (fun _ h => h.1) hu23 rfl hiA) (by assumption) ?_
    simp only [Act.put, List.getElem_toArray, List.getElem_cons_zero, List.setIfInBounds_toArray, List.set_cons_succ, List.set_cons_zero]
    refine wpAnyH_take (i := 2) (v := .agg (bsL X).toArray) rfl (by kernel_rfl) (by kernel_rfl) (by kernel_rfl) (fun _ _ _ h => h) (yieldsIf_load_mid (by rfl) _ _ rfl _ _ rfl (bsL X) _ (fun _ h => h.2.1) hu23 rfl hiX) (by assumption) ?_
    simp only [Act.put, List.getElem_toArray, List.getElem_cons_succ, List.getElem_cons_zero, List.setIfInBounds_toArray, List.set_cons_succ, List.set_cons_zero]
    refine wpAnyH_ready (rs := [1]) (by kernel_rfl) (by simp) ?_
    refine AllReadyH.cons rfl (fun K hK => ?_) AllReadyH.nil
    go_simp
    refine (P1.out _).mono ?_
    rintro e w5 ⟨rfl, hb5⟩
    have R5 := Lib.hid (R4.out.step hb5)
    clear hb5
    refine hK.out _ _ R5.out.rng (fun hHeld => ?_)
    clear hK K
    refine wpAnyH_ready (rs := [3]) (by kernel_rfl) (by simp) ?_
    refine AllReadyH.cons rfl (fun K hK => ?_) AllReadyH.nil
    go_simp
    refine (P2.out _).mono ?_
    rintro e w6 ⟨rfl, hb6⟩
    have R6 := Lib.hid (R5.out.step hb6)
    clear hb6
    refine hK.out _ _ R6.out.rng (fun hHeld => ?_)
    clear hK K
    refine wpAnyH_take (i := 4) (v := ?_) rfl (by kernel_rfl) (by kernel_rfl) (by kernel_rfl) (fun _ _ _ h => h) (Or.inl ⟨by rfl, ?_⟩) (by assumption) ?_
    rotate_left
    · (intro w9 _; go_simp; try with_reducible rfl)
    simp only [Act.put, List.getElem_toArray, List.getElem_cons_succ, List.getElem_cons_zero, List.setIfInBounds_toArray, List.set_cons_succ, List.set_cons_zero]
    refine wpAnyH_take (i := 5) (v := ?_) rfl (by kernel_rfl) (by kernel_rfl) (by kernel_rfl) (fun _ _ _ h => h) (Or.inl ⟨by rfl, ?_⟩) (by assumption) ?_
    rotate_left
    · (intro w9 _; go_simp; try with_reducible rfl)
    simp only [Act.put, List.getElem_toArray, List.getElem_cons_succ, List.getElem_cons_zero, List.setIfInBounds_toArray, List.set_cons_succ, List.set_cons_zero]
    refine wpAnyH_done (by kernel_rfl) ?_ _
  all_goals rcases HT.out with ⟨rfl, hc1, hc2, hc3⟩ | ⟨rfl, hc1, hc2, hc3⟩ | ⟨rfl, hc1, hc2, hc3⟩
  all_goals
    try rw [show (-(-1) : Int) = 1 from rfl] at C2
    try rw [show (-(0) : Int) = 0 from rfl] at C2
  all_goals
    go_upto_region 10 with (fail)
    have hz2 : ∀ w, (Op.equalIn 10000 23 (.agg (bsL A).toArray) (.agg #[.int .u8 0, .int .u8 0, .int .u8 0, .int .u8 0, .int .u8 0, .int .u8 0, .int .u8 0, .int .u8 0, .int .u8 0, .int .u8 0, .int .u8 0, .int .u8 0, .int .u8 0, .int .u8 0, .int .u8 0, .int .u8 0, .int .u8 0, .int .u8 0, .int .u8 0, .int .u8 0, .int .u8 0, .int .u8 0, .int .u8 0, .int .u8 0, .int .u8 0, .int .u8 0, .int .u8 0, .int .u8 0, .int .u8 0, .int .u8 0, .int .u8 0, .int .u8 0])).run Try.prog w = .ok zz w := fun w => HZ.out w
    have R7 := Lib.hid R6.out.draw
    have v1 : IntKind.i64.wrap 1 = 1 := by decide
    have v2 : IntKind.i64.wrap 0 = 0 := by decide
    have v3 : IntKind.i64.wrap (-1) = -1 := by decide
    clear R5 R4 R6 hc1 hc2 hc3
    refine wp_region_held_drew (S := (fun w' => w'.rangeAt w.heap.size 0 (bsL A) ∧ w'.rangeAt g 0 (bsL X) ∧ w'.rangeAt (w.heap.size + 1) 0 (bsL C))) (by kernel_rfl) ?_ (fun hHeld => ?_)
    · exact R7.out.rng
    refine wpAnyH_ready (rs := [0]) (by kernel_rfl) (by simp) ?_
    refine AllReadyH.cons rfl (fun K hK => ?_) AllReadyH.nil
    go_simp
    refine (HK.out _).mono ?_
    rintro e w8 ⟨rfl, hb8⟩
    have R8 := Lib.hid (R7.out.step hb8)
    clear hb8
    refine hK.out _ _ R8.out.rng (fun hHeld => ?_)
    clear hK K
    refine wpAnyH_take (i := 1) (v := ?_) rfl (by kernel_rfl) (by kernel_rfl) (by kernel_rfl) (fun _ _ _ h => h) (Or.inl ⟨by rfl, ?_⟩) (by assumption) ?_
    rotate_left
    · (intro w9 _; go_simp; try with_reducible rfl)
    simp only [Act.put, List.getElem_toArray, List.getElem_cons_succ, List.getElem_cons_zero, List.setIfInBounds_toArray, List.set_cons_succ, List.set_cons_zero]
    refine wpAnyH_take (i := 2) (v := .agg (bsL A).toArray) rfl (by kernel_rfl) (by kernel_rfl) (by kernel_rfl) (fun _ _ _ h => h) (yieldsIf_load_mid (by rfl) _ _ rfl _ _ rfl (bsL A) _ (fun _ h => h.1) hu23 rfl hiA) (by assumption) ?_
    simp only [Act.put, List.getElem_toArray, List.getElem_cons_succ, List.getElem_cons_zero, List.setIfInBounds_toArray, List.set_cons_succ, List.set_cons_zero]
    refine wpAnyH_take (i := 3) (v := .agg (bsL X).toArray) rfl (by kernel_rfl) (by kernel_rfl) (by kernel_rfl) (fun _ _ _ h => h) (yieldsIf_load_mid (by rfl) _ _ rfl _ _ rfl (bsL X) _ (fun _ h => h.2.1) hu23 rfl hiX) (by assumption) ?_
    simp only [Act.put, List.getElem_toArray, List.getElem_cons_succ, List.getElem_cons_zero, List.setIfInBounds_toArray, List.set_cons_succ, List.set_cons_zero]
    refine wpAnyH_take (i := 5) (v := ?_) rfl (by kernel_rfl) (by kernel_rfl) (by kernel_rfl) (fun _ _ _ h => h) (Or.inl ⟨by rfl, ?_⟩) (by assumption) ?_
    rotate_left
    · (intro w9 _; go_simp; try with_reducible rfl)
    simp only [Act.put, List.getElem_toArray, List.getElem_cons_succ, List.getElem_cons_zero, List.setIfInBounds_toArray, List.set_cons_succ, List.set_cons_zero]
    refine wpAnyH_ready (rs := [4]) (by kernel_rfl) (by simp) ?_
    refine AllReadyH.cons rfl (fun K hK => ?_) AllReadyH.nil
    go_simp
    refine (C1.out _).mono ?_
    rintro e w9 ⟨rfl, hb9⟩
    have R9 := Lib.hid (R8.out.step hb9)
    clear hb9
    refine hK.out _ _ R9.out.rng (fun hHeld => ?_)
    clear hK K
    refine wpAnyH_take (i := 6) (v := ?_) rfl (by kernel_rfl) (by kernel_rfl) (by kernel_rfl) (fun _ _ _ h => h) (Or.inl ⟨by rfl, ?_⟩) (by assumption) ?_
    rotate_left
    · (intro w9 _; go_simp; try with_reducible rfl)
    simp only [Act.put, List.getElem_toArray, List.getElem_cons_succ, List.getElem_cons_zero, List.setIfInBounds_toArray, List.set_cons_succ, List.set_cons_zero]
    refine wpAnyH_take (i := 7) (v := ?_) rfl (by kernel_rfl) (by kernel_rfl) (by kernel_rfl) (fun _ _ _ h => h) (Or.inl ⟨by rfl, ?_⟩) (by assumption) ?_
    rotate_left
    · (intro w9 _; go_simp; try with_reducible rfl)
    simp only [Act.put, List.getElem_toArray, List.getElem_cons_succ, List.getElem_cons_zero, List.setIfInBounds_toArray, List.set_cons_succ, List.set_cons_zero]
    refine wpAnyH_take (i := 8) (v := ?_) rfl (by kernel_rfl) (by kernel_rfl) (by kernel_rfl) (fun _ _ _ h => h) (Or.inl ⟨by rfl, ?_⟩) (by assumption) ?_
    rotate_left
    · (intro w9 _; go_simp; try with_reducible rfl)
    simp only [Act.put, List.getElem_toArray, List.getElem_cons_succ, List.getElem_cons_zero, List.setIfInBounds_toArray, List.set_cons_succ, List.set_cons_zero]
    refine wpAnyH_take (i := 9) (v := .agg (bsL X).toArray) rfl (by kernel_rfl) (by kernel_rfl) (by kernel_rfl) (fun _ _ _ h => h) (yieldsIf_load_mid (by rfl) _ _ rfl _ _ rfl (bsL X) _ (fun _ h => h.2.1) hu23 rfl hiX) (by assumption) ?_
    simp only [Act.put, List.getElem_toArray, List.getElem_cons_succ, List.getElem_cons_zero, List.setIfInBounds_toArray, List.set_cons_succ, List.set_cons_zero]
    refine wpAnyH_take (i := 10) (v := .agg (bsL A).toArray) rfl (by kernel_rfl) (by kernel_rfl) (by kernel_rfl) (fun _ _ _ h => h) (yieldsIf_load_mid (by rfl) _ _ rfl _ _ rfl (bsL A) _ (fun _ h => h.1) hu23 rfl hiA) (by assumption) ?_
    simp only [Act.put, List.getElem_toArray, List.getElem_cons_succ, List.getElem_cons_zero, List.setIfInBounds_toArray, List.set_cons_succ, List.set_cons_zero]
    refine wpAnyH_take (i := 12) (v := ?_) rfl (by kernel_rfl) (by kernel_rfl) (by kernel_rfl) (fun _ _ _ h => h) (Or.inl ⟨by rfl, ?_⟩) (by assumption) ?_
    rotate_left
    · (intro w9 _; go_simp; try with_reducible rfl)
    simp only [Act.put, List.getElem_toArray, List.getElem_cons_succ, List.getElem_cons_zero, List.setIfInBounds_toArray, List.set_cons_succ, List.set_cons_zero]
    refine wpAnyH_take (i := 13) (v := ?_) rfl (by kernel_rfl) (by kernel_rfl) (by kernel_rfl) (fun _ _ _ h => h) (Or.inl ⟨by rfl, ?_⟩) (by assumption) ?_
    rotate_left
    · (intro w9 _; go_simp; try with_reducible rfl)
    simp only [Act.put, List.getElem_toArray, List.getElem_cons_succ, List.getElem_cons_zero, List.setIfInBounds_toArray, List.set_cons_succ, List.set_cons_zero]
    refine wpAnyH_ready (rs := [11]) (by kernel_rfl) (by simp) ?_
    refine AllReadyH.cons rfl (fun K hK => ?_) AllReadyH.nil
    go_simp
    refine (C2.out _).mono ?_
    rintro e w10 ⟨rfl, hb10⟩
    have R10 := Lib.hid (R9.out.step hb10)
    clear hb10
    refine hK.out _ _ R10.out.rng (fun hHeld => ?_)
    clear hK K
    refine wpAnyH_take (i := 14) (v := ?_) rfl (by kernel_rfl) (by kernel_rfl) (by kernel_rfl) (fun _ _ _ h => h) (Or.inl ⟨by rfl, ?_⟩) (by assumption) ?_
    rotate_left
    · (intro w9 _; go_simp; try with_reducible rfl)
    simp only [Act.put, List.getElem_toArray, List.getElem_cons_succ, List.getElem_cons_zero, List.setIfInBounds_toArray, List.set_cons_succ, List.set_cons_zero]
    refine wpAnyH_take (i := 15) (v := ?_) rfl (by kernel_rfl) (by kernel_rfl) (by kernel_rfl) (fun _ _ _ h => h) (Or.inl ⟨by rfl, ?_⟩) (by assumption) ?_
    rotate_left
    · (intro w9 _; go_simp; try with_reducible rfl)
    simp only [Act.put, List.getElem_toArray, List.getElem_cons_succ, List.getElem_cons_zero, List.setIfInBounds_toArray, List.set_cons_succ, List.set_cons_zero]
    refine wpAnyH_take (i := 16) (v := ?_) rfl (by kernel_rfl) (by kernel_rfl) (by kernel_rfl) (fun _ _ _ h => h) (Or.inl ⟨by rfl, ?_⟩) (by assumption) ?_
    rotate_left
    · (intro w9 _; go_simp; try with_reducible rfl)
    simp only [Act.put, List.getElem_toArray, List.getElem_cons_succ, List.getElem_cons_zero, List.setIfInBounds_toArray, List.set_cons_succ, List.set_cons_zero]
    refine wpAnyH_take (i := 17) (v := .agg (bsL A).toArray) rfl (by kernel_rfl) (by kernel_rfl) (by kernel_rfl) (fun _ _ _ h => h) (yieldsIf_load_mid (by rfl) _ _ rfl _ _ rfl (bsL A) _ (fun _ h => h.1) hu23 rfl hiA) (by assumption) ?_
    simp only [Act.put, List.getElem_toArray, List.getElem_cons_succ, List.getElem_cons_zero, List.setIfInBounds_toArray, List.set_cons_succ, List.set_cons_zero]
    refine wpAnyH_take (i := 18) (v := .agg (bsL C).toArray) rfl (by kernel_rfl) (by kernel_rfl) (by kernel_rfl) (fun _ _ _ h => h) (yieldsIf_load_mid (by rfl) _ _ rfl _ _ rfl (bsL C) _ (fun _ h => h.2.2) hu23 rfl hiC) (by assumption) ?_
    simp only [Act.put, List.getElem_toArray, List.getElem_cons_succ, List.getElem_cons_zero, List.setIfInBounds_toArray, List.set_cons_succ, List.set_cons_zero]
    refine wpAnyH_take (i := 20) (v := .agg (bsL A).toArray) rfl (by kernel_rfl) (by kernel_rfl) (by kernel_rfl) (fun _ _ _ h => h) (yieldsIf_load_mid (by rfl) _ _ rfl _ _ rfl (bsL A) _ (fun _ h => h.1) hu23 rfl hiA) (by assumption) ?_
    simp only [Act.put, List.getElem_toArray, List.getElem_cons_succ, List.getElem_cons_zero, List.setIfInBounds_toArray, List.set_cons_succ, List.set_cons_zero]
    refine wpAnyH_take (i := 21) (v := .agg (bsL C).toArray) rfl (by kernel_rfl) (by kernel_rfl) (by kernel_rfl) (fun _ _ _ h => h) (yieldsIf_load_mid (by rfl) _ _ rfl _ _ rfl (bsL C) _ (fun _ h => h.2.2) hu23 rfl hiC) (by assumption) ?_
    simp only [Act.put, List.getElem_toArray, List.getElem_cons_succ, List.getElem_cons_zero, List.setIfInBounds_toArray, List.set_cons_succ, List.set_cons_zero]
    refine wpAnyH_ready (rs := [19]) (by kernel_rfl) (by simp) ?_
    refine AllReadyH.cons rfl (fun K hK => ?_) AllReadyH.nil
    go_simp
    refine (C3.out _).mono ?_
    rintro e w11 ⟨rfl, hb11⟩
    have R11 := Lib.hid (R10.out.step hb11)
    clear hb11
    refine hK.out _ _ R11.out.rng (fun hHeld => ?_)
    clear hK K
    refine wpAnyH_ready (rs := [22]) (by kernel_rfl) (by simp) ?_
    refine AllReadyH.cons rfl (fun K hK => ?_) AllReadyH.nil
    go_simp
    refine (C4.out _).mono ?_
    rintro e w12 ⟨rfl, hb12⟩
    have R12 := Lib.hid (R11.out.step hb12)
    clear hb12
    refine hK.out _ _ R12.out.rng (fun hHeld => ?_)
    clear hK K
    refine wpAnyH_take (i := 23) (v := ?_) rfl (by kernel_rfl) (by kernel_rfl) (by kernel_rfl) (fun _ _ _ h => h) (Or.inl ⟨by rfl, ?_⟩) (by assumption) ?_
    rotate_left
    · (intro w9 _; go_simp; try with_reducible rfl)
    simp only [Act.put, List.getElem_toArray, List.getElem_cons_succ, List.getElem_cons_zero, List.setIfInBounds_toArray, List.set_cons_succ, List.set_cons_zero]
    refine wpAnyH_take (i := 24) (v := ?_) rfl (by kernel_rfl) (by kernel_rfl) (by kernel_rfl) (fun _ _ _ h => h) (Or.inl ⟨by rfl, ?_⟩) (by assumption) ?_
    rotate_left
    · (intro w9 _; go_simp; try with_reducible rfl)
    simp only [Act.put, List.getElem_toArray, List.getElem_cons_succ, List.getElem_cons_zero, List.setIfInBounds_toArray, List.set_cons_succ, List.set_cons_zero]
    refine wpAnyH_take (i := 25) (v := ?_) rfl (by kernel_rfl) (by kernel_rfl) (by kernel_rfl) (fun _ _ _ h => h) (Or.inl ⟨by rfl, ?_⟩) (by assumption) ?_
    rotate_left
    · (intro w9 _; go_simp; try with_reducible rfl)
    simp only [Act.put, List.getElem_toArray, List.getElem_cons_succ, List.getElem_cons_zero, List.setIfInBounds_toArray, List.set_cons_succ, List.set_cons_zero]
    refine wpAnyH_take (i := 26) (v := .agg (bsL A).toArray) rfl (by kernel_rfl) (by kernel_rfl) (by kernel_rfl) (fun _ _ _ h => h) (yieldsIf_load_mid (by rfl) _ _ rfl _ _ rfl (bsL A) _ (fun _ h => h.1) hu23 rfl hiA) (by assumption) ?_
    simp only [Act.put, List.getElem_toArray, List.getElem_cons_succ, List.getElem_cons_zero, List.setIfInBounds_toArray, List.set_cons_succ, List.set_cons_zero]
    refine wpAnyH_take (i := 28) (v := .agg (bsL A).toArray) rfl (by kernel_rfl) (by kernel_rfl) (by kernel_rfl) (fun _ _ _ h => h) (yieldsIf_load_mid (by rfl) _ _ rfl _ _ rfl (bsL A) _ (fun _ h => h.1) hu23 rfl hiA) (by assumption) ?_
    simp only [Act.put, List.getElem_toArray, List.getElem_cons_succ, List.getElem_cons_zero, List.setIfInBounds_toArray, List.set_cons_succ, List.set_cons_zero]
    refine wpAnyH_take (i := 29) (v := ?_) rfl (by kernel_rfl) (by kernel_rfl) (by kernel_rfl) (fun _ _ _ h => h) (Or.inl ⟨by rfl, ?_⟩) (by assumption) ?_
    rotate_left
    · (intro w9 _; go_simp; try with_reducible rfl)
    simp only [Act.put, List.getElem_toArray, List.getElem_cons_succ, List.getElem_cons_zero, List.setIfInBounds_toArray, List.set_cons_succ, List.set_cons_zero]
    refine wpAnyH_take (i := 30) (v := ?_) rfl (by kernel_rfl) (by kernel_rfl) (by kernel_rfl) (fun _ _ _ h => h) (Or.inl ⟨by rfl, ?_⟩) (by assumption) ?_
    rotate_left
    · (intro w9 _; go_simp; try with_reducible rfl)
    simp only [Act.put, List.getElem_toArray, List.getElem_cons_succ, List.getElem_cons_zero, List.setIfInBounds_toArray, List.set_cons_succ, List.set_cons_zero]
    refine wpAnyH_ready (rs := [27]) (by kernel_rfl) (by simp) ?_
    refine AllReadyH.cons rfl (fun K hK => ?_) AllReadyH.nil
    go_simp
    refine (Z1.out _).mono ?_
    rintro e w13 ⟨rfl, hb13⟩
    have R13 := Lib.hid (R12.out.step hb13)
    clear hb13
    refine hK.out _ _ R13.out.rng (fun hHeld => ?_)
    clear hK K
    refine wpAnyH_take (i := 31) (v := ?_) rfl (by kernel_rfl) (by kernel_rfl) (by kernel_rfl) (fun _ _ _ h => h) (Or.inl ⟨by rfl, ?_⟩) (by assumption) ?_
    rotate_left
    · (intro w9 _; go_simp; try with_reducible rfl)
    simp only [Act.put, List.getElem_toArray, List.getElem_cons_succ, List.getElem_cons_zero, List.setIfInBounds_toArray, List.set_cons_succ, List.set_cons_zero]
    refine wpAnyH_take (i := 32) (v := ?_) rfl (by kernel_rfl) (by kernel_rfl) (by kernel_rfl) (fun _ _ _ h => h) (Or.inl ⟨by rfl, ?_⟩) (by assumption) ?_
    rotate_left
    · (intro w9 _; go_simp; try with_reducible rfl)
    simp only [Act.put, List.getElem_toArray, List.getElem_cons_succ, List.getElem_cons_zero, List.setIfInBounds_toArray, List.set_cons_succ, List.set_cons_zero]
    refine wpAnyH_take (i := 33) (v := ?_) rfl (by kernel_rfl) (by kernel_rfl) (by kernel_rfl) (fun _ _ _ h => h) (Or.inl ⟨by rfl, ?_⟩) (by assumption) ?_
    rotate_left
    · (intro w9 _; go_simp; try with_reducible rfl)
    simp only [Act.put, List.getElem_toArray, List.getElem_cons_succ, List.getElem_cons_zero, List.setIfInBounds_toArray, List.set_cons_succ, List.set_cons_zero]
    refine wpAnyH_done (by kernel_rfl) ?_ _
    go_wp2_with fail
    go_ret
    exact ⟨ret_bool (by simp), R13.out.2.2.2⟩

set_option maxRecDepth 100000 in
theorem contract (H : Type) (enc : TypeId × Value → H) (W : World) (base : Nat) (args : Array Value) (ds gs : List (DataW H)) (before : List MemPlace)
    (hval : ∀ (j : Nat) t v, Try.f6.params[j]? = some t → args[j]? = some v → Value.okWide Try.prog W .any base t v)
    (hW : DataW.Whole enc Try.prog Try.f6.params.toList Rows.msgidComparesSpec.vars false W args.toList ds gs before) (_hL : laidMetH Try.prog Rows.msgidComparesRow.laid W) (_hs : W.ShapedOpen Try.prog) :
    Calls Try.prog 6 args W fun e W' => ∃ v, e = .returned v ∧ Rows.msgidComparesSpec.post enc Try.prog Try.f6 false true false false W args v W' := by
  have hW' := hW
  obtain ⟨p, q, hA0, hV, rfl, hfz, hnd⟩ := hW
  have hA : DataW.TrodAll enc Try.prog W 0 (fun _ => true) true Try.f6.params.toList args.toList ds p := hA0
  rw [Try.params6] at hA hval
  obtain ⟨v0, vs0, d0, ds0, p0, q0, hargs, rfl, rfl, h0, r0⟩ := trodAll_cons hA
  obtain ⟨v1, vs1, d1, ds1, p1, q1, rfl, rfl, rfl, h1, r1⟩ := trodAll_cons r0
  obtain ⟨v2, vs2, d2, ds2, p2, q2, rfl, rfl, rfl, h2, r2⟩ := trodAll_cons r1
  obtain ⟨rfl, rfl, rfl⟩ := trodAll_nil r2
  obtain rfl : args = #[v0, v1, v2] := by cases args; simp_all
  obtain ⟨rfl, rfl⟩ := trodVars_none hV
  have k0 := h0
  have lt0 : ∀ x ∈ p0, x.block < W.heap.size := by obtain ⟨m, hm⟩ := k0; exact DataW.trod_lt m _ _ _ hm
  obtain ⟨l0, rfl, n0, b0⟩ := arr_open Try.underlying23 (by kernel_rfl) (hval 0 23 v0 rfl rfl) h0
  have k1 := h1
  have lt1 : ∀ x ∈ p1, x.block < W.heap.size := by obtain ⟨m, hm⟩ := k1; exact DataW.trod_lt m _ _ _ hm
  obtain ⟨l1, rfl, n1, b1⟩ := arr_open Try.underlying23 (by kernel_rfl) (hval 1 23 v1 rfl rfl) h1
  have k2 := h2
  have lt2 : ∀ x ∈ p2, x.block < W.heap.size := by obtain ⟨m, hm⟩ := k2; exact DataW.trod_lt m _ _ _ hm
  obtain ⟨l2, rfl, n2, b2⟩ := arr_open Try.underlying37 (by kernel_rfl) (hval 2 37 v2 rfl rfl) h2
  clear hA0
  refine (walk l0 l1 n0 b0 n1 b1 l2 n2 b2 W).mono fun e W' ⟨he, bel⟩ => ?_
  subst he
  exact ⟨_, rfl, _, _, _, [], _, [], hW', trodAll_mk1 (shut_bool Try.underlying4 _), (trodAll_cons_mk (Below.trod laidOut (by kernel_rfl) (of_decide_eq_true (by kernel_rfl)) k0 bel lt0) (trodAll_cons_mk (Below.trod laidOut (by kernel_rfl) (of_decide_eq_true (by kernel_rfl)) k1 bel lt1) (trodAll_cons_mk (Below.trod laidOut (by kernel_rfl) (of_decide_eq_true (by kernel_rfl)) k2 bel lt2) trodAll_mk0))), rfl, bel.frame _, fun h => by cases h⟩

theorem laid_met (os : Os) : laidMet Try.prog Rows.msgidComparesRow.laid ((laidWorld os).forCall (fun _ _ => 0) ⟨#[], #[.agg (bsC zD), .agg (bsC zD), .agg (bsC [0, 0])], []⟩).memory :=
  laidMet_of_run' 8 (by kernel_rfl) (by kernel_rfl)
theorem reads (os : Os) {H : Type} (enc : TypeId × Value → H) : ∃ places, DataW.whole enc Try.prog ((laidWorld os).forCall (fun _ _ => 0) ⟨#[], #[.agg (bsC zD), .agg (bsC zD), .agg (bsC [0, 0])], []⟩).memory Try.f6.params.toList Rows.msgidComparesSpec.vars false (#[.agg (bsC zD), .agg (bsC zD), .agg (bsC [0, 0])] : Array Value).toList 8 = some ([.agg (zD.map fun z => .lit (.int .u8 z)), .agg (zD.map fun z => .lit (.int .u8 z)), .agg ([0, 0].map fun z => .lit (.int .u8 z))], [], places) :=
  ⟨[], by kernel_rfl⟩

set_option maxRecDepth 100000 in
theorem lifted (os : Os) (started : os.Started) (H : Type) (enc : TypeId × Value → H) (F : Stop.Interp) :
    ReturnsInHanded {} Try.checked os 6 .any ((OpenSpec.ofChange Rows.msgidComparesSpec).preRow enc Try.prog Try.f6 Rows.msgidComparesRow.domain false Rows.msgidComparesRow.laid) (((OpenSpec.ofChange Rows.msgidComparesSpec).at F).post enc Try.prog Try.f6 false true false false) := by
  obtain ⟨places, hx⟩ := reads os enc
  refine returnsInHanded_of_row (C := Try.checked) (s := OpenSpec.ofChange Rows.msgidComparesSpec) own started (by kernel_rfl) Try.func6
    (witness_row_at (enc := enc) (C := Try.checked) false (laidWorld os) #[.agg (bsC zD), .agg (bsC zD), .agg (bsC [0, 0])] rfl (by kernel_rfl) (by kernel_rfl) (by kernel_rfl)
      (OpenSpec.preRow_of_cond 8 hx (by kernel_rfl) (fun k hk => by cases hk) (by kernel_rfl) (laid_met os))) ?_
  intro W base args ds gs before hval hW _ _ _ hL hs _
  exact contract H enc W base args ds gs before hval hW hL hs

theorem said : Rows.MsgidComparesSaid :=
  OpenClaim.holds_of_cond 6 Try.f6 rfl rfl rfl rfl rfl rfl rfl ⟨rfl, rfl, rfl, rfl, rfl⟩ rfl rfl rfl rfl rfl (by kernel_rfl) Try.func6 (by kernel_rfl)
    (of_decide_eq_true (by kernel_rfl)) (by unfold Func.isWrapper; first | (rw [if_pos (by decide +kernel)]; kernel_rfl) | (rw [if_neg (by decide +kernel)]; exact ⟨rfl, rfl⟩))
    (fun os started H enc _ F => by rw [OpenClaim.pre_eq_preRow]; exact lifted os started H enc F)

end Go.Proofs.Ytcpiiafnifkahaa.msgidComparesLaw
namespace Go.Proofs.Ytcpiiafnifkahaa

/-- THE STATEMENT OF MsgidCompares -/
theorem msgidCompares_said : Rows.MsgidComparesSaid := msgidComparesLaw.said
#print axioms msgidCompares_said
end Go.Proofs.Ytcpiiafnifkahaa
