/- The examples of the chapter: known answers true, and writes nothing that was there. -/
import Derived.Test.YtcofplbdapjdjaaTrims
namespace Mid
def kId (k : Nat) (h : k < 256) : Id := ⟨k :: List.replicate 31 0, by simp, by
  intro x hx
  rcases List.mem_cons.1 hx with rfl | hx
  · exact h
  · rw [List.eq_of_mem_replicate hx]; omega⟩
def kA : Id := kId 1 (by omega)
def kB : Id := kId 2 (by omega)
def kC : Id := kId 3 (by omega)
theorem kcut : cutL [kA, kB, kC] 2 = [kA, kC] := rfl
theorem ktr : isTr [kA, kC] [kA, kB, kC] = true := by
  unfold isTr
  rw [if_neg (by simp), show ([kA, kC] : List Id).length = 2 from rfl, kcut]
  simp
theorem kE : trimE [kA, kB, kC] ((2 : Nat) : Int) = ([kA, kC], 0) := by rw [trimE_ok _ 2 (by omega) (by omega) (by decide), kcut]
end Mid
namespace Go.Proofs.Ytcofplbdapjdjaa
open Go.RowKit

theorem run_build_A (w : World) : (Instr.build 46 #[(0, .int .u8 1)]).run Try.prog w = .ok (.agg (encI Mid.kA).toArray) w := by kernel_rfl
theorem run_build_B (w : World) : (Instr.build 46 #[(0, .int .u8 2)]).run Try.prog w = .ok (.agg (encI Mid.kB).toArray) w := by kernel_rfl
theorem run_build_C (w : World) : (Instr.build 46 #[(0, .int .u8 3)]).run Try.prog w = .ok (.agg (encI Mid.kC).toArray) w := by kernel_rfl
theorem run_bs3 (w : World) : (Instr.buildSlice 27 3 #[(0, .agg (encI Mid.kA).toArray), (1, .agg (encI Mid.kB).toArray), (2, .agg (encI Mid.kC).toArray)]).run Try.prog w = .ok (.slice (some ⟨w.heap.size, 0, none⟩) 3 3) (w.alloc (.cells (flatI [Mid.kA, Mid.kB, Mid.kC]).toArray 46)) := by kernel_rfl
theorem run_bs2 (w : World) : (Instr.buildSlice 27 2 #[(0, .agg (encI Mid.kA).toArray), (1, .agg (encI Mid.kC).toArray)]).run Try.prog w = .ok (.slice (some ⟨w.heap.size, 0, none⟩) 2 2) (w.alloc (.cells (flatI [Mid.kA, Mid.kC]).toArray 46)) := by kernel_rfl

/-- a build of one identity, whatever its number -/
theorem wp_build_of {x : Mid.Id} {k : Int} (hr : ∀ w, (Instr.build 46 #[(0, .int .u8 k)]).run Try.prog w = .ok (.agg (encI x).toArray) w)
    {ops : Array Oper} {rest : List Oper} {o : Oper} {a : Act} {w : World} {Q : Exit → Act → World → Prop} (hw : Region.wanted o (yielded ops a.tmps) = true) (y : Operand) (ho : o.op = .build 46 #[(0, y)]) (hx : a.eval y = .int .u8 k)
    (hk : wpList Try.prog ops Q rest (a.put o.dst (.agg (encI x).toArray)) w) : wpList Try.prog ops Q (o :: rest) a w :=
  wpList_step fun K hK => by
    have hrun := hr w
    simp only [hw, if_true]
    unfold Oper.wp
    simp [execOp, ho, hx, hrun, Result.andThen]
    exact hK _ _ hk
theorem sto_id {ops : Array Oper} {rest : List Oper} {o : Oper} {a : Act} {w : World} {Q : Exit → Act → World → Prop} {T : TypeId} (hi : (Try.prog.info? T).map (·.size) = some 32) (g : Nat) (z : Mid.Id) (old : Array Value) (h : Blk w g T old) (hold : old.size = 32) (hgd : o.guard = none) (x y : Operand) (ho : o.op = .store T x y)
    (hx : a.eval x = .pointer (some ⟨g, 0, none⟩)) (hy : a.eval y = .agg (encI z).toArray) (hk : ∀ w', Hid (w' = w.setRow g (encI z).toArray) → wpList Try.prog ops Q rest (a.put o.dst undef) w') : wpList Try.prog ops Q (o :: rest) a w :=
  wpList_store_row hgd _ x y ho g _ hx hy _ _ h (by rw [List.size_toArray, encI_len]; exact hi) (by rw [hold, List.size_toArray, encI_len]) (all_oneCell_toArray (encI_one z)) (hk _ (Lib.hid rfl))
theorem ids_blk {W : World} {g : Nat} {ls : List Mid.Id} {T : TypeId} (h : Blk W g T (flatI ls).toArray) (hm : ls.length ≤ maxLen) : Ids W (.slice (some ⟨g, 0, none⟩) ls.length ls.length) ls := by
  refine ⟨_, ls.length, rfl, Nat.le_refl _, hm, (fun h => by cases h), .inr ⟨g, 0, rfl, fun j hj i v hv => ?_⟩⟩
  have hi : i < 32 := by
    have := (List.getElem?_eq_some_iff.1 hv).1
    rwa [encI_len] at this
  rw [Nat.zero_add, h.cell, List.getElem?_toArray, flatI_get ls j i hj hi]
  exact hv
theorem blk3 (w : World) (T : TypeId) (a b c : Array Value) : Blk (((w.alloc (.cells a T)).alloc (.cells b T)).alloc (.cells c T)) w.heap.size T a ∧ Blk (((w.alloc (.cells a T)).alloc (.cells b T)).alloc (.cells c T)) (w.heap.size + 1) T b ∧
    Blk (((w.alloc (.cells a T)).alloc (.cells b T)).alloc (.cells c T)) (w.heap.size + 2) T c ∧ Below w.heap.size w (((w.alloc (.cells a T)).alloc (.cells b T)).alloc (.cells c T)) := by
  have h1 : (w.alloc (.cells a T)).heap.size = w.heap.size + 1 := by simp
  have h2 : ((w.alloc (.cells a T)).alloc (.cells b T)).heap.size = w.heap.size + 2 := by simp
  refine ⟨((Blk.fresh w T a).more _).more _, ?_, ?_, (((Below.refl _ w).alloc (Nat.le_refl _) _).alloc (by omega) _).alloc (by omega) _⟩
  · have := (Blk.fresh (w.alloc (.cells a T)) T b).more (.cells c T)
    rwa [h1] at this
  · have := Blk.fresh ((w.alloc (.cells a T)).alloc (.cells b T)) T c
    rwa [h2] at this
theorem wp_bs_of {xs : Array (Nat × Value)} {n : Nat} {ls : List Mid.Id} (hr : ∀ w, (Instr.buildSlice 27 n xs).run Try.prog w = .ok (.slice (some ⟨w.heap.size, 0, none⟩) n n) (w.alloc (.cells (flatI ls).toArray 46)))
    {ops : Array Oper} {rest : List Oper} {o : Oper} {a : Act} {w : World} {Q : Exit → Act → World → Prop} (hgd : o.guard = none) (ys : Array (Nat × Operand)) (ho : o.op = .buildSlice 27 n ys) (hx : (ys.map fun p => (p.1, a.eval p.2)) = xs)
    (hk : wpList Try.prog ops Q rest (a.put o.dst (.slice (some ⟨w.heap.size, 0, none⟩) n n)) (w.alloc (.cells (flatI ls).toArray 46))) : wpList Try.prog ops Q (o :: rest) a w := by
  refine wpList_plain hgd fun K hK => ?_
  have hrun := hr w
  rw [← hx] at hrun
  unfold Oper.wp
  simp [execOp, ho, hrun, Result.andThen]
  exact hK _ _ hk
theorem step_bs_of {xs : Array (Nat × Value)} {n : Nat} {ls : List Mid.Id} (hr : ∀ w, (Instr.buildSlice 27 n xs).run Try.prog w = .ok (.slice (some ⟨w.heap.size, 0, none⟩) n n) (w.alloc (.cells (flatI ls).toArray 46)))
    {ops : Array Oper} {o : Oper} {a : Act} {w : World} {K : Act → World → Prop} {Q : Exit → Act → World → Prop} {E : Prop} (hw : Region.wanted o (yielded ops a.tmps) = true) (ys : Array (Nat × Operand)) (ho : o.op = .buildSlice 27 n ys) (hx : (ys.map fun p => (p.1, a.eval p.2)) = xs)
    (hk : K (a.put o.dst (.slice (some ⟨w.heap.size, 0, none⟩) n n)) (w.alloc (.cells (flatI ls).toArray 46))) : if Region.wanted o (yielded ops a.tmps) = true then Oper.wp Try.prog o a w K Q else E := by
  rw [if_pos hw]
  have hrun := hr w
  rw [← hx] at hrun
  unfold Oper.wp
  simp [execOp, ho, hrun, Result.andThen]
  exact hk

set_option maxRecDepth 100000 in
set_option maxHeartbeats 1000000 in
theorem known_any (w : World) : Calls Try.prog 12 #[] w fun e w' => e = .returned (.bool true) ∧ Below w.heap.size w w' := by
  have HBA := Lib.hid run_build_A; have HBB := Lib.hid run_build_B; have HBC := Lib.hid run_build_C
  have H3 := Lib.hid run_bs3; have H2 := Lib.hid run_bs2
  have HT := Lib.hid (fun v W h => trimE_any v [Mid.kA, Mid.kB, Mid.kC] 2 W (by decide) h)
  have HI := Lib.hid (fun v u W h1 h2 => isTrimmed_any v u [Mid.kA, Mid.kC] [Mid.kA, Mid.kB, Mid.kC] W (by decide) (by decide) h1 h2)
  rw [Mid.ktr] at HI
  have HE := Lib.hid Mid.kE
  have heA := fun w => eq_enc (t := 46) Try.underlying46 Mid.kA Mid.kA w
  have heC := fun w => eq_enc (t := 46) Try.underlying46 Mid.kC Mid.kC w
  rw [decide_eq_true rfl] at heA heC
  have HZ := Lib.hid (blk3 w 46 (bsC zD) (bsC zD) (bsC zD))
  have hiA := info_enc infoId Mid.kA; have hiB := info_enc infoId Mid.kB; have hiC := info_enc infoId Mid.kC
  generalize Mid.kA = x at *
  generalize Mid.kB = y at *
  generalize Mid.kC = z at *
  have hu23 : Try.prog.underlying 46 = some (.array 32 5) := Try.underlying46
  go_enter Try.func12, Try.ntmps12
  go_upto_region 2 with (first
    | (refine wp_build_of HBA.out (by rfl) _ (by rfl) (by rfl) ?_)
    | (refine wp_build_of HBB.out (by rfl) _ (by rfl) (by rfl) ?_)
    | (refine wp_build_of HBC.out (by rfl) _ (by rfl) (by rfl) ?_)
    | (refine sto_id infoId w.heap.size x _ HZ.out.1 (by rfl) (by rfl) _ _ (by rfl) (by rfl) (by rfl) ?_; intro w1 hw1)
    | (refine sto_id infoId (w.heap.size + 1) y _ (show Blk w1 (w.heap.size + 1) 46 (bsC zD) by rw [hw1.out]; exact HZ.out.2.1.far (by omega) _) (by rfl) (by rfl) _ _ (by rfl) (by rfl) (by rfl) ?_; intro w2 hw2)
    | (refine sto_id infoId (w.heap.size + 2) z _ (show Blk w2 (w.heap.size + 2) 46 (bsC zD) by rw [hw2.out, hw1.out]; exact (HZ.out.2.2.1.far (by omega) _).far (by omega) _) (by rfl) (by rfl) _ _ (by rfl) (by rfl) (by rfl) ?_; intro w3 hw3))
  have KX := Lib.hid (show Blk w3 w.heap.size 46 (encI x).toArray by rw [hw3.out, hw2.out, hw1.out]; exact ((HZ.out.1.row _).far (by omega) _).far (by omega) _)
  have KY := Lib.hid (show Blk w3 (w.heap.size + 1) 46 (encI y).toArray by rw [hw3.out, hw2.out, hw1.out]; exact ((HZ.out.2.1.far (by omega) _).row _).far (by omega) _)
  have KZ := Lib.hid (show Blk w3 (w.heap.size + 2) 46 (encI z).toArray by rw [hw3.out, hw2.out, hw1.out]; exact ((HZ.out.2.2.1.far (by omega) _).far (by omega) _).row _)
  have B3 := Lib.hid (show Below w.heap.size w w3 by rw [hw3.out, hw2.out, hw1.out]; exact below_row (below_row (below_row HZ.out.2.2.2 _ (by omega) _) _ (by omega) _) _ (by omega) _)
  clear hw1 hw2 hw3 HZ
  obtain ⟨g0, hg0⟩ : ∃ g0, g0 = w.heap.size := ⟨_, rfl⟩
  go_wp2_with (first
    | (refine wpList_load_mid rfl _ _ rfl w.heap.size 0 (by rfl) (encI x) _ (encBlk KX.out) hu23 rfl hiA ?_)
    | (refine wpList_load_mid rfl _ _ rfl (w.heap.size + 1) 0 (by rfl) (encI y) _ (encBlk KY.out) hu23 rfl hiB ?_)
    | (refine wpList_load_mid rfl _ _ rfl (w.heap.size + 2) 0 (by rfl) (encI z) _ (encBlk KZ.out) hu23 rfl hiC ?_)
    | (refine wp_bs_of H3.out rfl _ rfl (by simp only [List.map_toArray, List.map_cons, List.map_nil]; rfl) ?_))
  have BA := Lib.hid (B3.out.alloc B3.out.size (.cells (flatI [x, y, z]).toArray 46))
  have KXA := Lib.hid (KX.out.more (.cells (flatI [x, y, z]).toArray 46)); have KYA := Lib.hid (KY.out.more (.cells (flatI [x, y, z]).toArray 46)); have KZA := Lib.hid (KZ.out.more (.cells (flatI [x, y, z]).toArray 46))
  refine (HT.out _ _ (ids_blk (ls := [x, y, z]) (Blk.fresh w3 _ _) (by simp [maxLen]))).mono ?_
  rintro e w4 ⟨v4, l4, q4, rfl, hE4, hI4, hb4⟩
  have hEE := hE4.symm.trans HE.out
  obtain ⟨rfl, rfl⟩ := Prod.mk.inj hEE
  have B4 := Lib.hid (BA.out.trans (hb4.mono BA.out.size))
  have KX4 := Lib.hid (KXA.out.keep hb4 KXA.out.lt); have KY4 := Lib.hid (KYA.out.keep hb4 KYA.out.lt); have KZ4 := Lib.hid (KZA.out.keep hb4 KZA.out.lt)
  have HI4 := Lib.hid hI4
  obtain ⟨p, cp, rfl, hlc, hcm, _, hcells⟩ := hI4
  rcases hcells with h9 | ⟨b, off, rfl, hc⟩
  · cases h9
  have HC4 := Lib.hid hc
  have hcp2 : (2 : Int) ≤ (cp : Int) := by have : 2 ≤ cp := hlc; omega
  clear hE4 hEE hb4 hc hlc hcm BA KXA KYA KZA KX KY KZ B3
  rw [show ([x, z] : List Mid.Id).length = 2 from rfl]
  go_wp2_with fail
  have HS := Lib.hid (fun W (hb : Below w4.heap.size w4 W) => (show W.rangeAt b off (encI x) ∧ W.rangeAt b (off + 32) (encI z) ∧ W.rangeAt w.heap.size 0 (encI x) ∧ W.rangeAt (w.heap.size + 1) 0 (encI y) ∧ W.rangeAt (w.heap.size + 2) 0 (encI z) from
    ⟨by have := (HC4.out.keep hb (HC4.out.lt (by simp))).range 0 (by simp); simpa using this, by have := (HC4.out.keep hb (HC4.out.lt (by simp))).range 1 (by simp); simpa using this, encBlk (KX4.out.keep hb KX4.out.lt), encBlk (KY4.out.keep hb KY4.out.lt), encBlk (KZ4.out.keep hb KZ4.out.lt)⟩))
  refine wp_region_held_drew (S := (fun w' => w'.rangeAt b off (encI x) ∧ w'.rangeAt b (off + 32) (encI z) ∧ w'.rangeAt w.heap.size 0 (encI x) ∧ w'.rangeAt (w.heap.size + 1) 0 (encI y) ∧ w'.rangeAt (w.heap.size + 2) 0 (encI z))) (by kernel_rfl) ?_ (fun hHeld => ?_)
  · exact (HS.out _ (Below.refl _ w4).drew)
  refine wpAnyH_take (i := 0) (v := ?_) rfl (by kernel_rfl) (by kernel_rfl) (by kernel_rfl) (fun _ _ _ h => h) (Or.inl ⟨by rfl, ?_⟩) (by assumption) ?_
  rotate_left
  · (intro w9 _; go_simp; try with_reducible rfl)
  simp only [Act.put, List.getElem_toArray, List.getElem_cons_zero, List.setIfInBounds_toArray, List.set_cons_succ, List.set_cons_zero]
  refine wpAnyH_take (i := 1) (v := ?_) rfl (by kernel_rfl) (by kernel_rfl) (by kernel_rfl) (fun _ _ _ h => h) (Or.inl ⟨by rfl, ?_⟩) (by assumption) ?_
  rotate_left
  · (intro w9 _; go_simp; try with_reducible rfl)
  simp only [Act.put, List.getElem_toArray, List.getElem_cons_succ, List.getElem_cons_zero, List.setIfInBounds_toArray, List.set_cons_succ, List.set_cons_zero]
  refine wpAnyH_take (i := 2) (v := ?_) rfl (by kernel_rfl) (by kernel_rfl) (by kernel_rfl) (fun _ _ _ h => h) (Or.inl ⟨by rfl, ?_⟩) (by assumption) ?_
  rotate_left
  · (intro w9 _; go_simp; try with_reducible rfl)
  simp only [Act.put, List.getElem_toArray, List.getElem_cons_succ, List.getElem_cons_zero, List.setIfInBounds_toArray, List.set_cons_succ, List.set_cons_zero]
  refine wpAnyH_take (i := 3) (v := ?_) rfl (by kernel_rfl) (by kernel_rfl) (by kernel_rfl) (fun _ _ _ h => h) (Or.inl ⟨by rfl, ?_⟩) (by assumption) ?_
  rotate_left
  · (intro w9 _; go_simp; try with_reducible rfl)
  simp only [Act.put, List.getElem_toArray, List.getElem_cons_succ, List.getElem_cons_zero, List.setIfInBounds_toArray, List.set_cons_succ, List.set_cons_zero]
  refine wpAnyH_take (i := 4) (v := ?_) rfl (by kernel_rfl) (by kernel_rfl) (by kernel_rfl) (fun _ _ _ h => h) (Or.inl ⟨by rfl, ?_⟩) (by assumption) ?_
  rotate_left
  · (intro w9 _; go_simp; try with_reducible rfl)
  simp only [Act.put, List.getElem_toArray, List.getElem_cons_succ, List.getElem_cons_zero, List.setIfInBounds_toArray, List.set_cons_succ, List.set_cons_zero]
  refine wpAnyH_take (i := 5) (v := ?_) rfl (by kernel_rfl) (by kernel_rfl) (by kernel_rfl) (fun _ _ _ h => h) (Or.inl ⟨by rfl, ?_⟩) (by assumption) ?_
  rotate_left
  · (intro w9 _; go_simp; try with_reducible rfl)
  simp only [Act.put, List.getElem_toArray, List.getElem_cons_succ, List.getElem_cons_zero, List.setIfInBounds_toArray, List.set_cons_succ, List.set_cons_zero]
  refine wpAnyH_take (i := 6) (v := ?_) rfl (by kernel_rfl) (by kernel_rfl) (by kernel_rfl) (fun _ _ _ h => h) (Or.inl ⟨by rfl, ?_⟩) (by assumption) ?_
  rotate_left
  · (intro w9 _; go_simp; try with_reducible rfl)
  simp only [Act.put, List.getElem_toArray, List.getElem_cons_succ, List.getElem_cons_zero, List.setIfInBounds_toArray, List.set_cons_succ, List.set_cons_zero]
  refine wpAnyH_take (i := 7) (v := ?_) rfl (by kernel_rfl) (by kernel_rfl) (by kernel_rfl) (fun _ _ _ h => h) (Or.inl ⟨by rfl, ?_⟩) (by assumption) ?_
  rotate_left
  · (intro w9 _; go_simp; try with_reducible rfl)
  simp only [Act.put, List.getElem_toArray, List.getElem_cons_succ, List.getElem_cons_zero, List.setIfInBounds_toArray, List.set_cons_succ, List.set_cons_zero]
  refine wpAnyH_take (i := 8) (v := ?_) rfl (by kernel_rfl) (by kernel_rfl) (by kernel_rfl) (fun _ _ _ h => h) (Or.inl ⟨by rfl, ?_⟩) (by assumption) ?_
  rotate_left
  · (intro w9 _; go_simp; try with_reducible rfl)
  simp only [Act.put, List.getElem_toArray, List.getElem_cons_succ, List.getElem_cons_zero, List.setIfInBounds_toArray, List.set_cons_succ, List.set_cons_zero]
  refine wpAnyH_take (i := 9) (v := ?_) rfl (by kernel_rfl) (by kernel_rfl) (by kernel_rfl) (fun _ _ _ h => h) (Or.inl ⟨by rfl, ?_⟩) (by assumption) ?_
  rotate_left
  · (intro w9 _; go_simp; try with_reducible rfl)
  simp only [Act.put, List.getElem_toArray, List.getElem_cons_succ, List.getElem_cons_zero, List.setIfInBounds_toArray, List.set_cons_succ, List.set_cons_zero]
  refine wpAnyH_take (i := 10) (v := .agg (encI x).toArray) rfl (by kernel_rfl) (by kernel_rfl) (by kernel_rfl) (fun _ _ _ h => h) (yieldsIf_load_mid (by rfl) _ _ rfl _ _ rfl (encI x) _ (fun _ h => h.1) hu23 rfl hiA) (by assumption) ?_
  simp only [Act.put, List.getElem_toArray, List.getElem_cons_succ, List.getElem_cons_zero, List.setIfInBounds_toArray, List.set_cons_succ, List.set_cons_zero]
  refine wpAnyH_take (i := 11) (v := .agg (encI x).toArray) rfl (by kernel_rfl) (by kernel_rfl) (by kernel_rfl) (fun _ _ _ h => h) (yieldsIf_load_mid (by rfl) _ _ rfl _ _ rfl (encI x) _ (fun _ h => h.2.2.1) hu23 rfl hiA) (by assumption) ?_
  simp only [Act.put, List.getElem_toArray, List.getElem_cons_succ, List.getElem_cons_zero, List.setIfInBounds_toArray, List.set_cons_succ, List.set_cons_zero]
  refine wpAnyH_take (i := 12) (v := ?_) rfl (by kernel_rfl) (by kernel_rfl) (by kernel_rfl) (fun _ _ _ h => h) (Or.inl ⟨by rfl, ?_⟩) (by assumption) ?_
  rotate_left
  · (intro w9 _; go_simp; try with_reducible rfl)
  simp only [Act.put, List.getElem_toArray, List.getElem_cons_succ, List.getElem_cons_zero, List.setIfInBounds_toArray, List.set_cons_succ, List.set_cons_zero]
  refine wpAnyH_take (i := 13) (v := ?_) rfl (by kernel_rfl) (by kernel_rfl) (by kernel_rfl) (fun _ _ _ h => h) (Or.inl ⟨by rfl, ?_⟩) (by assumption) ?_
  rotate_left
  · (intro w9 _; go_simp; try with_reducible rfl)
  simp only [Act.put, List.getElem_toArray, List.getElem_cons_succ, List.getElem_cons_zero, List.setIfInBounds_toArray, List.set_cons_succ, List.set_cons_zero]
  refine wpAnyH_take (i := 14) (v := ?_) rfl (by kernel_rfl) (by kernel_rfl) (by kernel_rfl) (fun _ _ _ h => h) (Or.inl ⟨by rfl, ?_⟩) (by assumption) ?_
  rotate_left
  · (intro w9 _; go_simp; try with_reducible rfl)
  simp only [Act.put, List.getElem_toArray, List.getElem_cons_succ, List.getElem_cons_zero, List.setIfInBounds_toArray, List.set_cons_succ, List.set_cons_zero]
  refine wpAnyH_take (i := 15) (v := ?_) rfl (by kernel_rfl) (by kernel_rfl) (by kernel_rfl) (fun _ _ _ h => h) (Or.inl ⟨by rfl, ?_⟩) (by assumption) ?_
  rotate_left
  · (intro w9 _; go_simp; try with_reducible rfl)
  simp only [Act.put, List.getElem_toArray, List.getElem_cons_succ, List.getElem_cons_zero, List.setIfInBounds_toArray, List.set_cons_succ, List.set_cons_zero]
  refine wpAnyH_take (i := 16) (v := ?_) rfl (by kernel_rfl) (by kernel_rfl) (by kernel_rfl) (fun _ _ _ h => h) (Or.inl ⟨by rfl, ?_⟩) (by assumption) ?_
  rotate_left
  · (intro w9 _; go_simp; try with_reducible rfl)
  simp only [Act.put, List.getElem_toArray, List.getElem_cons_succ, List.getElem_cons_zero, List.setIfInBounds_toArray, List.set_cons_succ, List.set_cons_zero]
  refine wpAnyH_take (i := 17) (v := .agg (encI z).toArray) rfl (by kernel_rfl) (by kernel_rfl) (by kernel_rfl) (fun _ _ _ h => h) (yieldsIf_load_mid (by rfl) _ _ rfl _ _ rfl (encI z) _ (fun _ h => h.2.1) hu23 rfl hiC) (by assumption) ?_
  simp only [Act.put, List.getElem_toArray, List.getElem_cons_succ, List.getElem_cons_zero, List.setIfInBounds_toArray, List.set_cons_succ, List.set_cons_zero]
  refine wpAnyH_take (i := 18) (v := .agg (encI z).toArray) rfl (by kernel_rfl) (by kernel_rfl) (by kernel_rfl) (fun _ _ _ h => h) (yieldsIf_load_mid (by rfl) _ _ rfl _ _ rfl (encI z) _ (fun _ h => h.2.2.2.2) hu23 rfl hiC) (by assumption) ?_
  simp only [Act.put, List.getElem_toArray, List.getElem_cons_succ, List.getElem_cons_zero, List.setIfInBounds_toArray, List.set_cons_succ, List.set_cons_zero]
  refine wpAnyH_take (i := 19) (v := ?_) rfl (by kernel_rfl) (by kernel_rfl) (by kernel_rfl) (fun _ _ _ h => h) (Or.inl ⟨by rfl, ?_⟩) (by assumption) ?_
  rotate_left
  · (intro w9 _; go_simp; try with_reducible rfl)
  simp only [Act.put, List.getElem_toArray, List.getElem_cons_succ, List.getElem_cons_zero, List.setIfInBounds_toArray, List.set_cons_succ, List.set_cons_zero]
  refine wpAnyH_take (i := 20) (v := ?_) rfl (by kernel_rfl) (by kernel_rfl) (by kernel_rfl) (fun _ _ _ h => h) (Or.inl ⟨by rfl, ?_⟩) (by assumption) ?_
  rotate_left
  · (intro w9 _; go_simp; try with_reducible rfl)
  simp only [Act.put, List.getElem_toArray, List.getElem_cons_succ, List.getElem_cons_zero, List.setIfInBounds_toArray, List.set_cons_succ, List.set_cons_zero]
  refine wpAnyH_take (i := 21) (v := ?_) rfl (by kernel_rfl) (by kernel_rfl) (by kernel_rfl) (fun _ _ _ h => h) (Or.inl ⟨by rfl, ?_⟩) (by assumption) ?_
  rotate_left
  · (intro w9 _; go_simp; try with_reducible rfl)
  simp only [Act.put, List.getElem_toArray, List.getElem_cons_succ, List.getElem_cons_zero, List.setIfInBounds_toArray, List.set_cons_succ, List.set_cons_zero]
  refine wpAnyH_take (i := 22) (v := .agg (encI x).toArray) rfl (by kernel_rfl) (by kernel_rfl) (by kernel_rfl) (fun _ _ _ h => h) (yieldsIf_load_mid (by rfl) _ _ rfl _ _ rfl (encI x) _ (fun _ h => h.2.2.1) hu23 rfl hiA) (by assumption) ?_
  simp only [Act.put, List.getElem_toArray, List.getElem_cons_succ, List.getElem_cons_zero, List.setIfInBounds_toArray, List.set_cons_succ, List.set_cons_zero]
  refine wpAnyH_take (i := 23) (v := .agg (encI z).toArray) rfl (by kernel_rfl) (by kernel_rfl) (by kernel_rfl) (fun _ _ _ h => h) (yieldsIf_load_mid (by rfl) _ _ rfl _ _ rfl (encI z) _ (fun _ h => h.2.2.2.2) hu23 rfl hiC) (by assumption) ?_
  simp only [Act.put, List.getElem_toArray, List.getElem_cons_succ, List.getElem_cons_zero, List.setIfInBounds_toArray, List.set_cons_succ, List.set_cons_zero]
  refine wpAnyH_take (i := 25) (v := .agg (encI x).toArray) rfl (by kernel_rfl) (by kernel_rfl) (by kernel_rfl) (fun _ _ _ h => h) (yieldsIf_load_mid (by rfl) _ _ rfl _ _ rfl (encI x) _ (fun _ h => h.2.2.1) hu23 rfl hiA) (by assumption) ?_
  simp only [Act.put, List.getElem_toArray, List.getElem_cons_succ, List.getElem_cons_zero, List.setIfInBounds_toArray, List.set_cons_succ, List.set_cons_zero]
  refine wpAnyH_take (i := 26) (v := .agg (encI y).toArray) rfl (by kernel_rfl) (by kernel_rfl) (by kernel_rfl) (fun _ _ _ h => h) (yieldsIf_load_mid (by rfl) _ _ rfl _ _ rfl (encI y) _ (fun _ h => h.2.2.2.1) hu23 rfl hiB) (by assumption) ?_
  simp only [Act.put, List.getElem_toArray, List.getElem_cons_succ, List.getElem_cons_zero, List.setIfInBounds_toArray, List.set_cons_succ, List.set_cons_zero]
  refine wpAnyH_take (i := 27) (v := .agg (encI z).toArray) rfl (by kernel_rfl) (by kernel_rfl) (by kernel_rfl) (fun _ _ _ h => h) (yieldsIf_load_mid (by rfl) _ _ rfl _ _ rfl (encI z) _ (fun _ h => h.2.2.2.2) hu23 rfl hiC) (by assumption) ?_
  simp only [Act.put, List.getElem_toArray, List.getElem_cons_succ, List.getElem_cons_zero, List.setIfInBounds_toArray, List.set_cons_succ, List.set_cons_zero]
  clear hg0 g0
  refine wpAnyH_ready (rs := [24, 28]) (by kernel_rfl) (by simp) ?_
  refine AllReadyH.cons rfl (fun K hK => ?_) (AllReadyH.cons rfl (fun K hK => ?_) AllReadyH.nil)
  · refine step_bs_of H2.out (by rfl) _ rfl (by simp only [List.map_toArray, List.map_cons, List.map_nil]; rfl) ?_
    have F5 := Lib.hid (show Below w4.heap.size w4 (w4.drew.alloc (.cells (flatI [x, z]).toArray 46)) from (Below.refl _ w4).drew.alloc (Nat.le_refl _) _)
    have N1 := Lib.hid (Blk.fresh w4.drew 46 (flatI [x, z]).toArray)
    obtain ⟨g0, hg0⟩ : ∃ g, g = w4.drew.heap.size := ⟨_, rfl⟩
    rw [← hg0] at N1 ⊢
    clear hg0
    generalize w4.drew.alloc (.cells (flatI [x, z]).toArray 46) = w5 at *
    refine hK.out _ _ (HS.out _ F5.out) (fun hHeld => ?_)
    clear hK K
    refine wpAnyH_ready (rs := [28]) (by kernel_rfl) (by simp) ?_
    refine AllReadyH.cons rfl (fun K hK => ?_) AllReadyH.nil
    refine step_bs_of H3.out (by rfl) _ rfl (by simp only [List.map_toArray, List.map_cons, List.map_nil]; rfl) ?_
    have F6 := Lib.hid (show Below w4.heap.size w4 (w5.alloc (.cells (flatI [x, y, z]).toArray 46)) from F5.out.alloc F5.out.size _)
    have N2 := Lib.hid (Blk.fresh w5 46 (flatI [x, y, z]).toArray)
    have M1 := Lib.hid (N1.out.more (.cells (flatI [x, y, z]).toArray 46))
    clear N1
    obtain ⟨g1, hg1⟩ : ∃ g, g = w5.heap.size := ⟨_, rfl⟩
    rw [← hg1] at N2 ⊢
    clear hg1
    generalize w5.alloc (.cells (flatI [x, y, z]).toArray 46) = w6 at *
    refine hK.out _ _ (HS.out _ F6.out) (fun hHeld => ?_)
    clear hK K
    refine wpAnyH_ready (rs := [29]) (by kernel_rfl) (by simp) ?_
    refine AllReadyH.cons rfl (fun K hK => ?_) AllReadyH.nil
    go_simp
    refine (HI.out _ _ _ (ids_blk (ls := [x, z]) M1.out (by simp [maxLen])) (ids_blk (ls := [x, y, z]) N2.out (by simp [maxLen]))).mono ?_
    rintro e w9 ⟨rfl, hb9⟩
    have F9 := Lib.hid (F6.out.trans (hb9.mono F6.out.size))
    clear hb9
    refine hK.out _ _ (HS.out _ F9.out) (fun hHeld => ?_)
    clear hK K
    refine wpAnyH_take (i := 30) (v := ?_) rfl (by kernel_rfl) (by kernel_rfl) (by kernel_rfl) (fun _ _ _ h => h) (Or.inl ⟨by rfl, ?_⟩) (by assumption) ?_
    rotate_left
    · (intro w9 _; go_simp; try with_reducible rfl)
    simp only [Act.put, List.getElem_toArray, List.getElem_cons_succ, List.getElem_cons_zero, List.setIfInBounds_toArray, List.set_cons_succ, List.set_cons_zero]
    refine wpAnyH_take (i := 31) (v := ?_) rfl (by kernel_rfl) (by kernel_rfl) (by kernel_rfl) (fun _ _ _ h => h) (Or.inl ⟨by rfl, ?_⟩) (by assumption) ?_
    rotate_left
    · (intro w9 _; go_simp; try with_reducible rfl)
    simp only [Act.put, List.getElem_toArray, List.getElem_cons_succ, List.getElem_cons_zero, List.setIfInBounds_toArray, List.set_cons_zero]
    refine wpAnyH_done (by kernel_rfl) ?_ _
    clear hHeld
    go_wp2_with fail
    go_ret
    exact ⟨rfl, B4.out.trans (F9.out.mono B4.out.size)⟩
  · refine step_bs_of H3.out (by rfl) _ rfl (by simp only [List.map_toArray, List.map_cons, List.map_nil]; rfl) ?_
    have F5 := Lib.hid (show Below w4.heap.size w4 (w4.drew.alloc (.cells (flatI [x, y, z]).toArray 46)) from (Below.refl _ w4).drew.alloc (Nat.le_refl _) _)
    have N1 := Lib.hid (Blk.fresh w4.drew 46 (flatI [x, y, z]).toArray)
    obtain ⟨g0, hg0⟩ : ∃ g, g = w4.drew.heap.size := ⟨_, rfl⟩
    rw [← hg0] at N1 ⊢
    clear hg0
    generalize w4.drew.alloc (.cells (flatI [x, y, z]).toArray 46) = w5 at *
    refine hK.out _ _ (HS.out _ F5.out) (fun hHeld => ?_)
    clear hK K
    refine wpAnyH_ready (rs := [24]) (by kernel_rfl) (by simp) ?_
    refine AllReadyH.cons rfl (fun K hK => ?_) AllReadyH.nil
    refine step_bs_of H2.out (by rfl) _ rfl (by simp only [List.map_toArray, List.map_cons, List.map_nil]; rfl) ?_
    have F6 := Lib.hid (show Below w4.heap.size w4 (w5.alloc (.cells (flatI [x, z]).toArray 46)) from F5.out.alloc F5.out.size _)
    have N2 := Lib.hid (Blk.fresh w5 46 (flatI [x, z]).toArray)
    have M1 := Lib.hid (N1.out.more (.cells (flatI [x, z]).toArray 46))
    clear N1
    obtain ⟨g1, hg1⟩ : ∃ g, g = w5.heap.size := ⟨_, rfl⟩
    rw [← hg1] at N2 ⊢
    clear hg1
    generalize w5.alloc (.cells (flatI [x, z]).toArray 46) = w6 at *
    refine hK.out _ _ (HS.out _ F6.out) (fun hHeld => ?_)
    clear hK K
    refine wpAnyH_ready (rs := [29]) (by kernel_rfl) (by simp) ?_
    refine AllReadyH.cons rfl (fun K hK => ?_) AllReadyH.nil
    go_simp
    refine (HI.out _ _ _ (ids_blk (ls := [x, z]) N2.out (by simp [maxLen])) (ids_blk (ls := [x, y, z]) M1.out (by simp [maxLen]))).mono ?_
    rintro e w9 ⟨rfl, hb9⟩
    have F9 := Lib.hid (F6.out.trans (hb9.mono F6.out.size))
    clear hb9
    refine hK.out _ _ (HS.out _ F9.out) (fun hHeld => ?_)
    clear hK K
    refine wpAnyH_take (i := 30) (v := ?_) rfl (by kernel_rfl) (by kernel_rfl) (by kernel_rfl) (fun _ _ _ h => h) (Or.inl ⟨by rfl, ?_⟩) (by assumption) ?_
    rotate_left
    · (intro w9 _; go_simp; try with_reducible rfl)
    simp only [Act.put, List.getElem_toArray, List.getElem_cons_succ, List.getElem_cons_zero, List.setIfInBounds_toArray, List.set_cons_succ, List.set_cons_zero]
    refine wpAnyH_take (i := 31) (v := ?_) rfl (by kernel_rfl) (by kernel_rfl) (by kernel_rfl) (fun _ _ _ h => h) (Or.inl ⟨by rfl, ?_⟩) (by assumption) ?_
    rotate_left
    · (intro w9 _; go_simp; try with_reducible rfl)
    simp only [Act.put, List.getElem_toArray, List.getElem_cons_succ, List.getElem_cons_zero, List.setIfInBounds_toArray, List.set_cons_zero]
    refine wpAnyH_done (by kernel_rfl) ?_ _
    clear hHeld
    go_wp2_with fail
    go_ret
    exact ⟨rfl, B4.out.trans (F9.out.mono B4.out.size)⟩
end Go.Proofs.Ytcofplbdapjdjaa
