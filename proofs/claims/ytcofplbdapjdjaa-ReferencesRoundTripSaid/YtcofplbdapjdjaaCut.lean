/- The reference's Cut and Trim; the program's Trim. -/
import Derived.Test.YtcofplbdapjdjaaTrim
namespace Mid
def trimE (l : List Id) (m : Int) : List Id × Nat := if m < 1 ∨ 20 < m then ([], 2) else if 1000 < l.length then ([], 9) else (cutL l m.toNat, 0)
theorem trimE_out (l : List Id) (m : Int) (h : m < 1 ∨ 20 < m) : trimE l m = ([], 2) := by unfold trimE; rw [if_pos h]
theorem trimE_zero {l D : List Id} {m : Int} (h : trimE l m = (D, 0)) : ∃ k : Nat, m = k ∧ 1 ≤ k ∧ k ≤ 20 ∧ D = cutL l k := by
  unfold trimE at h
  split at h
  · cases h
  · split at h
    · cases h
    · injection h with h1 _
      exact ⟨m.toNat, by omega, by omega, by omega, h1.symm⟩
theorem trimE_long (l : List Id) (m : Nat) (h1 : 1 ≤ m) (h2 : m ≤ 20) (h : 1000 < l.length) : trimE l m = ([], 9) := by unfold trimE; rw [if_neg (by omega), if_pos h]
theorem trimE_ok (l : List Id) (m : Nat) (h1 : 1 ≤ m) (h2 : m ≤ 20) (h : ¬ 1000 < l.length) : trimE l m = (cutL l m, 0) := by unfold trimE; rw [if_neg (by omega), if_neg h]; rfl
end Mid
namespace Go.Proofs.Ytcofplbdapjdjaa
open Go.RowKit

theorem yields_drop {ops : Array Oper} {S : World → Prop} {op : Oper} {a : Act} (hw : Region.wanted op (yielded ops a.tmps) = true) (x y : Operand) (ho : op.op = .slice 22 x (some y) none none)
    (p : Option Addr) (n c d : Nat) (hx : a.eval x = .slice p n c) (hy : a.eval y = .int .i64 d) (hn : d ≤ n) : YieldsIf Try.prog ops S op (sliced p d n c 32) a := by
  refine .inl ⟨hw, fun w _ => ?_⟩
  simp [execOp, ho, hx, hy, run_dropR p n c d w hn, Result.andThen]

set_option maxRecDepth 100000 in
set_option maxHeartbeats 1000000 in
theorem refCut_any (v : Value) (ls : List Mid.Id) (m : Nat) (w : World) (hm : 1 ≤ m) (hm2 : m ≤ 4398046511104) (hn : ls.length * 32 + 64 ≤ 140737488355328) (hv : Ids w v ls) :
    Calls Try.prog 43 #[v, .int .i64 m] w fun e w' => ∃ v', e = .returned v' ∧ Ids w' v' (Mid.cutL ls m) ∧ Below w.heap.size w w' := by
  have HV := Lib.hid hv
  obtain ⟨p, cap, rfl, hlc, hcm, _, hcells⟩ := hv
  have HTR := Lib.hid (show Mid.cutL ls m = if ls.length ≤ m then ls else if m = 1 then [ls[ls.length - 1]!] else ls[0]! :: ls.drop (ls.length - m + 1) by unfold Mid.cutL; rfl)
  obtain ⟨R, hR⟩ : ∃ R, R = Mid.cutL ls m := ⟨_, rfl⟩
  rw [← hR] at HTR ⊢
  clear hR
  obtain ⟨n, hnn⟩ : ∃ n, n = ls.length := ⟨_, rfl⟩
  rw [← hnn] at HTR HV hlc hn ⊢
  have hnI : (n : Int) * 32 + 64 ≤ 140737488355328 := by omega
  have HN := Lib.hid hnn; have HLN := Lib.hid (show ls.length * 32 + 64 ≤ 140737488355328 by rw [← hnn]; exact hn)
  have hu30 : Try.prog.underlying 48 = some (.array 32 5) := Try.underlying48
  by_cases hA : n ≤ m
  · have hAI : (n : Int) ≤ (m : Int) := by omega
    have HR := Lib.hid (HTR.out.trans (if_pos hA))
    clear hcells hnn hlc hcm hA
    go_enter Try.func43, Try.ntmps43
    go_wp2_with (refine wpList_appR rfl _ _ rfl w.heap.size _ [] (by rfl) (own_zero w _ (Nat.le_refl _)) (.slice p n cap) ls (by rfl) (HV.out.below ((Below.refl _ w).alloc (Nat.le_refl _) _)) (by have := HLN.out; simp; omega) (by simp) ?_; intro v2 w2 O2 G2)
    go_ret
    exact ⟨_, rfl, by rw [HR.out]; exact O2.out.ids, ((Below.refl _ w).alloc (Nat.le_refl _) _).grown G2.out (by simp) (fun j hj => by cases hj; exact Nat.le_refl _)⟩
  · have hAI : ¬ (n : Int) ≤ (m : Int) := by omega
    have hne : ls ≠ [] := by intro h; rw [h] at hnn; simp at hnn; omega
    rcases hcells with h9 | ⟨b, off, rfl, hc⟩
    · exact absurd h9 hne
    have HLT := Lib.hid (hc.lt hne); have HC := Lib.hid hc
    have hn0 : 0 < n := by omega
    by_cases hm1 : m = 1
    · have HR := Lib.hid ((HTR.out.trans (if_neg hA)).trans (if_pos hm1))
      subst hm1
      have hrg := (HC.out.range (n - 1) (by rw [← HN.out]; omega))
      generalize ls[n - 1]! = x at *
      obtain ⟨k, hk⟩ : ∃ k, k = n - 1 := ⟨_, rfl⟩
      rw [← hk] at hrg
      have hw1 : wrap64 ((n : Int) - 1) = (k : Int) := by unfold wrap64; omega
      have hkn : (k : Int) < (n : Int) := by omega
      have HRG := Lib.hid hrg
      have hix := info_enc infoRid x
      have hle := encI_len x
      clear hnn hlc hcm hA hne hc hrg hk hn0 hnI hn hm2
      go_enter Try.func43, Try.ntmps43
      go_wp2_with (refine wpList_load_mid rfl _ _ rfl b (off + k * 32) (by rfl) (encI x) _ HRG.out hu30 rfl hix ?_)
      rw [fold_enc x]
      go_ret
      exact ⟨_, rfl, by rw [HR.out]; exact (own_one (Blk.fresh w _ _) (Nat.le_refl _)).ids, (Below.refl _ w).alloc (Nat.le_refl _) _⟩
    · have HR := Lib.hid ((HTR.out.trans (if_neg hA)).trans (if_neg hm1))
      obtain ⟨d, hd⟩ : ∃ d, d = n - m + 1 := ⟨_, rfl⟩
      have hm1I : ¬ (m : Int) = 1 := by omega
      have hw1 : IntKind.i64.wrap ((n : Int) - (m : Int)) = (n : Int) - (m : Int) := by simp [IntKind.wrap, IntKind.bits, IntKind.signed]; omega
      have hw2 : IntKind.i64.wrap ((n : Int) - (m : Int) + 1) = (d : Int) := by simp [IntKind.wrap, IntKind.bits, IntKind.signed]; omega
      have HDN := Lib.hid (show d ≤ n by omega)
      have HU := Lib.hid (fun W (hb : Below w.heap.size w W) => ids_drop (HV.out.below hb) d (by rw [← hnn]; omega))
      have hrg := fun W (hb : Below w.heap.size w W) => (HC.out.keep hb HLT.out).range 0 (by rw [← hnn]; omega)
      rw [← hd] at HR
      generalize ls[0]! = x at *
      have HRG := Lib.hid (fun W (hb : Below w.heap.size w W) => (show W.rangeAt b off (encI x) by simpa using hrg W hb))
      have hix := info_enc infoRid x
      have hle := encI_len x
      clear hnn hlc hcm hA hne hc hrg hd hm1 hnI hn hm2
      go_enter Try.func43, Try.ntmps43
      go_wp2_with fail
      refine wp_region_held_drew (S := (fun w' => w'.rangeAt b off (encI x))) (by kernel_rfl) ?_ (fun hHeld => ?_)
      · exact (HRG.out _ (Below.refl _ w).drew)
      refine wpAnyH_take (i := 0) (v := ?_) rfl (by kernel_rfl) (by kernel_rfl) (by kernel_rfl) (fun _ _ _ h => h) (Or.inl ⟨by rfl, ?_⟩) (by assumption) ?_
      rotate_left
      · (intro w9 _; go_simp; try with_reducible rfl)
      simp only [Act.put, List.getElem_toArray, List.getElem_cons_zero, List.setIfInBounds_toArray, List.set_cons_succ, List.set_cons_zero]
      refine wpAnyH_take (i := 1) (v := ?_) rfl (by kernel_rfl) (by kernel_rfl) (by kernel_rfl) (fun _ _ _ h => h) (Or.inl ⟨by rfl, ?_⟩) (by assumption) ?_
      rotate_left
      · (intro w9 _; go_simp; try with_reducible rfl)
      simp only [Act.put, List.getElem_toArray, List.getElem_cons_succ, List.getElem_cons_zero, List.setIfInBounds_toArray, List.set_cons_succ, List.set_cons_zero]
      refine wpAnyH_take (i := 2) (v := .agg (encI x).toArray) rfl (by kernel_rfl) (by kernel_rfl) (by kernel_rfl) (fun _ _ _ h => h) (yieldsIf_load_mid (by rfl) _ _ rfl _ _ rfl (encI x) _ (fun _ h => h) hu30 rfl hix) (by assumption) ?_
      simp only [Act.put, List.getElem_toArray, List.getElem_cons_succ, List.getElem_cons_zero, List.setIfInBounds_toArray, List.set_cons_succ, List.set_cons_zero]
      refine wpAnyH_take (i := 4) (v := ?_) rfl (by kernel_rfl) (by kernel_rfl) (by kernel_rfl) (fun _ _ _ h => h) (Or.inl ⟨by rfl, ?_⟩) (by assumption) ?_
      rotate_left
      · (intro w9 _; go_simp; try with_reducible rfl)
      simp only [Act.put, List.getElem_toArray, List.getElem_cons_succ, List.getElem_cons_zero, List.setIfInBounds_toArray, List.set_cons_succ, List.set_cons_zero]
      refine wpAnyH_take (i := 5) (v := ?_) rfl (by kernel_rfl) (by kernel_rfl) (by kernel_rfl) (fun _ _ _ h => h) (Or.inl ⟨by rfl, ?_⟩) (by assumption) ?_
      rotate_left
      · (intro w9 _; go_simp; try with_reducible rfl)
      simp only [Act.put, List.getElem_toArray, List.getElem_cons_succ, List.getElem_cons_zero, List.setIfInBounds_toArray, List.set_cons_succ, List.set_cons_zero]
      refine wpAnyH_take (i := 6) (v := ?_) rfl (by kernel_rfl) (by kernel_rfl) (by kernel_rfl) (fun _ _ _ h => h) (Or.inl ⟨by rfl, ?_⟩) (by assumption) ?_
      rotate_left
      · (intro w9 _; go_simp; try with_reducible rfl)
      simp only [Act.put, List.getElem_toArray, List.getElem_cons_succ, List.getElem_cons_zero, List.setIfInBounds_toArray, List.set_cons_succ, List.set_cons_zero]
      refine wpAnyH_take (i := 7) (v := ?_) rfl (by kernel_rfl) (by kernel_rfl) (by kernel_rfl) (fun _ _ _ h => h) (Or.inl ⟨by rfl, ?_⟩) (by assumption) ?_
      rotate_left
      · (intro w9 _; go_simp; try with_reducible rfl)
      simp only [Act.put, List.getElem_toArray, List.getElem_cons_succ, List.getElem_cons_zero, List.setIfInBounds_toArray, List.set_cons_succ, List.set_cons_zero]
      refine wpAnyH_take (i := 8) (v := ?_) rfl (by kernel_rfl) (by kernel_rfl) (by kernel_rfl) (fun _ _ _ h => h) (Or.inl ⟨by rfl, ?_⟩) (by assumption) ?_
      rotate_left
      · (intro w9 _; go_simp; try with_reducible rfl)
      simp only [Act.put, List.getElem_toArray, List.getElem_cons_succ, List.getElem_cons_zero, List.setIfInBounds_toArray, List.set_cons_succ, List.set_cons_zero]
      refine wpAnyH_take (i := 9) (v := ?_) rfl (by kernel_rfl) (by kernel_rfl) (by kernel_rfl) (fun _ _ _ h => h) (Or.inl ⟨by rfl, ?_⟩) (by assumption) ?_
      rotate_left
      · (intro w9 _; go_simp; try with_reducible rfl)
      simp only [Act.put, List.getElem_toArray, List.getElem_cons_succ, List.getElem_cons_zero, List.setIfInBounds_toArray, List.set_cons_succ, List.set_cons_zero]
      refine wpAnyH_take (i := 10) (v := sliced (some ⟨b, off, none⟩) d n cap 32) rfl (by kernel_rfl) (by kernel_rfl) (by kernel_rfl) (fun _ _ _ h => h) (yields_drop (by rfl) _ _ rfl _ n cap d (by rfl) (by rfl) HDN.out) (by assumption) ?_
      simp only [Act.put, List.getElem_toArray, List.getElem_cons_succ, List.getElem_cons_zero, List.setIfInBounds_toArray, List.set_cons_succ, List.set_cons_zero]
      generalize hU : sliced (some ⟨b, off, none⟩) d n cap 32 = U at *
      refine wpAnyH_ready (rs := [3]) (by kernel_rfl) (by simp) ?_
      refine AllReadyH.cons rfl (fun K hK => ?_) AllReadyH.nil
      go_simp
      rw [fold_enc x]
      have X1 := Lib.hid (show Blk (w.alloc (.cells (encI x).toArray 48)).drew w.heap.size 48 (encI x).toArray from Blk.fresh w _ _)
      have B1 := Lib.hid (show Below w.heap.size w (w.alloc (.cells (encI x).toArray 48)).drew from ((Below.refl _ w).alloc (Nat.le_refl _) _).drew)
      obtain ⟨g, hg⟩ : ∃ g, g = w.heap.size := ⟨_, rfl⟩
      rw [← hg] at X1 ⊢
      have HG := Lib.hid hg
      clear hg
      generalize (w.alloc (.cells (encI x).toArray 48)).drew = w1 at *
      refine hK.out _ _ (HRG.out _ B1.out) (fun hHeld => ?_)
      clear hK K
      refine wpAnyH_ready (rs := [11]) (by kernel_rfl) (by simp) ?_
      refine AllReadyH.cons rfl (fun K hK => ?_) AllReadyH.nil
      refine step_appR (by rfl) _ _ rfl w.heap.size _ [x] (by rfl) (own_one X1.out (Nat.le_of_eq HG.out.symm)) U (ls.drop d) (by rfl) (HU.out _ B1.out) (by simp; have := HLN.out; omega) B1.out.size ?_
      intro v2 w2 O2 G2
      have B2 := Lib.hid (B1.out.grown G2.out B1.out.size (fun j hj => by cases hj; exact Nat.le_of_eq HG.out.symm))
      refine hK.out _ _ (HRG.out _ B2.out) (fun hHeld => ?_)
      clear hK K
      refine wpAnyH_take (i := 12) (v := ?_) rfl (by kernel_rfl) (by kernel_rfl) (by kernel_rfl) (fun _ _ _ h => h) (Or.inl ⟨by rfl, ?_⟩) (by assumption) ?_
      rotate_left
      · (intro w9 _; go_simp; try with_reducible rfl)
      simp only [Act.put, List.getElem_toArray, List.getElem_cons_succ, List.getElem_cons_zero, List.setIfInBounds_toArray, List.set_cons_succ, List.set_cons_zero]
      refine wpAnyH_done (by kernel_rfl) ?_ _
      go_wp2_with fail
      go_ret
      exact ⟨_, rfl, by rw [HR.out]; exact O2.out.ids, B2.out⟩
end Go.Proofs.Ytcofplbdapjdjaa
