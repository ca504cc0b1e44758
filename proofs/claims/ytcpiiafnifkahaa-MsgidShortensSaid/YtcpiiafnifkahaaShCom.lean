/- How many digits two identities share: the walk. -/
import Derived.Test.YtcpiiafnifkahaaShPl
namespace Mid
theorem com_next (p q : List UInt8) (k : Nat) (hp : k < p.length) (hq : k < q.length) (h : k ≤ com p q) : (p[k] = q[k] → k + 1 ≤ com p q) ∧ (p[k] ≠ q[k] → com p q = k) := by
  have h1 := com_take p q k (by omega) (by omega)
  have h2 := com_take p q (k + 1) (by omega) (by omega)
  rw [List.take_succ_eq_append_getElem hp, List.take_succ_eq_append_getElem hq, h1.2 h] at h2
  constructor
  · intro e
    exact h2.1 (by rw [e])
  · intro e
    rcases Nat.lt_or_ge (com p q) (k + 1) with h3 | h3
    · omega
    · have h4 := h2.2 h3
      rw [List.append_right_inj] at h4
      injection h4 with h4 _
      exact absurd h4 e
end Mid
namespace Go.Proofs.Ytcpiiafnifkahaa
open Go.RowKit

/-- the cells of digits -/
def dgI (p : List UInt8) : List Int := p.map fun c => (c.toNat : Int)
theorem dgI_hx (x : Mid.Id) : nI (Mid.hxN x.1) = dgI (Mid.hx x) := by
  unfold nI Mid.hxN dgI Mid.hx
  rw [List.map_map]
  rfl
theorem dgI_len (p : List UInt8) : (dgI p).length = p.length := by simp [dgI]
theorem dgI_cell {w : World} {g : Nat} {t : TypeId} {p : List UInt8} (h : Blk w g t (bsC (dgI p))) (k : Nat) (hk : k < p.length) : w.cell? ⟨g, k, none⟩ = some (.int .u8 (p[k].toNat : Int)) := by
  rw [cell_of_row w g k _ _ _ h]
  simp [bsC, dgI, List.getElem?_eq_getElem hk]
theorem u8_ne (a b : UInt8) (h : a ≠ b) : ¬ (a.toNat : Int) = (b.toNat : Int) := fun e => h (UInt8.toNat_inj.1 (Int.ofNat.inj e))

set_option maxRecDepth 100000 in
set_option maxHeartbeats 1000000 in
theorem common_any (p q : List UInt8) (hp : p.length = 64) (hq : q.length = 64) (w : World) :
    Calls Try.prog 54 #[.agg (bsC (dgI p)), .agg (bsC (dgI q))] w fun e w' => e = .returned (.int .i64 (Mid.com p q : Nat)) ∧ Below w.heap.size w w' := by
  have HC1 := Lib.hid (fun (W : World) g t (h : Blk W g t (bsC (dgI p))) k (hk : k < p.length) => dgI_cell h k hk)
  have HC2 := Lib.hid (fun (W : World) g t (h : Blk W g t (bsC (dgI q))) k (hk : k < q.length) => dgI_cell h k hk)
  have HP := Lib.hid hp; have HQ := Lib.hid hq
  generalize dgI p = A at *
  generalize dgI q = B at *
  clear hp hq
  go_enter Try.func54, Try.ntmps54
  go_upto_region 1 with (fail)
  have ka := (Blk.fresh w 68 (bsC A)).more (.cells (bsC B) 68)
  have kb := Blk.fresh (w.alloc (.cells (bsC A) 68)) 68 (bsC B)
  have hB : Below w.heap.size w ((w.alloc (.cells (bsC A) 68)).alloc (.cells (bsC B) 68)) := ((Below.refl _ w).alloc (Nat.le_refl _) _).alloc (by simp) _
  rw [show (w.alloc (.cells (bsC A) 68)).heap.size = w.heap.size + 1 by simp] at kb
  generalize (w.alloc (.cells (bsC A) 68)).alloc (.cells (bsC B) 68) = W0 at *
  have KA := Lib.hid ka; have KB := Lib.hid kb; have B0 := Lib.hid hB
  clear ka kb hB
  go_wp2_with fail
  go_loopw [5] (fun i wr => ∃ k : Nat, i = .int .i64 k ∧ k ≤ 64 ∧ Hid (k ≤ Mid.com p q) ∧ Hid (Blk wr w.heap.size 68 (bsC A)) ∧ Hid (Blk wr (w.heap.size + 1) 68 (bsC B)) ∧ Hid (Below w.heap.size w wr)) (fun i _ => 64 - (intOf i).toNat)
  case atStart => exact ⟨0, rfl, by omega, Lib.hid (Nat.zero_le _), KA, KB, B0⟩
  case round =>
    clear KA KB B0
    obtain ⟨k, rfl, hk, hf, ha, hb, hbl⟩ := hrel
    by_cases hlt : k < 64
    · have hkp : k < p.length := by rw [HP.out]; exact hlt
      have hkq : k < q.length := by rw [HQ.out]; exact hlt
      have c1 := HC1.out _ _ _ ha.out.draw k hkp
      have c2 := HC2.out _ _ _ hb.out.draw k hkq
      have hnx := Mid.com_next p q k hkp hkq hf.out
      have hltI : (k : Int) < 64 := by omega
      by_cases he : p[k] = q[k]
      · have h1 := hnx.1 he
        rw [← he] at c2
        have H1 := Lib.hid h1
        generalize (p[k].toNat : Int) = z at *
        clear hnx h1 he hf hkp hkq
        go_wp2_with fail
        go_region_law (fail)
        all_goals
          go_wp2_with fail
        all_goals exact ⟨⟨k + 1, by go_num, hlt, H1, Lib.hid ha.out.draw, Lib.hid hb.out.draw, Lib.hid hbl.out.drew⟩, by simp [intOf]; omega⟩
      · have h1 := hnx.2 he
        have h2 := u8_ne _ _ he
        have H1 := Lib.hid h1
        generalize (p[k].toNat : Int) = z at *
        generalize (q[k].toNat : Int) = y at *
        clear hnx h1 he hf hkp hkq
        go_wp2_with fail
        go_region_law (fail)
        all_goals
          go_wp2_with fail
        all_goals
          go_ret
          exact ⟨by rw [H1.out]; rfl, hbl.out.drew⟩
    · have h1 : Mid.com p q = k := by have := Mid.com_le p q; have := hf.out; have := HP.out; omega
      obtain rfl : k = 64 := by omega
      have H1 := Lib.hid h1
      rw [show ((64 : Nat) : Int) = 64 from rfl]
      clear h1 hf
      go_wp2_with fail
      refine wp_region_held_drew (S := (fun _ => True)) (by kernel_rfl) ?_ (fun hHeld => ?_)
      · exact trivial
      refine wpAnyH_take (i := 0) (v := ?_) rfl (by kernel_rfl) (by kernel_rfl) (by kernel_rfl) (fun _ _ _ h => h) (Or.inl ⟨by rfl, ?_⟩) (by assumption) ?_
      rotate_left
      · (intro w9 _; go_simp; try with_reducible rfl)
      simp only [Act.put, List.getElem_toArray, List.getElem_cons_zero, List.setIfInBounds_toArray, List.set_cons_succ, List.set_cons_zero]
      refine wpAnyH_take (i := 1) (v := ?_) rfl (by kernel_rfl) (by kernel_rfl) (by kernel_rfl) (fun _ _ _ h => h) (Or.inl ⟨by rfl, ?_⟩) (by assumption) ?_
      rotate_left
      · (intro w9 _; go_simp; try with_reducible rfl)
      simp only [Act.put, List.getElem_toArray, List.getElem_cons_succ, List.getElem_cons_zero, List.setIfInBounds_toArray, List.set_cons_succ, List.set_cons_zero]
      refine wpAnyH_take (i := 2) (v := ?_) rfl (by kernel_rfl) (by kernel_rfl) (by kernel_rfl) (fun _ _ _ h => h) (Or.inl ⟨by rfl, ?_⟩) (by assumption) ?_
      rotate_left
      · (intro w9 _; go_simp; try with_reducible rfl)
      simp only [Act.put, List.getElem_toArray, List.getElem_cons_succ, List.getElem_cons_zero, List.setIfInBounds_toArray, List.set_cons_succ, List.set_cons_zero]
      refine wpAnyH_take (i := 3) (v := undef) rfl (by kernel_rfl) (by kernel_rfl) (by kernel_rfl) (fun _ _ _ h => h) (Or.inr ⟨by rfl, rfl⟩) (by assumption) ?_
      simp only [Act.put, List.getElem_toArray, List.getElem_cons_succ, List.getElem_cons_zero, List.setIfInBounds_toArray, List.set_cons_succ, List.set_cons_zero]
      refine wpAnyH_take (i := 4) (v := undef) rfl (by kernel_rfl) (by kernel_rfl) (by kernel_rfl) (fun _ _ _ h => h) (Or.inr ⟨by rfl, rfl⟩) (by assumption) ?_
      simp only [Act.put, List.getElem_toArray, List.getElem_cons_succ, List.getElem_cons_zero, List.setIfInBounds_toArray, List.set_cons_succ, List.set_cons_zero]
      refine wpAnyH_take (i := 5) (v := undef) rfl (by kernel_rfl) (by kernel_rfl) (by kernel_rfl) (fun _ _ _ h => h) (Or.inr ⟨by rfl, rfl⟩) (by assumption) ?_
      simp only [Act.put, List.getElem_toArray, List.getElem_cons_succ, List.getElem_cons_zero, List.setIfInBounds_toArray, List.set_cons_succ, List.set_cons_zero]
      refine wpAnyH_take (i := 6) (v := undef) rfl (by kernel_rfl) (by kernel_rfl) (by kernel_rfl) (fun _ _ _ h => h) (Or.inr ⟨by rfl, rfl⟩) (by assumption) ?_
      simp only [Act.put, List.getElem_toArray, List.getElem_cons_succ, List.getElem_cons_zero, List.setIfInBounds_toArray, List.set_cons_succ, List.set_cons_zero]
      refine wpAnyH_take (i := 7) (v := undef) rfl (by kernel_rfl) (by kernel_rfl) (by kernel_rfl) (fun _ _ _ h => h) (Or.inr ⟨by rfl, rfl⟩) (by assumption) ?_
      simp only [Act.put, List.getElem_toArray, List.getElem_cons_succ, List.getElem_cons_zero, List.setIfInBounds_toArray, List.set_cons_succ, List.set_cons_zero]
      refine wpAnyH_take (i := 8) (v := undef) rfl (by kernel_rfl) (by kernel_rfl) (by kernel_rfl) (fun _ _ _ h => h) (Or.inr ⟨by rfl, rfl⟩) (by assumption) ?_
      simp only [Act.put, List.getElem_toArray, List.getElem_cons_succ, List.getElem_cons_zero, List.setIfInBounds_toArray, List.set_cons_succ, List.set_cons_zero]
      refine wpAnyH_take (i := 9) (v := undef) rfl (by kernel_rfl) (by kernel_rfl) (by kernel_rfl) (fun _ _ _ h => h) (Or.inr ⟨by rfl, rfl⟩) (by assumption) ?_
      simp only [Act.put, List.getElem_toArray, List.getElem_cons_succ, List.getElem_cons_zero, List.setIfInBounds_toArray, List.set_cons_succ, List.set_cons_zero]
      refine wpAnyH_take (i := 10) (v := ?_) rfl (by kernel_rfl) (by kernel_rfl) (by kernel_rfl) (fun _ _ _ h => h) (Or.inl ⟨by rfl, ?_⟩) (by assumption) ?_
      rotate_left
      · (intro w9 _; go_simp; try with_reducible rfl)
      simp only [Act.put, List.getElem_toArray, List.getElem_cons_succ, List.getElem_cons_zero, List.setIfInBounds_toArray, List.set_cons_succ, List.set_cons_zero]
      refine wpAnyH_done (by kernel_rfl) ?_ _
      go_wp2_with fail
      go_ret
      exact ⟨by rw [H1.out]; rfl, hbl.out.drew⟩
end Go.Proofs.Ytcpiiafnifkahaa
