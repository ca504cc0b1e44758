/- The program's digest: the words of a state as bytes. -/
import Derived.Test.YtgfolgmheinbiaaDoorRRRBlocks
namespace Go.Proofs.YtgfolgmheinbiaaDoorRRR
open Go.RowKit

def bsC (l : List Int) : Array Value := (l.map fun x => Value.int .u8 x).toArray
theorem bsC_size (l : List Int) : (bsC l).size = l.length := by simp [bsC]
theorem bsC_get (l : List Int) (i : Nat) (h : i < l.length) : (bsC l)[i]? = some (.int .u8 (l.getD i 0)) := by
  simp [bsC, List.getD_eq_getElem?_getD, List.getElem?_eq_getElem h]
theorem bsC_one (l : List Int) : (bsC l).all (·.oneCell') = true := by
  simp [bsC, Value.oneCell']
theorem bsC_set (l : List Int) (i : Nat) (x : Int) : (bsC l).setIfInBounds i (.int .u8 x) = bsC (l.set i x) := by
  unfold bsC
  apply Array.toList_inj.1
  rw [Array.toList_setIfInBounds, List.map_set]

theorem infoDg (l : List Int) (h : l.length = 32) : (Tryd.prog.info? 90).map (·.size) = some (bsC l).size := by rw [bsC_size, h]; kernel_rfl
theorem ld_dg {ops : Array Oper} {rest : List Oper} {o : Oper} {a : Act} {w : World} {Q : Exit → Act → World → Prop} (g : Nat) (l : List Int) (hl : l.length = 32) (h : Blk w g 90 (bsC l)) (hgd : o.guard = none) (x : Operand) (ho : o.op = .load 90 x)
    (hx : a.eval x = .pointer (some ⟨g, 0, none⟩)) (hk : wpList Tryd.prog ops Q rest (a.put o.dst (.agg (bsC l))) w) : wpList Tryd.prog ops Q (o :: rest) a w :=
  wpList_load_row hgd _ x ho g hx _ _ _ _ h Tryd.underlying90 rfl (infoDg l hl) hk
theorem sto_dg {ops : Array Oper} {rest : List Oper} {o : Oper} {a : Act} {w : World} {Q : Exit → Act → World → Prop} (g : Nat) (l : List Int) (hl : l.length = 32) (old : Array Value) (h : Blk w g 90 old) (hold : old.size = 32) (hgd : o.guard = none) (x y : Operand) (ho : o.op = .store 90 x y)
    (hx : a.eval x = .pointer (some ⟨g, 0, none⟩)) (hy : a.eval y = .agg (bsC l)) (hk : ∀ w', Hid (w' = w.setRow g (bsC l)) → wpList Tryd.prog ops Q rest (a.put o.dst undef) w') : wpList Tryd.prog ops Q (o :: rest) a w :=
  wpList_store_row hgd _ x y ho g _ hx hy _ _ h (infoDg l hl) (by rw [hold, bsC_size, hl]) (bsC_one l) (hk _ (Lib.hid rfl))

theorem index8 (x0 x1 x2 x3 x4 x5 x6 x7 : Int) (k : Nat) (hk : k < 8) (W : World) : (Instr.index 93 (.agg #[.int .u32 x0, .int .u32 x1, .int .u32 x2, .int .u32 x3, .int .u32 x4, .int .u32 x5, .int .u32 x6, .int .u32 x7]) (.int .i64 k)).run Tryd.prog W = .ok (.int .u32 ([x0, x1, x2, x3, x4, x5, x6, x7].getD k 0)) W := by
  have hv : (#[.int .u32 x0, .int .u32 x1, .int .u32 x2, .int .u32 x3, .int .u32 x4, .int .u32 x5, .int .u32 x6, .int .u32 x7] : Array Value)[k]? = some (.int .u32 ([x0, x1, x2, x3, x4, x5, x6, x7].getD k 0)) := by
    match k, hk with
    | 0, _ => rfl
    | 1, _ => rfl
    | 2, _ => rfl
    | 3, _ => rfl
    | 4, _ => rfl
    | 5, _ => rfl
    | 6, _ => rfl
    | 7, _ => rfl
    | n + 8, h => omega
  exact run_index_cells 93 92 8 _ .i64 k _ W Tryd.underlying93 hk (fun w => by kernel_rfl) (fun w => by kernel_rfl) hv

theorem digest_at (s : S5.St) (k : Nat) (hk : k < 8) : S5.digest s = (S5.digest s).take (4 * k) ++ S5.b4 ((S5.stL s).getD k 0) ++ (S5.digest s).drop (4 * k + 4) := by
  match k, hk with
  | 0, _ => rfl
  | 1, _ => rfl
  | 2, _ => rfl
  | 3, _ => rfl
  | 4, _ => rfl
  | 5, _ => rfl
  | 6, _ => rfl
  | 7, _ => rfl
  | n + 8, h => omega

/-- four bytes more -/
theorem fill_four (d : List Int) (n k : Nat) (hd : d.length = n) (hk : 4 * k + 4 ≤ n) (a b c e : Int) (h : d = d.take (4 * k) ++ [a, b, c, e] ++ d.drop (4 * k + 4)) :
    ((((d.take (4 * k) ++ List.replicate (n - 4 * k) 0).set (4 * k) a).set (4 * k + 1) b).set (4 * k + 2) c).set (4 * k + 3) e = d.take (4 * (k + 1)) ++ List.replicate (n - 4 * (k + 1)) 0 := by
  have hl : (d.take (4 * k)).length = 4 * k := by rw [List.length_take]; omega
  have h1 : List.replicate (n - 4 * k) (0 : Int) = 0 :: 0 :: 0 :: 0 :: List.replicate (n - 4 * (k + 1)) 0 := by rw [show n - 4 * k = (n - 4 * (k + 1)) + 4 by omega]; rfl
  have h2 : d.take (4 * (k + 1)) = d.take (4 * k) ++ [a, b, c, e] := by
    have : (d.take (4 * k) ++ [a, b, c, e]).length = 4 * (k + 1) := by rw [List.length_append, hl]; simp; omega
    conv => lhs; rw [h]
    rw [List.take_append_of_le_length (by omega), List.take_of_length_le (by omega)]
  rw [h1, h2]
  rw [List.set_append_right _ _ (by omega), hl, Nat.sub_self, List.set_append_right _ _ (by omega), hl, List.set_append_right _ _ (by omega), hl, List.set_append_right _ _ (by omega), hl]
  rw [show 4 * k + 1 - 4 * k = 1 by omega, show 4 * k + 2 - 4 * k = 2 by omega, show 4 * k + 3 - 4 * k = 3 by omega]
  simp

set_option maxRecDepth 100000 in
set_option maxHeartbeats 4000000 in
theorem digest_any (s : S5.St) (w : World) :
    Calls Tryd.prog 67 #[.agg (stC s)] w fun e w' => e = .returned (.agg (bsC (S5.digest s))) ∧ Below w.heap.size w w' := by
  have HI := Lib.hid (index8 s.a s.b s.c s.d s.e s.f s.g s.h)
  go_enter Tryd.func67, Tryd.ntmps67
  go_upto_region 2 with (fail)
  generalize hW0 : ((w.alloc (.cells (stC s) 100)).alloc (.cells #[.int .u8 0, .int .u8 0, .int .u8 0, .int .u8 0, .int .u8 0, .int .u8 0, .int .u8 0, .int .u8 0, .int .u8 0, .int .u8 0, .int .u8 0, .int .u8 0, .int .u8 0, .int .u8 0, .int .u8 0, .int .u8 0, .int .u8 0, .int .u8 0, .int .u8 0, .int .u8 0, .int .u8 0, .int .u8 0, .int .u8 0, .int .u8 0, .int .u8 0, .int .u8 0, .int .u8 0, .int .u8 0, .int .u8 0, .int .u8 0, .int .u8 0, .int .u8 0] 90)).alloc (.cells #[.int .u8 0, .int .u8 0, .int .u8 0, .int .u8 0, .int .u8 0, .int .u8 0, .int .u8 0, .int .u8 0, .int .u8 0, .int .u8 0, .int .u8 0, .int .u8 0, .int .u8 0, .int .u8 0, .int .u8 0, .int .u8 0, .int .u8 0, .int .u8 0, .int .u8 0, .int .u8 0, .int .u8 0, .int .u8 0, .int .u8 0, .int .u8 0, .int .u8 0, .int .u8 0, .int .u8 0, .int .u8 0, .int .u8 0, .int .u8 0, .int .u8 0, .int .u8 0] 90) = W0
  have hB0 : Below w.heap.size w W0 := by rw [← hW0]; exact (((Below.refl _ w).alloc (Nat.le_refl _) _).alloc (by simp) _).alloc (by simp; omega) _
  have k1 : Blk W0 w.heap.size 100 (stC s) := by rw [← hW0]; exact ((Blk.fresh w _ _).more _).more _
  have k2 : Blk W0 (w.heap.size + 1) 90 #[.int .u8 0, .int .u8 0, .int .u8 0, .int .u8 0, .int .u8 0, .int .u8 0, .int .u8 0, .int .u8 0, .int .u8 0, .int .u8 0, .int .u8 0, .int .u8 0, .int .u8 0, .int .u8 0, .int .u8 0, .int .u8 0, .int .u8 0, .int .u8 0, .int .u8 0, .int .u8 0, .int .u8 0, .int .u8 0, .int .u8 0, .int .u8 0, .int .u8 0, .int .u8 0, .int .u8 0, .int .u8 0, .int .u8 0, .int .u8 0, .int .u8 0, .int .u8 0] := by rw [← hW0]; have := (Blk.fresh (w.alloc (.cells (stC s) 100)) 90 #[.int .u8 0, .int .u8 0, .int .u8 0, .int .u8 0, .int .u8 0, .int .u8 0, .int .u8 0, .int .u8 0, .int .u8 0, .int .u8 0, .int .u8 0, .int .u8 0, .int .u8 0, .int .u8 0, .int .u8 0, .int .u8 0, .int .u8 0, .int .u8 0, .int .u8 0, .int .u8 0, .int .u8 0, .int .u8 0, .int .u8 0, .int .u8 0, .int .u8 0, .int .u8 0, .int .u8 0, .int .u8 0, .int .u8 0, .int .u8 0, .int .u8 0, .int .u8 0]).more (.cells #[.int .u8 0, .int .u8 0, .int .u8 0, .int .u8 0, .int .u8 0, .int .u8 0, .int .u8 0, .int .u8 0, .int .u8 0, .int .u8 0, .int .u8 0, .int .u8 0, .int .u8 0, .int .u8 0, .int .u8 0, .int .u8 0, .int .u8 0, .int .u8 0, .int .u8 0, .int .u8 0, .int .u8 0, .int .u8 0, .int .u8 0, .int .u8 0, .int .u8 0, .int .u8 0, .int .u8 0, .int .u8 0, .int .u8 0, .int .u8 0, .int .u8 0, .int .u8 0] 90); simpa using this
  have k3 : Blk W0 (w.heap.size + 1 + 1) 90 #[.int .u8 0, .int .u8 0, .int .u8 0, .int .u8 0, .int .u8 0, .int .u8 0, .int .u8 0, .int .u8 0, .int .u8 0, .int .u8 0, .int .u8 0, .int .u8 0, .int .u8 0, .int .u8 0, .int .u8 0, .int .u8 0, .int .u8 0, .int .u8 0, .int .u8 0, .int .u8 0, .int .u8 0, .int .u8 0, .int .u8 0, .int .u8 0, .int .u8 0, .int .u8 0, .int .u8 0, .int .u8 0, .int .u8 0, .int .u8 0, .int .u8 0, .int .u8 0] := by rw [← hW0]; have := Blk.fresh ((w.alloc (.cells (stC s) 100)).alloc (.cells #[.int .u8 0, .int .u8 0, .int .u8 0, .int .u8 0, .int .u8 0, .int .u8 0, .int .u8 0, .int .u8 0, .int .u8 0, .int .u8 0, .int .u8 0, .int .u8 0, .int .u8 0, .int .u8 0, .int .u8 0, .int .u8 0, .int .u8 0, .int .u8 0, .int .u8 0, .int .u8 0, .int .u8 0, .int .u8 0, .int .u8 0, .int .u8 0, .int .u8 0, .int .u8 0, .int .u8 0, .int .u8 0, .int .u8 0, .int .u8 0, .int .u8 0, .int .u8 0] 90)) 90 #[.int .u8 0, .int .u8 0, .int .u8 0, .int .u8 0, .int .u8 0, .int .u8 0, .int .u8 0, .int .u8 0, .int .u8 0, .int .u8 0, .int .u8 0, .int .u8 0, .int .u8 0, .int .u8 0, .int .u8 0, .int .u8 0, .int .u8 0, .int .u8 0, .int .u8 0, .int .u8 0, .int .u8 0, .int .u8 0, .int .u8 0, .int .u8 0, .int .u8 0, .int .u8 0, .int .u8 0, .int .u8 0, .int .u8 0, .int .u8 0, .int .u8 0, .int .u8 0]; simpa using this
  obtain ⟨a0, a1, a2, a3, a4, a5, a6, a7⟩ := cells8 k1
  clear hW0 k1
  go_wp2_with fail
  clear a0 a1 a2 a3 a4 a5 a6 a7
  go_loopw [23] (fun kk wr => ∃ k : Nat, kk = .int .i64 k ∧ k ≤ 8 ∧ Blk wr (w.heap.size + 1) 90 #[.int .u8 0, .int .u8 0, .int .u8 0, .int .u8 0, .int .u8 0, .int .u8 0, .int .u8 0, .int .u8 0, .int .u8 0, .int .u8 0, .int .u8 0, .int .u8 0, .int .u8 0, .int .u8 0, .int .u8 0, .int .u8 0, .int .u8 0, .int .u8 0, .int .u8 0, .int .u8 0, .int .u8 0, .int .u8 0, .int .u8 0, .int .u8 0, .int .u8 0, .int .u8 0, .int .u8 0, .int .u8 0, .int .u8 0, .int .u8 0, .int .u8 0, .int .u8 0] ∧ Blk wr (w.heap.size + 1 + 1) 90 (bsC ((S5.digest s).take (4 * k) ++ List.replicate (32 - 4 * k) 0)) ∧ Below w.heap.size w wr) (fun kk _ => 8 - (intOf kk).toNat)
  case atStart => exact ⟨0, rfl, by omega, k2, k3, hB0⟩
  case round =>
    clear k2 k3 hB0
    obtain ⟨k, rfl, hk, h2, h3, kB⟩ := hrel
    by_cases hlt : k < 8
    · have hidx := HI.out k hlt
      obtain ⟨x, hx⟩ : ∃ x, x = [s.a, s.b, s.c, s.d, s.e, s.f, s.g, s.h].getD k 0 := ⟨_, rfl⟩
      rw [← hx] at hidx
      obtain ⟨d, hd⟩ : ∃ d, d = (S5.digest s).take (4 * k) ++ List.replicate (32 - 4 * k) 0 := ⟨_, rfl⟩
      rw [← hd] at h3
      have hdl : d.length = 32 := by rw [hd]; simp [S5.digest_len]; omega
      have hc := fun j (hj : j < 32) => (show ∃ u, wr.cell? ⟨w.heap.size + 1 + 1, j, none⟩ = some u from ⟨_, by rw [h3.cell, bsC_get d j (by omega)]⟩)
      obtain ⟨u0, c0⟩ := hc (4 * k) (by omega)
      obtain ⟨u1, c1⟩ := hc (4 * k + 1) (by omega)
      obtain ⟨u2, c2⟩ := hc (4 * k + 2) (by omega)
      obtain ⟨u3, c3⟩ := hc (4 * k + 3) (by omega)
      have f0 := h3.free (4 * k)
      have f1 := h3.free (4 * k + 1)
      have f2 := h3.free (4 * k + 2)
      have f3 := h3.free (4 * k + 3)
      have hkI : (k : Int) < 8 := by omega
      have HX := Lib.hid hx; have HD := Lib.hid hd; have H2 := Lib.hid h2; have H3 := Lib.hid h3; have HDL := Lib.hid hdl
      clear hx hd h2 h3 hdl hc
      go_wp2_with fail
      go_roundw
      case rel =>
        have h4 := digest_at s k hlt
        rw [show (S5.stL s).getD k 0 = x from HX.out.symm, show S5.b4 x = [x / 16777216 % 256, x / 65536 % 256, x / 256 % 256, x % 256] by simp [S5.b4]] at h4
        have hfill := fill_four (S5.digest s) 32 k (S5.digest_len s) (by omega) _ _ _ _ h4
        rw [← HD.out] at hfill
        refine ⟨k + 1, by go_num, hlt, (((H2.out.away (by omega) _ _).away (by omega) _ _).away (by omega) _ _).away (by omega) _ _, ?_, below_put (below_put (below_put (below_put kB _ _ (by omega) _) _ _ (by omega) _) _ _ (by omega) _) _ _ (by omega) _⟩
        have := (((H3.out.put (4 * k) (.int .u8 (x / 16777216 % 256))).put (4 * k + 1) (.int .u8 (x / 65536 % 256))).put (4 * k + 2) (.int .u8 (x / 256 % 256))).put (4 * k + 3) (.int .u8 (x % 256))
        rw [bsC_set, bsC_set, bsC_set, bsC_set, hfill] at this
        exact this
      case measure => simp [intOf]; omega
    · obtain rfl : k = 8 := by omega
      have hfull : (S5.digest s).take (4 * 8) ++ List.replicate (32 - 4 * 8) 0 = S5.digest s := by
        rw [show 32 - 4 * 8 = 0 by decide, List.replicate_zero, List.append_nil, List.take_of_length_le (by rw [S5.digest_len]; omega)]
      rw [hfull] at h3
      have K3 := Lib.hid h3; have K2 := Lib.hid h2
      have hl : (S5.digest s).length = 32 := S5.digest_len s
      obtain ⟨D, hD⟩ : ∃ D, D = S5.digest s := ⟨_, rfl⟩
      rw [← hD] at K3 hl
      have HD := Lib.hid hD; have HDL := Lib.hid hl
      clear h2 h3 hfull hD hl
      go_wp2_with (first
        | (refine ld_dg _ D HDL.out K3.out (by rfl) _ (by rfl) (by rfl) ?_)
        | (refine sto_dg _ D HDL.out _ K2.out rfl (by rfl) _ _ (by rfl) (by rfl) (by rfl) ?_; intro wD hwD))
      have hfin : Blk wD (w.heap.size + 1) 90 (bsC D) := by rw [hwD.out]; exact K2.out.row _
      have hfB : Below w.heap.size w wD := by rw [hwD.out]; exact below_row kB _ (by omega) _
      exact bodyPost_ret (results_cell_row rfl _ _ (w.heap.size + 1) _ _ _ _ rfl hfin Tryd.underlying90 rfl (infoDg D HDL.out)) rfl ⟨by rw [HD.out], hfB⟩
end Go.Proofs.YtgfolgmheinbiaaDoorRRR
