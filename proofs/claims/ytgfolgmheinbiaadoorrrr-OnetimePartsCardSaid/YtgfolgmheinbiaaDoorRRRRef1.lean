/- The reference's constants. -/
import Derived.Test.YtgfolgmheinbiaaDoorRRRArr
import Derived.Deep.CutRange
namespace Go.Proofs.YtgfolgmheinbiaaDoorRRR
open Go.RowKit

theorem info64 (l : List Int) (h : l.length = 64) : (Tryd.prog.info? 94).map (·.size) = some (wsC l).size := by rw [wsC_size, h]; kernel_rfl
theorem ld_w64 {ops : Array Oper} {rest : List Oper} {o : Oper} {a : Act} {w : World} {Q : Exit → Act → World → Prop} (g : Nat) (l : List Int) (hl : l.length = 64) (h : Blk w g 94 (wsC l)) (hgd : o.guard = none) (x : Operand) (ho : o.op = .load 94 x)
    (hx : a.eval x = .pointer (some ⟨g, 0, none⟩)) (hk : wpList Tryd.prog ops Q rest (a.put o.dst (.agg (wsC l))) w) : wpList Tryd.prog ops Q (o :: rest) a w :=
  wpList_load_row hgd _ x ho g hx _ _ _ _ h Tryd.underlying94 rfl (info64 l hl) hk
theorem sto_w64 {ops : Array Oper} {rest : List Oper} {o : Oper} {a : Act} {w : World} {Q : Exit → Act → World → Prop} (g : Nat) (l : List Int) (hl : l.length = 64) (old : Array Value) (h : Blk w g 94 old) (hold : old.size = 64) (hgd : o.guard = none) (x y : Operand) (ho : o.op = .store 94 x y)
    (hx : a.eval x = .pointer (some ⟨g, 0, none⟩)) (hy : a.eval y = .agg (wsC l)) (hk : ∀ w', Hid (w' = w.setRow g (wsC l)) → wpList Tryd.prog ops Q rest (a.put o.dst undef) w') : wpList Tryd.prog ops Q (o :: rest) a w :=
  wpList_store_row hgd _ x y ho g _ hx hy _ _ h (info64 l hl) (by rw [hold, wsC_size, hl]) (wsC_one l) (hk _ (Lib.hid rfl))

def z64 : List Int := List.replicate 64 0
theorem z64_len : z64.length = 64 := by decide
theorem k64_len : S5.kL.length = 64 := by decide

set_option maxRecDepth 100000 in
set_option maxHeartbeats 1000000 in
theorem constants_any (w : World) : Calls Tryd.prog 58 #[] w fun e w' => e = .returned (.agg (wsC S5.kL)) ∧ Below w.heap.size w w' := by
  go_enter Tryd.func58, Tryd.ntmps58
  go_upto_region 1 with (fail)
  change Code.wp Tryd.prog _ _ _ (w.alloc (.cells (wsC z64) 94))
  generalize hW0 : w.alloc (.cells (wsC z64) 94) = W0
  have B0 := Lib.hid (show Below w.heap.size w W0 by rw [← hW0]; exact (Below.refl _ w).alloc (Nat.le_refl _) _)
  have K0 := Lib.hid (show Blk W0 w.heap.size 94 (wsC z64) by rw [← hW0]; exact Blk.fresh w _ _)
  clear hW0
  go_wp2_with (refine sto_w64 _ S5.kL k64_len _ K0.out (by rw [wsC_size]; exact z64_len) (by rfl) _ _ (by rfl) (by rfl) (by rfl) ?_; intro w1 hw1)
  have hfin : Blk w1 w.heap.size 94 (wsC S5.kL) := by rw [hw1.out]; exact K0.out.row _
  have hfB : Below w.heap.size w w1 := by rw [hw1.out]; exact below_row B0.out _ (Nat.le_refl _) _
  exact bodyPost_ret (results_cell_row rfl _ _ w.heap.size _ _ _ _ rfl hfin Tryd.underlying94 rfl (info64 S5.kL k64_len)) rfl ⟨rfl, hfB⟩
end Go.Proofs.YtgfolgmheinbiaaDoorRRR
