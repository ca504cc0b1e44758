/- A nil Hash. -/
import Derived.Test.YtpkbceelbppleaaDoorKnown
import Derived.Deep.CutRange
namespace Go.Proofs.YtpkbceelbppleaaDoor
open Go.RowKit

theorem len_nil (w : World) : Calls Tryd.prog 18 #[.pointer none] w fun e w' => e = .returned (.int .i64 0) ∧ w = w' := by
  go_enter Tryd.func18, Tryd.ntmps18
  go_wp2_with fail
  go_ret
  exact ⟨rfl, rfl⟩
theorem clone_nil (w : World) : Calls Tryd.prog 21 #[.pointer none] w fun e w' => e = .returned (.pointer none) ∧ w = w' := by
  go_enter Tryd.func21, Tryd.ntmps21
  go_wp2_with fail
  go_ret
  exact ⟨rfl, rfl⟩
theorem write_nil (v : Value) (w : World) : Calls Tryd.prog 20 #[.pointer none, v] w fun e w' => e = .returned (.int .i64 1) ∧ w = w' := by
  go_enter Tryd.func20, Tryd.ntmps20
  go_wp2_with fail
  go_ret
  exact ⟨rfl, rfl⟩

/-- the digest of nothing but zeros -/
def zD : List Int := [0, 0, 0, 0, 0, 0, 0, 0, 0, 0, 0, 0, 0, 0, 0, 0, 0, 0, 0, 0, 0, 0, 0, 0, 0, 0, 0, 0, 0, 0, 0, 0]
set_option maxRecDepth 100000 in
set_option maxHeartbeats 1000000 in
theorem sum_nil (w : World) : Calls Tryd.prog 19 #[.pointer none] w fun e w' => e = .returned (.agg (bsC zD)) ∧ Below w.heap.size w w' := by
  obtain ⟨D, hD⟩ : ∃ D, D = zD := ⟨_, rfl⟩
  have hDl : D.length = 32 := by rw [hD]; rfl
  have HDL := Lib.hid hDl; have HD := Lib.hid hD
  clear hDl hD
  go_enter Tryd.func19, Tryd.ntmps19
  go_upto_region 1 with (fail)
  generalize hW0 : w.alloc (.cells #[.int .u8 0, .int .u8 0, .int .u8 0, .int .u8 0, .int .u8 0, .int .u8 0, .int .u8 0, .int .u8 0, .int .u8 0, .int .u8 0, .int .u8 0, .int .u8 0, .int .u8 0, .int .u8 0, .int .u8 0, .int .u8 0, .int .u8 0, .int .u8 0, .int .u8 0, .int .u8 0, .int .u8 0, .int .u8 0, .int .u8 0, .int .u8 0, .int .u8 0, .int .u8 0, .int .u8 0, .int .u8 0, .int .u8 0, .int .u8 0, .int .u8 0, .int .u8 0] 25) = W0
  have hB0 : Below w.heap.size w W0 := by rw [← hW0]; exact (Below.refl _ w).alloc (Nat.le_refl _) _
  have k2 : Blk W0 w.heap.size 25 #[.int .u8 0, .int .u8 0, .int .u8 0, .int .u8 0, .int .u8 0, .int .u8 0, .int .u8 0, .int .u8 0, .int .u8 0, .int .u8 0, .int .u8 0, .int .u8 0, .int .u8 0, .int .u8 0, .int .u8 0, .int .u8 0, .int .u8 0, .int .u8 0, .int .u8 0, .int .u8 0, .int .u8 0, .int .u8 0, .int .u8 0, .int .u8 0, .int .u8 0, .int .u8 0, .int .u8 0, .int .u8 0, .int .u8 0, .int .u8 0, .int .u8 0, .int .u8 0] := by rw [← hW0]; exact Blk.fresh w _ _
  have K2 := Lib.hid k2; have B0 := Lib.hid hB0
  clear hW0 k2 hB0
  go_wp2_with (refine sto_dg _ zD rfl _ K2.out rfl (by rfl) _ _ (by rfl) (by rfl) (by rfl) ?_; intro w5 hw5)
  have hfin : Blk w5 w.heap.size 25 (bsC D) := by rw [hw5.out, HD.out]; exact K2.out.row _
  have hfB : Below w.heap.size w w5 := by rw [hw5.out]; exact below_row B0.out _ (Nat.le_refl _) _
  exact bodyPost_ret (results_cell_row rfl _ _ w.heap.size _ _ _ _ rfl hfin Tryd.underlying25 rfl (infoDg D HDL.out)) rfl ⟨by rw [HD.out], hfB⟩
set_option maxRecDepth 100000 in
theorem eq_zero (w : World) : (Op.equalIn 10000 25 (.agg (bsC zD)) (.agg #[.int .u8 0, .int .u8 0, .int .u8 0, .int .u8 0, .int .u8 0, .int .u8 0, .int .u8 0, .int .u8 0, .int .u8 0, .int .u8 0, .int .u8 0, .int .u8 0, .int .u8 0, .int .u8 0, .int .u8 0, .int .u8 0, .int .u8 0, .int .u8 0, .int .u8 0, .int .u8 0, .int .u8 0, .int .u8 0, .int .u8 0, .int .u8 0, .int .u8 0, .int .u8 0, .int .u8 0, .int .u8 0, .int .u8 0, .int .u8 0, .int .u8 0, .int .u8 0])).run Tryd.prog w = .ok true w := by kernel_rfl
end Go.Proofs.YtpkbceelbppleaaDoor
