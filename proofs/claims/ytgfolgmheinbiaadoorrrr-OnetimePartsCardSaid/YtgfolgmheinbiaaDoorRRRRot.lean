/- Rotations: the library's RotateLeft32, the program's rotate and the reference's rotate. -/
import Derived.Test.YtgfolgmheinbiaaDoorRRRChecked
import Derived.Test.YtgfolgmheinbiaaDoorRRRShaPlain
import Derived.WalkKit
import Derived.Below
import Derived.Lib.Hide
import Derived.Deep.DeepMust
import Derived.Deep.QuietTactic
import Derived.BigQuiet
namespace Go.Proofs.YtgfolgmheinbiaaDoorRRR
open Go.RowKit

/-- the rotations that the program and the reference ask for -/
def Rots (n : Nat) : Prop := n = 2 ∨ n = 6 ∨ n = 7 ∨ n = 11 ∨ n = 13 ∨ n = 17 ∨ n = 18 ∨ n = 19 ∨ n = 22 ∨ n = 25

theorem or_swap (a b : Int) : bits .or .u32 a b = bits .or .u32 b a := by
  unfold bits
  simp [BitVec.or_comm]

theorem rot_back (x : Int) (n : Nat) : bits .or .u32 (x / 2 ^ n) (IntKind.u32.wrap (x * 2 ^ (32 - n))) = S5.rot x n := by
  rw [or_swap]
  show _ = bits .or .u32 (S5.w32 (x * 2 ^ (32 - n))) (x / 2 ^ n)
  congr 1

theorem left_any (x : Int) (n : Nat) (hn : Rots n) (w : World) :
    Calls Tryd.prog 72 #[.int .u32 x, .int .i64 (-(n : Int))] w fun e w' => e = .returned (.int .u32 (S5.rot x n)) ∧ w = w' := by
  have h2 : bits .and .u64 (IntKind.u64.wrap (-2)) 31 = 30 := by decide +kernel
  have h6 : bits .and .u64 (IntKind.u64.wrap (-6)) 31 = 26 := by decide +kernel
  have h7 : bits .and .u64 (IntKind.u64.wrap (-7)) 31 = 25 := by decide +kernel
  have h11 : bits .and .u64 (IntKind.u64.wrap (-11)) 31 = 21 := by decide +kernel
  have h13 : bits .and .u64 (IntKind.u64.wrap (-13)) 31 = 19 := by decide +kernel
  have h17 : bits .and .u64 (IntKind.u64.wrap (-17)) 31 = 15 := by decide +kernel
  have h18 : bits .and .u64 (IntKind.u64.wrap (-18)) 31 = 14 := by decide +kernel
  have h19 : bits .and .u64 (IntKind.u64.wrap (-19)) 31 = 13 := by decide +kernel
  have h22 : bits .and .u64 (IntKind.u64.wrap (-22)) 31 = 10 := by decide +kernel
  have h25 : bits .and .u64 (IntKind.u64.wrap (-25)) 31 = 7 := by decide +kernel
  unfold Rots at hn
  rcases hn with rfl | rfl | rfl | rfl | rfl | rfl | rfl | rfl | rfl | rfl
  · show Calls Tryd.prog 72 #[.int .u32 x, .int .i64 (-2)] w _
    go_enter Tryd.func72, Tryd.ntmps72
    go_wp2_with fail
    go_ret
    exact ⟨rfl, rfl⟩
  · show Calls Tryd.prog 72 #[.int .u32 x, .int .i64 (-6)] w _
    go_enter Tryd.func72, Tryd.ntmps72
    go_wp2_with fail
    go_ret
    exact ⟨rfl, rfl⟩
  · show Calls Tryd.prog 72 #[.int .u32 x, .int .i64 (-7)] w _
    go_enter Tryd.func72, Tryd.ntmps72
    go_wp2_with fail
    go_ret
    exact ⟨rfl, rfl⟩
  · show Calls Tryd.prog 72 #[.int .u32 x, .int .i64 (-11)] w _
    go_enter Tryd.func72, Tryd.ntmps72
    go_wp2_with fail
    go_ret
    exact ⟨rfl, rfl⟩
  · show Calls Tryd.prog 72 #[.int .u32 x, .int .i64 (-13)] w _
    go_enter Tryd.func72, Tryd.ntmps72
    go_wp2_with fail
    go_ret
    exact ⟨rfl, rfl⟩
  · show Calls Tryd.prog 72 #[.int .u32 x, .int .i64 (-17)] w _
    go_enter Tryd.func72, Tryd.ntmps72
    go_wp2_with fail
    go_ret
    exact ⟨rfl, rfl⟩
  · show Calls Tryd.prog 72 #[.int .u32 x, .int .i64 (-18)] w _
    go_enter Tryd.func72, Tryd.ntmps72
    go_wp2_with fail
    go_ret
    exact ⟨rfl, rfl⟩
  · show Calls Tryd.prog 72 #[.int .u32 x, .int .i64 (-19)] w _
    go_enter Tryd.func72, Tryd.ntmps72
    go_wp2_with fail
    go_ret
    exact ⟨rfl, rfl⟩
  · show Calls Tryd.prog 72 #[.int .u32 x, .int .i64 (-22)] w _
    go_enter Tryd.func72, Tryd.ntmps72
    go_wp2_with fail
    go_ret
    exact ⟨rfl, rfl⟩
  · show Calls Tryd.prog 72 #[.int .u32 x, .int .i64 (-25)] w _
    go_enter Tryd.func72, Tryd.ntmps72
    go_wp2_with fail
    go_ret
    exact ⟨rfl, rfl⟩

theorem Rots.le {n : Nat} (h : Rots n) : 1 ≤ n ∧ n ≤ 31 := by unfold Rots at h; omega

theorem rotate_any (x : Int) (n : Nat) (hn : Rots n) (w : World) :
    Calls Tryd.prog 71 #[.int .u32 x, .int .i64 n] w fun e w' => e = .returned (.int .u32 (S5.rot x n)) ∧ w = w' := by
  have hl := hn.le
  have h1 : (n : Int) ≤ 31 := by omega
  have HL := Lib.hid (fun w => left_any x n hn w)
  clear hn hl
  go_enter Tryd.func71, Tryd.ntmps71
  go_wp2_with fail
  refine (HL.out _).mono ?_
  rintro e w' ⟨rfl, rfl⟩
  go_wp2_with fail
  go_ret
  exact ⟨rfl, rfl⟩

theorem refRotate_any (x : Int) (n : Nat) (hn : Rots n) (w : World) :
    Calls Tryd.prog 61 #[.int .u32 x, .int .i64 n] w fun e w' => e = .returned (.int .u32 (S5.rot x n)) ∧ ∃ k, w' = w.drewN k := by
  rw [← rot_back]
  unfold Rots at hn
  rcases hn with rfl | rfl | rfl | rfl | rfl | rfl | rfl | rfl | rfl | rfl
  · show Calls Tryd.prog 61 #[.int .u32 x, .int .i64 2] w _
    go_enter Tryd.func61, Tryd.ntmps61
    go_wp2_with fail
    go_quiet (fail)
    go_wp2_with fail
    go_ret
    exact ⟨rfl, _, rfl⟩
  · show Calls Tryd.prog 61 #[.int .u32 x, .int .i64 6] w _
    go_enter Tryd.func61, Tryd.ntmps61
    go_wp2_with fail
    go_quiet (fail)
    go_wp2_with fail
    go_ret
    exact ⟨rfl, _, rfl⟩
  · show Calls Tryd.prog 61 #[.int .u32 x, .int .i64 7] w _
    go_enter Tryd.func61, Tryd.ntmps61
    go_wp2_with fail
    go_quiet (fail)
    go_wp2_with fail
    go_ret
    exact ⟨rfl, _, rfl⟩
  · show Calls Tryd.prog 61 #[.int .u32 x, .int .i64 11] w _
    go_enter Tryd.func61, Tryd.ntmps61
    go_wp2_with fail
    go_quiet (fail)
    go_wp2_with fail
    go_ret
    exact ⟨rfl, _, rfl⟩
  · show Calls Tryd.prog 61 #[.int .u32 x, .int .i64 13] w _
    go_enter Tryd.func61, Tryd.ntmps61
    go_wp2_with fail
    go_quiet (fail)
    go_wp2_with fail
    go_ret
    exact ⟨rfl, _, rfl⟩
  · show Calls Tryd.prog 61 #[.int .u32 x, .int .i64 17] w _
    go_enter Tryd.func61, Tryd.ntmps61
    go_wp2_with fail
    go_quiet (fail)
    go_wp2_with fail
    go_ret
    exact ⟨rfl, _, rfl⟩
  · show Calls Tryd.prog 61 #[.int .u32 x, .int .i64 18] w _
    go_enter Tryd.func61, Tryd.ntmps61
    go_wp2_with fail
    go_quiet (fail)
    go_wp2_with fail
    go_ret
    exact ⟨rfl, _, rfl⟩
  · show Calls Tryd.prog 61 #[.int .u32 x, .int .i64 19] w _
    go_enter Tryd.func61, Tryd.ntmps61
    go_wp2_with fail
    go_quiet (fail)
    go_wp2_with fail
    go_ret
    exact ⟨rfl, _, rfl⟩
  · show Calls Tryd.prog 61 #[.int .u32 x, .int .i64 22] w _
    go_enter Tryd.func61, Tryd.ntmps61
    go_wp2_with fail
    go_quiet (fail)
    go_wp2_with fail
    go_ret
    exact ⟨rfl, _, rfl⟩
  · show Calls Tryd.prog 61 #[.int .u32 x, .int .i64 25] w _
    go_enter Tryd.func61, Tryd.ntmps61
    go_wp2_with fail
    go_quiet (fail)
    go_wp2_with fail
    go_ret
    exact ⟨rfl, _, rfl⟩
end Go.Proofs.YtgfolgmheinbiaaDoorRRR
