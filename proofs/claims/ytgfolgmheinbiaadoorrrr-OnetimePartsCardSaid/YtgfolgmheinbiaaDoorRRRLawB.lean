/- What the laws share: in, the zero value. -/
import Derived.Test.YtgfolgmheinbiaaDoorRRRFrame
namespace Go.Proofs.YtgfolgmheinbiaaDoorRRR
open Go.RowKit

def inB (n m : Int) : Bool := decide (0 ≤ n ∧ n ≤ m)
theorem inB_lf (n : Int) : inB n 65535 = lfB n := rfl
theorem inB_ch (n : Int) : inB n 34 = chB n := rfl
theorem inB_yes {n m : Int} (h : 0 ≤ n) (h2 : n ≤ m) : inB n m = true := decide_eq_true ⟨h, h2⟩
theorem inB_no {n m : Int} (h : n < 0 ∨ m < n) : inB n m = false := decide_eq_false (by omega)
theorem in_any (n m : Int) (w : World) : Calls Tryd.prog 18 #[.int .i64 n, .int .i64 m] w fun e w' => e = .returned (.bool (inB n m)) ∧ w = w' := by
  have h : inB n m = decide (0 ≤ n ∧ n ≤ m) := rfl
  obtain ⟨b, hb⟩ : ∃ b, b = inB n m := ⟨_, rfl⟩
  rw [← hb] at h ⊢
  rcases chk_of h with ⟨rfl, h1, h2⟩ | ⟨rfl, h1⟩
  · clear h hb
    go_enter Tryd.func18, Tryd.ntmps18
    go_wp2_with fail
    go_ret
    exact ⟨rfl, rfl⟩
  · clear h hb
    by_cases h0 : 0 ≤ n
    · have h3 : ¬ n ≤ m := by omega
      clear h1
      go_enter Tryd.func18, Tryd.ntmps18
      go_wp2_with fail
      go_ret
      exact ⟨rfl, rfl⟩
    · clear h1
      go_enter Tryd.func18, Tryd.ntmps18
      go_wp2_with fail
      go_ret
      exact ⟨rfl, rfl⟩
set_option maxRecDepth 100000 in
theorem eq_zero16 (w : World) : (Op.equalIn 10000 22 (.agg (bsC z16)) (.agg #[.int .u8 0, .int .u8 0, .int .u8 0, .int .u8 0, .int .u8 0, .int .u8 0, .int .u8 0, .int .u8 0, .int .u8 0, .int .u8 0, .int .u8 0, .int .u8 0, .int .u8 0, .int .u8 0, .int .u8 0, .int .u8 0])).run Tryd.prog w = .ok true w := eq_same (t := 22) Tryd.underlying22 z16 z16_len w
end Go.Proofs.YtgfolgmheinbiaaDoorRRR
