/- belongs: a byte at a place. -/
import Derived.Test.YtcofplbdapjdjaaSite
namespace Go.Proofs.Ytcofplbdapjdjaa
open Go.RowKit

theorem run_at_lit (d : Array UInt8) (k : Nat) (h : k < d.size) (x : UInt8) (hx : d.toList.getD k 0 = x) (w : World) : (Instr.index 9 (.string ⟨d⟩) (.int .i64 (k : Int))).run Try.prog w = .ok (.int .u8 (x.toNat : Int)) w := by
  refine run_at ⟨d⟩ k h x ?_ w
  rw [← hx, ← getD_toList ⟨d⟩ k h]

set_option maxRecDepth 100000 in
set_option maxHeartbeats 1000000 in
theorem belongs_any (c : UInt8) (k : Nat) (hk : k < 71) (w : World) : Calls Try.prog 58 #[.int .u8 c.toNat, .int .i64 k] w fun e w' => e = .returned (.bool (Mid.good c k)) ∧ w = w' := by
  unfold Mid.good
  by_cases h1 : k < 1
  · obtain rfl : k = 0 := by omega
    have i1 : ∀ w, (Instr.index 9 (.string ⟨#[60]⟩) (.int .i64 0)).run Try.prog w = .ok (.int .u8 60) w := fun w => run_at_lit #[60] 0 (by decide) 60 rfl w
    rw [if_pos h1, show (c == 60) = decide ((c.toNat : Int) = 60) from Mid.u8_eq c 60]
    change Calls Try.prog 58 #[.int .u8 c.toNat, .int .i64 0] w _
    obtain ⟨z, hz⟩ : ∃ z : Int, z = (c.toNat : Int) := ⟨_, rfl⟩
    rw [← hz]
    clear hz h1 hk
    go_enter Try.func58, Try.ntmps58
    go_wp2_with fail
    go_ret
    exact ⟨ret_bool (by first | rfl | simp), rfl⟩
  · rw [if_neg h1]
    have h1I : ¬ (k : Int) < 1 := by omega
    by_cases h2 : k < 65
    · rw [if_pos h2]
      have h2I : (k : Int) < 65 := by omega
      have H := Lib.hid (fun w => isHex_any c w)
      change Calls Try.prog 58 #[.int .u8 c.toNat, .int .i64 k] w fun e w' => e = .returned (.bool (Mid.hxB c)) ∧ w = w'
      generalize Mid.hxB c = q at *
      clear h1 h2 hk
      go_enter Try.func58, Try.ntmps58
      go_wp2_with fail
      refine (H.out _).mono ?_
      rintro e w' ⟨rfl, rfl⟩
      go_wp2_with fail
      go_ret
      exact ⟨rfl, rfl⟩
    · rw [if_neg h2]
      have h2I : ¬ (k : Int) < 65 := by omega
      have i1 := fun w => run_at_lit #[64, 104, 97, 115, 104, 62] (k - 65) (by show k - 65 < 6; omega) (Mid.tail6.getD (k - 65) 0) rfl w
      rw [show ((k - 65 : Nat) : Int) = (k : Int) - 65 by omega] at i1
      rw [Mid.u8_eq]
      generalize Mid.tail6.getD (k - 65) 0 = y at *
      obtain ⟨z, hz⟩ : ∃ z : Int, z = (c.toNat : Int) := ⟨_, rfl⟩
      obtain ⟨u, hu⟩ : ∃ u : Int, u = (y.toNat : Int) := ⟨_, rfl⟩
      have hkI : (k : Int) < 71 := by omega
      have hk0 : 0 ≤ (k : Int) - 65 := by omega
      have hk6 : (k : Int) - 65 < 6 := by omega
      rw [← hz, ← hu]
      rw [← hu] at i1
      clear hz hu h1 h2 hk
      go_enter Try.func58, Try.ntmps58
      go_wp2_with fail
      go_ret
      exact ⟨ret_bool (by first | rfl | simp), rfl⟩
end Go.Proofs.Ytcofplbdapjdjaa
