/- Small facts on texts. -/
import Derived.Test.YtcofplbdapjdjaaCls
import Derived.Test.YtcofplbdapjdjaaRow8
namespace Mid
theorem u8_eq (c k : UInt8) : (c == k) = decide ((c.toNat : Int) = (k.toNat : Int)) := by
  rw [Bool.eq_iff_iff, beq_iff_eq, decide_eq_true_eq]
  constructor
  · rintro rfl; rfl
  · intro h; exact UInt8.toNat_inj.1 (by omega)
end Mid
namespace Go.Proofs.Ytcofplbdapjdjaa
open Go.RowKit
theorem size_toList (s : ByteArray) : s.data.toList.length = s.size := by simp
theorem get_toList (s : ByteArray) (k : Nat) (h : k < s.size) : s.data.toList[k]'(by rw [size_toList]; exact h) = s[k] := by rfl
theorem getD_toList (s : ByteArray) (k : Nat) (h : k < s.size) : s.data.toList.getD k 0 = s[k] := by
  rw [List.getD_eq_getElem?_getD, List.getElem?_eq_getElem (by rw [size_toList]; exact h)]; rfl
theorem run_at (s : ByteArray) (k : Nat) (h : k < s.size) (x : UInt8) (hx : s[k] = x) (w : World) : (Instr.index 9 (.string s) (.int .i64 (k : Int))).run Try.prog w = .ok (.int .u8 (x.toNat : Int)) w := by
  have hn : (0 : Int) ≤ (k : Int) ∧ (k : Int) < (s.size : Int) := by omega
  simp [Instr.index, run_underlying Try.underlying9, asIntOf, hn, go_sem]
  rw [getElem?_pos s k h]
  simp [hx]
end Go.Proofs.Ytcofplbdapjdjaa
