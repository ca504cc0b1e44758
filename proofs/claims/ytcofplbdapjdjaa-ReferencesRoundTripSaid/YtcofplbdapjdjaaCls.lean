/- The classes of bytes that Parse asks for. -/
import Derived.Test.YtcofplbdapjdjaaMidPlain
import Derived.Test.YtcofplbdapjdjaaChecked
import Derived.WalkKit
import Derived.WalkSpells
import Derived.WalkLawsBesides
import Derived.Outline
import Derived.LoopTactic
import Derived.Deep.LoopGhost
import Derived.Deep.DeepMust
import Derived.Below
import Derived.Lib.Hide
namespace Mid
def digB (c : UInt8) : Bool := decide (48 ≤ c.toNat) && decide (c.toNat ≤ 57)
def hxB (c : UInt8) : Bool := decide (0 ≤ Asc.nib c)
theorem hxB_eq (c : UInt8) : hxB c = (digB c || (decide (97 ≤ c.toNat) && decide (c.toNat ≤ 102))) := by
  unfold hxB digB Asc.nib
  rw [Bool.eq_iff_iff]
  simp only [Bool.or_eq_true, Bool.and_eq_true, decide_eq_true_eq]
  split
  · constructor
    · intro _; left; assumption
    · intro _; omega
  · split
    · constructor
      · intro _; right; assumption
      · intro _; omega
    · constructor
      · intro h; omega
      · rintro (h | h) <;> contradiction
theorem siteB_eq (c : UInt8) : siteB c = (lowB c || digB c || decide ((c.toNat : Int) = 45) || decide ((c.toNat : Int) = 46)) := by
  have e : ∀ k : UInt8, (c == k) = decide ((c.toNat : Int) = (k.toNat : Int)) := fun k => by
    rw [Bool.eq_iff_iff, beq_iff_eq, decide_eq_true_eq]
    constructor
    · rintro rfl; rfl
    · intro h; exact UInt8.toNat_inj.1 (by omega)
  unfold siteB lowB digB
  rw [e, e]
  rfl
end Mid
namespace Go.Proofs.Ytcofplbdapjdjaa
open Go.RowKit
theorem ret_bool {a b : Bool} (h : a = b) : Ending.returned (.bool a) = .returned (.bool b) := by rw [h]
theorem ret_int {a b : Int} (h : a = b) : Ending.returned (.int .i64 a) = .returned (.int .i64 b) := by rw [h]

theorem isDigit_any (c : UInt8) (w : World) : Calls Try.prog 77 #[.int .u8 c.toNat] w fun e w' => e = .returned (.bool (Mid.digB c)) ∧ w = w' := by
  by_cases h1 : (48 : Int) ≤ (c.toNat : Int)
  all_goals
    go_enter Try.func77, Try.ntmps77
    go_wp2
    go_ret
    exact ⟨ret_bool (by unfold Mid.digB; rw [Bool.eq_iff_iff]; simp; omega), rfl⟩

set_option maxRecDepth 20000 in
theorem isHex_any (c : UInt8) (w : World) : Calls Try.prog 69 #[.int .u8 c.toNat] w fun e w' => e = .returned (.bool (Mid.hxB c)) ∧ w = w' := by
  rw [Mid.hxB_eq]
  have hd := fun w => isDigit_any c w
  generalize Mid.digB c = d at *
  have HD := Lib.hid hd
  clear hd
  cases d
  all_goals by_cases h1 : (97 : Int) ≤ (c.toNat : Int)
  all_goals
    go_enter Try.func69, Try.ntmps69
    go_wp2_with (go_at_call 77; refine (HD.out _).mono ?_; rintro e w' ⟨rfl, rfl⟩)
    go_ret
    exact ⟨ret_bool (by rw [Bool.eq_iff_iff]; simp; try omega), rfl⟩

end Go.Proofs.Ytcofplbdapjdjaa
