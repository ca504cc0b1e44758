/- The classes of bytes that layer 11 asks for, of the program and of the reference. -/
import Derived.Test.YteoknmdoghemmaaMidPlain
import Derived.Test.YteoknmdoghemmaaChecked
import Derived.WalkKit
import Derived.WalkSpells
import Derived.WalkLawsBesides
import Derived.Outline
import Derived.LoopTactic
import Derived.Deep.LoopGhost
import Derived.Deep.DeepMust
import Derived.Below
import Derived.Lib.Hide
namespace Mid
def digB (c : UInt8) : Bool := decide (48 ≤ c.toNat) && decide (c.toNat ≤ 57)
def hxB (c : UInt8) : Bool := decide (0 ≤ Asc.nib c)
theorem hxB_eq (c : UInt8) : hxB c = (digB c || (decide (97 ≤ c.toNat) && decide (c.toNat ≤ 102))) := by
  unfold hxB digB Asc.nib
  rw [Bool.eq_iff_iff]
  simp only [Bool.or_eq_true, Bool.and_eq_true, decide_eq_true_eq]
  split
  · constructor
    · intro _; left; assumption
    · intro _; omega
  · split
    · constructor
      · intro _; right; assumption
      · intro _; omega
    · constructor
      · intro h; omega
      · rintro (h | h) <;> contradiction
theorem siteB_eq (c : UInt8) : siteB c = (lowB c || digB c || decide ((c.toNat : Int) = 45) || decide ((c.toNat : Int) = 46)) := by
  have e : ∀ k : UInt8, (c == k) = decide ((c.toNat : Int) = (k.toNat : Int)) := fun k => by
    rw [Bool.eq_iff_iff, beq_iff_eq, decide_eq_true_eq]
    constructor
    · rintro rfl; rfl
    · intro h; exact UInt8.toNat_inj.1 (by omega)
  unfold siteB lowB digB
  rw [e, e]
  rfl
end Mid
namespace Go.Proofs.Yteoknmdoghemmaa
open Go.RowKit
theorem ret_bool {a b : Bool} (h : a = b) : Ending.returned (.bool a) = .returned (.bool b) := by rw [h]
theorem ret_int {a b : Int} (h : a = b) : Ending.returned (.int .i64 a) = .returned (.int .i64 b) := by rw [h]

theorem isLower_any (c : UInt8) (w : World) : Calls Try.prog 65 #[.int .u8 c.toNat] w fun e w' => e = .returned (.bool (Mid.lowB c)) ∧ w = w' := by
  by_cases h1 : (97 : Int) ≤ (c.toNat : Int)
  all_goals
    go_enter Try.func65, Try.ntmps65
    go_wp2
    go_ret
    exact ⟨ret_bool (by unfold Mid.lowB; rw [Bool.eq_iff_iff]; simp; omega), rfl⟩

theorem isDigit_any (c : UInt8) (w : World) : Calls Try.prog 63 #[.int .u8 c.toNat] w fun e w' => e = .returned (.bool (Mid.digB c)) ∧ w = w' := by
  by_cases h1 : (48 : Int) ≤ (c.toNat : Int)
  all_goals
    go_enter Try.func63, Try.ntmps63
    go_wp2
    go_ret
    exact ⟨ret_bool (by unfold Mid.digB; rw [Bool.eq_iff_iff]; simp; omega), rfl⟩

set_option maxRecDepth 20000 in
theorem isHex_any (c : UInt8) (w : World) : Calls Try.prog 52 #[.int .u8 c.toNat] w fun e w' => e = .returned (.bool (Mid.hxB c)) ∧ w = w' := by
  rw [Mid.hxB_eq]
  have hd := fun w => isDigit_any c w
  generalize Mid.digB c = d at *
  have HD := Lib.hid hd
  clear hd
  cases d
  all_goals by_cases h1 : (97 : Int) ≤ (c.toNat : Int)
  all_goals
    go_enter Try.func52, Try.ntmps52
    go_wp2_with (go_at_call 63; refine (HD.out _).mono ?_; rintro e w' ⟨rfl, rfl⟩)
    go_ret
    exact ⟨ret_bool (by rw [Bool.eq_iff_iff]; simp; try omega), rfl⟩

set_option maxRecDepth 20000 in
theorem isSite_any (c : UInt8) (w : World) : Calls Try.prog 55 #[.int .u8 c.toNat] w fun e w' => e = .returned (.bool (Mid.siteB c)) ∧ w = w' := by
  rw [Mid.siteB_eq]
  have hl := fun w => isLower_any c w
  have hd := fun w => isDigit_any c w
  generalize Mid.lowB c = l at *
  generalize Mid.digB c = d at *
  have HD := Lib.hid hd; have HL := Lib.hid hl
  clear hd hl
  obtain ⟨z, hz⟩ : ∃ z : Int, z = (c.toNat : Int) := ⟨_, rfl⟩
  rw [← hz] at HD HL ⊢
  clear hz
  cases l with
  | true =>
    go_enter Try.func55, Try.ntmps55
    go_wp2_with (go_at_call 65; refine (HL.out _).mono ?_; rintro e w' ⟨rfl, rfl⟩)
    go_ret
    exact ⟨ret_bool (by simp), rfl⟩
  | false =>
    cases d with
    | true =>
      go_enter Try.func55, Try.ntmps55
      go_wp2_with (first
        | (go_at_call 65; refine (HL.out _).mono ?_; rintro e w' ⟨rfl, rfl⟩)
        | (go_at_call 63; refine (HD.out _).mono ?_; rintro e w' ⟨rfl, rfl⟩))
      go_ret
      exact ⟨ret_bool (by simp), rfl⟩
    | false =>
      by_cases h1 : z = 45
      · subst h1
        go_enter Try.func55, Try.ntmps55
        go_wp2_with (first
          | (go_at_call 65; refine (HL.out _).mono ?_; rintro e w' ⟨rfl, rfl⟩)
          | (go_at_call 63; refine (HD.out _).mono ?_; rintro e w' ⟨rfl, rfl⟩))
        go_ret
        exact ⟨rfl, rfl⟩
      · by_cases h2 : z = 46
        · subst h2
          clear h1
          go_enter Try.func55, Try.ntmps55
          go_wp2_with (first
            | (go_at_call 65; refine (HL.out _).mono ?_; rintro e w' ⟨rfl, rfl⟩)
            | (go_at_call 63; refine (HD.out _).mono ?_; rintro e w' ⟨rfl, rfl⟩))
          go_ret
          exact ⟨rfl, rfl⟩
        · have HX := Lib.hid (show (false || false || decide (z = 45) || decide (z = 46)) = false by simp [h1, h2])
          rw [HX.out]
          go_enter Try.func55, Try.ntmps55
          go_wp2_with fail
          refine (HL.out _).mono ?_
          rintro e w' ⟨rfl, rfl⟩
          go_wp2_with fail
          refine (HD.out _).mono ?_
          rintro e w' ⟨rfl, rfl⟩
          go_wp2_with fail
          go_ret
          exact ⟨ret_bool (by simp [h1, h2]), rfl⟩

theorem refdigit_any (c : UInt8) (w : World) : Calls Try.prog 41 #[.int .u8 c.toNat] w fun e w' => e = .returned (.int .i64 (Asc.nib c)) ∧ w = w' := by
  have hc := c.toNat_lt
  obtain ⟨a, ha⟩ : ∃ a, Asc.nib c = a := ⟨_, rfl⟩
  rw [ha]
  unfold Asc.nib at ha
  by_cases h1 : 48 ≤ c.toNat ∧ c.toNat ≤ 57
  · rw [if_pos h1] at ha
    have b1 : (48 : Int) ≤ (c.toNat : Int) := by omega
    have b2 : (c.toNat : Int) ≤ 57 := by omega
    have HA := Lib.hid ha
    clear ha h1 hc
    go_enter Try.func41, Try.ntmps41
    go_wp2_with fail
    go_ret
    exact ⟨ret_int HA.out, rfl⟩
  · rw [if_neg h1] at ha
    by_cases h2 : 97 ≤ c.toNat ∧ c.toNat ≤ 102
    · rw [if_pos h2] at ha
      have b1 : (97 : Int) ≤ (c.toNat : Int) := by omega
      have b2 : (c.toNat : Int) ≤ 102 := by omega
      have b3 : ¬ (c.toNat : Int) ≤ 57 := by omega
      have b4 : (48 : Int) ≤ (c.toNat : Int) := by omega
      have HA := Lib.hid (show (c.toNat : Int) - 97 + 10 = a by omega)
      clear ha h1 h2 hc
      go_enter Try.func41, Try.ntmps41
      go_wp2_with fail
      go_ret
      exact ⟨ret_int HA.out, rfl⟩
    · rw [if_neg h2] at ha
      have HA := Lib.hid ha
      by_cases b1 : (48 : Int) ≤ (c.toNat : Int)
      · have b2 : ¬ (c.toNat : Int) ≤ 57 := by omega
        by_cases b3 : (97 : Int) ≤ (c.toNat : Int)
        · have b4 : ¬ (c.toNat : Int) ≤ 102 := by omega
          clear ha h1 h2 hc
          go_enter Try.func41, Try.ntmps41
          go_wp2_with fail
          go_ret
          exact ⟨ret_int HA.out, rfl⟩
        · clear ha h1 h2 hc
          go_enter Try.func41, Try.ntmps41
          go_wp2_with fail
          go_ret
          exact ⟨ret_int HA.out, rfl⟩
      · have b3 : ¬ (97 : Int) ≤ (c.toNat : Int) := by omega
        clear ha h1 h2 hc
        go_enter Try.func41, Try.ntmps41
        go_wp2_with fail
        go_ret
        exact ⟨ret_int HA.out, rfl⟩
end Go.Proofs.Yteoknmdoghemmaa
