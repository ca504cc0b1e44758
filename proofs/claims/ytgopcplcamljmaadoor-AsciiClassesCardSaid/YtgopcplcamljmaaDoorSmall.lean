/- The classes of bytes, of the program and of the reference: each answers its class and leaves the world alone; skip answers where the bytes of a class end. -/
import Derived.Test.YtgopcplcamljmaaDoorPlainB
import Derived.Test.YtgopcplcamljmaaDoorProg
import Derived.WalkKit
import Derived.WalkSpells
import Derived.WalkLawsBesides
import Derived.Outline
import Derived.LoopTactic
import Derived.Deep.LoopGhost
import Derived.Deep.DeepMust
import Derived.Below
import Derived.Lib.Hide
namespace Go.Proofs.YtgopcplcamljmaaDoor
open Go.RowKit

def loB (c : UInt8) : Bool := decide (97 ≤ c.toNat) && decide (c.toNat ≤ 122)
def upB (c : UInt8) : Bool := decide (65 ≤ c.toNat) && decide (c.toNat ≤ 90)
def viB (c : UInt8) : Bool := decide (33 ≤ c.toNat) && decide (c.toNat ≤ 126)
def blB (c : UInt8) : Bool := decide (c.toNat = 32) || decide (c.toNat = 9)
def vsB (c : UInt8) : Bool := decide (c.toNat = 32) || viB c

theorem blB_eq (c : UInt8) : blB c = Asc.blank c := by
  unfold blB Asc.blank
  rw [Bool.eq_iff_iff]
  simp only [Bool.or_eq_true, decide_eq_true_eq, beq_iff_eq]
  constructor
  · rintro (h | h)
    · exact .inl (UInt8.toNat_inj.1 h)
    · exact .inr (UInt8.toNat_inj.1 h)
  · rintro (rfl | rfl)
    · exact .inl rfl
    · exact .inr rfl

theorem ret_bool {a b : Bool} (h : a = b) : Ending.returned (.bool a) = .returned (.bool b) := by rw [h]
theorem ret_int {a b : Int} (h : a = b) : Ending.returned (.int .i64 a) = .returned (.int .i64 b) := by rw [h]
theorem ret_str {a b : ByteArray} (h : a = b) : Ending.returned (.string a) = .returned (.string b) := by rw [h]

theorem isLower_any (c : UInt8) (w : World) : Calls Tryd.prog 12 #[.int .u8 c.toNat] w fun e w' => e = .returned (.bool (loB c)) ∧ w = w' := by
  by_cases h1 : (97 : Int) ≤ (c.toNat : Int)
  all_goals
    go_enter Tryd.func12, Tryd.ntmps12
    go_wp2
    go_ret
    exact ⟨ret_bool (by unfold loB; rw [Bool.eq_iff_iff]; simp; omega), rfl⟩

theorem refLower_any (c : UInt8) (w : World) : Calls Tryd.prog 13 #[.int .u8 c.toNat] w fun e w' => e = .returned (.bool (loB c)) ∧ w = w' := by
  by_cases h1 : (97 : Int) ≤ (c.toNat : Int)
  all_goals
    go_enter Tryd.func13, Tryd.ntmps13
    go_wp2
    go_ret
    exact ⟨ret_bool (by unfold loB; rw [Bool.eq_iff_iff]; simp; omega), rfl⟩

theorem isUpper_any (c : UInt8) (w : World) : Calls Tryd.prog 14 #[.int .u8 c.toNat] w fun e w' => e = .returned (.bool (upB c)) ∧ w = w' := by
  by_cases h1 : (65 : Int) ≤ (c.toNat : Int)
  all_goals
    go_enter Tryd.func14, Tryd.ntmps14
    go_wp2
    go_ret
    exact ⟨ret_bool (by unfold upB; rw [Bool.eq_iff_iff]; simp; omega), rfl⟩

theorem refUpper_any (c : UInt8) (w : World) : Calls Tryd.prog 15 #[.int .u8 c.toNat] w fun e w' => e = .returned (.bool (upB c)) ∧ w = w' := by
  by_cases h1 : (65 : Int) ≤ (c.toNat : Int)
  all_goals
    go_enter Tryd.func15, Tryd.ntmps15
    go_wp2
    go_ret
    exact ⟨ret_bool (by unfold upB; rw [Bool.eq_iff_iff]; simp; omega), rfl⟩

theorem isDigit_any (c : UInt8) (w : World) : Calls Tryd.prog 17 #[.int .u8 c.toNat] w fun e w' => e = .returned (.bool (Asc.digB c)) ∧ w = w' := by
  by_cases h1 : (48 : Int) ≤ (c.toNat : Int)
  all_goals
    go_enter Tryd.func17, Tryd.ntmps17
    go_wp2
    go_ret
    exact ⟨ret_bool (by unfold Asc.digB; rw [Bool.eq_iff_iff]; simp; omega), rfl⟩

theorem refDigit_any (c : UInt8) (w : World) : Calls Tryd.prog 18 #[.int .u8 c.toNat] w fun e w' => e = .returned (.bool (Asc.digB c)) ∧ w = w' := by
  by_cases h1 : (48 : Int) ≤ (c.toNat : Int)
  all_goals
    go_enter Tryd.func18, Tryd.ntmps18
    go_wp2
    go_ret
    exact ⟨ret_bool (by unfold Asc.digB; rw [Bool.eq_iff_iff]; simp; omega), rfl⟩

theorem isVisible_any (c : UInt8) (w : World) : Calls Tryd.prog 19 #[.int .u8 c.toNat] w fun e w' => e = .returned (.bool (viB c)) ∧ w = w' := by
  by_cases h1 : (33 : Int) ≤ (c.toNat : Int)
  all_goals
    go_enter Tryd.func19, Tryd.ntmps19
    go_wp2
    go_ret
    exact ⟨ret_bool (by unfold viB; rw [Bool.eq_iff_iff]; simp; omega), rfl⟩

theorem refVisible_any (c : UInt8) (w : World) : Calls Tryd.prog 20 #[.int .u8 c.toNat] w fun e w' => e = .returned (.bool (viB c)) ∧ w = w' := by
  by_cases h1 : (33 : Int) ≤ (c.toNat : Int)
  all_goals
    go_enter Tryd.func20, Tryd.ntmps20
    go_wp2
    go_ret
    exact ⟨ret_bool (by unfold viB; rw [Bool.eq_iff_iff]; simp; omega), rfl⟩

theorem isBlank_any (c : UInt8) (w : World) : Calls Tryd.prog 21 #[.int .u8 c.toNat] w fun e w' => e = .returned (.bool (blB c)) ∧ w = w' := by
  by_cases h1 : c.toNat = 32
  · have g1 : ((c.toNat : Int) == 32) = true := by simp; omega
    have HB := Lib.hid (show blB c = true by unfold blB; simp [h1])
    clear h1
    go_enter Tryd.func21, Tryd.ntmps21
    go_wp2
    go_ret
    exact ⟨ret_bool HB.out.symm, rfl⟩
  · have g1 : ((c.toNat : Int) == 32) = false := by simp; omega
    have HB := Lib.hid (show blB c = ((c.toNat : Int) == 9) by unfold blB; rw [Bool.eq_iff_iff]; simp [h1]; omega)
    clear h1
    go_enter Tryd.func21, Tryd.ntmps21
    go_wp2
    go_ret
    exact ⟨ret_bool HB.out.symm, rfl⟩

theorem refBlank_any (c : UInt8) (w : World) : Calls Tryd.prog 22 #[.int .u8 c.toNat] w fun e w' => e = .returned (.bool (blB c)) ∧ w = w' := by
  by_cases h1 : c.toNat = 32
  · have g1 : ((c.toNat : Int) == 32) = true := by simp; omega
    have HB := Lib.hid (show blB c = true by unfold blB; simp [h1])
    clear h1
    go_enter Tryd.func22, Tryd.ntmps22
    go_wp2
    go_ret
    exact ⟨ret_bool HB.out.symm, rfl⟩
  · have g1 : ((c.toNat : Int) == 32) = false := by simp; omega
    have HB := Lib.hid (show blB c = ((c.toNat : Int) == 9) by unfold blB; rw [Bool.eq_iff_iff]; simp [h1]; omega)
    clear h1
    go_enter Tryd.func22, Tryd.ntmps22
    go_wp2
    go_ret
    exact ⟨ret_bool HB.out.symm, rfl⟩

theorem isNotBlank_any (c : UInt8) (w : World) : Calls Tryd.prog 55 #[.int .u8 c.toNat] w fun e w' => e = .returned (.bool (!blB c)) ∧ w = w' := by
  generalize hb : blB c = b
  have hc := fun w => isBlank_any c w
  rw [hb] at hc
  have HC := Lib.hid hc
  clear hc hb
  go_enter Tryd.func55, Tryd.ntmps55
  go_wp2_with (go_at_call 21; refine (HC.out _).mono ?_; rintro e w' ⟨rfl, rfl⟩)
  go_ret
  exact ⟨rfl, rfl⟩

theorem isVisibleOrSpace_any (c : UInt8) (w : World) : Calls Tryd.prog 50 #[.int .u8 c.toNat] w fun e w' => e = .returned (.bool (vsB c)) ∧ w = w' := by
  unfold vsB
  by_cases h1 : c.toNat = 32
  · have g1 : ((c.toNat : Int) == 32) = true := by simp; omega
    simp only [h1, decide_true, Bool.true_or]
    clear h1
    go_enter Tryd.func50, Tryd.ntmps50
    go_wp2
    go_ret
    exact ⟨rfl, rfl⟩
  · have g1 : ((c.toNat : Int) == 32) = false := by simp; omega
    generalize hb : viB c = b
    have hc := fun w => isVisible_any c w
    rw [hb] at hc
    have HC := Lib.hid hc
    simp only [h1, decide_false, Bool.false_or]
    clear h1 hb hc
    go_enter Tryd.func50, Tryd.ntmps50
    go_wp2_with (go_at_call 19; refine (HC.out _).mono ?_; rintro e w' ⟨rfl, rfl⟩)
    go_ret
    exact ⟨rfl, rfl⟩

theorem isLetter_any (c : UInt8) (w : World) : Calls Tryd.prog 16 #[.int .u8 c.toNat] w fun e w' => e = .returned (.bool (loB c || upB c)) ∧ w = w' := by
  generalize ha : loB c = a
  generalize hb : upB c = b
  have h1 := fun w => isLower_any c w
  have h2 := fun w => isUpper_any c w
  rw [ha] at h1
  rw [hb] at h2
  have H1 := Lib.hid h1
  have H2 := Lib.hid h2
  clear ha hb h1 h2
  cases a
  all_goals
    go_enter Tryd.func16, Tryd.ntmps16
    go_wp2_with (first | (go_at_call 12; refine (H1.out _).mono ?_; rintro e w' ⟨rfl, rfl⟩) | (go_at_call 14; refine (H2.out _).mono ?_; rintro e w' ⟨rfl, rfl⟩))
    go_ret
    exact ⟨rfl, rfl⟩
end Go.Proofs.YtgopcplcamljmaaDoor
