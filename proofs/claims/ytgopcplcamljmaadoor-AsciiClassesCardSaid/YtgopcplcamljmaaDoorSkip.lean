/- skip: called with a text, a place in it and a class, it answers where the bytes of the class end, and leaves the world alone; and the functions that only scan: Printable, of the program and of the reference, Trim of the reference. -/
import Derived.Test.YtgopcplcamljmaaDoorSmall
import Derived.Lib.IndexLaws
import Derived.Shelf.Abstract
namespace Go.Proofs.YtgopcplcamljmaaDoor
open Go.RowKit

theorem size_toList (s : ByteArray) : s.data.toList.length = s.size := by simp
theorem get_toList (s : ByteArray) (k : Nat) (h : k < s.size) : s.data.toList[k]'(by rw [size_toList]; exact h) = s[k] := by rfl

set_option maxHeartbeats 400000 in
theorem skip_any (s : ByteArray) (from_ z : Nat) (K : Nat) (p : UInt8 → Bool) (ent : ∀ args w, (callFunc K args).run Tryd.prog w = .ok (.enter K args) w)
    (hcl : ∀ (c : UInt8) w, Calls Tryd.prog K #[.int .u8 c.toNat] w fun e w' => e = .returned (.bool (p c)) ∧ w = w') (w : World) (hs : s.size ≤ maxLen) (hf : from_ ≤ s.size)
    (hz : z = from_ + Asc.span p (s.data.toList.drop from_)) :
    Calls Tryd.prog 49 #[.string s, .int .i64 from_, .func (.func K) #[] #[]] w fun e w' => e = .returned (.int .i64 z) ∧ w = w' := by
  unfold maxLen at hs
  have hsI : (s.size : Int) ≤ 9223372036854775807 := by omega
  have HZ := Lib.hid hz
  have HCL := Lib.hid hcl
  clear hz hcl
  go_enter Tryd.func49, Tryd.ntmps49
  go_wp2_with fail
  go_loop [1] (fun a => ∃ k : Nat, a = .int .i64 k ∧ k ≤ s.size ∧ k + Asc.span p (s.data.toList.drop k) = z) (fun a => s.size - (intOf a).toNat)
  case atStart => exact ⟨from_, rfl, hf, HZ.out.symm⟩
  case round =>
    obtain ⟨k, rfl, hk, hsp⟩ := hrel
    have HSP := Lib.hid hsp
    clear hsp
    by_cases hlt : k < s.size
    · have hc := fun w => HCL.out s[k] w
      obtain ⟨c, hcc⟩ : ∃ c, s[k] = c := ⟨_, rfl⟩
      rw [hcc] at hc
      have hdrop : s.data.toList.drop k = c :: s.data.toList.drop (k + 1) := by
        rw [List.drop_eq_getElem_cons (by rw [size_toList]; exact hlt), get_toList s k hlt, hcc]
      have HD := Lib.hid hdrop
      have HC := Lib.hid hc
      clear hdrop hc
      cases hp : p c with
      | true =>
        have hsp := HSP.out
        rw [HD.out, Asc.span, if_pos hp] at hsp
        have HP := Lib.hid hp
        have HSP2 := Lib.hid hsp
        have hc := HC.out
        rw [hp] at hc
        have HC2 := Lib.hid hc
        clear hp hsp hc HSP HC
        go_wp2_with (refine (HC2.out _).mono ?_; rintro e w' ⟨rfl, rfl⟩)
        go_round
        case rel => exact ⟨k + 1, by go_num, by omega, by have := HSP2.out; omega⟩
        case measure => simp [intOf]; omega
      | false =>
        have hsp := HSP.out
        rw [HD.out, Asc.span, if_neg (by rw [hp]; decide)] at hsp
        have HSP2 := Lib.hid hsp
        have hc := HC.out
        rw [hp] at hc
        have HC2 := Lib.hid hc
        clear hp hsp hc HSP HC
        go_wp2_with (refine (HC2.out _).mono ?_; rintro e w' ⟨rfl, rfl⟩)
        go_ret
        exact ⟨ret_int (by have := HSP2.out; omega), rfl⟩
    · have hnil : s.data.toList.drop k = [] := List.drop_eq_nil_of_le (by rw [size_toList]; omega)
      have hsp := HSP.out
      rw [hnil] at hsp
      simp only [Asc.span] at hsp
      have HSP2 := Lib.hid hsp
      clear hsp hnil
      go_wp2_with fail
      go_ret
      exact ⟨ret_int (by have := HSP2.out; omega), rfl⟩

theorem ent_isBlank (args : Array Value) (w : World) : (callFunc 21 args).run Tryd.prog w = .ok (.enter 21 args) w := enters_of Tryd.func21 (by kernel_rfl) rfl args w
theorem ent_isNotBlank (args : Array Value) (w : World) : (callFunc 55 args).run Tryd.prog w = .ok (.enter 55 args) w := enters_of Tryd.func55 (by kernel_rfl) rfl args w
theorem ent_vis (args : Array Value) (w : World) : (callFunc 50 args).run Tryd.prog w = .ok (.enter 50 args) w := enters_of Tryd.func50 (by kernel_rfl) rfl args w
theorem ent_isDigit (args : Array Value) (w : World) : (callFunc 17 args).run Tryd.prog w = .ok (.enter 17 args) w := enters_of Tryd.func17 (by kernel_rfl) rfl args w

/-- what Printable answers -/
def prAt (s : ByteArray) : Int := if Asc.span vsB s.data.toList < s.size then (Asc.span vsB s.data.toList : Int) else -1

theorem printable_any (s : ByteArray) (w : World) (hs : s.size ≤ maxLen) (z : Int) (hz : z = prAt s) :
    Calls Tryd.prog 24 #[.string s] w fun e w' => e = .returned (.int .i64 z) ∧ w = w' := by
  have hk := fun w => skip_any s 0 (Asc.span vsB s.data.toList) 50 vsB ent_vis isVisibleOrSpace_any w hs (Nat.zero_le _) (by simp)
  unfold prAt at hz
  generalize Asc.span vsB s.data.toList = k at *
  have HK := Lib.hid hk
  have HZ := Lib.hid hz
  clear hk hz
  by_cases h : k < s.size
  · go_enter Tryd.func24, Tryd.ntmps24
    go_wp2_with (go_at_call 49; refine (HK.out _).mono ?_; rintro e w' ⟨rfl, rfl⟩)
    go_ret
    exact ⟨ret_int (by rw [HZ.out, if_pos h]), rfl⟩
  · go_enter Tryd.func24, Tryd.ntmps24
    go_wp2_with (go_at_call 49; refine (HK.out _).mono ?_; rintro e w' ⟨rfl, rfl⟩)
    go_ret
    exact ⟨ret_int (by rw [HZ.out, if_neg (by omega)]), rfl⟩
end Go.Proofs.YtgopcplcamljmaaDoor
