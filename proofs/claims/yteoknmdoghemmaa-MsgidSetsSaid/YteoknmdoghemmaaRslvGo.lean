/- Resolve: the pieces. -/
import Derived.Test.YteoknmdoghemmaaRslvPl
import Derived.Test.YteoknmdoghemmaaConv
import Derived.Test.YteoknmdoghemmaaPrint
namespace Go.Proofs.Yteoknmdoghemmaa
open Go.RowKit Go.Shelf

set_option maxRecDepth 100000 in
set_option maxHeartbeats 1000000 in
theorem isWrong_any (c : UInt8) (w : World) : Calls Try.prog 51 #[.int .u8 c.toNat] w fun e w' => e = .returned (.bool (!Mid.hxB c)) ∧ w = w' := by
  have H := Lib.hid (fun w => isHex_any c w)
  generalize Mid.hxB c = q at *
  obtain ⟨z, hz⟩ : ∃ z : Int, z = (c.toNat : Int) := ⟨_, rfl⟩
  rw [← hz] at H ⊢
  clear hz
  go_enter Try.func51, Try.ntmps51
  go_wp2_with fail
  refine (H.out _).mono ?_
  rintro e w' ⟨rfl, rfl⟩
  go_wp2_with fail
  go_ret
  exact ⟨rfl, rfl⟩

theorem any_take (l : List UInt8) (k : Nat) (hk : k < l.length) (f : UInt8 → Bool) : (l.take (k + 1)).any f = ((l.take k).any f || f l[k]) := by
  rw [List.take_succ_eq_append_getElem hk, List.any_append]; simp only [List.any_cons, List.any_nil, Bool.or_false]

set_option maxRecDepth 100000 in
set_option maxHeartbeats 1000000 in
theorem indexFunc_any (g c : Nat) (l : List UInt8) (w : World) (hl : l.length ≤ 100000) (hr : RowAt w g l) : Calls Try.prog 64 #[.slice (some ⟨g, 0, none⟩) l.length c, .func (.func 51) #[] #[]] w fun e w' => ∃ z : Int, e = .returned (.int .i64 z) ∧ (l.any (fun c => !Mid.hxB c) = decide (0 ≤ z)) ∧ w = w' := by
  obtain ⟨n, hn⟩ : ∃ n, n = l.length := ⟨_, rfl⟩
  rw [← hn] at hl ⊢
  have HN := Lib.hid hn; have HR := Lib.hid hr
  have hnI : (n : Int) ≤ 100000 := by omega
  clear hn hr hl
  go_enter Try.func64, Try.ntmps64
  go_wp2_with fail
  go_loopw [8] (fun i wr => ∃ k : Nat, i = .int .i64 k ∧ k ≤ n ∧ w = wr ∧ Hid ((l.take k).any (fun c => !Mid.hxB c) = false)) (fun i _ => n - (intOf i).toNat)
  case atStart => exact ⟨0, rfl, Nat.zero_le _, rfl, Lib.hid rfl⟩
  case round =>
    obtain ⟨k, rfl, hk, rfl, hf⟩ := hrel
    by_cases hlt : k < n
    · have hkl : k < l.length := by rw [← HN.out]; exact hlt
      have hc := (HR.out.2 k hkl).1
      have hst := any_take l k hkl (fun c => !Mid.hxB c)
      rw [hf.out] at hst
      obtain ⟨x, hx⟩ : ∃ x, l[k] = x := ⟨_, rfl⟩
      rw [hx] at hc hst
      have H1 := Lib.hid (fun w => isWrong_any x w)
      simp only [Bool.false_or] at hst
      obtain ⟨q, hq⟩ : ∃ q, q = Mid.hxB x := ⟨_, rfl⟩
      rw [← hq] at hst H1
      have HST := Lib.hid hst
      obtain ⟨z, hz⟩ : ∃ z : Int, z = (x.toNat : Int) := ⟨_, rfl⟩
      rw [← hz] at hc H1
      have hltI : (k : Int) < (n : Int) := by omega
      clear hst hx hf hq hz
      cases q with
      | true =>
        go_wp2_with fail
        refine (H1.out _).mono ?_
        rintro e w' ⟨rfl, rfl⟩
        go_wp2_with fail
        go_roundw
        case rel => exact ⟨k + 1, by go_num, hlt, by first | rfl | trivial, Lib.hid (by rw [HST.out]; rfl)⟩
        case measure => simp [intOf]; omega
      | false =>
        have htrue : l.any (fun c => !Mid.hxB c) = true := by
          rw [List.any_eq_true]
          have h2 := HST.out
          rw [show (!false) = true from rfl, List.any_eq_true] at h2
          obtain ⟨y, hy, hy2⟩ := h2
          exact ⟨y, List.mem_of_mem_take hy, hy2⟩
        have HTR := Lib.hid htrue
        clear htrue
        go_wp2_with fail
        refine (H1.out _).mono ?_
        rintro e w' ⟨rfl, rfl⟩
        go_wp2_with fail
        go_ret
        exact ⟨k, rfl, by rw [HTR.out]; simp, rfl⟩
    · have hfin := hf.out
      rw [List.take_of_length_le (by rw [← HN.out]; omega)] at hfin
      have HF := Lib.hid hfin
      clear hfin hf
      go_wp2_with fail
      go_ret
      exact ⟨-1, rfl, by rw [HF.out]; rfl, rfl⟩

set_option maxRecDepth 100000 in
set_option maxHeartbeats 1000000 in
theorem containsFunc_any (g c : Nat) (l : List UInt8) (w : World) (hl : l.length ≤ 100000) (hr : RowAt w g l) : Calls Try.prog 53 #[.slice (some ⟨g, 0, none⟩) l.length c, .func (.func 51) #[] #[]] w fun e w' => e = .returned (.bool (l.any (fun c => !Mid.hxB c))) ∧ w = w' := by
  have HI := Lib.hid (indexFunc_any g c l w hl hr)
  generalize l.any (fun c => !Mid.hxB c) = q at *
  clear hr
  go_enter Try.func53, Try.ntmps53
  go_wp2_with fail
  refine HI.out.mono ?_
  rintro e w' ⟨z, rfl, hz, rfl⟩
  have HZ := Lib.hid hz
  clear hz
  go_wp2_with fail
  go_ret
  exact ⟨by rw [HZ.out]; rfl, rfl⟩
end Go.Proofs.Yteoknmdoghemmaa
