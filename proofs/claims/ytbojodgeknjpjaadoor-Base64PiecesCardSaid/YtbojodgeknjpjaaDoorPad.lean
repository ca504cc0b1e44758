/- The number of padding characters in place, and the size of an encoding of at most 131072 bytes, as the program computes them. -/
import Derived.Test.YtbojodgeknjpjaaDoorMem
import Derived.BigQuiet
import Derived.Deep.QuietTactic
import Derived.Lib.Hide
namespace Go.Proofs.YtbojodgeknjpjaaDoor
open Go.RowKit

theorem suffix_any (s : ByteArray) (p : List UInt8) (b : Bool) (w : World) (hs : s.size ≤ maxLen) (hb : b = Lib.hasSuffix s.data.toList p) :
    Calls Tryd.prog 39 #[.string s, .string ⟨p.toArray⟩] w fun e w' => e = .returned (.bool b) ∧ w = w' := by
  refine (Tryd.strings_HasSuffix s ⟨p.toArray⟩ w hs).mono ?_
  rintro e w' ⟨rfl, rfl⟩
  exact ⟨by rw [hb], rfl⟩

theorem hasSuffix_iff (l p : List UInt8) : Lib.hasSuffix l p = true ↔ p <:+ l := by
  unfold Lib.hasSuffix
  simp

theorem size_toList (s : ByteArray) : s.data.toList.length = s.size := by simp

theorem padding_any (s : ByteArray) (w : World) (hs : s.size ≤ maxLen) :
    Calls Tryd.prog 29 #[.string s] w fun e w' => e = .returned (.int .i64 (B64.pads s.data.toList)) ∧ w = w' := by
  obtain ⟨b1, hb1⟩ : ∃ b, b = Lib.hasSuffix s.data.toList [61] := ⟨_, rfl⟩
  obtain ⟨b2, hb2⟩ : ∃ b, b = Lib.hasSuffix s.data.toList [61, 61] := ⟨_, rfl⟩
  have h1 := suffix_any s [61] b1 w hs hb1
  have h2 := suffix_any s [61, 61] b2 w hs hb2
  have q1 := hasSuffix_iff s.data.toList [61]
  have q2 := hasSuffix_iff s.data.toList [61, 61]
  rw [← hb1] at q1
  rw [← hb2] at q2
  obtain ⟨n, hn⟩ : ∃ n, n = B64.pads s.data.toList := ⟨_, rfl⟩
  have hn2 := hn
  unfold B64.pads at hn2
  rw [size_toList] at hn2
  rw [← hn]
  have H1 := Lib.hid h1
  have H2 := Lib.hid h2
  have HN := Lib.hid hn2
  have Q1 := Lib.hid q1
  have Q2 := Lib.hid q2
  clear h1 h2 hn2 hn hb1 hb2 q1 q2
  by_cases h4 : s.size % 4 = 0
  · have g4 : ((s.size : Int) % 4 != 0) = false := by simp; omega
    cases b1
    · go_enter Tryd.func29, Tryd.ntmps29
      go_wp2_with (go_at_call 39; refine H1.out.mono ?_; rintro e w' ⟨rfl, rfl⟩)
      go_ret
      refine ⟨?_, rfl⟩
      rw [HN.out, if_neg (by rintro ⟨_, h⟩; exact absurd (Q1.out.2 h) (by simp))]
      rfl
    · cases b2
      · go_enter Tryd.func29, Tryd.ntmps29
        go_wp2_with fail
        refine H1.out.mono ?_
        rintro e w' ⟨rfl, rfl⟩
        go_wp2_with fail
        refine H2.out.mono ?_
        rintro e w' ⟨rfl, rfl⟩
        go_wp2_with fail
        go_ret
        refine ⟨?_, rfl⟩
        rw [HN.out, if_pos ⟨h4, by simpa using Q1.out⟩, if_neg (fun h => absurd (Q2.out.2 h) (by simp))]
        rfl
      · go_enter Tryd.func29, Tryd.ntmps29
        go_wp2_with fail
        refine H1.out.mono ?_
        rintro e w' ⟨rfl, rfl⟩
        go_wp2_with fail
        refine H2.out.mono ?_
        rintro e w' ⟨rfl, rfl⟩
        go_wp2_with fail
        go_ret
        refine ⟨?_, rfl⟩
        rw [HN.out, if_pos ⟨h4, by simpa using Q1.out⟩, if_pos (by simpa using Q2.out)]
        rfl
  · have g4 : ((s.size : Int) % 4 != 0) = true := by simp; omega
    go_enter Tryd.func29, Tryd.ntmps29
    go_wp2_with fail
    go_ret
    refine ⟨?_, rfl⟩
    rw [HN.out, if_neg (fun h => h4 h.1)]
    rfl

theorem size_ok (n : Int) (w : World) (h0 : 0 ≤ n) (h1 : n ≤ 131072) :
    Calls Tryd.prog 15 #[.int .i64 n] w fun e w' => e = .returned (.int .i64 ((n + 2) / 3 * 4)) ∧ w = w' := by
  have g1 : decide (n < 0) = false := by simp; omega
  have g2 : ¬ n < 0 := by omega
  have g3 : ¬ 131072 < n := by omega
  go_enter Tryd.func15, Tryd.ntmps15
  go_wp2
  go_ret
  exact ⟨rfl, rfl⟩
end Go.Proofs.YtbojodgeknjpjaaDoor
