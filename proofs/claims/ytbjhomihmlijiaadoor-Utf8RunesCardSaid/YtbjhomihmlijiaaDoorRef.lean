/- Decode; the reference's tables: least, most, lead. -/
import Derived.Test.YtbjhomihmlijiaaDoorCheck
namespace Go.Proofs.YtbjhomihmlijiaaDoor
open Go.RowKit

theorem decode_empty (w : World) : Calls Tryd.prog 19 #[.string ByteArray.empty] w fun x w' => x = .returned (.tuple #[.int .i32 0, .int .i64 0, .int .i64 1]) ∧ w = w' := by
  go_enter Tryd.func19, Tryd.ntmps19
  go_wp2
  go_ret3
  exact ⟨rfl, rfl⟩

theorem decode_any (s : ByteArray) (w : World) (hT : Tab w) (hs : 0 < s.size) (hmax : s.size ≤ 9223372036854775807) (r z e : Nat) (hr : U8.next (bytesOf s) = (r, z, e)) (hne : s.toList.isEmpty = false) :
    Calls Tryd.prog 19 #[.string s] w fun x w' => x = .returned (.tuple #[.int .i32 (if e = 0 then r else 0 : Nat), .int .i64 (if e = 0 then z else 0 : Nat), .int .i64 e]) ∧ Below w.heap.size w w' := by
  have hn := next_any s w hT hs hmax r z e hr
  have HN := Lib.hid hn
  clear hn hr
  by_cases h0 : e = 0
  · subst h0
    rw [if_pos rfl, if_pos rfl]
    go_enter Tryd.func19, Tryd.ntmps19
    go_wp2_with (go_at_call 37; go_must (refine HN.out.mono ?_; rintro e w' ⟨rfl, hb2⟩))
    go_ret3
    exact ⟨rfl, hb2⟩
  · rw [if_neg h0, if_neg h0]
    have hne : ((e : Int) != 0) = true := by simp; omega
    go_enter Tryd.func19, Tryd.ntmps19
    go_wp2_with (go_at_call 37; go_must (refine HN.out.mono ?_; rintro e w' ⟨rfl, hb2⟩))
    go_ret3
    exact ⟨rfl, hb2⟩

theorem lead_any (c : Nat) (w : World) (n v : Nat) (hn : U8.leadN c = n) (hv : U8.leadV c = v) :
    Calls Tryd.prog 48 #[.int .u8 c] w fun x w' => x = .returned (.tuple #[.int .i64 n, .int .i64 v]) ∧ w = w' := by
  unfold U8.leadN at hn
  unfold U8.leadV at hv
  by_cases h1 : c < 128
  · have g1 : (c : Int) < 128 := by omega
    rw [if_pos h1] at hn hv
    subst hn hv
    go_enter Tryd.func48, Tryd.ntmps48
    go_wp2
    go_ret2
    exact ⟨rfl, rfl⟩
  · have g1 : ¬ (c : Int) < 128 := by omega
    rw [if_neg h1] at hn hv
    by_cases h2 : 192 ≤ c ∧ c < 224
    · have g2 : (192 : Int) ≤ (c : Int) := by omega
      have g3 : (c : Int) < 224 := by omega
      have g4 : (c : Int) - 192 = ((c - 192 : Nat) : Int) := by omega
      rw [if_pos h2] at hn hv
      subst hn hv
      go_enter Tryd.func48, Tryd.ntmps48
      go_wp2
      go_ret2
      exact ⟨rfl, rfl⟩
    · rw [if_neg h2] at hn hv
      by_cases h3 : 224 ≤ c ∧ c < 240
      · have g2 : (192 : Int) ≤ (c : Int) := by omega
        have g3 : ¬ (c : Int) < 224 := by omega
        have g4 : (c : Int) < 240 := by omega
        have g8 : (224 : Int) ≤ (c : Int) := by omega
        have g9 : (c : Int) - 224 = ((c - 224 : Nat) : Int) := by omega
        rw [if_pos h3] at hn hv
        subst hn hv
        go_enter Tryd.func48, Tryd.ntmps48
        go_wp2
        go_ret2
        exact ⟨rfl, rfl⟩
      · rw [if_neg h3] at hn hv
        by_cases h4 : 240 ≤ c ∧ c < 248
        · have g2 : (192 : Int) ≤ (c : Int) := by omega
          have g3 : ¬ (c : Int) < 224 := by omega
          have g4 : ¬ (c : Int) < 240 := by omega
          have g5 : (c : Int) < 248 := by omega
          have g8 : (240 : Int) ≤ (c : Int) := by omega
          have g9 : (c : Int) - 240 = ((c - 240 : Nat) : Int) := by omega
          have g6 : (224 : Int) ≤ (c : Int) := by omega
          rw [if_pos h4] at hn hv
          subst hn hv
          go_enter Tryd.func48, Tryd.ntmps48
          go_wp2
          go_ret2
          exact ⟨rfl, rfl⟩
        · rw [if_neg h4] at hn hv
          subst hn hv
          by_cases h5 : c < 192
          · have g2 : ¬ (192 : Int) ≤ (c : Int) := by omega
            have g3 : ¬ (224 : Int) ≤ (c : Int) := by omega
            have g4 : ¬ (240 : Int) ≤ (c : Int) := by omega
            go_enter Tryd.func48, Tryd.ntmps48
            go_wp2
            go_ret2
            exact ⟨rfl, rfl⟩
          · have g2 : (192 : Int) ≤ (c : Int) := by omega
            have g3 : ¬ (c : Int) < 224 := by omega
            have g4 : ¬ (c : Int) < 240 := by omega
            have g5 : ¬ (c : Int) < 248 := by omega
            have g6 : (224 : Int) ≤ (c : Int) := by omega
            have g7 : (240 : Int) ≤ (c : Int) := by omega
            go_enter Tryd.func48, Tryd.ntmps48
            go_wp2
            go_ret2
            exact ⟨rfl, rfl⟩

theorem least_any (n : Nat) (w : World) (hn : n = 1 ∨ n = 2 ∨ n = 3 ∨ n = 4) (m : Nat) (hm : U8.least n = m) :
    Calls Tryd.prog 49 #[.int .i64 n] w fun x w' => x = .returned (.int .i64 m) ∧ Below w.heap.size w w' := by
  subst hm
  rcases hn with rfl | rfl | rfl | rfl
  · show Calls Tryd.prog 49 #[.int .i64 1] w _
    go_enter Tryd.func49, Tryd.ntmps49
    go_wp2
    go_ret
    exact ⟨rfl, (Below.refl _ w).alloc (Nat.le_refl _) _⟩
  · show Calls Tryd.prog 49 #[.int .i64 2] w _
    go_enter Tryd.func49, Tryd.ntmps49
    go_wp2
    go_ret
    exact ⟨rfl, (Below.refl _ w).alloc (Nat.le_refl _) _⟩
  · show Calls Tryd.prog 49 #[.int .i64 3] w _
    go_enter Tryd.func49, Tryd.ntmps49
    go_wp2
    go_ret
    exact ⟨rfl, (Below.refl _ w).alloc (Nat.le_refl _) _⟩
  · show Calls Tryd.prog 49 #[.int .i64 4] w _
    go_enter Tryd.func49, Tryd.ntmps49
    go_wp2
    go_ret
    exact ⟨rfl, (Below.refl _ w).alloc (Nat.le_refl _) _⟩

theorem most_any (n : Nat) (w : World) (hn : n = 1 ∨ n = 2 ∨ n = 3 ∨ n = 4) (m : Nat) (hm : U8.most n = m) :
    Calls Tryd.prog 50 #[.int .i64 n] w fun x w' => x = .returned (.int .i64 m) ∧ Below w.heap.size w w' := by
  subst hm
  rcases hn with rfl | rfl | rfl | rfl
  · show Calls Tryd.prog 50 #[.int .i64 1] w _
    go_enter Tryd.func50, Tryd.ntmps50
    go_wp2
    go_ret
    exact ⟨rfl, (Below.refl _ w).alloc (Nat.le_refl _) _⟩
  · show Calls Tryd.prog 50 #[.int .i64 2] w _
    go_enter Tryd.func50, Tryd.ntmps50
    go_wp2
    go_ret
    exact ⟨rfl, (Below.refl _ w).alloc (Nat.le_refl _) _⟩
  · show Calls Tryd.prog 50 #[.int .i64 3] w _
    go_enter Tryd.func50, Tryd.ntmps50
    go_wp2
    go_ret
    exact ⟨rfl, (Below.refl _ w).alloc (Nat.le_refl _) _⟩
  · show Calls Tryd.prog 50 #[.int .i64 4] w _
    go_enter Tryd.func50, Tryd.ntmps50
    go_wp2
    go_ret
    exact ⟨rfl, (Below.refl _ w).alloc (Nat.le_refl _) _⟩
end Go.Proofs.YtbjhomihmlijiaaDoor
