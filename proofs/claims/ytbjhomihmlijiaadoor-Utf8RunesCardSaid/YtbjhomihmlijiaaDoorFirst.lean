/- The reference's First: called with a text that is not empty it answers U8.first of its bytes. -/
import Derived.Test.YtbjhomihmlijiaaDoorBegins
namespace U8
theorem begins_len (l : List Nat) (n v : Nat) (h : begins l = (true, n, v)) : 1 ≤ n ∧ n ≤ 4 := by
  match l with
  | [] => simp [begins] at h
  | c :: r =>
    rw [begins] at h
    have h4 := (lead_le c).1
    split at h
    · simp at h
    · split at h
      · split at h
        · simp only [Prod.mk.injEq, true_and] at h
          omega
        · simp at h
      · simp at h
end U8
namespace Go.Proofs.YtbjhomihmlijiaaDoor
open Go.RowKit

theorem bytesOf_upto (s : ByteArray) (k : Nat) : bytesOf (s.extract 0 k) = (bytesOf s).take k := by
  unfold bytesOf
  rw [Lib.extract_data, List.drop_zero, Nat.sub_zero, List.map_take]

set_option maxHeartbeats 1000000 in
theorem refFirst_any (s : ByteArray) (w : World) (hs : 0 < s.size) (hmax : s.size ≤ 1000000) (r z e : Nat) (hr : U8.first (bytesOf s) = (r, z, e)) :
    Calls Tryd.prog 20 #[.string s] w fun x w' => x = .returned (.tuple #[.int .i64 r, .int .i64 z, .int .i64 e]) ∧ Below w.heap.size w w' := by
  have hsI : (1 : Int) ≤ (s.size : Int) := by omega
  have hmaxI : (s.size : Int) ≤ 1000000 := by omega
  obtain ⟨⟨b, n, v⟩, hb⟩ : ∃ x, U8.begins ((bytesOf s).take 1) = x := ⟨_, rfl⟩
  have hz1 : (s.extract 0 1).size = 1 := by simp; omega
  have h1 := fun w => refBegins_any (s.extract 0 1) w (by omega) (by omega) b n v (by rw [bytesOf_upto]; exact hb)
  unfold U8.first at hr
  rw [hb] at hr
  simp only [bytesOf_length] at hr
  have H1 := Lib.hid h1
  clear h1 hz1
  cases b with
  | false =>
    simp only [Bool.not_false, if_true, Prod.mk.injEq] at hr
    obtain ⟨rfl, rfl, rfl⟩ := hr
    clear hb
    go_enter Tryd.func20, Tryd.ntmps20
    go_wp2_with fail
    refine (H1.out _).mono ?_
    rintro e w1 ⟨rfl, hb1⟩
    go_wp2_with fail
    go_ret3
    exact ⟨rfl, hb1⟩
  | true =>
    obtain ⟨hn1, hn4⟩ := U8.begins_len _ n v hb
    simp only [Bool.not_true, Bool.false_eq_true, if_false] at hr
    by_cases hle : n ≤ s.size
    · rw [if_pos hle] at hr
      obtain ⟨⟨b2, n2, v2⟩, hb2⟩ : ∃ x, U8.begins ((bytesOf s).take n) = x := ⟨_, rfl⟩
      have hz2 : (s.extract 0 n).size = n := by simp; omega
      have h2 := fun w => refBegins_any (s.extract 0 n) w (by omega) (by omega) b2 n2 v2 (by rw [bytesOf_upto]; exact hb2)
      rw [hb2] at hr
      have hleI : (n : Int) ≤ (s.size : Int) := by omega
      have H2 := Lib.hid h2
      clear h2 hz2 hb hb2 hle
      cases b2 with
      | false =>
        simp only [Bool.false_eq_true, if_false, Prod.mk.injEq] at hr
        obtain ⟨rfl, rfl, rfl⟩ := hr
        go_enter Tryd.func20, Tryd.ntmps20
        go_wp2_with fail
        refine (H1.out _).mono ?_
        rintro e w1 ⟨rfl, hb1⟩
        go_wp2_with fail
        refine (H2.out _).mono ?_
        rintro e w2 ⟨rfl, hb2⟩
        go_wp2_with fail
        go_ret3
        exact ⟨rfl, hb1.trans (hb2.mono hb1.size)⟩
      | true =>
        simp only [if_true, Prod.mk.injEq] at hr
        obtain ⟨rfl, rfl, rfl⟩ := hr
        go_enter Tryd.func20, Tryd.ntmps20
        go_wp2_with fail
        refine (H1.out _).mono ?_
        rintro e w1 ⟨rfl, hb1⟩
        go_wp2_with fail
        refine (H2.out _).mono ?_
        rintro e w2 ⟨rfl, hb2⟩
        go_wp2_with fail
        go_ret3
        exact ⟨rfl, hb1.trans (hb2.mono hb1.size)⟩
    · rw [if_neg hle] at hr
      obtain ⟨⟨b2, n2, v2⟩, hb2⟩ : ∃ x, U8.begins (bytesOf s) = x := ⟨_, rfl⟩
      have h2 := fun w => refBegins_any s w hs hmax b2 n2 v2 hb2
      rw [hb2] at hr
      have hleI : ¬ (n : Int) ≤ (s.size : Int) := by omega
      have H2 := Lib.hid h2
      clear h2 hb hb2 hle
      cases b2 with
      | false =>
        simp only [Bool.false_eq_true, if_false, Prod.mk.injEq] at hr
        obtain ⟨rfl, rfl, rfl⟩ := hr
        go_enter Tryd.func20, Tryd.ntmps20
        go_wp2_with fail
        refine (H1.out _).mono ?_
        rintro e w1 ⟨rfl, hb1⟩
        go_wp2_with fail
        refine (H2.out _).mono ?_
        rintro e w2 ⟨rfl, hb2⟩
        go_wp2_with fail
        go_ret3
        exact ⟨rfl, hb1.trans (hb2.mono hb1.size)⟩
      | true =>
        simp only [if_true, Prod.mk.injEq] at hr
        obtain ⟨rfl, rfl, rfl⟩ := hr
        go_enter Tryd.func20, Tryd.ntmps20
        go_wp2_with fail
        refine (H1.out _).mono ?_
        rintro e w1 ⟨rfl, hb1⟩
        go_wp2_with fail
        refine (H2.out _).mono ?_
        rintro e w2 ⟨rfl, hb2⟩
        go_wp2_with fail
        go_ret3
        exact ⟨rfl, hb1.trans (hb2.mono hb1.size)⟩
end Go.Proofs.YtbjhomihmlijiaaDoor
