/- The program's Truncate: it answers the beginning up to the greatest boundary within the limit. -/
import Derived.Test.YtbjhomihmlijiaaDoorCutPlain
import Derived.Lib.SmallJoins
import Derived.Test.YtbjhomihmlijiaaDoorCheck
import Derived.Test.YtbjhomihmlijiaaDoorBytes
import Derived.Test.YtbjhomihmlijiaaDoorShelf
namespace Go.Proofs.YtbjhomihmlijiaaDoor
open Go.RowKit

theorem clone_any (s : ByteArray) (w : World) (hs : s.size ≤ 281474976710656) :
    Calls Tryd.prog 41 #[.string s] w fun e w' => e = .returned (.string s) ∧ Below w.heap.size w w' := by
  go_enter Tryd.func41, Tryd.ntmps41
  go_wp2_with (go_at_call 51; refine (Tryd.stringslite_Clone _ _ hs).mono ?_; rintro e w' ⟨rfl, hb⟩)
  go_ret
  exact ⟨rfl, hb⟩

theorem truncate_err (s : ByteArray) (most : Int) (w : World) (hT : Tab w) (hmax : s.size ≤ 1000000) (a e : Nat) (hr : U8.check (bytesOf s) s.size 0 = (a, e)) (he : e ≠ 0) :
    Calls Tryd.prog 26 #[.string s, .int .i64 most] w fun x w' => x = .returned (.tuple #[.string ⟨#[]⟩, .int .i64 e]) ∧ Below w.heap.size w w' := by
  have HC := Lib.hid (check_any s w hT hmax a e hr)
  have hne : ((e : Int) != 0) = true := by simp; omega
  clear he hr
  go_enter Tryd.func26, Tryd.ntmps26
  go_wp2_with fail
  refine HC.out.mono ?_
  rintro e w1 ⟨rfl, hb1⟩
  go_wp2_with fail
  go_ret2
  exact ⟨rfl, hb1⟩

theorem truncate_neg (s : ByteArray) (most : Int) (hm : most < 0) (w : World) (hT : Tab w) (hmax : s.size ≤ 1000000) (a : Nat) (hr : U8.check (bytesOf s) s.size 0 = (a, 0)) :
    Calls Tryd.prog 26 #[.string s, .int .i64 most] w fun x w' => x = .returned (.tuple #[.string ⟨#[]⟩, .int .i64 2]) ∧ Below w.heap.size w w' := by
  have HC := Lib.hid (check_any s w hT hmax a 0 hr)
  clear hr
  go_enter Tryd.func26, Tryd.ntmps26
  go_wp2_with fail
  refine HC.out.mono ?_
  rintro e w1 ⟨rfl, hb1⟩
  go_wp2_with fail
  go_ret2
  exact ⟨rfl, hb1⟩

set_option maxHeartbeats 1000000 in
theorem truncate_ok (s : ByteArray) (most : Int) (hm : 0 ≤ most) (w : World) (hT : Tab w) (hmax : s.size ≤ 1000000) (a : Nat) (hr : U8.check (bytesOf s) s.size 0 = (a, 0)) (hz : U8.edge (bytesOf s) 0)
    (E : Nat) (hE : U8.edge (bytesOf s) E) (hEm : (E : Int) ≤ most) (hEg : ∀ j, U8.edge (bytesOf s) j → (j : Int) ≤ most → j ≤ E) (t : ByteArray) (ht : t = s.extract 0 E) :
    Calls Tryd.prog 26 #[.string s, .int .i64 most] w fun x w' => x = .returned (.tuple #[.string t, .int .i64 0]) ∧ Below w.heap.size w w' := by
  have hmaxI : (s.size : Int) ≤ 1000000 := by omega
  have HC := Lib.hid (check_any s w hT hmax a 0 hr)
  obtain ⟨e0, he0⟩ : ∃ e0 : Nat, (e0 : Int) = min most (s.size : Int) := ⟨(min most (s.size : Int)).toNat, by omega⟩
  have hmin : min most (s.size : Int) = (e0 : Int) := he0.symm
  have he0s : e0 ≤ s.size := by omega
  have hEs : E ≤ s.size := by
    rcases hE with h | ⟨h, _⟩
    · rw [bytesOf_length] at h; omega
    · rw [bytesOf_length] at h; omega
  have hE0 : E ≤ e0 := by omega
  have HEG := Lib.hid (show ∀ j, U8.edge (bytesOf s) j → j ≤ e0 → j ≤ E from fun j hj h => hEg j hj (by omega))
  have HE := Lib.hid hE; have HZ := Lib.hid hz; have HT := Lib.hid ht; have HCL := Lib.hid (fun w => clone_any t w (by rw [ht]; simp; omega))
  clear hE hz ht hEg hr he0 hEm
  go_enter Tryd.func26, Tryd.ntmps26
  go_wp2_with fail
  refine HC.out.mono ?_
  rintro e w1 ⟨rfl, hb1⟩
  go_wp2_with fail
  clear hmin hm
  go_loop [8] (fun ee => ∃ e : Nat, ee = .int .i64 e ∧ e ≤ e0 ∧ E ≤ e) (fun ee => (intOf ee).toNat)
  case atStart => exact ⟨e0, rfl, Nat.le_refl _, hE0⟩
  case round =>
    obtain ⟨e, rfl, hee, hEe⟩ := hrel
    have hfin : U8.edge (bytesOf s) e → e = E := fun h => Nat.le_antisymm (HEG.out e h hee) hEe
    have HFIN := Lib.hid hfin
    have heI : (e : Int) ≤ (s.size : Int) := by omega
    clear hfin
    by_cases hlt : e < s.size
    · obtain ⟨c, hc⟩ : ∃ c, s[e] = c := ⟨_, rfl⟩
      have hget := bytesOf_get s e hlt
      rw [hc] at hget
      obtain ⟨b, hb⟩ : ∃ b, U8.cont c.toNat = b := ⟨_, rfl⟩
      have HCO := Lib.hid (fun w => cont_any c.toNat c.toNat_lt w b hb)
      have hltI : (e : Int) < (s.size : Int) := by omega
      cases b with
      | true =>
        have hpos : 0 < e := by
          cases e with
          | zero =>
            rcases HZ.out with h | ⟨_, h⟩
            · rw [bytesOf_length] at h; omega
            · rw [hget, hb] at h; simp at h
          | succ e => omega
        have hne : e ≠ E := by
          rintro rfl
          rcases HE.out with h | ⟨_, h⟩
          · rw [bytesOf_length] at h; omega
          · rw [hget, hb] at h; simp at h
        clear hb hget
        go_wp2_with fail
        refine (HCO.out _).mono ?_
        rintro e w2 ⟨rfl, rfl⟩
        go_wp2_with fail
        go_round
        case rel => exact ⟨e - 1, by go_num, by omega, by omega⟩
        case measure => simp [intOf]; omega
      | false =>
        have hq : e = E := HFIN.out (.inr ⟨by rw [bytesOf_length]; exact hlt, by rw [hget, hb]⟩)
        subst hq
        have ht2 : s.extract 0 e = t := HT.out.symm
        clear hb hget
        go_wp2_with fail
        refine (HCO.out _).mono ?_
        rintro e' w2 ⟨rfl, rfl⟩
        go_wp2_with fail
        refine (HCL.out _).mono ?_
        rintro e' w3 ⟨rfl, hb3⟩
        go_wp2_with fail
        go_ret2
        exact ⟨rfl, hb1.trans (hb3.mono hb1.size)⟩
    · have hq : e = E := HFIN.out (.inl (by rw [bytesOf_length]; omega))
      subst hq
      have ht2 : s.extract 0 e = t := HT.out.symm
      have hltI : ¬ (e : Int) < (s.size : Int) := by omega
      go_wp2_with fail
      refine (HCL.out _).mono ?_
      rintro e' w3 ⟨rfl, hb3⟩
      go_wp2_with fail
      go_ret2
      exact ⟨rfl, hb1.trans (hb3.mono hb1.size)⟩
end Go.Proofs.YtbjhomihmlijiaaDoor
