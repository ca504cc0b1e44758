/- Check and Valid: called with a text of at most 100000 bytes they answer U8.check of its bytes, and write nothing that was there. -/
import Derived.Test.YtbjhomihmlijiaaDoorNext
import Derived.Below
import Derived.Lib.IndexLaws
namespace U8
theorem more_size (l : List Nat) (n g k u r z : Nat) (h : more l n g k u = (r, z, 0)) (hg : g + k = n) (hk : k ≤ l.length) : z = n ∧ n ≤ l.length := by
  induction g generalizing k u with
  | zero =>
    simp only [more, Prod.mk.injEq] at h
    omega
  | succ g ih =>
    rw [more] at h
    by_cases h1 : k = l.length
    · rw [if_pos h1] at h; simp at h
    · rw [if_neg h1] at h
      split at h
      · simp at h
      · exact ih (k + 1) _ h (by omega) (by omega)

theorem next_size (l : List Nat) (hl : 0 < l.length) (r z : Nat) (h : next l = (r, z, 0)) : 1 ≤ z ∧ z ≤ l.length := by
  unfold next at h
  simp only at h
  by_cases h1 : len (l.getD 0 0) = 1
  · rw [if_pos h1] at h
    simp only [Prod.mk.injEq] at h
    omega
  · rw [if_neg h1] at h
    split at h
    · simp at h
    · rename_i hc
      have h0 : len (l.getD 0 0) ≠ 0 := by
        intro e
        rw [e] at hc
        simp at hc
      have := more_size l _ _ _ _ _ _ h (by omega) (by omega)
      omega

/-- the scan -/
def check (l : List Nat) : Nat → Nat → Nat × Nat
  | 0, _ => (0, 0)
  | f + 1, at_ => if at_ < l.length then (if (next (l.drop at_)).2.2 = 0 then check l f (at_ + (next (l.drop at_)).2.1) else (at_, (next (l.drop at_)).2.2)) else (0, 0)
end U8
namespace Go.Proofs.YtbjhomihmlijiaaDoor
open Go.RowKit

theorem bytesOf_extract (s : ByteArray) (k : Nat) : bytesOf (s.extract k s.size) = (bytesOf s).drop k := by
  unfold bytesOf
  rw [Lib.extract_data, List.take_of_length_le (by rw [List.length_drop]; simp), List.map_drop]

set_option maxHeartbeats 1000000 in
theorem check_any (s : ByteArray) (w : World) (hT : Tab w) (hmax : s.size ≤ 1000000) (a e : Nat) (hr : U8.check (bytesOf s) s.size 0 = (a, e)) :
    Calls Tryd.prog 16 #[.string s] w fun x w' => x = .returned (.tuple #[.int .i64 a, .int .i64 e]) ∧ Below w.heap.size w w' := by
  have hmaxI : (s.size : Int) ≤ 1000000 := by omega
  have HR := Lib.hid hr
  clear hr
  go_enter Tryd.func16, Tryd.ntmps16
  go_wp2_with fail
  go_loopw [4] (fun at0 wr => ∃ (pos f : Nat), at0 = .int .i64 pos ∧ pos ≤ s.size ∧ s.size - pos ≤ f ∧ U8.check (bytesOf s) f pos = (a, e) ∧ Below w.heap.size w wr) (fun at0 _ => s.size - (intOf at0).toNat)
  case atStart => exact ⟨0, s.size, rfl, Nat.zero_le _, by omega, HR.out, Below.refl _ _⟩
  case round =>
    obtain ⟨pos, f, rfl, hp, hf, hc, hbel⟩ := hrel
    by_cases hlt : pos < s.size
    · obtain ⟨f', rfl⟩ : ∃ f', f = f' + 1 := ⟨f - 1, by omega⟩
      obtain ⟨⟨r, z, e2⟩, hnx⟩ : ∃ x, U8.next ((bytesOf s).drop pos) = x := ⟨_, rfl⟩
      rw [U8.check, if_pos (by rw [bytesOf_length]; exact hlt), hnx] at hc
      simp only at hc
      have hsz : (s.extract pos s.size).size = s.size - pos := by simp
      have hn := next_any (s.extract pos s.size) wr (hT.below hbel hT.1) (by omega) (by omega) r z e2 (by rw [bytesOf_extract, hnx])
      have HN := Lib.hid hn
      by_cases h0 : e2 = 0
      · subst h0
        rw [if_pos rfl] at hc
        have hz := U8.next_size _ (by rw [List.length_drop, bytesOf_length]; omega) r z hnx
        rw [List.length_drop, bytesOf_length] at hz
        have HC := Lib.hid hc
        clear hc hn hnx hsz
        go_wp2_with (go_at_call 37; go_must (refine HN.out.mono ?_; rintro e w' ⟨rfl, hb2⟩))
        go_roundw
        case rel => exact ⟨pos + z, f', by go_num, by omega, by omega, HC.out, hbel.trans (hb2.mono hbel.size)⟩
        case measure => simp [intOf]; omega
      · rw [if_neg h0] at hc
        simp only [Prod.mk.injEq] at hc
        obtain ⟨rfl, rfl⟩ := hc
        have hne : ((e2 : Int) != 0) = true := by simp; omega
        clear hn hnx hsz HR
        go_wp2_with (go_at_call 37; go_must (refine HN.out.mono ?_; rintro e w' ⟨rfl, hb2⟩))
        go_ret2
        exact ⟨rfl, hbel.trans (hb2.mono hbel.size)⟩
    · have hres : (a, e) = (0, 0) := by
        rw [← hc]
        cases f with
        | zero => rfl
        | succ f => rw [U8.check, if_neg (by rw [bytesOf_length]; exact hlt)]
      simp only [Prod.mk.injEq] at hres
      obtain ⟨rfl, rfl⟩ := hres
      clear hc HR
      go_wp2_with fail
      go_ret2
      exact ⟨rfl, hbel⟩

theorem valid_any (s : ByteArray) (w : World) (hT : Tab w) (hmax : s.size ≤ 1000000) (b : Bool) (hb : b = ((((U8.check (bytesOf s) s.size 0).2 : Nat) : Int) == 0)) :
    Calls Tryd.prog 18 #[.string s] w fun x w' => x = .returned (.bool b) ∧ Below w.heap.size w w' := by
  obtain ⟨⟨a, e⟩, he⟩ : ∃ x, U8.check (bytesOf s) s.size 0 = x := ⟨_, rfl⟩
  have hc := check_any s w hT hmax a e he
  rw [he] at hb
  have HC := Lib.hid hc; have HB := Lib.hid hb
  clear hc hb he
  go_enter Tryd.func18, Tryd.ntmps18
  go_wp2_with (go_at_call 16; go_must (refine HC.out.mono ?_; rintro e w' ⟨rfl, hb2⟩))
  go_ret
  exact ⟨by rw [HB.out]; rfl, hb2⟩
end Go.Proofs.YtbjhomihmlijiaaDoor
