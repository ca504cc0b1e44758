/- IndexAny of the two blanks, in whatever string. -/
import Derived.Test.YtcofplbdapjdjaaIdx2
import Derived.Deep.LoopGhost
import Derived.Lib.OthersKept
namespace Go.Proofs.Ytcofplbdapjdjaa
open Go.RowKit Go.Lib

theorem iter_at (w : World) (s : ByteArray) : (w.iter s 0).heap[w.heap.size]? = some (.stringIter s 0) := World.iter_heap w s 0

theorem blank_in (x : UInt8) (h : ([32, 9] : List UInt8).contains x = false) : ¬ (0 : Int) ≤ indexByte ([32, 9] : List UInt8) x := by
  have := contains_iff_indexByte ([32, 9] : List UInt8) x
  rw [h] at this
  exact of_decide_eq_false this.symm
theorem blank_not (x : UInt8) (h : ([32, 9] : List UInt8).contains x = true) : (0 : Int) ≤ indexByte ([32, 9] : List UInt8) x := by
  have := contains_iff_indexByte ([32, 9] : List UInt8) x
  rw [h] at this
  exact of_decide_eq_true this.symm

set_option maxRecDepth 100000 in
set_option maxHeartbeats 2000000 in
theorem idxAny_short (s : ByteArray) (h8 : s.size ≤ 8) (w : World) :
    Calls Try.prog 57 #[.string s, .string ⟨#[32, 9]⟩] w fun e w' => e = .returned (.int .i64 (indexAny s.data.toList [32, 9])) ∧ Below w.heap.size w w' := by
  have HS := Lib.hid (fun W => Try.strings_shouldUseASCIISet (s.size : Int) W)
  have h8z : decide ((8 : Int) < (s.size : Int)) = false := decide_eq_false (by omega)
  rw [h8z] at HS
  have HA := Lib.hid (fun r W h0 h1 => (show Calls Try.prog 65 #[.string ⟨#[32, 9]⟩, .int .i32 r] W fun e w' => e = .returned (.int .i64 (indexByte ([32, 9] : List UInt8) r.toNat.toUInt8)) ∧ w' = W from Try.strings_IndexRune_ascii ⟨#[32, 9]⟩ r W h0 h1))
  have HH := Lib.hid (fun r W h => idxRune_any r h W)
  obtain ⟨K, hK⟩ : ∃ K, K = w.heap.size := ⟨_, rfl⟩
  have hit := iter_at w s
  rw [← hK] at hit
  have B0 := Lib.hid (below_iter w s 0)
  have HKE := Lib.hid hK
  have IT := Lib.hid hit
  clear h8z h8 hit
  go_enter Try.func57, Try.ntmps57
  go_wp2_with fail
  refine (HS.out _).mono ?_
  rintro e w1 ⟨rfl, rfl⟩
  go_wp2_with fail
  obtain ⟨W0, hW0⟩ : ∃ W0, W0 = w1.iter s 0 := ⟨_, rfl⟩
  rw [← hW0] at B0 IT ⊢
  rw [← hK]
  clear hW0 hK
  go_loopg [9, 10] s.size (fun g _ _ wx => ∃ i : Nat, i ≤ s.size ∧ s.size ≤ i + g ∧ Hid (wx.heap[K]? = some (.stringIter s i)) ∧ Hid (Below w1.heap.size w1 wx) ∧ Hid (NoAny s.data.toList [32, 9] i))
  case atStart => exact ⟨0, by omega, by omega, IT, B0, Lib.hid (NoAny.zero _ _)⟩
  case round =>
    clear IT B0
    obtain ⟨i, hi, hig, IT, BX, NO⟩ := hrel
    by_cases hlt : i < s.size
    · obtain ⟨g, rfl⟩ : ∃ g, gk = g + 1 := ⟨gk - 1, by omega⟩
      obtain ⟨x, hx⟩ : ∃ x : UInt8, s[i]'hlt = x := ⟨_, rfl⟩
      have hxl : s.data.toList[i]? = some x := by rw [← hx]; exact data_getElem? s i hlt
      have hiI : (i : Int) ≤ (s.size : Int) := by omega
      by_cases h128 : x.toNat < 128
      · have hnx := fun ty => run_next_ascii_at (P := Try.prog) wr K s i ty IT.out hlt (by rw [hx]; exact h128)
        rw [hx] at hnx
        have IT2 := Lib.hid (iterAt_heap wr K s i (i + 1) IT.out)
        have BX2 := Lib.hid (below_iterAt BX.out (show w1.heap.size ≤ K by rw [HKE.out]; exact Nat.le_refl _) s (i + 1))
        have hback : ((x.toNat : Int)).toNat.toUInt8 = x := by simp
        have HX := Lib.hid (HA.out (x.toNat : Int) (wr.iterAt K s (i + 1)) (by omega) (by omega))
        rw [hback] at HX
        generalize wr.iterAt K s (i + 1) = wn at *
        have hnx0 := hnx
        cases hin : ([32, 9] : List UInt8).contains x
        · have hlt0 := blank_in x hin
          have NO2 := Lib.hid (NO.out.succ hxl hin)
          clear hx hxl h128 hin NO IT BX hback
          generalize indexByte ([32, 9] : List UInt8) x = q at *
          go_wp2_with fail
          refine HX.out.mono ?_
          rintro e w4 ⟨rfl, rfl⟩
          go_wp2_with fail
          go_roundg g
          case measure => omega
          case rel => exact ⟨i + 1, by omega, by omega, IT2, BX2, NO2⟩
        · have hge0 := blank_not x hin
          have HR := Lib.hid (indexAny_hit NO.out hxl hin)
          clear hx hxl h128 hin NO IT BX hback
          generalize indexByte ([32, 9] : List UInt8) x = q at *
          go_wp2_with fail
          refine HX.out.mono ?_
          rintro e w4 ⟨rfl, rfl⟩
          go_wp2_with fail
          go_ret
          exact ⟨by rw [HR.out]; rfl, BX2.out⟩
      · have hnx := fun ty => run_next_any_at (P := Try.prog) wr K s i ty IT.out hlt
        have hdb := decode_bytes s i hlt (by rw [hx]; omega)
        have hdh := decode_high s i hlt (by rw [hx]; omega)
        generalize Utf8.decode s i = D at *
        obtain ⟨r, k⟩ := D
        simp only at hdb hdh hnx
        have hk : i + k ≤ s.size := by have := (hdb (k - 1) (by omega)).1; omega
        have NO2 := Lib.hid (noAny_step NO.out hdb)
        have IT2 := Lib.hid (iterAt_heap wr K s i (i + k) IT.out)
        have BX2 := Lib.hid (below_iterAt BX.out (show w1.heap.size ≤ K by rw [HKE.out]; exact Nat.le_refl _) s (i + k))
        have HX := Lib.hid (HH.out (r : Int) (wr.iterAt K s (i + k)) (by omega))
        generalize wr.iterAt K s (i + k) = wn at *
        clear hx hxl h128 NO IT BX hdb
        go_wp2_with fail
        refine HX.out.mono ?_
        rintro e w4 ⟨rfl, hb4⟩
        have hKlt : K < wn.heap.size := (Array.getElem?_eq_some_iff.1 IT2.out).1
        have IT3 := Lib.hid ((hb4.block K hKlt).trans IT2.out)
        have BX3 := Lib.hid (BX2.out.trans (hb4.mono BX2.out.size))
        clear hb4 IT2 BX2 hKlt
        go_wp2_with fail
        go_roundg g
        case measure => omega
        case rel => exact ⟨i + k, hk, by omega, IT3, BX3, NO2⟩
    · obtain rfl : i = s.size := by omega
      have hnx := fun ty => run_next_end_at (P := Try.prog) wr K s s.size ty IT.out (by omega)
      have hnone : indexAny s.data.toList [32, 9] = -1 := indexAny_none (by rw [size_toList]; exact NO.out)
      have HN := Lib.hid hnone
      clear IT NO hnone
      go_wp2_with fail
      go_ret
      exact ⟨by rw [HN.out]; rfl, BX.out⟩

theorem idxAny_any (s : ByteArray) (hs : s.size ≤ 100000) (w : World) :
    Calls Try.prog 57 #[.string s, .string ⟨#[32, 9]⟩] w fun e w' => e = .returned (.int .i64 (indexAny s.data.toList [32, 9])) ∧ Below w.heap.size w w' := by
  by_cases h8 : s.size ≤ 8
  · exact idxAny_short s h8 w
  · refine (Try.strings_IndexAny_long (fun w => by kernel_rfl) s ⟨#[32, 9]⟩ w (by decide) (by omega) (by omega) (by decide) (fun j b hj => ?_)).mono ?_
    · have hl : b ∈ ([32, 9] : List UInt8) := List.mem_of_getElem? hj
      simp at hl
      rcases hl with rfl | rfl <;> decide
    · rintro e w' ⟨rfl, rfl⟩
      exact ⟨rfl, ((Below.refl _ w).alloc (Nat.le_refl _) _).alloc ((Below.refl w.heap.size w).alloc (Nat.le_refl _) _).size _⟩
end Go.Proofs.Ytcofplbdapjdjaa
