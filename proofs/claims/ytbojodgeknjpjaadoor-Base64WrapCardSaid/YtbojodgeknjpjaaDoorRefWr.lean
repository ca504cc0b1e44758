/- The reference's Wrap: called with a text of at most 600 bytes and any width it answers B64.wr of them and leaves the world alone. -/
import Derived.Test.YtbojodgeknjpjaaDoorWrPlain
import Derived.Test.YtbojodgeknjpjaaDoorRefUw
namespace B64
theorem refOut_length (W : Nat) (l : List UInt8) (k : Nat) : (refOut W l k).length ≤ 2 * k := by
  induction k with
  | zero => simp [refOut]
  | succ k ih =>
    rw [refOut, List.length_append, List.length_append]
    have h1 : (l[k]?).toList.length ≤ 1 := by cases l[k]? <;> simp
    have h2 : (if (k + 1) % W = 0 ∨ k + 1 = l.length then [(10 : UInt8)] else []).length ≤ 1 := by split <;> simp
    omega
end B64
namespace Go.Proofs.YtbojodgeknjpjaaDoor
open Go.RowKit

theorem accB_one (s : ByteArray) (acc : List UInt8) (k : Nat) (hk : k < s.size) (c : UInt8) (hc : s[k] = c) : accB acc ++ s.extract k (k + 1) = accB (acc ++ [c]) := by
  rw [accB_add, List.take_one]
  congr 2
  have : s.data.toList.drop k = c :: s.data.toList.drop (k + 1) := by
    rw [List.drop_eq_getElem_cons (by rw [len_toList]; exact hk)]
    have := get_toList s k hk
    rw [hc, List.getElem?_eq_getElem (by rw [len_toList]; exact hk)] at this
    rw [Option.some.inj this]
  rw [this]
  rfl

theorem accB_nl (acc : List UInt8) : accB acc ++ ⟨#[10]⟩ = accB (acc ++ [10]) := by
  apply ByteArray.ext
  apply Array.toList_inj.1
  rw [ByteArray.data_append, Array.toList_append]
  simp [accB]

set_option maxHeartbeats 1000000 in
theorem refWr_any (s : ByteArray) (n : Int) (w : World) (hs : s.size ≤ 600) :
    Calls Tryd.prog 21 #[.string s, .int .i64 n] w fun e w' => e = .returned (.tuple #[.string ⟨(B64.wr n s.data.toList).1.toArray⟩, .int .i64 (B64.wr n s.data.toList).2]) ∧ w = w' := by
  have hsI : (s.size : Int) ≤ 600 := by omega
  by_cases hr : n < 1 ∨ 998 < n
  · have hu : B64.wr n s.data.toList = ([], 2) := by unfold B64.wr; rw [if_pos hr]
    rw [hu]
    clear hu
    by_cases h1 : n < 1
    · go_enter Tryd.func21, Tryd.ntmps21
      go_wp2
      go_ret2
      exact ⟨rfl, rfl⟩
    · have h2 : 998 < n := by omega
      go_enter Tryd.func21, Tryd.ntmps21
      go_wp2
      go_ret2
      exact ⟨rfl, rfl⟩
  · obtain ⟨W, rfl⟩ : ∃ W : Nat, n = (W : Int) := ⟨n.toNat, by omega⟩
    have hW1 : ¬ (W : Int) < 1 := by omega
    have hW2 : ¬ 998 < (W : Int) := by omega
    by_cases h10 : (10 : UInt8) ∈ s.data.toList
    · have hu : B64.wr (W : Int) s.data.toList = ([], 6) := by unfold B64.wr; rw [if_neg hr, if_pos h10]
      rw [hu]
      have H10 := Lib.hid h10
      clear hu h10 hr
      go_enter Tryd.func21, Tryd.ntmps21
      go_wp2_with fail
      go_loop [6] (fun i => ∃ k : Nat, k ≤ s.size ∧ i = .int .i64 k ∧ ∀ j, j < k → s.data.toList[j]? ≠ some 10) (fun i => s.size - (intOf i).toNat)
      case atStart => exact ⟨0, Nat.zero_le _, rfl, fun j h => absurd h (by omega)⟩
      case round =>
        obtain ⟨k, hk, rfl, hno⟩ := hrel
        by_cases hlt : k < s.size
        · obtain ⟨c, hc⟩ : ∃ c, s[k] = c := ⟨_, rfl⟩
          have hgk := get_toList s k hlt
          rw [hc] at hgk
          by_cases h10 : c = 10
          · have hq2 : ((c.toNat : Int) == 10) = true := by rw [h10]; rfl
            clear h10 hno hgk
            go_wp2_with fail
            go_ret2
            exact ⟨rfl, rfl⟩
          · have hq2 : ((c.toNat : Int) == 10) = false := by
              simp
              intro h
              exact h10 (UInt8.toNat_inj.1 (by show c.toNat = 10; omega))
            have hnew : ∀ j, j < k + 1 → s.data.toList[j]? ≠ some 10 := by
              intro j h2 h3
              by_cases hj : j < k
              · exact hno j hj h3
              · rw [show j = k by omega, hgk] at h3
                exact h10 (Option.some.inj h3)
            have HNEW := Lib.hid hnew
            clear hnew h10 hno hgk
            go_wp2_with fail
            go_round
            case rel => exact ⟨k + 1, by omega, by go_num, HNEW.out⟩
            case measure => simp [intOf]; omega
        · exfalso
          obtain ⟨j, hj⟩ := List.getElem?_of_mem H10.out
          have hjl : j < s.data.toList.length := (List.getElem?_eq_some_iff.1 hj).1
          rw [len_toList] at hjl
          exact hno j (by omega) hj
    · have hu : B64.wr (W : Int) s.data.toList = (B64.wrapT W s.data.toList, 0) := by unfold B64.wr; rw [if_neg hr, if_neg h10]; rfl
      rw [hu]
      have H10 := Lib.hid h10
      clear hu h10 hr
      go_enter Tryd.func21, Tryd.ntmps21
      go_wp2_with fail
      go_loop [6] (fun i => ∃ k : Nat, k ≤ s.size ∧ i = .int .i64 k) (fun i => s.size - (intOf i).toNat)
      case atStart => exact ⟨0, Nat.zero_le _, rfl⟩
      case round =>
        obtain ⟨k, hk, rfl⟩ := hrel
        by_cases hlt : k < s.size
        · obtain ⟨c, hc⟩ : ∃ c, s[k] = c := ⟨_, rfl⟩
          have hgk := get_toList s k hlt
          rw [hc] at hgk
          have h10 : c ≠ 10 := fun e => H10.out (by rw [e] at hgk; exact List.mem_of_getElem? hgk)
          have hq2 : ((c.toNat : Int) == 10) = false := by
            simp
            intro h
            exact h10 (UInt8.toNat_inj.1 (by show c.toNat = 10; omega))
          clear h10 hgk
          go_wp2_with fail
          go_round
          case rel => exact ⟨k + 1, by omega, by go_num⟩
          case measure => simp [intOf]; omega
        · have hke : k = s.size := by omega
          subst hke
          go_wp2_with fail
          go_loop [7, 8] (fun out i => ∃ k : Nat, k ≤ s.size ∧ i = .int .i64 k ∧ out = .string (accB (B64.refOut W s.data.toList k))) (fun _ i => s.size - (intOf i).toNat)
          case atStart => exact ⟨0, Nat.zero_le _, rfl, rfl⟩
          case round =>
            obtain ⟨k, hk, rfl, rfl⟩ := hrel
            have hal : (accB (B64.refOut W s.data.toList k)).size ≤ 1200 := by
              rw [accB_size]
              have := B64.refOut_length W s.data.toList k
              omega
            by_cases hlt : k < s.size
            · obtain ⟨c, hc⟩ : ∃ c, s[k] = c := ⟨_, rfl⟩
              have hone := accB_one s (B64.refOut W s.data.toList k) k hlt c hc
              obtain ⟨acc, hacc⟩ : ∃ acc, acc = B64.refOut W s.data.toList k := ⟨_, rfl⟩
              rw [← hacc] at hal hone ⊢
              have HONE := Lib.hid hone
              have hnew : B64.refOut W s.data.toList (k + 1) = acc ++ [c] ++ (if (k + 1) % W = 0 ∨ k + 1 = s.size then [10] else []) := by
                have h1 := get_toList s k hlt
                rw [hc] at h1
                rw [B64.refOut, h1, ← hacc, len_toList]
                rfl
              have HNEW := Lib.hid hnew
              have HACC := Lib.hid hacc
              have hmod : (((k + 1) % W : Nat) : Int) = ((k : Int) + 1) % (W : Int) := by simp
              clear hone hnew hacc
              have hroom : ((accB acc).size : Int) + ((s.extract k (k + 1)).size : Int) ≤ 140737488355328 := by
                simp
                omega
              have hroom2 : ((accB acc ++ s.extract k (k + 1)).size : Int) + 1 ≤ 140737488355328 := by
                simp
                omega
              by_cases hm : (k + 1) % W = 0
              · have hq3 : (((k : Int) + 1) % (W : Int) == 0) = true := by rw [← hmod, hm]; rfl
                have hout : B64.refOut W s.data.toList (k + 1) = acc ++ [c] ++ [10] := by rw [HNEW.out, if_pos (Or.inl hm)]
                have HOUT := Lib.hid hout
                clear hmod hm hout
                go_wp2_with fail
                go_round
                case rel => exact ⟨k + 1, by omega, by go_num, by rw [HONE.out, accB_nl, HOUT.out]⟩
                case measure => simp [intOf]; omega
              · have hq3 : (((k : Int) + 1) % (W : Int) == 0) = false := by
                  rw [← hmod]
                  simp only [beq_eq_false_iff_ne, ne_eq]
                  omega
                by_cases hl : k + 1 = s.size
                · have hout : B64.refOut W s.data.toList (k + 1) = acc ++ [c] ++ [10] := by rw [HNEW.out, if_pos (Or.inr hl)]
                  have HOUT := Lib.hid hout
                  have hq4 : ((k : Int) == (s.size : Int) - 1) = true := by simp; omega
                  clear hmod hm hout hl
                  go_wp2_with fail
                  go_round
                  case rel => exact ⟨k + 1, by omega, by go_num, by rw [HONE.out, accB_nl, HOUT.out]⟩
                  case measure => simp [intOf]; omega
                · have hout : B64.refOut W s.data.toList (k + 1) = acc ++ [c] := by rw [HNEW.out, if_neg (by rintro (h | h); exact hm h; exact hl h), List.append_nil]
                  have HOUT := Lib.hid hout
                  have hq4 : ((k : Int) == (s.size : Int) - 1) = false := by simp; omega
                  clear hmod hm hout hl
                  go_wp2_with fail
                  go_round
                  case rel => exact ⟨k + 1, by omega, by go_num, by rw [HONE.out, HOUT.out]⟩
                  case measure => simp [intOf]; omega
            · have hke : k = s.size := by omega
              subst hke
              have hfin : B64.wrapT W s.data.toList = B64.refOut W s.data.toList s.size := by
                rw [← B64.refOut_eq W (by omega), len_toList]
              have HFIN := Lib.hid hfin
              clear hfin
              go_wp2_with fail
              go_ret2
              rw [HFIN.out]
              exact ⟨rfl, rfl⟩
end Go.Proofs.YtbojodgeknjpjaaDoor
