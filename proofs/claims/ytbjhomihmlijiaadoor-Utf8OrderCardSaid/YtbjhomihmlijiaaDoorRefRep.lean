/- The reference's Repair: it answers the same text as the program's. -/
import Derived.Test.YtbjhomihmlijiaaDoorWhole
import Derived.Test.YtbjhomihmlijiaaDoorRefEnc2
namespace Go.Proofs.YtbjhomihmlijiaaDoor
open Go.RowKit

theorem bytesOf_append (a b : ByteArray) : bytesOf (a ++ b) = bytesOf a ++ bytesOf b := by unfold bytesOf; simp

set_option maxRecDepth 20000 in
set_option maxHeartbeats 2000000 in
theorem refRepair_any (s : ByteArray) (w : World) (hmax : s.size ≤ 100000) (t : ByteArray) (ht : t = baOf (U8.rep (bytesOf s) s.size 0)) :
    Calls Tryd.prog 28 #[.string s] w fun e w' => e = .returned (.string t) ∧ Below w.heap.size w w' := by
  have hmaxI : (s.size : Int) ≤ 100000 := by omega
  obtain ⟨q, hq⟩ : ∃ q : ByteArray, q = baOf [239, 191, 189] := ⟨_, rfl⟩
  have hqb : bytesOf q = [239, 191, 189] := by rw [hq]; exact bytesOf_baOf _ (by decide)
  have hqs : q.size = 3 := by rw [hq]; rfl
  have HRE := Lib.hid (fun w => refEncode_any 65533 (by omega) w (U8.enc 65533) rfl)
  have HCV := Lib.hid (show ∀ (W w' : World) (v : Value), Nb W w' v (U8.enc 65533) → (convert 38 9 v).run Tryd.prog w' = .ok (.string q) w' from fun W w' v h => by
    unfold Nb at h
    rw [nb_bytes _ (U8.enc_lt 65533 (by unfold U8.ok; omega))] at h
    rw [hq, ← enc_repl]
    exact conv_row h)
  have HQ := Lib.hid hqb; have HT := Lib.hid ht
  clear hqb hq ht
  go_enter Tryd.func28, Tryd.ntmps28
  go_wp2_with fail
  go_loopw [3, 4] (fun o at0 wr => ∃ (k f : Nat) (o1 : ByteArray), o = .string o1 ∧ at0 = .int .i64 k ∧ k ≤ s.size ∧ s.size - k ≤ f ∧ o1.size ≤ 3 * k ∧ U8.rep (bytesOf s) s.size 0 = bytesOf o1 ++ U8.rep (bytesOf s) f k ∧ Below w.heap.size w wr) (fun _ at0 _ => s.size - (intOf at0).toNat)
  case atStart => exact ⟨0, s.size, ⟨#[]⟩, rfl, rfl, Nat.zero_le _, by omega, Nat.zero_le _, rfl, Below.refl _ _⟩
  case round =>
    obtain ⟨k, f, o1, rfl, rfl, hk, hf, hol, hrep, hbel⟩ := hrel
    have hsz : w.heap.size ≤ wr.heap.size := hbel.size
    by_cases hlt : k < s.size
    · obtain ⟨f', rfl⟩ : ∃ f', f = f' + 1 := ⟨f - 1, by omega⟩
      obtain ⟨L, hL⟩ : ∃ L, L = (bytesOf s).drop k := ⟨_, rfl⟩
      have hLl : L.length = s.size - k := by rw [hL, List.length_drop, bytesOf_length]
      have hLb : ∀ x ∈ L, x < 256 := fun x hx => bytesOf_lt s x (by rw [hL] at hx; exact List.mem_of_mem_drop hx)
      have hLn : L ≠ [] := by intro e; rw [e] at hLl; simp at hLl; omega
      obtain ⟨⟨r, z, e2⟩, hnx⟩ : ∃ x, U8.next L = x := ⟨_, rfl⟩
      obtain ⟨⟨r', z', e'⟩, hfx⟩ : ∃ x, U8.first L = x := ⟨_, rfl⟩
      have hes : (s.extract k s.size).size = s.size - k := by simp
      have HF := Lib.hid (refFirst_any (s.extract k s.size) wr (by omega) (by omega) r' z' e' (by rw [bytesOf_extract, ← hL, hfx]))
      obtain ⟨f1, f2, f3⟩ := U8.next_first L hLn hLb
      rw [hnx, hfx] at f1 f2 f3
      simp only at f1 f2 f3
      subst f1
      have hzl := U8.next_le L (by omega)
      rw [hnx, hLl] at hzl
      simp only at hzl
      rw [U8.rep, if_pos (by rw [bytesOf_length]; exact hlt), ← hL, hnx] at hrep
      simp only at hrep
      by_cases h0 : e' = 0
      · subst h0
        have h12 := f2 rfl
        simp only [Prod.mk.injEq, and_true] at h12
        obtain ⟨rfl, rfl⟩ := h12
        obtain ⟨z1, _⟩ := U8.next_size L (by omega) r' z' hnx
        rw [if_pos rfl, ← List.append_assoc, show max z' 1 = z' by omega, hL, ← bytesOf_part, ← bytesOf_append] at hrep
        obtain ⟨y, hy⟩ : ∃ y, y = s.extract k (k + z') := ⟨_, rfl⟩
        have hys : y.size ≤ z' := by rw [hy]; simp; omega
        rw [← hy] at hrep
        have hy2 : s.extract k (k + z') = y := hy.symm
        obtain ⟨o2, ho2⟩ : ∃ o2, o1 ++ y = o2 := ⟨_, rfl⟩
        have hos : o2.size = o1.size + y.size := by rw [← ho2]; exact ByteArray.size_append
        have hroom : (o1.size : Int) + (y.size : Int) ≤ 140737488355328 := by omega
        have hkz : (k : Int) + (z' : Int) ≤ (s.size : Int) := by omega
        have hol2 : o2.size ≤ 3 * (k + z') := by omega
        rw [ho2] at hrep
        have HREP := Lib.hid hrep; have HOL := Lib.hid hol2
        clear hrep hol2 hos hy hnx hfx f2 f3 hL hLl hLb hLn hzl
        go_wp2_with fail
        refine HF.out.mono ?_
        rintro e w2 ⟨rfl, hb2⟩
        go_wp2_with fail
        go_roundw
        case rel => exact ⟨k + z', f', o2, rfl, by go_num, by omega, by omega, HOL.out, HREP.out, hbel.trans (hb2.mono hsz)⟩
        case measure => simp [intOf]; omega
      · have hne : ((e' : Int) == 0) = false := by simp; omega
        rw [if_neg h0, ← List.append_assoc, ← HQ.out, ← bytesOf_append] at hrep
        have hsk := U8.next_skip L hLn hLb (by rw [hnx]; exact h0)
        rw [hnx] at hsk
        simp only at hsk
        rw [← hsk] at hrep
        obtain ⟨o2, ho2⟩ : ∃ o2, o1 ++ q = o2 := ⟨_, rfl⟩
        have hos : o2.size = o1.size + q.size := by rw [← ho2]; exact ByteArray.size_append
        have hroom : (o1.size : Int) + (q.size : Int) ≤ 140737488355328 := by omega
        rw [ho2] at hrep
        obtain ⟨m0, hm0⟩ : ∃ m, m = U8.skip L := ⟨_, rfl⟩
        rw [← hm0] at hrep
        have hm1 : 1 ≤ m0 := by omega
        have hm2 : k + m0 ≤ s.size := by omega
        have hol2 : o2.size ≤ 3 * (k + m0) := by omega
        have HREP := Lib.hid hrep; have HOL := Lib.hid hol2; have HM0 := Lib.hid hm0
        have HLL := Lib.hid hLl
        have HPART := Lib.hid (show ∀ j, bytesOf (s.extract k (k + j)) = L.take j from fun j => by rw [bytesOf_part, hL])
        obtain ⟨rfl, rfl⟩ := f3 h0
        clear hrep hol2 hos hnx hfx f2 f3 hL hLb hLn hzl hsk hm0 hLl h0
        go_wp2_with fail
        refine HF.out.mono ?_
        rintro e w2 ⟨rfl, hb2⟩
        have hbel2 := hbel.trans (hb2.mono hsz)
        clear hb2 HF
        go_wp2_with fail
        obtain ⟨wo, hwo⟩ : ∃ wo : World, wo = w2 := ⟨_, rfl⟩
        subst hwo
        go_loopw [6, 8] (fun nn jj wr => ∃ (j : Nat), jj = .int .i64 j ∧ nn = .int .i64 (U8.nk L j) ∧ (j = 2 ∨ j = 3 ∨ j = 4) ∧ Below w.heap.size w wr) (fun _ jj _ => 4 - (intOf jj).toNat)
        case atStart => exact ⟨2, rfl, rfl, .inl rfl, hbel2⟩
        case round =>
          obtain ⟨j, rfl, rfl, hj, hbr⟩ := hrel
          have hsz2 := hbr.size
          have hnk := U8.nk_le L j
          obtain ⟨m, hm⟩ : ∃ m, m = U8.nk L j := ⟨_, rfl⟩
          rw [← hm] at hnk ⊢
          have HM := Lib.hid hm
          by_cases hgo : j ≤ 3 ∧ k + j ≤ s.size
          · obtain ⟨hj3, hkj⟩ := hgo
            have hj2 : j = 2 ∨ j = 3 := by omega
            obtain ⟨⟨b, n, v⟩, hbe⟩ : ∃ x, U8.begins (L.take j) = x := ⟨_, rfl⟩
            have hys : (s.extract k (k + j)).size = j := by simp; omega
            have HB := Lib.hid (refBegins_any (s.extract k (k + j)) wr (by omega) (by omega) b n v (by rw [HPART.out, hbe]))
            have hjI : (j : Int) ≤ 3 := by omega
            have hkjI : (k : Int) + (j : Int) ≤ (s.size : Int) := by omega
            by_cases hc : b = true ∧ j < n ∧ m = j - 1
            · obtain ⟨hb, hjn, hmj⟩ := hc
              have hnext := U8.nk_yes L j hj2 (by rw [HLL.out]; omega) b n v hbe hb hjn (by rw [← hm]; exact hmj)
              subst hb
              have hq1 : decide (j < n) = true := by simp; omega
              have hq2 : ((m : Int) == (j : Int) - 1) = true := by simp; omega
              have HN := Lib.hid hnext
              clear hnext hm hbe hys hj hnk hmj hjn
              go_wp2_with fail
              refine HB.out.mono ?_
              rintro e w3 ⟨rfl, hb3⟩
              go_wp2_with fail
              go_roundw
              case rel => exact ⟨j + 1, by go_num, by rw [HN.out], by omega, hbr.trans (hb3.mono hsz2)⟩
              case measure => simp [intOf]; omega
            · have hnext := U8.nk_no L j hj2 b n v hbe (by rw [← hm]; exact hc)
              rw [← hm] at hnext
              have HN := Lib.hid hnext
              clear hnext hm hbe hys hj hnk
              cases b with
              | false =>
                clear hc
                go_wp2_with fail
                refine HB.out.mono ?_
                rintro e w3 ⟨rfl, hb3⟩
                go_wp2_with fail
                go_roundw
                case rel => exact ⟨j + 1, by go_num, by rw [HN.out], by omega, hbr.trans (hb3.mono hsz2)⟩
                case measure => simp [intOf]; omega
              | true =>
                by_cases hjn : j < n
                · have hq1 : decide (j < n) = true := by simp; omega
                  have hq2 : ((m : Int) == (j : Int) - 1) = false := by
                    have : m ≠ j - 1 := fun e => hc ⟨rfl, hjn, e⟩
                    simp; omega
                  clear hc hjn
                  go_wp2_with fail
                  refine HB.out.mono ?_
                  rintro e w3 ⟨rfl, hb3⟩
                  go_wp2_with fail
                  go_roundw
                  case rel => exact ⟨j + 1, by go_num, by rw [HN.out], by omega, hbr.trans (hb3.mono hsz2)⟩
                  case measure => simp [intOf]; omega
                · have hq1 : decide (j < n) = false := by simp; omega
                  clear hc hjn
                  go_wp2_with fail
                  refine HB.out.mono ?_
                  rintro e w3 ⟨rfl, hb3⟩
                  go_wp2_with fail
                  go_roundw
                  case rel => exact ⟨j + 1, by go_num, by rw [HN.out], by omega, hbr.trans (hb3.mono hsz2)⟩
                  case measure => simp [intOf]; omega
          · have hout := U8.nk_out L j hj (by rw [HLL.out]; omega)
            rw [← hm] at hout
            obtain ⟨⟨b, n, v⟩, hbe⟩ : ∃ x, U8.begins (L.take 1) = x := ⟨_, rfl⟩
            have hys : (s.extract k (k + 1)).size = 1 := by simp; omega
            have HB := Lib.hid (fun w => refBegins_any (s.extract k (k + 1)) w (by omega) (by omega) b n v (by rw [HPART.out, hbe]))
            have hk1 : (k : Int) + 1 ≤ (s.size : Int) := by omega
            have hskip := HM0.out
            unfold U8.skip at hskip
            rw [hbe] at hskip
            have HSK := Lib.hid hskip; have HOUT := Lib.hid hout; have HJ := Lib.hid hj
            clear hskip hout hbe hys hm hnk
            have fin : ∀ w3 : World, Below w.heap.size w w3 → True := fun _ _ => trivial
            clear fin
            cases b with
            | true =>
              have hmm : m = m0 := by have := HSK.out; rw [if_pos rfl] at this; rw [HOUT.out, this]
              subst hmm
              by_cases hj3 : j ≤ 3
              · have hjI : (j : Int) ≤ 3 := by omega
                have hkjI : ¬ (k : Int) + (j : Int) ≤ (s.size : Int) := by omega
                clear hgo hj
                go_wp2_with fail
                refine (HB.out _).mono ?_
                rintro e w3 ⟨rfl, hb3⟩
                have hbel3 := hbr.trans (hb3.mono hsz2)
                clear hb3
                go_wp2_with fail
                refine (HRE.out _).mono ?_
                rintro e w4 ⟨v4, rfl, hv, hb4'⟩
                have hb4 := hbel3.trans (hb4'.mono hbel3.size)
                have hcv := HCV.out _ _ _ hv
                clear hb4' hbel3 hv
                go_wp2_with fail
                go_roundw
                case rel => exact ⟨k + m, f', o2, rfl, by go_num, by omega, by omega, HOL.out, HREP.out, hb4⟩
                case measure => simp [intOf]; omega
              · have hjI : ¬ (j : Int) ≤ 3 := by omega
                clear hgo hj
                go_wp2_with fail
                refine (HB.out _).mono ?_
                rintro e w3 ⟨rfl, hb3⟩
                have hbel3 := hbr.trans (hb3.mono hsz2)
                clear hb3
                go_wp2_with fail
                refine (HRE.out _).mono ?_
                rintro e w4 ⟨v4, rfl, hv, hb4'⟩
                have hb4 := hbel3.trans (hb4'.mono hbel3.size)
                have hcv := HCV.out _ _ _ hv
                clear hb4' hbel3 hv
                go_wp2_with fail
                go_roundw
                case rel => exact ⟨k + m, f', o2, rfl, by go_num, by omega, by omega, HOL.out, HREP.out, hb4⟩
                case measure => simp [intOf]; omega
            | false =>
              have hmm : m0 = 1 := by have := HSK.out; rw [if_neg (by simp)] at this; exact this
              subst hmm
              by_cases hj3 : j ≤ 3
              · have hjI : (j : Int) ≤ 3 := by omega
                have hkjI : ¬ (k : Int) + (j : Int) ≤ (s.size : Int) := by omega
                clear hgo hj
                go_wp2_with fail
                refine (HB.out _).mono ?_
                rintro e w3 ⟨rfl, hb3⟩
                have hbel3 := hbr.trans (hb3.mono hsz2)
                clear hb3
                go_wp2_with fail
                refine (HRE.out _).mono ?_
                rintro e w4 ⟨v4, rfl, hv, hb4'⟩
                have hb4 := hbel3.trans (hb4'.mono hbel3.size)
                have hcv := HCV.out _ _ _ hv
                clear hb4' hbel3 hv
                go_wp2_with fail
                go_roundw
                case rel => exact ⟨k + 1, f', o2, rfl, by go_num, by omega, by omega, HOL.out, HREP.out, hb4⟩
                case measure => simp [intOf]; omega
              · have hjI : ¬ (j : Int) ≤ 3 := by omega
                clear hgo hj
                go_wp2_with fail
                refine (HB.out _).mono ?_
                rintro e w3 ⟨rfl, hb3⟩
                have hbel3 := hbr.trans (hb3.mono hsz2)
                clear hb3
                go_wp2_with fail
                refine (HRE.out _).mono ?_
                rintro e w4 ⟨v4, rfl, hv, hb4'⟩
                have hb4 := hbel3.trans (hb4'.mono hbel3.size)
                have hcv := HCV.out _ _ _ hv
                clear hb4' hbel3 hv
                go_wp2_with fail
                go_roundw
                case rel => exact ⟨k + 1, f', o2, rfl, by go_num, by omega, by omega, HOL.out, HREP.out, hb4⟩
                case measure => simp [intOf]; omega
    · have hres : U8.rep (bytesOf s) f k = [] := by
        cases f with
        | zero => rfl
        | succ f => rw [U8.rep, if_neg (by rw [bytesOf_length]; exact hlt)]
      rw [hres, List.append_nil] at hrep
      have hres2 : t = o1 := by rw [HT.out, hrep]; exact baOf_bytesOf o1
      subst hres2
      clear hres hrep
      go_wp2_with fail
      go_ret
      exact ⟨rfl, hbel⟩
end Go.Proofs.YtbjhomihmlijiaaDoor
