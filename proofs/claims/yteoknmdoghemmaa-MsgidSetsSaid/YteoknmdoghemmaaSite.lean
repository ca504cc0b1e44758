/- Site of the program and of the reference: each answers Mid.siteL. -/
import Derived.Test.YteoknmdoghemmaaCls
import Derived.Test.YteoknmdoghemmaaRow8
namespace Mid
theorem siteB_not (c : UInt8) : (!siteB c) = !(lowB c || digB c || decide ((c.toNat : Int) = 45) || decide ((c.toNat : Int) = 46)) := by rw [siteB_eq]
theorem u8_eq (c k : UInt8) : (c == k) = decide ((c.toNat : Int) = (k.toNat : Int)) := by
  rw [Bool.eq_iff_iff, beq_iff_eq, decide_eq_true_eq]
  constructor
  · rintro rfl; rfl
  · intro h; exact UInt8.toNat_inj.1 (by omega)
theorem siteL_empty (s : List UInt8) (h : s.length = 0) : siteL s = (0, 4) := by unfold siteL; rw [if_pos h]
theorem siteL_long (s : List UInt8) (h : 30 < s.length) : siteL s = (30, 5) := by unfold siteL; rw [if_neg (by omega), if_pos h]
theorem siteL_byte (s : List UInt8) (h1 : 0 < s.length) (h2 : s.length ≤ 30) (i : Nat) (h : wrongB s = some i) : siteL s = (i, 6) := by unfold siteL; rw [if_neg (by omega), if_neg (by omega), h]
theorem siteL_name (s : List UInt8) (h1 : 0 < s.length) (h2 : s.length ≤ 30) (i : Nat) (h0 : wrongB s = none) (h : wrongP s = some i) : siteL s = (i, 12) := by unfold siteL; rw [if_neg (by omega), if_neg (by omega), h0, h]
theorem siteL_ok (s : List UInt8) (h1 : 0 < s.length) (h2 : s.length ≤ 30) (h0 : wrongB s = none) (h : wrongP s = none) : siteL s = (0, 0) := by unfold siteL; rw [if_neg (by omega), if_neg (by omega), h0, h]
theorem wrongB_step (s : List UInt8) (k : Nat) (hk : k < s.length) (h : wrongB s = findP (fun i => !siteB (s.getD i 0)) k (s.length - k)) : wrongB s = if siteB s[k] then findP (fun i => !siteB (s.getD i 0)) (k + 1) (s.length - (k + 1)) else some k := by
  rw [h, findP_step _ _ _ hk]
  have e : s.getD k 0 = s[k] := by rw [List.getD_eq_getElem?_getD, List.getElem?_eq_getElem hk]; rfl
  rw [e]
  cases siteB s[k] <;> rfl
theorem wrongP_step (s : List UInt8) (k : Nat) (hk : k < s.length) (h : wrongP s = findP (mis s) k (s.length - k)) : wrongP s = if mis s k then some k else findP (mis s) (k + 1) (s.length - (k + 1)) := by
  rw [h, findP_step _ _ _ hk]
end Mid
namespace Go.Proofs.Yteoknmdoghemmaa
open Go.RowKit
theorem size_toList (s : ByteArray) : s.data.toList.length = s.size := by simp
theorem get_toList (s : ByteArray) (k : Nat) (h : k < s.size) : s.data.toList[k]'(by rw [size_toList]; exact h) = s[k] := by rfl
theorem getD_toList (s : ByteArray) (k : Nat) (h : k < s.size) : s.data.toList.getD k 0 = s[k] := by
  rw [List.getD_eq_getElem?_getD, List.getElem?_eq_getElem (by rw [size_toList]; exact h)]; rfl
theorem run_at (s : ByteArray) (k : Nat) (h : k < s.size) (x : UInt8) (hx : s[k] = x) (w : World) : (Instr.index 9 (.string s) (.int .i64 (k : Int))).run Try.prog w = .ok (.int .u8 (x.toNat : Int)) w := by
  have hn : (0 : Int) ≤ (k : Int) ∧ (k : Int) < (s.size : Int) := by omega
  simp [Instr.index, run_underlying Try.underlying9, asIntOf, hn, go_sem]
  rw [getElem?_pos s k h]
  simp [hx]
theorem empty_of (s : ByteArray) (h : s.size = 0) : s = ⟨#[]⟩ := by
  cases s with
  | mk d => congr 1; exact Array.eq_empty_of_size_eq_zero h
set_option maxRecDepth 100000 in
set_option maxHeartbeats 1000000 in
theorem mis_any (s : ByteArray) (k : Nat) (hk : k < s.size) (hm : s.size ≤ 100000) (w : World) : Calls Try.prog 56 #[.string s, .int .i64 k] w fun e w' => e = .returned (.bool (Mid.mis s.data.toList k)) ∧ w = w' := by
  have hkI : (k : Int) < (s.size : Int) := by omega
  have hmI : (s.size : Int) ≤ 100000 := by omega
  obtain ⟨x, hx⟩ : ∃ x, s[k] = x := ⟨_, rfl⟩
  have hl := fun w => isLower_any x w
  have i1 := fun w => run_at s k hk x hx w
  unfold Mid.mis
  rw [getD_toList s k hk, hx, size_toList, show (x == 46) = decide ((x.toNat : Int) = 46) from Mid.u8_eq x 46, show (x == 45) = decide ((x.toNat : Int) = 45) from Mid.u8_eq x 45]
  generalize Mid.lowB x = l at *
  obtain ⟨z, hz⟩ : ∃ z : Int, z = (x.toNat : Int) := ⟨_, rfl⟩
  rw [← hz] at i1 hl ⊢
  have HL := Lib.hid hl
  clear hl hz hx
  rcases k with _ | j
  · have i1 : ∀ w, (Instr.index 9 (.string s) (.int .i64 0)).run Try.prog w = .ok (.int .u8 z) w := i1
    change Calls Try.prog 56 #[.string s, .int .i64 0] w _
    cases l with
    | false =>
      go_enter Try.func56, Try.ntmps56
      go_wp2_with fail
      refine (HL.out _).mono ?_
      rintro e w' ⟨rfl, rfl⟩
      go_wp2_with fail
      go_ret
      exact ⟨ret_bool (by simp []), rfl⟩
    | true =>
      by_cases hn : (s.size : Int) - 1 = 0
      · by_cases h1 : z = 45
        · subst h1
          go_enter Try.func56, Try.ntmps56
          go_wp2_with fail
          refine (HL.out _).mono ?_
          rintro e w' ⟨rfl, rfl⟩
          go_wp2_with fail
          go_ret
          exact ⟨ret_bool (by simp [show s.size = 1 by omega]), rfl⟩
        · by_cases h2 : z = 46
          · subst h2
            clear h1
            go_enter Try.func56, Try.ntmps56
            go_wp2_with fail
            refine (HL.out _).mono ?_
            rintro e w' ⟨rfl, rfl⟩
            go_wp2_with fail
            go_ret
            exact ⟨ret_bool (by simp [show s.size = 1 by omega]), rfl⟩
          · have H1 := Lib.hid h1; have H2 := Lib.hid h2
            clear h1 h2
            go_enter Try.func56, Try.ntmps56
            go_wp2_with fail
            refine (HL.out _).mono ?_
            rintro e w' ⟨rfl, rfl⟩
            go_wp2_with fail
            go_ret
            exact ⟨ret_bool (by simp [show s.size = 1 by omega, H1.out, H2.out]), rfl⟩
      · have hn1 : ¬ (0 : Int) = (s.size : Int) - 1 := by omega
        go_enter Try.func56, Try.ntmps56
        go_wp2_with fail
        refine (HL.out _).mono ?_
        rintro e w' ⟨rfl, rfl⟩
        go_wp2_with fail
        go_ret
        exact ⟨ret_bool (by simp [show ¬ 1 = s.size by omega]), rfl⟩
  · obtain ⟨y, hy⟩ : ∃ y, s[j] = y := ⟨_, rfl⟩
    have i2 := fun w => run_at s j (by omega) y hy w
    have e1 : ((j + 1 : Nat) : Int) = (j : Int) + 1 := by omega
    rw [e1] at i1 hkI ⊢
    rw [show j + 1 - 1 = j from rfl, getD_toList s j (by omega), hy, show (y == 46) = decide ((y.toNat : Int) = 46) from Mid.u8_eq y 46]
    obtain ⟨u, hu⟩ : ∃ u : Int, u = (y.toNat : Int) := ⟨_, rfl⟩
    rw [← hu] at i2 ⊢
    clear hy hu HL e1
    have e0 : ¬ (j : Int) + 1 = 0 := by omega
    have e2 : (0 : Int) < (j : Int) + 1 := by omega
    have hj : (j : Int) < (s.size : Int) := by omega
    by_cases hn : (s.size : Int) - 1 = (j : Int) + 1
    · have hs2 : s.size = j + 2 := by omega
      have HS := Lib.hid hs2
      clear hs2
      by_cases h1 : z = 45
      · subst h1
        go_enter Try.func56, Try.ntmps56
        go_wp2_with fail
        go_ret
        exact ⟨ret_bool (by simp [HS.out]), rfl⟩
      · by_cases h2 : z = 46
        · subst h2
          clear h1
          by_cases h3 : u = 46
          · subst h3
            go_enter Try.func56, Try.ntmps56
            go_wp2_with fail
            go_ret
            exact ⟨ret_bool (by simp [HS.out]), rfl⟩
          · have H3 := Lib.hid h3
            go_enter Try.func56, Try.ntmps56
            go_wp2_with fail
            go_ret
            exact ⟨ret_bool (by simp [HS.out, H3.out]), rfl⟩
        · have H1 := Lib.hid h1; have H2 := Lib.hid h2
          go_enter Try.func56, Try.ntmps56
          go_wp2_with fail
          go_ret
          exact ⟨ret_bool (by simp [HS.out, H1.out, H2.out]), rfl⟩
    · have hs2 : ¬ j + 1 + 1 = s.size := by omega
      have hn2 : ¬ (j : Int) + 1 = (s.size : Int) - 1 := by omega
      have HS := Lib.hid hs2
      clear hs2 hn
      by_cases h1 : z = 45
      · subst h1
        go_enter Try.func56, Try.ntmps56
        go_wp2_with fail
        go_ret
        exact ⟨ret_bool (by simp [HS.out]), rfl⟩
      · by_cases h2 : z = 46
        · subst h2
          clear h1
          by_cases h3 : u = 46
          · subst h3
            go_enter Try.func56, Try.ntmps56
            go_wp2_with fail
            go_ret
            exact ⟨ret_bool (by simp [HS.out]), rfl⟩
          · have H3 := Lib.hid h3
            go_enter Try.func56, Try.ntmps56
            go_wp2_with fail
            go_ret
            exact ⟨ret_bool (by simp [HS.out, H3.out]), rfl⟩
        · have H1 := Lib.hid h1; have H2 := Lib.hid h2
          go_enter Try.func56, Try.ntmps56
          go_wp2_with fail
          go_ret
          exact ⟨ret_bool (by simp [HS.out, H1.out, H2.out]), rfl⟩

set_option maxRecDepth 100000 in
set_option maxHeartbeats 1000000 in
theorem site_any (s : ByteArray) (hm : s.size ≤ 100000) (a b : Nat) (hab : Mid.siteL s.data.toList = (a, b)) (w : World) : Calls Try.prog 35 #[.string s] w fun e w' => e = .returned (.tuple #[.int .i64 a, .int .i64 b]) ∧ w = w' := by
  by_cases h0 : s.size = 0
  · obtain rfl := empty_of s h0
    rw [Mid.siteL_empty _ rfl] at hab
    obtain ⟨rfl, rfl⟩ := Prod.mk.inj hab
    clear hab h0
    go_enter Try.func35, Try.ntmps35
    go_wp2_with fail
    go_ret2
    exact ⟨rfl, rfl⟩
  · have hp : 0 < s.data.toList.length := by rw [size_toList]; omega
    have he : s.toList.isEmpty = false := by
      rw [ByteArray.toList_eq]
      cases h : s.data.toList with
      | nil => rw [h] at hp; exact absurd hp (by decide)
      | cons _ _ => rfl
    clear h0
    by_cases h3 : 30 < s.size
    · have h3I : (30 : Int) < (s.size : Int) := by omega
      rw [Mid.siteL_long _ (by rw [size_toList]; exact h3)] at hab
      obtain ⟨rfl, rfl⟩ := Prod.mk.inj hab
      clear hab hp h3 hm
      go_enter Try.func35, Try.ntmps35
      go_wp2_with fail
      go_ret2
      exact ⟨rfl, rfl⟩
    · have h3I : ¬ (30 : Int) < (s.size : Int) := by omega
      have hle : s.data.toList.length ≤ 30 := by rw [size_toList]; omega
      have HP := Lib.hid hp; have HL := Lib.hid hle; have HAB := Lib.hid hab; have HM := Lib.hid hm
      have hsI : (s.size : Int) ≤ 30 := by omega
      clear h3 hp hle hab hm
      go_enter Try.func35, Try.ntmps35
      go_wp2_with fail
      go_loopw [15] (fun i wr => ∃ k : Nat, i = .int .i64 k ∧ k ≤ s.size ∧ w = wr ∧ Hid (Mid.wrongB s.data.toList = Mid.findP (fun i => !Mid.siteB (s.data.toList.getD i 0)) k (s.data.toList.length - k))) (fun i _ => s.size - (intOf i).toNat)
      case atStart => exact ⟨0, rfl, Nat.zero_le _, rfl, Lib.hid rfl⟩
      case round =>
        obtain ⟨k, rfl, hk, rfl, hf⟩ := hrel
        by_cases hlt : k < s.size
        · have hst := Mid.wrongB_step s.data.toList k (by rw [size_toList]; exact hlt) hf.out
          rw [get_toList s k hlt] at hst
          obtain ⟨x, hx⟩ : ∃ x, s[k] = x := ⟨_, rfl⟩
          rw [hx] at hst
          have h1 := fun w => isSite_any x w
          generalize Mid.siteB x = b at *
          have H1 := Lib.hid h1; have HST := Lib.hid hst
          clear h1 hst hf
          cases b with
          | true =>
            go_wp2_with fail
            refine (H1.out _).mono ?_
            rintro e w' ⟨rfl, rfl⟩
            go_wp2_with fail
            go_roundw
            case rel => exact ⟨k + 1, by go_num, hlt, by first | rfl | trivial, Lib.hid (by rw [HST.out]; rfl)⟩
            case measure => simp [intOf]; omega
          | false =>
            have hres := HAB.out
            rw [Mid.siteL_byte _ HP.out HL.out k HST.out] at hres
            obtain ⟨rfl, rfl⟩ := Prod.mk.inj hres
            clear hres
            go_wp2_with fail
            refine (H1.out _).mono ?_
            rintro e w' ⟨rfl, rfl⟩
            go_wp2_with fail
            go_ret2
            exact ⟨rfl, rfl⟩
        · have hkn : k = s.size := by omega
          have hB : Mid.wrongB s.data.toList = none := by rw [hf.out, size_toList, hkn, Nat.sub_self]; rfl
          have HB := Lib.hid hB
          clear hB hf hkn
          go_wp2_with fail
          go_loopw [27] (fun i wr => ∃ k : Nat, i = .int .i64 k ∧ k ≤ s.size ∧ w = wr ∧ Hid (Mid.wrongP s.data.toList = Mid.findP (Mid.mis s.data.toList) k (s.data.toList.length - k))) (fun i _ => s.size - (intOf i).toNat)
          case atStart => exact ⟨0, rfl, Nat.zero_le _, rfl, Lib.hid rfl⟩
          case round =>
            clear hlt hk
            obtain ⟨k, rfl, hk, rfl, hf⟩ := hrel
            by_cases hlt : k < s.size
            · have hst := Mid.wrongP_step s.data.toList k (by rw [size_toList]; exact hlt) hf.out
              have h1 := fun w => mis_any s k hlt HM.out w
              generalize Mid.mis s.data.toList k = b at *
              have H1 := Lib.hid h1; have HST := Lib.hid hst
              clear h1 hst hf
              cases b with
              | false =>
                go_wp2_with fail
                refine (H1.out _).mono ?_
                rintro e w' ⟨rfl, rfl⟩
                go_wp2_with fail
                go_roundw
                case rel => exact ⟨k + 1, by go_num, hlt, by first | rfl | trivial, Lib.hid (by rw [HST.out]; rfl)⟩
                case measure => simp [intOf]; omega
              | true =>
                have hres := HAB.out
                rw [Mid.siteL_name _ HP.out HL.out k HB.out HST.out] at hres
                obtain ⟨rfl, rfl⟩ := Prod.mk.inj hres
                clear hres
                go_wp2_with fail
                refine (H1.out _).mono ?_
                rintro e w' ⟨rfl, rfl⟩
                go_wp2_with fail
                go_ret2
                exact ⟨rfl, rfl⟩
            · have hkn : k = s.size := by omega
              have hP : Mid.wrongP s.data.toList = none := by rw [hf.out, size_toList, hkn, Nat.sub_self]; rfl
              have hres := HAB.out
              rw [Mid.siteL_ok _ HP.out HL.out HB.out hP] at hres
              obtain ⟨rfl, rfl⟩ := Prod.mk.inj hres
              clear hres hP hf hkn
              go_wp2_with fail
              go_ret2
              exact ⟨rfl, rfl⟩
end Go.Proofs.Yteoknmdoghemmaa
