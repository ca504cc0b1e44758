/- Number, Digits and Index of the reference: what each answers; each writes nothing that was there. -/
import Derived.Test.YtgopcplcamljmaaDoorNum
import Derived.Deep.RegionWith
namespace Go.Proofs.YtgopcplcamljmaaDoor
open Go.RowKit

theorem numA_val (l : List UInt8) (most : Int) (h : Asc.isNum l = true) (hv : Asc.val l < 9223372036854775808) : numA l most = if (Asc.val l : Int) ≤ most then ((Asc.val l : Int), 0) else (0, 2) := by
  rw [numA, if_pos h]
  by_cases hm : (Asc.val l : Int) ≤ most
  · rw [if_pos ⟨hv, hm⟩, if_pos hm]
  · rw [if_neg (fun x => hm x.2), if_neg hm]

theorem digB_bd (c : UInt8) (h : Asc.digB c = true) : 48 ≤ c.toNat ∧ c.toNat ≤ 57 := by simpa [Asc.digB] using h

set_option maxHeartbeats 1000000 in
theorem refNumber_any (s : ByteArray) (most : Int) (w : World) (hs : s.size ≤ 1000) (v e : Int) (hr : numA s.data.toList most = (v, e)) :
    Calls Tryd.prog 44 #[.string s, .int .i64 most] w fun x w' => x = .returned (.tuple #[.int .i64 v, .int .i64 e]) ∧ w = w' := by
  have hsI : (s.size : Int) ≤ 1000 := by omega
  by_cases h0 : 0 < s.size
  · have g0 : ((s.size : Int) == 0) = false := beq_eq_false_iff_ne.2 (by omega)
    obtain ⟨c, hc⟩ : ∃ c, s[0] = c := ⟨_, rfl⟩
    by_cases hz : 1 < s.size ∧ c.toNat = 48
    · have hno := isNum_no s (.inr (.inr ⟨h0, hz.1, by rw [hc]; exact hz.2⟩))
      have hres : (0, 3) = (v, e) := by rw [← hr, numA, if_neg (by rw [hno]; decide)]
      simp only [Prod.mk.injEq] at hres
      obtain ⟨rfl, rfl⟩ := hres
      obtain ⟨z1, z2⟩ := hz
      have g1 : (1 : Int) < (s.size : Int) := by omega
      have g2 : ((c.toNat : Int) == 48) = true := by simp; omega
      clear hno hr z2
      go_enter Tryd.func44, Tryd.ntmps44
      go_wp2_with fail
      go_ret2
      exact ⟨rfl, rfl⟩
    · have hcase : ¬ (1 : Int) < (s.size : Int) ∨ ((1 : Int) < (s.size : Int) ∧ ((c.toNat : Int) == 48) = false) := by
        by_cases h1 : 1 < s.size
        · right; refine ⟨by omega, ?_⟩; simp; omega
        · left; omega
      have HZ := Lib.hid hz
      have HR := Lib.hid hr
      have HC := Lib.hid hc
      clear hz hr
      rcases hcase with h1 | ⟨h1, h2⟩
      all_goals
        go_enter Tryd.func44, Tryd.ntmps44
        go_wp2_with fail
        clear hc
        go_loop [6] (fun i => ∃ k : Nat, i = .int .i64 k ∧ k ≤ s.size ∧ (s.data.toList.take k).all Asc.digB = true) (fun i => s.size - (intOf i).toNat)
        case atStart => exact ⟨0, rfl, Nat.zero_le _, rfl⟩
        case round =>
          obtain ⟨k, rfl, hk, hall⟩ := hrel
          have HALL := Lib.hid hall
          clear hall
          by_cases hlt : k < s.size
          · obtain ⟨d, hd⟩ : ∃ d, s[k] = d := ⟨_, rfl⟩
            have htk : s.data.toList.take (k + 1) = s.data.toList.take k ++ [d] := by
              rw [List.take_succ_eq_append_getElem (by rw [size_toList]; exact hlt), get_toList s k hlt, hd]
            have hv := fun w => refDigit_any d w
            cases hdg : Asc.digB d with
            | true =>
              have hall2 : (s.data.toList.take (k + 1)).all Asc.digB = true := by rw [htk, Asc.all_snoc, HALL.out, hdg]; rfl
              rw [hdg] at hv
              have HV := Lib.hid hv
              have HALL2 := Lib.hid hall2
              clear hv hdg hall2 htk
              go_wp2_with (go_at_call 18; refine (HV.out _).mono ?_; rintro e w' ⟨rfl, rfl⟩)
              go_round
              case rel => exact ⟨k + 1, by go_num, by omega, HALL2.out⟩
              case measure => simp [intOf]; omega
            | false =>
              have hno := isNum_no s (.inr (.inl (by
                cases hx : s.data.toList.all Asc.digB with
                | false => rfl
                | true =>
                  exact absurd (List.all_eq_true.1 hx d (by rw [← hd, ← get_toList s k hlt]; exact List.getElem_mem _)) (by rw [hdg]; decide))))
              have hres : (0, 3) = (v, e) := by rw [← HR.out, numA, if_neg (by rw [hno]; decide)]
              simp only [Prod.mk.injEq] at hres
              obtain ⟨rfl, rfl⟩ := hres
              rw [hdg] at hv
              have HV := Lib.hid hv
              clear hv hdg hno htk
              go_wp2_with (go_at_call 18; refine (HV.out _).mono ?_; rintro e w' ⟨rfl, rfl⟩)
              go_ret2
              exact ⟨rfl, rfl⟩
          · have hkn : k = s.size := by omega
            have hall : s.data.toList.all Asc.digB = true := by
              have := HALL.out
              rwa [hkn, ← size_toList, List.take_length] at this
            have hnum := isNum_of s h0 hall (by rw [HC.out]; exact HZ.out)
            have HNUM := Lib.hid hnum
            have HAL := Lib.hid hall
            clear hkn hall hnum
            go_wp2_with fail
            go_loop [7, 8, 9] (fun n i _ => ∃ k : Nat, ∃ a : Int, n = .int .i64 a ∧ i = .int .i64 k ∧ k ≤ s.size ∧ 0 ≤ a ∧ a ≤ 9223372036854775807 ∧ Hid (a = (Asc.val (s.data.toList.take k) : Int))) (fun _ i _ => s.size - (intOf i).toNat)
            case atStart => exact ⟨0, 0, rfl, rfl, Nat.zero_le _, by decide, by decide, rfl⟩
            case round =>
              obtain ⟨k, a, rfl, rfl, hk, ha0, ha1, HA⟩ := hrel
              by_cases hlt : k < s.size
              · obtain ⟨d, hd⟩ : ∃ d, s[k] = d := ⟨_, rfl⟩
                have hdg : Asc.digB d = true := List.all_eq_true.1 HAL.out d (by rw [← hd, ← get_toList s k hlt]; exact List.getElem_mem _)
                have hbd := digB_bd d hdg
                have hb1 : (48 : Int) ≤ (d.toNat : Int) := by omega
                have hb2 : (d.toNat : Int) ≤ 57 := by omega
                have hvt := Asc.val_take s.data.toList k (by rw [size_toList]; exact hlt)
                rw [get_toList s k hlt, hd] at hvt
                have HVT := Lib.hid hvt
                have HBD := Lib.hid hbd
                clear hdg hbd hvt
                by_cases hov : 10 * a + ((d.toNat : Int) - 48) ≤ 9223372036854775807
                · go_wp2_with fail
                  go_round
                  case rel => exact ⟨k + 1, 10 * a + ((d.toNat : Int) - 48), rfl, by go_num, by omega, by omega, hov, by have h1 := HA.out; have h2 := HVT.out; have h3 := HBD.out; show _ = _; omega⟩
                  case measure => simp [intOf]; omega
                · have hres : (0, 2) = (v, e) := by
                    rw [← HR.out, numA, if_pos HNUM.out, if_neg]
                    rintro ⟨h, _⟩
                    have h1 := HA.out
                    have h2 := HVT.out
                    have h3 := Asc.val_mono s.data.toList (k + 1)
                    have h4 := HBD.out
                    omega
                  simp only [Prod.mk.injEq] at hres
                  obtain ⟨rfl, rfl⟩ := hres
                  go_wp2_with fail
                  go_ret2
                  exact ⟨rfl, rfl⟩
              · have hkn : k = s.size := by omega
                have hval : a = (Asc.val s.data.toList : Int) := by
                  have := HA.out
                  rwa [hkn, ← size_toList, List.take_length] at this
                have hr := HR.out
                rw [numA_val _ _ HNUM.out (by omega), ← hval] at hr
                clear hkn hval
                by_cases hm : a ≤ most
                · rw [if_pos hm] at hr
                  simp only [Prod.mk.injEq] at hr
                  obtain ⟨rfl, rfl⟩ := hr
                  go_wp2_with fail
                  go_ret2
                  exact ⟨rfl, rfl⟩
                · rw [if_neg hm] at hr
                  simp only [Prod.mk.injEq] at hr
                  obtain ⟨rfl, rfl⟩ := hr
                  go_wp2_with fail
                  go_ret2
                  exact ⟨rfl, rfl⟩
  · have hno := isNum_no s (.inl h0)
    have hres : (0, 3) = (v, e) := by rw [← hr, numA, if_neg (by rw [hno]; decide)]
    simp only [Prod.mk.injEq] at hres
    obtain ⟨rfl, rfl⟩ := hres
    have g0 : ((s.size : Int) == 0) = true := beq_iff_eq.2 (by omega)
    clear hno hr h0
    go_enter Tryd.func44, Tryd.ntmps44
    go_wp2_with fail
    go_ret2
    exact ⟨rfl, rfl⟩
end Go.Proofs.YtgopcplcamljmaaDoor
