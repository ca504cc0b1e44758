/- The reference's Site. -/
import Derived.Test.YteoknmdoghemmaaSite
namespace Mid
theorem siteB_iff (c : UInt8) (b : Bool) (h : siteB c = b) : if b then ((97 : Int) ≤ (c.toNat : Int) ∧ (c.toNat : Int) ≤ 122) ∨ ((48 : Int) ≤ (c.toNat : Int) ∧ (c.toNat : Int) ≤ 57) ∨ (c.toNat : Int) = 45 ∨ (c.toNat : Int) = 46 else ¬ (((97 : Int) ≤ (c.toNat : Int) ∧ (c.toNat : Int) ≤ 122) ∨ ((48 : Int) ≤ (c.toNat : Int) ∧ (c.toNat : Int) ≤ 57) ∨ (c.toNat : Int) = 45 ∨ (c.toNat : Int) = 46) := by
  rw [siteB_eq] at h
  unfold lowB digB at h
  cases b with
  | true => simp at h ⊢; omega
  | false => simp at h ⊢; omega
theorem mis_iff (s : List UInt8) (k : Nat) (q : Bool) (h : mis s k = q) : if q then ((k : Int) = 0 ∧ ¬ ((97 : Int) ≤ ((s.getD k 0).toNat : Int) ∧ ((s.getD k 0).toNat : Int) ≤ 122)) ∨ ((0 : Int) < (k : Int) ∧ ((s.getD k 0).toNat : Int) = 46 ∧ ((s.getD (k - 1) 0).toNat : Int) = 46) ∨ ((k : Int) + 1 = (s.length : Int) ∧ (((s.getD k 0).toNat : Int) = 45 ∨ ((s.getD k 0).toNat : Int) = 46)) else ¬ (((k : Int) = 0 ∧ ¬ ((97 : Int) ≤ ((s.getD k 0).toNat : Int) ∧ ((s.getD k 0).toNat : Int) ≤ 122)) ∨ ((0 : Int) < (k : Int) ∧ ((s.getD k 0).toNat : Int) = 46 ∧ ((s.getD (k - 1) 0).toNat : Int) = 46) ∨ ((k : Int) + 1 = (s.length : Int) ∧ (((s.getD k 0).toNat : Int) = 45 ∨ ((s.getD k 0).toNat : Int) = 46))) := by
  unfold mis lowB at h
  have e0 : decide (k = 0) = decide ((k : Int) = 0) := by rw [decide_eq_decide]; omega
  have e3 : ((0 : Int) == 0) = true := rfl
  rw [e0, show ∀ y : UInt8, (y == 46) = decide ((y.toNat : Int) = 46) from fun y => u8_eq y 46, show ∀ y : UInt8, (y == 46) = decide ((y.toNat : Int) = 46) from fun y => u8_eq y 46, show ∀ y : UInt8, (y == 45) = decide ((y.toNat : Int) = 45) from fun y => u8_eq y 45] at h
  generalize (s.getD k 0) = x at *
  generalize (s.getD (k - 1) 0) = y at *
  cases q with
  | true => simp at h ⊢; omega
  | false => simp at h ⊢; omega
end Mid
namespace Go.Proofs.Yteoknmdoghemmaa
open Go.RowKit

theorem ret_two {a b c d : Int} (h : a = b) (h2 : c = d) : Ending.returned (.tuple #[.int .i64 a, .int .i64 c]) = .returned (.tuple #[.int .i64 b, .int .i64 d]) := by rw [h, h2]

set_option maxRecDepth 100000 in
set_option maxHeartbeats 2000000 in
theorem refSite_any (s : ByteArray) (hm : s.size ≤ 100000) (a b : Nat) (hab : Mid.siteL s.data.toList = (a, b)) (w : World) : Calls Try.prog 36 #[.string s] w fun e w' => e = .returned (.tuple #[.int .i64 a, .int .i64 b]) ∧ w = w' := by
  by_cases h0 : s.size = 0
  · obtain rfl := empty_of s h0
    rw [Mid.siteL_empty _ rfl] at hab
    obtain ⟨rfl, rfl⟩ := Prod.mk.inj hab
    clear hab h0
    go_enter Try.func36, Try.ntmps36
    go_wp2_with fail
    go_ret2
    exact ⟨rfl, rfl⟩
  · have hp : 0 < s.data.toList.length := by rw [size_toList]; omega
    have he : s.toList.isEmpty = false := by
      rw [ByteArray.toList_eq]
      cases h : s.data.toList with
      | nil => rw [h] at hp; exact absurd hp (by decide)
      | cons _ _ => rfl
    clear h0
    by_cases h3 : 30 < s.size
    · have h3I : (30 : Int) < (s.size : Int) := by omega
      rw [Mid.siteL_long _ (by rw [size_toList]; exact h3)] at hab
      obtain ⟨rfl, rfl⟩ := Prod.mk.inj hab
      clear hab hp h3 hm
      go_enter Try.func36, Try.ntmps36
      go_wp2_with fail
      go_ret2
      exact ⟨rfl, rfl⟩
    · have h3I : ¬ (30 : Int) < (s.size : Int) := by omega
      have hle : s.data.toList.length ≤ 30 := by rw [size_toList]; omega
      have HP := Lib.hid hp; have HL := Lib.hid hle; have HAB := Lib.hid hab; have HM := Lib.hid hm
      have hsI : (s.size : Int) ≤ 30 := by omega
      clear h3 hp hle hab hm
      go_enter Try.func36, Try.ntmps36
      go_wp2_with fail
      go_loopw [4] (fun i wr => ∃ k : Nat, i = .int .i64 k ∧ k ≤ s.size ∧ w = wr ∧ Hid (Mid.wrongB s.data.toList = Mid.findP (fun i => !Mid.siteB (s.data.toList.getD i 0)) k (s.data.toList.length - k))) (fun i _ => s.size - (intOf i).toNat)
      case atStart => exact ⟨0, rfl, Nat.zero_le _, rfl, Lib.hid rfl⟩
      case round =>
        obtain ⟨k, rfl, hk, rfl, hf⟩ := hrel
        by_cases hlt : k < s.size
        · have hst := Mid.wrongB_step s.data.toList k (by rw [size_toList]; exact hlt) hf.out
          rw [get_toList s k hlt] at hst
          obtain ⟨x, hx⟩ : ∃ x, s[k] = x := ⟨_, rfl⟩
          have i1 := fun w => run_at s k hlt x hx w
          rw [hx] at hst
          obtain ⟨q, hb⟩ : ∃ q, Mid.siteB x = q := ⟨_, rfl⟩
          have hq := Mid.siteB_iff x q hb
          rw [hb] at hst
          obtain ⟨z, hz⟩ : ∃ z : Int, z = (x.toNat : Int) := ⟨_, rfl⟩
          rw [← hz] at i1 hq
          have HQ := Lib.hid hq; have HST := Lib.hid hst
          have hltI : (k : Int) < (s.size : Int) := by omega
          clear hq hst hf hx hz hb
          go_wp2_with fail
          all_goals cases q
          all_goals first
            | (exfalso
               have hq := HQ.out
               simp only [if_true, if_false, Bool.false_eq_true, Bool.not_eq_true', Bool.not_eq_false', decide_eq_true_eq, decide_eq_false_iff_not, beq_iff_eq, beq_eq_false_iff_ne, ne_eq] at *
               omega)
            | (refine ⟨⟨k + 1, by go_num, hlt, trivial, Lib.hid (by rw [HST.out]; rfl)⟩, ?_⟩
               simp [intOf]
               omega)
            | (have hres := HAB.out
               rw [Mid.siteL_byte _ HP.out HL.out k HST.out] at hres
               obtain ⟨rfl, rfl⟩ := Prod.mk.inj hres
               go_ret2
               exact ⟨rfl, rfl⟩)
        · have hkn : k = s.size := by omega
          have hB : Mid.wrongB s.data.toList = none := by rw [hf.out, size_toList, hkn, Nat.sub_self]; rfl
          have HB := Lib.hid hB
          clear hB hf hkn
          go_wp2_with fail
          go_loopw [6] (fun i wr => ∃ k : Nat, i = .int .i64 k ∧ k ≤ s.size ∧ w = wr ∧ Hid (Mid.wrongP s.data.toList = Mid.findP (Mid.mis s.data.toList) k (s.data.toList.length - k))) (fun i _ => s.size - (intOf i).toNat)
          case atStart => exact ⟨0, rfl, Nat.zero_le _, rfl, Lib.hid rfl⟩
          case round =>
            clear hlt hk
            obtain ⟨k, rfl, hk, rfl, hf⟩ := hrel
            by_cases hlt : k < s.size
            · have hst := Mid.wrongP_step s.data.toList k (by rw [size_toList]; exact hlt) hf.out
              obtain ⟨x, hx⟩ : ∃ x, s[k] = x := ⟨_, rfl⟩
              have i1 := fun w => run_at s k hlt x hx w
              obtain ⟨q, hb⟩ : ∃ q, Mid.mis s.data.toList k = q := ⟨_, rfl⟩
              have hq := Mid.mis_iff s.data.toList k q hb
              rw [hb] at hst
              rw [getD_toList s k hlt, hx, size_toList] at hq
              obtain ⟨z, hz⟩ : ∃ z : Int, z = (x.toNat : Int) := ⟨_, rfl⟩
              rw [← hz] at i1 hq
              have HST := Lib.hid hst
              have hltI : (k : Int) < (s.size : Int) := by omega
              clear hst hf hx hz hb
              by_cases hk0 : k = 0
              · subst hk0
                have HQ := Lib.hid hq
                have i1 : ∀ w, (Instr.index 9 (.string s) (.int .i64 0)).run Try.prog w = .ok (.int .u8 z) w := i1
                clear hq
                go_wp2_with fail
                all_goals cases q
                all_goals first
                  | (exfalso
                     have hq := HQ.out
                     simp only [if_true, if_false, Bool.false_eq_true, beq_iff_eq, beq_eq_false_iff_ne, ne_eq] at *
                     omega)
                  | (refine ⟨⟨0 + 1, by first | go_num | (congr 1; omega), hlt, trivial, Lib.hid (by rw [HST.out]; rfl)⟩, ?_⟩
                     simp [intOf]
                     omega)
                  | (have hres := HAB.out
                     rw [Mid.siteL_name _ HP.out HL.out 0 HB.out HST.out] at hres
                     obtain ⟨rfl, rfl⟩ := Prod.mk.inj hres
                     go_ret2
                     exact ⟨ret_two (by omega) rfl, rfl⟩)
              · have i2 := fun w => run_at s (k - 1) (by omega) _ rfl w
                rw [getD_toList s (k - 1) (by omega)] at hq
                generalize s[k - 1] = y at *
                rw [show ((k - 1 : Nat) : Int) = (k : Int) - 1 by omega] at i2
                obtain ⟨u, hu⟩ : ∃ u : Int, u = (y.toNat : Int) := ⟨_, rfl⟩
                rw [← hu] at i2 hq
                have hk1 : (0 : Int) < (k : Int) := by omega
                have HQ := Lib.hid hq
                clear hq hu hk0
                go_wp2_with fail
                all_goals cases q
                all_goals first
                  | (exfalso
                     have hq := HQ.out
                     simp only [if_true, if_false, Bool.false_eq_true, beq_iff_eq, beq_eq_false_iff_ne, ne_eq] at *
                     omega)
                  | (refine ⟨⟨k + 1, by first | go_num | (congr 1; omega), hlt, trivial, Lib.hid (by rw [HST.out]; rfl)⟩, ?_⟩
                     simp [intOf]
                     omega)
                  | (have hres := HAB.out
                     rw [Mid.siteL_name _ HP.out HL.out k HB.out HST.out] at hres
                     obtain ⟨rfl, rfl⟩ := Prod.mk.inj hres
                     go_ret2
                     exact ⟨ret_two (by omega) rfl, rfl⟩)
            · have hkn : k = s.size := by omega
              have hP : Mid.wrongP s.data.toList = none := by rw [hf.out, size_toList, hkn, Nat.sub_self]; rfl
              have hres := HAB.out
              rw [Mid.siteL_ok _ HP.out HL.out HB.out hP] at hres
              obtain ⟨rfl, rfl⟩ := Prod.mk.inj hres
              clear hres hP hf hkn
              go_wp2_with fail
              go_ret2
              exact ⟨rfl, rfl⟩
end Go.Proofs.Yteoknmdoghemmaa
