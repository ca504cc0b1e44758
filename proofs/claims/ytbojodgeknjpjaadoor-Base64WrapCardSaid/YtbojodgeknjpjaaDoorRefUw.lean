/- The reference's Unwrap: called with a text of at most 2000 bytes it answers B64.uw of it and leaves the world alone. -/
import Derived.Test.YtbojodgeknjpjaaDoorUwPlain
import Derived.Test.YtbojodgeknjpjaaDoorMem
import Derived.LoopTactic
import Derived.WalkSpells
import Derived.WalkLawsBesides
import Derived.Lib.Hide
namespace Go.Proofs.YtbojodgeknjpjaaDoor
open Go.RowKit

def accB (l : List UInt8) : ByteArray := ⟨l.toArray⟩

theorem accB_add (s : ByteArray) (acc : List UInt8) (pos n : Nat) : accB acc ++ s.extract pos (pos + n) = accB (acc ++ (s.data.toList.drop pos).take n) := by
  apply ByteArray.ext
  apply Array.toList_inj.1
  rw [ByteArray.data_append, Array.toList_append, Lib.extract_data, show pos + n - pos = n by omega]
  simp [accB]

theorem accB_size (l : List UInt8) : (accB l).size = l.length := by simp [accB, ByteArray.size]

theorem get_toList (s : ByteArray) (j : Nat) (h : j < s.size) : s.data.toList[j]? = some s[j] := by
  simp [ByteArray.getElem_eq_getElem_data, h]

theorem len_toList (s : ByteArray) : s.data.toList.length = s.size := by simp

set_option maxHeartbeats 2000000 in
theorem refUw_any (s : ByteArray) (w : World) (hs : s.size ≤ 2000) :
    Calls Tryd.prog 23 #[.string s] w fun e w' => e = .returned (.tuple #[.string ⟨(B64.uw s.data.toList).1.toArray⟩, .int .i64 (B64.uw s.data.toList).2.1, .int .i64 (B64.uw s.data.toList).2.2]) ∧ w = w' := by
  have hsI : (s.size : Int) ≤ 2000 := by omega
  by_cases h0 : s.data.toList = []
  · have hu : B64.uw s.data.toList = ([], 0, 0) := by unfold B64.uw; rw [if_pos h0]
    have hse : s = ByteArray.empty := by
      apply ByteArray.ext
      apply Array.toList_inj.1
      exact h0
    rw [hu]
    subst hse
    clear hu h0
    have he : ByteArray.empty.size = 0 := rfl
    go_enter Tryd.func23, Tryd.ntmps23
    go_wp2_with fail
    refine wp_loop_rounds 1 ?_
    rw [rounds_succ]
    go_wp2
    go_ret3
    exact ⟨rfl, rfl⟩
  · have hpos : 0 < s.size := by
      rw [← len_toList]
      exact List.length_pos_iff.2 h0
    have hne : s.toList.isEmpty = false := by
      rw [Lib.toList_data]
      cases h2 : s.data.toList with
      | nil => exact absurd h2 h0
      | cons a b => rfl
    have hne2 : (!s.toList.isEmpty) = true := by rw [hne]; rfl
    obtain ⟨cl, hcl⟩ : ∃ c, s[s.size - 1] = c := ⟨_, rfl⟩
    have hlast := get_toList s (s.size - 1) (by omega)
    rw [hcl] at hlast
    have hsf : [10] <:+ s.data.toList ↔ cl = 10 := by
      constructor
      · rintro ⟨t, ht⟩
        have hl := len_toList s
        rw [← ht] at hl hlast
        simp at hl
        rw [show s.size - 1 = t.length by omega] at hlast
        simpa using hlast.symm
      · intro h
        refine ⟨s.data.toList.take (s.size - 1), ?_⟩
        have h1 := List.take_append_drop (s.size - 1) s.data.toList
        rw [List.drop_eq_getElem_cons (by rw [len_toList]; omega), List.drop_eq_nil_of_le (by rw [len_toList]; omega)] at h1
        have h2 : s.data.toList[s.size - 1]'(by rw [len_toList]; omega) = 10 := by
          rw [List.getElem?_eq_getElem (by rw [len_toList]; omega)] at hlast
          rw [Option.some.inj hlast, h]
        rw [h2] at h1
        exact h1
    have hli : s.size - 1 < s.size := by omega
    by_cases h10 : cl = 10
    · obtain ⟨W, hW⟩ : ∃ W, W = B64.lineLen s.data.toList := ⟨_, rfl⟩
      have hx := hsf.2 h10
      have hu : B64.uw s.data.toList = B64.uwLoop s.data.toList W s.size 0 [] := by unfold B64.uw; rw [if_neg h0, if_pos hx, ← hW, len_toList]
      have HU := Lib.hid hu
      have HX := Lib.hid hx
      have HW := Lib.hid hW
      have hq : ((cl.toNat : Int) != 10) = false := by
        rw [h10]; rfl
      clear hu hx hW hsf h10 h0 hlast
      go_enter Tryd.func23, Tryd.ntmps23
      go_wp2_with fail
      go_loop [5, 6, 7, 8] (fun out width from_ i => ∃ (k fr f : Nat) (acc : List UInt8) (wv : Int), k ≤ s.size ∧ fr ≤ k ∧ out = .string (accB acc) ∧ width = .int .i64 wv ∧ (fr = 0 → wv = 0) ∧ (fr ≠ 0 → wv = W) ∧ from_ = .int .i64 fr ∧ i = .int .i64 k ∧ s.size - fr ≤ f ∧ B64.uwLoop s.data.toList W f fr acc = B64.uw s.data.toList ∧ acc.length ≤ fr ∧ (fr ≠ 0 → W ≠ 0) ∧ ∀ j, fr ≤ j → j < k → s.data.toList[j]? ≠ some 10)
        (fun _ _ _ i => s.size - (intOf i).toNat)
      case atStart => exact ⟨0, 0, s.size, [], 0, Nat.zero_le _, Nat.le_refl _, rfl, rfl, fun _ => rfl, by simp, rfl, rfl, by omega, HU.out.symm, by simp, by simp, fun j _ h => absurd h (by omega)⟩
      case round =>
        obtain ⟨k, fr, f, acc, wv, hk, hfk, rfl, rfl, hwz, hwn, rfl, rfl, hf, ht, hacc, hw0, hno⟩ := hrel
        have HT := Lib.hid ht
        have HNO := Lib.hid hno
        clear ht hno
        by_cases hlt : k < s.size
        · obtain ⟨c, hc⟩ : ∃ c, s[k] = c := ⟨_, rfl⟩
          have hgk := get_toList s k hlt
          rw [hc] at hgk
          have HGK := Lib.hid hgk
          clear hgk
          by_cases h10 : c = 10
          · have hq2 : ((c.toNat : Int) != 10) = false := by rw [h10]; rfl
            have hn := B64.lineLen_eq s.data.toList fr (k - fr) (by rw [show fr + (k - fr) = k by omega, HGK.out, h10]) (fun j hj => HNO.out (fr + j) (by omega) (by omega))
            have HN := Lib.hid hn
            clear hn h10
            have hf1 : s.size - fr ≤ f := hf
            obtain ⟨f', rfl⟩ : ∃ f', f = f' + 1 := ⟨f - 1, by omega⟩
            have hu2 := HT.out
            rw [B64.uwLoop, if_pos (by rw [len_toList]; omega), len_toList, HN.out] at hu2
            have hW0 : fr = 0 → k - fr = W := by
              intro h
              have := HN.out
              rw [h] at this
              rw [HW.out, h, ← this]
              simp
            have hroom : ((accB acc).size : Int) + ((s.extract fr k).size : Int) ≤ 140737488355328 := by
              rw [accB_size]
              simp
              omega
            have hroom2 : (accB acc).size + (k - fr) ≤ 9223372036854775807 := by
              rw [accB_size]
              omega
            by_cases hbad : B64.badLine s.size W fr (k - fr) = true
            · have hres : B64.uw s.data.toList = ([], fr, 3) := by rw [← hu2, if_pos hbad]
              have HRES := Lib.hid hres
              clear hres hu2
              unfold B64.badLine at hbad
              simp only [Bool.or_eq_true, Bool.and_eq_true, decide_eq_true_eq] at hbad
              have hcase : k = fr ∨ (fr < k ∧ fr + 998 < k) ∨ (fr < k ∧ k ≤ fr + 998 ∧ fr + W < k) ∨ (fr < k ∧ k ≤ fr + 998 ∧ k < fr + W ∧ k + 1 < s.size) := by omega
              clear hbad
              by_cases hf0 : fr = 0
              · have g2 : wv = 0 := hwz hf0
                have hWv : (k : Int) - (fr : Int) = (W : Int) := by have := hW0 hf0; omega
                have HWV := Lib.hid hWv
                have hcase2 : k = fr ∨ (fr < k ∧ fr + 998 < k) := by omega
                clear hwz hwn hW0 hf0 hWv hcase
                subst g2
                rcases hcase2 with h | ⟨h, h1⟩
                · have g0 : ((k : Int) - (fr : Int) == 0) = true := by simp; omega
                  clear h
                  go_wp2_with fail
                  go_ret3
                  rw [HRES.out]
                  exact ⟨rfl, rfl⟩
                · have g0 : ((k : Int) - (fr : Int) == 0) = false := by simp; omega
                  have g1 : 998 < (k : Int) - (fr : Int) := by omega
                  clear h h1
                  go_wp2_with fail
                  go_ret3
                  rw [HRES.out]
                  exact ⟨rfl, rfl⟩
              · have g2 : wv = W := hwn hf0
                have hw1 : W ≠ 0 := hw0 hf0
                clear hwz hwn hW0 hf0 hw0
                subst g2
                rcases hcase with h | ⟨h, h1⟩ | ⟨h, h1, h2⟩ | ⟨h, h1, h2, h3⟩
                · have g0 : ((k : Int) - (fr : Int) == 0) = true := by simp; omega
                  clear h
                  go_wp2_with fail
                  go_ret3
                  rw [HRES.out]
                  exact ⟨rfl, rfl⟩
                · have g0 : ((k : Int) - (fr : Int) == 0) = false := by simp; omega
                  have g1 : 998 < (k : Int) - (fr : Int) := by omega
                  clear h h1
                  go_wp2_with fail
                  go_ret3
                  rw [HRES.out]
                  exact ⟨rfl, rfl⟩
                · have g0 : ((k : Int) - (fr : Int) == 0) = false := by simp; omega
                  have g1 : (k : Int) - (fr : Int) ≤ 998 := by omega
                  have g3 : (W : Int) < (k : Int) - (fr : Int) := by omega
                  clear h h1 h2
                  go_wp2_with fail
                  go_ret3
                  rw [HRES.out]
                  exact ⟨rfl, rfl⟩
                · have g0 : ((k : Int) - (fr : Int) == 0) = false := by simp; omega
                  have g1 : (k : Int) - (fr : Int) ≤ 998 := by omega
                  have g3 : (k : Int) - (fr : Int) < (W : Int) := by omega
                  have g4 : ((k : Int) != (s.size : Int) - 1) = true := by simp; omega
                  clear h h1 h2 h3
                  go_wp2_with fail
                  go_ret3
                  rw [HRES.out]
                  exact ⟨rfl, rfl⟩
            · have hgo := hu2
              rw [if_neg hbad] at hgo
              have HGO := Lib.hid hgo
              clear hgo hu2
              have hcase : fr < k ∧ k ≤ fr + 998 ∧ k ≤ fr + W ∧ (k = fr + W ∨ (k < fr + W ∧ k + 1 = s.size)) := by
                unfold B64.badLine at hbad
                simp only [Bool.or_eq_true, Bool.and_eq_true, decide_eq_true_eq] at hbad
                omega
              clear hbad
              obtain ⟨h, h1, h2, h3⟩ := hcase
              have hadd : accB acc ++ s.extract fr k = accB (acc ++ (s.data.toList.drop fr).take (k - fr)) := by
                have := accB_add s acc fr (k - fr)
                rwa [show fr + (k - fr) = k by omega] at this
              have hacc2 : (acc ++ (s.data.toList.drop fr).take (k - fr)).length ≤ k + 1 := by
                have := B64.acc_le s.data.toList fr (k - fr)
                rw [List.length_append]
                omega
              have HA := Lib.hid hacc2; have HADD := Lib.hid hadd
              clear hacc2 hadd
              have g0 : ((k : Int) - (fr : Int) == 0) = false := by simp; omega
              have g1 : (k : Int) - (fr : Int) ≤ 998 := by omega
              by_cases hf0 : fr = 0
              · have g2 : wv = 0 := hwz hf0
                have HF0 := Lib.hid hf0
                clear hf0 hwz hwn
                have hWv : (k : Int) - (fr : Int) = (W : Int) := by have := hW0 HF0.out; omega
                have HWV := Lib.hid hWv
                clear hWv hW0
                subst g2
                go_wp2_with fail
                all_goals
                  refine ⟨⟨k + 1, k + 1, f', _, _, hlt, Nat.le_refl _, congrArg Value.string HADD.out, rfl, by omega, fun _ => HWV.out, by go_num, by go_num, by omega, by rw [← HGO.out, show fr + (k - fr) + 1 = k + 1 by omega], HA.out, fun _ => by have := HWV.out; omega, fun j hj1 hj2 => absurd hj1 (by omega)⟩, ?_⟩
                  simp [intOf]; omega
              · have g2 : wv = W := hwn hf0
                clear hwz hwn hW0
                subst g2
                have gw : (k : Int) - (fr : Int) ≤ (W : Int) := by omega
                have gfin : s.size - (k + 1) ≤ f' := by omega
                rcases h3 with h3 | ⟨h3, h4⟩
                · have g3 : ¬ (k : Int) - (fr : Int) < (W : Int) := by omega
                  clear h3 h2 h1 h
                  go_wp2_with fail
                  all_goals
                    refine ⟨⟨k + 1, k + 1, f', _, _, hlt, Nat.le_refl _, congrArg Value.string HADD.out, rfl, by omega, fun _ => rfl, by go_num, by go_num, gfin, by rw [← HGO.out, show fr + (k - fr) + 1 = k + 1 by omega], HA.out, fun _ => hw0 hf0, fun j hj1 hj2 => absurd hj1 (by omega)⟩, ?_⟩
                    simp [intOf]; omega
                · have g3 : (k : Int) - (fr : Int) < (W : Int) := by omega
                  have g4 : ((k : Int) != (s.size : Int) - 1) = false := by simp; omega
                  clear h4 h3 h2 h1 h
                  go_wp2_with fail
                  all_goals
                    refine ⟨⟨k + 1, k + 1, f', _, _, hlt, Nat.le_refl _, congrArg Value.string HADD.out, rfl, by omega, fun _ => rfl, by go_num, by go_num, gfin, by rw [← HGO.out, show fr + (k - fr) + 1 = k + 1 by omega], HA.out, fun _ => hw0 hf0, fun j hj1 hj2 => absurd hj1 (by omega)⟩, ?_⟩
                    simp [intOf]; omega
          · have hq2 : ((c.toNat : Int) != 10) = true := by
              simp
              intro h
              exact h10 (UInt8.toNat_inj.1 (by show c.toNat = 10; omega))
            have hnew : ∀ j, fr ≤ j → j < k + 1 → s.data.toList[j]? ≠ some 10 := by
              intro j h1 h2 h3
              by_cases hj : j < k
              · exact HNO.out j h1 hj h3
              · rw [show j = k by omega, HGK.out] at h3
                exact h10 (Option.some.inj h3)
            have HNEW := Lib.hid hnew
            clear hnew h10
            go_wp2_with fail
            go_round
            case rel => exact ⟨k + 1, fr, f, acc, wv, by omega, by omega, rfl, rfl, hwz, hwn, rfl, by go_num, hf, HT.out, hacc, hw0, HNEW.out⟩
            case measure => simp [intOf]; omega
        · have hke : k = s.size := by omega
          subst hke
          have hfe : ¬ fr < s.data.toList.length := by
            intro h
            have h1 := B64.lineLen_lt _ _ HX.out h
            exact HNO.out _ (Nat.le_add_right _ _) (by rw [← len_toList]; exact h1) (B64.lineLen_at _ _ h1)
          have hres := HT.out
          rw [B64.uwLoop_done _ _ _ _ _ hfe] at hres
          have HRES := Lib.hid hres
          clear hres hfe
          have hasz : ((accB acc).size : Int) ≤ 2000 := by rw [accB_size]; omega
          go_wp2_with fail
          go_ret3
          rw [← HRES.out]
          exact ⟨rfl, rfl⟩
    · have hu : B64.uw s.data.toList = ([], s.size, 4) := by unfold B64.uw; rw [if_neg h0, if_neg (fun h => h10 (hsf.1 h)), len_toList]
      rw [hu]
      have hq : ((cl.toNat : Int) != 10) = true := by
        simp
        intro h
        exact h10 (UInt8.toNat_inj.1 (by show cl.toNat = 10; omega))
      clear hu hsf h10 h0 hlast
      go_enter Tryd.func23, Tryd.ntmps23
      go_wp2_with fail
      go_ret3
      exact ⟨rfl, rfl⟩
end Go.Proofs.YtbojodgeknjpjaaDoor
