/- The reference's Begins: called with a text that is not empty it answers U8.begins of its bytes, and writes nothing that was there. -/
import Derived.Test.YtbjhomihmlijiaaDoorRef
import Derived.BigFrame
import Derived.BigGuardPart
namespace U8
theorem begins_eq (l : List Nat) (hl : 0 < l.length) : begins l =
    if leadN (l.getD 0 0) = 0 ∨ leadN (l.getD 0 0) < l.length then (false, 0, 0)
    else if (l.drop 1).all cont then
      (if range (refVal (l.drop 1) (leadV (l.getD 0 0))) (leadN (l.getD 0 0)) l.length then (true, leadN (l.getD 0 0), refVal (l.drop 1) (leadV (l.getD 0 0))) else (false, 0, 0))
    else (false, 0, 0) := by
  match l, hl with
  | c :: r, _ => rfl

theorem lead_le (c : Nat) : leadN c ≤ 4 ∧ leadV c < 128 := by
  unfold leadN leadV
  repeat' split
  all_goals omega

theorem drop_get (l : List Nat) (k : Nat) (h : k < l.length) : l.drop k = l.getD k 0 :: l.drop (k + 1) := by
  rw [List.drop_eq_getElem_cons h, List.getD_eq_getElem?_getD, List.getElem?_eq_getElem h]
  rfl
end U8
namespace Go.Proofs.YtbjhomihmlijiaaDoor
open Go.RowKit

set_option maxRecDepth 100000 in
set_option maxHeartbeats 1000000 in
theorem refBegins_any (s : ByteArray) (w : World) (hs : 0 < s.size) (hmax : s.size ≤ 1000000) (b : Bool) (n v : Nat) (hr : U8.begins (bytesOf s) = (b, n, v)) :
    Calls Tryd.prog 38 #[.string s] w fun x w' => x = .returned (.tuple #[.bool b, .int .i64 n, .int .i64 v]) ∧ Below w.heap.size w w' := by
  obtain ⟨c, hc⟩ : ∃ c, s[0] = c := ⟨_, rfl⟩
  have hmaxI : (s.size : Int) ≤ 1000000 := by omega
  have hsI : (0 : Int) < (s.size : Int) := by omega
  rw [U8.begins_eq _ (by rw [bytesOf_length]; exact hs), bytesOf_get s 0 hs, hc, bytesOf_length] at hr
  obtain ⟨hN4, hV7⟩ := U8.lead_le c.toNat
  obtain ⟨N, hN⟩ : ∃ N, U8.leadN c.toNat = N := ⟨_, rfl⟩
  obtain ⟨V, hV⟩ : ∃ V, U8.leadV c.toNat = V := ⟨_, rfl⟩
  have hlead := fun w => lead_any c.toNat w N V hN hV
  rw [hN, hV] at hr
  rw [hN] at hN4
  rw [hV] at hV7
  have HL := Lib.hid hlead
  clear hlead hN hV
  by_cases h0 : N = 0
  · rw [if_pos (Or.inl h0)] at hr
    simp only [Prod.mk.injEq] at hr
    obtain ⟨rfl, rfl, rfl⟩ := hr
    have hq : ((N : Int) == 0) = true := by simp; omega
    clear h0
    go_enter Tryd.func38, Tryd.ntmps38
    go_wp2_with (go_at_call 48; go_must (refine (HL.out _).mono ?_; rintro e w' ⟨rfl, rfl⟩))
    go_ret3
    exact ⟨rfl, Below.refl _ _⟩
  · have hq : ((N : Int) == 0) = false := by simp; omega
    by_cases h1 : N < s.size
    · rw [if_pos (Or.inr h1)] at hr
      simp only [Prod.mk.injEq] at hr
      obtain ⟨rfl, rfl, rfl⟩ := hr
      have hq1 : (N : Int) < (s.size : Int) := by omega
      clear h0 h1
      go_enter Tryd.func38, Tryd.ntmps38
      go_wp2_with (go_at_call 48; go_must (refine (HL.out _).mono ?_; rintro e w' ⟨rfl, rfl⟩))
      go_ret3
      exact ⟨rfl, Below.refl _ _⟩
    · rw [if_neg (by omega)] at hr
      have hq1 : (s.size : Int) ≤ (N : Int) := by omega
      have HR := Lib.hid hr
      clear hr
      go_enter Tryd.func38, Tryd.ntmps38
      go_wp2_with (go_at_call 48; go_must (refine (HL.out _).mono ?_; rintro e w' ⟨rfl, rfl⟩))
      go_loop [6, 7] (fun vv kk => ∃ (x k : Nat), vv = .int .i64 x ∧ kk = .int .i64 k ∧ 1 ≤ k ∧ k ≤ s.size ∧ x + 1 ≤ 128 * 64 ^ (k - 1) ∧ U8.refVal ((bytesOf s).drop k) x = U8.refVal ((bytesOf s).drop 1) V ∧ ((bytesOf s).drop k).all U8.cont = ((bytesOf s).drop 1).all U8.cont) (fun _ kk => s.size - (intOf kk).toNat)
      case atStart => exact ⟨V, 1, rfl, rfl, Nat.le_refl _, hs, by simp; omega, rfl, rfl⟩
      case round =>
        obtain ⟨x, k, rfl, rfl, hk1, hks, hx, hv, ha⟩ := hrel
        have hk4 : k ≤ 4 := by omega
        have hp : 64 ^ (k - 1) ≤ 64 ^ 3 := Nat.pow_le_pow_right (by omega) (by omega)
        have hx2 : x < 33554432 := by
          have : (64 : Nat) ^ 3 = 262144 := rfl
          omega
        have hx2I : (x : Int) < 33554432 := by omega
        by_cases hlt : k < s.size
        · obtain ⟨d, hd⟩ : ∃ d, s[k] = d := ⟨_, rfl⟩
          have hdl : d.toNat < 256 := d.toNat_lt
          have hdrop := U8.drop_get (bytesOf s) k (by rw [bytesOf_length]; exact hlt)
          rw [bytesOf_get s k hlt, hd] at hdrop
          by_cases hcont : U8.cont d.toNat = true
          · have hcont2 : 128 ≤ d.toNat ∧ d.toNat < 192 := by
              unfold U8.cont at hcont
              simpa using hcont
            have g1 : ¬ (d.toNat : Int) < 128 := by omega
            have g2 : ¬ (191 : Int) < (d.toNat : Int) := by omega
            rw [hdrop, U8.refVal] at hv
            rw [hdrop, List.all_cons, hcont, Bool.true_and] at ha
            obtain ⟨y, hy⟩ : ∃ y, y = 64 * x + d.toNat - 128 := ⟨_, rfl⟩
            rw [← hy] at hv
            have hyI : 64 * (x : Int) + (d.toNat : Int) - 128 = (y : Int) := by omega
            have hroom : y + 1 ≤ 128 * 64 ^ (k + 1 - 1) := by
              rw [Nat.add_sub_cancel, show k = (k - 1) + 1 by omega, Nat.pow_succ]
              omega
            have HV := Lib.hid hv; have HA := Lib.hid ha; have HRM := Lib.hid hroom
            clear hv ha hroom hdrop hcont hcont2 hp hx hy
            go_wp2_with fail
            go_round
            case rel => exact ⟨y, k + 1, rfl, by go_num, by omega, hlt, HRM.out, HV.out, HA.out⟩
            case measure => simp [intOf]; omega
          · have hres : (false, 0, 0) = (b, n, v) := by
              rw [← HR.out, if_neg]
              rw [← ha, hdrop, List.all_cons]
              simp [hcont]
            simp only [Prod.mk.injEq] at hres
            obtain ⟨rfl, rfl, rfl⟩ := hres
            have hcase : d.toNat < 128 ∨ (128 ≤ d.toNat ∧ 192 ≤ d.toNat) := by
              unfold U8.cont at hcont
              simp at hcont
              omega
            clear hv ha hdrop hcont hp hx
            rcases hcase with h | ⟨h, h'⟩
            · have g1 : (d.toNat : Int) < 128 := by omega
              go_wp2_with fail
              go_ret3
              exact ⟨rfl, Below.refl _ _⟩
            · have g1 : ¬ (d.toNat : Int) < 128 := by omega
              have g2 : (191 : Int) < (d.toNat : Int) := by omega
              go_wp2_with fail
              go_ret3
              exact ⟨rfl, Below.refl _ _⟩
        · obtain rfl : k = s.size := by omega
          have hnil : (bytesOf s).drop s.size = [] := List.drop_eq_nil_of_le (by rw [bytesOf_length]; exact Nat.le_refl _)
          rw [hnil] at hv ha
          have hres := HR.out
          rw [← hv, ← ha] at hres
          have hresT : U8.range x N s.size = true → (true, N, x) = (b, n, v) := fun h => by simpa [U8.refVal, h] using hres
          have hresF : U8.range x N s.size = false → (false, 0, 0) = (b, n, v) := fun h => by simpa [U8.refVal, h] using hres
          have HREST := Lib.hid hresT; have HRESF := Lib.hid hresF
          have HX := Lib.hid hx
          have hmN : s.size ≤ N := by omega
          clear hv ha hnil hres hresT hresF HR hx hp
          go_wp2_with fail
          go_loop [8, 9, 10] (fun lo hi ii => ∃ (j l h : Nat), lo = .int .i64 l ∧ hi = .int .i64 h ∧ ii = .int .i64 (s.size + j : Nat) ∧ s.size + j ≤ N ∧ l = x * 64 ^ j ∧ h = x * 64 ^ j + (64 ^ j - 1)) (fun _ _ ii => N - (intOf ii).toNat)
          case atStart => exact ⟨0, x, x, rfl, rfl, by simp, hmN, by simp, by simp⟩
          case round =>
            obtain ⟨j, l, h, rfl, rfl, rfl, hj, hl, hh⟩ := hrel
            have hj3 : j ≤ 3 := by omega
            have hp : 64 ^ j ≤ 64 ^ 3 := Nat.pow_le_pow_right (by omega) hj3
            have hp2 : (64 : Nat) ^ 3 = 262144 := rfl
            have hp0 : 0 < 64 ^ j := Nat.pow_pos (by omega)
            have hlb : l ≤ 33554432 * 262144 := by rw [hl]; exact Nat.mul_le_mul (by omega) (by omega)
            have hhb : h ≤ 33554432 * 262144 + 262144 := by rw [hh, ← hl]; omega
            have hlbI : (l : Int) ≤ 8796093022208 := by omega
            have hhbI : (h : Int) ≤ 8796093284352 := by omega
            by_cases hjn : s.size + j < N
            · have hjI : (s.size : Int) + (j : Int) < (N : Int) := by omega
              have e1 : x * 64 ^ (j + 1) = 64 * (x * 64 ^ j) := by rw [Nat.pow_succ, ← Nat.mul_assoc, Nat.mul_comm]
              have e2 : 64 ^ (j + 1) = 64 * 64 ^ j := by rw [Nat.pow_succ, Nat.mul_comm]
              have f1 : 64 * l = x * 64 ^ (j + 1) := by rw [e1, hl]
              have f2 : 64 * h + 63 = x * 64 ^ (j + 1) + (64 ^ (j + 1) - 1) := by rw [e1, hh, e2]; omega
              have F1 := Lib.hid f1; have F2 := Lib.hid f2
              clear hl hh e1 e2 f1 f2 hp hp2
              go_wp2_with fail
              go_round
              case rel => exact ⟨j + 1, 64 * l, 64 * h + 63, by go_num, by go_num, by go_num, by omega, F1.out, F2.out⟩
              case measure => simp [intOf]; omega
            · have hjI : ¬ (s.size : Int) + (j : Int) < (N : Int) := by omega
              have HJ := Lib.hid (show j = N - s.size by omega)
              have HLW := Lib.hid hl; have HHW := Lib.hid hh
              clear hl hh hp hp2
              obtain ⟨L, hL⟩ : ∃ L, U8.least N = L := ⟨_, rfl⟩
              obtain ⟨M, hM⟩ : ∃ M, U8.most N = M := ⟨_, rfl⟩
              have hN1 : N = 1 ∨ N = 2 ∨ N = 3 ∨ N = 4 := by omega
              have hLe := fun w => least_any N w hN1 L hL
              have hMo := fun w => most_any N w hN1 M hM
              obtain ⟨lo, hlo⟩ : ∃ z, z = max l L := ⟨_, rfl⟩
              obtain ⟨hi, hhi⟩ : ∃ z, z = min h M := ⟨_, rfl⟩
              have hloI : max (l : Int) (L : Int) = (lo : Int) := by omega
              have hhiI : min (h : Int) (M : Int) = (hi : Int) := by omega
              have hrange : U8.range x N s.size = !((decide (55296 ≤ lo) && decide (hi ≤ 57343)) || decide (hi < lo)) := by
                unfold U8.range
                rw [← HJ.out, ← HHW.out, ← HLW.out, hL, hM, ← hlo, ← hhi]
              have HLE := Lib.hid hLe; have HMO := Lib.hid hMo; have HRG := Lib.hid hrange
              clear hLe hMo hrange hL hM hlo hhi hlb hhb hlbI hhbI hx2 hx2I hmaxI
              by_cases hc1 : 55296 ≤ lo ∧ hi ≤ 57343
              · have hres := HRESF.out (by rw [HRG.out]; simp; omega)
                simp only [Prod.mk.injEq] at hres
                obtain ⟨rfl, rfl, rfl⟩ := hres
                have g1 : (55296 : Int) ≤ (lo : Int) := by omega
                have g2 : (hi : Int) ≤ 57343 := by omega
                clear hc1 HREST HRESF
                go_wp2_with (first | (go_at_call 49; go_must (refine (HLE.out _).mono ?_; rintro e w2 ⟨rfl, hb2⟩)) | (go_at_call 50; go_must (refine (HMO.out _).mono ?_; rintro e w3 ⟨rfl, hb3⟩)))
                all_goals
                  go_ret3
                  exact ⟨rfl, hb2.trans (hb3.mono hb2.size)⟩
              · by_cases hc2 : hi < lo
                · have hres := HRESF.out (by rw [HRG.out]; simp; omega)
                  simp only [Prod.mk.injEq] at hres
                  obtain ⟨rfl, rfl, rfl⟩ := hres
                  have g3 : (hi : Int) < (lo : Int) := by omega
                  by_cases hc3 : 55296 ≤ lo
                  · have g1 : (55296 : Int) ≤ (lo : Int) := by omega
                    have g2 : ¬ (hi : Int) ≤ 57343 := by omega
                    clear hc1 hc2 hc3 HREST HRESF
                    go_wp2_with (first | (go_at_call 49; go_must (refine (HLE.out _).mono ?_; rintro e w2 ⟨rfl, hb2⟩)) | (go_at_call 50; go_must (refine (HMO.out _).mono ?_; rintro e w3 ⟨rfl, hb3⟩)))
                    all_goals
                      go_ret3
                      exact ⟨rfl, hb2.trans (hb3.mono hb2.size)⟩
                  · have HC3 := Lib.hid hc3
                    clear hc1 hc2 hc3 HREST HRESF
                    go_wp2_with (first | (go_at_call 49; go_must (refine (HLE.out _).mono ?_; rintro e w2 ⟨rfl, hb2⟩)) | (go_at_call 50; go_must (refine (HMO.out _).mono ?_; rintro e w3 ⟨rfl, hb3⟩)))
                    all_goals
                      first
                        | (exfalso; have := HC3.out; omega)
                        | (go_ret3; exact ⟨rfl, hb2.trans (hb3.mono hb2.size)⟩)
                · have hres := HREST.out (by rw [HRG.out]; simp; omega)
                  simp only [Prod.mk.injEq] at hres
                  obtain ⟨rfl, rfl, rfl⟩ := hres
                  have g3 : ¬ (hi : Int) < (lo : Int) := by omega
                  by_cases hc3 : 55296 ≤ lo
                  · have g1 : (55296 : Int) ≤ (lo : Int) := by omega
                    have g2 : ¬ (hi : Int) ≤ 57343 := by omega
                    clear hc1 hc2 hc3 HREST HRESF
                    go_wp2_with (first | (go_at_call 49; go_must (refine (HLE.out _).mono ?_; rintro e w2 ⟨rfl, hb2⟩)) | (go_at_call 50; go_must (refine (HMO.out _).mono ?_; rintro e w3 ⟨rfl, hb3⟩)))
                    all_goals
                      go_ret3
                      exact ⟨rfl, hb2.trans (hb3.mono hb2.size)⟩
                  · have HC3 := Lib.hid hc3
                    clear hc1 hc2 hc3 HREST HRESF
                    go_wp2_with (first | (go_at_call 49; go_must (refine (HLE.out _).mono ?_; rintro e w2 ⟨rfl, hb2⟩)) | (go_at_call 50; go_must (refine (HMO.out _).mono ?_; rintro e w3 ⟨rfl, hb3⟩)))
                    all_goals
                      first
                        | (exfalso; have := HC3.out; omega)
                        | (go_ret3; exact ⟨rfl, hb2.trans (hb3.mono hb2.size)⟩)
end Go.Proofs.YtbjhomihmlijiaaDoor
