/- Digits of the reference: it answers the decimal text of its number, and writes nothing that was there. -/
import Derived.Test.YtgopcplcamljmaaDoorRefNum
namespace Go.Proofs.YtgopcplcamljmaaDoor
open Go.RowKit

theorem bcell {W w1 : World} (hb : Below W.heap.size W w1) : (∀ b o, b < W.heap.size → w1.cell? ⟨b, o, none⟩ = W.cell? ⟨b, o, none⟩) ∧ (∀ b o, b < W.heap.size → w1.frozen? ⟨b, o, none⟩ = W.frozen? ⟨b, o, none⟩) :=
  ⟨fun b o h => hb.cell (p := ⟨b, o, none⟩) h, fun b o h => hb.frozen (p := ⟨b, o, none⟩) h⟩

theorem conv_one (w : World) (B c : Nat) (z : UInt8) (h : w.cell? ⟨B, 0, none⟩ = some (.int .u8 (z.toNat : Int))) : (convert 41 9 (.slice (some ⟨B, 0, none⟩) 1 c)).run Tryd.prog w = .ok (.string ⟨#[z]⟩) w :=
  run_convert_bytes_back (P := Tryd.prog) w 41 9 5 ⟨B, 0, none⟩ c [z] Tryd.underlying41 Tryd.underlying5 Tryd.underlying9 (fun j hj => by
    have : j = 0 := by simp at hj; omega
    subst this
    rw [show (⟨B, 0, none⟩ : Addr).add 0 = ⟨B, 0, none⟩ by simp [Addr.add]]
    simpa using h)

theorem dec_len : ∀ (k n : Nat), n < 10 ^ (k + 1) → (Lib.decDigits n).length ≤ k + 1
  | 0, n, h => by rw [Lib.decDigits, dif_pos (by simpa using h)]; simp
  | k + 1, n, h => by
    rw [Lib.decDigits]
    split
    · simp
    · have := dec_len k (n / 10) (by rw [Nat.div_lt_iff_lt_mul (by omega)]; rw [Nat.pow_succ] at h; omega)
      rw [List.length_append]
      simp only [List.length_cons, List.length_nil]
      omega

set_option maxHeartbeats 1000000 in
theorem plain_any (k : Nat) : ∀ (n : Nat) (w : World), n < 10 ^ k → n < 18446744073709551616 → Calls Tryd.prog 59 #[.int .u64 n] w fun e w' => e = .returned (.string ⟨(Lib.decDigits n).toArray⟩) ∧ Below w.heap.size w w' := by
  induction k with
  | zero =>
    intro n w h _
    have : n = 0 := by simpa using h
    subst this
    have kc := conv_one (w.alloc (.cells #[.int .u8 48] 5)) w.heap.size 1 48 (by simp)
    go_enter Tryd.func59, Tryd.ntmps59
    go_wp2_with fail
    go_ret
    exact ⟨by rw [Lib.decDigits, dif_pos (by omega)]; rfl, (Below.refl _ w).alloc (Nat.le_refl _) _⟩
  | succ k ih =>
    intro n w hn hn2
    have hnI : (n : Int) < 18446744073709551616 := by omega
    by_cases h : n < 10
    · have hI : (n : Int) < 10 := by omega
      have hz : ((UInt8.ofNat (48 + n)).toNat : Int) = 48 + (n : Int) := by
        rw [UInt8.toNat_ofNat']; omega
      obtain ⟨z, hzz⟩ : ∃ z, z = UInt8.ofNat (48 + n) := ⟨_, rfl⟩
      rw [← hzz] at hz
      have kc := conv_one (w.alloc (.cells #[.int .u8 (48 + (n : Int))] 5)) w.heap.size 1 z (by rw [hz]; simp)
      have HZ := Lib.hid hzz
      clear ih hz hn hzz
      go_enter Tryd.func59, Tryd.ntmps59
      go_wp2_with fail
      go_ret
      exact ⟨by rw [Lib.decDigits, dif_pos h, ← HZ.out]; rfl, (Below.refl _ w).alloc (Nat.le_refl _) _⟩
    · have hI : ¬ (n : Int) < 10 := by omega
      obtain ⟨q, hq⟩ : ∃ q, q = n / 10 := ⟨_, rfl⟩
      obtain ⟨r, hr⟩ : ∃ r, r = n % 10 := ⟨_, rfl⟩
      obtain ⟨z, hzz⟩ : ∃ z, z = UInt8.ofNat (48 + r) := ⟨_, rfl⟩
      have hz : ((z.toNat : Nat) : Int) = 48 + (r : Int) := by rw [hzz, UInt8.toNat_ofNat']; omega
      have e1 : IntKind.u64.wrap ((n : Int) / 10) = (q : Int) := by
        rw [hq]; simp [IntKind.wrap, IntKind.bits, IntKind.signed]; omega
      have e2 : (n : Int).tmod 10 = (r : Int) := by
        rw [hr, Int.tmod_eq_emod_of_nonneg (by omega)]; omega
      have e3 : IntKind.u64.wrap (48 + (r : Int)) = (z.toNat : Int) := by
        rw [hz, hr]; simp [IntKind.wrap, IntKind.bits, IntKind.signed]; omega
      have e4 : IntKind.u8.wrap (z.toNat : Int) = (z.toNat : Int) := by
        have := z.toNat_lt
        simp [IntKind.wrap, IntKind.bits, IntKind.signed]; omega
      obtain ⟨t, ht⟩ : ∃ t : ByteArray, t = ⟨(Lib.decDigits q).toArray⟩ := ⟨_, rfl⟩
      have hts : t.size ≤ 30 := by
        rw [ht, ← size_toList]
        exact Nat.le_trans (dec_len 19 q (by rw [hq]; omega)) (by omega)
      have hi := fun w => ih q w (by rw [hq, Nat.div_lt_iff_lt_mul (by omega)]; rw [Nat.pow_succ] at hn; omega) (by omega)
      rw [← ht] at hi
      have kc := fun (W : World) (B c : Nat) (h : W.cell? ⟨B, 0, none⟩ = some (.int .u8 (z.toNat : Int))) => conv_one W B c z h
      have hend : t ++ ⟨#[z]⟩ = ⟨(Lib.decDigits n).toArray⟩ := by
        rw [Lib.decDigits, dif_neg h, ht, ← hq, ← hr, ← hzz]
        apply ByteArray.ext
        simp
      have HI := Lib.hid hi; have HE := Lib.hid hend
      have htI : (t.size : Int) ≤ 30 := by omega
      clear hi hend ht hq hr hzz hz ih hn hn2 hnI h
      go_enter Tryd.func59, Tryd.ntmps59
      go_wp2_with fail
      go_region_with (go_at_call 59; refine (HI.out _).mono ?_; rintro e w' ⟨rfl, hb⟩; have hcc := hb.cell (p := ⟨w.heap.size, 0, none⟩))
      all_goals
        first
          | (exfalso; omega)
          | (go_wp2_with fail
             go_ret
             refine ⟨ret_str HE.out, ?_⟩
             first
               | exact ((Below.refl _ w).drew.trans hb).alloc hb.size _
               | exact ((Below.refl _ w).alloc (Nat.le_refl _) _).drew.trans (hb.mono (by simp)))

theorem refDigits_any (n : Int) (w : World) (h0 : -9223372036854775808 ≤ n) (h1 : n ≤ 9223372036854775807) :
    Calls Tryd.prog 43 #[.int .i64 n] w fun e w' => e = .returned (.string ⟨(Lib.itoa n).toArray⟩) ∧ Below w.heap.size w w' := by
  by_cases hn : n < 0
  · obtain ⟨m, hm⟩ : ∃ m : Nat, (m : Int) = -n := ⟨(-n).toNat, by omega⟩
    have hm2 : m < 18446744073709551616 := by omega
    have hp := fun w => plain_any 20 m w (by omega) hm2
    obtain ⟨t, ht⟩ : ∃ t : ByteArray, t = ⟨(Lib.decDigits m).toArray⟩ := ⟨_, rfl⟩
    rw [← ht] at hp
    have hts : t.size ≤ 30 := by
      rw [ht, ← size_toList]
      exact Nat.le_trans (dec_len 19 m (by omega)) (by omega)
    have hend : (⟨#[45]⟩ : ByteArray) ++ t = ⟨(Lib.itoa n).toArray⟩ := by
      rw [Lib.itoa, if_pos hn, ht, show n.natAbs = m by omega]
      apply ByteArray.ext
      simp
    have HP := Lib.hid hp; have HE := Lib.hid hend; have HM := Lib.hid hm
    have htI : (t.size : Int) ≤ 30 := by omega
    clear hp hend ht hm hm2
    go_enter Tryd.func43, Tryd.ntmps43
    go_wp2_with fail
    rw [show -(n + 1) + 1 = (m : Int) by have := HM.out; omega]
    refine (HP.out _).mono ?_
    rintro e w1 ⟨rfl, hb⟩
    go_wp2_with fail
    go_ret
    exact ⟨ret_str HE.out, hb⟩
  · obtain ⟨m, rfl⟩ : ∃ m : Nat, n = (m : Int) := ⟨n.toNat, by omega⟩
    have hm2 : m < 18446744073709551616 := by omega
    have hp := fun w => plain_any 20 m w (by omega) hm2
    obtain ⟨t, ht⟩ : ∃ t : ByteArray, t = ⟨(Lib.decDigits m).toArray⟩ := ⟨_, rfl⟩
    rw [← ht] at hp
    have hend : t = ⟨(Lib.itoa (m : Int)).toArray⟩ := by
      rw [Lib.itoa, if_neg (by omega), ht]; rfl
    have HP := Lib.hid hp; have HE := Lib.hid hend
    clear hp hend ht hm2
    go_enter Tryd.func43, Tryd.ntmps43
    go_wp2_with fail
    refine (HP.out _).mono ?_
    rintro e w1 ⟨rfl, hb⟩
    go_wp2_with fail
    go_ret
    exact ⟨ret_str HE.out, hb⟩

theorem index_range (s sub : List UInt8) : Lib.index s sub = -1 ∨ ∃ i : Nat, Lib.index s sub = (i : Int) ∧ i + sub.length ≤ s.length ∧ Lib.occAt s sub i = true := by
  by_cases h : ∃ i, i ≤ s.length ∧ Lib.occAt s sub i = true
  · right
    obtain ⟨i, hi, ho⟩ := h
    induction i using Nat.strongRecOn with
    | _ i ih =>
      by_cases hp : ∃ j, j < i ∧ Lib.occAt s sub j = true
      · obtain ⟨j, hj, hoj⟩ := hp
        exact ih j hj (by omega) hoj
      · refine ⟨i, Lib.index_first hi ho (fun j hj => ?_), ?_, ho⟩
        · cases hx : Lib.occAt s sub j with
          | false => rfl
          | true => exact absurd ⟨j, hj, hx⟩ hp
        · rcases Lib.occAt_room ho with h | h
          · exact h
          · rw [h]; simpa using hi
  · left
    refine Lib.index_none (fun j hj => ?_)
    cases hx : Lib.occAt s sub j with
    | false => rfl
    | true => exact absurd ⟨j, hj, hx⟩ h

set_option maxHeartbeats 1000000 in
theorem refIndex_any (a b : ByteArray) (w : World) (ha : a.size ≤ 1000) (hb : b.size ≤ 1000) (r : Int) (hr : r = Lib.index (Asc.low a.data.toList) (Asc.low b.data.toList)) :
    Calls Tryd.prog 33 #[.string a, .string b] w fun e w' => e = .returned (.int .i64 r) ∧ Below w.heap.size w w' := by
  obtain ⟨x, hx⟩ : ∃ x : ByteArray, x = ⟨(Asc.low a.data.toList).toArray⟩ := ⟨_, rfl⟩
  obtain ⟨y, hy⟩ : ∃ y : ByteArray, y = ⟨(Asc.low b.data.toList).toArray⟩ := ⟨_, rfl⟩
  have h1 := fun w => refLow_any a w (by unfold maxLen; omega) x hx
  have h2 := fun w => refLow_any b w (by unfold maxLen; omega) y hy
  have hxs : x.size ≤ 1000 := by rw [hx, low_size]; exact ha
  have hys : y.size ≤ 1000 := by rw [hy, low_size]; exact hb
  have hr2 : r = Lib.index x.data.toList y.data.toList := by rw [hr, hx, hy]
  have hxI : (x.size : Int) ≤ 1000 := by omega
  have hyI : (y.size : Int) ≤ 1000 := by omega
  have H1 := Lib.hid h1; have H2 := Lib.hid h2; have HR := Lib.hid hr2
  clear h1 h2 hr hr2 hx hy
  go_enter Tryd.func33, Tryd.ntmps33
  go_wp2_with fail
  refine (H1.out _).mono ?_
  rintro e w1 ⟨rfl, hb1⟩
  go_wp2_with fail
  refine (H2.out _).mono ?_
  rintro e w2 ⟨rfl, hb2⟩
  have hb3 := hb1.trans (hb2.mono hb1.size)
  clear hb1 hb2
  go_wp2_with fail
  go_loop [7] (fun i => ∃ k : Nat, i = .int .i64 k ∧ k ≤ x.size + 1 ∧ ∀ j, j < k → Lib.occAt x.data.toList y.data.toList j = false) (fun i => x.size + 1 - (intOf i).toNat)
  case atStart => exact ⟨0, rfl, Nat.zero_le _, fun j hj => absurd hj (by omega)⟩
  case round =>
    obtain ⟨k, rfl, hk, hno⟩ := hrel
    have HNO := Lib.hid hno
    clear hno
    by_cases hle : k + y.size ≤ x.size
    · have hleI : (k : Int) + (y.size : Int) ≤ (x.size : Int) := by omega
      have hocc := Lib.occAt_iff_take x.data.toList y.data.toList k (by rw [size_toList, size_toList]; exact hle)
      have hex : (x.extract k (k + y.size)).toList = (x.data.toList.drop k).take y.data.toList.length := by
        rw [ByteArray.toList_eq, Lib.extract_data, size_toList, Nat.add_sub_cancel_left]
      rw [← hex, ← ByteArray.toList_eq y] at hocc
      cases ho : Lib.occAt x.data.toList y.data.toList k with
      | true =>
        rw [ByteArray.toList_eq y, ho, ← ByteArray.toList_eq y] at hocc
        have htest : ((x.extract k (k + y.size)).toList == y.toList) = true := hocc.symm
        have hres : r = (k : Int) := by rw [HR.out]; exact Lib.index_first (by rw [size_toList]; omega) ho HNO.out
        have HRES := Lib.hid hres
        clear hocc ho hex hres
        go_wp2_with fail
        go_ret
        exact ⟨ret_int HRES.out.symm, hb3⟩
      | false =>
        rw [ByteArray.toList_eq y, ho, ← ByteArray.toList_eq y] at hocc
        have htest : ((x.extract k (k + y.size)).toList == y.toList) = false := hocc.symm
        have hno2 : ∀ j, j < k + 1 → Lib.occAt x.data.toList y.data.toList j = false := by
          intro j hj
          by_cases e : j = k
          · subst e; exact ho
          · exact HNO.out j (by omega)
        have HNO2 := Lib.hid hno2
        clear hocc ho hex hno2
        go_wp2_with fail
        go_round
        case rel => exact ⟨k + 1, by go_num, by omega, HNO2.out⟩
        case measure => simp [intOf]; omega
    · have hleI : ¬ (k : Int) + (y.size : Int) ≤ (x.size : Int) := by omega
      have hres : r = -1 := by
        rw [HR.out]
        refine Lib.index_none (fun j hj => ?_)
        by_cases hjk : j < k
        · exact HNO.out j hjk
        · cases hx : Lib.occAt x.data.toList y.data.toList j with
          | false => rfl
          | true =>
            rw [size_toList] at hj
            rcases Lib.occAt_room hx with h | h
            · rw [size_toList, size_toList] at h; omega
            · have := congrArg List.length h
              rw [size_toList] at this
              simp only [List.length_nil] at this
              omega
      have HRES := Lib.hid hres
      clear hres
      go_wp2_with fail
      go_ret
      exact ⟨ret_int HRES.out.symm, hb3⟩
end Go.Proofs.YtgopcplcamljmaaDoor
