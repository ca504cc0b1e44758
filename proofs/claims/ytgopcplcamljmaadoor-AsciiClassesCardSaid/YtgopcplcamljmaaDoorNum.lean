/- Number of the program and of the reference, Digits of the reference: what each answers; each writes nothing that was there. -/
import Derived.Test.YtgopcplcamljmaaDoorFold
import Derived.Lib.SmallJoins
namespace Go.Proofs.YtgopcplcamljmaaDoor
open Go.RowKit

/-- the answer to a text and a limit: the number and the error -/
def numA (l : List UInt8) (most : Int) : Int × Int :=
  if Asc.isNum l = true then (if Asc.val l < 9223372036854775808 ∧ (Asc.val l : Int) ≤ most then ((Asc.val l : Int), 0) else (0, 2)) else (0, 3)

theorem span_full (p : UInt8 → Bool) : ∀ l : List UInt8, Asc.span p l = l.length ↔ l.all p = true
  | [] => by simp [Asc.span]
  | c :: r => by
    have ih := span_full p r
    have hle := Asc.span_le p r
    rw [Asc.span, List.all_cons, List.length_cons]
    cases hc : p c
    · simp
    · simp [ih]

theorem head_get (s : ByteArray) (h : 0 < s.size) : s.data.toList.getD 0 0 = s[0] := by
  rw [List.getD_eq_getElem?_getD, List.getElem?_eq_getElem (by rw [size_toList]; exact h), get_toList s 0 h]; rfl

theorem isNum_of (s : ByteArray) (h0 : 0 < s.size) (hd : s.data.toList.all Asc.digB = true) (hz : ¬ (1 < s.size ∧ s[0].toNat = 48)) : Asc.isNum s.data.toList = true := by
  refine (Asc.isNum_iff _).2 ⟨fun e => ?_, hd, fun h => ?_⟩
  · have := congrArg List.length e; rw [size_toList] at this; simp only [List.length_nil] at this; omega
  · rw [head_get s h0]
    intro e
    rw [size_toList] at h
    exact hz ⟨h, by rw [e]; rfl⟩

theorem isNum_no (s : ByteArray) (h : ¬ (0 < s.size) ∨ s.data.toList.all Asc.digB = false ∨ ∃ h0 : 0 < s.size, 1 < s.size ∧ s[0].toNat = 48) : Asc.isNum s.data.toList = false := by
  cases hn : Asc.isNum s.data.toList with
  | false => rfl
  | true =>
    exfalso
    obtain ⟨h1, h2, h3⟩ := (Asc.isNum_iff _).1 hn
    rcases h with h | h | ⟨h0, h, h'⟩
    · exact h1 (List.length_eq_zero_iff.1 (by rw [size_toList]; omega))
    · rw [h2] at h; cases h
    · have := h3 (by rw [size_toList]; exact h)
      rw [head_get s h0] at this
      exact this (UInt8.toNat_inj.1 h')

theorem skipDigits (s : ByteArray) (w : World) (hs : s.size ≤ 1000000) (k : Nat) (hk : k = Asc.span Asc.digB s.data.toList) :
    Calls Tryd.prog 49 #[.string s, .int .i64 0, .func (.func 17) #[] #[]] w fun e w' => e = .returned (.int .i64 k) ∧ w = w' :=
  skip_any s 0 k 17 Asc.digB ent_isDigit isDigit_any w (by unfold maxLen; omega) (Nat.zero_le _) (by simpa using hk)

set_option maxHeartbeats 1000000 in
theorem number_any (s : ByteArray) (most : Int) (w : World) (hI : Inv w) (hs : s.size ≤ 1000000) (v e : Int) (hr : numA s.data.toList most = (v, e)) :
    Calls Tryd.prog 42 #[.string s, .int .i64 most] w fun x w' => x = .returned (.tuple #[.int .i64 v, .int .i64 e]) ∧ Below w.heap.size w w' := by
  have hsI : (s.size : Int) ≤ 1000000 := by omega
  by_cases h0 : 0 < s.size
  · obtain ⟨k, hk⟩ : ∃ k, k = Asc.span Asc.digB s.data.toList := ⟨_, rfl⟩
    have hsk := fun w => skipDigits s w hs k hk
    have hks : k ≤ s.size := by rw [hk, ← size_toList]; exact Asc.span_le _ _
    have e1 : s.toList.isEmpty = false := by
      rw [ByteArray.toList_eq]
      cases hl : s.data.toList with
      | nil => have := congrArg List.length hl; rw [size_toList] at this; simp only [List.length_nil] at this; omega
      | cons _ _ => rfl
    have e2 : ¬ s.toList = [] := by intro e; rw [e] at e1; cases e1
    have HSK := Lib.hid hsk
    have HK := Lib.hid hk
    clear hsk hk
    by_cases hlt : k < s.size
    · have hno := isNum_no s (.inr (.inl (by
        cases hd : s.data.toList.all Asc.digB with
        | false => rfl
        | true => have := (span_full Asc.digB _).2 hd; rw [size_toList, ← HK.out] at this; omega)))
      have hres : (0, 3) = (v, e) := by rw [← hr, numA, if_neg (by rw [hno]; decide)]
      simp only [Prod.mk.injEq] at hres
      obtain ⟨rfl, rfl⟩ := hres
      clear hno hr
      go_enter Tryd.func42, Tryd.ntmps42
      go_wp2_with (go_at_call 49; refine (HSK.out _).mono ?_; rintro e w' ⟨rfl, rfl⟩)
      go_ret2
      exact ⟨rfl, Below.refl _ _⟩
    · have hall : s.data.toList.all Asc.digB = true := (span_full _ _).1 (by rw [← HK.out, size_toList]; omega)
      obtain rfl : k = s.size := by omega
      obtain ⟨c, hc⟩ : ∃ c, s[0] = c := ⟨_, rfl⟩
      by_cases hz : 1 < s.size ∧ c.toNat = 48
      · have hno := isNum_no s (.inr (.inr ⟨h0, hz.1, by rw [hc]; exact hz.2⟩))
        have hres : (0, 3) = (v, e) := by rw [← hr, numA, if_neg (by rw [hno]; decide)]
        simp only [Prod.mk.injEq] at hres
        obtain ⟨rfl, rfl⟩ := hres
        obtain ⟨z1, z2⟩ := hz
        have g1 : (1 : Int) < (s.size : Int) := by omega
        have g2 : ((c.toNat : Int) == 48) = true := by simp; omega
        clear hno hr z2
        go_enter Tryd.func42, Tryd.ntmps42
        go_wp2_with (go_at_call 49; refine (HSK.out _).mono ?_; rintro e w' ⟨rfl, rfl⟩)
        go_ret2
        exact ⟨rfl, Below.refl _ _⟩
      · have hn := isNum_of s h0 hall (by rw [hc]; exact hz)
        have hat := Asc.atoi_digits s.data.toList (fun e => by have := congrArg List.length e; rw [size_toList] at this; simp only [List.length_nil] at this; omega) hall
        rw [numA, if_pos hn] at hr
        have hcase : ¬ (1 : Int) < (s.size : Int) ∨ ((1 : Int) < (s.size : Int) ∧ ((c.toNat : Int) == 48) = false) := by
          by_cases h1 : 1 < s.size
          · right; refine ⟨by omega, ?_⟩; simp; omega
          · left; omega
        have HC := Lib.hid hc
        clear hz
        by_cases hv : Asc.val s.data.toList < 9223372036854775808
        · rw [if_pos hv] at hat
          have hvI : 0 ≤ ((Asc.val s.data.toList : Nat) : Int) := by omega
          obtain ⟨n, hn2⟩ : ∃ n : Int, n = ((Asc.val s.data.toList : Nat) : Int) := ⟨_, rfl⟩
          rw [← hn2] at hat hr
          have hok := Tryd.strconv_Atoi_ok s (by omega) n hat
          have HOK := Lib.hid hok
          have hb : ∀ w w' : World, (w' = w ∨ ∃ t, w' = Lib.bytesWorld w 5 t) → Below w.heap.size w w' := by
            rintro w w' (rfl | ⟨t, rfl⟩)
            · exact Below.refl _ _
            · exact Joins.below_bytesWorld _ w 5 t (Nat.le_refl _)
          have HB := Lib.hid hb
          by_cases hm : n ≤ most
          · rw [if_pos ⟨hv, hm⟩] at hr
            simp only [Prod.mk.injEq] at hr
            obtain ⟨rfl, rfl⟩ := hr
            clear hat hok hb hvI hn2 hn hall hv
            rcases hcase with h1 | ⟨h1, h2⟩
            all_goals
              go_enter Tryd.func42, Tryd.ntmps42
              go_wp2_with (first | (go_at_call 49; refine (HSK.out _).mono ?_; rintro e w' ⟨rfl, rfl⟩) | (go_at_call 58; refine (HOK.out _).mono ?_; rintro e w' ⟨rfl, hbw⟩))
              go_ret2
              exact ⟨rfl, HB.out _ _ hbw⟩
          · rw [if_neg (by intro h; exact hm h.2)] at hr
            simp only [Prod.mk.injEq] at hr
            obtain ⟨rfl, rfl⟩ := hr
            clear hat hok hb hvI hn2 hn hall hv
            rcases hcase with h1 | ⟨h1, h2⟩
            all_goals
              go_enter Tryd.func42, Tryd.ntmps42
              go_wp2_with (first | (go_at_call 49; refine (HSK.out _).mono ?_; rintro e w' ⟨rfl, rfl⟩) | (go_at_call 58; refine (HOK.out _).mono ?_; rintro e w' ⟨rfl, hbw⟩))
              go_ret2
              exact ⟨rfl, HB.out _ _ hbw⟩
        · rw [if_neg hv] at hat
          rw [if_neg (by intro h; exact hv h.1)] at hr
          simp only [Prod.mk.injEq] at hr
          obtain ⟨rfl, rfl⟩ := hr
          obtain ⟨tp, p, hrg⟩ := hI.rng
          have hok := Tryd.strconv_Atoi_range_var s (by omega) hat tp p w hrg
          have HOK := Lib.hid hok
          clear hat hok hn hall hv hrg
          rcases hcase with h1 | ⟨h1, h2⟩
          all_goals
            go_enter Tryd.func42, Tryd.ntmps42
            go_wp2_with (first | (go_at_call 49; refine (HSK.out _).mono ?_; rintro e w' ⟨rfl, rfl⟩) | (go_at_call 58; refine HOK.out.mono ?_; rintro e w' ⟨N, rfl, _, _, hbw⟩))
            go_ret2
            exact ⟨rfl, hbw⟩
  · have hno := isNum_no s (.inl h0)
    have hres : (0, 3) = (v, e) := by rw [← hr, numA, if_neg (by rw [hno]; decide)]
    simp only [Prod.mk.injEq] at hres
    obtain ⟨rfl, rfl⟩ := hres
    have e1 : s.toList.isEmpty = true := by
      rw [ByteArray.toList_eq]
      cases hl : s.data.toList with
      | nil => rfl
      | cons _ _ => have := congrArg List.length hl; rw [size_toList] at this; simp only [List.length_cons] at this; omega
    have e2 : s.toList = [] := by simpa using e1
    clear hno hr h0
    go_enter Tryd.func42, Tryd.ntmps42
    go_wp2_with fail
    go_ret2
    exact ⟨rfl, Below.refl _ _⟩
end Go.Proofs.YtgopcplcamljmaaDoor
