/- Squeeze and Same of the reference: what each answers; each writes nothing that was there. -/
import Derived.Test.YtgopcplcamljmaaDoorRefWords
namespace Go.Proofs.YtgopcplcamljmaaDoor
open Go.RowKit
open Go.Lib (join join_one joinTail join_cons)

/-- the bytes of some words, each with a separator -/
def tot (ws : List (List UInt8)) : Nat := (ws.map fun x => x.length + 1).sum

theorem tot_words : ∀ (l cur : List UInt8), tot (Asc.wordsF cur l) ≤ cur.length + l.length + 1
  | [], cur => by unfold Asc.wordsF; split <;> simp [tot]
  | c :: r, cur => by
    unfold Asc.wordsF
    split
    · split
      · have := tot_words r []; simp at this ⊢; omega
      · have := tot_words r []; simp [tot] at this ⊢; omega
    · have := tot_words r (cur ++ [c]); simp at this ⊢; omega

theorem joinTail_len (r : List (List UInt8)) : (joinTail [32] r).length = tot r := by
  induction r with
  | nil => rfl
  | cons x r ih =>
    have e : joinTail [32] (x :: r) = 32 :: (x ++ joinTail [32] r) := by simp [joinTail]
    rw [e]; simp [tot] at ih ⊢; omega

theorem join_len (ws : List (List UInt8)) : (join ws [32]).length ≤ tot ws := by
  cases ws with
  | nil => exact Nat.le_refl _
  | cons x r => rw [join_cons, List.length_append, joinTail_len]; simp only [tot, List.map_cons, List.sum_cons]; omega

theorem tot_take : ∀ (ws : List (List UInt8)) (k : Nat), tot (ws.take k) ≤ tot ws
  | [], k => by simp
  | x :: r, 0 => by simp [tot]
  | x :: r, k + 1 => by have := tot_take r k; simp [tot] at this ⊢; omega

/-- the words' bytes -/
def wl (s : ByteArray) : List (List UInt8) := (wordsS s).map (·.data.toList)
theorem wl_eq (s : ByteArray) : wl s = Asc.wordsL s.data.toList := by
  unfold wl wordsS
  rw [List.map_map]
  induction Asc.wordsL s.data.toList with
  | nil => rfl
  | cons x r ih => rw [List.map_cons, ih]; rfl

theorem wl_tot (s : ByteArray) (k : Nat) : (join ((wl s).take k) [32]).length ≤ s.size + 1 := by
  have h1 := join_len ((wl s).take k)
  have h2 := tot_take (wl s) k
  have h3 := tot_words s.data.toList []
  rw [wl_eq] at h1 h2
  rw [wl_eq]
  unfold Asc.wordsL at h1 h2 ⊢
  rw [size_toList] at h3
  simp at h3
  omega

theorem squS_size (s : ByteArray) : (squS s).size ≤ s.size + 1 := by
  rw [squS_join, ← size_toList]
  have := wl_tot s (wl s).length
  rw [List.take_length] at this
  exact this

/-- the first k words, joined -/
def outS (s : ByteArray) (k : Nat) : ByteArray := ⟨(join ((wl s).take k) [32]).toArray⟩

theorem outS_size (s : ByteArray) (k : Nat) : (outS s k).size ≤ s.size + 1 := by
  rw [← size_toList]; exact wl_tot s k

theorem wl_len (s : ByteArray) : (wl s).length = (wordsS s).length := by simp [wl]

theorem outS_succ (s : ByteArray) (k : Nat) (hk : k < (wordsS s).length) : outS s (k + 1) = if 0 < k then outS s k ++ ⟨#[32]⟩ ++ (wordsS s)[k] else outS s k ++ (wordsS s)[k] := by
  have hk2 : k < (wl s).length := by rw [wl_len]; exact hk
  have hg : (wl s)[k] = (wordsS s)[k].data.toList := by simp [wl]
  apply ByteArray.ext
  apply Array.toList_inj.1
  have ht : (wl s).take (k + 1) = (wl s).take k ++ [(wordsS s)[k].data.toList] := by rw [List.take_succ_eq_append_getElem hk2, hg]
  by_cases h0 : 0 < k
  · rw [if_pos h0]
    have hne : (wl s).take k ≠ [] := by
      intro e
      have := congrArg List.length e
      simp only [List.length_take, List.length_nil] at this
      omega
    simp only [outS, ht, Asc.join_snoc _ _ _ hne, ByteArray.data_append, Array.toList_append]
    simp
  · rw [if_neg h0]
    have : k = 0 := by omega
    subst this
    simp only [outS, ht, ByteArray.data_append, Array.toList_append, List.take_zero, List.nil_append, join_one]
    simp [Lib.join]

theorem outS_full (s : ByteArray) (k : Nat) (hk : k = (wordsS s).length) : outS s k = squS s := by
  rw [squS_join, outS, hk, ← wl_len, List.take_length]; rfl

set_option maxHeartbeats 1000000 in
theorem refSqueeze_any (s : ByteArray) (w : World) (hs : s.size ≤ 1000) (t : ByteArray) (ht : t = squS s) :
    Calls Tryd.prog 38 #[.string s] w fun e w' => e = .returned (.string t) ∧ Below w.heap.size w w' := by
  have hw := refWords_strs s w hs
  have hl := wordsS_len s
  have hlI : ((wordsS s).length : Int) ≤ 1001 := by omega
  have hsI : (s.size : Int) ≤ 1000 := by omega
  have HW := Lib.hid hw; have HT := Lib.hid ht
  clear hw ht
  obtain ⟨ws, hws⟩ : ∃ ws, wordsS s = ws := ⟨_, rfl⟩
  rw [hws] at HW hlI
  have HWS := Lib.hid hws
  clear hws hl
  go_enter Tryd.func38, Tryd.ntmps38
  go_wp2_with fail
  refine HW.out.mono ?_
  rintro e w1 ⟨v, rfl, hv, hb1⟩
  obtain ⟨x, cap, rfl, hc, hg⟩ := hv
  have HG := Lib.hid hg
  clear hg
  go_wp2_with fail
  go_loop [3, 5] (fun o i => ∃ k : Nat, o = .string (outS s k) ∧ i = .int .i64 k ∧ k ≤ ws.length) (fun _ i => ws.length - (intOf i).toNat)
  case atStart => exact ⟨0, rfl, rfl, Nat.zero_le _⟩
  case round =>
    obtain ⟨k, rfl, rfl, hk⟩ := hrel
    have hz1 := outS_size s k
    by_cases hlt : k < ws.length
    · obtain ⟨b, rfl, hblt, hcell⟩ := HG.out k hlt
      obtain ⟨y, hy⟩ : ∃ y, ws[k] = y := ⟨_, rfl⟩
      rw [hy] at hcell
      have hsucc := outS_succ s k (by rw [HWS.out]; exact hlt)
      have hyy : (wordsS s)[k]'(by rw [HWS.out]; exact hlt) = y := by
        have h := HWS.out
        subst h
        exact hy
      rw [hyy] at hsucc
      have hz2 := outS_size s (k + 1)
      obtain ⟨o, ho⟩ : ∃ o, outS s k = o := ⟨_, rfl⟩
      rw [ho] at hsucc hz1
      by_cases h0 : 0 < k
      · rw [if_pos h0] at hsucc
        rw [hsucc] at hz2
        have hz3 : (o ++ ⟨#[32]⟩ ++ y).size = o.size + 1 + y.size := by rw [ByteArray.size_append, ByteArray.size_append]; rfl
        have hys : (y.size : Int) ≤ 1001 := by omega
        have hos : (o.size : Int) ≤ 1001 := by omega
        have h0I : (0 : Int) < (k : Int) := by omega
        have HSU := Lib.hid hsucc
        clear hsucc hz2 hz3 hyy hy
        go_wp2_with fail
        go_round
        case rel => exact ⟨k + 1, by rw [HSU.out], by go_num, by omega⟩
        case measure => simp [intOf]; omega
      · rw [if_neg h0] at hsucc
        rw [hsucc] at hz2
        have hz3 : (o ++ y).size = o.size + y.size := by rw [ByteArray.size_append]
        have hys : (y.size : Int) ≤ 1001 := by omega
        have hos : (o.size : Int) ≤ 1001 := by omega
        have h0I : ¬ (0 : Int) < (k : Int) := by omega
        have HSU := Lib.hid hsucc
        clear hsucc hz2 hz3 hyy hy
        go_wp2_with fail
        go_round
        case rel => exact ⟨k + 1, by rw [HSU.out], by go_num, by omega⟩
        case measure => simp [intOf]; omega
    · have hfull := outS_full s k (by rw [HWS.out]; omega)
      rw [← HT.out] at hfull
      have HF := Lib.hid hfull
      clear hfull
      go_wp2_with fail
      go_ret
      exact ⟨ret_str HF.out, hb1⟩

set_option maxHeartbeats 1000000 in
theorem same_any (v1 v2 : Value) (xs ys : List ByteArray) (w : World) (h1 : Strs w v1 xs) (h2 : Strs w v2 ys) (hx : xs.length ≤ 100000) (hy : ys.length ≤ 100000) (r : Bool) (hr : r = decide (xs = ys)) :
    Calls Tryd.prog 36 #[v1, v2] w fun e w' => e = .returned (.bool r) ∧ Below w.heap.size w w' := by
  obtain ⟨x1, cap1, rfl, hc1, hg1⟩ := h1
  obtain ⟨x2, cap2, rfl, hc2, hg2⟩ := h2
  have hxI : (xs.length : Int) ≤ 100000 := by omega
  have hyI : (ys.length : Int) ≤ 100000 := by omega
  have HR := Lib.hid hr
  clear hr
  by_cases hl : xs.length = ys.length
  · have g : ((xs.length : Int) != (ys.length : Int)) = false := by rw [hl]; simp
    have HL := Lib.hid hl
    have HG1 := Lib.hid hg1; have HG2 := Lib.hid hg2
    clear hg1 hg2 hl
    go_enter Tryd.func36, Tryd.ntmps36
    go_wp2_with fail
    go_loopw [5] (fun i wr => ∃ k n : Nat, i = .int .i64 k ∧ k ≤ xs.length ∧ xs.take k = ys.take k ∧ wr = w.drewN n) (fun i _ => xs.length - (intOf i).toNat)
    case atStart => exact ⟨0, 0, rfl, Nat.zero_le _, rfl, rfl⟩
    case round =>
      obtain ⟨k, n, rfl, hk, hpre, rfl⟩ := hrel
      have HP := Lib.hid hpre
      clear hpre
      by_cases hlt : k < xs.length
      · have hlt2 : k < ys.length := by have := HL.out; omega
        obtain ⟨b1, rfl, hb1, hcell1⟩ := HG1.out k hlt
        obtain ⟨b2, rfl, hb2, hcell2⟩ := HG2.out k hlt2
        obtain ⟨a, ha⟩ : ∃ a, xs[k] = a := ⟨_, rfl⟩
        obtain ⟨b, hb⟩ : ∃ b, ys[k] = b := ⟨_, rfl⟩
        rw [ha] at hcell1
        rw [hb] at hcell2
        have hltI : (k : Int) < (xs.length : Int) := by omega
        have hltI2 : (k : Int) < (ys.length : Int) := by omega
        by_cases hab : a = b
        · have gt : (a.toList == b.toList) = true := by rw [hab]; simp
          have gt2 : (a.toList != b.toList) = false := by rw [hab]; simp
          have hpre2 : xs.take (k + 1) = ys.take (k + 1) := by rw [List.take_succ_eq_append_getElem hlt, List.take_succ_eq_append_getElem hlt2, HP.out, ha, hb, hab]
          have HP2 := Lib.hid hpre2
          clear hpre2 hab ha hb
          go_wp2_with fail
          go_quiet (fail)
          go_wp2_with fail
          go_roundw
          case rel => exact ⟨k + 1, _, by go_num, hlt, HP2.out, by first | rfl | (simp only [World.drewN_drewN]; rfl)⟩
          case measure => simp [intOf]; omega
        · have hne : a.toList ≠ b.toList := by
            intro e
            rw [ByteArray.toList_eq, ByteArray.toList_eq] at e
            exact hab (ByteArray.ext (Array.toList_inj.1 e))
          have gt : (a.toList == b.toList) = false := by simpa using hne
          have gt2 : (a.toList != b.toList) = true := by simpa using hne
          have hres : r = false := by
            rw [HR.out, decide_eq_false_iff_not]
            rintro rfl
            exact hab (ha.symm.trans hb)
          have HRES := Lib.hid hres
          clear hres hab ha hb hne
          go_wp2_with fail
          go_quiet (fail)
          go_wp2_with fail
          go_ret
          exact ⟨ret_bool HRES.out.symm, ⟨rfl, rfl, rfl, Nat.le_refl _, fun _ _ => rfl⟩⟩
      · have hres : r = true := by
          rw [HR.out, decide_eq_true_iff]
          have := HP.out
          rwa [List.take_of_length_le (by omega), List.take_of_length_le (by have := HL.out; omega)] at this
        have HRES := Lib.hid hres
        clear hres
        go_wp2_with fail
        go_ret
        exact ⟨ret_bool HRES.out.symm, ⟨rfl, rfl, rfl, Nat.le_refl _, fun _ _ => rfl⟩⟩
  · have g : ((xs.length : Int) != (ys.length : Int)) = true := by simp; omega
    have hres : r = false := by
      rw [HR.out, decide_eq_false_iff_not]
      rintro rfl
      exact hl rfl
    have HRES := Lib.hid hres
    clear hres hl hg1 hg2
    go_enter Tryd.func36, Tryd.ntmps36
    go_wp2_with fail
    go_ret
    exact ⟨ret_bool HRES.out.symm, Below.refl _ _⟩
end Go.Proofs.YtgopcplcamljmaaDoor
