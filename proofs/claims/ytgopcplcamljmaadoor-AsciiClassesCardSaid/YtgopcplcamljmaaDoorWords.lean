/- Words of the program: called with a text, it answers a slice of the call's own that holds the text's words, and writes nothing that was there. -/
import Derived.Test.YtgopcplcamljmaaDoorRefDig
import Derived.OneCell
import Derived.Deep.RegionLaw
import Derived.RangeFuncBox
namespace Go.Proofs.YtgopcplcamljmaaDoor
open Go.RowKit

theorem infoS : (Tryd.prog.info? 9).map (fun i => (i.zero, i.size, i.bytes)) = some (some (.string ⟨#[]⟩), 1, 16) := by kernel_rfl

def strCells (xs : List ByteArray) : List Value := xs.map Value.string

theorem step_append_str {ops : Array Oper} {o : Oper} {a : Act} {w : World} {K : Act → World → Prop} {Q : Exit → Act → World → Prop} {E : Prop} (hgd : o.guard = none) (s x : Operand)
    (ho : o.op = .call { callee := .builtin .append, args := #[s, x], argTypes := #[30, 30] })
    (base : Nat) (v : Value) (xs : List ByteArray) (hs : a.eval s = v) (hown : w.ownsRow base 9 1 v xs.length (strCells xs)) (B c : Nat) (t : ByteArray) (hx : a.eval x = .slice (some ⟨B, 0, none⟩) 1 c) (hc : w.cell? ⟨B, 0, none⟩ = some (.string t))
    (hn : xs.length ≤ 1000000000) (hbase : base ≤ w.heap.size)
    (h : ∀ v' w', Hid (w'.ownsRow base 9 1 v' (xs ++ [t]).length (strCells (xs ++ [t]))) → Hid (w.grownBy w' v.ownBlock) → K (a.put o.dst v') w') : if Region.wanted o (yielded ops a.tmps) = true then Oper.wp Tryd.prog o a w K Q else E := by
  obtain ⟨i0, hi, hz0, hz1, hz2⟩ := info_parts infoS
  have hw : Region.wanted o (yielded ops a.tmps) = true := by simp [Region.wanted, hgd]
  rw [if_pos hw]
  refine wp_append_own w s x 30 ho base 9 i0 (.string ⟨#[]⟩) 1 16 Tryd.underlying30 hi hz0 hz1 hz2 rfl (by decide) v xs.length (strCells xs) hs hown ⟨B, 0, none⟩ 1 c [.string t] hx rfl ?_ ?_ (by unfold maxLen; omega) (by omega) hbase
    (fun v' w' h2 h3 _ => h v' w' (Lib.hid (by simpa [strCells] using h2)) (Lib.hid h3))
  · intro j u hj
    obtain ⟨hj1, hj2⟩ := List.getElem?_eq_some_iff.1 hj
    have : j = 0 := by simp at hj1; omega
    subst this
    rw [show (⟨B, 0, none⟩ : Addr).add 0 = ⟨B, 0, none⟩ by simp [Addr.add], hc]
    simp at hj2
    rw [hj2]
  · intro u hu
    simp at hu
    subst hu
    rfl

/-- THE WORD OF THE COLLECTION: the box of the text, the box of the slice, the row that it owns -/
def WJ (w : World) (B : Nat) (s : ByteArray) (xs : List ByteArray) (v : Value) (W : World) : Prop :=
  W.heap[B]? = some (.cells #[.string s] 9 (0, 0)) ∧ W.heap[B + 1]? = some (.cells #[v] 30 (0, 0)) ∧ W.ownsRow (B + 2) 9 1 v xs.length (strCells xs) ∧ Below B w W

theorem sz_room {W w1 : World} {B : Nat} (h : Below W.drew.heap.size W.drew w1) (hlt : B + 1 < W.heap.size) : ∀ o, B + 2 ≤ (w1.alloc o).heap.size := by
  intro o
  have h1 : W.heap.size ≤ w1.heap.size := h.size
  simp
  omega

theorem box_keep {W w1 w2 : World} {B b : Nat} {o X : Obj} {row : Option Nat} (hX : W.heap[b]? = some X) (hbw : Below W.drew.heap.size W.drew w1) (hg : (w1.alloc o).grownBy w2 row) (hr : ∀ k, row = some k → B + 2 ≤ k) (hb : b ≤ B + 1) : w2.heap[b]? = some X := by
  have hlt : b < W.heap.size := (Array.getElem?_eq_some_iff.1 hX).1
  have h1 : W.heap.size ≤ w1.heap.size := hbw.size
  rw [hg.block b (by simp; omega) (by intro e; have := hr b e.symm; omega), Below.heap_alloc _ _ _ (by omega)]
  exact (hbw.block b hlt).trans hX

theorem cell_alloc {W w1 : World} {b : Nat} {v : Value} (hlt : b < W.heap.size) (hbw : Below W.drew.heap.size W.drew w1) (k1 : w1.cell? ⟨b, 0, none⟩ = some v) : ∀ o, (w1.alloc o).cell? ⟨b, 0, none⟩ = some v := by
  intro o
  have h1 : W.heap.size ≤ w1.heap.size := hbw.size
  rw [World.cell?_alloc_lt _ _ _ (by show b < w1.heap.size; omega)]
  exact k1

theorem row_none (v : Value) : v.ownBlock = none ∨ v.ownBlock ≠ (none : Option Nat) := by
  cases v.ownBlock <;> simp

set_option maxRecDepth 100000 in
set_option maxHeartbeats 1000000 in
theorem collect_any (s : ByteArray) (w : World) (B : Nat) (xs : List ByteArray) (v : Value) (fr to : Nat) (W : World) (hJ : WJ w B s xs v W) (hft : fr ≤ to) (hto : to ≤ s.size) (hs : s.size ≤ 1000000) (hN : xs.length ≤ 1000000) :
    Calls Tryd.prog 53 #[.int .i64 fr, .int .i64 to, .pointer (some ⟨B + 1, 0, none⟩), .pointer (some ⟨B, 0, none⟩)] W fun e W' => e = .returned (.tuple #[]) ∧ ∃ v', WJ w B s (if fr < to then xs ++ [s.extract fr to] else xs) v' W' := by
  obtain ⟨j1, j2, j3, j4⟩ := hJ
  have c1 := cell_of_one j1
  have c2 := cell_of_one j2
  have f2 := free_of_one j2
  have hlt := lt_of_block j2
  have hsI : (s.size : Int) ≤ 1000000 := by omega
  by_cases h : fr < to
  · rw [if_pos h]
    obtain ⟨t, ht⟩ : ∃ t, s.extract fr to = t := ⟨_, rfl⟩
    have hts : t.size ≤ 281474976710656 := by rw [← ht]; simp; omega
    have hb1 : (0 : Int) ≤ (fr : Int) ∧ (fr : Int) ≤ (to : Int) := by omega
    have hb2 : (to : Int) ≤ (s.size : Int) := by omega
    have J1 := Lib.hid j1; have J2 := Lib.hid j2; have J3 := Lib.hid j3; have J4 := Lib.hid j4
    rw [ht]
    clear j1 j2 j3 j4
    go_enter Tryd.func53, Tryd.ntmps53
    go_wp2_with fail
    go_region_law (first | (refine step_append_str rfl (.tmp 9) (.tmp 15) rfl (B + 2) v xs (by simp [Act.eval]) (hown2.out.alloc _) w1.heap.size 1 t (by simp [Act.eval]) (by simp) (by omega) (hsz2.out _) ?_; intro v2 w2 ho2 hg2; have k3 := box_keep J2.out hbw hg2.out (fun k hk => (J3.out.lt k hk).1) (Nat.le_refl _); have k4 := cell_of_one k3; have k5 := free_of_one k3; obtain ⟨g2, cap2, rfl⟩ := Joins.ownsRow_form ho2.out (by simp); have K3 := Lib.hid k3; clear k3) | (go_simp; go_at_call 54; refine (clone_any _ _ hts).mono ?_; rintro e w1 ⟨rfl, hbw⟩; have k1 := (hbw.cell (p := ⟨B + 1, 0, none⟩) hlt).trans c2; have k2 := (hbw.frozen (p := ⟨B + 1, 0, none⟩) hlt).trans f2; have hown2 := Lib.hid (J3.out.kept (w' := w1) (row := none) ⟨hbw.os, hbw.tape, hbw.output, hbw.size, fun k hk _ => hbw.block k hk⟩ (row_none v)); have hsz2 := Lib.hid (sz_room hbw hlt); have k6 := cell_alloc hlt hbw k1))
    all_goals
      go_wp2_with fail
      go_end0
      refine ⟨rfl, _, ?_, one_setCell K3.out, ?_, ?_⟩
      · rw [Below.heap_setCell _ _ _ _ (by simp)]
        exact box_keep J1.out hbw hg2.out (fun k hk => (J3.out.lt k hk).1) (Nat.le_succ _)
      · have h9 := ownsRow_setCell_below (a := ⟨B + 1, 0, none⟩) ho2.out (show B + 1 < B + 2 by omega) (.slice (some ⟨g2, 0, none⟩) (xs.length + 1) cap2)
        rw [show (xs ++ [t]).length = xs.length + 1 by simp] at h9 ⊢
        exact h9
      · have e1 : B ≤ W.drew.heap.size := by show B ≤ W.heap.size; omega
        have e2 : B ≤ w1.heap.size := Nat.le_trans e1 hbw.size
        exact (((J4.out.drew.trans (hbw.mono e1)).alloc e2 _).grown hg2.out (by simp; omega) (fun k hk => by have := (J3.out.lt k hk).1; omega)).setCell (by simp) _
  · rw [if_neg h]
    have hge : ¬ (fr : Int) < (to : Int) := by omega
    go_enter Tryd.func53, Tryd.ntmps53
    go_wp2_with fail
    go_end0
    exact ⟨rfl, v, j1, j2, j3, j4⟩

/-- the words of a text, as strings -/
def wordsS (s : ByteArray) : List ByteArray := (Asc.wordsL s.data.toList).map fun l => ⟨l.toArray⟩

theorem words_count : ∀ (l cur : List UInt8), (Asc.wordsF cur l).length ≤ l.length + 1
  | [], cur => by unfold Asc.wordsF; split <;> simp
  | c :: r, cur => by
    unfold Asc.wordsF
    split
    · split
      · have := words_count r []; simp; omega
      · have := words_count r []; simp; omega
    · have := words_count r (cur ++ [c]); simp; omega

theorem notBlank_any (c : UInt8) (w : World) : Calls Tryd.prog 55 #[.int .u8 c.toNat] w fun e w' => e = .returned (.bool (!Asc.blank c)) ∧ w = w' := by
  rw [← blB_eq]; exact isNotBlank_any c w
theorem blank_any (c : UInt8) (w : World) : Calls Tryd.prog 21 #[.int .u8 c.toNat] w fun e w' => e = .returned (.bool (Asc.blank c)) ∧ w = w' := by
  rw [← blB_eq]; exact isBlank_any c w

theorem extract_piece (s : ByteArray) (a b : Nat) : s.extract a b = ⟨((s.data.toList.drop a).take (b - a)).toArray⟩ := by
  apply ByteArray.ext
  apply Array.toList_inj.1
  rw [Lib.extract_data]

set_option maxRecDepth 100000 in
set_option maxHeartbeats 1000000 in
theorem words_any (s : ByteArray) (w : World) (hs : s.size ≤ 100000) :
    Calls Tryd.prog 34 #[.string s] w fun e w' => ∃ v, e = .returned v ∧ w'.ownsRow (w.heap.size + 2) 9 1 v (wordsS s).length (strCells (wordsS s)) ∧ Below w.heap.size w w' := by
  have hsI : (s.size : Int) ≤ 100000 := by omega
  have hent := enters_of Tryd.func53 (by kernel_rfl) rfl
  go_enter Tryd.func34, Tryd.ntmps34
  go_wp2_with fail
  go_loopw [5, 6] (fun i _ wr => ∃ (k : Nat) (xs : List ByteArray) (v : Value), i = .int .i64 k ∧ k ≤ s.size ∧ wordsS s = xs ++ (Asc.wordsF [] (s.data.toList.drop k)).map (fun l => ⟨l.toArray⟩) ∧ WJ w w.heap.size s xs v wr) (fun i _ _ => s.size - (intOf i).toNat)
  case atStart =>
    refine ⟨0, [], .slice none 0 0, rfl, Nat.zero_le _, by simp [wordsS, Asc.wordsL], ?_, ?_, World.ownsRow_nil _ _ _ _, ((Below.refl _ w).alloc (Nat.le_refl _) _).alloc (by simp) _⟩
    · rw [Below.heap_alloc _ _ _ (by simp)]
      exact heap_alloc_new w _
    · simpa using heap_alloc_new (w.alloc (.cells #[.string s] 9)) (.cells #[.slice none 0 0] 30)
  case round =>
    obtain ⟨k, xs, v, rfl, hk, hw, hJ⟩ := hrel
    have c1 := cell_of_one hJ.1
    have c2 := cell_of_one hJ.2.1
    by_cases hlt : k < s.size
    · obtain ⟨t, ht⟩ : ∃ t, t = k + Asc.span (fun c => !Asc.blank c) (s.data.toList.drop k) := ⟨_, rfl⟩
      obtain ⟨f, hf⟩ : ∃ f, f = t + Asc.span Asc.blank (s.data.toList.drop t) := ⟨_, rfl⟩
      have hr := Asc.words_round s.data.toList k t f (by rw [size_toList]; omega) ht hf
      have hts : t ≤ s.size := by
        have := Asc.span_le (fun c => !Asc.blank c) (s.data.toList.drop k)
        rw [List.length_drop, size_toList] at this; omega
      have hfs : f ≤ s.size := by
        have := Asc.span_le Asc.blank (s.data.toList.drop t)
        rw [List.length_drop, size_toList] at this; omega
      have hkt : k ≤ t := by omega
      have htf : t ≤ f := by omega
      have hprog : k < f := by
        by_cases e : k = t
        · have hkl : k < s.data.toList.length := by rw [size_toList]; exact hlt
          cases hb : Asc.blank s.data.toList[k] with
          | true =>
            have h1 := Asc.span_step Asc.blank s.data.toList k hkl hb
            rw [← e] at hf
            omega
          | false =>
            have h1 := Asc.span_step (fun c => !Asc.blank c) s.data.toList k hkl (by show (!Asc.blank s.data.toList[k]) = true; rw [hb]; rfl)
            omega
        · omega
      have h1 := fun w => skip_any s k t 55 (fun c => !Asc.blank c) ent_isNotBlank notBlank_any w (by unfold maxLen; omega) hk ht
      have h2 := fun w => skip_any s t f 21 Asc.blank ent_isBlank blank_any w (by unfold maxLen; omega) hts hf
      have hN : xs.length ≤ 1000000 := by
        have h3 := words_count s.data.toList []
        have h4 := congrArg List.length hw
        rw [size_toList] at h3
        simp [wordsS, Asc.wordsL] at h4
        omega
      have hcol := collect_any s w w.heap.size xs v k t wr hJ hkt hts (by omega) hN
      have hw2 : wordsS s = (if k < t then xs ++ [s.extract k t] else xs) ++ (Asc.wordsF [] (s.data.toList.drop f)).map (fun l => ⟨l.toArray⟩) := by
        rw [hw, hr, extract_piece]
        split <;> simp
      generalize (if k < t then xs ++ [s.extract k t] else xs) = xs2 at hcol hw2
      have H1 := Lib.hid h1; have H2 := Lib.hid h2; have HC := Lib.hid hcol; have HW := Lib.hid hw2
      clear h1 h2 hcol hw2 hr ht hf hw hJ
      go_wp2_with (go_at_call 49; refine (H1.out _).mono ?_; rintro e w' ⟨rfl, rfl⟩)
      refine HC.out.mono ?_
      rintro e w3 ⟨rfl, v3, hJ3⟩
      have c3 := cell_of_one hJ3.1
      go_wp2_with (go_at_call 49; refine (H2.out _).mono ?_; rintro e w' ⟨rfl, rfl⟩)
      go_roundw
      case rel => exact ⟨f, xs2, v3, rfl, hfs, HW.out, hJ3⟩
      case measure => simp [intOf]; omega
    · have hnil : Asc.wordsF [] (s.data.toList.drop k) = [] := Asc.words_round_end _ _ (by rw [size_toList]; omega)
      rw [hnil] at hw
      simp only [List.map_nil, List.append_nil] at hw
      have HW := Lib.hid hw
      have HJ := Lib.hid hJ
      clear hw hJ hnil
      go_wp2_with fail
      go_ret
      exact ⟨v, rfl, by rw [HW.out]; exact HJ.out.2.2.1, HJ.out.2.2.2⟩
end Go.Proofs.YtgopcplcamljmaaDoor
