/- The iterator Runes: what it hands its loop, round by round, up to the first error. -/
import Derived.RangeFuncNested
import Derived.RangeFuncBound
import Derived.RangeFuncCalls
import Derived.RangeFuncLeaves
import Derived.Shelf.Abstract
import Derived.Shelf.RegionOpen
import Derived.WalkKit
import Derived.OwnWalkIn
import Derived.TacticsInMore
import Derived.LoopNIn
import Derived.LoopIn
import Derived.Test.YtbjhomihmlijiaaDoorCheck
import Derived.Test.YtbjhomihmlijiaaDoorAll
import Derived.Test.YtbjhomihmlijiaaDoorWhole
namespace U8
/-- what the iterator hands over: offsets and code points, up to the first error -/
def its (l : List Nat) : Nat → Nat → List (Nat × Nat)
  | 0, _ => []
  | f + 1, p => if p < l.length then (if (next (l.drop p)).2.2 = 0 then (p, (next (l.drop p)).1) :: its l f (p + (next (l.drop p)).2.1) else []) else []

/-- the reference's two rows are its halves -/
theorem its_all (l : List Nat) (hb : ∀ x ∈ l, x < 256) : ∀ f p, (its l f p).map (·.2) = (allF l f p).1 ∧ (its l f p).map (·.1) = (allF l f p).2.1
  | 0, p => ⟨rfl, rfl⟩
  | f + 1, p => by
    rw [its, allF]
    by_cases h : p < l.length
    · have hne : l.drop p ≠ [] := by
        intro h2
        have := congrArg List.length h2
        rw [List.length_drop] at this
        simp at this
        omega
      obtain ⟨h1, h2, _⟩ := next_first (l.drop p) hne (fun x hx => hb x (List.mem_of_mem_drop hx))
      rw [if_pos h, if_pos h, h1]
      by_cases h0 : (next (l.drop p)).2.2 = 0
      · rw [if_pos h0, if_pos h0, h2 h0]
        have ih := its_all l hb f (p + (next (l.drop p)).2.1)
        simp [ih.1, ih.2]
      · rw [if_neg h0, if_neg h0]
        simp
    · rw [if_neg h, if_neg h]
      simp
theorem its_len (l : List Nat) : ∀ f p, (its l f p).length ≤ f
  | 0, p => by simp [its]
  | f + 1, p => by
    rw [its]
    split
    · split
      · have := its_len l f (p + (next (l.drop p)).2.1)
        simp
        omega
      · simp
    · simp
end U8
namespace Go.Proofs.YtbjhomihmlijiaaDoor
open Go.RowKit Go.Shelf

attribute [local go_sem] Oper.semAt_some

/-- what lay below n₀ lies as it lay, and so does the block Bn -/
def KeepsB (n₀ Bn : Nat) (W W' : World) : Prop := Below n₀ W W' ∧ W'.heap[Bn]? = W.heap[Bn]?
theorem KeepsB.refl (n₀ Bn : Nat) (W : World) : KeepsB n₀ Bn W W := ⟨Below.refl _ _, rfl⟩
theorem keepsB_t {n₀ Bn : Nat} {A B C : World} (h : KeepsB n₀ Bn A B) (k : KeepsB n₀ Bn B C) : KeepsB n₀ Bn A C := ⟨h.1.trans k.1, k.2.trans h.2⟩
theorem keepsB_below {n₀ Bn m : Nat} {A B : World} (h : Below m A B) (h1 : n₀ ≤ m) (h2 : Bn < m) : KeepsB n₀ Bn A B := ⟨h.mono h1, h.block Bn h2⟩
theorem keepsB_b {n₀ Bn : Nat} {w : World} (h1 : n₀ ≤ w.heap.size) (h2 : Bn < w.heap.size) : ∀ (W : World) (l : Nat) (o o' : Obj), w.heap.size ≤ l → W.heap[l]? = some o → o.isCells = false → o.isWalk = false → KeepsB n₀ Bn W (W.putObj l o') :=
  fun W l o o' hl ho h3 h4 => ⟨belowK_b (w := w) h1 W l o o' hl ho h3 h4, World.putObj_heap_other (by omega)⟩
theorem KeepsB.cell {n₀ Bn : Nat} {W W' : World} (h : KeepsB n₀ Bn W W') (j : Nat) : W'.cell? ⟨Bn, j, none⟩ = W.cell? ⟨Bn, j, none⟩ := by
  unfold World.cell?
  rw [h.2]

abbrev encs (x : Nat × Nat) : Array Value := #[.int .i64 (x.1 : Int), .int .i32 (x.2 : Int)]

theorem grown_of_below {W W' : World} (h : Below W.heap.size W W') : W.grownBy W' none := ⟨h.os, h.tape, h.output, h.size, fun k hk _ => h.block k hk⟩

set_option maxRecDepth 100000 in
set_option maxHeartbeats 2000000 in
theorem runes1_in (n : Nat) (hn : 3 ≤ n) (l Bn n₀ : Nat) (hn₀ : 0 < n₀) (s : ByteArray) (hmax : s.size ≤ 1000000) (J Jx : List (Nat × Nat) → World → Prop)
    (W : World) (hJ : AbidesFrom W.heap.size J)
    (hY : ∀ pre x W1, J pre W1 → pre.length < s.size → YieldAt Fence.wide (n - 1) Tryd.prog l (encs x) W1 fun e W' =>
      (e = .returned (.bool true) ∧ J (pre ++ [x]) W' ∧ KeepsB n₀ Bn W1 W') ∨ (e = .returned (.bool false) ∧ Jx (pre ++ [x]) W'))
    (hT : Tab W) (hBn : Bn < W.heap.size) (hnW : n₀ ≤ W.heap.size) (hc : W.cell? ⟨Bn, 0, none⟩ = some (.string s)) (h0 : J [] W) :
    CallsIn Fence.wide n Tryd.prog 44 #[.func (.yield l) #[] #[], .pointer (some ⟨Bn, 0, none⟩)] W fun e W' => (∃ v, e = .returned v) ∧
      ((∃ ys, ys = U8.its (bytesOf s) s.size 0 ∧ J ys W') ∨ (∃ pre, pre <+: U8.its (bytesOf s) s.size 0 ∧ Jx pre W')) := by
  have hmaxI : (s.size : Int) ≤ 1000000 := by omega
  obtain ⟨xs, hxs⟩ : ∃ xs, xs = U8.its (bytesOf s) s.size 0 := ⟨_, rfl⟩
  rw [← hxs]
  have HXS := Lib.hid hxs; have HY := Lib.hid hY; have HJ := Lib.hid hJ; have HT := Lib.hid hT; have HB := Lib.hid hBn
  clear hxs hY hJ hT hBn
  refine callsIn_of_wp Tryd.func44 rfl trivial ?_ rfl
  simp only [Tryd.ntmps44, List.size_toArray, List.length_cons, List.length_nil, Nat.reduceAdd, Nat.reduceSub, Array.replicate_succ, Array.replicate_zero, List.push_toArray, List.append_toArray, List.nil_append, List.cons_append]
  gi_wp2
  gi_loopw [3] (fun i wr => ∃ (pre : List (Nat × Nat)) (p f : Nat), i = .int .i64 p ∧ p ≤ s.size ∧ s.size - p ≤ f ∧ pre.length ≤ p ∧ Hid (xs = pre ++ U8.its (bytesOf s) f p) ∧ Hid (J pre wr) ∧ Hid (KeepsB n₀ Bn W wr) ∧ W.heap.size ≤ wr.heap.size) (fun i _ => s.size - (intOf i).toNat)
  case atStart => exact ⟨[], 0, s.size, rfl, Nat.zero_le _, by omega, Nat.le_refl _, Lib.hid HXS.out, Lib.hid h0, Lib.hid (KeepsB.refl _ _ _), Nat.le_refl _⟩
  case round =>
    clear HXS h0
    obtain ⟨pre, p, f, rfl, hp, hf, hpl, HX, HJs, HK, hsz⟩ := hrel
    have hcr : wr.cell? ⟨Bn, 0, none⟩ = some (.string s) := (HK.out.cell 0).trans hc
    by_cases hlt : p < s.size
    · obtain ⟨f', rfl⟩ : ∃ f', f = f' + 1 := ⟨f - 1, by omega⟩
      obtain ⟨⟨r, z, e2⟩, hnx⟩ : ∃ x, U8.next ((bytesOf s).drop p) = x := ⟨_, rfl⟩
      have hx := HX.out
      rw [U8.its, if_pos (by rw [bytesOf_length]; exact hlt), hnx] at hx
      simp only at hx
      have hssz : (s.extract p s.size).size = s.size - p := by simp
      have hn1 := next_any (s.extract p s.size) wr (HT.out.below HK.out.1 hn₀) (by omega) (by omega) r z e2 (by rw [bytesOf_extract, hnx])
      have HN := Lib.hid hn1
      by_cases h0 : e2 = 0
      · subst h0
        rw [if_pos rfl] at hx
        have hz := U8.next_size _ (by rw [List.length_drop, bytesOf_length]; omega) r z hnx
        rw [List.length_drop, bytesOf_length] at hz
        have HX2 := Lib.hid hx
        clear hx hn1 hnx hssz HX
        gi_wp2
        refine ⟨trivial, fun _ => by omega, ?_⟩
        refine (callsIn_wide.2 HN.out).mono ?_
        rintro e w1 ⟨rfl, hb1⟩
        have HJ1 := Lib.hid (HJ.out pre wr w1 none HJs.out (grown_of_below hb1) (fun r e => by cases e))
        have HK1 := Lib.hid (keepsB_t HK.out (keepsB_below hb1 (Nat.le_trans hnW hsz) (Nat.lt_of_lt_of_le HB.out hsz)))
        have hs1 := Nat.le_trans hsz hb1.size
        obtain ⟨fn, tmps, assign, body, hy, hR⟩ := HY.out pre (p, r) w1 HJ1.out (by omega)
        dsimp only [encs] at hy
        clear HJs HK hb1 hcr
        gi_wp2
        refine ⟨fun _ => by omega, hR.mono ?_⟩
        rintro e W3 (⟨rfl, hJ3, hk3⟩ | ⟨rfl, hJx3⟩)
        · have hs3 := Nat.le_trans hs1 hk3.1.size
          have HJ3 := Lib.hid hJ3; have HK3 := Lib.hid (keepsB_t HK1.out hk3)
          clear hJ3 hk3
          gi_wp2
          go_roundw
          case rel => exact ⟨pre ++ [(p, r)], p + z, f', by go_num, by omega, by omega, by simp; omega, Lib.hid (by rw [HX2.out]; simp), HJ3, HK3, hs3⟩
          case measure => simp [intOf]; omega
        · have HJX := Lib.hid hJx3
          clear hJx3
          gi_wp2
          refine bodyPost_ret (results_none rfl _ _ _) rfl ?_
          exact ⟨⟨_, rfl⟩, .inr ⟨pre ++ [(p, r)], ⟨U8.its (bytesOf s) f' (p + z), by rw [HX2.out]; simp⟩, HJX.out⟩⟩
      · have hne : ((e2 : Int) != 0) = true := by simp; omega
        rw [if_neg h0, List.append_nil] at hx
        have HX2 := Lib.hid hx
        clear hx hn1 hnx hssz HX
        gi_wp2
        refine ⟨trivial, fun _ => by omega, ?_⟩
        refine (callsIn_wide.2 HN.out).mono ?_
        rintro e w1 ⟨rfl, hb1⟩
        have HJ1 := Lib.hid (HJ.out pre wr w1 none HJs.out (grown_of_below hb1) (fun r e => by cases e))
        clear HJs HK hb1 hcr
        gi_wp2
        refine ⟨fun _ h => (by cases h), ?_⟩
        gi_wp2
        refine bodyPost_ret (results_none rfl _ _ _) rfl ?_
        exact ⟨⟨_, rfl⟩, .inl ⟨pre, HX2.out.symm, HJ1.out⟩⟩
    · have hx := HX.out
      have hx2 : xs = pre := by
        rw [hx]
        cases f with
        | zero => simp [U8.its]
        | succ f => rw [U8.its, if_neg (by rw [bytesOf_length]; exact hlt), List.append_nil]
      have HX2 := Lib.hid hx2
      clear hx hx2 HX
      gi_wp2
      go_end0
      exact ⟨⟨_, rfl⟩, .inl ⟨pre, HX2.out.symm, HJs.out⟩⟩

/-- Runes(s) HANDS BACK A VALUE THAT KEEPS ITS WORD TO EVERY LOOP -/
theorem runes_stops (n : Nat) (hn : 3 ≤ n) (Bn n₀ : Nat) (hn₀ : 0 < n₀) (s : ByteArray) (hmax : s.size ≤ 1000000) (w : World) (hT : Tab w) (hBn : Bn < w.heap.size) (hnW : n₀ ≤ w.heap.size) (hc : w.cell? ⟨Bn, 0, none⟩ = some (.string s)) :
    SeqStopsK Fence.wide n Tryd.prog 44 #[.pointer (some ⟨Bn, 0, none⟩)] encs (KeepsB n₀ Bn) (fun ys => ys = U8.its (bytesOf s) s.size 0) (fun pre => pre <+: U8.its (bytesOf s) s.size 0) s.size w := fun l J Jx W hW hJ _ hY h0 =>
  runes1_in n hn l Bn n₀ hn₀ s hmax J Jx W hJ hY (hT.below hW hT.1) (Nat.lt_of_lt_of_le hBn hW.size) (Nat.le_trans hnW hW.size) ((hW.cell (p := ⟨Bn, 0, none⟩) hBn).trans hc) h0

theorem runes_any (s : ByteArray) (w : World) : Calls Tryd.prog 29 #[.string s] w fun e w' => e = .returned (.func (.func 44) #[] #[.pointer (some ⟨w.heap.size, 0, none⟩)]) ∧ w' = w.alloc (.cells #[.string s] 9) := by
  go_enter Tryd.func29, Tryd.ntmps29
  go_wp2_with fail
  go_ret
  exact ⟨rfl, rfl⟩

theorem cell_of_box_l {W : World} {B : Nat} {v : Value} {t : TypeId} (h : W.heap[B]? = some (.cells #[v] t (0, 0))) : W.cell? ⟨B, 0, none⟩ = some v ∧ W.frozen? ⟨B, 0, none⟩ = false := by
  constructor <;> simp [World.cell?, World.frozen?, h]
theorem cell_new_l (W : World) (v : Value) (t : TypeId) : (W.alloc (.cells #[v] t)).cell? ⟨W.heap.size, 0, none⟩ = some v ∧ (W.alloc (.cells #[v] t)).frozen? ⟨W.heap.size, 0, none⟩ = false :=
  cell_of_box_l (World.alloc_heap_new W _)
theorem cell_alloc_l {W : World} {a : Addr} {v : Value} (o : Obj) (h : W.cell? a = some v) : (W.alloc o).cell? a = some v := cell_kept h (World.grownBy_alloc W o none) (fun r e => by cases e)
theorem frozen_alloc_l {W : World} {a : Addr} {v : Value} (o : Obj) (h : W.cell? a = some v) (hf : W.frozen? a = false) : (W.alloc o).frozen? a = false := (frozen_kept h (World.grownBy_alloc W o none) (fun r e => by cases e)).trans hf
end Go.Proofs.YtbjhomihmlijiaaDoor
