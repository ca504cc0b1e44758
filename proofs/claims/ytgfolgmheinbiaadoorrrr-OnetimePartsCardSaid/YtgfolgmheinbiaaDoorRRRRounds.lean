/- The program's plus and rounds. -/
import Derived.Test.YtgfolgmheinbiaaDoorRRRRot
import Derived.Laws.Rows
import Derived.Lib.Builder
import Derived.RegionTactic
import Derived.ChangeAlike
import Derived.LoopTactic
import Derived.Deep.QuietTactic
import Derived.BigQuiet
import Derived.BigFrame
import Derived.Outline
import Derived.RangeFuncBox
import Derived.IntWalk
namespace Go.Proofs.YtgfolgmheinbiaaDoorRRR
open Go.RowKit

def stV (s : S5.St) : Value := .agg #[.int .u32 s.a, .int .u32 s.b, .int .u32 s.c, .int .u32 s.d, .int .u32 s.e, .int .u32 s.f, .int .u32 s.g, .int .u32 s.h]
def wsV (l : List Int) : Value := .agg (l.map fun x => Value.int .u32 x).toArray

theorem plus_any (s v : S5.St) (w : World) :
    Calls Tryd.prog 70 #[stV s, stV v] w fun e w' => e = .returned (stV (S5.plus s v)) ∧ Below w.heap.size w w' := by
  unfold stV
  go_enter Tryd.func70, Tryd.ntmps70
  go_wp2_with fail
  exact bodyPost_ret (v := stV (S5.plus s v)) (by simp [results, Tryd.results70, go_sem, stV, S5.plus, S5.w32]) rfl ⟨rfl, (((Below.refl _ w).alloc (Nat.le_refl _) _).alloc (by simp) _).alloc (by simp; omega) _⟩

/-- the constants' table -/
def kCells : Array Value := (S5.kL.map fun x => Value.int .u32 x).toArray
def Tab (w : World) : Prop := 0 < w.heap.size ∧ ∃ t fr, w.heap[0]? = some (.cells kCells t fr)

theorem kCells_get (i : Nat) (h : i < 64) : kCells[i]? = some (.int .u32 (S5.K i)) := by
  have hl : i < S5.kL.length := h
  simp [kCells, S5.K, List.getD_eq_getElem?_getD, List.getElem?_eq_getElem hl]

theorem Tab.cell {w : World} (h : Tab w) (i : Nat) (hi : i < 64) : w.cell? ⟨0, i, none⟩ = some (.int .u32 (S5.K i)) := by
  obtain ⟨_, t, fr, hb⟩ := h
  rw [Lib.cell_of_heap hb, kCells_get i hi]

theorem Tab.below {w w' : World} {B : Nat} (h : Tab w) (hb : Below B w w') (hB : 0 < B) : Tab w' := by
  obtain ⟨h1, t, fr, h2⟩ := h
  exact ⟨Nat.lt_of_lt_of_le h1 hb.size, t, fr, by rw [hb.block 0 hB]; exact h2⟩

theorem tab_drewN {w : World} (h : Tab w) (n : Nat) : Tab (w.drewN n) := h
theorem belowN {B : Nat} {w w1 : World} (h : Below B w w1) (n : Nat) : Below B w (w1.drewN n) := ⟨h.os, h.tape, h.output, h.size, h.block⟩

/-- a callee that leaves every world alone, behind draws that were made already -/
theorem quietN {f : FuncId} {args : Array Value} {v : Value} (h : ∀ W : World, Calls Tryd.prog f args W fun e w' => e = .returned v ∧ w' = W) (w : World) (a n : Nat) :
    Calls Tryd.prog f args (w.drewN (a + n)) fun e w'' => e = .returned v ∧ ∃ m, w'' = w.drewN (a + m) := (h _).mono fun _ _ x => ⟨x.1, n, x.2⟩
/-- a callee that draws, behind draws that were made already -/
theorem quietD {f : FuncId} {args : Array Value} {v : Value} (h : ∀ W : World, Calls Tryd.prog f args W fun e w' => e = .returned v ∧ ∃ k, w' = W.drewN k) (w : World) (a n : Nat) :
    Calls Tryd.prog f args (w.drewN (a + n)) fun e w'' => e = .returned v ∧ ∃ m, w'' = w.drewN (a + m) :=
  (h _).mono fun _ _ x => ⟨x.1, by obtain ⟨k, hk⟩ := x.2; exact ⟨n + k, by rw [hk, World.drewN_drewN, Nat.add_assoc]⟩⟩

/-- the same at a number as the walk writes it -/
def RotsI (z : Int) : Prop := z = 2 ∨ z = 6 ∨ z = 7 ∨ z = 11 ∨ z = 13 ∨ z = 17 ∨ z = 18 ∨ z = 19 ∨ z = 22 ∨ z = 25
theorem rotate_lit (x z : Int) (hz : RotsI z) (w : World) :
    Calls Tryd.prog 71 #[.int .u32 x, .int .i64 z] w fun e w' => e = .returned (.int .u32 (S5.rot x z.toNat)) ∧ w' = w := by
  obtain ⟨n, rfl⟩ : ∃ n : Nat, z = (n : Int) := ⟨z.toNat, by unfold RotsI at hz; omega⟩
  exact (rotate_any x n (by unfold RotsI at hz; unfold Rots; omega) w).mono fun _ _ ⟨h, e⟩ => ⟨by rw [h]; rfl, e.symm⟩

theorem run_index_cells {P : Program} (t e : TypeId) (n : Nat) (cs : Array Value) (k : IntKind) (i : Nat) (v : Value) (w : World) (h : P.underlying t = some (.array n e)) (hi : i < n)
    (hs : ∀ w, (Go.sizeOf e).run P w = .ok 1 w) (ha : ∀ w, (isAgg e).run P w = .ok false w) (hv : cs[i]? = some v) :
    (Instr.index t (.agg cs) (.int k i)).run P w = .ok v w := by
  have hn : (0 : Int) ≤ (i : Int) ∧ (i : Int) < (n : Int) := by omega
  simp [Instr.index, run_underlying h, asIntOf, hn, hs, ha, go_sem, part, hv]
  intro; omega

theorem words16 (l : List Int) (hl : l.length = 16) : ∃ x0 x1 x2 x3 x4 x5 x6 x7 x8 x9 x10 x11 x12 x13 x14 x15, l = [x0, x1, x2, x3, x4, x5, x6, x7, x8, x9, x10, x11, x12, x13, x14, x15] := by
  match l, hl with
  | [x0, x1, x2, x3, x4, x5, x6, x7, x8, x9, x10, x11, x12, x13, x14, x15], _ => exact ⟨x0, x1, x2, x3, x4, x5, x6, x7, x8, x9, x10, x11, x12, x13, x14, x15, rfl⟩

theorem index16 (x0 x1 x2 x3 x4 x5 x6 x7 x8 x9 x10 x11 x12 x13 x14 x15 : Int) (k : Nat) (hk : k < 16) (W : World) : (Instr.index 107 (.agg #[.int .u32 x0, .int .u32 x1, .int .u32 x2, .int .u32 x3, .int .u32 x4, .int .u32 x5, .int .u32 x6, .int .u32 x7, .int .u32 x8, .int .u32 x9, .int .u32 x10, .int .u32 x11, .int .u32 x12, .int .u32 x13, .int .u32 x14, .int .u32 x15]) (.int .i64 k)).run Tryd.prog W = .ok (.int .u32 ([x0, x1, x2, x3, x4, x5, x6, x7, x8, x9, x10, x11, x12, x13, x14, x15].getD k 0)) W := by
  have hv : (#[.int .u32 x0, .int .u32 x1, .int .u32 x2, .int .u32 x3, .int .u32 x4, .int .u32 x5, .int .u32 x6, .int .u32 x7, .int .u32 x8, .int .u32 x9, .int .u32 x10, .int .u32 x11, .int .u32 x12, .int .u32 x13, .int .u32 x14, .int .u32 x15] : Array Value)[k]? = some (.int .u32 ([x0, x1, x2, x3, x4, x5, x6, x7, x8, x9, x10, x11, x12, x13, x14, x15].getD k 0)) := by
    match k, hk with
    | 0, _ => rfl
    | 1, _ => rfl
    | 2, _ => rfl
    | 3, _ => rfl
    | 4, _ => rfl
    | 5, _ => rfl
    | 6, _ => rfl
    | 7, _ => rfl
    | 8, _ => rfl
    | 9, _ => rfl
    | 10, _ => rfl
    | 11, _ => rfl
    | 12, _ => rfl
    | 13, _ => rfl
    | 14, _ => rfl
    | 15, _ => rfl
    | n + 16, h => omega
  exact run_index_cells 107 92 16 _ .i64 k _ W Tryd.underlying107 hk (fun w => by kernel_rfl) (fun w => by kernel_rfl) hv

theorem store8 (W : World) (B : Nat) (t : TypeId) (v : S5.St) (h : W.heap[B]? = some (.cells #[.int .u32 0, .int .u32 0, .int .u32 0, .int .u32 0, .int .u32 0, .int .u32 0, .int .u32 0, .int .u32 0] t (0, 0))) :
    ((((((((W.setCell ⟨B, 0, none⟩ (.int .u32 v.a)).setCell ⟨B, 1, none⟩ (.int .u32 v.b)).setCell ⟨B, 2, none⟩ (.int .u32 v.c)).setCell ⟨B, 3, none⟩ (.int .u32 v.d)).setCell ⟨B, 4, none⟩ (.int .u32 v.e)).setCell ⟨B, 5, none⟩ (.int .u32 v.f)).setCell ⟨B, 6, none⟩ (.int .u32 v.g)).setCell ⟨B, 7, none⟩ (.int .u32 v.h)).heap[B]? = some (.cells #[.int .u32 v.a, .int .u32 v.b, .int .u32 v.c, .int .u32 v.d, .int .u32 v.e, .int .u32 v.f, .int .u32 v.g, .int .u32 v.h] t (0, 0)) := by
  have h := heap_setCell_same _ B 0 _ _ (.int .u32 v.a) h
  have h := heap_setCell_same _ B 1 _ _ (.int .u32 v.b) h
  have h := heap_setCell_same _ B 2 _ _ (.int .u32 v.c) h
  have h := heap_setCell_same _ B 3 _ _ (.int .u32 v.d) h
  have h := heap_setCell_same _ B 4 _ _ (.int .u32 v.e) h
  have h := heap_setCell_same _ B 5 _ _ (.int .u32 v.f) h
  have h := heap_setCell_same _ B 6 _ _ (.int .u32 v.g) h
  have h := heap_setCell_same _ B 7 _ _ (.int .u32 v.h) h
  simpa using h

theorem below8 {n : Nat} {w : World} (W : World) (B : Nat) (v : S5.St) (h : Below n w W) (hB : n ≤ B) :
    Below n w ((((((((W.setCell ⟨B, 0, none⟩ (.int .u32 v.a)).setCell ⟨B, 1, none⟩ (.int .u32 v.b)).setCell ⟨B, 2, none⟩ (.int .u32 v.c)).setCell ⟨B, 3, none⟩ (.int .u32 v.d)).setCell ⟨B, 4, none⟩ (.int .u32 v.e)).setCell ⟨B, 5, none⟩ (.int .u32 v.f)).setCell ⟨B, 6, none⟩ (.int .u32 v.g)).setCell ⟨B, 7, none⟩ (.int .u32 v.h)) :=
  ((((((((h.setCell (p := ⟨B, 0, none⟩) hB _).setCell (p := ⟨B, 1, none⟩) hB _).setCell (p := ⟨B, 2, none⟩) hB _).setCell (p := ⟨B, 3, none⟩) hB _).setCell (p := ⟨B, 4, none⟩) hB _).setCell (p := ⟨B, 5, none⟩) hB _).setCell (p := ⟨B, 6, none⟩) hB _).setCell (p := ⟨B, 7, none⟩) hB _)

set_option maxRecDepth 100000 in
set_option maxHeartbeats 4000000 in
theorem rounds_any (s : S5.St) (b : Nat) (hb : b ≤ 48) (l : List Int) (hl : l.length = 16) (w : World) (hT : Tab w) :
    Calls Tryd.prog 68 #[stV s, .int .i64 b, wsV l] w fun e w' => e = .returned (stV (S5.rnd16 S5.K s b l)) ∧ Below w.heap.size w w' := by
  obtain ⟨x0, x1, x2, x3, x4, x5, x6, x7, x8, x9, x10, x11, x12, x13, x14, x15, rfl⟩ := words16 l hl
  have hpos := hT.1
  have HI := Lib.hid (index16 x0 x1 x2 x3 x4 x5 x6 x7 x8 x9 x10 x11 x12 x13 x14 x15)
  obtain ⟨R, hR⟩ : ∃ R : Nat → S5.St, R = S5.rnd (fun i => S5.K (b + i)) (fun i => [x0, x1, x2, x3, x4, x5, x6, x7, x8, x9, x10, x11, x12, x13, x14, x15].getD i 0) s := ⟨_, rfl⟩
  have HR := Lib.hid hR
  have HRn := Lib.hid (show ∀ k, R (k + 1) = S5.step (R k) (S5.K (b + k)) ([x0, x1, x2, x3, x4, x5, x6, x7, x8, x9, x10, x11, x12, x13, x14, x15].getD k 0) from fun k => by rw [hR]; rfl)
  have HR0 := Lib.hid (show R 0 = s from by rw [hR]; rfl)
  clear hl hR
  obtain ⟨W0, hW0⟩ : ∃ W0 : World, W0 = ((((w.alloc (.cells #[.int .u32 s.a, .int .u32 s.b, .int .u32 s.c, .int .u32 s.d, .int .u32 s.e, .int .u32 s.f, .int .u32 s.g, .int .u32 s.h] 100)).alloc (.cells #[.int .u32 x0, .int .u32 x1, .int .u32 x2, .int .u32 x3, .int .u32 x4, .int .u32 x5, .int .u32 x6, .int .u32 x7, .int .u32 x8, .int .u32 x9, .int .u32 x10, .int .u32 x11, .int .u32 x12, .int .u32 x13, .int .u32 x14, .int .u32 x15] 107)).alloc (.cells #[.int .u32 0, .int .u32 0, .int .u32 0, .int .u32 0, .int .u32 0, .int .u32 0, .int .u32 0, .int .u32 0] 100))) := ⟨_, rfl⟩
  have hB0 : Below w.heap.size w W0 := by rw [hW0]; exact (((Below.refl _ w).alloc (Nat.le_refl _) _).alloc (by simp) _).alloc (by simp; omega) _
  have hS0 : W0.heap.size = w.heap.size + 3 := by rw [hW0]; simp
  have hC0 : W0.heap[w.heap.size + 1 + 1]? = some (.cells #[.int .u32 0, .int .u32 0, .int .u32 0, .int .u32 0, .int .u32 0, .int .u32 0, .int .u32 0, .int .u32 0] 100 (0, 0)) := by
    rw [hW0]
    have := World.alloc_heap_new ((w.alloc (.cells #[.int .u32 s.a, .int .u32 s.b, .int .u32 s.c, .int .u32 s.d, .int .u32 s.e, .int .u32 s.f, .int .u32 s.g, .int .u32 s.h] 100)).alloc (.cells #[.int .u32 x0, .int .u32 x1, .int .u32 x2, .int .u32 x3, .int .u32 x4, .int .u32 x5, .int .u32 x6, .int .u32 x7, .int .u32 x8, .int .u32 x9, .int .u32 x10, .int .u32 x11, .int .u32 x12, .int .u32 x13, .int .u32 x14, .int .u32 x15] 107)) (.cells #[.int .u32 0, .int .u32 0, .int .u32 0, .int .u32 0, .int .u32 0, .int .u32 0, .int .u32 0, .int .u32 0] 100)
    simpa using this
  have hT0 : Tab W0 := hT.below hB0 hpos
  have HT0 := Lib.hid hT0; have HB0 := Lib.hid hB0; have HC0 := Lib.hid hC0; have HS0 := Lib.hid hS0; have HW0 := Lib.hid hW0
  clear hT0 hB0 hC0 hS0 hW0
  unfold stV wsV
  simp only [List.map_cons, List.map_nil]
  go_enter Tryd.func68, Tryd.ntmps68
  go_wp2_with fail
  go_quiet (fail)
  go_wp2_with fail
  rw [← HW0.out]
  go_loopw [7, 8, 9, 10, 11, 12, 13, 14, 36] (fun v7 v8 v9 v10 v11 v12 v13 v14 kk wr => ∃ (k n : Nat) (S : S5.St), kk = .int .i64 k ∧ k ≤ 16 ∧ Hid (S = R k) ∧ v7 = .int .u32 S.a ∧ v8 = .int .u32 S.b ∧ v9 = .int .u32 S.c ∧ v10 = .int .u32 S.d ∧ v11 = .int .u32 S.e ∧ v12 = .int .u32 S.f ∧ v13 = .int .u32 S.g ∧ v14 = .int .u32 S.h ∧ wr = W0.drewN n) (fun _ _ _ _ _ _ _ _ kk _ => 16 - (intOf kk).toNat)
  case atStart => exact ⟨0, nq, s, rfl, by omega, Lib.hid HR0.out.symm, rfl, rfl, rfl, rfl, rfl, rfl, rfl, rfl, rfl⟩
  case round =>
    obtain ⟨k, n, S, rfl, hk, HS, rfl, rfl, rfl, rfl, rfl, rfl, rfl, rfl, rfl⟩ := hrel
    by_cases hlt : k < 16
    · have hidx := HI.out k hlt
      obtain ⟨wd, hwd⟩ : ∃ wd, wd = [x0, x1, x2, x3, x4, x5, x6, x7, x8, x9, x10, x11, x12, x13, x14, x15].getD k 0 := ⟨_, rfl⟩
      rw [← hwd] at hidx
      have HWD := Lib.hid hwd
      have hltI : (k : Int) < 16 := by omega
      obtain ⟨j, hj⟩ : ∃ j, j = b + k := ⟨_, rfl⟩
      have hc0 := fun n => (tab_drewN HT0.out n).cell j (by omega)
      obtain ⟨K, hK⟩ : ∃ K, K = S5.K j := ⟨_, rfl⟩
      rw [← hK] at hc0
      have hs1 : (b : Int) + (k : Int) = (j : Int) := by omega
      have hs2 : IntKind.i64.wrap ((b : Int) + (k : Int)) = (j : Int) := by rw [hs1]; exact IntWalk.i64_in _ (by omega)
      have hj64 : j < 64 := by omega
      have HJ := Lib.hid hj; have HK := Lib.hid hK
      clear hwd hj hK
      go_wp2_with fail
      go_quiet ((go_at_call 71; exact quietN (fun W => rotate_lit _ _ (by unfold RotsI; omega) W) _ _ _))
      go_wp2_with (go_at_call 71; refine (rotate_lit _ _ (by unfold RotsI; omega) _).mono ?_; rintro e w' ⟨rfl, rfl⟩)
      go_roundw
      case rel =>
        refine ⟨k + 1, _, S5.step S K wd, by go_num, hlt, Lib.hid ?_, rfl, rfl, rfl, rfl, rfl, rfl, rfl, rfl, rfl⟩
        rw [HRn.out, ← HS.out, HK.out, HJ.out, HWD.out]
      case measure => simp [intOf]; omega
    · obtain rfl : k = 16 := by omega
      have hW := HW0.out
      subst hW
      go_wp2_with fail
      have hb := store8 _ _ _ S (show ((((((w.alloc (.cells #[.int .u32 s.a, .int .u32 s.b, .int .u32 s.c, .int .u32 s.d, .int .u32 s.e, .int .u32 s.f, .int .u32 s.g, .int .u32 s.h] 100)).alloc (.cells #[.int .u32 x0, .int .u32 x1, .int .u32 x2, .int .u32 x3, .int .u32 x4, .int .u32 x5, .int .u32 x6, .int .u32 x7, .int .u32 x8, .int .u32 x9, .int .u32 x10, .int .u32 x11, .int .u32 x12, .int .u32 x13, .int .u32 x14, .int .u32 x15] 107)).alloc (.cells #[.int .u32 0, .int .u32 0, .int .u32 0, .int .u32 0, .int .u32 0, .int .u32 0, .int .u32 0, .int .u32 0] 100)))).drewN n).heap[w.heap.size + 1 + 1]? = some (.cells #[.int .u32 0, .int .u32 0, .int .u32 0, .int .u32 0, .int .u32 0, .int .u32 0, .int .u32 0, .int .u32 0] 100 (0, 0)) from HC0.out)
      exact bodyPost_ret (results_cell_row rfl _ _ (w.heap.size + 1 + 1) _ _ _ _ rfl hb Tryd.underlying100 rfl (by kernel_rfl)) rfl ⟨by rw [HS.out, HR.out]; rfl, below8 _ _ S (belowN HB0.out n) (by omega)⟩
end Go.Proofs.YtgfolgmheinbiaaDoorRRR
