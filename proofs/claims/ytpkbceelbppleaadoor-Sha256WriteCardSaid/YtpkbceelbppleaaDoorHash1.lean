/- Hash: what a variable of this type holds; New, Len, Clone, Sum. -/
import Derived.Test.YtpkbceelbppleaaDoorHalf
namespace Go.Proofs.YtpkbceelbppleaaDoor
open Go.RowKit

/-- the cells of a Hash: state, rest, n -/
def hashC (s : S5.St) (r : List Nat) (n : Nat) : Array Value := (stC s).toList.toArray ++ (bsC (r.map fun (x : Nat) => (x : Int))) ++ #[.int .i64 n]
/-- a Hash to which l was written -/
def HashIs (w : World) (g : Nat) (l : List Nat) : Prop :=
  ∃ r : List Nat, r.length = 64 ∧ (∀ x ∈ r, x < 256) ∧ r.take (l.length % 64) = S5.tail l ∧ l.length ≤ 900000000 ∧ Blk w g 66 (hashC (S5.runAll S5.K S5.init l) r l.length)

theorem HashIs.lt {w : World} {g : Nat} {l : List Nat} (h : HashIs w g l) : g < w.heap.size := by
  obtain ⟨r, _, _, _, _, h⟩ := h
  exact h.lt
theorem HashIs.keep {B : Nat} {w w' : World} {g : Nat} {l : List Nat} (h : HashIs w g l) (hb : Below B w w') (hg : g < B) : HashIs w' g l := by
  obtain ⟨r, h1, h2, h3, h5, h4⟩ := h
  exact ⟨r, h1, h2, h3, h5, h4.keep hb hg⟩
theorem HashIs.more {w : World} {g : Nat} {l : List Nat} (h : HashIs w g l) (o : Obj) : HashIs (w.alloc o) g l := by
  obtain ⟨r, h1, h2, h3, h5, h4⟩ := h
  exact ⟨r, h1, h2, h3, h5, h4.more o⟩
theorem HashIs.draw {w : World} {g : Nat} {l : List Nat} (h : HashIs w g l) : HashIs w.drew g l := h

theorem hashC_state {s : S5.St} {r : List Nat} {n : Nat} (i : Nat) (hi : i < 8) : (hashC s r n)[i]? = (stC s)[i]? := by
  unfold hashC
  rw [Array.getElem?_append_left (by simp [stC]; omega), Array.getElem?_append_left (by simp [stC]; omega)]
theorem hashC_rest {s : S5.St} {r : List Nat} {n : Nat} (hr : r.length = 64) (i : Nat) (hi : i < 64) : (hashC s r n)[8 + i]? = some (.int .u8 (r.getD i 0)) := by
  unfold hashC
  rw [Array.getElem?_append_left (by simp [stC, bsC, hr]; omega), Array.getElem?_append_right (by simp [stC])]
  have e : 8 + i - (stC s).toList.toArray.size = i := by simp [stC]
  rw [e]
  simp [bsC, List.getD_eq_getElem?_getD, List.getElem?_eq_getElem (show i < r.length by omega)]
theorem hashC_n {s : S5.St} {r : List Nat} {n : Nat} (hr : r.length = 64) : (hashC s r n)[72]? = some (.int .i64 n) := by
  unfold hashC
  rw [Array.getElem?_append_right (by simp [stC, bsC, hr])]
  simp [stC, bsC, hr]
theorem hashC_size (s : S5.St) (r : List Nat) (n : Nat) (hr : r.length = 64) : (hashC s r n).size = 73 := by
  simp [hashC, stC, bsC, hr]

def r0 : List Nat := List.replicate 64 0
theorem run_build_new (w : World) : (Instr.build 66 #[(0, .agg (stC S5.init))]).run Tryd.prog w = .ok (.agg (hashC S5.init r0 0)) w := by kernel_rfl
theorem wp_build_new {ops : Array Oper} {rest : List Oper} {o : Oper} {a : Act} {w : World} {Q : Exit → Act → World → Prop} (hgd : o.guard = none) (x : Operand) (ho : o.op = .build 66 #[(0, x)]) (hx : a.eval x = .agg (stC S5.init))
    (hk : wpList Tryd.prog ops Q rest (a.put o.dst (.agg (hashC S5.init r0 0))) w) : wpList Tryd.prog ops Q (o :: rest) a w := by
  have hrun := run_build_new w
  refine wpList_plain hgd fun K hK => ?_
  unfold Oper.wp
  simp [execOp, ho, hx, hrun, Result.andThen]
  exact hK _ _ hk

set_option maxRecDepth 100000 in
set_option maxHeartbeats 1000000 in
theorem new_any (w : World) : Calls Tryd.prog 17 #[] w fun e w' => ∃ g, e = .returned (.pointer (some ⟨g, 0, none⟩)) ∧ Hid (HashIs w' g []) ∧ Hid (w.heap.size ≤ g) ∧ Below w.heap.size w w' := by
  go_enter Tryd.func17, Tryd.ntmps17
  go_wp2_with fail
  refine (initial_any _).mono ?_
  rintro e w1 ⟨rfl, hb1⟩
  have B1 := Lib.hid hb1
  clear hb1
  go_wp2_with (refine wp_build_new (by rfl) _ (by rfl) (by rfl) ?_)
  go_ret
  refine ⟨_, rfl, Lib.hid ⟨r0, by decide, by decide, by decide, by simp, ?_⟩, Lib.hid B1.out.size, B1.out.alloc B1.out.size _⟩
  exact Blk.fresh w1 _ _

theorem len_any (w : World) (g : Nat) (l : List Nat) (h : HashIs w g l) : Calls Tryd.prog 18 #[.pointer (some ⟨g, 0, none⟩)] w fun e w' => e = .returned (.int .i64 l.length) ∧ w = w' := by
  obtain ⟨r, hr, hrb, htl, hmax, hB⟩ := h
  have cn : w.cell? ⟨g, 72, none⟩ = some (.int .i64 l.length) := by rw [hB.cell, hashC_n hr]
  clear hr hrb htl hmax hB
  go_enter Tryd.func18, Tryd.ntmps18
  go_wp2_with fail
  go_ret
  exact ⟨rfl, rfl⟩
end Go.Proofs.YtpkbceelbppleaaDoor
