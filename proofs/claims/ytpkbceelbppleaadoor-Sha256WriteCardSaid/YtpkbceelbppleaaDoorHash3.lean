/- Hash: what Write does to the cells; the mathematics of one piece more. -/
import Derived.Test.YtpkbceelbppleaaDoorHash2
namespace S5
/-- a piece that does not fill the block -/
theorem more_small (K : Nat → Int) (s : St) (l b : List Nat) (h : l.length % 64 + b.length < 64) : runAll K s (l ++ b) = runAll K s l ∧ tail (l ++ b) = tail l ++ b := by
  have h1 := runAll_more K s l b
  have hl : (tail l ++ b).length < 64 := by rw [List.length_append, tail_len]; exact h
  exact ⟨by rw [h1.1, runAll_end K _ _ hl], by rw [h1.2, tail_end _ hl]⟩
/-- a piece that fills it -/
theorem more_big (K : Nat → Int) (s : St) (l b : List Nat) (k : Nat) (hk : l.length % 64 + k = 64) (hb : k ≤ b.length) :
    runAll K s (l ++ b) = runAll K (blk K (runAll K s l) (words (tail l ++ b.take k))) (b.drop k) ∧ tail (l ++ b) = tail (b.drop k) := by
  have h1 := runAll_more K s l b
  have hl : (tail l).length = l.length % 64 := tail_len l
  have e : tail l ++ b = (tail l ++ b.take k) ++ b.drop k := by rw [List.append_assoc, List.take_append_drop]
  have h64 : (tail l ++ b.take k).length = 64 := by simp; omega
  have hlen : 64 ≤ (tail l ++ b).length := by rw [List.length_append]; omega
  have hd : (tail l ++ b).drop 64 = b.drop k := by rw [e, List.drop_append, h64, List.drop_eq_nil_of_le (by omega)]; simp
  have hw : words (tail l ++ b) = words (tail l ++ b.take k) := by
    rw [← words_take (tail l ++ b) 64 (Nat.le_refl _)]
    congr 1
    rw [e, ← h64, List.take_left]
  exact ⟨by rw [h1.1, runAll_step K _ _ hlen, hd, hw], by rw [h1.2, tail_step _ hlen, hd]⟩
end S5
namespace Go.Proofs.YtpkbceelbppleaaDoor
open Go.RowKit

theorem hashC_list (s : S5.St) (r : List Nat) (n : Nat) : (hashC s r n).toList = (stC s).toList ++ (byteVals r ++ [.int .i64 n]) := by
  simp [hashC, bsC, byteVals]
theorem hashC_eq (s : S5.St) (r : List Nat) (n : Nat) : hashC s r n = ((stC s).toList ++ (byteVals r ++ [Value.int .i64 n])).toArray := by
  apply Array.toList_inj.1
  rw [hashC_list]
theorem hashC_set_n (s : S5.St) (r : List Nat) (n n' : Nat) (hr : r.length = 64) : (hashC s r n).setIfInBounds 72 (.int .i64 n') = hashC s r n' := by
  apply Array.toList_inj.1
  rw [Array.toList_setIfInBounds, hashC_list, hashC_list]
  have h8 : (stC s).toList.length = 8 := rfl
  have hb : (byteVals r).length = 64 := by rw [byteVals_len, hr]
  rw [List.set_append_right _ _ (by omega), List.set_append_right _ _ (by omega), h8, hb]
  rfl
theorem hashC_copy (s : S5.St) (r x : List Nat) (n h : Nat) (hr : r.length = 64) (hx : h + x.length ≤ 64) :
    ((hashC s r n).toList.take (8 + h) ++ (byteVals x ++ (hashC s r n).toList.drop (8 + h + x.length))).toArray = hashC s (r.take h ++ (x ++ r.drop (h + x.length))) n := by
  rw [hashC_eq s (r.take h ++ (x ++ r.drop (h + x.length))) n]
  congr 1
  rw [hashC_list]
  have h8 : (stC s).toList.length = 8 := rfl
  have hb : (byteVals r).length = 64 := by rw [byteVals_len, hr]
  rw [List.take_append, List.drop_append, h8, List.take_of_length_le (by omega), List.drop_eq_nil_of_le (by omega), List.nil_append, List.take_append, List.drop_append, hb,
    show 8 + h - 8 = h by omega, show 8 + h + x.length - 8 = h + x.length by omega, show h - 64 = 0 by omega, show h + x.length - 64 = 0 by omega, List.take_zero, List.drop_zero, List.append_nil]
  unfold byteVals
  simp [List.map_take, List.map_drop]
theorem hashC_chain (s v : S5.St) (r : List Nat) (n : Nat) :
    ((((((((hashC s r n).setIfInBounds 0 (.int .u32 v.a)).setIfInBounds 1 (.int .u32 v.b)).setIfInBounds 2 (.int .u32 v.c)).setIfInBounds 3 (.int .u32 v.d)).setIfInBounds 4 (.int .u32 v.e)).setIfInBounds 5 (.int .u32 v.f)).setIfInBounds 6 (.int .u32 v.g)).setIfInBounds 7 (.int .u32 v.h) = hashC v r n := by
  apply Array.toList_inj.1
  simp only [Array.toList_setIfInBounds, hashC_list]
  rfl
theorem chainW_hash {W : World} {g : Nat} {s : S5.St} {r : List Nat} {n : Nat} {t : TypeId} (v : S5.St) (h : Blk W g t (hashC s r n)) : Blk (chainW W g v) g t (hashC v r n) := by
  have h := h.put 0 (.int .u32 v.a)
  have h := h.put 1 (.int .u32 v.b)
  have h := h.put 2 (.int .u32 v.c)
  have h := h.put 3 (.int .u32 v.d)
  have h := h.put 4 (.int .u32 v.e)
  have h := h.put 5 (.int .u32 v.f)
  have h := h.put 6 (.int .u32 v.g)
  have h := h.put 7 (.int .u32 v.h)
  rw [hashC_chain] at h
  exact h

/-- all blocks but one are as they were -/
def But (g : Nat) (w w' : World) : Prop := w.grownBy w' (some g)
theorem But.refl (g : Nat) (w : World) : But g w w := ⟨rfl, rfl, rfl, Nat.le_refl _, fun _ _ _ => rfl⟩
theorem But.below {g : Nat} {w w1 w2 : World} (h : But g w w1) (hb : Below w1.heap.size w1 w2) : But g w w2 := by
  obtain ⟨a1, a2, a3, a4, a5⟩ := h
  exact ⟨hb.os.trans a1, hb.tape.trans a2, hb.output.trans a3, Nat.le_trans a4 hb.size, fun k hk hn => (hb.block k (by omega)).trans (a5 k hk hn)⟩
theorem But.put {g : Nat} {w w1 : World} (h : But g w w1) (j : Nat) (u : Value) : But g w (w1.setCell ⟨g, j, none⟩ u) := by
  obtain ⟨a1, a2, a3, a4, a5⟩ := h
  have hb := below_put (Below.refl g w1) g j (Nat.le_refl _) u
  exact ⟨hb.os.trans a1, hb.tape.trans a2, hb.output.trans a3, Nat.le_trans a4 hb.size, fun k hk hn => (heap_setCell_other w1 ⟨g, j, none⟩ k u (by intro e; exact hn (congrArg some e))).trans (a5 k hk hn)⟩
theorem But.drew {g : Nat} {w w1 : World} (h : But g w w1) : But g w w1.drew := by
  obtain ⟨a1, a2, a3, a4, a5⟩ := h
  exact ⟨a1, a2, a3, a4, a5⟩
theorem But.chain {g : Nat} {w w1 : World} (h : But g w w1) (v : S5.St) : But g w (chainW w1 g v) :=
  (((((((h.put 0 _).put 1 _).put 2 _).put 3 _).put 4 _).put 5 _).put 6 _).put 7 _
end Go.Proofs.YtpkbceelbppleaaDoor
