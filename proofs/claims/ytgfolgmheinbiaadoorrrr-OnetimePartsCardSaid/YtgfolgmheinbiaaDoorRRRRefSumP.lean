/- What the reference's Sum wants: lists, parts of a row of bytes, arrays of eight words. -/
import Derived.Test.YtgfolgmheinbiaaDoorRRRSched
import Derived.Test.YtgfolgmheinbiaaDoorRRRPadded
namespace S5
/-- eight words, the first i of them added -/
def plusL (s v : St) (i : Nat) : List Int := (List.range 8).map fun j => if j < i then w32 ((stL s).getD j 0 + (stL v).getD j 0) else (stL s).getD j 0
theorem plusL_len (s v : St) (i : Nat) : (plusL s v i).length = 8 := by simp [plusL]
theorem plusL_zero (s v : St) : plusL s v 0 = stL s := rfl
theorem plusL_eight (s v : St) : plusL s v 8 = stL (plus s v) := rfl
theorem plusL_at (s v : St) (i j : Nat) (h : j < 8) : (plusL s v i).getD j 0 = if j < i then w32 ((stL s).getD j 0 + (stL v).getD j 0) else (stL s).getD j 0 := by
  simp [plusL, List.getD_eq_getElem?_getD, List.getElem?_range h]
theorem plusL_set (s v : St) (i : Nat) (x : Int) (hx : x = w32 ((stL s).getD i 0 + (stL v).getD i 0)) : (plusL s v i).set i x = plusL s v (i + 1) := by
  apply List.ext_getElem (by simp [plusL_len])
  intro j h1 h2
  by_cases h : i = j
  · subst h
    simp [plusL, hx]
  · simp only [plusL, List.getElem_set, List.getElem_map, List.getElem_range, if_neg h]
    by_cases h3 : j < i
    · rw [if_pos h3, if_pos (by omega)]
    · rw [if_neg h3, if_neg (by omega)]

/-- the digest, byte by byte -/
def digL (s : St) (i : Nat) : Int := (stL s).getD (i / 4) 0 / 2 ^ (24 - 8 * (i % 4)) % 256
theorem digL_eq (s : St) : (List.range 32).map (digL s) = digest s := by
  simp [List.range, List.range.loop, digL, digest, stL, b4]
def outL (s : St) (i : Nat) : List Int := (List.range 32).map fun j => if j < i then digL s j else 0
theorem outL_len (s : St) (i : Nat) : (outL s i).length = 32 := by simp [outL]
theorem outL_zero (s : St) : outL s 0 = List.replicate 32 0 := by
  unfold outL
  apply List.ext_getElem (by simp)
  intro i h1 h2
  rw [List.getElem_map, List.getElem_range, if_neg (Nat.not_lt_zero _), List.getElem_replicate]
theorem outL_full (s : St) : outL s 32 = digest s := by
  rw [← digL_eq]
  unfold outL
  apply List.map_congr_left
  intro i hi
  rw [if_pos (List.mem_range.1 hi)]
theorem outL_set (s : St) (i : Nat) (x : Int) (hx : x = digL s i) : (outL s i).set i x = outL s (i + 1) := by
  apply List.ext_getElem (by simp [outL_len])
  intro j h1 h2
  by_cases h : i = j
  · subst h
    simp [outL, hx]
  · simp only [outL, List.getElem_set, List.getElem_map, List.getElem_range, if_neg h]
    by_cases h3 : j < i
    · rw [if_pos h3, if_pos (by omega)]
    · rw [if_neg h3, if_neg (by omega)]

/-- the words of a block in the middle -/
theorem run_next (K : Nat → Int) : ∀ (n : Nat) (s : St) (l : List Nat), run K (n + 1) s l = blk K (run K n s l) (words ((l.drop (64 * n)).take 64))
  | 0, s, l => by
    simp only [Nat.mul_zero, List.drop_zero]
    rw [words_take l 64 (Nat.le_refl _)]
    rfl
  | n + 1, s, l => by
    show run K (n + 1) (blk K s (words l)) (l.drop 64) = _
    rw [run_next K n, List.drop_drop, show 64 + 64 * n = 64 * (n + 1) by omega]
    rfl
end S5
namespace Go.Proofs.YtgfolgmheinbiaaDoorRRR
open Go.RowKit

theorem info8 (s : S5.St) : (Tryd.prog.info? 93).map (·.size) = some (stC s).size := by rw [stC_size]; kernel_rfl
theorem ld_s8 {ops : Array Oper} {rest : List Oper} {o : Oper} {a : Act} {w : World} {Q : Exit → Act → World → Prop} (g : Nat) (s : S5.St) (h : Blk w g 93 (stC s)) (hgd : o.guard = none) (x : Operand) (ho : o.op = .load 93 x)
    (hx : a.eval x = .pointer (some ⟨g, 0, none⟩)) (hk : wpList Tryd.prog ops Q rest (a.put o.dst (.agg (stC s))) w) : wpList Tryd.prog ops Q (o :: rest) a w :=
  wpList_load_row hgd _ x ho g hx _ _ _ _ h Tryd.underlying93 rfl (info8 s) hk
theorem sto_s8 {ops : Array Oper} {rest : List Oper} {o : Oper} {a : Act} {w : World} {Q : Exit → Act → World → Prop} (g : Nat) (s : S5.St) (old : Array Value) (h : Blk w g 93 old) (hold : old.size = 8) (hgd : o.guard = none) (x y : Operand) (ho : o.op = .store 93 x y)
    (hx : a.eval x = .pointer (some ⟨g, 0, none⟩)) (hy : a.eval y = .agg (stC s)) (hk : ∀ w', Hid (w' = w.setRow g (stC s)) → wpList Tryd.prog ops Q rest (a.put o.dst undef) w') : wpList Tryd.prog ops Q (o :: rest) a w :=
  wpList_store_row hgd _ x y ho g _ hx hy _ _ h (info8 s) (by rw [hold, stC_size]) (stC_one s) (hk _ (Lib.hid rfl))
theorem stC_wsC (s : S5.St) : stC s = wsC (S5.stL s) := rfl
theorem s8_cells {w : World} {g : Nat} {s : S5.St} (h : Blk w g 93 (stC s)) : w.cell? ⟨g, 0, none⟩ = some (.int .u32 s.a) ∧ w.cell? ⟨g, 1, none⟩ = some (.int .u32 s.b) ∧ w.cell? ⟨g, 2, none⟩ = some (.int .u32 s.c) ∧ w.cell? ⟨g, 3, none⟩ = some (.int .u32 s.d) ∧ w.cell? ⟨g, 4, none⟩ = some (.int .u32 s.e) ∧ w.cell? ⟨g, 5, none⟩ = some (.int .u32 s.f) ∧ w.cell? ⟨g, 6, none⟩ = some (.int .u32 s.g) ∧ w.cell? ⟨g, 7, none⟩ = some (.int .u32 s.h) :=
  ⟨by rw [h.cell]; rfl, by rw [h.cell]; rfl, by rw [h.cell]; rfl, by rw [h.cell]; rfl, by rw [h.cell]; rfl, by rw [h.cell]; rfl, by rw [h.cell]; rfl, by rw [h.cell]; rfl⟩

theorem s8_free {w : World} {g : Nat} {cs : Array Value} (h : Blk w g 93 cs) : w.frozen? ⟨g, 0, none⟩ = false ∧ w.frozen? ⟨g, 1, none⟩ = false ∧ w.frozen? ⟨g, 2, none⟩ = false ∧ w.frozen? ⟨g, 3, none⟩ = false ∧ w.frozen? ⟨g, 4, none⟩ = false ∧ w.frozen? ⟨g, 5, none⟩ = false ∧ w.frozen? ⟨g, 6, none⟩ = false ∧ w.frozen? ⟨g, 7, none⟩ = false :=
  ⟨h.free 0, h.free 1, h.free 2, h.free 3, h.free 4, h.free 5, h.free 6, h.free 7⟩
def chainW (W : World) (g : Nat) (v : S5.St) : World := (((((((W.setCell ⟨g, 0, none⟩ (.int .u32 v.a)).setCell ⟨g, 1, none⟩ (.int .u32 v.b)).setCell ⟨g, 2, none⟩ (.int .u32 v.c)).setCell ⟨g, 3, none⟩ (.int .u32 v.d)).setCell ⟨g, 4, none⟩ (.int .u32 v.e)).setCell ⟨g, 5, none⟩ (.int .u32 v.f)).setCell ⟨g, 6, none⟩ (.int .u32 v.g)).setCell ⟨g, 7, none⟩ (.int .u32 v.h)
theorem chainW_blk {W : World} {g : Nat} {s : S5.St} {t : TypeId} (v : S5.St) (h : Blk W g t (stC s)) : Blk (chainW W g v) g t (stC v) := by
  have h := h.put 0 (.int .u32 v.a)
  have h := h.put 1 (.int .u32 v.b)
  have h := h.put 2 (.int .u32 v.c)
  have h := h.put 3 (.int .u32 v.d)
  have h := h.put 4 (.int .u32 v.e)
  have h := h.put 5 (.int .u32 v.f)
  have h := h.put 6 (.int .u32 v.g)
  have h := h.put 7 (.int .u32 v.h)
  unfold chainW
  simpa [stC] using h
theorem chainW_far {W : World} {g k : Nat} {t : TypeId} {cs : Array Value} (v : S5.St) (h : Blk W k t cs) (hk : k ≠ g) : Blk (chainW W g v) k t cs :=
  (((((((h.away hk 0 _).away hk 1 _).away hk 2 _).away hk 3 _).away hk 4 _).away hk 5 _).away hk 6 _).away hk 7 _
theorem chainW_below {n : Nat} {w W : World} {g : Nat} (v : S5.St) (h : Below n w W) (hg : n ≤ g) : Below n w (chainW W g v) :=
  below8 W g v h hg

theorem Bytes.sub {w : World} {b o n c : Nat} {l : List Nat} (h : Bytes w (.slice (some ⟨b, o, none⟩) n c) l) (i k : Nat) (hi : i + k ≤ l.length) : Bytes w (.slice (some ⟨b, o + i, none⟩) k (c - i)) ((l.drop i).take k) := by
  obtain ⟨h1, y, cap, hv, hl, hm, hn, hc⟩ := h
  have e1 := (Value.slice.inj hv).1
  have e2 := (Value.slice.inj hv).2.2
  subst e2
  have hlen : ((l.drop i).take k).length = k := by simp; omega
  refine ⟨fun z hz => h1 z (List.mem_of_mem_drop (List.mem_of_mem_take hz)), some ⟨b, o + i, none⟩, c - i, by rw [hlen], by omega, by omega, (fun h => by cases h), fun j hj => ?_⟩
  rw [hlen] at hj
  obtain ⟨b', o', e, h0⟩ := hc (i + j) (by omega)
  rw [← e1] at e
  cases e
  refine ⟨b, o + i, rfl, ?_⟩
  rw [Nat.add_assoc, h0]
  congr 3
  rw [List.getD_eq_getElem?_getD, List.getD_eq_getElem?_getD, List.getElem?_take_of_lt hj, List.getElem?_drop]

theorem Bytes.put {w : World} {b o n c : Nat} {l : List Nat} (h : Bytes w (.slice (some ⟨b, o, none⟩) n c) l) (g j : Nat) (u : Value) (hg : b ≠ g) : Bytes (w.setCell ⟨g, j, none⟩ u) (.slice (some ⟨b, o, none⟩) n c) l := by
  obtain ⟨h1, y, cap, hv, hl, hm, hn, hc⟩ := h
  refine ⟨h1, y, cap, hv, hl, hm, hn, fun i hi => ?_⟩
  obtain ⟨b', o', e, h0⟩ := hc i hi
  have e1 := (Value.slice.inj hv).1
  rw [e] at e1
  cases e1
  refine ⟨b, o, e, ?_⟩
  rw [World.cell?_setCell_other (h := by intro hh; exact hg (congrArg Addr.block hh).symm), h0]
end Go.Proofs.YtgfolgmheinbiaaDoorRRR
