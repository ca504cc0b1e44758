/- The Encoder: its cells, and what NewEncoder, Len, Write and Close do with them. -/
import Derived.Test.YtbojodgeknjpjaaDoorApp
import Derived.Test.YtbojodgeknjpjaaDoorKnown
import Derived.Laws.CopyOwn
import Derived.Deep.RegionLaw
import Derived.Deep.DeepMust
namespace Go.Proofs.YtbojodgeknjpjaaDoor
open Go.RowKit

def coder (r0 r1 n : Nat) (c : Bool) : Array Value := #[.int .u8 r0, .int .u8 r1, .int .i64 n, .bool c]

def CoderAt (w : World) (g r0 r1 n : Nat) (c : Bool) : Prop := w.heap[g]? = some (.cells (coder r0 r1 n c) 53 (0, 0))

theorem CoderAt.cell0 {w : World} {g r0 r1 n : Nat} {c : Bool} (h : CoderAt w g r0 r1 n c) : w.cell? ⟨g, 0, none⟩ = some (.int .u8 r0) := by rw [Lib.cell_of_heap h]; rfl
theorem CoderAt.cell1 {w : World} {g r0 r1 n : Nat} {c : Bool} (h : CoderAt w g r0 r1 n c) : w.cell? ⟨g, 1, none⟩ = some (.int .u8 r1) := by rw [Lib.cell_of_heap h]; rfl
theorem CoderAt.cell2 {w : World} {g r0 r1 n : Nat} {c : Bool} (h : CoderAt w g r0 r1 n c) : w.cell? ⟨g, 2, none⟩ = some (.int .i64 n) := by rw [Lib.cell_of_heap h]; rfl
theorem CoderAt.cell3 {w : World} {g r0 r1 n : Nat} {c : Bool} (h : CoderAt w g r0 r1 n c) : w.cell? ⟨g, 3, none⟩ = some (.bool c) := by rw [Lib.cell_of_heap h]; rfl

theorem coderLen_any (w : World) (g r0 r1 n : Nat) (c : Bool) (h : CoderAt w g r0 r1 n c) :
    Calls Tryd.prog 26 #[.pointer (some ⟨g, 0, none⟩)] w fun e w' => e = .returned (.int .i64 n) ∧ w = w' := by
  have h2 := h.cell2
  go_enter Tryd.func26, Tryd.ntmps26
  go_wp2_with fail
  go_ret
  exact ⟨rfl, rfl⟩

theorem coderNew_any (w : World) : Calls Tryd.prog 24 #[] w fun e w' => e = .returned (.pointer (some ⟨w.heap.size, 0, none⟩)) ∧ w' = w.alloc (.cells (coder 0 0 0 false) 53) := by
  go_enter Tryd.func24, Tryd.ntmps24
  go_wp2_with fail
  go_ret
  exact ⟨rfl, rfl⟩

/-- everything that was there stays, but the coder's own block -/
structure Kept (g : Nat) (w w' : World) : Prop where
  os : w'.os = w.os
  tape : w'.tape = w.tape
  output : w'.output = w.output
  size : w.heap.size ≤ w'.heap.size
  block : ∀ k, k < w.heap.size → k ≠ g → w'.heap[k]? = w.heap[k]?

theorem Kept.of_below {g : Nat} {w w' : World} (h : Below w.heap.size w w') : Kept g w w' := ⟨h.os, h.tape, h.output, h.size, fun k hk _ => h.block k hk⟩
theorem Kept.trans {g : Nat} {w w1 w2 : World} (h : Kept g w w1) (h2 : Kept g w1 w2) : Kept g w w2 :=
  ⟨h2.os.trans h.os, h2.tape.trans h.tape, h2.output.trans h.output, Nat.le_trans h.size h2.size, fun k hk hg => (h2.block k (Nat.lt_of_lt_of_le hk h.size) hg).trans (h.block k hk hg)⟩
theorem Kept.below {g B : Nat} {w w' : World} (h : Kept g w w') (hg : B ≤ g) (hB : B ≤ w.heap.size) : Below B w w' := ⟨h.os, h.tape, h.output, h.size, fun k hk => h.block k (by omega) (by omega)⟩
theorem Kept.setCell (g o : Nat) (v : Value) (w : World) : Kept g w (w.setCell ⟨g, o, none⟩ v) :=
  ⟨rfl, rfl, rfl, Nat.le_of_eq (by simp), fun k _ hk => heap_setCell_other w ⟨g, o, none⟩ k v hk⟩
theorem Kept.drew {g : Nat} {w w' : World} (h : Kept g w w') : Kept g w w'.drew := ⟨h.os, h.tape, h.output, h.size, h.block⟩
theorem CoderAt.drew {w : World} {g r0 r1 n : Nat} {c : Bool} (h : CoderAt w g r0 r1 n c) : CoderAt w.drew g r0 r1 n c := h
theorem Kept.newBelow (w : World) (o : Obj) : Below w.heap.size w (w.alloc o) := (Below.refl _ w).alloc (Nat.le_refl _) _
theorem Kept.tab {g : Nat} {w w' : World} (h : Kept g w w') (hT : Tab w) (hg : 0 < g) : Tab w' := hT.below (h.below (B := 1) hg hT.1) (by omega)

theorem CoderAt.frozen {w : World} {g r0 r1 n : Nat} {c : Bool} (h : CoderAt w g r0 r1 n c) (j : Nat) : w.frozen? ⟨g, j, none⟩ = false := frozen_of_row w g j _ _ h
theorem CoderAt.close {w : World} {g r0 r1 n : Nat} {c : Bool} (h : CoderAt w g r0 r1 n c) : CoderAt (w.setCell ⟨g, 3, none⟩ (.bool true)) g r0 r1 n true := by
  have := heap_setCell_same w g 3 _ _ (.bool true) h
  unfold CoderAt
  rw [this]
  simp [coder]
theorem CoderAt.count {w : World} {g r0 r1 n : Nat} {c : Bool} (m : Nat) (h : CoderAt w g r0 r1 n c) : CoderAt (w.setCell ⟨g, 2, none⟩ (.int .i64 m)) g r0 r1 m c := by
  have := heap_setCell_same w g 2 _ _ (.int .i64 m) h
  unfold CoderAt
  rw [this]
  simp [coder]
theorem CoderAt.keeps {w w' : World} {g r0 r1 n : Nat} {c : Bool} (h : CoderAt w g r0 r1 n c) (hb : Below w.heap.size w w') : CoderAt w' g r0 r1 n c := by
  unfold CoderAt at h ⊢
  rw [hb.block g (Array.getElem?_eq_some_iff.1 h).1]
  exact h
theorem CoderAt.rest {w : World} {g r0 r1 n : Nat} {c : Bool} (h : CoderAt w g r0 r1 n c) (h0 : r0 < 256) (h1 : r1 < 256) (m cap : Nat) (hm : m ≤ 2) (hc : m ≤ cap) (hc2 : cap ≤ 2) : Bytes w (.slice (some ⟨g, 0, none⟩) m cap) ([r0, r1].take m) := by
  have hl : ([r0, r1].take m).length = m := by simp; omega
  refine ⟨?_, some ⟨g, 0, none⟩, cap, by rw [hl], by rw [hl]; exact hc, by unfold maxLen; omega, ?_⟩
  · intro x hx
    have := List.mem_of_mem_take hx
    simp at this
    omega
  · intro i hi
    refine ⟨g, 0, rfl, ?_⟩
    have hi2 : i < 2 := by omega
    rcases (show m = 0 ∨ m = 1 ∨ m = 2 by omega) with rfl | rfl | rfl
    · simp at hi
    · obtain rfl : i = 0 := by simp at hi; omega
      rw [h.cell0]; simp
    · rcases (show i = 0 ∨ i = 1 by omega) with rfl | rfl
      · rw [h.cell0]; simp
      · rw [Nat.zero_add, h.cell1]; simp

theorem close_nil (w : World) : Calls Tryd.prog 27 #[.pointer none] w fun e w' => e = .returned (.tuple #[.string ByteArray.empty, .int .i64 1]) ∧ w = w' := by
  go_enter Tryd.func27, Tryd.ntmps27
  go_wp2_with fail
  go_ret2
  exact ⟨rfl, rfl⟩

theorem close_shut (w : World) (g r0 r1 n : Nat) (h : CoderAt w g r0 r1 n true) : Calls Tryd.prog 27 #[.pointer (some ⟨g, 0, none⟩)] w fun e w' => e = .returned (.tuple #[.string ByteArray.empty, .int .i64 10]) ∧ w = w' := by
  have h3 := h.cell3
  go_enter Tryd.func27, Tryd.ntmps27
  go_wp2_with fail
  go_ret2
  exact ⟨rfl, rfl⟩

theorem write_nil (v : Value) (w : World) : Calls Tryd.prog 25 #[.pointer none, v] w fun e w' => e = .returned (.tuple #[.string ByteArray.empty, .int .i64 1]) ∧ w = w' := by
  go_enter Tryd.func25, Tryd.ntmps25
  go_wp2_with fail
  go_ret2
  exact ⟨rfl, rfl⟩

theorem write_shut (w : World) (v : Value) (g r0 r1 n : Nat) (h : CoderAt w g r0 r1 n true) : Calls Tryd.prog 25 #[.pointer (some ⟨g, 0, none⟩), v] w fun e w' => e = .returned (.tuple #[.string ByteArray.empty, .int .i64 10]) ∧ w = w' := by
  have h3 := h.cell3
  go_enter Tryd.func25, Tryd.ntmps25
  go_wp2_with fail
  go_ret2
  exact ⟨rfl, rfl⟩

theorem write_long (w : World) (x : Option Addr) (len cap : Nat) (g r0 r1 n : Nat) (h : CoderAt w g r0 r1 n false) (hn : n ≤ 131072) (hl : 131072 < n + len) :
    Calls Tryd.prog 25 #[.pointer (some ⟨g, 0, none⟩), .slice x len cap] w fun e w' => e = .returned (.tuple #[.string ByteArray.empty, .int .i64 5]) ∧ w = w' := by
  have h3 := h.cell3
  have h2 := h.cell2
  have hq : 131072 - (n : Int) < (len : Int) := by omega
  go_enter Tryd.func25, Tryd.ntmps25
  go_wp2_with fail
  go_ret2
  exact ⟨rfl, rfl⟩

theorem close_any (w : World) (g r0 r1 n : Nat) (hT : Tab w) (h : CoderAt w g r0 r1 n false) (h0 : r0 < 256) (h1 : r1 < 256) (hg : 0 < g) (s : ByteArray) (hs : s = ⟨(B64.encT ([r0, r1].take (n % 3))).toArray⟩) :
    Calls Tryd.prog 27 #[.pointer (some ⟨g, 0, none⟩)] w fun e w' => e = .returned (.tuple #[.string s, .int .i64 0]) ∧ CoderAt w' g r0 r1 n true ∧ Kept g w w' := by
  have h3 := h.cell3
  have h2 := h.cell2
  have hfr := h.frozen 3
  have hcl := h.close
  have h2' := hcl.cell2
  obtain ⟨m, hm⟩ : ∃ m, m = n % 3 := ⟨_, rfl⟩
  have hm2 : m ≤ 2 := by omega
  have hm3 : (m : Int) ≤ 2 := by omega
  have htm : (n : Int).tmod 3 = (m : Int) := by rw [Int.tmod_eq_emod_of_nonneg (by omega), hm]; simp
  rw [← hm] at hs
  have hk1 := Kept.setCell g 3 (.bool true) w
  have he : ∀ w2, Kept g w w2 → CoderAt w2 g r0 r1 n true → Calls Tryd.prog 28 #[.slice (some ⟨g, 0, none⟩) m 2] w2 fun e w' => e = .returned (.string s) ∧ Below w2.heap.size w2 w' := by
    intro w2 hk hc
    have := encode_any _ _ _ (hk.tab hT hg) (hc.rest h0 h1 m 2 hm2 hm2 (Nat.le_refl _)) (by simp; omega)
    rw [← hs] at this
    exact this
  have HE := Lib.hid he
  have HM := Lib.hid hm
  clear he hs hm
  go_enter Tryd.func27, Tryd.ntmps27
  go_wp2_with fail
  go_region_with (go_at_call 28; refine (HE.out _ (Kept.drew hk1) (CoderAt.drew hcl)).mono ?_; rintro e w' ⟨rfl, hb2⟩)
  all_goals
    go_wp2_with fail
    go_ret2
    exact ⟨rfl, CoderAt.keeps hcl.drew hb2, hk1.drew.trans (Kept.of_below hb2)⟩

theorem step_append_rest {ops : Array Oper} {o : Oper} {a : Act} {w : World} {K : Act → World → Prop} {Q : Exit → Act → World → Prop} {E : Prop} (hgd : o.guard = none) (s x : Operand)
    (ho : o.op = .call { callee := .builtin .append, args := #[s, x], argTypes := #[22, 22] })
    (base : Nat) (v : Value) (hs : a.eval s = v) (hown : w.ownsRow base 5 1 v 0 []) (ad : Addr) (l : List Nat) (k c : Nat) (hk : k = l.length) (hx : a.eval x = .slice (some ad) k c) (hb : Bytes w (.slice (some ad) k c) l)
    (hn : l.length ≤ 1000000000) (hbase : base ≤ w.heap.size)
    (h : ∀ v' w', Hid (w'.ownsRow base 5 1 v' k (byteVals l)) → Hid (w.grownBy w' v.ownBlock) → (v ≠ .slice none 0 0 → v' ≠ .slice none 0 0) → K (a.put o.dst v') w') : if Region.wanted o (yielded ops a.tmps) = true then Oper.wp Tryd.prog o a w K Q else E := by
  subst hk
  obtain ⟨i0, hi, hz0, hz1, hz2⟩ := info_parts Tryd.info5
  have hw : Region.wanted o (yielded ops a.tmps) = true := by simp [Region.wanted, hgd]
  rw [if_pos hw]
  obtain ⟨_, y, cap, he, _, _, hc⟩ := hb
  cases he
  refine wp_append_own w s x 22 ho base 5 i0 (.int .u8 0) 1 1 Tryd.underlying22 hi hz0 hz1 hz2 rfl (by decide) v 0 [] hs hown ad l.length c (byteVals l) hx (by simp [byteVals]) ?_ ?_ (by unfold maxLen; omega) (by omega) hbase (fun v' w' h2 h3 h4 => h v' w' (Lib.hid (by simpa using h2)) (Lib.hid h3) (fun hv hv' => hv (h4.1 hv').1))
  · intro j u hj
    have hjl : j < l.length := by
      have := (List.getElem?_eq_some_iff.1 hj).1
      simpa [byteVals] using this
    obtain ⟨b, off, e, h0⟩ := hc j hjl
    obtain rfl := Option.some.inj e
    rw [addr_add, h0, ← hj]
    simp [byteVals, List.getElem?_eq_getElem hjl]
  · intro u hu
    simp only [byteVals, List.mem_map] at hu
    obtain ⟨z, _, rfl⟩ := hu
    rfl

theorem wpList_append_bytes' (w : World) {ops : Array Oper} {rest : List Oper} {o : Oper} {a : Act} {Q : Exit → Act → World → Prop} (hgd : o.guard = none) (s x : Operand)
    (ho : o.op = .call { callee := .builtin .append, args := #[s, x], argTypes := #[22, 22] })
    (base : Nat) (v : Value) (n : Nat) (xs : List Value) (hs : a.eval s = v) (hown : w.ownsRow base 5 1 v n xs) (hv0 : v ≠ .slice none 0 0) (src : Value) (l : List Nat) (hx : a.eval x = src) (hb : Bytes w src l) (hnil : ∀ c, src = .slice none l.length c → c = 0)
    (hn : n + l.length ≤ 1000000000) (hbase : base ≤ w.heap.size)
    (h : ∀ v' w', Hid (w'.ownsRow base 5 1 v' (n + l.length) (xs ++ byteVals l)) → Hid (w.grownBy w' v.ownBlock) → v' ≠ .slice none 0 0 → wpList Tryd.prog ops Q rest (a.put o.dst v') w') : wpList Tryd.prog ops Q (o :: rest) a w := by
  obtain ⟨i0, hi, hz0, hz1, hz2⟩ := info_parts Tryd.info5
  obtain ⟨_, y, cap, rfl, _, _, hc⟩ := hb
  cases y with
  | none =>
    have h0 : l = [] := by
      cases l with
      | nil => rfl
      | cons z l => obtain ⟨b, off, e, _⟩ := hc 0 (by simp); cases e
    subst h0
    obtain rfl := hnil cap rfl
    have := wpList_append_own_none hgd s x 22 ho base 5 i0 1 Tryd.underlying22 hi v n xs hs hown (Q := Q) (ops := ops) (rest := rest) hx
    exact this (h v w (Lib.hid (by simpa [byteVals] using hown)) (Lib.hid ⟨rfl, rfl, rfl, Nat.le_refl _, fun _ _ _ => rfl⟩) hv0)
  | some ad =>
    refine wpList_append_own _ hgd s x 22 ho base 5 i0 (.int .u8 0) 1 1 Tryd.underlying22 hi hz0 hz1 hz2 rfl (by decide) v n xs hs hown ad l.length cap (byteVals l) hx (by simp [byteVals]) ?_ ?_ (by unfold maxLen; omega) (by omega) hbase (fun v' w' h1 h2 h3 => h v' w' (Lib.hid h1) (Lib.hid h2) (fun hv' => hv0 (h3.1 hv').1))
    · intro j u hj
      have hjl : j < l.length := by
        have := (List.getElem?_eq_some_iff.1 hj).1
        simpa [byteVals] using this
      obtain ⟨b, off, e, h0⟩ := hc j hjl
      obtain rfl := Option.some.inj e
      rw [addr_add, h0, ← hj]
      simp [byteVals, List.getElem?_eq_getElem hjl]
    · intro u hu
      simp only [byteVals, List.mem_map] at hu
      obtain ⟨z, _, rfl⟩ := hu
      rfl

theorem ownBlock_ge {w : World} {base n : Nat} {v : Value} {xs : List Value} (h : w.ownsRow base 5 1 v n xs) : ∀ k, v.ownBlock = some k → base ≤ k := by
  rintro k hk
  obtain ⟨_, ⟨rfl, _⟩ | ⟨g, cap, cur, rfl, hg, _⟩⟩ := h
  · cases hk
  · cases hk; exact hg

/-- copy into the coder's two bytes -/
theorem step_copy_coder {ops : Array Oper} {o : Oper} {a : Act} {w : World} {K : Act → World → Prop} {Q : Exit → Act → World → Prop} {E : Prop} (hgd : o.guard = none) (d s : Operand)
    (ho : o.op = .call { callee := .builtin .copy, args := #[d, s], argTypes := #[22, 22] })
    (sp : Option Addr) (sLen sCap g r0 r1 n : Nat) (hd : a.eval d = .slice (some ⟨g, 0, none⟩) 2 2) (hs : a.eval s = .slice sp sLen sCap) (hC : CoderAt w g r0 r1 n false) (cs : List Nat) (hl : cs.length = sLen) (h2 : sLen ≤ 2)
    (hpos : 0 < cs.length → ∃ ad, sp = some ad ∧ ∀ j v, (byteVals cs)[j]? = some v → w.cell? (ad.add j) = some v) (hc : ∀ x ∈ cs, x < 256) (h0 : r0 < 256) (h1 : r1 < 256)
    (h : ∀ w', Hid (Kept g w w') → Hid (∃ r0' r1', CoderAt w' g r0' r1' n false ∧ r0' < 256 ∧ r1' < 256 ∧ [r0', r1'].take sLen = cs) → K (a.put o.dst (goInt cs.length)) w') :
    if Region.wanted o (yielded ops a.tmps) = true then Oper.wp Tryd.prog o a w K Q else E := by
  have hw : Region.wanted o (yielded ops a.tmps) = true := by simp [Region.wanted, hgd]
  rw [if_pos hw]
  have hsz : (Tryd.prog.info? 5).map (·.size) = some 1 := by kernel_rfl
  have hbl : (byteVals cs).length = cs.length := by simp [byteVals]
  by_cases hz : cs.length = 0
  · obtain rfl : cs = [] := List.eq_nil_of_length_eq_zero hz
    have hrun := run_copy_none (P := Tryd.prog) w 22 22 o.type 5 (some ⟨g, 0, none⟩) sp 2 2 sLen sCap Tryd.underlying22 hsz (by simp at hl; rw [← hl]; rfl)
    unfold Oper.wp
    simp [execOp, ho, resolve, invoke, builtin, hd, hs, hrun, Result.andThen]
    exact h w (Lib.hid ⟨rfl, rfl, rfl, Nat.le_refl _, fun _ _ _ => rfl⟩) (Lib.hid ⟨r0, r1, hC, h0, h1, by simp at hl; subst hl; rfl⟩)
  · obtain ⟨ad, rfl, hsrc⟩ := hpos (by omega)
    have hrun := run_copy_row (P := Tryd.prog) w 22 22 o.type 5 g 0 2 2 ad sLen sCap (coder r0 r1 n false) 53 (byteVals cs) Tryd.underlying22 hsz hC (by rw [hbl, hl]; exact (Nat.min_eq_left h2).symm) hsrc (by rw [hbl, hl]; simp [coder]; omega) (by
      intro u hu
      simp only [byteVals, List.mem_map] at hu
      obtain ⟨z, _, rfl⟩ := hu
      rfl)
    unfold Oper.wp
    simp [execOp, ho, resolve, invoke, builtin, hd, hs, hrun, Result.andThen]
    rw [hbl]
    refine h _ (Lib.hid ⟨rfl, rfl, rfl, Nat.le_of_eq (by simp [World.setRow]), fun k _ hk => setRow_other w g k _ hk⟩) (Lib.hid ?_)
    have hrow := setRow_heap w g (coder r0 r1 n false) ((byteVals cs) ++ (coder r0 r1 n false).toList.drop (byteVals cs).length).toArray 53 (0, 0) hC
    match cs, hl, hc, hrow with
    | [], hl, _, _ => exact absurd rfl hz
    | [x], hl, hc, hrow =>
      refine ⟨x, r1, ?_, hc x (by simp), h1, by simp at hl; subst hl; rfl⟩
      unfold CoderAt
      simpa [coder, byteVals] using hrow
    | [x, y], hl, hc, hrow =>
      refine ⟨x, y, ?_, hc x (by simp), hc y (by simp), by simp at hl; subst hl; rfl⟩
      unfold CoderAt
      simpa [coder, byteVals] using hrow
    | x :: y :: z :: cs, hl, _, _ => simp at hl; omega

theorem row_some {w : World} {base n : Nat} {v : Value} {xs : List Value} (h : w.ownsRow base 5 1 v n xs) (hv : v ≠ .slice none 0 0) :
    ∃ g cap cur, v = .slice (some ⟨g, 0, none⟩) n cap ∧ base ≤ g ∧ (w.heap[g]? = some (.cells cur 5 (0, 0)) ∧ n ≤ cap ∧ cap ≤ maxLen ∧ cur.toList.take n = xs) := by
  obtain ⟨_, ⟨h0, _⟩ | ⟨g, cap, cur, h1, h2, h3, h4, h5, h6, h7⟩⟩ := h
  · exact absurd h0 hv
  · exact ⟨g, cap, cur, h1, h2, h3, h4, h5, by simpa using h7⟩

theorem row_cell {w : World} {g : Nat} {cur : Array Value} {tot : List Nat} (h : w.heap[g]? = some (.cells cur 5 (0, 0))) (hc : cur.toList.take tot.length = byteVals tot) (j : Nat) (hj : j < tot.length) :
    w.cell? ⟨g, j, none⟩ = some (.int .u8 (tot.getD j 0)) := by
  rw [Lib.cell_of_heap h]
  have h1 : (cur.toList.take tot.length)[j]? = cur.toList[j]? := by rw [List.getElem?_take, if_pos hj]
  rw [hc] at h1
  rw [← Array.getElem?_toList, ← h1]
  simp [byteVals, List.getElem?_eq_getElem hj]

theorem row_bytes {w : World} {g cap : Nat} {cur : Array Value} {tot : List Nat} (h : w.heap[g]? = some (.cells cur 5 (0, 0))) (hc : cur.toList.take tot.length = byteVals tot) (hb : ∀ x ∈ tot, x < 256) (hcap : tot.length ≤ cap) (hm : cap ≤ maxLen) (k : Nat) (hk : k ≤ tot.length) :
    Bytes w (.slice (some ⟨g, 0, none⟩) k cap) (tot.take k) := by
  have hl : (tot.take k).length = k := by simp; omega
  refine ⟨fun x hx => hb x (List.mem_of_mem_take hx), some ⟨g, 0, none⟩, cap, by rw [hl], by rw [hl]; omega, hm, fun i hi => ⟨g, 0, rfl, ?_⟩⟩
  rw [Nat.zero_add, row_cell h hc i (by omega)]
  rw [hl] at hi
  congr 2
  simp [List.getD_eq_getElem?_getD, hi]

theorem CoderAt.cell2i {w : World} {g r0 r1 n k : Nat} {c : Bool} (h : CoderAt w g r0 r1 (n + k) c) : w.cell? ⟨g, 2, none⟩ = some (.int .i64 ((n : Int) + (k : Int))) := by
  rw [h.cell2]; simp

set_option maxHeartbeats 1000000 in
theorem write_any (w : World) (v : Value) (l : List Nat) (g r0 r1 n : Nat) (hT : Tab w) (h : CoderAt w g r0 r1 n false) (h0 : r0 < 256) (h1 : r1 < 256) (hg : 0 < g) (hn : n + l.length ≤ 131072)
    (hv : ∀ w', Kept g w w' → Bytes w' v l) (hnil : ∀ c, v = .slice none l.length c → c = 0) (tot : List Nat) (htot : tot = [r0, r1].take (n % 3) ++ l)
    (q : Nat) (hq : q = (n % 3 + l.length) / 3 * 3) (s : ByteArray) (hs : s = ⟨(B64.encT (tot.take q)).toArray⟩) :
    Calls Tryd.prog 25 #[.pointer (some ⟨g, 0, none⟩), v] w fun e w' => e = .returned (.tuple #[.string s, .int .i64 0]) ∧ Kept g w w' ∧
      ∃ r0' r1', CoderAt w' g r0' r1' (n + l.length) false ∧ r0' < 256 ∧ r1' < 256 ∧ [r0', r1'].take ((n + l.length) % 3) = tot.drop q := by
  have hV := hv w ⟨rfl, rfl, rfl, Nat.le_refl _, fun _ _ _ => rfl⟩
  obtain ⟨hlb, x, cap, rfl, _, _, _⟩ := hV
  have h3 := h.cell3
  have h2 := h.cell2
  obtain ⟨m, hm⟩ : ∃ m, m = n % 3 := ⟨_, rfl⟩
  have hm2 : m ≤ 2 := by omega
  have hm3 : (m : Int) ≤ 2 := by omega
  have htm : (n : Int).tmod 3 = (m : Int) := by rw [Int.tmod_eq_emod_of_nonneg (by omega), hm]; simp
  have hroom : ¬ 131072 - (n : Int) < (l.length : Int) := by omega
  rw [← hm] at htot hq
  have HM := Lib.hid hm; have HTOT := Lib.hid htot; have HQ := Lib.hid hq; have HS := Lib.hid hs; have HV := Lib.hid hv; have HN := Lib.hid hnil
  have hal2 : (w.alloc (.cells #[] 5)).cell? ⟨g, 2, none⟩ = some (.int .i64 n) := (CoderAt.keeps h (Kept.newBelow w _)).cell2
  have hownE : ∀ w1 : World, w1.heap[w.heap.size]? = some (.cells #[] 5 (0, 0)) → w1.ownsRow w.heap.size 5 1 (.slice (some ⟨w.heap.size, 0, none⟩) 0 0) 0 [] :=
    fun w1 h1 => ⟨rfl, .inr ⟨w.heap.size, 0, #[], rfl, Nat.le_refl _, h1, Nat.le_refl _, Nat.zero_le _, rfl, rfl⟩⟩
  have HOE := Lib.hid hownE
  clear hm htot hq hs hv hnil hownE
  go_enter Tryd.func25, Tryd.ntmps25
  go_wp2_with fail
  have hlen : m = ([r0, r1].take m).length := by simp; omega
  have HLEN := Lib.hid hlen
  have hbA : Bytes (w.alloc (.cells #[] 5)).drew (.slice (some ⟨g, 0, none⟩) m 2) ([r0, r1].take m) := (CoderAt.drew (CoderAt.keeps h (Kept.newBelow w _))).rest h0 h1 m 2 hm2 hm2 (Nat.le_refl _)
  have HBA := Lib.hid hbA
  have hcnt : ∀ w2, CoderAt w2 g r0 r1 n false → CoderAt (w2.setCell ⟨g, 2, none⟩ (.int .i64 ((n : Int) + (l.length : Int)))) g r0 r1 (n + l.length) false := by
    intro w2 h2
    have := h2.count (n + l.length)
    rwa [Int.natCast_add] at this
  have HCNT := Lib.hid hcnt
  obtain ⟨m2, hm2'⟩ : ∃ k, k = (n + l.length) % 3 := ⟨_, rfl⟩
  have htm2 : ((n : Int) + (l.length : Int)).tmod 3 = (m2 : Int) := by rw [Int.tmod_eq_emod_of_nonneg (by omega), hm2']; simp
  have hm22 : m2 ≤ 2 := by omega
  have HM2 := Lib.hid hm2'
  have htl : tot.length = m + l.length := by rw [HTOT.out, List.length_append, ← HLEN.out]
  have htb : ∀ x ∈ tot, x < 256 := by
    intro x hx
    rw [HTOT.out] at hx
    rcases List.mem_append.1 hx with h | h
    · have := List.mem_of_mem_take h
      simp at this
      omega
    · exact hlb x h
  have htv : byteVals tot = byteVals ([r0, r1].take m) ++ byteVals l := by rw [HTOT.out]; simp [byteVals]
  have HTL := Lib.hid htl; have HTB := Lib.hid htb; have HTV := Lib.hid htv
  clear htl htb htv
  have hgs : g < w.heap.size := (Array.getElem?_eq_some_iff.1 h).1
  have hqs : q + m2 = m + l.length := by rw [HQ.out, hm2']; have := HM.out; omega
  have HQS := Lib.hid hqs
  have hqI : (m : Int) + (l.length : Int) - (m2 : Int) = (q : Int) := by omega
  have hq1 : q ≤ m + l.length := by omega
  have hq1I : (q : Int) ≤ (m : Int) + (l.length : Int) := by omega
  clear hqs
  clear hlen hbA hcnt hm2'
  go_region_law (refine step_append_rest rfl (.tmp 25) (.tmp 34) rfl w.heap.size (.slice (some ⟨w.heap.size, 0, none⟩) 0 0) (by simp [Act.eval, Act.put]) (HOE.out _ (heap_alloc_new w _)) ⟨g, 0, none⟩ ([r0, r1].take m) m 2 HLEN.out (by simp [Act.eval, Act.put]) HBA.out (by rw [← HLEN.out]; omega) (by simp) ?_; intro v1 w1 ho1 hgr1 hnn1)
  all_goals
    have hb1 : Below w.heap.size w w1 := (((Below.refl w.heap.size w).alloc (Nat.le_refl _) _).drew).grown hgr1.out (by simp) (by intro k hk; cases hk; exact Nat.le_refl _)
    have HC1 := Lib.hid (CoderAt.keeps h hb1)
    have HV0 := Lib.hid (hnn1 (by simp))
    have HV1 := Lib.hid (HV.out w1 (Kept.of_below hb1))
    have HBS := Lib.hid hb1.size
    have HB1 := Lib.hid hb1
    clear hnn1 hb1 hgr1
    go_wp2_with (at_builtin; go_must (refine wpList_append_bytes' w1 rfl (.tmp 36) (.tmp 37) rfl w.heap.size v1 m _ rfl ho1.out HV0.out _ l rfl HV1.out HN.out (by omega) HBS.out ?_; intro v2 w2 ho2 hgr2 hnn2; have hb2 := HB1.out.grown hgr2.out HBS.out (ownBlock_ge ho1.out); have HB2 := Lib.hid hb2; have hC2 := CoderAt.keeps h hb2; have h22 := hC2.cell2; have hf22 := hC2.frozen 2; have hC3 := HCNT.out w2 hC2; have h32 := hC3.cell2i; obtain ⟨g2, cap2, cur2, rfl, hg2, hrow2⟩ := row_some ho2.out hnn2; have HROW := Lib.hid hrow2; have HC3 := Lib.hid hC3; clear hnn2 hb2 hgr2 hrow2 hC2 hC3 ho2))
    obtain ⟨hrow, hcap2, hmax2, hcur2⟩ := HROW.out
    have hng : g2 ≠ g := by omega
    have hrow3 : ((w2.setCell ⟨g, 2, none⟩ (.int .i64 ((n : Int) + (l.length : Int)))).drew).heap[g2]? = some (.cells cur2 5 (0, 0)) := by
      rw [← hrow]
      exact heap_setCell_other w2 ⟨g, 2, none⟩ g2 _ hng
    have hcur3 : cur2.toList.take tot.length = byteVals tot := by rw [HTL.out, hcur2, HTV.out]
    have hpos : 0 < (tot.drop q).length → ∃ ad, (if cap2 = q then some (⟨g2, 0, none⟩ : Addr) else some ⟨g2, q, none⟩) = some ad ∧ ∀ j v, (byteVals (tot.drop q))[j]? = some v → ((w2.setCell ⟨g, 2, none⟩ (.int .i64 ((n : Int) + (l.length : Int)))).drew).cell? (ad.add j) = some v := by
      intro hp
      rw [List.length_drop, HTL.out] at hp
      refine ⟨⟨g2, q, none⟩, by rw [if_neg (by omega)], fun j v hj => ?_⟩
      have hjl : j < (tot.drop q).length := by
        have := (List.getElem?_eq_some_iff.1 hj).1
        simpa [byteVals] using this
      rw [List.length_drop] at hjl
      rw [addr_add, row_cell hrow3 hcur3 (q + j) (by omega), ← hj]
      simp [byteVals, List.getD_eq_getElem?_getD, List.getElem?_eq_getElem (show q + j < tot.length by omega)]
    have HPOS := Lib.hid hpos; have HR3 := Lib.hid hrow3; have HC3' := Lib.hid hcur3; have HMX := Lib.hid hmax2
    have hcl : (tot.drop q).length = m + l.length - q := by rw [List.length_drop, HTL.out]
    have HCL := Lib.hid hcl
    clear hpos hrow3 hcur3 hrow hcur2 hmax2 HROW hcl
    go_region_law (refine step_copy_coder rfl (.tmp 59) (.tmp 62) rfl (if cap2 = q then some ⟨g2, 0, none⟩ else some ⟨g2, q, none⟩) (m + l.length - q) (cap2 - q) g r0 r1 (n + l.length) (by simp [Act.eval, Act.put]) (by simp [Act.eval, Act.put]) (HC3.out.drew) (tot.drop q) HCL.out (by omega) HPOS.out (fun x hx => HTB.out x (List.mem_of_mem_drop hx)) h0 h1 ?_; intro w4 hk4 hc4)
    have hk4' : Kept g w w4 := (((Kept.of_below HB2.out).trans (Kept.setCell g 2 _ w2)).drew).trans hk4.out
    have hrow4 : w4.heap[g2]? = some (.cells cur2 5 (0, 0)) := by
      rw [hk4.out.block g2 (Array.getElem?_eq_some_iff.1 HR3.out).1 hng]
      exact HR3.out
    have he := encode_any _ _ w4 (hk4'.tab hT hg) (row_bytes hrow4 HC3'.out HTB.out (by rw [HTL.out]; exact hcap2) HMX.out q (by rw [HTL.out]; exact hq1)) (by rw [List.length_take, HTL.out]; omega)
    rw [← HS.out] at he
    have HE := Lib.hid he
    have HK4 := Lib.hid hk4'
    clear he hrow4 hk4' hk4
    go_wp2_with (go_at_call 28; go_must (refine HE.out.mono ?_; rintro e w5 ⟨rfl, hb5⟩))
    all_goals
      go_ret2
      obtain ⟨r0', r1', k1, k2, k3, k4⟩ := hc4.out
      refine ⟨rfl, HK4.out.trans (Kept.of_below hb5), r0', r1', k1.keeps hb5, k2, k3, ?_⟩
      rw [← HM2.out, show m2 = m + l.length - q by have := HQS.out; omega]
      exact k4
end Go.Proofs.YtbojodgeknjpjaaDoor
