/- The Decoder: its cells, and what NewDecoder, Pending, Close and Write do with them; the reference's Write. -/
import Derived.Test.YtbjhomihmlijiaaDoorMem
import Derived.Test.YtbjhomihmlijiaaDoorTrunc
import Derived.Test.YtbjhomihmlijiaaDoorWhole
import Derived.RegionTactic
import Derived.ChangeAlike
namespace Go.Proofs.YtbjhomihmlijiaaDoor
open Go.RowKit

def DecAt (w : World) (g : Nat) (p : ByteArray) (c : Bool) : Prop := w.heap[g]? = some (.cells #[.string p, .bool c] 77 (0, 0))

theorem DecAt.cell0 {w : World} {g : Nat} {p : ByteArray} {c : Bool} (h : DecAt w g p c) : w.cell? ⟨g, 0, none⟩ = some (.string p) := by rw [Lib.cell_of_heap h]; rfl
theorem DecAt.cell1 {w : World} {g : Nat} {p : ByteArray} {c : Bool} (h : DecAt w g p c) : w.cell? ⟨g, 1, none⟩ = some (.bool c) := by rw [Lib.cell_of_heap h]; rfl
theorem DecAt.frozen {w : World} {g : Nat} {p : ByteArray} {c : Bool} (h : DecAt w g p c) (j : Nat) : w.frozen? ⟨g, j, none⟩ = false := frozen_of_row w g j _ _ h
theorem DecAt.lt {w : World} {g : Nat} {p : ByteArray} {c : Bool} (h : DecAt w g p c) : g < w.heap.size := (Array.getElem?_eq_some_iff.1 h).1
theorem DecAt.below {w w' : World} {g : Nat} {p : ByteArray} {c : Bool} (h : DecAt w g p c) (hb : Below w.heap.size w w') : DecAt w' g p c := by
  unfold DecAt at h ⊢
  rw [hb.block g (Array.getElem?_eq_some_iff.1 h).1]
  exact h
theorem DecAt.close {w : World} {g : Nat} {p : ByteArray} {c : Bool} (h : DecAt w g p c) : DecAt (w.setCell ⟨g, 1, none⟩ (.bool true)) g p true := by
  have := heap_setCell_same w g 1 _ _ (.bool true) h
  unfold DecAt
  rw [this]
  simp
theorem DecAt.hold {w : World} {g : Nat} {p : ByteArray} {c : Bool} (q : ByteArray) (h : DecAt w g p c) : DecAt (w.setCell ⟨g, 0, none⟩ (.string q)) g q c := by
  have := heap_setCell_same w g 0 _ _ (.string q) h
  unfold DecAt
  rw [this]
  simp

/-- everything that was there stays, but the decoder's own block -/
structure Kept (g : Nat) (w w' : World) : Prop where
  os : w'.os = w.os
  tape : w'.tape = w.tape
  output : w'.output = w.output
  size : w.heap.size ≤ w'.heap.size
  block : ∀ k, k < w.heap.size → k ≠ g → w'.heap[k]? = w.heap[k]?

theorem Kept.refl (g : Nat) (w : World) : Kept g w w := ⟨rfl, rfl, rfl, Nat.le_refl _, fun _ _ _ => rfl⟩
theorem Kept.of_below {g : Nat} {w w' : World} (h : Below w.heap.size w w') : Kept g w w' := ⟨h.os, h.tape, h.output, h.size, fun k hk _ => h.block k hk⟩
theorem Kept.trans {g : Nat} {w w1 w2 : World} (h : Kept g w w1) (h2 : Kept g w1 w2) : Kept g w w2 :=
  ⟨h2.os.trans h.os, h2.tape.trans h.tape, h2.output.trans h.output, Nat.le_trans h.size h2.size, fun k hk hg => (h2.block k (Nat.lt_of_lt_of_le hk h.size) hg).trans (h.block k hk hg)⟩
theorem Kept.below {g B : Nat} {w w' : World} (h : Kept g w w') (hg : B ≤ g) (hB : B ≤ w.heap.size) : Below B w w' := ⟨h.os, h.tape, h.output, h.size, fun k hk => h.block k (by omega) (by omega)⟩
theorem Kept.setCell (g o : Nat) (v : Value) (w : World) : Kept g w (w.setCell ⟨g, o, none⟩ v) :=
  ⟨rfl, rfl, rfl, Nat.le_of_eq (by simp), fun k _ hk => heap_setCell_other w ⟨g, o, none⟩ k v hk⟩

theorem decNew_any (w : World) : Calls Tryd.prog 35 #[] w fun e w' => e = .returned (.pointer (some ⟨w.heap.size, 0, none⟩)) ∧ w' = w.alloc (.cells #[.string ⟨#[]⟩, .bool false] 77) := by
  go_enter Tryd.func35, Tryd.ntmps35
  go_wp2_with fail
  go_ret
  exact ⟨rfl, rfl⟩

theorem pending_nil (w : World) : Calls Tryd.prog 33 #[.pointer none] w fun e w' => e = .returned (.int .i64 0) ∧ w = w' := by
  go_enter Tryd.func33, Tryd.ntmps33
  go_wp2_with fail
  go_ret
  exact ⟨rfl, rfl⟩
theorem pending_any (w : World) (g : Nat) (p : ByteArray) (c : Bool) (h : DecAt w g p c) : Calls Tryd.prog 33 #[.pointer (some ⟨g, 0, none⟩)] w fun e w' => e = .returned (.int .i64 p.size) ∧ w = w' := by
  have h0 := h.cell0
  go_enter Tryd.func33, Tryd.ntmps33
  go_wp2_with fail
  go_ret
  exact ⟨rfl, rfl⟩

theorem close_nil (w : World) : Calls Tryd.prog 34 #[.pointer none] w fun e w' => e = .returned (.int .i64 1) ∧ w = w' := by
  go_enter Tryd.func34, Tryd.ntmps34
  go_wp2_with fail
  go_ret
  exact ⟨rfl, rfl⟩
theorem close_shut (w : World) (g : Nat) (p : ByteArray) (h : DecAt w g p true) : Calls Tryd.prog 34 #[.pointer (some ⟨g, 0, none⟩)] w fun e w' => e = .returned (.int .i64 10) ∧ w = w' := by
  have h1 := h.cell1
  go_enter Tryd.func34, Tryd.ntmps34
  go_wp2_with fail
  go_ret
  exact ⟨rfl, rfl⟩
theorem close_rest (w : World) (g : Nat) (p : ByteArray) (h : DecAt w g p false) (hp : p.toList.isEmpty = false) : Calls Tryd.prog 34 #[.pointer (some ⟨g, 0, none⟩)] w fun e w' => e = .returned (.int .i64 23) ∧ w = w' := by
  have h1 := h.cell1
  have h0 := h.cell0
  go_enter Tryd.func34, Tryd.ntmps34
  go_wp2_with fail
  go_ret
  exact ⟨rfl, rfl⟩
theorem close_ok (w : World) (g : Nat) (h : DecAt w g ⟨#[]⟩ false) : Calls Tryd.prog 34 #[.pointer (some ⟨g, 0, none⟩)] w fun e w' => e = .returned (.int .i64 0) ∧ DecAt w' g ⟨#[]⟩ true ∧ Kept g w w' := by
  have h1 := h.cell1
  have h0 := h.cell0
  have hf := h.frozen 1
  have hc := h.close
  have hk := Kept.setCell g 1 (.bool true) w
  go_enter Tryd.func34, Tryd.ntmps34
  go_wp2_with fail
  go_ret
  exact ⟨rfl, hc, hk⟩

theorem decWrite_nil (v : Value) (w : World) : Calls Tryd.prog 32 #[.pointer none, v] w fun e w' => e = .returned (.tuple #[.string ⟨#[]⟩, .int .i64 1]) ∧ w = w' := by
  go_enter Tryd.func32, Tryd.ntmps32
  go_wp2_with fail
  go_ret2
  exact ⟨rfl, rfl⟩
theorem decWrite_shut (v : Value) (w : World) (g : Nat) (p : ByteArray) (h : DecAt w g p true) : Calls Tryd.prog 32 #[.pointer (some ⟨g, 0, none⟩), v] w fun e w' => e = .returned (.tuple #[.string ⟨#[]⟩, .int .i64 10]) ∧ w = w' := by
  have h1 := h.cell1
  go_enter Tryd.func32, Tryd.ntmps32
  go_wp2_with fail
  go_ret2
  exact ⟨rfl, rfl⟩

set_option maxHeartbeats 1000000 in
theorem decWrite_bad (w : World) (v : Value) (l : List Nat) (g : Nat) (p : ByteArray) (hT : Tab w) (h : DecAt w g p false) (hv : Bytes w v l) (x : ByteArray) (hx : p ++ strB l = x) (hmax : x.size ≤ 1000000) (a e : Nat) (hr : U8.check (bytesOf x) x.size 0 = (a, e)) (he : e ≠ 0) (he2 : e ≠ 23) :
    Calls Tryd.prog 32 #[.pointer (some ⟨g, 0, none⟩), v] w fun y w' => y = .returned (.tuple #[.string ⟨#[]⟩, .int .i64 e]) ∧ Below w.heap.size w w' := by
  have h1 := h.cell1
  have h0 := h.cell0
  have hcv := conv_bytes hv.drew
  have hTd : Tab w.drew := hT
  have hbd : Below w.heap.size w w.drew := (Below.refl _ w).drew
  have hdd : DecAt w.drew g p false := h
  have hps : (p.size : Int) + ((strB l).size : Int) ≤ 140737488355328 := by
    have : (p ++ strB l).size = p.size + (strB l).size := ByteArray.size_append
    rw [hx] at this
    omega
  obtain ⟨q, hq⟩ : ∃ q, q = strB l := ⟨_, rfl⟩
  rw [← hq] at hcv hx hps
  have HC := Lib.hid (fun w hT => check_any x w hT hmax a e hr)
  have hq1 : ((e : Int) == 0) = false := by simp; omega
  have hq2 : ((e : Int) == 23) = false := by simp; omega
  clear hr he he2 hq hmax
  go_enter Tryd.func32, Tryd.ntmps32
  go_wp2_with fail
  go_region
  go_wp2_with fail
  refine (HC.out _ hTd).mono ?_
  rintro e w1 ⟨rfl, hb1⟩
  go_wp2_with fail
  go_ret2
  exact ⟨rfl, hbd.trans hb1⟩

set_option maxHeartbeats 1000000 in
theorem decWrite_ok (w : World) (v : Value) (l : List Nat) (g : Nat) (p : ByteArray) (hT : Tab w) (h : DecAt w g p false) (hv : Bytes w v l) (x : ByteArray) (hx : p ++ strB l = x) (hmax : x.size ≤ 1000000) (a e : Nat) (hr : U8.check (bytesOf x) x.size 0 = (a, e)) (he : e = 0 ∨ e = 23) (c : Nat) (hc : c = if e = 0 then x.size else a) (hcs : c ≤ x.size)
    (t r : ByteArray) (ht : t = x.extract 0 c) (hrr : r = x.extract c x.size) :
    Calls Tryd.prog 32 #[.pointer (some ⟨g, 0, none⟩), v] w fun y w' => y = .returned (.tuple #[.string t, .int .i64 0]) ∧ DecAt w' g r false ∧ Kept g w w' := by
  have h1 := h.cell1
  have h0 := h.cell0
  have hcv := conv_bytes hv.drew
  have hTd : Tab w.drew := hT
  have hbd : Below w.heap.size w w.drew := (Below.refl _ w).drew
  have hdd : DecAt w.drew g p false := h
  have hps : (p.size : Int) + ((strB l).size : Int) ≤ 140737488355328 := by
    have : (p ++ strB l).size = p.size + (strB l).size := ByteArray.size_append
    rw [hx] at this
    omega
  obtain ⟨q, hq⟩ : ∃ q, q = strB l := ⟨_, rfl⟩
  rw [← hq] at hcv hx hps
  have HC := Lib.hid (fun w hT => check_any x w hT hmax a e hr)
  have HCL := Lib.hid (fun w => clone_any r w (by rw [hrr]; simp; omega))
  have hcI : (c : Int) ≤ (x.size : Int) := by omega
  have ht2 : x.extract 0 c = t := ht.symm
  have hr2 : x.extract c x.size = r := hrr.symm
  clear hr hq hmax
  rcases he with rfl | rfl
  · rw [if_pos rfl] at hc
    subst hc
    have hr0 : r = ByteArray.empty := by rw [hrr]; simp
    have ht0 : t = x := by rw [ht]; simp
    clear ht hrr ht2 hr2
    subst hr0 ht0
    go_enter Tryd.func32, Tryd.ntmps32
    go_wp2_with fail
    go_region
    go_wp2_with fail
    refine (HC.out _ hTd).mono ?_
    rintro e w1 ⟨rfl, hb1'⟩
    have hb1 := hbd.trans hb1'
    have hd1 := h.below hb1
    clear hb1'
    go_wp2_with fail
    refine (HCL.out _).mono ?_
    rintro e w2 ⟨rfl, hb2⟩
    have hd2 := hd1.below hb2
    have hf2 := hd2.frozen 0
    have hd3 := hd2.hold ByteArray.empty
    have hc2 := hd2.cell0
    have HK := Lib.hid (((Kept.of_below (g := g) hb1).trans (Kept.of_below hb2)).trans (Kept.setCell g 0 (.string ByteArray.empty) w2))
    have HD3 := Lib.hid hd3
    clear hd1 hd2 hd3 hb1 hb2
    go_wp2_with fail
    go_ret2
    exact ⟨rfl, HD3.out, HK.out⟩
  · rw [if_neg (by omega)] at hc
    subst hc
    clear ht hrr
    go_enter Tryd.func32, Tryd.ntmps32
    go_wp2_with fail
    go_region
    go_wp2_with fail
    refine (HC.out _ hTd).mono ?_
    rintro e w1 ⟨rfl, hb1'⟩
    have hb1 := hbd.trans hb1'
    have hd1 := h.below hb1
    clear hb1'
    go_wp2_with fail
    refine (HCL.out _).mono ?_
    rintro e w2 ⟨rfl, hb2⟩
    have hd2 := hd1.below hb2
    have hf2 := hd2.frozen 0
    have hd3 := hd2.hold r
    have hc2 := hd2.cell0
    have HK := Lib.hid (((Kept.of_below (g := g) hb1).trans (Kept.of_below hb2)).trans (Kept.setCell g 0 (.string r) w2))
    have HD3 := Lib.hid hd3
    clear hd1 hd2 hd3 hb1 hb2
    go_wp2_with fail
    go_ret2
    exact ⟨rfl, HD3.out, HK.out⟩

/-! the reference's Write -/
theorem results_tmp3' {fn : Func} {t u v : Tmp} (h : fn.results = #[.tmp t, .tmp u, .tmp v]) (tmps : Array Value) (P : Program) (w : World) :
    (results fn tmps).run P w = .ok (.tuple #[tmps.getD t undef, tmps.getD u undef, tmps.getD v undef]) w := by
  simp [results, h]

set_option maxHeartbeats 1000000 in
theorem refWrite_any (p q x : ByteArray) (hx : p ++ q = x) (w : World) (hmax : x.size ≤ 1000000) (a e : Nat) (hr : U8.check (bytesOf x) x.size 0 = (a, e)) (ha : a ≤ x.size)
    (t r : ByteArray) (e' : Nat) (ht : t = if e = 0 then x else if e = 23 then x.extract 0 a else ⟨#[]⟩) (hrr : r = if e = 0 then ⟨#[]⟩ else if e = 23 then x.extract a x.size else p) (he' : e' = if e = 0 then 0 else if e = 23 then 0 else e) :
    Calls Tryd.prog 36 #[.string p, .string q] w fun y w' => y = .returned (.tuple #[.string t, .string r, .int .i64 e']) ∧ Below w.heap.size w w' := by
  have hps : (p.size : Int) + (q.size : Int) ≤ 140737488355328 := by
    have : (p ++ q).size = p.size + q.size := ByteArray.size_append
    rw [hx] at this
    omega
  obtain ⟨⟨rs, os, at_, e0⟩, hall⟩ : ∃ z, U8.allF (bytesOf x) x.size 0 = z := ⟨_, rfl⟩
  have hch := U8.all_check (bytesOf x) (bytesOf_lt x) x.size 0
  rw [hall, hr] at hch
  simp only [Prod.mk.injEq] at hch
  obtain ⟨rfl, rfl⟩ := hch
  have HA := Lib.hid (fun w => refAll_any x w hmax rs os at_ e0 hall)
  have haI : (at_ : Int) ≤ (x.size : Int) := by omega
  clear hr hall hmax
  by_cases h0 : e0 = 0
  · subst h0
    rw [if_pos rfl] at ht hrr he'
    subst ht hrr he'
    go_enter Tryd.func36, Tryd.ntmps36
    go_wp2_with fail
    refine (HA.out _).mono ?_
    rintro e w1 ⟨v1, v2, rfl, _, _, _, hb1⟩
    go_wp2_with fail
    go_ret3
    exact ⟨rfl, hb1⟩
  · rw [if_neg h0] at ht hrr he'
    have hq1 : ((e0 : Int) == 0) = false := by simp; omega
    have hq3 : ((e0 : Int) != 0) = true := by simp; omega
    by_cases h23 : e0 = 23
    · subst h23
      rw [if_pos rfl] at ht hrr he'
      subst he'
      have ht2 := ht.symm
      have hr2 := hrr.symm
      clear ht hrr h0
      go_enter Tryd.func36, Tryd.ntmps36
      go_wp2_with fail
      refine (HA.out _).mono ?_
      rintro e w1 ⟨v1, v2, rfl, _, _, _, hb1⟩
      go_wp2_with fail
      go_region
      go_wp2_with fail
      go_ret3
      exact ⟨rfl, hb1.drew⟩
    · rw [if_neg h23] at ht hrr he'
      have hq2 : ((e0 : Int) != 23) = true := by simp; omega
      subst ht hrr he'
      clear h0 h23
      go_enter Tryd.func36, Tryd.ntmps36
      go_wp2_with fail
      refine (HA.out _).mono ?_
      rintro e w1 ⟨v1, v2, rfl, _, _, _, hb1⟩
      go_wp2_with fail
      go_ret3
      exact ⟨rfl, hb1⟩
end Go.Proofs.YtbjhomihmlijiaaDoor
