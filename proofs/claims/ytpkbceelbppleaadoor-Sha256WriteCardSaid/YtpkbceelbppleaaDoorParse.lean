/- Parse. -/
import Derived.Test.YtpkbceelbppleaaDoorNil
import Derived.Test.YtpkbceelbppleaaDoorUnhex
import Derived.Deep.CutRange
import Derived.Deep.MidRow
namespace Go.Proofs.YtpkbceelbppleaaDoor
open Go.RowKit

theorem results_cell_tmp {fn : Func} {p u : Tmp} {ty : TypeId} {P : Program} (h : fn.results = #[.cell p ty, .tmp u]) (tmps : Array Value) (w : World) (g : Nat) (t : TypeId) (cs : Array Value) (fr : Nat × Nat) (d : TypeDesc)
    (hp : tmps.getD p undef = .pointer (some ⟨g, 0, none⟩)) (hg : w.heap[g]? = some (.cells cs t fr))
    (hd : d.isRow = true) (hu : P.underlying ty = some d) (hi : (P.info? ty).map (·.size) = some cs.size) :
    (results fn tmps).run P w = .ok (.tuple #[.agg cs, tmps.getD u undef]) w := by
  have hp' : tmps[p]?.getD undef = .pointer (some ⟨g, 0, none⟩) := by simpa using hp
  have hr := run_loadVar_mid (P := P) w g 0 ty cs.toList d (fun j v hv => by rw [Nat.zero_add, cell_of_row w g j cs t fr hg]; simpa using hv) hu hd (by simpa using hi)
  simp only [Array.toArray_toList] at hr
  simp [results, h, hp', asAddr, hr]

theorem ld_bytes {ops : Array Oper} {rest : List Oper} {o : Oper} {a : Act} {w : World} {Q : Exit → Act → World → Prop} (b off n c : Nat) (l : List Nat) (hl : l.length = 32) (h : Bytes w (.slice (some ⟨b, off, none⟩) n c) l) (hgd : o.guard = none) (x : Operand) (ho : o.op = .load 25 x)
    (hx : a.eval x = .pointer (some ⟨b, off, none⟩)) (hk : wpList Tryd.prog ops Q rest (a.put o.dst (.agg (bsC (l.map fun (y : Nat) => (y : Int))))) w) : wpList Tryd.prog ops Q (o :: rest) a w := by
  refine wpList_load_mid hgd _ x ho b off hx ((l.map fun (y : Nat) => (y : Int)).map fun z => Value.int .u8 z) _ ?_ Tryd.underlying25 rfl ?_ hk
  · intro j v hj
    obtain ⟨_, y, cc, e, _, _, _, hc⟩ := h
    cases e
    simp only [List.map_map, List.getElem?_map] at hj
    obtain ⟨z, hz, rfl⟩ := Option.map_eq_some_iff.1 hj
    have hjl : j < l.length := (List.getElem?_eq_some_iff.1 hz).1
    obtain ⟨b', off', e2, h0⟩ := hc j hjl
    cases e2
    rw [h0, List.getD_eq_getElem?_getD, hz]
    rfl
  · have := infoDg (l.map fun (y : Nat) => (y : Int)) (by simp [hl])
    rw [this, bsC_size]
    simp

set_option maxRecDepth 100000 in
set_option maxHeartbeats 1000000 in
theorem parse_long (s : ByteArray) (h : 64 < s.size) (hmax : s.size ≤ 1000) (w : World) :
    Calls Tryd.prog 23 #[.string s] w fun e w' => e = .returned (.tuple #[.agg (bsC zD), .int .i64 5]) ∧ Below w.heap.size w w' := by
  have hI : (64 : Int) < (s.size : Int) := by omega
  have hI2 : (s.size : Int) ≤ 1000 := by omega
  clear h hmax
  obtain ⟨D, hD⟩ : ∃ D, D = zD := ⟨_, rfl⟩
  have hDl : D.length = 32 := by rw [hD]; rfl
  have HDL := Lib.hid hDl; have HD := Lib.hid hD
  clear hDl hD
  go_enter Tryd.func23, Tryd.ntmps23
  go_upto_region 1 with (fail)
  generalize hW0 : w.alloc (.cells #[.int .u8 0, .int .u8 0, .int .u8 0, .int .u8 0, .int .u8 0, .int .u8 0, .int .u8 0, .int .u8 0, .int .u8 0, .int .u8 0, .int .u8 0, .int .u8 0, .int .u8 0, .int .u8 0, .int .u8 0, .int .u8 0, .int .u8 0, .int .u8 0, .int .u8 0, .int .u8 0, .int .u8 0, .int .u8 0, .int .u8 0, .int .u8 0, .int .u8 0, .int .u8 0, .int .u8 0, .int .u8 0, .int .u8 0, .int .u8 0, .int .u8 0, .int .u8 0] 25) = W0
  have hB0 : Below w.heap.size w W0 := by rw [← hW0]; exact (Below.refl _ w).alloc (Nat.le_refl _) _
  have k2 : Blk W0 w.heap.size 25 #[.int .u8 0, .int .u8 0, .int .u8 0, .int .u8 0, .int .u8 0, .int .u8 0, .int .u8 0, .int .u8 0, .int .u8 0, .int .u8 0, .int .u8 0, .int .u8 0, .int .u8 0, .int .u8 0, .int .u8 0, .int .u8 0, .int .u8 0, .int .u8 0, .int .u8 0, .int .u8 0, .int .u8 0, .int .u8 0, .int .u8 0, .int .u8 0, .int .u8 0, .int .u8 0, .int .u8 0, .int .u8 0, .int .u8 0, .int .u8 0, .int .u8 0, .int .u8 0] := by rw [← hW0]; exact Blk.fresh w _ _
  have K2 := Lib.hid k2; have B0 := Lib.hid hB0
  clear hW0 k2 hB0
  go_wp2_with (refine sto_dg _ zD rfl _ K2.out rfl (by rfl) _ _ (by rfl) (by rfl) (by rfl) ?_; intro w5 hw5)
  have hfin : Blk w5 w.heap.size 25 (bsC D) := by rw [hw5.out, HD.out]; exact K2.out.row _
  have hfB : Below w.heap.size w w5 := by rw [hw5.out]; exact below_row B0.out _ (Nat.le_refl _) _
  exact bodyPost_ret (results_cell_tmp rfl _ _ w.heap.size _ _ _ _ rfl hfin (by rfl) Tryd.underlying25 (infoDg D HDL.out)) rfl ⟨by rw [HD.out]; rfl, hfB⟩

set_option maxRecDepth 100000 in
set_option maxHeartbeats 1000000 in
theorem parse_short (s : ByteArray) (h : s.size < 64) (w : World) :
    Calls Tryd.prog 23 #[.string s] w fun e w' => e = .returned (.tuple #[.agg (bsC zD), .int .i64 4]) ∧ Below w.heap.size w w' := by
  have hI : (s.size : Int) < 64 := by omega
  have hI2 : ¬ (64 : Int) < (s.size : Int) := by omega
  clear h
  obtain ⟨D, hD⟩ : ∃ D, D = zD := ⟨_, rfl⟩
  have hDl : D.length = 32 := by rw [hD]; rfl
  have HDL := Lib.hid hDl; have HD := Lib.hid hD
  clear hDl hD
  go_enter Tryd.func23, Tryd.ntmps23
  go_upto_region 1 with (fail)
  generalize hW0 : w.alloc (.cells #[.int .u8 0, .int .u8 0, .int .u8 0, .int .u8 0, .int .u8 0, .int .u8 0, .int .u8 0, .int .u8 0, .int .u8 0, .int .u8 0, .int .u8 0, .int .u8 0, .int .u8 0, .int .u8 0, .int .u8 0, .int .u8 0, .int .u8 0, .int .u8 0, .int .u8 0, .int .u8 0, .int .u8 0, .int .u8 0, .int .u8 0, .int .u8 0, .int .u8 0, .int .u8 0, .int .u8 0, .int .u8 0, .int .u8 0, .int .u8 0, .int .u8 0, .int .u8 0] 25) = W0
  have hB0 : Below w.heap.size w W0 := by rw [← hW0]; exact (Below.refl _ w).alloc (Nat.le_refl _) _
  have k2 : Blk W0 w.heap.size 25 #[.int .u8 0, .int .u8 0, .int .u8 0, .int .u8 0, .int .u8 0, .int .u8 0, .int .u8 0, .int .u8 0, .int .u8 0, .int .u8 0, .int .u8 0, .int .u8 0, .int .u8 0, .int .u8 0, .int .u8 0, .int .u8 0, .int .u8 0, .int .u8 0, .int .u8 0, .int .u8 0, .int .u8 0, .int .u8 0, .int .u8 0, .int .u8 0, .int .u8 0, .int .u8 0, .int .u8 0, .int .u8 0, .int .u8 0, .int .u8 0, .int .u8 0, .int .u8 0] := by rw [← hW0]; exact Blk.fresh w _ _
  have K2 := Lib.hid k2; have B0 := Lib.hid hB0
  clear hW0 k2 hB0
  go_wp2_with (refine sto_dg _ zD rfl _ K2.out rfl (by rfl) _ _ (by rfl) (by rfl) (by rfl) ?_; intro w5 hw5)
  have hfin : Blk w5 w.heap.size 25 (bsC D) := by rw [hw5.out, HD.out]; exact K2.out.row _
  have hfB : Below w.heap.size w w5 := by rw [hw5.out]; exact below_row B0.out _ (Nat.le_refl _) _
  exact bodyPost_ret (results_cell_tmp rfl _ _ w.heap.size _ _ _ _ rfl hfin (by rfl) Tryd.underlying25 (infoDg D HDL.out)) rfl ⟨by rw [HD.out]; rfl, hfB⟩

set_option maxRecDepth 100000 in
set_option maxHeartbeats 1000000 in
theorem parse_none (s : ByteArray) (h : s.size = 64) (hu : Asc.unhexL s.data.toList = none) (w : World) :
    Calls Tryd.prog 23 #[.string s] w fun e w' => e = .returned (.tuple #[.agg (bsC zD), .int .i64 3]) ∧ Below w.heap.size w w' := by
  have hI : ¬ (s.size : Int) < 64 := by omega
  have hI2 : ¬ (64 : Int) < (s.size : Int) := by omega
  have HU := Lib.hid (fun w => unhex_any s w (by omega))
  rw [hu] at HU
  clear h hu
  obtain ⟨D, hD⟩ : ∃ D, D = zD := ⟨_, rfl⟩
  have hDl : D.length = 32 := by rw [hD]; rfl
  have HDL := Lib.hid hDl; have HD := Lib.hid hD
  clear hDl hD
  go_enter Tryd.func23, Tryd.ntmps23
  go_upto_region 1 with (fail)
  generalize hW0 : w.alloc (.cells #[.int .u8 0, .int .u8 0, .int .u8 0, .int .u8 0, .int .u8 0, .int .u8 0, .int .u8 0, .int .u8 0, .int .u8 0, .int .u8 0, .int .u8 0, .int .u8 0, .int .u8 0, .int .u8 0, .int .u8 0, .int .u8 0, .int .u8 0, .int .u8 0, .int .u8 0, .int .u8 0, .int .u8 0, .int .u8 0, .int .u8 0, .int .u8 0, .int .u8 0, .int .u8 0, .int .u8 0, .int .u8 0, .int .u8 0, .int .u8 0, .int .u8 0, .int .u8 0] 25) = W0
  have hB0 : Below w.heap.size w W0 := by rw [← hW0]; exact (Below.refl _ w).alloc (Nat.le_refl _) _
  have k2 : Blk W0 w.heap.size 25 #[.int .u8 0, .int .u8 0, .int .u8 0, .int .u8 0, .int .u8 0, .int .u8 0, .int .u8 0, .int .u8 0, .int .u8 0, .int .u8 0, .int .u8 0, .int .u8 0, .int .u8 0, .int .u8 0, .int .u8 0, .int .u8 0, .int .u8 0, .int .u8 0, .int .u8 0, .int .u8 0, .int .u8 0, .int .u8 0, .int .u8 0, .int .u8 0, .int .u8 0, .int .u8 0, .int .u8 0, .int .u8 0, .int .u8 0, .int .u8 0, .int .u8 0, .int .u8 0] := by rw [← hW0]; exact Blk.fresh w _ _
  have K2 := Lib.hid k2; have B0 := Lib.hid hB0
  clear hW0 k2 hB0
  go_wp2_with (first
    | (go_at_call 36; refine (HU.out _).mono ?_; rintro e w4 ⟨rfl, hb4⟩; have b4 := Lib.hid (B0.out.trans (hb4.mono B0.out.size)); have d4 := Lib.hid (K2.out.keep hb4 K2.out.lt); clear hb4)
    | (refine sto_dg _ zD rfl _ d4.out rfl (by rfl) _ _ (by rfl) (by rfl) (by rfl) ?_; intro w5 hw5))
  have hfin : Blk w5 w.heap.size 25 (bsC D) := by rw [hw5.out, HD.out]; exact d4.out.row _
  have hfB : Below w.heap.size w w5 := by rw [hw5.out]; exact below_row b4.out _ (Nat.le_refl _) _
  exact bodyPost_ret (results_cell_tmp rfl _ _ w.heap.size _ _ _ _ rfl hfin (by rfl) Tryd.underlying25 (infoDg D HDL.out)) rfl ⟨by rw [HD.out]; rfl, hfB⟩

set_option maxRecDepth 100000 in
set_option maxHeartbeats 1000000 in
theorem parse_some (s : ByteArray) (h : s.size = 64) (l : List Nat) (hl : l.length = 32) (hu : Asc.unhexL s.data.toList = some l) (w : World) :
    Calls Tryd.prog 23 #[.string s] w fun e w' => e = .returned (.tuple #[.agg (bsC (l.map fun (y : Nat) => (y : Int))), .int .i64 0]) ∧ Below w.heap.size w w' := by
  have hI : ¬ (s.size : Int) < 64 := by omega
  have hI2 : ¬ (64 : Int) < (s.size : Int) := by omega
  have HU := Lib.hid (fun w => unhex_any s w (by omega))
  rw [hu] at HU
  have HL := Lib.hid hl
  clear h hu hl
  obtain ⟨D, hD⟩ : ∃ D, D = l.map fun (y : Nat) => (y : Int) := ⟨_, rfl⟩
  have hDl : D.length = 32 := by rw [hD]; simp [HL.out]
  have HDL := Lib.hid hDl; have HD := Lib.hid hD
  clear hDl hD
  go_enter Tryd.func23, Tryd.ntmps23
  go_upto_region 1 with (fail)
  generalize hW0 : w.alloc (.cells #[.int .u8 0, .int .u8 0, .int .u8 0, .int .u8 0, .int .u8 0, .int .u8 0, .int .u8 0, .int .u8 0, .int .u8 0, .int .u8 0, .int .u8 0, .int .u8 0, .int .u8 0, .int .u8 0, .int .u8 0, .int .u8 0, .int .u8 0, .int .u8 0, .int .u8 0, .int .u8 0, .int .u8 0, .int .u8 0, .int .u8 0, .int .u8 0, .int .u8 0, .int .u8 0, .int .u8 0, .int .u8 0, .int .u8 0, .int .u8 0, .int .u8 0, .int .u8 0] 25) = W0
  have hB0 : Below w.heap.size w W0 := by rw [← hW0]; exact (Below.refl _ w).alloc (Nat.le_refl _) _
  have k2 : Blk W0 w.heap.size 25 #[.int .u8 0, .int .u8 0, .int .u8 0, .int .u8 0, .int .u8 0, .int .u8 0, .int .u8 0, .int .u8 0, .int .u8 0, .int .u8 0, .int .u8 0, .int .u8 0, .int .u8 0, .int .u8 0, .int .u8 0, .int .u8 0, .int .u8 0, .int .u8 0, .int .u8 0, .int .u8 0, .int .u8 0, .int .u8 0, .int .u8 0, .int .u8 0, .int .u8 0, .int .u8 0, .int .u8 0, .int .u8 0, .int .u8 0, .int .u8 0, .int .u8 0, .int .u8 0] := by rw [← hW0]; exact Blk.fresh w _ _
  have K2 := Lib.hid k2; have B0 := Lib.hid hB0
  clear hW0 k2 hB0
  go_wp2_with fail
  refine (HU.out _).mono ?_
  rintro e w4 ⟨v, rfl, hby, hb4⟩
  have b4 := Lib.hid (B0.out.trans (hb4.mono B0.out.size))
  have d4 := Lib.hid (K2.out.keep hb4 K2.out.lt)
  have HBY := Lib.hid hby
  obtain ⟨_, x, cc, rfl, _, _, _, hc⟩ := hby
  obtain ⟨b, off, rfl, _⟩ := hc 0 (by rw [HL.out]; omega)
  have hlen := HL.out
  rw [hlen] at HBY ⊢
  clear hb4 hc hlen
  have harr : ∀ w, (Instr.arrayAt 25 (.slice (some ⟨b, off, none⟩) 32 cc)).run Tryd.prog w = .ok (.pointer (some ⟨b, off, none⟩)) w := fun w => by simp [Instr.arrayAt, run_underlying Tryd.underlying25]
  go_upto_region 8 with (fail)
  go_wp2_with (first
    | (refine ld_bytes b off 32 _ l HL.out HBY.out (by rfl) _ (by rfl) (by rfl) ?_)
    | (refine sto_dg _ (l.map fun (y : Nat) => (y : Int)) (by simp [HL.out]) _ d4.out rfl (by rfl) _ _ (by rfl) (by rfl) (by rfl) ?_; intro w5 hw5))
  have hfin : Blk w5 w.heap.size 25 (bsC D) := by rw [hw5.out, HD.out]; exact d4.out.row _
  have hfB : Below w.heap.size w w5 := by rw [hw5.out]; exact below_row b4.out _ (Nat.le_refl _) _
  exact bodyPost_ret (results_cell_tmp rfl _ _ w.heap.size _ _ _ _ rfl hfin (by rfl) Tryd.underlying25 (infoDg D HDL.out)) rfl ⟨by rw [HD.out]; rfl, hfB⟩
end Go.Proofs.YtpkbceelbppleaaDoor
