/- SumHalf. -/
import Derived.Test.YtgfolgmheinbiaaDoorRRRRefSum
import Derived.Deep.CutRange
import Derived.Test.YtgfolgmheinbiaaDoorRRRCopy
import Derived.Deep.MidRow
namespace S5
theorem b4_range (w : Int) : ∀ x ∈ b4 w, 0 ≤ x ∧ x < 256 := by
  intro x hx
  simp only [b4, List.mem_cons, List.not_mem_nil, or_false] at hx
  rcases hx with rfl | rfl | rfl | rfl <;> omega
theorem sha_nat (l : List Nat) : ∃ d : List Nat, sha K l = d.map (fun (x : Nat) => (x : Int)) ∧ d.length = 32 ∧ ∀ x ∈ d, x < 256 := by
  have h : ∀ x ∈ sha K l, 0 ≤ x ∧ x < 256 := by
    intro x hx
    unfold sha digest at hx
    obtain ⟨w, _, hw⟩ := List.mem_flatMap.1 hx
    exact b4_range w x hw
  refine ⟨(sha K l).map Int.toNat, ?_, ?_, ?_⟩
  · rw [List.map_map]
    conv => lhs; rw [← List.map_id (sha K l)]
    apply List.map_congr_left
    intro x hx
    have := h x hx
    simp
    omega
  · rw [List.length_map]; exact digest_len _
  · intro x hx
    obtain ⟨y, hy, rfl⟩ := List.mem_map.1 hx
    have := h y hy
    omega
end S5
namespace Go.Proofs.YtgfolgmheinbiaaDoorRRR
open Go.RowKit

theorem ld_bs {ops : Array Oper} {rest : List Oper} {o : Oper} {a : Act} {w : World} {Q : Exit → Act → World → Prop} {T : TypeId} {n : Nat} (hu : Tryd.prog.underlying T = some (.array n 5)) (hi : (Tryd.prog.info? T).map (·.size) = some n) (g : Nat) (l : List Int) (hl : l.length = n) (h : Blk w g T (bsC l)) (hgd : o.guard = none) (x : Operand) (ho : o.op = .load T x)
    (hx : a.eval x = .pointer (some ⟨g, 0, none⟩)) (hk : wpList Tryd.prog ops Q rest (a.put o.dst (.agg (bsC l))) w) : wpList Tryd.prog ops Q (o :: rest) a w :=
  wpList_load_row hgd _ x ho g hx _ _ _ _ h hu rfl (by rw [bsC_size, hl]; exact hi) hk
theorem ld_bs_g {ops : Array Oper} {rest : List Oper} {o : Oper} {a : Act} {w : World} {Q : Exit → Act → World → Prop} {T : TypeId} {n : Nat} (hu : Tryd.prog.underlying T = some (.array n 5)) (hi : (Tryd.prog.info? T).map (·.size) = some n) (g : Nat) (l : List Int) (hl : l.length = n) (h : Blk w g T (bsC l)) (hw : Region.wanted o (yielded ops a.tmps) = true) (x : Operand) (ho : o.op = .load T x)
    (hx : a.eval x = .pointer (some ⟨g, 0, none⟩)) (hk : wpList Tryd.prog ops Q rest (a.put o.dst (.agg (bsC l))) w) : wpList Tryd.prog ops Q (o :: rest) a w :=
  wpList_step fun K hK => by
    simp only [hw, if_true]
    exact wp_load_row _ x ho g hx _ _ _ _ h hu rfl (by rw [bsC_size, hl]; exact hi) (hK _ _ hk)
theorem step_bs {ops : Array Oper} {o : Oper} {a : Act} {w : World} {K : Act → World → Prop} {Q : Exit → Act → World → Prop} {E : Prop} {T : TypeId} {n : Nat} (hu : Tryd.prog.underlying T = some (.array n 5)) (hi : (Tryd.prog.info? T).map (·.size) = some n) (g : Nat) (l : List Int) (hl : l.length = n) (h : Blk w g T (bsC l)) (hw : Region.wanted o (yielded ops a.tmps) = true) (x : Operand) (ho : o.op = .load T x)
    (hx : a.eval x = .pointer (some ⟨g, 0, none⟩)) (hk : K (a.put o.dst (.agg (bsC l))) w) : if Region.wanted o (yielded ops a.tmps) = true then Oper.wp Tryd.prog o a w K Q else E := by
  rw [if_pos hw]
  exact wp_load_row _ x ho g hx _ _ _ _ h hu rfl (by rw [bsC_size, hl]; exact hi) hk
theorem sto_bs {ops : Array Oper} {rest : List Oper} {o : Oper} {a : Act} {w : World} {Q : Exit → Act → World → Prop} {T : TypeId} {n : Nat} (hi : (Tryd.prog.info? T).map (·.size) = some n) (g : Nat) (l : List Int) (hl : l.length = n) (old : Array Value) (h : Blk w g T old) (hold : old.size = n) (hgd : o.guard = none) (x y : Operand) (ho : o.op = .store T x y)
    (hx : a.eval x = .pointer (some ⟨g, 0, none⟩)) (hy : a.eval y = .agg (bsC l)) (hk : ∀ w', Hid (w' = w.setRow g (bsC l)) → wpList Tryd.prog ops Q rest (a.put o.dst undef) w') : wpList Tryd.prog ops Q (o :: rest) a w :=
  wpList_store_row hgd _ x y ho g _ hx hy _ _ h (by rw [bsC_size, hl]; exact hi) (by rw [hold, bsC_size, hl]) (bsC_one l) (hk _ (Lib.hid rfl))

theorem infoH : (Tryd.prog.info? 86).map (·.size) = some 16 := by kernel_rfl
theorem info16u : (Tryd.prog.info? 22).map (·.size) = some 16 := by kernel_rfl
theorem info32u : (Tryd.prog.info? 31).map (·.size) = some 32 := by kernel_rfl
theorem infoDig : (Tryd.prog.info? 90).map (·.size) = some 32 := by kernel_rfl
def z16 : List Int := List.replicate 16 0
theorem z16_len : z16.length = 16 := by decide

theorem ld_front {ops : Array Oper} {rest : List Oper} {o : Oper} {a : Act} {w : World} {Q : Exit → Act → World → Prop} (g : Nat) (t : TypeId) (l : List Int) (hl : l.length = 32) (h : Blk w g t (bsC l)) (hgd : o.guard = none) (x : Operand) (ho : o.op = .load 86 x)
    (hx : a.eval x = .pointer (some ⟨g, 0, none⟩)) (hk : wpList Tryd.prog ops Q rest (a.put o.dst (.agg (bsC (l.take 16)))) w) : wpList Tryd.prog ops Q (o :: rest) a w := by
  refine wpList_load_mid hgd _ x ho g 0 hx ((l.take 16).map fun z => Value.int .u8 z) _ ?_ Tryd.underlying86 rfl ?_ hk
  · intro j v hj
    simp only [List.getElem?_map] at hj
    obtain ⟨z, hz, rfl⟩ := Option.map_eq_some_iff.1 hj
    have hj16 : j < 16 := by
      have := (List.getElem?_eq_some_iff.1 hz).1
      simp at this
      omega
    rw [Nat.zero_add, h.cell, bsC_get l j (by omega)]
    rw [List.getElem?_take_of_lt hj16] at hz
    rw [List.getD_eq_getElem?_getD, hz]
    rfl
  · rw [infoH]
    simp [hl]

set_option maxRecDepth 100000 in
set_option maxHeartbeats 1000000 in
theorem sumHalf_any (v : Value) (l : List Nat) (hn : l.length ≤ 1000000000) (w : World) (hT : Tab w) (hv : Bytes w v l) :
    Calls Tryd.prog 52 #[v] w fun e w' => e = .returned (.agg (bsC ((S5.sha S5.K l).take 16))) ∧ Below w.heap.size w w' := by
  have hp := hT.1
  have HV := Lib.hid hv
  obtain ⟨D, hD⟩ : ∃ D, D = S5.sha S5.K l := ⟨_, rfl⟩
  have HS := Lib.hid (fun w hT hv => sum_any v l hn w hT hv)
  rw [← hD] at HS
  have HDL := Lib.hid (show D.length = 32 by rw [hD]; exact sha_len l)
  have HTL := Lib.hid (show (D.take 16).length = 16 by rw [List.length_take, HDL.out]; rfl)
  have HD := Lib.hid hD
  clear hD hv
  go_enter Tryd.func52, Tryd.ntmps52
  go_upto_region 1 with (fail)
  change Code.wp Tryd.prog _ _ _ (w.alloc (.cells (bsC z16) 86))
  generalize hW0 : w.alloc (.cells (bsC z16) 86) = W0
  have B0 := Lib.hid (show Below w.heap.size w W0 by rw [← hW0]; exact (Below.refl _ w).alloc (Nat.le_refl _) _)
  have R0 := Lib.hid (show Blk W0 w.heap.size 86 (bsC z16) by rw [← hW0]; exact Blk.fresh w _ _)
  clear hW0
  go_upto_region 2 with (first
    | (go_at_call 57; refine (HS.out _ (hT.below B0.out hp) (HV.out.below B0.out)).mono ?_; rintro e w1 ⟨rfl, hb1⟩; have B1 := Lib.hid (B0.out.trans (hb1.mono B0.out.size)); have R1 := Lib.hid (R0.out.keep hb1 R0.out.lt); clear hb1)
    | (refine sto_dg _ D HDL.out _ (Blk.fresh w1 _ _) rfl (by rfl) _ _ (by rfl) (by rfl) (by rfl) ?_; intro w2 hw2; have K2 := Lib.hid (show Blk w2 w1.heap.size 90 (bsC D) by rw [hw2.out]; exact (Blk.fresh w1 _ _).row _); have R2 := Lib.hid (show Blk w2 w.heap.size 86 (bsC z16) by rw [hw2.out]; exact (R1.out.more _).far (by have := R1.out.lt; omega) _); have B2 := Lib.hid (show Below w.heap.size w w2 by rw [hw2.out]; exact below_row (B1.out.alloc B1.out.size _) _ B1.out.size _); clear hw2))
  generalize w1.heap.size = g at *
  have harr : ∀ w, (Instr.arrayAt 86 (.slice (some ⟨g, 0, none⟩) 16 32)).run Tryd.prog w = .ok (.pointer (some ⟨g, 0, none⟩)) w := fun w => by simp [Instr.arrayAt, run_underlying Tryd.underlying86]
  go_wp2_with (first
    | (refine ld_front _ _ D HDL.out K2.out (by rfl) _ (by rfl) (by rfl) ?_)
    | (refine sto_bs infoH _ (D.take 16) HTL.out _ R2.out (by rw [bsC_size]; exact z16_len) (by rfl) _ _ (by rfl) (by rfl) (by rfl) ?_; intro w3 hw3))
  have hf : Blk w3 w.heap.size 86 (bsC (D.take 16)) := by rw [hw3.out]; exact R2.out.row _
  have hfB : Below w.heap.size w w3 := by rw [hw3.out]; exact below_row B2.out _ (Nat.le_refl _) _
  exact bodyPost_ret (results_cell_row rfl _ _ w.heap.size _ _ _ _ rfl hf Tryd.underlying86 rfl (by rw [bsC_size, HTL.out]; exact infoH)) rfl ⟨by rw [HD.out], hfB⟩

end Go.Proofs.YtgfolgmheinbiaaDoorRRR
