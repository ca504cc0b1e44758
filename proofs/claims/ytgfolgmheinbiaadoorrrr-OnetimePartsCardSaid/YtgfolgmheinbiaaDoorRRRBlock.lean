/- The program's block: the state behind a block of sixteen words. -/
import Derived.Test.YtgfolgmheinbiaaDoorRRRWords
import Derived.Deep.CutRange
namespace Go.Proofs.YtgfolgmheinbiaaDoorRRR
open Go.RowKit

theorem stC_one (s : S5.St) : (stC s).all (·.oneCell') = true := by simp [stC, Value.oneCell']
theorem infoSt (s : S5.St) : (Tryd.prog.info? 100).map (·.size) = some (stC s).size := by rw [stC_size]; kernel_rfl
theorem infoWs (l : List Int) (h : l.length = 16) : (Tryd.prog.info? 107).map (·.size) = some (wsC l).size := by rw [wsC_size, h]; kernel_rfl
theorem wsC_16 (l : List Int) (h : l.length = 16) : (wsC l).size = 16 := by rw [wsC_size, h]

theorem rounds_c (s : S5.St) (b : Nat) (hb : b ≤ 48) (l : List Int) (hl : l.length = 16) (w : World) (hT : Tab w) :
    Calls Tryd.prog 68 #[.agg (stC s), .int .i64 b, .agg (wsC l)] w fun e w' => e = .returned (.agg (stC (S5.rnd16 S5.K s b l))) ∧ Below w.heap.size w w' :=
  rounds_any s b hb l hl w hT
theorem plus_c (s v : S5.St) (w : World) : Calls Tryd.prog 70 #[.agg (stC s), .agg (stC v)] w fun e w' => e = .returned (.agg (stC (S5.plus s v))) ∧ Below w.heap.size w w' := plus_any s v w

/-! loads and stores of whole states and rows of words -/
theorem ld_st {ops : Array Oper} {rest : List Oper} {o : Oper} {a : Act} {w : World} {Q : Exit → Act → World → Prop} (g : Nat) (s : S5.St) (h : Blk w g 100 (stC s)) (hgd : o.guard = none) (x : Operand) (ho : o.op = .load 100 x)
    (hx : a.eval x = .pointer (some ⟨g, 0, none⟩)) (hk : wpList Tryd.prog ops Q rest (a.put o.dst (.agg (stC s))) w) : wpList Tryd.prog ops Q (o :: rest) a w :=
  wpList_load_row hgd _ x ho g hx _ _ _ _ h Tryd.underlying100 rfl (infoSt s) hk
theorem ld_ws {ops : Array Oper} {rest : List Oper} {o : Oper} {a : Act} {w : World} {Q : Exit → Act → World → Prop} (g : Nat) (l : List Int) (hl : l.length = 16) (h : Blk w g 107 (wsC l)) (hgd : o.guard = none) (x : Operand) (ho : o.op = .load 107 x)
    (hx : a.eval x = .pointer (some ⟨g, 0, none⟩)) (hk : wpList Tryd.prog ops Q rest (a.put o.dst (.agg (wsC l))) w) : wpList Tryd.prog ops Q (o :: rest) a w :=
  wpList_load_row hgd _ x ho g hx _ _ _ _ h Tryd.underlying107 rfl (infoWs l hl) hk
theorem sto_st {ops : Array Oper} {rest : List Oper} {o : Oper} {a : Act} {w : World} {Q : Exit → Act → World → Prop} (g : Nat) (s : S5.St) (old : Array Value) (h : Blk w g 100 old) (hold : old.size = 8) (hgd : o.guard = none) (x y : Operand) (ho : o.op = .store 100 x y)
    (hx : a.eval x = .pointer (some ⟨g, 0, none⟩)) (hy : a.eval y = .agg (stC s)) (hk : ∀ w', Hid (w' = w.setRow g (stC s)) → wpList Tryd.prog ops Q rest (a.put o.dst undef) w') : wpList Tryd.prog ops Q (o :: rest) a w :=
  wpList_store_row hgd _ x y ho g _ hx hy _ _ h (infoSt s) (by rw [hold, stC_size]) (stC_one s) (hk _ (Lib.hid rfl))
theorem sto_ws {ops : Array Oper} {rest : List Oper} {o : Oper} {a : Act} {w : World} {Q : Exit → Act → World → Prop} (g : Nat) (l : List Int) (hl : l.length = 16) (old : Array Value) (h : Blk w g 107 old) (hold : old.size = 16) (hgd : o.guard = none) (x y : Operand) (ho : o.op = .store 107 x y)
    (hx : a.eval x = .pointer (some ⟨g, 0, none⟩)) (hy : a.eval y = .agg (wsC l)) (hk : ∀ w', Hid (w' = w.setRow g (wsC l)) → wpList Tryd.prog ops Q rest (a.put o.dst undef) w') : wpList Tryd.prog ops Q (o :: rest) a w :=
  wpList_store_row hgd _ x y ho g _ hx hy _ _ h (infoWs l hl) (by rw [hold, wsC_16 l hl]) (wsC_one l) (hk _ (Lib.hid rfl))

set_option maxRecDepth 100000 in
set_option maxHeartbeats 2000000 in
theorem block_any (s : S5.St) (m : List Int) (hm : m.length = 16) (w : World) (hT : Tab w) :
    Calls Tryd.prog 65 #[.agg (stC s), .agg (wsC m)] w fun e w' => e = .returned (.agg (stC (S5.blk S5.K s m))) ∧ Below w.heap.size w w' := by
  have hpos := hT.1
  go_enter Tryd.func65, Tryd.ntmps65
  go_upto_region 1 with (fail)
  generalize hW0 : ((w.alloc (.cells (stC s) 100)).alloc (.cells (wsC m) 107)).alloc (.cells #[.int .u32 0, .int .u32 0, .int .u32 0, .int .u32 0, .int .u32 0, .int .u32 0, .int .u32 0, .int .u32 0] 100) = W0
  have hB0 : Below w.heap.size w W0 := by rw [← hW0]; exact (((Below.refl _ w).alloc (Nat.le_refl _) _).alloc (by simp) _).alloc (by simp; omega) _
  have hS0 : W0.heap.size = w.heap.size + 3 := by rw [← hW0]; simp
  have k1 : Blk W0 w.heap.size 100 (stC s) := by rw [← hW0]; exact ((Blk.fresh w _ _).more _).more _
  have k2 : Blk W0 (w.heap.size + 1) 107 (wsC m) := by rw [← hW0]; have := (Blk.fresh (w.alloc (.cells (stC s) 100)) 107 (wsC m)).more (.cells #[.int .u32 0, .int .u32 0, .int .u32 0, .int .u32 0, .int .u32 0, .int .u32 0, .int .u32 0, .int .u32 0] 100); simpa using this
  have k3 : Blk W0 (w.heap.size + 1 + 1) 100 #[.int .u32 0, .int .u32 0, .int .u32 0, .int .u32 0, .int .u32 0, .int .u32 0, .int .u32 0, .int .u32 0] := by rw [← hW0]; have := Blk.fresh ((w.alloc (.cells (stC s) 100)).alloc (.cells (wsC m) 107)) 100 #[.int .u32 0, .int .u32 0, .int .u32 0, .int .u32 0, .int .u32 0, .int .u32 0, .int .u32 0, .int .u32 0]; simpa using this
  have K1 := Lib.hid k1; have K2 := Lib.hid k2; have K3 := Lib.hid k3; have S0 := Lib.hid hS0; have B0 := Lib.hid hB0
  have T0 := Lib.hid (hT.below hB0 hpos)
  clear hW0 hB0 hS0 k1 k2 k3
  have hT0 := T0.out
  go_wp2_with (first | (refine ld_st _ _ K1.out (by rfl) _ (by rfl) (by rfl) ?_) | (refine ld_ws _ _ hm K2.out (by rfl) _ (by rfl) (by rfl) ?_) | (go_at_call 68; refine (rounds_c s 0 (by omega) m hm _ hT0).mono ?_; rintro e w1 ⟨rfl, hb1⟩) | (refine sto_st _ _ _ (Blk.fresh w1 _ _) rfl (by rfl) _ _ (by rfl) (by rfl) (by rfl) ?_; intro w2 hw2))
  have hsz1 : w.heap.size + 3 ≤ w1.heap.size := by have := hb1.size; have := S0.out; omega
  obtain ⟨g, hg⟩ : ∃ g, g = w1.heap.size := ⟨_, rfl⟩
  have hgn : w.heap.size + 3 ≤ g := by omega
  have q1 : Blk w2 w.heap.size 100 (stC s) := by rw [hw2.out]; exact ((K1.out.keep hb1 K1.out.lt).more _).far (by omega) _
  have q2 : Blk w2 (w.heap.size + 1) 107 (wsC (S5.seg m 0)) := by rw [hw2.out, S5.seg_zero m hm]; exact ((K2.out.keep hb1 K2.out.lt).more _).far (by omega) _
  have q3 : Blk w2 (w.heap.size + 1 + 1) 100 #[.int .u32 0, .int .u32 0, .int .u32 0, .int .u32 0, .int .u32 0, .int .u32 0, .int .u32 0, .int .u32 0] := by rw [hw2.out]; exact ((K3.out.keep hb1 K3.out.lt).more _).far (by omega) _
  have q4 : Blk w2 g 100 (stC (S5.rnd S5.K (S5.W m) s (16 * 1))) := by
    rw [hw2.out, hg, ← S5.rnd_first S5.K m hm s]
    have := (Blk.fresh w1 100 #[.int .u32 0, .int .u32 0, .int .u32 0, .int .u32 0, .int .u32 0, .int .u32 0, .int .u32 0, .int .u32 0]).row (stC (S5.rnd16 S5.K s 0 m))
    exact this
  have qB : Below w.heap.size w w2 := by
    rw [hw2.out]
    exact below_row ((B0.out.trans (hb1.mono (by have := S0.out; omega))).alloc (by omega) _) _ (by omega) _
  rw [← hg]
  clear hw2 hb1 hT0 K1 K2 K3 T0 B0 hsz1 hg
  go_loopw [6] (fun vv wr => ∃ j c : Nat, vv = .int .i64 c ∧ Hid (c = 16 * j) ∧ 1 ≤ j ∧ j ≤ 4 ∧ Blk wr w.heap.size 100 (stC s) ∧ Blk wr (w.heap.size + 1) 107 (wsC (S5.seg m (j - 1))) ∧ Blk wr (w.heap.size + 1 + 1) 100 #[.int .u32 0, .int .u32 0, .int .u32 0, .int .u32 0, .int .u32 0, .int .u32 0, .int .u32 0, .int .u32 0] ∧ Blk wr g 100 (stC (S5.rnd S5.K (S5.W m) s (16 * j))) ∧ Below w.heap.size w wr) (fun vv _ => 64 - (intOf vv).toNat)
  case atStart => exact ⟨1, 16, rfl, Lib.hid rfl, Nat.le_refl _, by omega, q1, q2, q3, q4, qB⟩
  case round =>
    clear q1 q2 q3 q4 qB
    obtain ⟨j, c, rfl, hc, hj1, hj4, k1, k2, k3, k4, kB⟩ := hrel
    have K1 := Lib.hid k1; have K2 := Lib.hid k2; have K3 := Lib.hid k3; have K4 := Lib.hid k4; have BEL := Lib.hid kB
    have hgz := k4.lt
    clear k1 k2 k3 k4 kB
    by_cases hlt : j < 4
    · have hcI : (c : Int) < 64 := by have := hc.out; omega
      have hc48 : c ≤ 48 := by have := hc.out; omega
      obtain ⟨L, hL⟩ : ∃ L, L = S5.seg m (j - 1) := ⟨_, rfl⟩
      obtain ⟨L2, hL2⟩ : ∃ L2, L2 = S5.expN L 16 := ⟨_, rfl⟩
      have hLl : L.length = 16 := by rw [hL]; exact S5.seg_len m _
      have hL2l : L2.length = 16 := by rw [hL2, S5.expN_len]; exact hLl
      have hL2s : L2 = S5.seg m j := by rw [hL2, hL, S5.exp_seg m hm, show j - 1 + 1 = j by omega]
      obtain ⟨S, hS⟩ : ∃ S, S = S5.rnd S5.K (S5.W m) s (16 * j) := ⟨_, rfl⟩
      have hnext : S5.rnd16 S5.K S c L2 = S5.rnd S5.K (S5.W m) s (16 * (j + 1)) := by rw [hS, hc.out, hL2s, S5.rnd_seg]
      rw [← hL] at K2
      rw [← hS] at K4
      have HE := Lib.hid (fun w => expand_any L hLl w)
      rw [← hL2] at HE
      have HLL := Lib.hid hLl; have HL2L := Lib.hid hL2l; have HL2S := Lib.hid hL2s; have HNX := Lib.hid hnext
      clear hL hL2 hLl hL2l hL2s hS hnext
      go_wp2_with (first
        | (refine ld_ws _ _ HLL.out K2.out (by rfl) _ (by rfl) (by rfl) ?_)
        | (go_at_call 69; refine (HE.out _).mono ?_; rintro e w3 ⟨rfl, hb3⟩; have f1 := Lib.hid (K1.out.keep hb3 K1.out.lt); have f2 := Lib.hid (K2.out.keep hb3 K2.out.lt); have f3 := Lib.hid (K3.out.keep hb3 K3.out.lt); have f4 := Lib.hid (K4.out.keep hb3 K4.out.lt); have fB := Lib.hid (BEL.out.trans (hb3.mono BEL.out.size)); clear hb3)
        | (refine sto_ws _ L2 HL2L.out _ f2.out (wsC_16 _ HLL.out) (by rfl) _ _ (by rfl) (by rfl) (by rfl) ?_; intro w4 hw4; have g1 := Lib.hid (show Blk w4 w.heap.size 100 (stC s) by rw [hw4.out]; exact f1.out.far (by omega) _); have g2 := Lib.hid (show Blk w4 (w.heap.size + 1) 107 (wsC L2) by rw [hw4.out]; exact f2.out.row _); have g3 := Lib.hid (show Blk w4 (w.heap.size + 1 + 1) 100 #[.int .u32 0, .int .u32 0, .int .u32 0, .int .u32 0, .int .u32 0, .int .u32 0, .int .u32 0, .int .u32 0] by rw [hw4.out]; exact f3.out.far (by omega) _); have g4 := Lib.hid (show Blk w4 g 100 (stC S) by rw [hw4.out]; exact f4.out.far (by omega) _); have gB := Lib.hid (show Below w.heap.size w w4 by rw [hw4.out]; exact below_row fB.out _ (by omega) _); clear hw4 f1 f2 f3 f4 fB)
        | (refine ld_st _ _ g4.out (by rfl) _ (by rfl) (by rfl) ?_)
        | (refine ld_ws _ _ HL2L.out g2.out (by rfl) _ (by rfl) (by rfl) ?_)
        | (go_at_call 68; refine (rounds_c S c hc48 L2 HL2L.out _ (hT.below gB.out hpos)).mono ?_; rintro e w5 ⟨rfl, hb5⟩; have f1 := Lib.hid (g1.out.keep hb5 g1.out.lt); have f2 := Lib.hid (g2.out.keep hb5 g2.out.lt); have f3 := Lib.hid (g3.out.keep hb5 g3.out.lt); have f4 := Lib.hid (g4.out.keep hb5 g4.out.lt); have fB := Lib.hid (gB.out.trans (hb5.mono gB.out.size)); clear hb5)
        | (refine sto_st _ (S5.rnd16 S5.K S c L2) _ f4.out rfl (by rfl) _ _ (by rfl) (by rfl) (by rfl) ?_; intro w6 hw6))
      go_roundw
      case rel =>
        refine ⟨j + 1, c + 16, by go_num, Lib.hid (by have := hc.out; omega), by omega, by omega, ?_, ?_, ?_, ?_, ?_⟩
        · rw [hw6.out]; exact f1.out.far (by omega) _
        · rw [hw6.out, Nat.add_sub_cancel, ← HL2S.out]; exact f2.out.far (by omega) _
        · rw [hw6.out]; exact f3.out.far (by omega) _
        · rw [hw6.out, ← HNX.out]; exact f4.out.row _
        · rw [hw6.out]; exact below_row fB.out _ (by omega) _
      case measure => simp [intOf]; have := hc.out; omega
    · obtain rfl : j = 4 := by omega
      have hcI : ¬ (c : Int) < 64 := by have := hc.out; omega
      have hres : S5.plus s (S5.rnd S5.K (S5.W m) s (16 * 4)) = S5.blk S5.K s m := by unfold S5.blk; rw [show 16 * 4 = 64 by decide]
      obtain ⟨S, hS⟩ : ∃ S, S = S5.rnd S5.K (S5.W m) s (16 * 4) := ⟨_, rfl⟩
      rw [← hS] at K4 hres
      have HRES := Lib.hid hres
      clear hS hres
      go_wp2_with (first
        | (refine ld_st _ _ K1.out (by rfl) _ (by rfl) (by rfl) ?_)
        | (refine ld_st _ _ K4.out (by rfl) _ (by rfl) (by rfl) ?_)
        | (go_at_call 70; refine (plus_c s S _).mono ?_; rintro e w3 ⟨rfl, hb3⟩; have f3 := Lib.hid (K3.out.keep hb3 K3.out.lt); have fB := Lib.hid (BEL.out.trans (hb3.mono BEL.out.size)); clear hb3)
        | (refine sto_st _ (S5.plus s S) _ f3.out rfl (by rfl) _ _ (by rfl) (by rfl) (by rfl) ?_; intro w6 hw6))
      have hfin : Blk w6 (w.heap.size + 1 + 1) 100 (stC (S5.plus s S)) := by rw [hw6.out]; exact f3.out.row _
      have hfB : Below w.heap.size w w6 := by rw [hw6.out]; exact below_row fB.out _ (by omega) _
      exact bodyPost_ret (results_cell_row rfl _ _ (w.heap.size + 1 + 1) _ _ _ _ rfl hfin Tryd.underlying100 rfl (infoSt _)) rfl ⟨by rw [HRES.out], hfB⟩
end Go.Proofs.YtgfolgmheinbiaaDoorRRR
