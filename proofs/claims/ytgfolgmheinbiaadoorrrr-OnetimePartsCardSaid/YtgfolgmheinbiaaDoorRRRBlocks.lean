/- The program's blocks: the state behind all complete blocks, and the bytes that follow them. -/
import Derived.Test.YtgfolgmheinbiaaDoorRRRBlock
import Derived.Deep.RegionLaw
import Derived.Laws.ResultCell
namespace Go.Proofs.YtgfolgmheinbiaaDoorRRR
open Go.RowKit

theorem cells8 {w : World} {g : Nat} {s : S5.St} (h : Blk w g 100 (stC s)) : w.cell? ⟨g, 0, none⟩ = some (.int .u32 s.a) ∧ w.cell? ⟨g, 1, none⟩ = some (.int .u32 s.b) ∧ w.cell? ⟨g, 2, none⟩ = some (.int .u32 s.c) ∧ w.cell? ⟨g, 3, none⟩ = some (.int .u32 s.d) ∧ w.cell? ⟨g, 4, none⟩ = some (.int .u32 s.e) ∧ w.cell? ⟨g, 5, none⟩ = some (.int .u32 s.f) ∧ w.cell? ⟨g, 6, none⟩ = some (.int .u32 s.g) ∧ w.cell? ⟨g, 7, none⟩ = some (.int .u32 s.h) :=
  ⟨by rw [h.cell]; rfl, by rw [h.cell]; rfl, by rw [h.cell]; rfl, by rw [h.cell]; rfl, by rw [h.cell]; rfl, by rw [h.cell]; rfl, by rw [h.cell]; rfl, by rw [h.cell]; rfl⟩
theorem free8 {w : World} {g : Nat} {cs : Array Value} (h : Blk w g 100 cs) : w.frozen? ⟨g, 0, none⟩ = false ∧ w.frozen? ⟨g, 1, none⟩ = false ∧ w.frozen? ⟨g, 2, none⟩ = false ∧ w.frozen? ⟨g, 3, none⟩ = false ∧ w.frozen? ⟨g, 4, none⟩ = false ∧ w.frozen? ⟨g, 5, none⟩ = false ∧ w.frozen? ⟨g, 6, none⟩ = false ∧ w.frozen? ⟨g, 7, none⟩ = false :=
  ⟨h.free 0, h.free 1, h.free 2, h.free 3, h.free 4, h.free 5, h.free 6, h.free 7⟩
theorem chain8 {W : World} {g : Nat} {s : S5.St} (v : S5.St) (h : Blk W g 100 (stC s)) : Blk ((((((((W.setCell ⟨g, 0, none⟩ (.int .u32 v.a)).setCell ⟨g, 1, none⟩ (.int .u32 v.b)).setCell ⟨g, 2, none⟩ (.int .u32 v.c)).setCell ⟨g, 3, none⟩ (.int .u32 v.d)).setCell ⟨g, 4, none⟩ (.int .u32 v.e)).setCell ⟨g, 5, none⟩ (.int .u32 v.f)).setCell ⟨g, 6, none⟩ (.int .u32 v.g)).setCell ⟨g, 7, none⟩ (.int .u32 v.h)) g 100 (stC v) := by
  have h := h.put 0 (.int .u32 v.a)
  have h := h.put 1 (.int .u32 v.b)
  have h := h.put 2 (.int .u32 v.c)
  have h := h.put 3 (.int .u32 v.d)
  have h := h.put 4 (.int .u32 v.e)
  have h := h.put 5 (.int .u32 v.f)
  have h := h.put 6 (.int .u32 v.g)
  have h := h.put 7 (.int .u32 v.h)
  simpa [stC] using h
theorem block_x (s : S5.St) (m : List Int) (hm : m.length = 16) (w : World) (hT : Tab w) :
    Calls Tryd.prog 65 #[.agg #[.int .u32 s.a, .int .u32 s.b, .int .u32 s.c, .int .u32 s.d, .int .u32 s.e, .int .u32 s.f, .int .u32 s.g, .int .u32 s.h], .agg (wsC m)] w fun e w' => e = .returned (stV (S5.blk S5.K s m)) ∧ Below w.heap.size w w' := block_any s m hm w hT

/-- a slice that reads as a part of what another reads as, in whatever world -/
def Part (v : Value) (l : List Nat) (v' : Value) (l' : List Nat) : Prop := ∀ W : World, Bytes W v l → Bytes W v' l'

theorem part_drop (B off n cap k : Nat) (l : List Nat) (hn : n = l.length) (hk : k ≤ n) (hc : n ≤ cap) (hck : k < cap) :
    Part (.slice (some ⟨B, off, none⟩) n cap) l (.slice (some ⟨B, off + k, none⟩) (n - k) (cap - k)) (l.drop k) := by
  subst hn
  rintro W ⟨hb, x, c, e, hl, hm, hn, hcell⟩
  cases e
  refine ⟨fun y hy => hb y (List.mem_of_mem_drop hy), some ⟨B, off + k, none⟩, cap - k, by rw [List.length_drop], by rw [List.length_drop]; omega, by omega, (fun h => by cases h), fun i hi => ⟨B, off + k, rfl, ?_⟩⟩
  rw [List.length_drop] at hi
  obtain ⟨b', o', e', h'⟩ := hcell (k + i) (by omega)
  cases e'
  rw [Nat.add_assoc, h']
  congr 2
  simp [List.getD_eq_getElem?_getD, List.getElem?_drop]

theorem part_none (B off n cap : Nat) (l : List Nat) (hn : n = l.length) (hc : cap = n) : Part (.slice (some ⟨B, off, none⟩) n cap) l (.slice (some ⟨B, off, none⟩) 0 0) (l.drop n) := by
  subst hn
  rintro W ⟨hb, x, c, e, hl, hm, hn, hcell⟩
  cases e
  refine ⟨by simp, some ⟨B, off, none⟩, 0, by simp, by simp, by omega, (fun h => by cases h), fun i hi => by simp at hi⟩

theorem results_st_tmp {fn : Func} {p u : Tmp} (h : fn.results = #[.cell p 100, .tmp u]) (tmps : Array Value) (w : World) (g : Nat) (s : S5.St)
    (hp : tmps.getD p undef = .pointer (some ⟨g, 0, none⟩)) (hg : Blk w g 100 (stC s)) :
    (results fn tmps).run Tryd.prog w = .ok (.tuple #[.agg (stC s), tmps.getD u undef]) w := by
  have hl := run_loadVar_row w g _ _ _ _ _ hg Tryd.underlying100 rfl (infoSt s)
  rw [results_cell_tmp h, hp]
  simp only [asAddr, Sem.run_pure, Result.andThen_ok, hl]

def lenOf : Value → Nat
  | .slice _ n _ => n
  | _ => 0

set_option maxRecDepth 100000 in
set_option maxHeartbeats 2000000 in
theorem blocks_any (s : S5.St) (v : Value) (l : List Nat) (w : World) (hT : Tab w) (hv : Bytes w v l) :
    Calls Tryd.prog 63 #[.agg (stC s), v] w fun e w' => ∃ v', e = .returned (.tuple #[.agg (stC (S5.runAll S5.K s l)), v']) ∧ Hid (Part v l v' (S5.tail l)) ∧ Below w.heap.size w w' := by
  have hpos := hT.1
  have HV := Lib.hid hv
  obtain ⟨_, x0, cap0, hv0, _⟩ := hv
  subst hv0
  go_enter Tryd.func63, Tryd.ntmps63
  go_upto_region 1 with (fail)
  generalize hW0 : (w.alloc (.cells (stC s) 100)).alloc (.cells #[.int .u32 0, .int .u32 0, .int .u32 0, .int .u32 0, .int .u32 0, .int .u32 0, .int .u32 0, .int .u32 0] 100) = W0
  have hB0 : Below w.heap.size w W0 := by rw [← hW0]; exact ((Below.refl _ w).alloc (Nat.le_refl _) _).alloc (by simp) _
  have k1 : Blk W0 w.heap.size 100 (stC s) := by rw [← hW0]; exact (Blk.fresh w _ _).more _
  have k2 : Blk W0 (w.heap.size + 1) 100 #[.int .u32 0, .int .u32 0, .int .u32 0, .int .u32 0, .int .u32 0, .int .u32 0, .int .u32 0, .int .u32 0] := by rw [← hW0]; have := Blk.fresh (w.alloc (.cells (stC s) 100)) 100 #[.int .u32 0, .int .u32 0, .int .u32 0, .int .u32 0, .int .u32 0, .int .u32 0, .int .u32 0, .int .u32 0]; simpa using this
  go_loopw [1] (fun vv wr => ∃ (l' : List Nat) (s' : S5.St) (x' : Option Addr) (cap' : Nat), vv = .slice x' l'.length cap' ∧ Hid (Part (.slice x0 l.length cap0) l (.slice x' l'.length cap') l') ∧ Hid (S5.runAll S5.K s l = S5.runAll S5.K s' l' ∧ S5.tail l = S5.tail l') ∧ Blk wr w.heap.size 100 (stC s') ∧ Blk wr (w.heap.size + 1) 100 #[.int .u32 0, .int .u32 0, .int .u32 0, .int .u32 0, .int .u32 0, .int .u32 0, .int .u32 0, .int .u32 0] ∧ Below w.heap.size w wr) (fun vv _ => lenOf vv)
  case atStart => exact ⟨l, s, x0, cap0, rfl, Lib.hid (fun _ h => h), Lib.hid ⟨rfl, rfl⟩, k1, k2, hB0⟩
  case round =>
    clear hW0 hB0 k1 k2
    obtain ⟨l', s', x', cap', rfl, hp, hr, k1, k2, kB⟩ := hrel
    have K1 := Lib.hid k1; have K2 := Lib.hid k2; have BEL := Lib.hid kB
    have hbr := hp.out wr (HV.out.below kB)
    have HBR := Lib.hid hbr
    clear k1 k2 kB
    by_cases hlt : 64 ≤ l'.length
    · have hltI : (64 : Int) ≤ (l'.length : Int) := by omega
      obtain ⟨_, y, c, e, hl, hm, _, hc⟩ := hbr
      cases e
      obtain ⟨B, off, hx, _⟩ := hc 0 (by omega)
      subst hx
      unfold maxLen at hm
      have hclI : (l'.length : Int) ≤ (cap' : Int) := by omega
      have hcmI : (cap' : Int) ≤ 9223372036854775807 := by omega
      have HBD := Lib.hid (show Bytes wr.drew (.slice (some ⟨B, off, none⟩) l'.length cap') l' from HBR.out.drew)
      have KD := Lib.hid K1.out.draw
      obtain ⟨S2, hS2⟩ : ∃ S2, S2 = S5.blk S5.K s' (S5.words l') := ⟨_, rfl⟩
      have HBLK := Lib.hid (fun W hT => block_x s' (S5.words l') (S5.words_len l') W hT)
      rw [← hS2] at HBLK
      unfold stV at HBLK
      have HS2 := Lib.hid hS2
      have HTd := Lib.hid (show Tab wr.drew from hT.below BEL.out.drew hpos)
      obtain ⟨a0, a1, a2, a3, a4, a5, a6, a7⟩ := cells8 KD.out
      clear hc hS2
      go_wp2_with fail
      go_region_law (first
        | (go_simp; go_at_call 66; refine (words_any _ l' hlt _ HBD.out).mono ?_; rintro e wA ⟨rfl, hbA⟩; have KA := Lib.hid (KD.out.keep hbA KD.out.lt); obtain ⟨b0, b1, b2, b3, b4, b5, b6, b7⟩ := cells8 KA.out)
        | (go_simp; go_at_call 65; refine (HBLK.out _ (HTd.out.below hbA HTd.out.1)).mono ?_; rintro e wC ⟨rfl, hbC⟩; have KC := Lib.hid (KA.out.keep hbC KA.out.lt); obtain ⟨d0, d1, d2, d3, d4, d5, d6, d7⟩ := cells8 KC.out; obtain ⟨f0, f1, f2, f3, f4, f5, f6, f7⟩ := free8 KC.out))
      all_goals
        generalize hwD : ((((((((wC.setCell ⟨w.heap.size, 0, none⟩ (.int .u32 S2.a)).setCell ⟨w.heap.size, 1, none⟩ (.int .u32 S2.b)).setCell ⟨w.heap.size, 2, none⟩ (.int .u32 S2.c)).setCell ⟨w.heap.size, 3, none⟩ (.int .u32 S2.d)).setCell ⟨w.heap.size, 4, none⟩ (.int .u32 S2.e)).setCell ⟨w.heap.size, 5, none⟩ (.int .u32 S2.f)).setCell ⟨w.heap.size, 6, none⟩ (.int .u32 S2.g)).setCell ⟨w.heap.size, 7, none⟩ (.int .u32 S2.h)) = wD
        have kD1 : Blk wD w.heap.size 100 (stC S2) := by rw [← hwD]; exact chain8 S2 KC.out
        have kC2 : Blk wC (w.heap.size + 1) 100 #[.int .u32 0, .int .u32 0, .int .u32 0, .int .u32 0, .int .u32 0, .int .u32 0, .int .u32 0, .int .u32 0] := (K2.out.draw.keep hbA K2.out.lt).keep hbC (Nat.lt_of_lt_of_le K2.out.lt hbA.size)
        have kD2 : Blk wD (w.heap.size + 1) 100 #[.int .u32 0, .int .u32 0, .int .u32 0, .int .u32 0, .int .u32 0, .int .u32 0, .int .u32 0, .int .u32 0] := by
          rw [← hwD]
          exact (((((((kC2.away (by omega) _ _).away (by omega) _ _).away (by omega) _ _).away (by omega) _ _).away (by omega) _ _).away (by omega) _ _).away (by omega) _ _).away (by omega) _ _
        have kDB : Below w.heap.size w wD := by
          rw [← hwD]
          exact below_put (below_put (below_put (below_put (below_put (below_put (below_put (below_put ((BEL.out.drew.trans (hbA.mono BEL.out.size)).trans (hbC.mono (Nat.le_trans BEL.out.size hbA.size))) _ 0 (Nat.le_refl _) _) _ 1 (Nat.le_refl _) _) _ 2 (Nat.le_refl _) _) _ 3 (Nat.le_refl _) _) _ 4 (Nat.le_refl _) _) _ 5 (Nat.le_refl _) _) _ 6 (Nat.le_refl _) _) _ 7 (Nat.le_refl _) _
        have hr1 : S5.runAll S5.K s l = S5.runAll S5.K S2 (l'.drop 64) := by rw [hr.out.1, S5.runAll_step S5.K s' l' hlt, HS2.out]
        have hr2 : S5.tail l = S5.tail (l'.drop 64) := by rw [hr.out.2, S5.tail_step l' hlt]
        have HR1 := Lib.hid hr1; have HR2 := Lib.hid hr2; have KD1 := Lib.hid kD1; have KD2 := Lib.hid kD2; have KDB := Lib.hid kDB
        clear hwD kD1 kC2 kD2 kDB hr1 hr2 hbA hbC KA KC KD K1 K2 a0 a1 a2 a3 a4 a5 a6 a7 d0 d1 d2 d3 d4 d5 d6 d7 f0 f1 f2 f3 f4 f5 f6 f7 b0 b1 b2 b3 b4 b5 b6 b7
        by_cases hcap : cap' = 64
        · have hl64 : l'.length = 64 := by omega
          have hp2 : Part (.slice x0 l.length cap0) l (.slice (some ⟨B, off, none⟩) 0 0) (l'.drop 64) := fun W h => by
            have := part_none B off l'.length cap' l' rfl (by omega) W (hp.out W h)
            rwa [hl64] at this
          have HP2 := Lib.hid hp2
          have hd0 : (l'.drop 64).length = 0 := by rw [List.length_drop]; omega
          have hz1 : l'.length - 64 = 0 := by omega
          have hz2 : cap' - 64 = 0 := by omega
          clear hp2
          go_wp2_with fail
          go_roundw
          case rel => exact ⟨l'.drop 64, S2, some ⟨B, off, none⟩, 0, by rw [hd0], Lib.hid (by rw [hd0]; exact HP2.out), Lib.hid ⟨HR1.out, HR2.out⟩, KD1.out, KD2.out, KDB.out⟩
          case measure => simp [lenOf]; omega
        · have hp2 : Part (.slice x0 l.length cap0) l (.slice (some ⟨B, off + 64, none⟩) (l'.length - 64) (cap' - 64)) (l'.drop 64) := fun W h => part_drop B off l'.length cap' 64 l' rfl hlt hl (by omega) W (hp.out W h)
          have HP2 := Lib.hid hp2
          clear hp2
          go_wp2_with fail
          go_roundw
          case rel => exact ⟨l'.drop 64, S2, some ⟨B, off + 64, none⟩, cap' - 64, by rw [List.length_drop], Lib.hid (by rw [List.length_drop]; exact HP2.out), Lib.hid ⟨HR1.out, HR2.out⟩, KD1.out, KD2.out, KDB.out⟩
          case measure => simp [lenOf]; omega
    · have hltI : ¬ (64 : Int) ≤ (l'.length : Int) := by omega
      have hrun : S5.runAll S5.K s l = s' := by rw [hr.out.1, S5.runAll_end S5.K s' l' (by omega)]
      have htl : S5.tail l = l' := by rw [hr.out.2, S5.tail_end l' (by omega)]
      obtain ⟨_, y, c, e, hl, hm, _, hc⟩ := hbr
      have HRUN := Lib.hid hrun; have HTL := Lib.hid htl
      clear hrun htl hc e
      go_wp2_with (first
        | (refine ld_st _ _ K1.out (by rfl) _ (by rfl) (by rfl) ?_)
        | (refine sto_st _ s' _ K2.out rfl (by rfl) _ _ (by rfl) (by rfl) (by rfl) ?_; intro wD hwD))
      have hfin : Blk wD (w.heap.size + 1) 100 (stC s') := by rw [hwD.out]; exact K2.out.row _
      have hfB : Below w.heap.size w wD := by rw [hwD.out]; exact below_row BEL.out _ (by omega) _
      exact bodyPost_ret (results_st_tmp rfl _ _ (w.heap.size + 1) s' rfl hfin) rfl ⟨_, by rw [HRUN.out], Lib.hid (by rw [HTL.out]; exact hp.out), hfB⟩
end Go.Proofs.YtgfolgmheinbiaaDoorRRR
