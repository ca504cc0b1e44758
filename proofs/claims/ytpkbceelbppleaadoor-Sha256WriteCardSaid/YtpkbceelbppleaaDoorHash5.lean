/- Hash: Write of a piece that fills the block. (Written by mk_hash5.py.) -/
import Derived.Test.YtpkbceelbppleaaDoorHash4
import Derived.Deep.CutRange
import Derived.Deep.RegionHeld3
import Derived.Deep.RegionLaw
namespace Go.Proofs.YtpkbceelbppleaaDoor
open Go.RowKit

theorem Tab.but {w w' : World} {g : Nat} (h : Tab w) (hb : But g w w') (hg : 0 < g) : Tab w' := by
  obtain ⟨h1, t, fr, h2⟩ := h
  obtain ⟨a1, a2, a3, a4, a5⟩ := hb
  exact ⟨Nat.lt_of_lt_of_le h1 a4, t, fr, by rw [a5 0 h1 (by intro e; cases e; omega)]; exact h2⟩
theorem Tab.more {w : World} (h : Tab w) (o : Obj) : Tab (w.alloc o) := h.below ((Below.refl w.heap.size w).alloc (Nat.le_refl _) o) h.1
theorem Bytes.chain {w : World} {x : Option Addr} {n c : Nat} {l : List Nat} (h : Bytes w (.slice x n c) l) (g : Nat) (v : S5.St) (hg : ∀ a, x = some a → a.block ≠ g) : Bytes (chainW w g v) (.slice x n c) l :=
  (((((((h.putA g 0 _ fun _ => hg).putA g 1 _ fun _ => hg).putA g 2 _ fun _ => hg).putA g 3 _ fun _ => hg).putA g 4 _ fun _ => hg).putA g 5 _ fun _ => hg).putA g 6 _ fun _ => hg).putA g 7 _ fun _ => hg
theorem Bytes.but {w w' : World} {x : Option Addr} {n c : Nat} {l : List Nat} {g : Nat} (h : Bytes w (.slice x n c) l) (hb : But g w w') (hg : ∀ a, x = some a → a.block ≠ g) : Bytes w' (.slice x n c) l := by
  obtain ⟨a1, a2, a3, a4, a5⟩ := hb
  obtain ⟨h1, y, cap, hv, hl, hm, hn, hc⟩ := h
  refine ⟨h1, y, cap, hv, hl, hm, hn, fun i hi => ?_⟩
  obtain ⟨b', o', e, h0⟩ := hc i hi
  have e1 := (Value.slice.inj hv).1
  rw [e] at e1
  have hne := hg _ e1
  have hlt : b' < w.heap.size := World.block_lt_of_cell? w _ h0
  have hk := a5 b' hlt (by intro e2; exact hne (Option.some.inj e2))
  refine ⟨b', o', e, ?_⟩
  rw [← h0]
  simp [World.cell?, hk]
theorem But.putX {g : Nat} {w w1 : World} (h : But g w w1) (X j : Nat) (u : Value) (hX : w.heap.size ≤ X) : But g w (w1.setCell ⟨X, j, none⟩ u) := by
  obtain ⟨a1, a2, a3, a4, a5⟩ := h
  have hb := below_put (Below.refl X w1) X j (Nat.le_refl _) u
  exact ⟨hb.os.trans a1, hb.tape.trans a2, hb.output.trans a3, Nat.le_trans a4 hb.size, fun k hk hn => (heap_setCell_other w1 ⟨X, j, none⟩ k u (by show k ≠ X; omega)).trans (a5 k hk hn)⟩
theorem But.chainX {g : Nat} {w w1 : World} (h : But g w w1) (X : Nat) (v : S5.St) (hX : w.heap.size ≤ X) : But g w (chainW w1 X v) :=
  (((((((h.putX X 0 _ hX).putX X 1 _ hX).putX X 2 _ hX).putX X 3 _ hX).putX X 4 _ hX).putX X 5 _ hX).putX X 6 _ hX).putX X 7 _ hX
def z8 : S5.St := ⟨0, 0, 0, 0, 0, 0, 0, 0⟩
theorem hash_free {w : World} {g : Nat} {cs : Array Value} (h : Blk w g 66 cs) : w.frozen? ⟨g, 0, none⟩ = false ∧ w.frozen? ⟨g, 1, none⟩ = false ∧ w.frozen? ⟨g, 2, none⟩ = false ∧ w.frozen? ⟨g, 3, none⟩ = false ∧ w.frozen? ⟨g, 4, none⟩ = false ∧ w.frozen? ⟨g, 5, none⟩ = false ∧ w.frozen? ⟨g, 6, none⟩ = false ∧ w.frozen? ⟨g, 7, none⟩ = false :=
  ⟨h.free 0, h.free 1, h.free 2, h.free 3, h.free 4, h.free 5, h.free 6, h.free 7⟩

set_option maxRecDepth 100000 in
set_option maxHeartbeats 4000000 in
theorem write_big (w : World) (hT : Tab w) (g : Nat) (hg0 : 0 < g) (l : List Nat) (h : HashIs w g l) (B off : Nat) (kb c : Nat) (b : List Nat) (hkb : b.length = kb) (hv : Bytes w (.slice (some ⟨B, off, none⟩) kb c) b) (hvg : B ≠ g) (k : Nat) (hk : l.length % 64 + k = 64) (hkk : k ≤ kb) (hmax2 : l.length + kb ≤ 900000000) :
    Calls Tryd.prog 20 #[.pointer (some ⟨g, 0, none⟩), .slice (some ⟨B, off, none⟩) kb c] w fun e w' => e = .returned (.int .i64 0) ∧ Hid (HashIs w' g (l ++ b)) ∧ Hid (But g w w') := by
  have hcap : kb ≤ c ∧ c ≤ maxLen := by
    obtain ⟨_, y, cc, e, h1, h2, _⟩ := hv
    have := (Value.slice.inj e).2.2
    subst this
    exact ⟨by rw [← hkb]; exact h1, h2⟩
  obtain ⟨r, hr, hrb, htl, hmax, hB⟩ := h
  obtain ⟨s, hs⟩ : ∃ s, s = S5.runAll S5.K S5.init l := ⟨_, rfl⟩
  obtain ⟨n, hn⟩ : ∃ n, n = l.length := ⟨_, rfl⟩
  obtain ⟨n2, hn2⟩ : ∃ n2, n2 = n + kb := ⟨_, rfl⟩
  obtain ⟨m, hm⟩ : ∃ m, m = n % 64 := ⟨_, rfl⟩
  rw [← hs, ← hn] at hB
  rw [← hn, ← hm] at htl
  have hms := S5.more_big S5.K S5.init l b k hk (by omega)
  obtain ⟨r2, hr2⟩ : ∃ r2, r2 = r.take m ++ (b.take k ++ r.drop (m + (b.take k).length)) := ⟨_, rfl⟩
  have hbk : (b.take k).length = k := by rw [List.length_take]; omega
  have hr2e : r2 = S5.tail l ++ b.take k := by
    rw [hr2, htl, hbk, List.drop_eq_nil_of_le (by omega), List.append_nil]
  have hr2l : r2.length = 64 := by rw [hr2e, List.length_append, S5.tail_len, hbk]; exact hk
  have hr2b : ∀ z ∈ r2, z < 256 := by
    rw [hr2e, ← htl]
    intro z hz
    rcases List.mem_append.1 hz with hz | hz
    · exact hrb z (List.mem_of_mem_take hz)
    · exact hv.1 z (List.mem_of_mem_take hz)
  obtain ⟨S1, hS1⟩ : ∃ S1, S1 = S5.blk S5.K s (S5.words r2) := ⟨_, rfl⟩
  obtain ⟨S2, hS2⟩ : ∃ S2, S2 = S5.runAll S5.K S1 (b.drop k) := ⟨_, rfl⟩
  obtain ⟨tl, htl2⟩ : ∃ tl, tl = S5.tail (b.drop k) := ⟨_, rfl⟩
  have htlen : tl.length < 64 := by rw [htl2, S5.tail_len]; omega
  have HFIN := Lib.hid (show ∀ W, Blk W g 66 (hashC S2 (r2.take 0 ++ (tl ++ r2.drop (0 + tl.length))) n2) → HashIs W g (l ++ b) from fun W hW => by
    have e1 : S2 = S5.runAll S5.K S5.init (l ++ b) := by rw [hms.1, hS2, hS1, hr2e, hs]
    have e2 : tl = S5.tail (l ++ b) := by rw [hms.2, htl2]
    rw [List.take_zero, List.nil_append, Nat.zero_add] at hW
    refine ⟨_, ?_, ?_, ?_, ?_, by rw [← e1, List.length_append, ← hn, hkb, ← hn2]; exact hW⟩
    · simp; omega
    · intro z hz
      rcases List.mem_append.1 hz with hz | hz
      · rw [htl2] at hz
        unfold S5.tail at hz
        exact hv.1 z (List.mem_of_mem_drop (List.mem_of_mem_drop hz))
      · exact hr2b z (List.mem_of_mem_drop hz)
    · rw [← S5.tail_len, ← e2, List.take_left]
    · rw [List.length_append]; omega)
  have K := Lib.hid hB
  have cn : w.cell? ⟨g, 72, none⟩ = some (.int .i64 n) := by rw [hB.cell, hashC_n hr]
  have fn : w.frozen? ⟨g, 72, none⟩ = false := hB.free 72
  have hrem : (n : Int).tmod 64 = (m : Int) := by rw [Int.tmod_eq_emod_of_nonneg (by omega)]; omega
  have hsum : (n : Int) + (kb : Int) = (n2 : Int) := by omega
  have hmI : (m : Int) ≤ 64 := by omega
  have hm64 : ¬ 64 = m := by omega
  have hm64b : ¬ m = 64 := by omega
  have hmk : (m : Int) + (k : Int) = 64 := by omega
  have HK := Lib.hid (show k ≤ kb ∧ 1 ≤ k ∧ m + k = 64 by omega)
  have hkI : (k : Int) ≤ (kb : Int) := by omega
  have hkcI : (kb : Int) ≤ (c : Int) := by omega
  have hn2I : (n2 : Int) ≤ 1000000000 := by omega
  have HVG := Lib.hid (show ∀ a, some (⟨B, off, none⟩ : Addr) = some a → a.block ≠ g from fun a ha => by cases ha; exact hvg)
  have HV := Lib.hid hv; have HR := Lib.hid hr
  have HMK := Lib.hid (show k = min b.length (64 - m) by omega)
  have HM := Lib.hid (show m + k ≤ 64 by omega)
  have HKB := Lib.hid hkb; have HBK := Lib.hid hbk
  have HR2 := Lib.hid hr2; have HR2L := Lib.hid hr2l; have HR2B := Lib.hid hr2b
  have HS1 := Lib.hid hS1; have HS2 := Lib.hid hS2; have HTL := Lib.hid htl2; have HTLN := Lib.hid htlen
  have HCAP := Lib.hid hcap
  have HWR := Lib.hid (fun w hv => words_any (.slice (some ⟨g, 8, none⟩) 64 64) r2 (by omega) w hv)
  have HBLK := Lib.hid (fun W hT => block_x s (S5.words r2) (S5.words_len r2) W hT)
  rw [← hS1] at HBLK
  unfold stV at HBLK
  have hp := hT.1
  clear hs hn hn2 hm hms htl hrb hmax hB hr hv hvg hk hkk hmax2 hkb hbk hr2 hr2e hr2l hr2b hS1 hS2 htl2 htlen hcap
  go_enter Tryd.func20, Tryd.ntmps20
  go_upto_region 5 with (fail)
  generalize hw1 : w.setCell ⟨g, 72, none⟩ (.int .i64 (n2 : Int)) = w1
  have K1 := Lib.hid (show Blk w1 g 66 (hashC s r n2) by rw [← hw1]; exact front_len HR.out K.out)
  have V1 := Lib.hid (show Bytes w1 (.slice (some ⟨B, off, none⟩) kb c) b by rw [← hw1]; exact HV.out.putA g 72 _ fun _ => HVG.out)
  have U1 := Lib.hid (show But g w w1 by rw [← hw1]; exact (But.refl g w).put 72 _)
  clear hw1 cn fn
  go_upto_region 8 with (refine wpList_copy_at g (8 + m) (64 - m) (64 - m) _ _ K1.out _ b V1.out k HMK.out (by rw [hashC_size _ _ _ HR.out]; have := HM.out; omega) (by rfl) _ _ (by rfl) (by rfl) (by rfl) ?_; intro w2 hw2 hw2o hw2b; have K2 := Lib.hid (show Blk w2 g 66 (hashC s r2 n2) by rw [HR2.out]; exact copy_hash HR.out HBK.out HM.out hw2.out); have U2 := Lib.hid (U1.out.copy hw2o.out hw2b.out); clear hw2 hw2o hw2b)
  have V2 := Lib.hid (HV.out.but U2.out HVG.out)
  have T2 := Lib.hid (show Tab w2.drew from (show Tab w2 from hT.but U2.out hg0))
  clear K K1 V1 U1 HR HR2 HMK HM HBK hrem hsum
  obtain ⟨a0, a1, a2, a3, a4, a5, a6, a7⟩ := hash_cells K2.out.draw
  have HFR := Lib.hid (show Bytes w2.drew (.slice (some ⟨g, 8, none⟩) 64 64) r2 by have := hash_front HR2L.out HR2B.out K2.out.draw 64 (Nat.le_refl _); rwa [List.take_of_length_le (by rw [HR2L.out]; exact Nat.le_refl _)] at this)
  go_cut [] from 36 to 48 (fun wx => Hid (Blk wx g 66 (hashC S1 r2 n2)) ∧ Hid (But g w wx))
  case first =>
    go_region_law (first
      | (go_simp; go_at_call 34; refine (HWR.out _ HFR.out).mono ?_; rintro e wA ⟨rfl, hbA⟩; have KA := Lib.hid (K2.out.draw.keep hbA K2.out.draw.lt); obtain ⟨b0, b1, b2, b3, b4, b5, b6, b7⟩ := hash_cells KA.out)
      | (go_simp; go_at_call 33; refine (HBLK.out _ (T2.out.below hbA T2.out.1)).mono ?_; rintro e wC ⟨rfl, hbC⟩; have KC := Lib.hid (KA.out.keep hbC KA.out.lt); obtain ⟨d0, d1, d2, d3, d4, d5, d6, d7⟩ := hash_cells KC.out; obtain ⟨f0, f1, f2, f3, f4, f5, f6, f7⟩ := hash_free KC.out))
    all_goals
      have K3 := Lib.hid (show Blk (chainW wC g S1) g 66 (hashC S1 r2 n2) from chainW_hash S1 KC.out)
      have U3 := Lib.hid (show But g w (chainW wC g S1) from ((U2.out.drew.below hbA).below hbC).chain S1)
      go_wp2_with fail
      go_meet
      exact ⟨K3, U3⟩
  case rest =>
    obtain ⟨K3, U3⟩ := hcut
    clear K2 V2 U2 T2 a0 a1 a2 a3 a4 a5 a6 a7 HFR HWR HBLK
    generalize wc = w3 at *
    have V3 := Lib.hid (HV.out.but U3.out HVG.out)
    have T3 := Lib.hid (show Tab w3.drew from (show Tab w3 from hT.but U3.out hg0))
    go_upto_region 9 with (fail)
    go_cut [7, 8] from 49 to 59 (fun p q wx => ∃ X v', p = Value.pointer (some ⟨X, 0, none⟩) ∧ q = v' ∧ Hid (Blk wx X 54 (stC S2)) ∧ Hid (X ≠ g) ∧ Hid (Blk wx g 66 (hashC S1 r2 n2)) ∧ Hid (But g w wx) ∧ Hid (∀ W, Bytes W (.slice (some ⟨B, off, none⟩) kb c) b → Bytes W v' tl))
    case first =>
      have KD := Lib.hid K3.out.draw
      obtain ⟨a0, a1, a2, a3, a4, a5, a6, a7⟩ := hash_cells KD.out
      by_cases hcap : c = k
      · have hz0 : k = kb := by have := HCAP.out.1; have := HK.out.1; omega
        have hz1 : k = c := hcap.symm
        subst hz0
        subst hz1
        have HP2 := Lib.hid (show Part (.slice (some ⟨B, off, none⟩) k k) b (.slice (some ⟨B, off, none⟩) 0 0) (b.drop k) from fun W h => part_none B off k k b HKB.out.symm (by have := HK.out; omega) W h)
        have HBKS := Lib.hid (fun W hT hv => blocks_x S1 (.slice (some ⟨B, off, none⟩) 0 0) (b.drop k) W hT hv)
        have HB3 := Lib.hid (show Bytes w3.drew (.slice (some ⟨B, off, none⟩) 0 0) (b.drop k) from HP2.out _ V3.out.drew)
        rw [← HS2.out, ← HTL.out] at HBKS
        unfold stV at HBKS
        have HC := Lib.hid (show ∀ W, (W = w3.drew ∨ W = w3.drew.alloc (.cells (stC z8) 54)) → _ from fun W hW => HBKS.out W (by rcases hW with rfl | rfl; exact T3.out; exact T3.out.more _) (by rcases hW with rfl | rfl; exact HB3.out; exact HB3.out.below ((Below.refl _ _).alloc (Nat.le_refl _) _)))
        have hne1 : w3.heap.size ≠ g := Nat.ne_of_gt K3.out.lt
        have hne2 : g ≠ w3.heap.size := Nat.ne_of_lt K3.out.lt
        have HW3 := Lib.hid (show w.heap.size ≤ w3.heap.size by obtain ⟨_, _, _, h, _⟩ := U3.out; exact h)
        have HGL := Lib.hid (show g < w3.heap.size from K3.out.lt)
        have HX := Lib.hid (show ∀ w4, Below (w3.drew.alloc (.cells (stC z8) 54)).heap.size (w3.drew.alloc (.cells (stC z8) 54)) w4 → Blk w4 w3.heap.size 54 (stC z8) from fun w4 hb => (Blk.fresh w3.drew _ _).keep hb (by simp))
        have HKW := Lib.hid (show ∀ W, (W = w3.drew ∨ W = w3.drew.alloc (.cells (stC z8) 54)) → Blk W g 66 (hashC S1 r2 n2) ∧ But g w W from fun W hW => by rcases hW with rfl | rfl; exact ⟨KD.out, U3.out.drew⟩; exact ⟨KD.out.more _, U3.out.drew.below ((Below.refl _ _).alloc (Nat.le_refl _) _)⟩)
        go_region_held3 (fun w' => w'.cell? ⟨g, 0, none⟩ = some (.int .u32 S1.a) ∧ w'.cell? ⟨g, 1, none⟩ = some (.int .u32 S1.b) ∧ w'.cell? ⟨g, 2, none⟩ = some (.int .u32 S1.c) ∧ w'.cell? ⟨g, 3, none⟩ = some (.int .u32 S1.d) ∧ w'.cell? ⟨g, 4, none⟩ = some (.int .u32 S1.e) ∧ w'.cell? ⟨g, 5, none⟩ = some (.int .u32 S1.f) ∧ w'.cell? ⟨g, 6, none⟩ = some (.int .u32 S1.g) ∧ w'.cell? ⟨g, 7, none⟩ = some (.int .u32 S1.h)) (first | (go_keep; done) | exact hash_cells (KD.out.more _) | exact hash_cells (K4.out.more _))
          (first
            | (go_at_call 27; refine (HC.out _ ?_).mono ?_; (first | exact Or.inl rfl | exact Or.inr rfl); rintro e w4 ⟨v', rfl, hpart, hb4⟩; have K4 := Lib.hid ((HKW.out _ (by first | exact Or.inl rfl | exact Or.inr rfl)).1.keep hb4 (HKW.out _ (by first | exact Or.inl rfl | exact Or.inr rfl)).1.lt); have U4 := Lib.hid ((HKW.out _ (by first | exact Or.inl rfl | exact Or.inr rfl)).2.below hb4); obtain ⟨k0, k1, k2, k3, k4, k5, k6, k7⟩ := hash_cells K4.out; (first | (have X4 := Lib.hid (HX.out w4 hb4); obtain ⟨x0, x1, x2, x3, x4, x5, x6, x7⟩ := cells8 X4.out; obtain ⟨y0, y1, y2, y3, y4, y5, y6, y7⟩ := free8 X4.out) | skip)))
        · go_wp2_with fail
          go_meet
          exact ⟨w4.heap.size, v', rfl, rfl, Lib.hid (Blk.fresh w4 54 (stC S2)), Lib.hid (Nat.ne_of_gt K4.out.lt), Lib.hid (K4.out.more _), Lib.hid (U4.out.below ((Below.refl _ _).alloc (Nat.le_refl _) _)), Lib.hid (fun W h => hpart.out W (HP2.out W h))⟩
        · go_wp2_with fail
          go_meet
          exact ⟨w3.heap.size, v', rfl, rfl, Lib.hid (chainW_blk S2 X4.out), Lib.hid (Nat.ne_of_gt HGL.out), Lib.hid (chainW_far S2 K4.out (Nat.ne_of_lt HGL.out)), Lib.hid (U4.out.chainX w3.heap.size S2 HW3.out), Lib.hid (fun W h => hpart.out W (HP2.out W h))⟩
      · have hcap2 : ¬ k = c := by omega
        have HP2 := Lib.hid (show Part (.slice (some ⟨B, off, none⟩) kb c) b (.slice (some ⟨B, off + k, none⟩) (kb - k) (c - k)) (b.drop k) from fun W h => part_drop B off kb c k b HKB.out.symm HK.out.1 HCAP.out.1 (by have := HCAP.out.1; have := HK.out.1; omega) W h)
        have HBKS := Lib.hid (fun W hT hv => blocks_x S1 (.slice (some ⟨B, off + k, none⟩) (kb - k) (c - k)) (b.drop k) W hT hv)
        have HB3 := Lib.hid (show Bytes w3.drew (.slice (some ⟨B, off + k, none⟩) (kb - k) (c - k)) (b.drop k) from HP2.out _ V3.out.drew)
        rw [← HS2.out, ← HTL.out] at HBKS
        unfold stV at HBKS
        have HC := Lib.hid (show ∀ W, (W = w3.drew ∨ W = w3.drew.alloc (.cells (stC z8) 54)) → _ from fun W hW => HBKS.out W (by rcases hW with rfl | rfl; exact T3.out; exact T3.out.more _) (by rcases hW with rfl | rfl; exact HB3.out; exact HB3.out.below ((Below.refl _ _).alloc (Nat.le_refl _) _)))
        have hne1 : w3.heap.size ≠ g := Nat.ne_of_gt K3.out.lt
        have hne2 : g ≠ w3.heap.size := Nat.ne_of_lt K3.out.lt
        have HW3 := Lib.hid (show w.heap.size ≤ w3.heap.size by obtain ⟨_, _, _, h, _⟩ := U3.out; exact h)
        have HGL := Lib.hid (show g < w3.heap.size from K3.out.lt)
        have HX := Lib.hid (show ∀ w4, Below (w3.drew.alloc (.cells (stC z8) 54)).heap.size (w3.drew.alloc (.cells (stC z8) 54)) w4 → Blk w4 w3.heap.size 54 (stC z8) from fun w4 hb => (Blk.fresh w3.drew _ _).keep hb (by simp))
        have HKW := Lib.hid (show ∀ W, (W = w3.drew ∨ W = w3.drew.alloc (.cells (stC z8) 54)) → Blk W g 66 (hashC S1 r2 n2) ∧ But g w W from fun W hW => by rcases hW with rfl | rfl; exact ⟨KD.out, U3.out.drew⟩; exact ⟨KD.out.more _, U3.out.drew.below ((Below.refl _ _).alloc (Nat.le_refl _) _)⟩)
        go_region_held3 (fun w' => w'.cell? ⟨g, 0, none⟩ = some (.int .u32 S1.a) ∧ w'.cell? ⟨g, 1, none⟩ = some (.int .u32 S1.b) ∧ w'.cell? ⟨g, 2, none⟩ = some (.int .u32 S1.c) ∧ w'.cell? ⟨g, 3, none⟩ = some (.int .u32 S1.d) ∧ w'.cell? ⟨g, 4, none⟩ = some (.int .u32 S1.e) ∧ w'.cell? ⟨g, 5, none⟩ = some (.int .u32 S1.f) ∧ w'.cell? ⟨g, 6, none⟩ = some (.int .u32 S1.g) ∧ w'.cell? ⟨g, 7, none⟩ = some (.int .u32 S1.h)) (first | (go_keep; done) | exact hash_cells (KD.out.more _) | exact hash_cells (K4.out.more _))
          (first
            | (go_at_call 27; refine (HC.out _ ?_).mono ?_; (first | exact Or.inl rfl | exact Or.inr rfl); rintro e w4 ⟨v', rfl, hpart, hb4⟩; have K4 := Lib.hid ((HKW.out _ (by first | exact Or.inl rfl | exact Or.inr rfl)).1.keep hb4 (HKW.out _ (by first | exact Or.inl rfl | exact Or.inr rfl)).1.lt); have U4 := Lib.hid ((HKW.out _ (by first | exact Or.inl rfl | exact Or.inr rfl)).2.below hb4); obtain ⟨k0, k1, k2, k3, k4, k5, k6, k7⟩ := hash_cells K4.out; (first | (have X4 := Lib.hid (HX.out w4 hb4); obtain ⟨x0, x1, x2, x3, x4, x5, x6, x7⟩ := cells8 X4.out; obtain ⟨y0, y1, y2, y3, y4, y5, y6, y7⟩ := free8 X4.out) | skip)))
        · go_wp2_with fail
          go_meet
          exact ⟨w4.heap.size, v', rfl, rfl, Lib.hid (Blk.fresh w4 54 (stC S2)), Lib.hid (Nat.ne_of_gt K4.out.lt), Lib.hid (K4.out.more _), Lib.hid (U4.out.below ((Below.refl _ _).alloc (Nat.le_refl _) _)), Lib.hid (fun W h => hpart.out W (HP2.out W h))⟩
        · go_wp2_with fail
          go_meet
          exact ⟨w3.heap.size, v', rfl, rfl, Lib.hid (chainW_blk S2 X4.out), Lib.hid (Nat.ne_of_gt HGL.out), Lib.hid (chainW_far S2 K4.out (Nat.ne_of_lt HGL.out)), Lib.hid (U4.out.chainX w3.heap.size S2 HW3.out), Lib.hid (fun W h => hpart.out W (HP2.out W h))⟩
    case rest =>
      obtain ⟨X, v', rfl, rfl, HXs, HXg, K5, U5, HPT⟩ := hcut
      clear K3 U3 V3 T3
      generalize wc = w5 at *
      obtain ⟨a0, a1, a2, a3, a4, a5, a6, a7⟩ := hash_cells K5.out
      obtain ⟨f0, f1, f2, f3, f4, f5, f6, f7⟩ := hash_free K5.out
      obtain ⟨x0, x1, x2, x3, x4, x5, x6, x7⟩ := cells8 HXs.out
      go_upto_region 11 with (fail)
      generalize hw6 : (((((((w5.setCell ⟨g, 0, none⟩ (.int .u32 S2.a)).setCell ⟨g, 1, none⟩ (.int .u32 S2.b)).setCell ⟨g, 2, none⟩ (.int .u32 S2.c)).setCell ⟨g, 3, none⟩ (.int .u32 S2.d)).setCell ⟨g, 4, none⟩ (.int .u32 S2.e)).setCell ⟨g, 5, none⟩ (.int .u32 S2.f)).setCell ⟨g, 6, none⟩ (.int .u32 S2.g)).setCell ⟨g, 7, none⟩ (.int .u32 S2.h) = w6
      have hw6' : chainW w5 g S2 = w6 := hw6
      have K6 := Lib.hid (show Blk w6 g 66 (hashC S2 r2 n2) by rw [← hw6']; exact chainW_hash S2 K5.out)
      have U6 := Lib.hid (show But g w w6 by rw [← hw6']; exact U5.out.chain S2)
      have VT := Lib.hid (HPT.out w6 (HV.out.but U6.out HVG.out))
      clear hw6 hw6' a0 a1 a2 a3 a4 a5 a6 a7 f0 f1 f2 f3 f4 f5 f6 f7 x0 x1 x2 x3 x4 x5 x6 x7 K5 U5 HXs HXg HPT
      go_wp2_with (refine wpList_copy_at g 8 64 64 _ _ K6.out _ tl VT.out tl.length (by have := HTLN.out; omega) (by rw [hashC_size _ _ _ HR2L.out]; have := HTLN.out; omega) (by rfl) _ _ (by rfl) (by rfl) (by rfl) ?_; intro w7 hw7 hw7o hw7b; have K7 := Lib.hid (copy_hash (h := 0) (k := tl.length) HR2L.out (by rw [List.length_take]; omega) (by have := HTLN.out; omega) hw7.out); have U7 := Lib.hid (U6.out.copy hw7o.out hw7b.out); clear hw7 hw7o hw7b)
      go_ret
      exact ⟨rfl, Lib.hid (HFIN.out _ (by have := K7.out; rwa [List.take_of_length_le (Nat.le_refl _)] at this)), U7⟩
end Go.Proofs.YtpkbceelbppleaaDoor
