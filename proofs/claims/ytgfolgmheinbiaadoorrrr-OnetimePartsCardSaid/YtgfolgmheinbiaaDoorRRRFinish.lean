/- The program's finish: the digest behind the bytes that are left. -/
import Derived.Test.YtgfolgmheinbiaaDoorRRRDigest
import Derived.Test.YtgfolgmheinbiaaDoorRRRCopy
namespace S5
/-- the last blocks, being filled -/
def fillE (M : List Nat) (E n : Nat) : Nat → List Nat
  | 0 => M
  | k + 1 => (fillE M E n k).set (E - 1 - k) (n * 8 / 2 ^ (8 * k) % 256)
def lastM (r : List Nat) : List Nat := (r ++ List.replicate (128 - r.length) 0).set r.length 128

theorem fillE_len (M : List Nat) (E n k : Nat) : (fillE M E n k).length = M.length := by
  induction k with
  | zero => rfl
  | succ k ih => simp [fillE, ih]

theorem lastM_eq (r : List Nat) (h : r.length < 128) : lastM r = r ++ 128 :: List.replicate (127 - r.length) 0 := by
  unfold lastM
  rw [List.set_append_right _ _ (Nat.le_refl _), Nat.sub_self, show 128 - r.length = (127 - r.length) + 1 by omega]
  rfl

theorem fillE_app (A T : List Nat) (E n : Nat) (hA : A.length = E) (hE : 8 ≤ E) : ∀ k, k ≤ 8 → fillE (A ++ T) E n k = fillE A E n k ++ T
  | 0, _ => rfl
  | k + 1, h => by
    have ih := fillE_app A T E n hA hE k (by omega)
    rw [fillE, ih, fillE, List.set_append_left]
    rw [fillE_len]; omega

theorem fillE_pre (P A : List Nat) (n : Nat) (hA : A.length = 8) : ∀ k, k ≤ 8 → fillE (P ++ A) (P.length + 8) n k = P ++ fillE A 8 n k
  | 0, _ => rfl
  | k + 1, h => by
    have ih := fillE_pre P A n hA k (by omega)
    rw [fillE, ih, fillE, List.set_append_right _ _ (by omega)]
    congr 2
    omega

theorem fillE_eight (n : Nat) : fillE (List.replicate 8 0) 8 n 8 = bitsOf n := by
  simp [fillE, bitsOf, List.range, List.range.loop, List.replicate]

theorem last_eq (r : List Nat) (n E : Nat) (h : r.length < 64) (hE : E = if 56 ≤ r.length then 128 else 64) : (fillE (lastM r) E n 8).take E = lastB r n := by
  have hz : 9 + r.length ≤ E ∧ E ≤ 128 := by split at hE <;> omega
  have hr : (119 - r.length) % 64 = E - 9 - r.length := by split at hE <;> omega
  obtain ⟨P, hP⟩ : ∃ P, P = r ++ 128 :: List.replicate (E - 9 - r.length) 0 := ⟨_, rfl⟩
  have hPl : P.length = E - 8 := by rw [hP]; simp; omega
  have hM : lastM r = (P ++ List.replicate 8 0) ++ List.replicate (128 - E) 0 := by
    rw [lastM_eq r (by omega), hP, show 127 - r.length = (E - 9 - r.length) + (8 + (128 - E)) by omega, ← List.replicate_append_replicate, ← List.replicate_append_replicate]
    simp
  have hl : (P ++ List.replicate 8 0).length = E := by rw [List.length_append, hPl, List.length_replicate]; omega
  have hf := fillE_pre P (List.replicate 8 0) n (by simp) 8 (Nat.le_refl _)
  rw [hPl, show E - 8 + 8 = E by omega, fillE_eight] at hf
  rw [hM, fillE_app _ _ E n hl (by omega) 8 (Nat.le_refl _), hf]
  have h2 : (P ++ bitsOf n).length = E := by rw [List.length_append, hPl, bitsOf_len]; omega
  rw [List.take_append_of_le_length (by omega), List.take_of_length_le (by omega), hP]
  unfold lastB
  rw [hr]

theorem lastM_lt (r : List Nat) (h : ∀ x ∈ r, x < 256) : ∀ x ∈ lastM r, x < 256 := by
  intro x hx
  unfold lastM at hx
  rcases List.mem_or_eq_of_mem_set hx with hx | hx
  · rcases List.mem_append.1 hx with hx | hx
    · exact h x hx
    · have := List.eq_of_mem_replicate hx; omega
  · omega

theorem fillE_lt (M : List Nat) (h : ∀ x ∈ M, x < 256) (E n : Nat) : ∀ k, ∀ x ∈ fillE M E n k, x < 256
  | 0, x, hx => h x hx
  | k + 1, x, hx => by
    rcases List.mem_or_eq_of_mem_set (show x ∈ (fillE M E n k).set _ _ from hx) with hx | hx
    · exact fillE_lt M h E n k x hx
    · rw [hx]; exact Nat.mod_lt _ (by omega)
end S5
namespace Go.Proofs.YtgfolgmheinbiaaDoorRRR
open Go.RowKit

def bvC (l : List Nat) : Array Value := (byteVals l).toArray
theorem bvC_size (l : List Nat) : (bvC l).size = l.length := by simp [bvC, byteVals]
theorem bvC_get (l : List Nat) (i : Nat) (h : i < l.length) : (bvC l)[i]? = some (.int .u8 (l.getD i 0)) := by
  simp [bvC, byteVals, List.getD_eq_getElem?_getD, List.getElem?_eq_getElem h]
theorem bvC_set (l : List Nat) (i x : Nat) : (bvC l).setIfInBounds i (.int .u8 (x : Int)) = bvC (l.set i x) := by
  unfold bvC byteVals
  apply Array.toList_inj.1
  rw [Array.toList_setIfInBounds, List.map_set]

def z128 : List Nat := List.replicate 128 0
theorem z128_len : z128.length = 128 := by simp [z128]
theorem zero128 (w : World) : (zeroValue 109).run Tryd.prog w = .ok (.agg (bvC z128)) w := by kernel_rfl

theorem cop_shape {w1 : World} {g : Nat} {t : TypeId} (r : List Nat) (h : Blk w1 g t ((bvC z128).toList.take 0 ++ (byteVals (r.take r.length) ++ (bvC z128).toList.drop (0 + r.length))).toArray) : Blk w1 g t (bvC (r ++ List.replicate (128 - r.length) 0)) := by
  have e : ((bvC z128).toList.take 0 ++ (byteVals (r.take r.length) ++ (bvC z128).toList.drop (0 + r.length))).toArray = bvC (r ++ List.replicate (128 - r.length) 0) := by
    have h1 : (bvC z128).toList = byteVals z128 := rfl
    have h2 : (byteVals z128).drop r.length = byteVals (List.replicate (128 - r.length) 0) := by unfold byteVals z128; rw [← List.map_drop, List.drop_replicate]
    rw [h1, List.take_zero, List.nil_append, List.take_of_length_le (Nat.le_refl _), Nat.zero_add, h2]
    unfold bvC byteVals
    rw [List.map_append]
  rwa [e] at h

theorem cell_at {w : World} {g : Nat} {t : TypeId} {L : List Nat} (h : Blk w g t (bvC L)) (i : Nat) (hi : i < L.length) : w.cell? ⟨g, i, none⟩ = some (.int .u8 (L.getD i 0)) ∧ w.frozen? ⟨g, i, none⟩ = false :=
  ⟨by rw [h.cell, bvC_get L i hi], h.free i⟩

theorem blk_bytes {w : World} {g : Nat} {t : TypeId} {L : List Nat} (h : Blk w g t (bvC L)) (hb : ∀ x ∈ L, x < 256) (E N : Nat) (hE : E ≤ L.length) (hN : E ≤ N) (hm : N ≤ maxLen) : Bytes w (.slice (some ⟨g, 0, none⟩) E N) (L.take E) := by
  have hl : (L.take E).length = E := by rw [List.length_take]; omega
  refine ⟨fun x hx => hb x (List.mem_of_mem_take hx), some ⟨g, 0, none⟩, N, by rw [hl], by rw [hl]; exact hN, hm, (fun h => by cases h), fun i hi => ⟨g, 0, rfl, ?_⟩⟩
  rw [hl] at hi
  rw [Nat.zero_add, h.cell, bvC_get L i (by omega)]
  congr 2
  simp [List.getD_eq_getElem?_getD, hi]

theorem blocks_x (s : S5.St) (v : Value) (l : List Nat) (w : World) (hT : Tab w) (hv : Bytes w v l) :
    Calls Tryd.prog 63 #[.agg #[.int .u32 s.a, .int .u32 s.b, .int .u32 s.c, .int .u32 s.d, .int .u32 s.e, .int .u32 s.f, .int .u32 s.g, .int .u32 s.h], v] w fun e w' => ∃ v', e = .returned (.tuple #[stV (S5.runAll S5.K s l), v']) ∧ Hid (Part v l v' (S5.tail l)) ∧ Below w.heap.size w w' := blocks_any s v l w hT hv
theorem digest_x (s : S5.St) (w : World) :
    Calls Tryd.prog 67 #[.agg #[.int .u32 s.a, .int .u32 s.b, .int .u32 s.c, .int .u32 s.d, .int .u32 s.e, .int .u32 s.f, .int .u32 s.g, .int .u32 s.h]] w fun e w' => e = .returned (.agg (bsC (S5.digest s))) ∧ Below w.heap.size w w' := digest_any s w

set_option maxRecDepth 100000 in
set_option maxHeartbeats 4000000 in
theorem finish_any (s : S5.St) (v : Value) (r : List Nat) (n : Nat) (hr : r.length < 64) (hn : n ≤ 1000000000) (w : World) (hT : Tab w) (hv : Bytes w v r) :
    Calls Tryd.prog 64 #[.agg (stC s), v, .int .i64 n] w fun e w' => e = .returned (.agg (bsC (S5.digest (S5.runAll S5.K s (S5.lastB r n))))) ∧ Below w.heap.size w w' := by
  have hpos := hT.1
  have HV := Lib.hid hv
  obtain ⟨hb, x0, cap0, hv0, hcl, hcm, _, _⟩ := hv
  subst hv0
  unfold maxLen at hcm
  have hrI : (r.length : Int) < 64 := by omega
  have hnI : (n : Int) ≤ 1000000000 := by omega
  have HRB := Lib.hid hb
  clear hb
  have hzero : ∀ w : World, (zeroValue 109).run Tryd.prog w = .ok (.agg (bvC z128)) w := fun w => zero128 w
  go_enter Tryd.func64, Tryd.ntmps64
  go_upto_region 2 with (fail)
  generalize hW0 : ((w.alloc (.cells (stC s) 100)).alloc (.cells #[.int .u8 0, .int .u8 0, .int .u8 0, .int .u8 0, .int .u8 0, .int .u8 0, .int .u8 0, .int .u8 0, .int .u8 0, .int .u8 0, .int .u8 0, .int .u8 0, .int .u8 0, .int .u8 0, .int .u8 0, .int .u8 0, .int .u8 0, .int .u8 0, .int .u8 0, .int .u8 0, .int .u8 0, .int .u8 0, .int .u8 0, .int .u8 0, .int .u8 0, .int .u8 0, .int .u8 0, .int .u8 0, .int .u8 0, .int .u8 0, .int .u8 0, .int .u8 0] 90)).alloc (.cells (bvC z128) 109) = W0
  have hB0 : Below w.heap.size w W0 := by rw [← hW0]; exact (((Below.refl _ w).alloc (Nat.le_refl _) _).alloc (by simp) _).alloc (by simp; omega) _
  have k1 : Blk W0 w.heap.size 100 (stC s) := by rw [← hW0]; exact ((Blk.fresh w _ _).more _).more _
  have k2 : Blk W0 (w.heap.size + 1) 90 #[.int .u8 0, .int .u8 0, .int .u8 0, .int .u8 0, .int .u8 0, .int .u8 0, .int .u8 0, .int .u8 0, .int .u8 0, .int .u8 0, .int .u8 0, .int .u8 0, .int .u8 0, .int .u8 0, .int .u8 0, .int .u8 0, .int .u8 0, .int .u8 0, .int .u8 0, .int .u8 0, .int .u8 0, .int .u8 0, .int .u8 0, .int .u8 0, .int .u8 0, .int .u8 0, .int .u8 0, .int .u8 0, .int .u8 0, .int .u8 0, .int .u8 0, .int .u8 0] := by rw [← hW0]; have := (Blk.fresh (w.alloc (.cells (stC s) 100)) 90 #[.int .u8 0, .int .u8 0, .int .u8 0, .int .u8 0, .int .u8 0, .int .u8 0, .int .u8 0, .int .u8 0, .int .u8 0, .int .u8 0, .int .u8 0, .int .u8 0, .int .u8 0, .int .u8 0, .int .u8 0, .int .u8 0, .int .u8 0, .int .u8 0, .int .u8 0, .int .u8 0, .int .u8 0, .int .u8 0, .int .u8 0, .int .u8 0, .int .u8 0, .int .u8 0, .int .u8 0, .int .u8 0, .int .u8 0, .int .u8 0, .int .u8 0, .int .u8 0]).more (.cells (bvC z128) 109); simpa using this
  have k3 : Blk W0 (w.heap.size + 1 + 1) 109 (bvC z128) := by rw [← hW0]; have := Blk.fresh ((w.alloc (.cells (stC s) 100)).alloc (.cells #[.int .u8 0, .int .u8 0, .int .u8 0, .int .u8 0, .int .u8 0, .int .u8 0, .int .u8 0, .int .u8 0, .int .u8 0, .int .u8 0, .int .u8 0, .int .u8 0, .int .u8 0, .int .u8 0, .int .u8 0, .int .u8 0, .int .u8 0, .int .u8 0, .int .u8 0, .int .u8 0, .int .u8 0, .int .u8 0, .int .u8 0, .int .u8 0, .int .u8 0, .int .u8 0, .int .u8 0, .int .u8 0, .int .u8 0, .int .u8 0, .int .u8 0, .int .u8 0] 90)) 109 (bvC z128); simpa using this
  have K1 := Lib.hid k1; have K2 := Lib.hid k2; have K3 := Lib.hid k3; have B0 := Lib.hid hB0
  have HV0 := Lib.hid (HV.out.below hB0)
  clear hW0 k1 k2 k3 hB0
  go_wp2_with (refine wpList_copy_at (w.heap.size + 1 + 1) 0 128 128 _ _ K3.out _ r HV0.out r.length (by omega) (by rw [bvC_size, z128_len]; omega) (by rfl) _ _ (by rfl) (by rfl) (by rfl) ?_; intro w1 hw1 hw1o hw1b; have q3 : Blk w1 (w.heap.size + 1 + 1) 109 (bvC (r ++ List.replicate (128 - r.length) 0)) := cop_shape r hw1.out; have ⟨cu, fu⟩ := cell_at q3 r.length (by simp; omega); have Q3 := Lib.hid q3; clear hw1 q3)
  · have hbr : 56 ≤ r.length := by first | assumption | omega
    have hE : (128 : Nat) = if 56 ≤ r.length then 128 else 64 := by rw [if_pos hbr]
    obtain ⟨M, hM⟩ : ∃ M, M = S5.lastM r := ⟨_, rfl⟩
    have hlast : (S5.fillE M 128 n 8).take 128 = S5.lastB r n := by rw [hM]; exact S5.last_eq r n 128 hr hE
    have hMl : M.length = 128 := by rw [hM]; unfold S5.lastM; simp; omega
    have hMb : ∀ x ∈ M, x < 256 := by rw [hM]; exact S5.lastM_lt r HRB.out
    generalize hw2 : w1.setCell ⟨w.heap.size + 1 + 1, r.length, none⟩ (.int .u8 128) = w2
    have p3 : Blk w2 (w.heap.size + 1 + 1) 109 (bvC (S5.fillE M 128 n 0)) := by
      rw [← hw2]
      have := Q3.out.put r.length (.int .u8 128)
      rw [show (128 : Int) = ((128 : Nat) : Int) from rfl, bvC_set] at this
      show Blk _ _ _ (bvC M)
      rw [hM]
      exact this
    have p1 : Blk w2 w.heap.size 100 (stC s) := by rw [← hw2]; exact Blk.away ((hw1o.out _ (by omega)).trans K1.out) (by omega) _ _
    have p2 : Blk w2 (w.heap.size + 1) 90 #[.int .u8 0, .int .u8 0, .int .u8 0, .int .u8 0, .int .u8 0, .int .u8 0, .int .u8 0, .int .u8 0, .int .u8 0, .int .u8 0, .int .u8 0, .int .u8 0, .int .u8 0, .int .u8 0, .int .u8 0, .int .u8 0, .int .u8 0, .int .u8 0, .int .u8 0, .int .u8 0, .int .u8 0, .int .u8 0, .int .u8 0, .int .u8 0, .int .u8 0, .int .u8 0, .int .u8 0, .int .u8 0, .int .u8 0, .int .u8 0, .int .u8 0, .int .u8 0] := by rw [← hw2]; exact Blk.away ((hw1o.out _ (by omega)).trans K2.out) (by omega) _ _
    have pB : Below w.heap.size w w2 := by rw [← hw2]; exact below_put (hw1b.out _ _ B0.out (by omega)) _ _ (by omega) _
    have HLAST := Lib.hid hlast; have HML := Lib.hid hMl; have HMB := Lib.hid hMb
    clear hw2 hM hlast hMl hMb hE cu fu Q3 K1 K2 K3 B0 HV0 hw1o hw1b
    go_loopw [25] (fun kk wr => ∃ k : Nat, kk = .int .i64 k ∧ k ≤ 8 ∧ Blk wr w.heap.size 100 (stC s) ∧ Blk wr (w.heap.size + 1) 90 #[.int .u8 0, .int .u8 0, .int .u8 0, .int .u8 0, .int .u8 0, .int .u8 0, .int .u8 0, .int .u8 0, .int .u8 0, .int .u8 0, .int .u8 0, .int .u8 0, .int .u8 0, .int .u8 0, .int .u8 0, .int .u8 0, .int .u8 0, .int .u8 0, .int .u8 0, .int .u8 0, .int .u8 0, .int .u8 0, .int .u8 0, .int .u8 0, .int .u8 0, .int .u8 0, .int .u8 0, .int .u8 0, .int .u8 0, .int .u8 0, .int .u8 0, .int .u8 0] ∧ Blk wr (w.heap.size + 1 + 1) 109 (bvC (S5.fillE M 128 n k)) ∧ Below w.heap.size w wr) (fun kk _ => 8 - (intOf kk).toNat)
    case atStart => exact ⟨0, rfl, by omega, p1, p2, p3, pB⟩
    case round =>
      clear p1 p2 p3 pB
      obtain ⟨k, rfl, hk, p1, p2, p3, pB⟩ := hrel
      have P1 := Lib.hid p1; have P2 := Lib.hid p2; have P3 := Lib.hid p3; have PB := Lib.hid pB
      by_cases hlt : k < 8
      · have hkI : (k : Int) < 8 := by omega
        obtain ⟨i, hi⟩ : ∃ i, i = 128 - 1 - k := ⟨_, rfl⟩
        have hiI : (127 : Int) - (k : Int) = (i : Int) := by omega
        have ⟨cu, fu⟩ := cell_at p3 i (by rw [S5.fillE_len, HML.out]; omega)
        have hi128 : (i : Int) < 128 := by omega
        have HI := Lib.hid hi
        clear hi p1 p2 p3 pB
        go_wp2_with fail
        go_roundw
        case rel =>
          refine ⟨k + 1, by go_num, hlt, P1.out.away (by omega) _ _, P2.out.away (by omega) _ _, ?_, below_put PB.out _ _ (by omega) _⟩
          have hv : (n : Int) * 8 / 2 ^ (8 * k) % 256 = ((n * 8 / 2 ^ (8 * k) % 256 : Nat) : Int) := by simp
          have := P3.out.put i (.int .u8 ((n * 8 / 2 ^ (8 * k) % 256 : Nat) : Int))
          rw [bvC_set] at this
          rw [hv]
          show Blk _ _ _ (bvC ((S5.fillE M _ n k).set _ _))
          rw [← HI.out]
          exact this
        case measure => simp [intOf]; omega
      · obtain rfl : k = 8 := by omega
        have hby : Bytes wr.drew (.slice (some ⟨w.heap.size + 1 + 1, 0, none⟩) 128 128) (S5.lastB r n) := by
          have := blk_bytes p3.draw (S5.fillE_lt M HMB.out 128 n 8) 128 128 (by rw [S5.fillE_len, HML.out]; omega) (by omega) (by unfold maxLen; omega)
          rwa [HLAST.out] at this
        have hl : (S5.lastB r n).length = 128 := by rw [← HLAST.out, List.length_take, S5.fillE_len, HML.out]; omega
        obtain ⟨S2, hS2⟩ : ∃ S2, S2 = S5.runAll S5.K s (S5.lastB r n) := ⟨_, rfl⟩
        have hblk := blocks_x s (.slice (some ⟨w.heap.size + 1 + 1, 0, none⟩) 128 128) (S5.lastB r n) wr.drew (hT.below PB.out.drew hpos) hby
        rw [← hS2] at hblk
        unfold stV at hblk
        have HBLK := Lib.hid hblk; have HS2 := Lib.hid hS2
        have KD := Lib.hid P1.out.draw
        obtain ⟨a0, a1, a2, a3, a4, a5, a6, a7⟩ := cells8 KD.out
        clear hby hl hS2 hblk p1 p2 p3 pB
        go_wp2_with fail
        go_region_law (go_simp; go_at_call 63; refine HBLK.out.mono ?_; rintro e wA ⟨v', rfl, hpA, hbA⟩; have KA := Lib.hid (KD.out.keep hbA KD.out.lt); obtain ⟨d0, d1, d2, d3, d4, d5, d6, d7⟩ := cells8 KA.out; obtain ⟨f0, f1, f2, f3, f4, f5, f6, f7⟩ := free8 KA.out)
        all_goals
          generalize hwD : ((((((((wA.setCell ⟨w.heap.size, 0, none⟩ (.int .u32 S2.a)).setCell ⟨w.heap.size, 1, none⟩ (.int .u32 S2.b)).setCell ⟨w.heap.size, 2, none⟩ (.int .u32 S2.c)).setCell ⟨w.heap.size, 3, none⟩ (.int .u32 S2.d)).setCell ⟨w.heap.size, 4, none⟩ (.int .u32 S2.e)).setCell ⟨w.heap.size, 5, none⟩ (.int .u32 S2.f)).setCell ⟨w.heap.size, 6, none⟩ (.int .u32 S2.g)).setCell ⟨w.heap.size, 7, none⟩ (.int .u32 S2.h)) = wD
          have kD1 : Blk wD w.heap.size 100 (stC S2) := by rw [← hwD]; exact chain8 S2 KA.out
          have kA2 : Blk wA (w.heap.size + 1) 90 #[.int .u8 0, .int .u8 0, .int .u8 0, .int .u8 0, .int .u8 0, .int .u8 0, .int .u8 0, .int .u8 0, .int .u8 0, .int .u8 0, .int .u8 0, .int .u8 0, .int .u8 0, .int .u8 0, .int .u8 0, .int .u8 0, .int .u8 0, .int .u8 0, .int .u8 0, .int .u8 0, .int .u8 0, .int .u8 0, .int .u8 0, .int .u8 0, .int .u8 0, .int .u8 0, .int .u8 0, .int .u8 0, .int .u8 0, .int .u8 0, .int .u8 0, .int .u8 0] := P2.out.draw.keep hbA P2.out.lt
          have kD2 : Blk wD (w.heap.size + 1) 90 #[.int .u8 0, .int .u8 0, .int .u8 0, .int .u8 0, .int .u8 0, .int .u8 0, .int .u8 0, .int .u8 0, .int .u8 0, .int .u8 0, .int .u8 0, .int .u8 0, .int .u8 0, .int .u8 0, .int .u8 0, .int .u8 0, .int .u8 0, .int .u8 0, .int .u8 0, .int .u8 0, .int .u8 0, .int .u8 0, .int .u8 0, .int .u8 0, .int .u8 0, .int .u8 0, .int .u8 0, .int .u8 0, .int .u8 0, .int .u8 0, .int .u8 0, .int .u8 0] := by
            rw [← hwD]
            exact (((((((kA2.away (by omega) _ _).away (by omega) _ _).away (by omega) _ _).away (by omega) _ _).away (by omega) _ _).away (by omega) _ _).away (by omega) _ _).away (by omega) _ _
          have kDB : Below w.heap.size w wD := by
            rw [← hwD]
            exact below_put (below_put (below_put (below_put (below_put (below_put (below_put (below_put ((PB.out.drew.trans (hbA.mono PB.out.size))) _ 0 (Nat.le_refl _) _) _ 1 (Nat.le_refl _) _) _ 2 (Nat.le_refl _) _) _ 3 (Nat.le_refl _) _) _ 4 (Nat.le_refl _) _) _ 5 (Nat.le_refl _) _) _ 6 (Nat.le_refl _) _) _ 7 (Nat.le_refl _) _
          have KD2 := Lib.hid kD2; have KDB := Lib.hid kDB
          clear a0 a1 a2 a3 a4 a5 a6 a7 d0 d1 d2 d3 d4 d5 d6 d7 f0 f1 f2 f3 f4 f5 f6 f7
          obtain ⟨a0, a1, a2, a3, a4, a5, a6, a7⟩ := cells8 kD1
          clear hwD kD1 kA2 kD2 kDB hbA KA KD P1 P2 P3 PB
          go_wp2_with (first
            | (go_at_call 67; refine (digest_x S2 _).mono ?_; rintro e wE ⟨rfl, hbE⟩; have kE := Lib.hid (KD2.out.keep hbE KD2.out.lt); have kEB := Lib.hid (KDB.out.trans (hbE.mono KDB.out.size)))
            | (refine sto_dg _ (S5.digest S2) (S5.digest_len S2) _ kE.out rfl (by rfl) _ _ (by rfl) (by rfl) (by rfl) ?_; intro wF hwF))
          have hfin : Blk wF (w.heap.size + 1) 90 (bsC (S5.digest S2)) := by rw [hwF.out]; exact kE.out.row _
          have hfB : Below w.heap.size w wF := by rw [hwF.out]; exact below_row kEB.out _ (by omega) _
          exact bodyPost_ret (results_cell_row rfl _ _ (w.heap.size + 1) _ _ _ _ rfl hfin Tryd.underlying90 rfl (infoDg _ (S5.digest_len S2))) rfl ⟨by rw [HS2.out], hfB⟩
  · have hbr : ¬ 56 ≤ r.length := by first | assumption | omega
    have hE : (64 : Nat) = if 56 ≤ r.length then 128 else 64 := by rw [if_neg hbr]
    obtain ⟨M, hM⟩ : ∃ M, M = S5.lastM r := ⟨_, rfl⟩
    have hlast : (S5.fillE M 64 n 8).take 64 = S5.lastB r n := by rw [hM]; exact S5.last_eq r n 64 hr hE
    have hMl : M.length = 128 := by rw [hM]; unfold S5.lastM; simp; omega
    have hMb : ∀ x ∈ M, x < 256 := by rw [hM]; exact S5.lastM_lt r HRB.out
    generalize hw2 : w1.setCell ⟨w.heap.size + 1 + 1, r.length, none⟩ (.int .u8 128) = w2
    have p3 : Blk w2 (w.heap.size + 1 + 1) 109 (bvC (S5.fillE M 64 n 0)) := by
      rw [← hw2]
      have := Q3.out.put r.length (.int .u8 128)
      rw [show (128 : Int) = ((128 : Nat) : Int) from rfl, bvC_set] at this
      show Blk _ _ _ (bvC M)
      rw [hM]
      exact this
    have p1 : Blk w2 w.heap.size 100 (stC s) := by rw [← hw2]; exact Blk.away ((hw1o.out _ (by omega)).trans K1.out) (by omega) _ _
    have p2 : Blk w2 (w.heap.size + 1) 90 #[.int .u8 0, .int .u8 0, .int .u8 0, .int .u8 0, .int .u8 0, .int .u8 0, .int .u8 0, .int .u8 0, .int .u8 0, .int .u8 0, .int .u8 0, .int .u8 0, .int .u8 0, .int .u8 0, .int .u8 0, .int .u8 0, .int .u8 0, .int .u8 0, .int .u8 0, .int .u8 0, .int .u8 0, .int .u8 0, .int .u8 0, .int .u8 0, .int .u8 0, .int .u8 0, .int .u8 0, .int .u8 0, .int .u8 0, .int .u8 0, .int .u8 0, .int .u8 0] := by rw [← hw2]; exact Blk.away ((hw1o.out _ (by omega)).trans K2.out) (by omega) _ _
    have pB : Below w.heap.size w w2 := by rw [← hw2]; exact below_put (hw1b.out _ _ B0.out (by omega)) _ _ (by omega) _
    have HLAST := Lib.hid hlast; have HML := Lib.hid hMl; have HMB := Lib.hid hMb
    clear hw2 hM hlast hMl hMb hE cu fu Q3 K1 K2 K3 B0 HV0 hw1o hw1b
    go_loopw [25] (fun kk wr => ∃ k : Nat, kk = .int .i64 k ∧ k ≤ 8 ∧ Blk wr w.heap.size 100 (stC s) ∧ Blk wr (w.heap.size + 1) 90 #[.int .u8 0, .int .u8 0, .int .u8 0, .int .u8 0, .int .u8 0, .int .u8 0, .int .u8 0, .int .u8 0, .int .u8 0, .int .u8 0, .int .u8 0, .int .u8 0, .int .u8 0, .int .u8 0, .int .u8 0, .int .u8 0, .int .u8 0, .int .u8 0, .int .u8 0, .int .u8 0, .int .u8 0, .int .u8 0, .int .u8 0, .int .u8 0, .int .u8 0, .int .u8 0, .int .u8 0, .int .u8 0, .int .u8 0, .int .u8 0, .int .u8 0, .int .u8 0] ∧ Blk wr (w.heap.size + 1 + 1) 109 (bvC (S5.fillE M 64 n k)) ∧ Below w.heap.size w wr) (fun kk _ => 8 - (intOf kk).toNat)
    case atStart => exact ⟨0, rfl, by omega, p1, p2, p3, pB⟩
    case round =>
      clear p1 p2 p3 pB
      obtain ⟨k, rfl, hk, p1, p2, p3, pB⟩ := hrel
      have P1 := Lib.hid p1; have P2 := Lib.hid p2; have P3 := Lib.hid p3; have PB := Lib.hid pB
      by_cases hlt : k < 8
      · have hkI : (k : Int) < 8 := by omega
        obtain ⟨i, hi⟩ : ∃ i, i = 64 - 1 - k := ⟨_, rfl⟩
        have hiI : (63 : Int) - (k : Int) = (i : Int) := by omega
        have ⟨cu, fu⟩ := cell_at p3 i (by rw [S5.fillE_len, HML.out]; omega)
        have hi128 : (i : Int) < 128 := by omega
        have HI := Lib.hid hi
        clear hi p1 p2 p3 pB
        go_wp2_with fail
        go_roundw
        case rel =>
          refine ⟨k + 1, by go_num, hlt, P1.out.away (by omega) _ _, P2.out.away (by omega) _ _, ?_, below_put PB.out _ _ (by omega) _⟩
          have hv : (n : Int) * 8 / 2 ^ (8 * k) % 256 = ((n * 8 / 2 ^ (8 * k) % 256 : Nat) : Int) := by simp
          have := P3.out.put i (.int .u8 ((n * 8 / 2 ^ (8 * k) % 256 : Nat) : Int))
          rw [bvC_set] at this
          rw [hv]
          show Blk _ _ _ (bvC ((S5.fillE M _ n k).set _ _))
          rw [← HI.out]
          exact this
        case measure => simp [intOf]; omega
      · obtain rfl : k = 8 := by omega
        have hby : Bytes wr.drew (.slice (some ⟨w.heap.size + 1 + 1, 0, none⟩) 64 128) (S5.lastB r n) := by
          have := blk_bytes p3.draw (S5.fillE_lt M HMB.out 64 n 8) 64 128 (by rw [S5.fillE_len, HML.out]; omega) (by omega) (by unfold maxLen; omega)
          rwa [HLAST.out] at this
        have hl : (S5.lastB r n).length = 64 := by rw [← HLAST.out, List.length_take, S5.fillE_len, HML.out]; omega
        obtain ⟨S2, hS2⟩ : ∃ S2, S2 = S5.runAll S5.K s (S5.lastB r n) := ⟨_, rfl⟩
        have hblk := blocks_x s (.slice (some ⟨w.heap.size + 1 + 1, 0, none⟩) 64 128) (S5.lastB r n) wr.drew (hT.below PB.out.drew hpos) hby
        rw [← hS2] at hblk
        unfold stV at hblk
        have HBLK := Lib.hid hblk; have HS2 := Lib.hid hS2
        have KD := Lib.hid P1.out.draw
        obtain ⟨a0, a1, a2, a3, a4, a5, a6, a7⟩ := cells8 KD.out
        clear hby hl hS2 hblk p1 p2 p3 pB
        go_wp2_with fail
        go_region_law (go_simp; go_at_call 63; refine HBLK.out.mono ?_; rintro e wA ⟨v', rfl, hpA, hbA⟩; have KA := Lib.hid (KD.out.keep hbA KD.out.lt); obtain ⟨d0, d1, d2, d3, d4, d5, d6, d7⟩ := cells8 KA.out; obtain ⟨f0, f1, f2, f3, f4, f5, f6, f7⟩ := free8 KA.out)
        all_goals
          generalize hwD : ((((((((wA.setCell ⟨w.heap.size, 0, none⟩ (.int .u32 S2.a)).setCell ⟨w.heap.size, 1, none⟩ (.int .u32 S2.b)).setCell ⟨w.heap.size, 2, none⟩ (.int .u32 S2.c)).setCell ⟨w.heap.size, 3, none⟩ (.int .u32 S2.d)).setCell ⟨w.heap.size, 4, none⟩ (.int .u32 S2.e)).setCell ⟨w.heap.size, 5, none⟩ (.int .u32 S2.f)).setCell ⟨w.heap.size, 6, none⟩ (.int .u32 S2.g)).setCell ⟨w.heap.size, 7, none⟩ (.int .u32 S2.h)) = wD
          have kD1 : Blk wD w.heap.size 100 (stC S2) := by rw [← hwD]; exact chain8 S2 KA.out
          have kA2 : Blk wA (w.heap.size + 1) 90 #[.int .u8 0, .int .u8 0, .int .u8 0, .int .u8 0, .int .u8 0, .int .u8 0, .int .u8 0, .int .u8 0, .int .u8 0, .int .u8 0, .int .u8 0, .int .u8 0, .int .u8 0, .int .u8 0, .int .u8 0, .int .u8 0, .int .u8 0, .int .u8 0, .int .u8 0, .int .u8 0, .int .u8 0, .int .u8 0, .int .u8 0, .int .u8 0, .int .u8 0, .int .u8 0, .int .u8 0, .int .u8 0, .int .u8 0, .int .u8 0, .int .u8 0, .int .u8 0] := P2.out.draw.keep hbA P2.out.lt
          have kD2 : Blk wD (w.heap.size + 1) 90 #[.int .u8 0, .int .u8 0, .int .u8 0, .int .u8 0, .int .u8 0, .int .u8 0, .int .u8 0, .int .u8 0, .int .u8 0, .int .u8 0, .int .u8 0, .int .u8 0, .int .u8 0, .int .u8 0, .int .u8 0, .int .u8 0, .int .u8 0, .int .u8 0, .int .u8 0, .int .u8 0, .int .u8 0, .int .u8 0, .int .u8 0, .int .u8 0, .int .u8 0, .int .u8 0, .int .u8 0, .int .u8 0, .int .u8 0, .int .u8 0, .int .u8 0, .int .u8 0] := by
            rw [← hwD]
            exact (((((((kA2.away (by omega) _ _).away (by omega) _ _).away (by omega) _ _).away (by omega) _ _).away (by omega) _ _).away (by omega) _ _).away (by omega) _ _).away (by omega) _ _
          have kDB : Below w.heap.size w wD := by
            rw [← hwD]
            exact below_put (below_put (below_put (below_put (below_put (below_put (below_put (below_put ((PB.out.drew.trans (hbA.mono PB.out.size))) _ 0 (Nat.le_refl _) _) _ 1 (Nat.le_refl _) _) _ 2 (Nat.le_refl _) _) _ 3 (Nat.le_refl _) _) _ 4 (Nat.le_refl _) _) _ 5 (Nat.le_refl _) _) _ 6 (Nat.le_refl _) _) _ 7 (Nat.le_refl _) _
          have KD2 := Lib.hid kD2; have KDB := Lib.hid kDB
          clear a0 a1 a2 a3 a4 a5 a6 a7 d0 d1 d2 d3 d4 d5 d6 d7 f0 f1 f2 f3 f4 f5 f6 f7
          obtain ⟨a0, a1, a2, a3, a4, a5, a6, a7⟩ := cells8 kD1
          clear hwD kD1 kA2 kD2 kDB hbA KA KD P1 P2 P3 PB
          go_wp2_with (first
            | (go_at_call 67; refine (digest_x S2 _).mono ?_; rintro e wE ⟨rfl, hbE⟩; have kE := Lib.hid (KD2.out.keep hbE KD2.out.lt); have kEB := Lib.hid (KDB.out.trans (hbE.mono KDB.out.size)))
            | (refine sto_dg _ (S5.digest S2) (S5.digest_len S2) _ kE.out rfl (by rfl) _ _ (by rfl) (by rfl) (by rfl) ?_; intro wF hwF))
          have hfin : Blk wF (w.heap.size + 1) 90 (bsC (S5.digest S2)) := by rw [hwF.out]; exact kE.out.row _
          have hfB : Below w.heap.size w wF := by rw [hwF.out]; exact below_row kEB.out _ (by omega) _
          exact bodyPost_ret (results_cell_row rfl _ _ (w.heap.size + 1) _ _ _ _ rfl hfin Tryd.underlying90 rfl (infoDg _ (S5.digest_len S2))) rfl ⟨by rw [HS2.out], hfB⟩
end Go.Proofs.YtgfolgmheinbiaaDoorRRR
