/- The reference's padded. -/
import Derived.Test.YtgfolgmheinbiaaDoorRRRSum
import Derived.Test.YtgfolgmheinbiaaDoorRRRPush
namespace S5
theorem bits_next (n k : Nat) (hk : k < 8) : (bitsOf n).take (k + 1) = (bitsOf n).take k ++ [n * 8 / 2 ^ (8 * (7 - k)) % 256] := by
  have hl := bitsOf_len n
  rw [List.take_succ_eq_append_getElem (by omega)]
  congr 2
  simp [bitsOf]

theorem pad_step (n j : Nat) (hj : j ≤ (119 - n % 64) % 64) : (n + 1 + j) % 64 = 56 ↔ j = (119 - n % 64) % 64 := by omega
end S5
namespace Go.Proofs.YtgfolgmheinbiaaDoorRRR
open Go.RowKit

set_option maxRecDepth 100000 in
set_option maxHeartbeats 2000000 in
theorem padded_any (v : Value) (l : List Nat) (hn : l.length ≤ 100000000) (w : World) (hv : Bytes w v l) :
    Calls Tryd.prog 59 #[v] w fun e w' => ∃ v', e = .returned v' ∧ Hid (OwnL w.heap.size w' v' (S5.pad l)) ∧ Below w.heap.size w w' := by
  have HV := Lib.hid hv
  obtain ⟨_, x0, cap0, hv0, hcl, hcm, _, _⟩ := hv
  subst hv0
  have hnI : (l.length : Int) ≤ 100000000 := by omega
  obtain ⟨z, hz⟩ : ∃ z, z = (119 - l.length % 64) % 64 := ⟨_, rfl⟩
  have hz64 : z < 64 := by omega
  have HZ := Lib.hid hz
  clear hz
  go_enter Tryd.func59, Tryd.ntmps59
  go_upto_region 1 with (fail)
  have hE := Lib.hid (OwnL.empty w)
  have hbA : Below w.heap.size w (w.alloc (.cells #[] 5)) := (Below.refl _ w).alloc (Nat.le_refl _) _
  have HVA := Lib.hid (HV.out.below hbA)
  have HBA := Lib.hid hbA
  have hszA : w.heap.size ≤ (w.alloc (.cells #[] 5)).heap.size := by simp
  clear hbA
  go_wp2_with (at_builtin; first
    | (refine wpList_append_bytes _ rfl _ _ rfl w.heap.size _ 0 [] rfl hE.out _ l rfl HVA.out (by omega) hszA ?_; intro v1 w1 ho1 hg1 _; have hb1 := Lib.hid (HBA.out.grown hg1.out hszA (ownBlock_ge hE.out)); have hs1 := Lib.hid (show ∀ o, w.heap.size ≤ (w1.alloc o).heap.size by intro o; have := hb1.out.size; simp; omega); have Ho1 := Lib.hid (show OwnL w.heap.size w1 v1 l by have := ho1.out; rw [Nat.zero_add, List.nil_append] at this; exact this); clear ho1 hg1)
    | (refine wpList_push1 _ w.heap.size v1 l (Ho1.out.more _) w1.heap.size 1 128 (cell_new1 _ _ _) (by omega) (hs1.out _) rfl _ _ rfl rfl rfl ?_; intro v2 w2 ho2 hg2; have hb2 := Lib.hid ((Ho1.out.more _).grown hg2.out (hb1.out.alloc hb1.out.size _) (hs1.out _) (Nat.le_refl _)); clear hg2))
  obtain ⟨x2, m2, c2, hv2, hm2⟩ := ho2.out.slice'
  subst hv2
  have st : OwnL w.heap.size w2 (.slice x2 m2 c2) (l ++ 128 :: List.replicate 0 0) := ho2.out
  have hm2' : m2 = l.length + 1 + 0 := by rw [hm2.out]; simp
  have HM2 := Lib.hid hm2'
  clear hm2 hm2'
  have ST := Lib.hid st
  have hB2 := hb2.out
  clear ho2 hb2 hb1 hs1 Ho1 hE HVA HBA hszA st
  go_loopw [3] (fun vv wr => ∃ (j : Nat) (x : Option Addr) (c m : Nat), vv = .slice x m c ∧ j ≤ z ∧ Hid (m = l.length + 1 + j) ∧ Hid (OwnL w.heap.size wr (.slice x m c) (l ++ 128 :: List.replicate j 0)) ∧ Below w.heap.size w wr) (fun vv _ => l.length + 1 + z - lenOf vv)
  case atStart => exact ⟨0, x2, c2, m2, rfl, Nat.zero_le _, HM2, ST, hB2⟩
  case round =>
    clear ST hB2 HM2
    obtain ⟨j, x, c, m, rfl, hj, hm, ho, hB⟩ := hrel
    have hmI : (m : Int) ≤ 200000000 := by have := hm.out; omega
    obtain ⟨q, hq⟩ : ∃ q, q = m % 64 := ⟨_, rfl⟩
    have htm : (m : Int).tmod 64 = (q : Int) := by rw [Int.tmod_eq_emod_of_nonneg (by omega)]; omega
    have hstep := S5.pad_step l.length j (by rw [← HZ.out]; exact hj)
    rw [← HZ.out, ← hm.out, ← hq] at hstep
    have hsB : ∀ o, w.heap.size ≤ (wr.alloc o).heap.size := by intro o; have := hB.size; simp; omega
    have HSB := Lib.hid hsB; have HST := Lib.hid hstep
    clear hq hsB hstep
    by_cases hjz : j = z
    · have hq56 : q = 56 := HST.out.2 hjz
      have hne : ((q : Int) != 56) = false := by simp; omega
      have hdone : OwnL w.heap.size wr (.slice x m c) (l ++ 128 :: List.replicate z 0 ++ (S5.bitsOf l.length).take 0) := by rw [← hjz]; simpa using ho.out
      have HD := Lib.hid hdone
      clear hdone ho HST hj
      subst hjz
      go_wp2_with fail
      go_loopw [3, 5] (fun vv ii wr => ∃ (k : Nat) (x : Option Addr) (c m : Nat), vv = .slice x m c ∧ ii = .int .i64 (7 - (k : Int)) ∧ k ≤ 8 ∧ Hid (OwnL w.heap.size wr (.slice x m c) (l ++ 128 :: List.replicate j 0 ++ (S5.bitsOf l.length).take k)) ∧ Below w.heap.size w wr) (fun _ ii _ => (intOf ii + 1).toNat)
      case atStart => exact ⟨0, x, c, m, rfl, rfl, by omega, HD, hB⟩
      case round =>
        clear HD hB htm hne hmI hm HSB hq56
        obtain ⟨k, x, c, m, rfl, rfl, hk, ho, hB⟩ := hrel
        have hsB : ∀ o, w.heap.size ≤ (wr.alloc o).heap.size := by intro o; have := hB.size; simp; omega
        have HSB := Lib.hid hsB
        clear hsB
        by_cases hk8 : k < 8
        · obtain ⟨i, hi⟩ : ∃ i, i = 7 - k := ⟨_, rfl⟩
          have hiI : (7 : Int) - (k : Int) = (i : Int) := by omega
          have hi7 : (i : Int) ≤ 7 := by omega
          rw [hiI]
          obtain ⟨b, hb⟩ : ∃ b, b = l.length * 8 / 2 ^ (8 * i) % 256 := ⟨_, rfl⟩
          have hv8 : (l.length : Int) * 8 / 2 ^ (8 * i) % 256 = (b : Int) := by rw [hb]; simp
          have hnext := S5.bits_next l.length k hk8
          rw [← hi, ← hb] at hnext
          have HN := Lib.hid hnext; have HI := Lib.hid hi
          have hlen : (l ++ 128 :: List.replicate j 0 ++ (S5.bitsOf l.length).take k).length ≤ 1000000000 := by
            simp [S5.bitsOf_len]; omega
          have HLEN := Lib.hid hlen
          clear hnext hi hb hlen
          go_wp2_with (at_builtin; refine wpList_push1 _ w.heap.size _ _ (ho.out.more _) wr.heap.size 1 b (cell_new1 _ _ _) HLEN.out (HSB.out _) rfl _ _ rfl rfl rfl ?_; intro v3 w3 ho3 hg3; have hb3 := Lib.hid ((ho.out.more _).grown hg3.out (hB.alloc hB.size _) (HSB.out _) (Nat.le_refl _)); obtain ⟨x3, m3, c3, rfl, hm3⟩ := ho3.out.slice'; clear hg3)
          go_roundw
          case rel => exact ⟨k + 1, x3, c3, m3, rfl, by congr 1; omega, by omega, Lib.hid (by rw [HN.out, ← List.append_assoc]; exact ho3.out), hb3.out⟩
          case measure => first | (simp [intOf]; done) | (simp [intOf]; omega)
        · obtain rfl : k = 8 := by omega
          have hres : OwnL w.heap.size wr (.slice x m c) (S5.pad l) := by
            have := ho.out
            rw [List.take_of_length_le (by rw [S5.bitsOf_len]; omega)] at this
            unfold S5.pad
            rw [← HZ.out]
            exact this
          have HRES := Lib.hid hres
          clear hres ho
          go_wp2_with fail
          go_ret
          exact ⟨_, rfl, HRES, hB⟩
    · have hne : ((q : Int) != 56) = true := by
        have : q ≠ 56 := fun e => hjz (HST.out.1 e)
        simp; omega
      have hlen : (l ++ 128 :: List.replicate j 0).length ≤ 1000000000 := by simp; omega
      have HLEN := Lib.hid hlen
      clear HST hlen
      go_wp2_with (at_builtin; refine wpList_push1 _ w.heap.size _ _ (ho.out.more _) wr.heap.size 1 0 (cell_new1 _ _ _) HLEN.out (HSB.out _) rfl _ _ rfl rfl rfl ?_; intro v3 w3 ho3 hg3; have hb3 := Lib.hid ((ho.out.more _).grown hg3.out (hB.alloc hB.size _) (HSB.out _) (Nat.le_refl _)); obtain ⟨x3, m3, c3, rfl, hm3⟩ := ho3.out.slice'; clear hg3)
      go_roundw
      case rel => exact ⟨j + 1, x3, c3, m3, rfl, by omega, Lib.hid (by rw [hm3.out]; simp; omega), Lib.hid (by rw [List.replicate_succ', ← List.cons_append, ← List.append_assoc]; exact ho3.out), hb3.out⟩
      case measure => have := hm.out; have hm3' : m3 = l.length + 1 + (j + 1) := by { rw [hm3.out]; simp; omega }; simp [lenOf]; omega
end Go.Proofs.YtgfolgmheinbiaaDoorRRR
