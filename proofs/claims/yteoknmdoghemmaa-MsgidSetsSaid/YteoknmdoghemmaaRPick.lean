/- The reference's Pick; the law's conversion as a row of its own. -/
import Derived.Test.YteoknmdoghemmaaRSet
import Derived.Test.YteoknmdoghemmaaOps
import Derived.Test.YteoknmdoghemmaaTo
namespace Mid
def pickL (a b : List Id) (q : Bool) : List Id := a.filter fun u => decide (u ∈ b) == q
theorem pick_snoc (a : List Id) (x : Id) (b : List Id) (q : Bool) : pickL (a ++ [x]) b q = if (decide (x ∈ b) == q) = true then pickL a b q ++ [x] else pickL a b q := by
  unfold pickL
  rw [List.filter_append]
  by_cases h : (decide (x ∈ b) == q) = true
  · rw [if_pos h]; simp [List.filter, h]
  · rw [if_neg h]; simp [List.filter, h]
theorem pick_len (a b : List Id) (q : Bool) : (pickL a b q).length ≤ a.length := List.length_filter_le _ _
theorem pick_mem (a b : List Id) (q : Bool) (u : Id) : u ∈ pickL a b q ↔ u ∈ a ∧ decide (u ∈ b) = q := by
  unfold pickL; rw [List.mem_filter]; simp
end Mid
namespace Go.Proofs.Yteoknmdoghemmaa
open Go.RowKit Go.Shelf

set_option maxRecDepth 100000 in
set_option maxHeartbeats 1000000 in
/-- to, as a row of the call's own -/
theorem toOwn_any (v : Value) (ls : List Mid.Id) (w : World) (hn : ls.length ≤ 40) (hv : Ids w v ls) :
    Calls Try.prog 21 #[v] w fun e w' => ∃ v', e = .returned v' ∧ OwnI 30 w.heap.size w' v' ls ∧ Below w.heap.size w w' := by
  obtain ⟨ad, cap, rfl, hlc, hcm, _, hcells⟩ := hv
  obtain ⟨n, hnn⟩ : ∃ n, n = ls.length := ⟨_, rfl⟩
  rw [← hnn]
  have hnI : (n : Int) ≤ 40 := by omega
  have HN := Lib.hid hnn; have HCL := Lib.hid hcells
  clear hnn hcells hlc hcm hn
  go_enter Try.func21, Try.ntmps21
  go_wp2_with fail
  go_loopw [3, 4] (fun o i wr => ∃ (k : Nat) (v : Value), v = o ∧ i = .int .i64 k ∧ k ≤ n ∧ Hid (OwnI 30 w.heap.size wr v (ls.take k)) ∧ Hid (Below w.heap.size w wr)) (fun _ i _ => n - (intOf i).toNat)
  case atStart => exact ⟨0, _, rfl, rfl, Nat.zero_le _, Lib.hid (World.ownsRow_nil _ _ _ _), Lib.hid (Below.refl _ _)⟩
  case round =>
    obtain ⟨k, v, rfl, rfl, hk, ho, hbl⟩ := hrel
    by_cases hlt : k < n
    · have hkl : k < ls.length := by rw [← HN.out]; exact hlt
      rcases HCL.out with h0 | ⟨b, off, rfl, hc⟩
      · rw [h0] at hkl; exact absurd hkl (by simp)
      · have hblt : b < w.heap.size := hc.lt (by intro h; rw [h] at hkl; exact absurd hkl (by simp))
        have hrg := (hc.keep hbl.out hblt).range k hkl
        have hts : ls.take (k + 1) = ls.take k ++ [ls[k]!] := by rw [List.take_succ_eq_append_getElem hkl, getE ls k hkl]
        generalize ls[k]! = y at *
        have HTS := Lib.hid hts; have HRG := Lib.hid hrg
        have hltI : (k : Int) < (n : Int) := by omega
        have hk40 : (k : Int) < 40 := by omega
        have hiY := info_enc infoId y
        have hle := encI_len y
        clear hts hkl hc hrg
        obtain ⟨i0, hi0, hz0, hz1, hz2⟩ := info_partsM infoRI
        have HI0 := Lib.hid (And.intro hi0 (And.intro hz0 (And.intro hz1 hz2)))
        have HC := Lib.hid (show ∀ C, C = (encI y).toArray → (wr.alloc (.cells C 30)).rangeAt wr.heap.size 0 (encI y) from fun C hC => by rw [hC]; exact encBlk (Blk.fresh wr _ _))
        have hsz := hbl.out.size
        have hlen : (ls.take k).length ≤ 1000000 := by rw [List.length_take]; omega
        have HLN := Lib.hid hlen
        have HSZ := Lib.hid (show ∀ o, w.heap.size ≤ (wr.alloc o).heap.size from fun o => by simp; omega)
        clear hi0 hz0 hz1 hz2 hlen
        go_wp2_with (first
          | (refine wpList_load_mid rfl _ _ rfl b (off + k * 32) (by rfl) (encI y) _ HRG.out Try.underlying23 rfl hiY ?_)
          | (refine wpList_append_id Try.underlying42 HI0.out.1 HI0.out.2.1 HI0.out.2.2.1 HI0.out.2.2.2 rfl _ _ rfl w.heap.size v (ls.take k) (by rfl) (ho.out.alloc _) wr.heap.size 0 1 y (by rfl) (HC.out _ (fold_enc y)) HLN.out (HSZ.out _) ?_; intro v2 w2 ho2 hg2))
        go_roundw
        case rel => exact ⟨k + 1, _, rfl, by go_num, hlt, by rw [HTS.out]; exact ho2, Lib.hid ((hbl.out.alloc hsz _).grown hg2.out (HSZ.out _) (fun j hj => (ho.out.lt j hj).1))⟩
        case measure => simp [intOf]; omega
    · have hfull : ls.take k = ls := List.take_of_length_le (by rw [← HN.out]; omega)
      have hids := ho.out
      rw [hfull] at hids
      have HID := Lib.hid hids
      clear hfull hids
      go_wp2_with fail
      go_ret
      exact ⟨_, rfl, HID.out, hbl.out⟩

set_option maxRecDepth 100000 in
set_option maxHeartbeats 2000000 in
theorem refPick_any (v v2 : Value) (ls b2 : List Mid.Id) (q : Bool) (w : World) (hn : ls.length ≤ 40) (hn2 : b2.length ≤ 40) (hv : Ids w v ls) (hv2 : Ids w v2 b2) :
    Calls Try.prog 27 #[v, v2, .bool q] w fun e w' => ∃ v' D, e = .returned v' ∧ Ids w' v' D ∧ Mid.Asc' D ∧ (∀ u, u ∈ D ↔ u ∈ ls ∧ decide (u ∈ b2) = q) ∧ D.length ≤ 40 ∧ Below w.heap.size w w' := by
  have HH := Lib.hid (fun x W h => refHas_any v2 b2 x W (by omega) h)
  have HS := Lib.hid (fun W u l h1 h => refSet_any u l W h1 h)
  have HPM := Lib.hid (Mid.pick_mem ls b2 q)
  have HPL := Lib.hid (Mid.pick_len ls b2 q)
  have V2 := Lib.hid hv2
  obtain ⟨ad, cap, rfl, hlc, hcm, _, hcells⟩ := hv
  obtain ⟨n, hnn⟩ : ∃ n, n = ls.length := ⟨_, rfl⟩
  rw [← hnn] at hn ⊢
  have HN := Lib.hid hnn; have HCL := Lib.hid hcells; have H40 := Lib.hid hn
  have hu30 : Try.prog.underlying 30 = some (.array 32 5) := Try.underlying30
  clear hnn hcells hlc hcm hn hv2 hn2
  go_enter Try.func27, Try.ntmps27
  go_wp2_with fail
  go_loopw [7, 8] (fun o i wr => ∃ (k : Nat) (v : Value), v = o ∧ i = .int .i64 k ∧ k ≤ n ∧ Hid (OwnI 30 w.heap.size wr v (Mid.pickL (ls.take k) b2 q)) ∧ Hid (Below w.heap.size w wr)) (fun _ i _ => n - (intOf i).toNat)
  case atStart => exact ⟨0, _, rfl, rfl, Nat.zero_le _, Lib.hid (World.ownsRow_nil _ _ _ _), Lib.hid (Below.refl _ _)⟩
  case round =>
    obtain ⟨k, v, rfl, rfl, hk, ho, hbl⟩ := hrel
    by_cases hlt : k < n
    · have hkl : k < ls.length := by rw [← HN.out]; exact hlt
      rcases HCL.out with h0 | ⟨b, off, rfl, hc⟩
      · rw [h0] at hkl; exact absurd hkl (by simp)
      · have hblt : b < w.heap.size := hc.lt (by intro h; rw [h] at hkl; exact absurd hkl (by simp))
        have hrg := (hc.keep hbl.out hblt).range k hkl
        have hrgk := fun W (hb : Below w.heap.size w W) => (hc.keep hb hblt).range k hkl
        have hts : Mid.pickL (ls.take (k + 1)) b2 q = (if (decide (ls[k]! ∈ b2) == q) = true then Mid.pickL (ls.take k) b2 q ++ [ls[k]!] else Mid.pickL (ls.take k) b2 q) := by rw [List.take_succ_eq_append_getElem hkl, getE ls k hkl]; exact Mid.pick_snoc _ _ _ _
        have hpl := Mid.pick_len (ls.take k) b2 q
        rw [List.length_take] at hpl
        generalize Mid.pickL (ls.take k) b2 q = O at *
        generalize ls[k]! = y at *
        have HTS := Lib.hid hts
        have HR0 := Lib.hid hrg
        have HRK := Lib.hid (fun W (hb : Below wr.heap.size wr W) => hrgk W (hbl.out.trans (hb.mono hbl.out.size)))
        have hltI : (k : Int) < (n : Int) := by omega
        have hk40 : (k : Int) < 40 := by have := H40.out; omega
        have hiY := info_enc infoRid y
        have hle := encI_len y
        have HX := Lib.hid (HH.out y)
        obtain ⟨i0, hi0, hz0, hz1, hz2⟩ := info_partsM infoRI
        have HI0 := Lib.hid (And.intro hi0 (And.intro hz0 (And.intro hz1 hz2)))
        have HLN := Lib.hid (show O.length ≤ 1000000 by have := H40.out; omega)
        clear hts hkl hc hrg hrgk hi0 hz0 hz1 hz2 hpl
        go_wp2_with (refine wpList_load_mid rfl _ _ rfl b (off + k * 32) (by rfl) (encI y) _ HR0.out hu30 rfl hiY ?_)
        refine (HX.out _ (V2.out.below hbl.out)).mono ?_
        rintro e w3 ⟨rfl, hb3⟩
        have B3 := Lib.hid (hbl.out.trans (hb3.mono hbl.out.size))
        have O3 := Lib.hid (show OwnI 30 w.heap.size w3 v O from ho.out.keep hb3)
        have R3 := Lib.hid (HRK.out _ hb3)
        clear hb3 HR0 HRK ho hbl
        have HC := Lib.hid (show ∀ C, C = (encI y).toArray → (w3.alloc (.cells C 30)).rangeAt w3.heap.size 0 (encI y) from fun C hC => by rw [hC]; exact encBlk (Blk.fresh w3 _ _))
        have hsz := B3.out.size
        have HSZ := Lib.hid (show ∀ o, w.heap.size ≤ (w3.alloc o).heap.size from fun o => by simp; omega)
        have HTS2 := Lib.hid HTS.out
        generalize hd : decide (y ∈ b2) = p at *
        have hts := HTS2.out
        clear HTS HTS2
        by_cases hpq : p = q
        · subst hpq
          rw [if_pos (by simp)] at hts
          have HTS := Lib.hid hts
          clear hts hd
          go_wp2_with (first
            | (refine wpList_load_mid rfl _ _ rfl b (off + k * 32) (by rfl) (encI y) _ R3.out hu30 rfl hiY ?_)
            | (refine wpList_append_id Try.underlying42 HI0.out.1 HI0.out.2.1 HI0.out.2.2.1 HI0.out.2.2.2 rfl _ _ rfl w.heap.size v O (by rfl) (O3.out.alloc _) w3.heap.size 0 1 y (by rfl) (HC.out _ (fold_enc y)) HLN.out (HSZ.out _) ?_; intro v2 w2 ho2 hg2))
          go_roundw
          case rel => exact ⟨k + 1, _, rfl, by go_num, hlt, by rw [HTS.out]; exact ho2, Lib.hid ((B3.out.alloc hsz _).grown hg2.out (HSZ.out _) (fun j hj => (O3.out.lt j hj).1))⟩
          case measure => simp [intOf]; omega
        · rw [if_neg (by simpa using hpq)] at hts
          have HTS := Lib.hid hts
          have hbe : (p == q) = false := by simpa using hpq
          clear hts hd
          go_wp2_with fail
          go_roundw
          case rel => exact ⟨k + 1, _, rfl, by go_num, hlt, by rw [HTS.out]; exact O3, B3⟩
          case measure => simp [intOf]; omega
    · have hfull : ls.take k = ls := List.take_of_length_le (by rw [← HN.out]; omega)
      have hown := ho.out
      rw [hfull] at hown
      have HID := Lib.hid hown.ids
      have HLE := Lib.hid (show (Mid.pickL ls b2 q).length ≤ 40 by have := HPL.out; have := HN.out; have := H40.out; omega)
      generalize Mid.pickL ls b2 q = P at *
      clear hfull hown ho
      go_wp2_with fail
      refine (HS.out _ _ _ (by have := HLE.out; omega) HID.out).mono ?_
      rintro e w5 ⟨v5, D, rfl, hi5, ha5, hm5, hl5, hb5⟩
      have I5 := Lib.hid hi5; have A5 := Lib.hid ha5; have M5 := Lib.hid hm5; have B5 := Lib.hid (hbl.out.trans (hb5.mono hbl.out.size)); have L5 := Lib.hid (show D.length ≤ 40 by have := HLE.out; omega)
      clear hi5 ha5 hm5 hb5 hl5
      go_wp2_with fail
      go_ret
      exact ⟨_, D, rfl, I5.out, A5.out, (fun u => by rw [M5.out u]; exact HPM.out u), L5.out, B5.out⟩
end Go.Proofs.Yteoknmdoghemmaa
