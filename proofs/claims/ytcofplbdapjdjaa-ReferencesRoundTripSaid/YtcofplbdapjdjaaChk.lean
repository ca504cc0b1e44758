/- The program's add and Check, the reference's Check. -/
import Derived.Test.YtcofplbdapjdjaaOcc
namespace Mid
/-- the first error from place k on -/
def chkAt (l : List Id) : Nat → List Id → Nat
  | _, [] => 0
  | k, x :: r => if x = default then 1 else if x ∈ l.take k then 7 else chkAt l (k + 1) r
def chk (l : List Id) : Nat := if 20 < l.length then 9 else chkAt l 0 l
theorem chkAt_step (l : List Id) (k : Nat) (h : k < l.length) : chkAt l k (l.drop k) = if l[k]! = default then 1 else if l[k]! ∈ l.take k then 7 else chkAt l (k + 1) (l.drop (k + 1)) := by
  rw [List.drop_eq_getElem_cons h, chkAt, getElem!_pos l k h]
theorem chkAt_end (l : List Id) (k : Nat) (h : l.length ≤ k) : chkAt l k (l.drop k) = 0 := by rw [List.drop_eq_nil_of_le h]; rfl
end Mid
namespace Go.Proofs.Ytcofplbdapjdjaa
open Go.RowKit

theorem isZero_id (x : Mid.Id) (w : World) : Calls Try.prog 44 #[.agg (encI x).toArray] w fun e w' => e = .returned (.bool (decide (x = default))) ∧ Below w.heap.size w w' := by
  have h := isZero_any x.1 x.2.1 w
  rw [encI_arr]
  have e : decide (x.1 = List.replicate 32 0) = decide (x = default) := by
    rw [decide_eq_decide]
    exact ⟨fun h => Subtype.ext h, fun h => by rw [h]; rfl⟩
  rwa [e] at h
def addE (S : List Mid.Id) (x : Mid.Id) : Nat := if x = default then 1 else if x ∈ S then 7 else 0

set_option maxRecDepth 100000 in
set_option maxHeartbeats 1000000 in
theorem add_any (b n : Nat) (S : List Mid.Id) (x : Mid.Id) (w : World) (h : Occ w b n S) (hn : n < 1000) :
    Calls Try.prog 36 #[.map (some b), .agg (encI x).toArray] w fun e w' => e = .returned (.int .i64 (addE S x)) ∧ (addE S x = 0 → Occ w' b (n + 1) (S ++ [x])) ∧ w.grownBy w' (some b) := by
  have HZ := Lib.hid (fun W => isZero_id x W)
  have hB : Below w.heap.size w (w.alloc (.cells (encI x).toArray 46)) := (Below.refl _ w).alloc (Nat.le_refl _) _
  have hA := encBlk (Blk.fresh w 46 (encI x).toArray)
  have HF := Lib.hid (Blk.fresh w 46 (encI x).toArray)
  have hO := h.below hB
  have HLT := Lib.hid h.lt
  have hix := info_enc infoId x
  have hu := Try.underlying46
  have hM : Try.prog.underlying 71 = some (.map 46 4) := Try.underlying71
  have HN := Lib.hid (show n < maxLen by unfold maxLen; omega)
  have HADD := Lib.hid (show addE S x = if x = default then 1 else if x ∈ S then 7 else 0 from rfl)
  generalize addE S x = q at *
  go_enter Try.func36, Try.ntmps36
  go_upto_region 1 with (fail)
  generalize w.alloc (.cells (encI x).toArray 46) = W0 at *
  have HA := Lib.hid hA; have HB := Lib.hid hB; have HO := Lib.hid hO
  clear hA hB hO hn h
  go_wp2_with (refine wpList_load_mid rfl _ _ rfl w.heap.size 0 (by rfl) (encI x) _ HA.out hu rfl hix ?_)
  refine (HZ.out _).mono ?_
  rintro e w' ⟨rfl, hb⟩
  have HB2 := Lib.hid (HB.out.trans (hb.mono HB.out.size)); have HO2 := Lib.hid (HO.out.below hb)
  have HF2 := Lib.hid (encBlk (HF.out.keep hb HF.out.lt))
  clear hb
  by_cases hz : x = default
  · rw [decide_eq_true hz]
    have hq := HADD.out
    rw [if_pos hz] at hq
    subst hq
    clear hz HADD
    go_wp2_with fail
    go_ret
    exact ⟨rfl, (fun h => by cases h), bl_grownBy HB2.out _⟩
  · rw [decide_eq_false hz]
    have hq := HADD.out
    rw [if_neg hz] at hq
    clear HADD hz
    by_cases hm : x ∈ S
    · rw [if_pos hm] at hq
      subst hq
      have hd := decide_eq_true hm
      have HD := Lib.hid hd
      clear hm hd
      go_wp2_with (first
        | (refine wpList_load_mid rfl _ _ rfl w.heap.size 0 (by rfl) (encI x) _ HF2.out hu rfl hix ?_)
        | (refine wpList_occ rfl _ _ _ hM rfl b n S x (by rfl) (by rfl) HO2.out ?_; rw [HD.out]))
      go_ret
      exact ⟨rfl, (fun h => by cases h), bl_grownBy HB2.out _⟩
    · rw [if_neg hm] at hq
      subst hq
      have hd := decide_eq_false hm
      have HD := Lib.hid hd
      clear hm hd
      go_wp2_with (first
        | (refine wpList_load_mid rfl _ _ rfl w.heap.size 0 (by rfl) (encI x) _ HF2.out hu rfl hix ?_)
        | (refine wpList_occ rfl _ _ _ hM rfl b n S x (by rfl) (by rfl) HO2.out ?_; rw [HD.out])
        | (refine wpList_occ_put rfl _ _ _ _ hM rfl b n S x (by rfl) (by rfl) (by rfl) HO2.out HN.out ?_; intro w3 O3 G3))
      go_ret
      exact ⟨rfl, (by first | exact O3.out | exact fun _ => O3.out), ⟨G3.out.os.trans HB2.out.os, G3.out.tape.trans HB2.out.tape, G3.out.output.trans HB2.out.output, Nat.le_trans HB2.out.size G3.out.size, fun i hi hne => (G3.out.block i (Nat.lt_of_lt_of_le hi HB2.out.size) hne).trans (HB2.out.block i hi)⟩⟩

set_option maxRecDepth 100000 in
set_option maxHeartbeats 1000000 in
theorem check_any (v : Value) (ls : List Mid.Id) (w : World) (hv : Ids w v ls) :
    Calls Try.prog 16 #[v] w fun e w' => e = .returned (.int .i64 (Mid.chk ls)) ∧ Below w.heap.size w w' := by
  have HA := Lib.hid (fun b n S x W h hn => add_any b n S x W h hn)
  obtain ⟨ad, cap, rfl, hlc, hcm, _, hcells⟩ := hv
  unfold maxLen at hcm
  have HR := Lib.hid (show Mid.chk ls = if 20 < ls.length then 9 else Mid.chkAt ls 0 ls from rfl)
  generalize Mid.chk ls = q at *
  obtain ⟨n, hnn⟩ : ∃ n, n = ls.length := ⟨_, rfl⟩
  rw [← hnn] at HR hlc ⊢
  by_cases hbig : 20 < n
  · have hI : (20 : Int) < (n : Int) := by omega
    have hq := HR.out
    rw [if_pos hbig] at hq
    subst hq
    clear HR hcells hlc hcm hnn hbig HA
    go_enter Try.func16, Try.ntmps16
    go_wp2_with fail
    go_ret
    exact ⟨rfl, Below.refl _ _⟩
  · have hI : ¬ (20 : Int) < (n : Int) := by omega
    have hq := HR.out
    rw [if_neg hbig] at hq
    have HQ := Lib.hid hq
    have hnI : (n : Int) ≤ 20 := by omega
    have HN := Lib.hid hnn; have HCL := Lib.hid hcells
    have HE := Lib.hid (show ∀ S x, addE S x = if x = default then 1 else if x ∈ S then 7 else 0 from fun _ _ => rfl)
    have hu : Try.prog.underlying 46 = some (.array 32 5) := Try.underlying46
    clear HR hcells hlc hcm hnn hbig hq
    go_enter Try.func16, Try.ntmps16
    have hmm := @run_makeMap Try.prog
    go_wp2_with fail
    go_loopw [13] (fun i wr => ∃ k : Nat, i = .int .i64 k ∧ k ≤ n ∧ Hid (Mid.chkAt ls k (ls.drop k) = q) ∧ Hid (Occ wr w.heap.size k (ls.take k)) ∧ Hid (Below w.heap.size w wr)) (fun i _ => n - (intOf i).toNat)
    case atStart => exact ⟨0, rfl, Nat.zero_le _, Lib.hid (by rw [HQ.out]; rfl), Lib.hid (by simpa using Occ.made w), Lib.hid ((Below.refl _ w).alloc (Nat.le_refl _) _)⟩
    case round =>
      clear HQ
      obtain ⟨k, rfl, hk, hf, ho, hbl⟩ := hrel
      by_cases hlt : k < n
      · have hkl : k < ls.length := by rw [← HN.out]; exact hlt
        rcases HCL.out with h0 | ⟨b, off, rfl, hc⟩
        · rw [h0] at hkl; exact absurd hkl (by simp)
        have hblt : b < w.heap.size := hc.lt (by intro h; rw [h] at hkl; exact absurd hkl (by simp))
        have hrg := (hc.keep hbl.out hblt).range k hkl
        have hst := Mid.chkAt_step ls k hkl
        have htk : ls.take (k + 1) = ls.take k ++ [ls[k]!] := by rw [List.take_succ_eq_append_getElem hkl, getE ls k hkl]
        rw [hf.out] at hst
        generalize ls[k]! = x at *
        have HST := Lib.hid hst; have HTK := Lib.hid htk
        have HRG := Lib.hid hrg
        have hix := info_enc infoId x
        have hle := encI_len x
        have hltI : (k : Int) < (n : Int) := by omega
        have hsz := hbl.out.size
        have HSZ := Lib.hid hsz
        have HZ := Lib.hid (show ∀ o, w.heap.size ≤ (wr.alloc o).heap.size from fun o => by simp; omega)
        have hk20 : k < 1000 := by omega
        have HK20 := Lib.hid hk20
        clear hst htk hrg hkl hc hblt hf hsz hk20
        go_upto_region 7 with (first
          | (refine wpList_load_mid rfl _ _ rfl b (off + k * 32) (by rfl) (encI x) _ HRG.out hu rfl hix ?_)
          | (refine sto_id infoId wr.heap.size x _ (Blk.fresh wr _ _) (by rfl) (by rfl) _ _ (by rfl) (by rfl) (by rfl) ?_; intro w2 hw2))
        have KX := Lib.hid (show Blk w2 wr.heap.size 46 (encI x).toArray by rw [hw2.out]; exact (Blk.fresh wr _ _).row _)
        have BR := Lib.hid (show Below wr.heap.size wr w2 by rw [hw2.out]; exact below_row ((Below.refl _ wr).alloc (Nat.le_refl _) _) _ (Nat.le_refl _) _)
        have O2 := Lib.hid (ho.out.below BR.out); have B2 := Lib.hid (hbl.out.trans (BR.out.mono HSZ.out))
        clear hw2 ho hbl BR
        have heqq : ∀ w, (Op.equalIn 10000 46 (.agg (encI x).toArray) (.agg (encI x).toArray)).run Try.prog w = .ok (decide (x = x)) w := fun w => eq_enc hu x x w
        clear heqq
        go_wp2_with (refine wpList_load_mid rfl _ _ rfl wr.heap.size 0 (by rfl) (encI x) _ (encBlk KX.out) hu rfl hix ?_)
        refine (HA.out _ _ _ x _ O2.out HK20.out).mono ?_
        rintro e w3 ⟨rfl, hO3, hg3⟩
        have B3 := Lib.hid (B2.out.grown hg3 B2.out.size (fun j hj => by cases hj; exact Nat.le_refl _))
        clear hg3
        have HEX := HE.out (ls.take k) x
        rw [HEX] at hO3 ⊢
        clear HEX
        by_cases hz : x = default
        · rw [if_pos hz] at hO3 ⊢
          have hq0 := HST.out
          rw [if_pos hz] at hq0
          subst hq0
          clear hz HST hO3
          go_wp2_with fail
          go_ret
          exact ⟨rfl, B3.out⟩
        · rw [if_neg hz] at hO3 ⊢
          have hq0 := HST.out
          rw [if_neg hz] at hq0
          clear HST hz
          by_cases hm : x ∈ ls.take k
          · rw [if_pos hm] at hO3 hq0 ⊢
            subst hq0
            clear hm hO3
            go_wp2_with fail
            go_ret
            exact ⟨rfl, B3.out⟩
          · rw [if_neg hm] at hO3 hq0 ⊢
            have O3 := Lib.hid (hO3 rfl)
            rw [← HTK.out] at O3
            have HQ3 := Lib.hid hq0.symm
            clear hm hO3 hq0
            go_wp2_with fail
            go_roundw
            case rel => exact ⟨k + 1, by go_num, hlt, HQ3, O3, B3⟩
            case measure => simp [intOf]; omega
      · have hq0 := hf.out
        rw [Mid.chkAt_end ls k (by rw [← HN.out]; omega)] at hq0
        subst hq0
        go_wp2_with fail
        go_ret
        exact ⟨rfl, hbl.out⟩
end Go.Proofs.Ytcofplbdapjdjaa
