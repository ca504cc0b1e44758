/- Shorten: the program's. -/
import Derived.Test.YtcpiiafnifkahaaShCom
namespace Go.Proofs.Ytcpiiafnifkahaa
open Go.RowKit Go.Shelf

theorem neqId (x y : Mid.Id) (w : World) : (Op.equalIn 10000 23 (.agg (bsC (nI x.1))) (.agg (bsC (nI y.1)))).run Try.prog w = .ok (decide (x = y)) w := eq_id Try.underlying23 x y w

set_option maxRecDepth 100000 in
set_option maxHeartbeats 2000000 in
theorem shorten_any (x : Mid.Id) (v : Value) (ls : List Mid.Id) (w : World) (hn : ls.length ≤ 1000000) (hv : Ids w v ls) (s : ByteArray) (b : Nat) (hs : Mid.shorten x ls = (s.data.toList, b)) :
    Calls Try.prog 33 #[.agg (bsC (nI x.1)), v] w fun e w' => e = .returned (.tuple #[.string s, .int .i64 b]) ∧ Below w.heap.size w w' := by
  have HH := Lib.hid (fun W h => has_any v ls x W hn h)
  rw [encI_arr] at HH
  have HD := Lib.hid (fun w => digits_any x.1 x.2.1 x.2.2 w)
  rw [dgI_hx] at HD
  have HA := Lib.hid (show (nI x.1).length = 32 by rw [nI_len]; exact x.2.1)
  have HHL := Lib.hid (show (dgI (Mid.hx x)).length = 64 by rw [dgI_len, Mid.hx_len])
  have HCV := Lib.hid (fun (W : World) g t (m : Nat) (hm : m ≤ 64) (h : Blk W g t (bsC (dgI (Mid.hx x)))) => conv_bytes (bytes_pre (w := W) (g := g) (t := t) (n := 64) (m := m) (Mid.hxN x.1) (Mid.hxN_lt x.1) (Mid.hxN_len x.1 x.2.1) hm (by unfold maxLen; omega) (by rw [dgI_hx]; exact h)))
  have HSTR := Lib.hid (fun (m : Nat) => (show strB ((Mid.hxN x.1).take m) = ⟨((Mid.hx x).take m).toArray⟩ by unfold strB; rw [List.map_take, Mid.hxN_back]; rfl))
  have HCOM := Lib.hid (fun (y : Mid.Id) w => common_any (Mid.hx x) (Mid.hx y) (Mid.hx_len x) (Mid.hx_len y) w)
  have HEQ := Lib.hid (fun (y : Mid.Id) w => neqId y x w)
  have HV := Lib.hid hv; have HS := Lib.hid hs
  clear hv hs
  obtain ⟨A, hA⟩ : ∃ A, A = nI x.1 := ⟨_, rfl⟩
  rw [← hA] at HH HD HA HEQ ⊢
  obtain ⟨H, hH⟩ : ∃ H, H = dgI (Mid.hx x) := ⟨_, rfl⟩
  rw [← hH] at HD HHL HCV HCOM
  obtain ⟨q, hq⟩ : ∃ q, q = decide (x ∈ ls) := ⟨_, rfl⟩
  rw [← hq] at HH
  have HQ := Lib.hid hq
  clear hA hH hq
  go_enter Try.func33, Try.ntmps33
  go_upto_region 1 with (fail)
  have ka := Blk.fresh w 23 (bsC A)
  have hB : Below w.heap.size w (w.alloc (.cells (bsC A) 23)) := (Below.refl _ w).alloc (Nat.le_refl _) _
  generalize w.alloc (.cells (bsC A) 23) = W0 at *
  have K0 := Lib.hid ka; have B0 := Lib.hid hB
  clear ka hB
  go_wp2_with (refine ld_bs Try.underlying23 infoId _ A HA.out K0.out (by rfl) _ (by rfl) (by rfl) ?_)
  refine (HH.out _ (HV.out.below B0.out)).mono ?_
  rintro e w1 ⟨rfl, hb1⟩
  have K1 := Lib.hid (K0.out.keep hb1 K0.out.lt)
  have B1 := Lib.hid (B0.out.trans (hb1.mono B0.out.size))
  clear hb1
  cases q with
  | false =>
    have hs := HS.out
    rw [Mid.shorten, if_neg (of_decide_eq_false HQ.out.symm)] at hs
    obtain ⟨e1, e2⟩ := Prod.mk.inj hs
    obtain rfl : s = ⟨#[]⟩ := by
      apply ByteArray.ext
      exact (Array.toList_eq_nil_iff.1 e1.symm)
    subst e2
    clear hs e1
    go_wp2_with fail
    go_ret2
    exact ⟨rfl, B1.out⟩
  | true =>
    have hs := HS.out
    rw [Mid.shorten, if_pos (of_decide_eq_true HQ.out.symm)] at hs
    obtain ⟨e1, e2⟩ := Prod.mk.inj hs
    subst e2
    have HE := Lib.hid e1
    clear hs e1
    go_upto_region 4 with (first
      | (refine ld_bs Try.underlying23 infoId _ A HA.out K1.out (by rfl) _ (by rfl) (by rfl) ?_)
      | (go_at_call 37; refine (HD.out _).mono ?_; rintro e w2 ⟨rfl, hb2⟩; have B2 := Lib.hid (B1.out.trans (hb2.mono B1.out.size)); have K2 := Lib.hid (K1.out.keep hb2 K1.out.lt); clear hb2)
      | (refine sto_bs info64 _ H HHL.out _ (Blk.fresh w2 _ _) rfl (by rfl) _ _ (by rfl) (by rfl) (by rfl) ?_; intro w3 hw3))
    have M3 := Lib.hid (show Blk w3 w2.heap.size 68 (bsC H) by rw [hw3.out]; exact (Blk.fresh w2 _ _).row _)
    have K3 := Lib.hid (show Blk w3 w.heap.size 23 (bsC A) by rw [hw3.out]; exact (K2.out.more _).far (by have := K2.out.lt; omega) _)
    have B3 := Lib.hid (show Below w.heap.size w w3 by rw [hw3.out]; exact below_row (B2.out.alloc B2.out.size _) _ B2.out.size _)
    clear hw3
    generalize w2.heap.size = gd at *
    obtain ⟨ad, cap, rfl, hlc, hcm, _, hcells⟩ := HV.out
    obtain ⟨n, hnn⟩ : ∃ n, n = ls.length := ⟨_, rfl⟩
    rw [← hnn]
    have hnI : (n : Int) ≤ 1000000 := by omega
    have HN := Lib.hid hnn; have HCL := Lib.hid hcells
    have hW3 : w.heap.size ≤ w3.heap.size := B3.out.size
    have HW3 := Lib.hid hW3
    clear hnn hcells hlc hcm HV hW3
    go_wp2_with fail
    go_loopw [7, 18] (fun m i wr => ∃ k mm : Nat, m = .int .i64 mm ∧ i = .int .i64 k ∧ k ≤ n ∧ mm ≤ 64 ∧ Hid (mm = Mid.shN x ls k) ∧ Hid (Below w3.heap.size w3 wr)) (fun _ i _ => n - (intOf i).toNat)
    case atStart => exact ⟨0, 4, rfl, rfl, Nat.zero_le _, by omega, Lib.hid rfl, Lib.hid (Below.refl _ _)⟩
    case round =>
      obtain ⟨k, mm, rfl, rfl, hk, hmm, hmh, hbl⟩ := hrel
      have hM := M3.out.keep hbl.out M3.out.lt
      have hK := K3.out.keep hbl.out K3.out.lt
      have MR := Lib.hid hM; have KR := Lib.hid hK
      clear hM hK
      by_cases hlt : k < n
      · have hkl : k < ls.length := by rw [← HN.out]; exact hlt
        rcases HCL.out with h0 | ⟨b, off, rfl, hc⟩
        · rw [h0] at hkl; exact absurd hkl (by simp)
        · have hblt : b < w.heap.size := hc.lt (by intro h; rw [h] at hkl; exact absurd hkl (by simp))
          have hrg := ((hc.keep B3.out hblt).keep hbl.out (by have := HW3.out; omega)).range k hkl
          have hst : Mid.shN x ls (k + 1) = if ls[k]! = x then Mid.shN x ls k else max (Mid.shN x ls k) (Mid.com (Mid.hx x) (Mid.hx ls[k]!) + 1) := rfl
          have h64 := Mid.shN_64 x ls (k + 1)
          obtain ⟨y, hy⟩ : ∃ y, y = ls[k]! := ⟨_, rfl⟩
          rw [← hy] at hrg hst
          rw [encI_bsL] at hrg
          rw [← hmh.out] at hst
          have HDO := Lib.hid (fun w => digits_any y.1 y.2.1 y.2.2 w)
          rw [dgI_hx] at HDO
          have HCM := Lib.hid (fun w => HCOM.out y w)
          have heq := HEQ.out y
          have HBL := Lib.hid (show (nI y.1).length = 32 by rw [nI_len]; exact y.2.1)
          have hiB : (Try.prog.info? 23).map (·.size) = some (bsL (nI y.1)).length := by rw [bsL_len, HBL.out]; exact infoId
          have hiH : (Try.prog.info? 68).map (·.size) = some (bsL H).length := by rw [bsL_len, HHL.out]; exact info64
          generalize Mid.com (Mid.hx x) (Mid.hx y) = c at *
          generalize dgI (Mid.hx y) = G at *
          generalize nI y.1 = B at *
          have HRG := Lib.hid hrg; have HST := Lib.hid hst; have H64 := Lib.hid h64
          have hltI : (k : Int) < (n : Int) := by omega
          clear hrg hst h64 hc hkl hy
          go_upto_region 8 with (first
            | (refine wpList_load_mid rfl _ _ rfl b (off + k * 32) (by rfl) (bsL B) _ HRG.out Try.underlying23 rfl hiB ?_)
            | (refine sto_bs infoId _ B HBL.out _ (Blk.fresh wr _ _) rfl (by rfl) _ _ (by rfl) (by rfl) (by rfl) ?_; intro w4 hw4))
          have L4 := Lib.hid (show Blk w4 wr.heap.size 23 (bsC B) by rw [hw4.out]; exact (Blk.fresh wr _ _).row _)
          have B4 := Lib.hid (show Below wr.heap.size wr w4 by rw [hw4.out]; exact below_row ((Below.refl _ wr).alloc (Nat.le_refl _) _) _ (Nat.le_refl _) _)
          have K4 := Lib.hid (KR.out.keep B4.out KR.out.lt)
          have M4 := Lib.hid (MR.out.keep B4.out MR.out.lt)
          have HBR := Lib.hid (hbl.out.trans (B4.out.mono hbl.out.size))
          clear hw4
          generalize wr.heap.size = g9 at *
          by_cases hyx : y = x
          · rw [decide_eq_true hyx] at heq
            have hst := HST.out
            rw [if_pos hyx] at hst
            have HF := Lib.hid hst
            clear hst hyx
            go_wp2_with (first
              | (refine ld_bs Try.underlying23 infoId _ B HBL.out L4.out (by rfl) _ (by rfl) (by rfl) ?_)
              | (refine ld_bs Try.underlying23 infoId _ A HA.out K4.out (by rfl) _ (by rfl) (by rfl) ?_))
            go_roundw
            case rel => exact ⟨k + 1, mm, rfl, by go_num, hlt, hmm, Lib.hid (by rw [HF.out]), HBR⟩
            case measure => simp [intOf]; omega
          · rw [decide_eq_false hyx] at heq
            have hst := HST.out
            rw [if_neg hyx] at hst
            have HF := Lib.hid hst
            have hc64 : c + 1 ≤ 64 := by have := H64.out; omega
            obtain ⟨mx, hmx⟩ : ∃ mx, mx = max mm (c + 1) := ⟨_, rfl⟩
            have hmxI : max (mm : Int) ((c : Int) + 1) = (mx : Int) := by omega
            have hwc : IntKind.i64.wrap ((c : Int) + 1) = (c : Int) + 1 := by simp [IntKind.wrap, IntKind.bits, IntKind.signed]; omega
            have hmx64 : mx ≤ 64 := by omega
            rw [← hmx] at hst
            have HF := Lib.hid hst
            clear hst hyx hmx
            go_wp2_with (first
              | (refine ld_bs Try.underlying23 infoId _ B HBL.out L4.out (by rfl) _ (by rfl) (by rfl) ?_)
              | (refine ld_bs Try.underlying23 infoId _ A HA.out K4.out (by rfl) _ (by rfl) (by rfl) ?_))
            have M4d := Lib.hid M4.out.draw; have L4d := Lib.hid L4.out.draw; have B4d := Lib.hid HBR.out.drew
            have hu23 : Try.prog.underlying 68 = some (.array 64 5) := Try.underlying68
            have hu23i : Try.prog.underlying 23 = some (.array 32 5) := Try.underlying23
            refine wp_region_held_drew (S := (fun w' => w'.rangeAt gd 0 (bsL H) ∧ w'.rangeAt g9 0 (bsL B))) (by kernel_rfl) ?_ (fun hHeld => ?_)
            · exact ⟨M4d.out.range, L4d.out.range⟩
            refine wpAnyH_take (i := 0) (v := ?_) rfl (by kernel_rfl) (by kernel_rfl) (by kernel_rfl) (fun _ _ _ h => h) (Or.inl ⟨by rfl, ?_⟩) (by assumption) ?_
            rotate_left
            · (intro w9 _; go_simp; try with_reducible rfl)
            simp only [Act.put, List.getElem_toArray, List.getElem_cons_zero, List.setIfInBounds_toArray, List.set_cons_succ, List.set_cons_zero]
            refine wpAnyH_take (i := 1) (v := .agg (bsL H).toArray) rfl (by kernel_rfl) (by kernel_rfl) (by kernel_rfl) (fun _ _ _ h => h) (yieldsIf_load_mid (by rfl) _ _ rfl _ _ rfl (bsL H) _ (fun _ h => h.1) hu23 rfl hiH) (by assumption) ?_
            simp only [Act.put, List.getElem_toArray, List.getElem_cons_succ, List.getElem_cons_zero, List.setIfInBounds_toArray, List.set_cons_succ, List.set_cons_zero]
            refine wpAnyH_take (i := 2) (v := .agg (bsL B).toArray) rfl (by kernel_rfl) (by kernel_rfl) (by kernel_rfl) (fun _ _ _ h => h) (yieldsIf_load_mid (by rfl) _ _ rfl _ _ rfl (bsL B) _ (fun _ h => h.2) hu23i rfl hiB) (by assumption) ?_
            simp only [Act.put, List.getElem_toArray, List.getElem_cons_succ, List.getElem_cons_zero, List.setIfInBounds_toArray, List.set_cons_succ, List.set_cons_zero]
            refine wpAnyH_ready (rs := [3]) (by kernel_rfl) (by simp) ?_
            refine AllReadyH.cons rfl (fun K hK => ?_) AllReadyH.nil
            go_simp
            refine (HDO.out _).mono ?_
            rintro e w5 ⟨rfl, hb5⟩
            have B5 := Lib.hid (B4d.out.trans (hb5.mono B4d.out.size)); have M5 := Lib.hid (M4d.out.keep hb5 M4d.out.lt); have L5 := Lib.hid (L4d.out.keep hb5 L4d.out.lt)
            clear hb5
            refine hK.out _ _ ⟨M5.out.range, L5.out.range⟩ (fun hHeld => ?_)
            clear hK K
            refine wpAnyH_ready (rs := [4]) (by kernel_rfl) (by simp) ?_
            refine AllReadyH.cons rfl (fun K hK => ?_) AllReadyH.nil
            go_simp
            refine (HCM.out _).mono ?_
            rintro e w6 ⟨rfl, hb6⟩
            have B6 := Lib.hid (B5.out.trans (hb6.mono B5.out.size)); have M6 := Lib.hid (M5.out.keep hb6 M5.out.lt); have L6 := Lib.hid (L5.out.keep hb6 L5.out.lt)
            clear hb6
            refine hK.out _ _ ⟨M6.out.range, L6.out.range⟩ (fun hHeld => ?_)
            clear hK K
            refine wpAnyH_take (i := 5) (v := ?_) rfl (by kernel_rfl) (by kernel_rfl) (by kernel_rfl) (fun _ _ _ h => h) (Or.inl ⟨by rfl, ?_⟩) (by assumption) ?_
            rotate_left
            · (intro w9 _; go_simp; try with_reducible rfl)
            simp only [Act.put, List.getElem_toArray, List.getElem_cons_succ, List.getElem_cons_zero, List.setIfInBounds_toArray, List.set_cons_succ, List.set_cons_zero]
            refine wpAnyH_take (i := 6) (v := ?_) rfl (by kernel_rfl) (by kernel_rfl) (by kernel_rfl) (fun _ _ _ h => h) (Or.inl ⟨by rfl, ?_⟩) (by assumption) ?_
            rotate_left
            · (intro w9 _; go_simp; try with_reducible rfl)
            simp only [Act.put, List.getElem_toArray, List.getElem_cons_succ, List.getElem_cons_zero, List.setIfInBounds_toArray, List.set_cons_succ, List.set_cons_zero]
            refine wpAnyH_take (i := 7) (v := ?_) rfl (by kernel_rfl) (by kernel_rfl) (by kernel_rfl) (fun _ _ _ h => h) (Or.inl ⟨by rfl, ?_⟩) (by assumption) ?_
            rotate_left
            · (intro w9 _; go_simp; try with_reducible rfl)
            simp only [Act.put, List.getElem_toArray, List.getElem_cons_succ, List.getElem_cons_zero, List.setIfInBounds_toArray, List.set_cons_succ, List.set_cons_zero]
            refine wpAnyH_done (by kernel_rfl) ?_ _
            go_wp2_with fail
            exact ⟨⟨k + 1, mx, rfl, by go_num, hlt, hmx64, Lib.hid HF.out.symm, B6⟩, by simp [intOf]; omega⟩
      · have hkn : k = n := by omega
        have hmn : mm = Mid.shN x ls ls.length := by rw [hmh.out, hkn, HN.out]
        have hcv := HCV.out wr gd _ mm hmm MR.out
        rw [HSTR.out] at hcv
        rw [← hmn] at HE
        have hse : (⟨((Mid.hx x).take mm).toArray⟩ : ByteArray) = s := by
          apply ByteArray.ext
          rw [HE.out]
        rw [hse] at hcv
        have hm4 : (mm : Int) ≤ 64 := by omega
        have HFIN := Lib.hid (B3.out.trans (hbl.out.mono HW3.out))
        clear hkn hmn hse hmh
        go_wp2_with fail
        go_ret2
        exact ⟨rfl, HFIN.out⟩
end Go.Proofs.Ytcpiiafnifkahaa
