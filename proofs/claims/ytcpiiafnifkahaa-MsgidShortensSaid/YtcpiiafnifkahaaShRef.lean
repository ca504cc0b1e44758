/- Shorten: the reference's. -/
import Derived.Test.YtcpiiafnifkahaaShGo
namespace Mid
theorem resolve_no (x : Id) (ls : List Id) (n : Nat) (h4 : 4 ≤ n) (h64 : n ≤ 64) (y : Id) (b : Nat) (h : resolve ((hx x).take n) ls = (y, b)) (hne : ¬ (b = 0 ∧ y = x)) : ¬ (x ∈ ls ∧ shN x ls ls.length ≤ n) := by
  intro h2
  rw [← resolve_hx x ls n h4 h64, h] at h2
  injection h2 with e1 e2
  exact hne ⟨e2, e1⟩
end Mid
namespace Go.Proofs.Ytcpiiafnifkahaa
open Go.RowKit Go.Shelf

theorem eqRid (x y : Mid.Id) (w : World) : (Op.equalIn 10000 30 (.agg (bsC (nI x.1))) (.agg (bsC (nI y.1)))).run Try.prog w = .ok (decide (x = y)) w := eq_id Try.underlying30 x y w

set_option maxRecDepth 100000 in
set_option maxHeartbeats 2000000 in
theorem refShorten_any (x : Mid.Id) (v : Value) (ls : List Mid.Id) (w : World) (hn : ls.length ≤ 1000000) (hv : Ids w v ls) (s : ByteArray) (b : Nat) (hs : Mid.shorten x ls = (s.data.toList, b)) :
    Calls Try.prog 34 #[.agg (bsC (nI x.1)), v] w fun e w' => e = .returned (.tuple #[.string s, .int .i64 b]) ∧ Below w.heap.size w w' := by
  obtain ⟨t, ht⟩ : ∃ t : ByteArray, t = ⟨(Asc.hexL x.1).toArray⟩ := ⟨_, rfl⟩
  have htl : t.data.toList = Mid.hx x := by rw [ht]; rfl
  have hsz : t.size = 64 := by rw [← size_toList, htl, Mid.hx_len]
  have hex : ∀ k, (t.extract 0 k).data.toList = (Mid.hx x).take k := fun k => by rw [Lib.extract_data, htl]; simp
  have HD := Lib.hid (fun w => refDigits_any x.1 x.2.1 x.2.2 w t ht)
  have HR := Lib.hid (fun (k : Nat) (W : World) (h : Ids W v ls) y b (hk : k ≤ 64) (hy : Mid.resolve ((Mid.hx x).take k) ls = (y, b)) => refResolve_any (t.extract 0 k) v ls W (by rw [← size_toList, hex, List.length_take]; omega) hn h y b (by rw [hex]; exact hy))
  have HA := Lib.hid (show (nI x.1).length = 32 by rw [nI_len]; exact x.2.1)
  have HEQ := Lib.hid (fun (y : Mid.Id) w => eqRid y x w)
  have HV := Lib.hid hv; have HS := Lib.hid hs; have HX := Lib.hid hex
  have htI : (t.size : Int) = 64 := by omega
  obtain ⟨A, hA⟩ : ∃ A, A = nI x.1 := ⟨_, rfl⟩
  rw [← hA] at HD HA HEQ ⊢
  clear hv hs hex ht htl hA hsz
  go_enter Try.func34, Try.ntmps34
  go_upto_region 1 with (fail)
  have ka := Blk.fresh w 30 (bsC A)
  have hB : Below w.heap.size w (w.alloc (.cells (bsC A) 30)) := (Below.refl _ w).alloc (Nat.le_refl _) _
  generalize w.alloc (.cells (bsC A) 30) = W0 at *
  have K0 := Lib.hid ka; have B0 := Lib.hid hB
  clear ka hB
  go_wp2_with (refine ld_bs Try.underlying30 infoRid _ A HA.out K0.out (by rfl) _ (by rfl) (by rfl) ?_)
  refine (HD.out _).mono ?_
  rintro e w1 ⟨rfl, hb1⟩
  have K1 := Lib.hid (K0.out.keep hb1 K0.out.lt)
  have B1 := Lib.hid (B0.out.trans (hb1.mono B0.out.size))
  clear hb1
  go_wp2_with fail
  go_loopw [7] (fun i wr => ∃ k : Nat, i = .int .i64 k ∧ 4 ≤ k ∧ k ≤ 65 ∧ Hid (∀ m, 4 ≤ m → m < k → ¬ (x ∈ ls ∧ Mid.shN x ls ls.length ≤ m)) ∧ Hid (Blk wr w.heap.size 30 (bsC A)) ∧ Hid (Below w.heap.size w wr)) (fun i _ => 65 - (intOf i).toNat)
  case atStart => exact ⟨4, rfl, by omega, by omega, Lib.hid (fun m h1 h2 => by omega), K1, B1⟩
  case round =>
    clear K0 K1 B0 B1
    obtain ⟨k, rfl, h4, h65, hf, hkb, hbl⟩ := hrel
    by_cases hlt : k ≤ 64
    · obtain ⟨⟨y, b2⟩, hy⟩ : ∃ r, r = Mid.resolve ((Mid.hx x).take k) ls := ⟨_, rfl⟩
      have HRK := Lib.hid (HR.out k wr (HV.out.below hbl.out) y b2 hlt hy.symm)
      rw [encI_arr] at HRK
      have HRS := Lib.hid hy.symm
      have heq := HEQ.out y
      have HBL := Lib.hid (show (nI y.1).length = 32 by rw [nI_len]; exact y.2.1)
      generalize nI y.1 = B at *
      have hltI : (k : Int) ≤ 64 := by omega
      have hk0 : (0 : Int) ≤ (k : Int) := by omega
      clear hy
      go_wp2_with fail
      refine HRK.out.mono ?_
      rintro e w2 ⟨rfl, hb2⟩
      have K2 := Lib.hid (hkb.out.keep hb2 hkb.out.lt)
      have B2 := Lib.hid (hbl.out.trans (hb2.mono hbl.out.size))
      clear hb2
      go_upto_region 6 with (refine sto_bs infoRid _ B HBL.out _ (Blk.fresh w2 _ _) rfl (by rfl) _ _ (by rfl) (by rfl) (by rfl) ?_; intro w3 hw3)
      have L3 := Lib.hid (show Blk w3 w2.heap.size 30 (bsC B) by rw [hw3.out]; exact (Blk.fresh w2 _ _).row _)
      have K3 := Lib.hid (show Blk w3 w.heap.size 30 (bsC A) by rw [hw3.out]; exact (K2.out.more _).far (by have := K2.out.lt; omega) _)
      have B3 := Lib.hid (show Below w.heap.size w w3 by rw [hw3.out]; exact below_row (B2.out.alloc B2.out.size _) _ B2.out.size _)
      clear hw3
      generalize w2.heap.size = g at *
      by_cases hb0 : b2 = 0
      · subst hb0
        by_cases hyx : y = x
        · rw [decide_eq_true hyx] at heq
          have hin := (Mid.resolve_hx x ls k h4 hlt).1 (by rw [HRS.out, hyx])
          have hkm : Mid.shN x ls ls.length = k := by
            rcases Nat.lt_or_ge (Mid.shN x ls ls.length) k with h | h
            · exact absurd ⟨hin.1, Nat.le_refl _⟩ (hf.out _ (Mid.shN_ge x ls _) h)
            · exact Nat.le_antisymm hin.2 h
          have hs := HS.out
          rw [Mid.shorten, if_pos hin.1, hkm] at hs
          obtain ⟨e1, e2⟩ := Prod.mk.inj hs
          subst e2
          have hse : t.extract 0 k = s := by
            apply ByteArray.ext
            apply Array.ext'
            rw [HX.out, e1]
          have HSE := Lib.hid hse
          clear hs e1 hin hkm hyx hse hf
          go_wp2_with (first
            | (refine ld_bs_g Try.underlying30 infoRid _ B HBL.out L3.out (by rfl) _ (by rfl) (by rfl) ?_)
            | (refine ld_bs_g Try.underlying30 infoRid _ A HA.out K3.out (by rfl) _ (by rfl) (by rfl) ?_))
          go_ret2
          exact ⟨by rw [HSE.out]; rfl, B3.out⟩
        · rw [decide_eq_false hyx] at heq
          have hno := Mid.resolve_no x ls k h4 hlt y 0 HRS.out (fun h => hyx h.2)
          have HNX := Lib.hid (show ∀ m, 4 ≤ m → m < k + 1 → ¬ (x ∈ ls ∧ Mid.shN x ls ls.length ≤ m) from fun m h1 h2 => by
            rcases Nat.lt_succ_iff_lt_or_eq.1 h2 with e | e
            · exact hf.out m h1 e
            · rw [e]; exact hno)
          clear hyx hno hf
          go_wp2_with (first
            | (refine ld_bs_g Try.underlying30 infoRid _ B HBL.out L3.out (by rfl) _ (by rfl) (by rfl) ?_)
            | (refine ld_bs_g Try.underlying30 infoRid _ A HA.out K3.out (by rfl) _ (by rfl) (by rfl) ?_))
          go_roundw
          case rel => exact ⟨k + 1, by go_num, by omega, by omega, HNX, K3, B3⟩
          case measure => simp [intOf]; omega
      · have hb0I : ¬ (b2 : Int) = 0 := by omega
        have hno := Mid.resolve_no x ls k h4 hlt y b2 HRS.out (fun h => hb0 h.1)
        have HNX := Lib.hid (show ∀ m, 4 ≤ m → m < k + 1 → ¬ (x ∈ ls ∧ Mid.shN x ls ls.length ≤ m) from fun m h1 h2 => by
          rcases Nat.lt_succ_iff_lt_or_eq.1 h2 with e | e
          · exact hf.out m h1 e
          · rw [e]; exact hno)
        clear hno hf hb0
        go_wp2_with fail
        go_roundw
        case rel => exact ⟨k + 1, by go_num, by omega, by omega, HNX, K3, B3⟩
        case measure => simp [intOf]; omega
    · have hnot : x ∉ ls := fun h => hf.out _ (Mid.shN_ge x ls ls.length) (by have := Mid.shN_64 x ls ls.length; omega) ⟨h, Nat.le_refl _⟩
      have hs := HS.out
      rw [Mid.shorten, if_neg hnot] at hs
      obtain ⟨e1, e2⟩ := Prod.mk.inj hs
      obtain rfl : s = ⟨#[]⟩ := by
        apply ByteArray.ext
        exact (Array.toList_eq_nil_iff.1 e1.symm)
      subst e2
      have hltI : ¬ (k : Int) ≤ 64 := by omega
      clear hs e1 hnot hf
      go_wp2_with fail
      go_ret2
      exact ⟨rfl, hbl.out⟩
end Go.Proofs.Ytcpiiafnifkahaa
