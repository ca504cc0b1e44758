/- The law of pieces: the walk. -/
import Derived.Test.YtpkbceelbppleaaDoorWriteLaw
namespace Go.Proofs.YtpkbceelbppleaaDoor
open Go.RowKit

theorem OwnL.lt {base : Nat} {w : World} {v : Value} {l : List Nat} (h : OwnL base w v l) : ∀ j, v.ownBlock = some j → base ≤ j ∧ j < w.heap.size := fun j hj => World.ownsRow.lt h j hj

theorem Cx.other {w : World} {base : Nat} {W W1 : World} {v : Value} {L M : List Nat} {g pb : Nat} (h : Cx w base W v L M g) (hb : But pb W W1) (hv : ∀ j, v.ownBlock = some j → j ≠ pb) (hne : pb ≠ g) (hw : w.heap.size ≤ pb) : Cx w base W1 v L M g := by
  have hs : W.heap.size ≤ W1.heap.size := by obtain ⟨_, _, _, a4, _⟩ := hb; exact a4
  refine ⟨World.ownsRow.kept h.1 (row := some pb) hb ?_, h.2.1.grown hb (fun e => hne (by cases e; rfl)), below_but h.2.2.1 hb hw h.2.2.1.size, Nat.le_trans h.2.2.2 hs⟩
  right
  intro e
  exact hv pb e rfl

set_option maxRecDepth 100000 in
set_option maxHeartbeats 4000000 in
theorem write_law (a0 : Option Addr) (n cap : Nat) (w : World) (hR : Rowed w a0 n) (hn : n ≤ cap ∧ cap ≤ maxLen) (hT : Tab w) :
    Calls Tryd.prog 5 #[.slice a0 n cap] w fun e w' => e = .returned (.bool true) ∧ Below w.heap.size w w' := by
  have hp := hT.1
  have hn1 := hn.1
  have hn2 := hn.2
  unfold maxLen at hn2
  obtain ⟨q, hq⟩ : ∃ q, q = min n 12 := ⟨_, rfl⟩
  have hmin : min (n : Int) 12 = (q : Int) := by omega
  have hnI : (n : Int) ≤ 9223372036854775807 := by omega
  have hqc : (q : Int) ≤ (cap : Int) := by omega
  have HQ := Lib.hid (show q ≤ n ∧ q ≤ 12 by omega)
  have HRW := Lib.hid hR
  have HK := Lib.hid (fun w hT => known_any w hT)
  have HR0 := Lib.hid (fun w => refSum_any (.slice none 0 0) [] (by simp) w (Bytes.nil w))
  obtain ⟨D0, hD0⟩ : ∃ D, D = S5.sha S5.K [] := ⟨_, rfl⟩
  have HS0 := Lib.hid (fun w hT g h => hsum_any w hT g [] h)
  rw [← hD0] at HR0 HS0
  have HDL0 := Lib.hid (show D0.length = 32 by rw [hD0]; exact sha_len _)
  have heq0 := fun w => eq_same (t := 24) Tryd.underlying24 D0 HDL0.out w
  clear hq hn hn1 hn2 hR hD0
  go_enter Tryd.func5, Tryd.ntmps5
  go_wp2_with fail
  refine (new_any _).mono ?_
  rintro e w1 ⟨g, rfl, HH1, HG, hb1⟩
  have B1 := Lib.hid hb1
  clear hb1
  go_wp2_with fail
  refine (len_any _ g [] HH1.out).mono ?_
  rintro e w0 ⟨rfl, rfl⟩
  go_wp2_with fail
  refine (HS0.out _ (hT.below B1.out hp) g HH1.out).mono ?_
  rintro e w2 ⟨rfl, hb2⟩
  have B2 := Lib.hid (B1.out.trans (hb2.mono B1.out.size))
  have HH2 := Lib.hid (HH1.out.keep hb2 HH1.out.lt)
  clear hb2
  go_wp2_with fail
  refine (HR0.out _).mono ?_
  rintro e w3 ⟨rfl, hb3⟩
  have B3 := Lib.hid (B2.out.trans (hb3.mono B2.out.size))
  have HH3 := Lib.hid (HH2.out.keep hb3 HH2.out.lt)
  clear hb3
  go_wp2_with fail
  clear heq0 HS0 HR0
  have HG2 := Lib.hid (show g < w3.heap.size from HH3.out.lt)
  go_loopw [4, 5] (fun vb ii wr => ∃ (i : Nat) (v : Value) (L : List Nat), v = vb ∧ ii = .int .i64 i ∧ i ≤ q ∧ Hid (L.length ≤ 500 * i) ∧ Hid (∀ x ∈ L, x < 256) ∧ Hid (Cx w w3.heap.size wr v L L g)) (fun _ ii _ => q - (intOf ii).toNat)
  case atStart => exact ⟨0, _, [], rfl, rfl, by omega, Lib.hid (by simp), Lib.hid (by simp), Lib.hid ⟨OwnL.nothing _ _, HH3.out, B3.out, Nat.le_refl _⟩⟩
  case round =>
    clear HH1 B1 HH2 B2 HH3 B3
    obtain ⟨i, va, L, rfl, rfl, hi, HLL, HLB, C0⟩ := hrel
    by_cases hlt : i < q
    · have hltI : (i : Int) < (q : Int) := by omega
      obtain ⟨b, off, A, l, C, p0, ha, hblt, hcell0, hby0, hpl⟩ := HRW.out i (by have := HQ.out; omega)
      subst ha
      have hm3 : l ≤ maxLen := by obtain ⟨_, y, cc, e, h1, h2, _⟩ := hby0; cases e; omega
      obtain ⟨kb, hkb⟩ : ∃ k, k = min l 500 := ⟨_, rfl⟩
      obtain ⟨P, hP⟩ : ∃ P, P = p0.take kb := ⟨_, rfl⟩
      have HCUT := Lib.hid (fun w hv => cut_any A l C p0 hpl w hv kb hkb hm3)
      have HP0 := Lib.hid hby0
      have HP := Lib.hid (show Bytes w (.slice A kb C) P by rw [hP]; exact hby0.take kb (by omega))
      have HPL := Lib.hid (show P.length = kb by rw [hP]; simp; omega)
      have HKB := Lib.hid (show kb ≤ 500 by omega)
      have HC0 := Lib.hid hcell0
      have HBLT := Lib.hid hblt
      have hcA : (wr.alloc (.cells #[] 5)).cell? ⟨b, off + i, none⟩ = some (.slice A l C) := ((C0.out.more (.cells #[] 5)).2.2.1.cell (p := ⟨b, off + i, none⟩) hblt).trans hcell0
      clear hkb hP hm3 hby0 hcell0 hblt hpl
      have E0 := Lib.hid (OwnL.empty wr)
      have C1 := Lib.hid (C0.out.more (.cells #[] 5))
      have S1 := Lib.hid (show wr.heap.size ≤ (wr.alloc (.cells #[] 5)).heap.size by simp)
      go_wp2_with fail
      refine (HCUT.out _ (HP0.out.below C1.out.2.2.1)).mono ?_
      rintro e w4 ⟨rfl, rfl⟩
      have HPx := Lib.hid (HP.out.below C1.out.2.2.1)
      go_upto_region 10 with (at_builtin; refine wpList_append_bytes2 _ rfl _ _ rfl wr.heap.size _ [] rfl E0.out _ P rfl HPx.out (by rw [HPL.out]; have := HKB.out; simp; omega) S1.out ?_; intro v1 w5 ho5 hg5 hn5 _; have O5 := Lib.hid (show OwnL wr.heap.size w5 v1 P from ho5.out); have N5 := Lib.hid (hn5.out (by intro e; cases e)); have b5 := Lib.hid (show Below wr.heap.size wr w5 from ((Below.refl _ wr).alloc (Nat.le_refl _) (.cells #[] 5)).grown hg5.out S1.out (ownBlock_ge E0.out)); have C5 := Lib.hid (C0.out.step b5.out); clear ho5 hg5 hn5)
      clear E0 C1 S1 HPx hcA
      have HPB := Lib.hid (show ∀ x ∈ P, x < 256 from HP.out.1)
      have V5 := Lib.hid (O5.out.bytes HPB.out)
      obtain ⟨pb, pc, hv1, hpb, hwr5, hpc, hpm⟩ := O5.out.wr N5.out
      rw [HPL.out] at hv1 hwr5 hpc
      subst hv1
      have hpbw : pb < w5.heap.size := by obtain ⟨cur, h1, _⟩ := hwr5; exact (Array.getElem?_eq_some_iff.1 h1).1
      have HAPf := Lib.hid (show ∀ v2 : Value, (v2.ownBlock = va.ownBlock ∨ v2.ownBlock = some w5.heap.size) → ∀ j, v2.ownBlock = some j → j ≠ pb from fun v2 h j hj e => by
        rcases h with h | h
        · have := (C0.out.1.lt j (by rw [← h]; exact hj)).2
          omega
        · rw [h] at hj
          cases hj
          omega)
      have HO6f := Lib.hid (show ∀ w6, w5.grownBy w6 va.ownBlock → OwnL wr.heap.size w6 (.slice (some ⟨pb, 0, none⟩) kb pc) P from fun w6 hg => World.ownsRow.kept O5.out (row := va.ownBlock) hg (by
        right
        intro e
        have := (C0.out.1.lt pb e.symm).2
        omega))
      go_upto_region 11 with (at_builtin; refine wpList_append_bytes2 _ rfl _ _ rfl w3.heap.size _ L rfl C5.out.1 _ P rfl V5.out (by rw [HPL.out]; have := HKB.out; have := HLL.out; have := HQ.out; omega) C5.out.2.2.2 ?_; intro v2 w6 ho6 hg6 _ hap; have C6 := Lib.hid (C5.out.pushed ho6.out hg6.out HG2.out HG.out); have HAP := Lib.hid (HAPf.out v2 hap.out); have O6 := Lib.hid (HO6f.out w6 hg6.out); clear ho6 hg6 hap)
      have HGP := Lib.hid (show pb ≠ g by have := HG2.out; have := C0.out.2.2.2; omega)
      have HPW := Lib.hid (show w.heap.size ≤ pb by have := C0.out.2.2.1.size; omega)
      have HGW := Lib.hid (show g < wr.heap.size by have := HG2.out; have := C0.out.2.2.2; omega)
      clear C0 C5 HAPf HO6f V5 N5 O5 hpbw hwr5 b5 HP HP0 HCUT HC0 HBLT
      go_wp2_with fail
      refine (write_any _ (hT.below C6.out.2.2.1 hp) g (by have := HG.out; omega) L C6.out.2.1 (some ⟨pb, 0, none⟩) kb pc P HPL.out (O6.out.bytes HPB.out) (fun _ ad had e => by cases had; exact HGP.out e) (by have := HLL.out; have := HKB.out; have := HQ.out; omega)).mono ?_
      rintro e w7 ⟨rfl, HH7, HU7⟩
      have C7 := Lib.hid (C6.out.wrote HH7.out HU7.out HG2.out HG.out)
      have O7 := Lib.hid (O6.out.but HU7.out HGW.out)
      have W7 := Lib.hid (show Wr w7 pb kb by
        obtain ⟨pb1, pc1, h1, _, h2, _⟩ := O7.out.wr (by intro e; cases e)
        cases h1
        rw [HPL.out] at h2
        exact h2)
      clear HH7 HU7 C6 O6 O7
      generalize wr = w8 at *
      go_wp2_with fail
      go_loopw [7] (fun kk wr => ∃ (k : Nat), kk = .int .i64 k ∧ k ≤ kb ∧ Hid (Wr wr pb kb) ∧ Hid (But pb w7 wr)) (fun kk _ => kb - (intOf kk).toNat)
      case atStart => exact ⟨0, rfl, by omega, W7, Lib.hid (But.refl _ _)⟩
      case round =>
        obtain ⟨k, rfl, hk, HW, HU⟩ := hrel
        by_cases hkl : k < kb
        · have hkI : (k : Int) < (kb : Int) := by omega
          obtain ⟨z, hz, hfz⟩ := HW.out.cell k hkl
          have hsg : IntKind.u8.signed = false := rfl
          have hk5 := HKB.out
          go_wp2_with fail
          go_roundw
          case rel => exact ⟨k + 1, by go_num, by omega, Lib.hid (HW.out.put k _), Lib.hid (HU.out.put k _)⟩
          case measure => simp [intOf]; omega
        · obtain rfl : k = kb := by omega
          have hkI : ¬ (k : Int) < (k : Int) := by omega
          have C8 := Lib.hid (C7.out.other HU.out HAP.out HGP.out HPW.out)
          clear C7 HU HW W7
          obtain ⟨M, hM⟩ : ∃ M, M = L ++ P := ⟨_, rfl⟩
          have HML := Lib.hid (show M.length = L.length + k by rw [hM, List.length_append, HPL.out])
          have HMB := Lib.hid (show ∀ x ∈ M, x < 256 by rw [hM]; intro x hx; rcases List.mem_append.1 hx with hx | hx; exact HLB.out x hx; exact HPB.out x hx)
          rw [← hM] at C8
          clear hM
          obtain ⟨D, hD⟩ : ∃ D, D = S5.sha S5.K M := ⟨_, rfl⟩
          have HSZ := Lib.hid (show M.length ≤ 500 * (i + 1) by rw [HML.out]; have := HLL.out; have := HKB.out; omega)
          have HR := Lib.hid (fun v w hv => refSum_any v M (by have := HSZ.out; have := HQ.out; omega) w hv)
          have HHS := Lib.hid (fun w hT h => hsum_any w hT g M h)
          rw [← hD] at HR HHS
          have HDL := Lib.hid (show D.length = 32 by rw [hD]; exact sha_len M)
          have heq := fun w => eq_same (t := 24) Tryd.underlying24 D HDL.out w
          have heq2 := fun w => eq_same (t := 25) Tryd.underlying25 D HDL.out w
          clear hD
          obtain ⟨x2, m2, c2, rfl, hm2⟩ := C8.out.1.slice'
          have HLN := Lib.hid (fun w h => len_any w g M h)
          rw [← hm2.out] at HLN
          go_wp2_with fail
          refine (HLN.out _ C8.out.2.1).mono ?_
          rintro e a1 ⟨rfl, rfl⟩
          go_wp2_with fail
          refine (HHS.out _ (hT.below C8.out.2.2.1 hp) C8.out.2.1).mono ?_
          rintro e a1 ⟨rfl, hb⟩
          have C9 := Lib.hid (C8.out.step hb)
          clear hb C8
          go_wp2_with fail
          refine (HR.out _ _ (C9.out.1.bytes HMB.out)).mono ?_
          rintro e a2 ⟨rfl, hb⟩
          have C10 := Lib.hid (C9.out.step hb)
          clear hb C9
          go_wp2_with fail
          refine (HHS.out _ (hT.below C10.out.2.2.1 hp) C10.out.2.1).mono ?_
          rintro e a3 ⟨rfl, hb⟩
          have C11 := Lib.hid (C10.out.step hb)
          clear hb C10
          go_wp2_with fail
          refine (HHS.out _ (hT.below C11.out.2.2.1 hp) C11.out.2.1).mono ?_
          rintro e a4 ⟨rfl, hb⟩
          have C12 := Lib.hid (C11.out.step hb)
          clear hb C11
          go_wp2_with fail
          have hq12 := HQ.out.2
          go_roundw
          case rel => exact ⟨i + 1, _, M, rfl, by go_num, by omega, HSZ, HMB, C12⟩
          case measure => simp [intOf]; omega
    · obtain rfl : i = q := by omega
      have hltI : ¬ (i : Int) < (i : Int) := by omega
      go_wp2_with fail
      refine (HK.out _ (hT.below C0.out.2.2.1 hp)).mono ?_
      rintro e w9 ⟨rfl, hb9⟩
      have C9 := Lib.hid (C0.out.step hb9)
      go_wp2_with fail
      go_ret
      exact ⟨rfl, C9.out.2.2.1⟩
end Go.Proofs.YtpkbceelbppleaaDoor
