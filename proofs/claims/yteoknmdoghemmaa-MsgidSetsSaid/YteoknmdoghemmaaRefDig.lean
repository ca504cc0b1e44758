/- The reference's Digits and Print. -/
import Derived.Test.YteoknmdoghemmaaRefCmp
namespace Go.Proofs.Yteoknmdoghemmaa
open Go.RowKit

theorem hex_cut : ∀ q : Fin 16, ((⟨#[48, 49, 50, 51, 52, 53, 54, 55, 56, 57, 97, 98, 99, 100, 101, 102]⟩ : ByteArray).extract q.val (q.val + 1)) = ⟨#[Asc.hc q.val]⟩ := by decide +kernel

set_option maxRecDepth 100000 in
set_option maxHeartbeats 1000000 in
theorem refDigits_any (l : List Nat) (hl : l.length = 32) (hb : ∀ x ∈ l, x < 256) (w : World) (t : ByteArray) (ht : t = ⟨(Asc.hexL l).toArray⟩) :
    Calls Try.prog 40 #[.agg (bsC (nI l))] w fun e w' => e = .returned (.string t) ∧ Below w.heap.size w w' := by
  have HC1 := Lib.hid (fun (W : World) g t (h : Blk W g t (bsC (nI l))) k (hk : k < l.length) => cell_nI h k hk)
  obtain ⟨A, hA⟩ : ∃ A, A = nI l := ⟨_, rfl⟩
  rw [← hA] at HC1 ⊢
  have HL := Lib.hid hl; have HBB := Lib.hid hb; have HT := Lib.hid ht
  clear hA hl hb ht
  go_enter Try.func40, Try.ntmps40
  go_upto_region 1 with (fail)
  have ha := Blk.fresh w 30 (bsC A)
  have hB : Below w.heap.size w (w.alloc (.cells (bsC A) 30)) := (Below.refl _ w).alloc (Nat.le_refl _) _
  generalize w.alloc (.cells (bsC A) 30) = W0 at *
  have HA := Lib.hid ha; have HBL := Lib.hid hB
  clear ha hB
  go_wp2_with fail
  go_loopw [3, 4] (fun o i wr => ∃ (k : Nat) (s : ByteArray), i = .int .i64 k ∧ o = .string s ∧ k ≤ 32 ∧ Hid (s = ⟨(Asc.hexL (l.take k)).toArray⟩) ∧ Hid (Blk wr w.heap.size 30 (bsC A)) ∧ Hid (Below w.heap.size w wr)) (fun _ i _ => 32 - (intOf i).toNat)
  case atStart => exact ⟨0, ⟨#[]⟩, rfl, rfl, by omega, Lib.hid rfl, HA, HBL⟩
  case round =>
    clear HA HBL
    obtain ⟨k, s, rfl, rfl, hk, hs, ha, hbl⟩ := hrel
    by_cases hlt : k < 32
    · have c1 := HC1.out _ _ _ ha.out.draw k (by have := HL.out; omega)
      have hts := take_snoc l k (by have := HL.out; omega)
      have hy2 := getD_lt l HBB.out k
      generalize l.getD k 0 = y at *
      obtain ⟨q, hq⟩ : ∃ q, q = y / 16 := ⟨_, rfl⟩
      obtain ⟨r, hr⟩ : ∃ r, r = y % 16 := ⟨_, rfl⟩
      have e1 : IntKind.u8.wrap ((y : Int) / 16) = (q : Int) := by
        rw [hq]; simp [IntKind.wrap, IntKind.bits, IntKind.signed]; omega
      have e2 : (y : Int).tmod 16 = (r : Int) := by
        rw [hr, Int.tmod_eq_emod_of_nonneg (by omega)]; omega
      have x1 := hex_cut ⟨q, by omega⟩
      have x2 := hex_cut ⟨r, by omega⟩
      simp only at x1 x2
      have v1 : IntKind.u8.wrap ((q : Int) + 1) = (q : Int) + 1 := by simp [IntKind.wrap, IntKind.bits, IntKind.signed]; omega
      have v2 : IntKind.u8.wrap ((r : Int) + 1) = (r : Int) + 1 := by simp [IntKind.wrap, IntKind.bits, IntKind.signed]; omega
      have hq16 : 0 ≤ (q : Int) + 1 ∧ (q : Int) + 1 ≤ 16 := by omega
      have hr16 : 0 ≤ (r : Int) + 1 ∧ (r : Int) + 1 ≤ 16 := by omega
      have hq17 : (q : Int) ≤ (q : Int) + 1 := by omega
      have hr17 : (r : Int) ≤ (r : Int) + 1 := by omega
      have hnx : (⟨(Asc.hexL (l.take (k + 1))).toArray⟩ : ByteArray) = s ++ (⟨#[Asc.hc q]⟩ ++ ⟨#[Asc.hc r]⟩) := by
        rw [hts, hexL_snoc, ← hq, ← hr, hs.out]; apply ByteArray.ext; simp
      have hsz : s.size ≤ 1000 := by
        rw [hs.out]; show (Asc.hexL (l.take k)).toArray.size ≤ 1000
        have := Mid.hexL_length (l.take k)
        have := List.length_take_le k l
        simp; omega
      have g1 : ¬ 9223372036854775807 < s.size + 2 := by omega
      have HNX := Lib.hid hnx
      have hltI : (k : Int) < 32 := by omega
      clear hnx hts hq hr hy2 hsz hs
      go_wp2_with fail
      go_region_law (fail)
      all_goals
        go_wp2_with fail
        go_region_law (fail)
      all_goals
        go_wp2_with fail
      all_goals exact ⟨⟨k + 1, _, by go_num, rfl, hlt, Lib.hid HNX.out.symm, Lib.hid ha.out.draw.draw, Lib.hid hbl.out.drew.drew⟩, by simp [intOf]; omega⟩
    · have hfull : l.take k = l := List.take_of_length_le (by have := HL.out; omega)
      have hs2 : s = t := by rw [hs.out, hfull, HT.out]
      subst hs2
      clear hfull hs
      go_wp2_with fail
      go_ret
      exact ⟨rfl, hbl.out⟩

set_option maxRecDepth 100000 in
set_option maxHeartbeats 1000000 in
theorem refPrint_any (l : List Nat) (hl : l.length = 32) (hb : ∀ x ∈ l, x < 256) (w : World) (t : ByteArray) (ht : t = ⟨(Mid.printL l).toArray⟩) :
    Calls Try.prog 16 #[.agg (bsC (nI l))] w fun e w' => e = .returned (.string t) ∧ Below w.heap.size w w' := by
  have HD := Lib.hid (fun w => refDigits_any l hl hb w _ rfl)
  have HT := Lib.hid (show (⟨#[60]⟩ : ByteArray) ++ ⟨(Asc.hexL l).toArray⟩ ++ ⟨#[64, 104, 97, 115, 104, 62]⟩ = t by
    rw [ht]; apply ByteArray.ext; simp [Mid.printL, Mid.tail6])
  have HA := Lib.hid (show (nI l).length = 32 by rw [nI_len]; exact hl)
  have HZ := Lib.hid (show (⟨(Asc.hexL l).toArray⟩ : ByteArray).size = 64 by show (Asc.hexL l).toArray.size = 64; simp [Mid.hexL_length, hl])
  generalize (⟨(Asc.hexL l).toArray⟩ : ByteArray) = tx at *
  generalize nI l = A at *
  clear ht hb hl
  go_enter Try.func16, Try.ntmps16
  go_upto_region 1 with (fail)
  have ha := Blk.fresh w 30 (bsC A)
  have hB : Below w.heap.size w (w.alloc (.cells (bsC A) 30)) := (Below.refl _ w).alloc (Nat.le_refl _) _
  generalize w.alloc (.cells (bsC A) 30) = W0 at *
  have HK := Lib.hid ha; have HBL := Lib.hid hB
  clear ha hB
  have g1 : ¬ 9223372036854775807 < 1 + tx.size := by have := HZ.out; omega
  have g2 : ¬ 9223372036854775807 < 1 + tx.size + 6 := by have := HZ.out; omega
  go_wp2_with (first
    | (refine ld_bs Try.underlying30 infoRid _ A HA.out HK.out (by rfl) _ (by rfl) (by rfl) ?_)
    | (go_at_call 40; refine (HD.out _).mono ?_; rintro e w1 ⟨rfl, hb1⟩; have B1 := Lib.hid (HBL.out.trans (hb1.mono HBL.out.size)); clear hb1))
  go_ret
  exact ⟨by rw [HT.out]; rfl, B1.out⟩
end Go.Proofs.Yteoknmdoghemmaa
