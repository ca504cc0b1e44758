/- The reference's Text. -/
import Derived.Test.YtcofplbdapjdjaaPrint
namespace Go.Proofs.Ytcofplbdapjdjaa
open Go.RowKit

theorem getD_lt (l : List Nat) (hb : ∀ x ∈ l, x < 256) (k : Nat) : l.getD k 0 < 256 := by
  by_cases h : k < l.length
  · rw [List.getD_eq_getElem?_getD, List.getElem?_eq_getElem h]; exact hb _ (List.getElem_mem h)
  · rw [List.getD_eq_getElem?_getD, List.getElem?_eq_none (by omega)]; decide
theorem cell_nI {w : World} {g : Nat} {t : TypeId} {l : List Nat} (h : Blk w g t (bsC (nI l))) (k : Nat) (hk : k < l.length) : w.cell? ⟨g, k, none⟩ = some (.int .u8 (l.getD k 0)) := by
  rw [h.cell, bsC_get _ k (by rw [nI_len]; exact hk)]
  congr 2
  simp [nI, List.getD_eq_getElem?_getD, List.getElem?_eq_getElem hk]

theorem hex_cut : ∀ q : Fin 16, ((⟨#[48, 49, 50, 51, 52, 53, 54, 55, 56, 57, 97, 98, 99, 100, 101, 102]⟩ : ByteArray).extract q.val (q.val + 1)) = ⟨#[Asc.hc q.val]⟩ := by decide +kernel

set_option maxRecDepth 100000 in
set_option maxHeartbeats 1000000 in
theorem refText_any (l : List Nat) (hl : l.length = 32) (hb : ∀ x ∈ l, x < 256) (w : World) (t : ByteArray) (ht : t = ⟨(Mid.printL l).toArray⟩) :
    Calls Try.prog 35 #[.agg (bsC (nI l))] w fun e w' => e = .returned (.string t) ∧ Below w.heap.size w w' := by
  have HC1 := Lib.hid (fun (W : World) g t (h : Blk W g t (bsC (nI l))) k (hk : k < l.length) => cell_nI h k hk)
  obtain ⟨A, hA⟩ : ∃ A, A = nI l := ⟨_, rfl⟩
  rw [← hA] at HC1 ⊢
  have HL := Lib.hid hl; have HBB := Lib.hid hb; have HT := Lib.hid ht
  clear hA hl hb ht
  go_enter Try.func35, Try.ntmps35
  go_upto_region 1 with (fail)
  have ha := Blk.fresh w 48 (bsC A)
  have hB : Below w.heap.size w (w.alloc (.cells (bsC A) 48)) := (Below.refl _ w).alloc (Nat.le_refl _) _
  generalize w.alloc (.cells (bsC A) 48) = W0 at *
  have HA := Lib.hid ha; have HBL := Lib.hid hB
  clear ha hB
  go_wp2_with fail
  go_loopw [4, 5] (fun o i wr => ∃ (k : Nat) (s : ByteArray), i = .int .i64 k ∧ o = .string s ∧ k ≤ 32 ∧ Hid (s = ⟨(60 :: Asc.hexL (l.take k)).toArray⟩) ∧ Hid (Blk wr w.heap.size 48 (bsC A)) ∧ Hid (Below w.heap.size w wr)) (fun _ i _ => 32 - (intOf i).toNat)
  case atStart => exact ⟨0, ⟨#[60]⟩, rfl, rfl, by omega, Lib.hid rfl, HA, HBL⟩
  case round =>
    clear HA HBL
    obtain ⟨k, s, rfl, rfl, hk, hs, ha, hbl⟩ := hrel
    by_cases hlt : k < 32
    · have c1 := HC1.out _ _ _ ha.out.draw k (by have := HL.out; omega)
      have hts := take_snoc l k (by have := HL.out; omega)
      have hy2 := getD_lt l HBB.out k
      generalize l.getD k 0 = y at *
      obtain ⟨q, hq⟩ : ∃ q, q = y / 16 := ⟨_, rfl⟩
      obtain ⟨r, hr⟩ : ∃ r, r = y % 16 := ⟨_, rfl⟩
      have e1 : IntKind.u8.wrap ((y : Int) / 16) = (q : Int) := by
        rw [hq]; simp [IntKind.wrap, IntKind.bits, IntKind.signed]; omega
      have e2 : (y : Int).tmod 16 = (r : Int) := by
        rw [hr, Int.tmod_eq_emod_of_nonneg (by omega)]; omega
      have x1 := hex_cut ⟨q, by omega⟩
      have x2 := hex_cut ⟨r, by omega⟩
      simp only at x1 x2
      have v1 : IntKind.u8.wrap ((q : Int) + 1) = (q : Int) + 1 := by simp [IntKind.wrap, IntKind.bits, IntKind.signed]; omega
      have v2 : IntKind.u8.wrap ((r : Int) + 1) = (r : Int) + 1 := by simp [IntKind.wrap, IntKind.bits, IntKind.signed]; omega
      have hq16 : 0 ≤ (q : Int) + 1 ∧ (q : Int) + 1 ≤ 16 := by omega
      have hr16 : 0 ≤ (r : Int) + 1 ∧ (r : Int) + 1 ≤ 16 := by omega
      have hq17 : (q : Int) ≤ (q : Int) + 1 := by omega
      have hr17 : (r : Int) ≤ (r : Int) + 1 := by omega
      have hnx : (⟨(60 :: Asc.hexL (l.take (k + 1))).toArray⟩ : ByteArray) = s ++ ⟨#[Asc.hc q]⟩ ++ ⟨#[Asc.hc r]⟩ := by
        rw [hts, hexL_snoc, ← hq, ← hr, hs.out]; apply ByteArray.ext; simp
      have hsz : s.size ≤ 1000 := by
        rw [hs.out]; show (60 :: Asc.hexL (l.take k)).toArray.size ≤ 1000
        have := Mid.hexL_length (l.take k)
        have := List.length_take_le k l
        simp; omega
      have g1 : ¬ 9223372036854775807 < s.size + 1 := by omega
      have g2 : ¬ 9223372036854775807 < s.size + 1 + 1 := by omega
      have HNX := Lib.hid hnx
      have hltI : (k : Int) < 32 := by omega
      clear hnx hts hq hr hy2 hsz hs
      go_wp2_with fail
      go_region_law (fail)
      all_goals
        go_wp2_with fail
      all_goals exact ⟨⟨k + 1, _, by go_num, rfl, hlt, Lib.hid HNX.out.symm, Lib.hid ha.out.draw, Lib.hid hbl.out.drew⟩, by simp [intOf]; omega⟩
    · have hfull : l.take k = l := List.take_of_length_le (by have := HL.out; omega)
      have hs2 : s ++ ⟨#[64, 104, 97, 115, 104, 62]⟩ = t := by
        rw [hs.out, hfull, HT.out]; apply ByteArray.ext; simp [Mid.printL, Mid.tail6]
      have hsz : s.size ≤ 1000 := by
        rw [hs.out]; show (60 :: Asc.hexL (l.take k)).toArray.size ≤ 1000
        have := Mid.hexL_length (l.take k)
        have := List.length_take_le k l
        simp; omega
      have g1 : ¬ 9223372036854775807 < s.size + 6 := by omega
      have HS2 := Lib.hid hs2
      clear hfull hs hs2 hsz
      go_wp2_with fail
      go_ret
      exact ⟨by rw [HS2.out]; rfl, hbl.out⟩

end Go.Proofs.Ytcofplbdapjdjaa
