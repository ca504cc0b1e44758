/- The program's Print. -/
import Derived.Test.YtcofplbdapjdjaaPrt
import Derived.Test.YtcofplbdapjdjaaCut
namespace Go.Proofs.Ytcofplbdapjdjaa
open Go.RowKit

theorem own_cells {base : Nat} {w : World} {v : Value} {ts : List ByteArray} (h : OwnT base w v ts) : ts = [] ∧ v = .slice none 0 0 ∨ ∃ g cap, v = .slice (some ⟨g, 0, none⟩) ts.length cap ∧ g < w.heap.size ∧ ts.length ≤ cap ∧ ∀ (j : Nat) x, ts[j]? = some x → w.cell? ⟨g, 0 + j, none⟩ = some (.string x) := by
  rcases h.2 with ⟨rfl, hn⟩ | ⟨g, cap, cur, rfl, hg, hh, hnc, _, hcs, htk⟩
  · exact Or.inl ⟨List.length_eq_zero_iff.1 hn, rfl⟩
  · refine Or.inr ⟨g, cap, rfl, (Array.getElem?_eq_some_iff.1 hh).1, hnc, fun j x hj => ?_⟩
    have hjl := (List.getElem?_eq_some_iff.1 hj).1
    have h1 : (cur.toList.take (ts.length * 1))[j]? = some (.string x) := by rw [htk, List.getElem?_map, hj]; rfl
    rw [List.getElem?_take, if_pos (by omega)] at h1
    rw [Nat.zero_add, cell_of_row w g j cur _ _ hh]
    simpa using h1

set_option maxRecDepth 100000 in
set_option maxHeartbeats 2000000 in
theorem pPrint_any (v : Value) (ls : List Mid.Id) (w : World) (hv : Ids w v ls) (q : Nat) (t : ByteArray) (hq : Mid.printE ls = (t.data.toList, q)) :
    Calls Try.prog 13 #[v] w fun e w' => e = .returned (.tuple #[.string t, .int .i64 q]) ∧ Below w.heap.size w w' := by
  have HC := Lib.hid (fun W h => check_any v ls W h)
  have HT := Lib.hid (fun x W => print_id x W)
  have HV := Lib.hid hv
  obtain ⟨ad, cap, rfl, hlc, hcm, _, hcells⟩ := hv
  obtain ⟨n, hnn⟩ : ∃ n, n = ls.length := ⟨_, rfl⟩
  rw [← hnn] at HC HV ⊢
  have HN := Lib.hid hnn; have HCL := Lib.hid hcells
  have hu46 : Try.prog.underlying 46 = some (.array 32 5) := Try.underlying46
  unfold Mid.printE at hq
  have HQ := Lib.hid hq
  clear hcells hlc hcm hq hnn
  go_enter Try.func13, Try.ntmps13
  go_wp2_with fail
  refine (HC.out _ HV.out).mono ?_
  rintro e w1 ⟨rfl, hb1⟩
  have B1 := Lib.hid hb1
  clear hb1
  have hq := HQ.out
  have hnn := HN.out
  clear HQ
  generalize hc : Mid.chk ls = c at *
  by_cases h0 : c = 0
  rotate_left
  · rw [if_pos h0] at hq
    obtain ⟨h1, rfl⟩ := Prod.mk.inj hq
    have ht : t = ⟨#[]⟩ := by apply ByteArray.ext; apply Array.toList_inj.1; exact h1.symm
    subst ht
    have hI : ¬ (c : Int) = 0 := by omega
    clear hq h1 hc hnn
    go_wp2_with fail
    go_ret2
    exact ⟨rfl, B1.out⟩
  subst h0
  rw [if_neg (by omega)] at hq
  obtain ⟨h1, rfl⟩ := Prod.mk.inj hq
  have hn20 : n ≤ 20 := by rw [hnn]; exact Mid.chk_len hc
  have HT1 := Lib.hid h1
  clear hq h1 hc hnn
  go_wp2_with fail
  go_loopw [5, 15] (fun o i wr => ∃ (k : Nat) (v : Value), v = o ∧ i = .int .i64 k ∧ k ≤ n ∧ Hid (OwnT w.heap.size wr v ((ls.take k).map Mid.textB)) ∧ Hid (Below w.heap.size w wr)) (fun _ i _ => n - (intOf i).toNat)
  case atStart => exact ⟨0, _, rfl, rfl, Nat.zero_le _, Lib.hid (World.ownsRow_nil _ _ _ _), B1⟩
  case round =>
    clear B1
    obtain ⟨k, v0, rfl, rfl, hk, ho, hbl⟩ := hrel
    by_cases hlt : k < n
    · have hkl : k < ls.length := by rw [← HN.out]; exact hlt
      rcases HCL.out with h0 | ⟨b, off, rfl, hc⟩
      · rw [h0] at hkl; exact absurd hkl (by simp)
      have hblt : b < w.heap.size := hc.lt (by intro h; rw [h] at hkl; exact absurd hkl (by simp))
      have hrg := (hc.keep hbl.out hblt).range k hkl
      have htk : ls.take (k + 1) = ls.take k ++ [ls[k]!] := by rw [List.take_succ_eq_append_getElem hkl, getE ls k hkl]
      have hts : (ls.take (k + 1)).map Mid.textB = (ls.take k).map Mid.textB ++ [Mid.textB ls[k]!] := by rw [htk]; simp
      have HLT := Lib.hid (show ((ls.take k).map Mid.textB).length ≤ 1000000 by rw [List.length_map, List.length_take]; omega)
      have HTS := Lib.hid hts
      generalize ls[k]! = x at *
      have HRG := Lib.hid hrg
      have hix := info_enc infoId x
      have hltI : (k : Int) < (n : Int) := by omega
      have HX := Lib.hid (HT.out x)
      generalize (ls.take k).map Mid.textB = ts at *
      generalize Mid.textB x = tx at *
      clear htk hts hrg hc hblt hkl
      go_wp2_with (first
        | (refine wpList_load_mid rfl _ _ rfl b (off + k * 32) (by rfl) (encI x) _ HRG.out hu46 rfl hix ?_)
        | (refine sto_id infoId wr.heap.size x _ (Blk.fresh wr _ _) (by rfl) (by rfl) _ _ (by rfl) (by rfl) (by rfl) ?_; intro w3 hw3; have X3 := Lib.hid (show Blk w3 wr.heap.size 46 (encI x).toArray by rw [hw3.out]; exact (Blk.fresh wr _ _).row _); have B3 := Lib.hid (show Below wr.heap.size wr w3 by rw [hw3.out]; exact below_row ((Below.refl _ wr).alloc (Nat.le_refl _) _) _ (Nat.le_refl _) _); clear hw3)
        | (refine wpList_load_mid rfl _ _ rfl wr.heap.size 0 (by rfl) (encI x) _ (encBlk X3.out) hu46 rfl hix ?_))
      refine (HX.out _).mono ?_
      rintro e w4 ⟨rfl, hb4⟩
      have B4 := Lib.hid (B3.out.trans (hb4.mono B3.out.size))
      have B5 := Lib.hid (hbl.out.trans (B4.out.mono hbl.out.size))
      have O4 := Lib.hid (show OwnT w.heap.size w4 v0 ts from row_keep ho.out B4.out)
      clear hb4 B3 X3 B4
      go_wp2_with (refine wpList_append_str rfl _ _ rfl w.heap.size v0 ts (by rfl) (O4.out.alloc _) w4.heap.size 1 tx (by rfl) (by rw [cell_of_row _ _ 0 _ _ _ (Blk.fresh w4 9 #[.string tx])]; rfl) HLT.out (Nat.le_trans B5.out.size (((Below.refl w4.heap.size w4).alloc (Nat.le_refl _) (.cells #[.string tx] 9)).size)) ?_; intro v6 w6 O6 G6; have B6 := Lib.hid ((B5.out.alloc B5.out.size (.cells #[.string tx] 9)).grown G6.out (Nat.le_trans B5.out.size (((Below.refl w4.heap.size w4).alloc (Nat.le_refl _) (.cells #[.string tx] 9)).size)) (fun j hj => ((O4.out.alloc (.cells #[.string tx] 9)).lt j hj).1)))
      go_roundw
      case rel => exact ⟨k + 1, _, rfl, by go_num, hlt, Lib.hid (by rw [HTS.out]; exact O6.out), B6⟩
      case measure => simp [intOf]; omega
    · have hkn : k = n := by omega
      subst hkn
      have hk2 : ls.take k = ls := List.take_of_length_le (by rw [← HN.out]; exact Nat.le_refl _)
      rw [hk2] at ho
      have hjn := Mid.join_lib ls
      have hjl := Mid.joinS_len ls
      have hml : (ls.map Mid.textB).length = k := by rw [List.length_map]; exact HN.out.symm
      have hcom : ls.map (fun x => (Mid.textB x).data.toList) = (ls.map Mid.textB).map (·.data.toList) := by rw [List.map_map]; rfl
      rw [hcom] at hjn
      have HB := Lib.hid hbl.out
      have HJN := Lib.hid hjn
      have hjl2 : (Mid.joinS ls).length ≤ 140737488355328 := by rw [← HN.out] at hjl; omega
      rcases own_cells ho.out with ⟨h1, rfl⟩ | ⟨g, cap, rfl, hg, hcap, hcell⟩
      · have ht0 : t = ⟨#[]⟩ := by
          apply ByteArray.ext; apply Array.toList_inj.1
          have h9 := HJN.out
          rw [h1] at h9
          rw [← HT1.out, ← h9]
          rfl
        subst ht0
        have HS := Lib.hid (fun W => Try.strings_Join_none none 0 ⟨#[32]⟩ W)
        clear ho hcom hjn hjl hml h1 hk2 hbl hjl2
        go_wp2_with fail
        refine (HS.out _).mono ?_
        rintro e w9 ⟨rfl, rfl⟩
        go_wp2_with fail
        go_ret2
        exact ⟨rfl, HB.out⟩
      · have HS := Lib.hid (Try.strings_Join g 0 cap (ls.map Mid.textB) ⟨#[32]⟩ wr hcell hg (by omega) hcap (by rw [show (⟨#[32]⟩ : ByteArray).data.toList = [32] from rfl, hjn]; exact hjl2))
        have hte : (⟨(Go.Lib.join ((ls.map Mid.textB).map (·.data.toList)) (⟨#[32]⟩ : ByteArray).data.toList).toArray⟩ : ByteArray) = t := by
          apply ByteArray.ext; apply Array.toList_inj.1
          rw [show (⟨#[32]⟩ : ByteArray).data.toList = [32] from rfl, hjn, HT1.out]
        rw [hte, hml] at HS
        rw [hml]
        clear ho hcom hjn hjl hml hk2 hbl hjl2 hcell hcap hg hte
        go_wp2_with fail
        refine HS.out.mono ?_
        rintro e w9 ⟨rfl, hb9⟩
        have B9 := Lib.hid (HB.out.trans (hb9.mono HB.out.size))
        clear hb9
        go_wp2_with fail
        go_ret2
        exact ⟨rfl, B9.out⟩
end Go.Proofs.Ytcofplbdapjdjaa
