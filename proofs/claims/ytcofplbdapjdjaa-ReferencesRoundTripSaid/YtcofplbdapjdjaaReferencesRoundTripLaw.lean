/- ReferencesRoundTrip: whatever the list and the blanks, a valid list's text parses to the list, with added blanks too. Conditions: none beyond the row's own. -/
import Derived.Test.YtcofplbdapjdjaaRtP
import Derived.Test.YtcofplbdapjdjaaPrs
import Derived.Test.YtcofplbdapjdjaaPPrt
import Derived.Test.YtcofplbdapjdjaaOpenR
import Derived.Test.YtcofplbdapjdjaaKnown
import Derived.Test.YtcofplbdapjdjaaTo
import Derived.Test.YtcofplbdapjdjaaBools
namespace Go.Proofs.Ytcofplbdapjdjaa.referencesRoundTripLaw
open Go.ChangeShapes Go.WideShapes Go.ChangeAt Go.RowKit
open Go.ChangeMaps (open_string shut_string)

theorem fld_blank (st : List (List UInt8) × List UInt8) (c : UInt8) (h : Mid.bl c = true) : (Mid.stp st c).2 = [] := by
  unfold Mid.stp
  rw [if_pos h]
  split
  · assumption
  · rfl
theorem stp_still (st : List (List UInt8) × List UInt8) (c : UInt8) (h : Mid.bl c = true) (h2 : st.2 = []) : Mid.stp st c = st := by
  unfold Mid.stp
  rw [if_pos h, if_pos h2]
theorem flush_blank (st : List (List UInt8) × List UInt8) (c : UInt8) (h : Mid.bl c = true) : Mid.flush (Mid.stp st c) = Mid.flush st := by
  unfold Mid.stp Mid.flush
  rw [if_pos h]
  split
  · rfl
  · rfl
theorem take_step (s : ByteArray) (i : Nat) (h : i < s.size) (c : UInt8) (hc : s[i]'h = c) : s.data.toList.take (i + 1) = s.data.toList.take i ++ [c] ∧ s.extract i (i + 1) = ⟨#[c]⟩ := by
  have hl : i < s.data.toList.length := by rw [size_toList]; exact h
  have e : s.data.toList[i]'hl = c := by rw [get_toList s i h]; exact hc
  refine ⟨by rw [List.take_succ_eq_append_getElem hl, e], ?_⟩
  apply ByteArray.ext
  apply Array.toList_inj.1
  rw [ext_list s i (i + 1) h, List.drop_eq_getElem_cons hl, e, show i + 1 - i = 1 by omega]
  rfl
theorem app_list (m : ByteArray) (c : UInt8) : (m ++ ⟨#[c]⟩ : ByteArray).data.toList = m.data.toList ++ [c] := by simp

theorem more_fld (m : ByteArray) (st) (h : Mid.fld m.data.toList ([], []) = st) : Mid.flush (Mid.fld ((⟨#[32]⟩ : ByteArray) ++ m ++ ⟨#[9]⟩).data.toList ([], [])) = Mid.flush st := by
  have e : ((⟨#[32]⟩ : ByteArray) ++ m).data.toList = 32 :: m.data.toList := by simp
  have e2 : Mid.fld (32 :: m.data.toList) ([], []) = st := by rw [Mid.fld_cons, Mid.stp_blank [] 32 (by decide), h]
  rw [app_list, e, Mid.fld_app, e2]
  exact flush_blank st 9 (by decide)

set_option maxRecDepth 100000 in
set_option maxHeartbeats 8000000 in
theorem walk (p : Option Addr) (len cap : Nat) (ls : List Mid.Id) (bp : Option Addr) (blen bcap : Nat) (w : World) (hv : Ids w (.slice p len cap) ls) (hlen : ls.length = len) (hbv : Bools w bp blen) :
    Calls Try.prog 5 #[.slice p len cap, .slice bp blen bcap] w fun e w' => e = .returned (.bool true) ∧ Below w.heap.size w w' := by
  have HK := Lib.hid (fun w => known_any w)
  by_cases hl : 20 < len
  · have hlI : (20 : Int) < (len : Int) := by omega
    go_enter Try.func5, Try.ntmps5
    have B_40 := Lib.hid (Below.refl w.heap.size w)
    go_wp2_with fail
    refine (HK.out _).mono ?_
    rintro e w41 ⟨rfl, hb41⟩
    have B_41 := Lib.hid (B_40.out.trans (hb41.mono B_40.out.size))
    clear hb41 
    go_wp2_with fail
    refine (HK.out _).mono ?_
    rintro e w42 ⟨rfl, hb42⟩
    have B_42 := Lib.hid (B_41.out.trans (hb42.mono B_41.out.size))
    clear hb42 
    go_wp2_with fail
    go_ret
    exact ⟨rfl, B_42.out⟩
  have hlI : ¬ (20 : Int) < (len : Int) := by omega
  by_cases hl2 : 40 < blen
  · have hlI2 : (40 : Int) < (blen : Int) := by omega
    go_enter Try.func5, Try.ntmps5
    have B_40 := Lib.hid (Below.refl w.heap.size w)
    go_wp2_with fail
    refine (HK.out _).mono ?_
    rintro e w41 ⟨rfl, hb41⟩
    have B_41 := Lib.hid (B_40.out.trans (hb41.mono B_40.out.size))
    clear hb41 
    go_wp2_with fail
    refine (HK.out _).mono ?_
    rintro e w42 ⟨rfl, hb42⟩
    have B_42 := Lib.hid (B_41.out.trans (hb42.mono B_41.out.size))
    clear hb42 
    go_wp2_with fail
    go_ret
    exact ⟨rfl, B_42.out⟩
  have hlI2 : ¬ (40 : Int) < (blen : Int) := by omega
  have HO := Lib.hid (fun W v h => own_any v ls W (by omega) h)
  have HCK := Lib.hid (fun W v h => check_any v ls W h)
  obtain ⟨L, q, hD⟩ : ∃ L q, Mid.printE ls = (L, q) := ⟨_, _, rfl⟩
  obtain ⟨t, ht⟩ : ∃ t : ByteArray, t.data.toList = L := ⟨⟨L.toArray⟩, by simp⟩
  rw [← ht] at hD
  have HP := Lib.hid (fun W v h => pPrint_any v ls W h q t hD)
  have hq : Mid.chk ls = q ∧ (q = 0 → t.data.toList = Mid.joinS ls) ∧ (q ≠ 0 → t = ⟨#[]⟩) := by
    unfold Mid.printE at hD
    by_cases h : Mid.chk ls = 0
    · rw [if_neg (by omega)] at hD
      obtain ⟨h1, h2⟩ := Prod.mk.inj hD
      exact ⟨by omega, fun _ => h1.symm, fun hn => absurd h2.symm hn⟩
    · rw [if_pos h] at hD
      obtain ⟨h1, h2⟩ := Prod.mk.inj hD
      exact ⟨h2, fun h0 => by omega, fun _ => by apply ByteArray.ext; apply Array.toList_inj.1; exact h1.symm⟩
  obtain ⟨hq1, hq2, hq3⟩ := hq
  rw [hq1] at HCK
  have HQ1 := Lib.hid hq1; have HQ2 := Lib.hid hq2
  have V := Lib.hid hv; have U := Lib.hid hbv
  clear hv hbv hlen hl hl2 hD ht hq1 hq2
  by_cases hq0 : q = 0
  rotate_left
  · have hqI : ¬ (q : Int) = 0 := by omega
    have hte := hq3 hq0
    subst hte
    clear hq3 hq0
    go_enter Try.func5, Try.ntmps5
    have B_60 := Lib.hid (Below.refl w.heap.size w)
    go_wp2_with fail
    refine (HK.out _).mono ?_
    rintro e w61 ⟨rfl, hb61⟩
    have B_61 := Lib.hid (B_60.out.trans (hb61.mono B_60.out.size))
    have V_61 := Lib.hid (V.out.below hb61)
    clear hb61 
    go_wp2_with fail
    refine (HO.out _ _ V_61.out).mono ?_
    rintro e w62 ⟨v1, rfl, hi, hb62⟩
    have B_62 := Lib.hid (B_61.out.trans (hb62.mono B_61.out.size))
    have V_62 := Lib.hid (V_61.out.below hb62)
    have A_62 := Lib.hid (hi)
    clear hb62 hi
    go_wp2_with fail
    refine (HP.out _ _ A_62.out).mono ?_
    rintro e w63 ⟨rfl, hb63⟩
    have B_63 := Lib.hid (B_62.out.trans (hb63.mono B_62.out.size))
    have V_63 := Lib.hid (V_62.out.below hb63)
    have A_63 := Lib.hid (A_62.out.below hb63)
    clear hb63 
    go_wp2_with fail
    refine (HO.out _ _ V_63.out).mono ?_
    rintro e w64 ⟨v2, rfl, hi, hb64⟩
    have B_64 := Lib.hid (B_63.out.trans (hb64.mono B_63.out.size))
    have V_64 := Lib.hid (V_63.out.below hb64)
    have A_64 := Lib.hid (A_63.out.below hb64)
    have C_64 := Lib.hid (hi)
    clear hb64 hi
    go_wp2_with fail
    refine (HCK.out _ _ C_64.out).mono ?_
    rintro e w65 ⟨rfl, hb65⟩
    have B_65 := Lib.hid (B_64.out.trans (hb65.mono B_64.out.size))
    have V_65 := Lib.hid (V_64.out.below hb65)
    have A_65 := Lib.hid (A_64.out.below hb65)
    have C_65 := Lib.hid (C_64.out.below hb65)
    clear hb65 
    go_wp2_with fail
    go_ret
    exact ⟨rfl, B_65.out⟩
  subst hq0
  have htl := HQ2.out rfl
  have hjl := Mid.joinS_len ls
  have h20 := Mid.chk_len HQ1.out
  have hts : t.size ≤ 1440 := by rw [← size_toList, htl]; omega
  have HTS := Lib.hid hts
  have htsI : (t.size : Int) ≤ 1440 := by omega
  have HJ := Lib.hid (show Mid.flush (Mid.fld t.data.toList ([], [])) = ls.map fun x => Mid.printL x.1 by rw [htl]; exact Mid.join_fld ls [])
  have HPA := Lib.hid (fun (s : ByteArray) (hs : s.size ≤ 100000) (hf : Mid.flush (Mid.fld s.data.toList ([], [])) = ls.map fun x => Mid.printL x.1) W => (show Calls Try.prog 17 #[.string s] W fun e w' => ∃ v a, e = .returned (.tuple #[v, .int .i64 (a : Nat), .int .i64 0]) ∧ Ids w' v ls ∧ Below W.heap.size W w' by
    obtain ⟨R0, hR0⟩ := Mid.toks_ex s.data.toList _ 0 (Nat.le_refl _)
    refine (pParse_any s hs R0 hR0 W).mono ?_
    rintro e w' ⟨v, l, a, b, rfl, he, hi, hb⟩
    rw [Mid.prs_text ls HQ1.out s.data.toList R0 hR0 hf] at he
    obtain ⟨h1, h2⟩ := Prod.mk.inj he
    obtain ⟨h3, h4⟩ := Prod.mk.inj h2
    subst h1 h3 h4
    exact ⟨v, 0, rfl, hi, hb⟩))
  have HSA := Lib.hid (fun W v u h1 h2 => same_any v u ls ls W h1 h2)
  rw [decide_eq_true rfl] at HSA
  clear htl hjl h20 hts hq3
  go_enter Try.func5, Try.ntmps5
  have B_0 := Lib.hid (Below.refl w.heap.size w)
  go_wp2_with fail
  refine (HK.out _).mono ?_
  rintro e w1 ⟨rfl, hb1⟩
  have B_1 := Lib.hid (B_0.out.trans (hb1.mono B_0.out.size))
  have V_1 := Lib.hid (V.out.below hb1)
  clear hb1 
  go_wp2_with fail
  refine (HO.out _ _ V_1.out).mono ?_
  rintro e w2 ⟨v1, rfl, hi, hb2⟩
  have B_2 := Lib.hid (B_1.out.trans (hb2.mono B_1.out.size))
  have V_2 := Lib.hid (V_1.out.below hb2)
  have A_2 := Lib.hid (hi)
  clear hb2 hi
  go_wp2_with fail
  refine (HP.out _ _ A_2.out).mono ?_
  rintro e w3 ⟨rfl, hb3⟩
  have B_3 := Lib.hid (B_2.out.trans (hb3.mono B_2.out.size))
  have V_3 := Lib.hid (V_2.out.below hb3)
  have A_3 := Lib.hid (A_2.out.below hb3)
  clear hb3 
  go_wp2_with fail
  have BB := B_3; have VV := V_3
  generalize w3 = wz at *
  go_loopw [7, 8, 9] (fun mv nv iv wx => ∃ (m : ByteArray) (n i : Nat), mv = .string m ∧ nv = .int .i64 n ∧ iv = .int .i64 i ∧ i ≤ t.size ∧ n ≤ blen ∧ m.size = i + n ∧ wx = wz ∧ Hid (Mid.fld m.data.toList ([], []) = Mid.fld (t.data.toList.take i) ([], []))) (fun _ _ iv _ => t.size - (intOf iv).toNat)
  case atStart => exact ⟨⟨#[]⟩, 0, 0, rfl, rfl, rfl, Nat.zero_le _, Nat.zero_le _, rfl, rfl, Lib.hid rfl⟩
  case round =>
    obtain ⟨m, n, i, rfl, rfl, rfl, hi, hn, hms, rfl, HF⟩ := hrel
    by_cases hlt : i < t.size
    · obtain ⟨c, hc⟩ : ∃ c, t[i]'hlt = c := ⟨_, rfl⟩
      have i1 := fun w => run_at t i hlt c hc w
      obtain ⟨htk, hX⟩ := take_step t i hlt c hc
      obtain ⟨j, hj⟩ : ∃ j, j = i + 1 := ⟨_, rfl⟩
      rw [← hj] at htk hX
      have hjI : (i : Int) + 1 = (j : Int) := by omega
      have hij : (i : Int) ≤ (j : Int) := by omega
      have hjt : (j : Int) ≤ (t.size : Int) := by omega
      have hltI : (i : Int) < (t.size : Int) := by omega
      have g1 : ¬ 9223372036854775807 < m.size + 1 := by have := HTS.out; omega
      have hm1 : (m ++ ⟨#[c]⟩ : ByteArray).size = j + n := by rw [ByteArray.size_append, hms, hj]; show i + n + 1 = _; omega
      have HF1 := Lib.hid (show Mid.fld (m ++ ⟨#[c]⟩ : ByteArray).data.toList ([], []) = Mid.fld (t.data.toList.take j) ([], []) by rw [app_list, Mid.fld_app, HF.out, htk, Mid.fld_app])
      have HST0 := Lib.hid (show c = 32 → (Mid.fld (t.data.toList.take j) ([], [])).2 = [] from fun h => by rw [htk, Mid.fld_app]; exact fld_blank _ c (by rw [h]; decide))
      have HM1 := Lib.hid hm1; have HN := Lib.hid hn; have HJE := Lib.hid hj; have HJT := Lib.hid (show j ≤ t.size by omega)
      clear hc htk hm1 hms HF hj
      go_wp2_with fail
      go_loopw [7, 8] (fun mv nv wx => ∃ (m2 : ByteArray) (n2 : Nat), mv = .string m2 ∧ nv = .int .i64 n2 ∧ n ≤ n2 ∧ n2 ≤ blen ∧ m2.size = j + n2 ∧ wx = wr ∧ Hid (Mid.fld m2.data.toList ([], []) = Mid.fld (t.data.toList.take j) ([], []))) (fun _ nv _ => blen - (intOf nv).toNat)
      case atStart => exact ⟨_, n, rfl, rfl, Nat.le_refl _, HN.out, HM1.out, rfl, HF1⟩
      case round =>
        clear HF1 HM1 hX g1
        obtain ⟨m2, n2, rfl, rfl, hn2, hn3, hm2, rfl, HF2⟩ := hrel
        by_cases hsp : (c.toNat : Int) = 32
        · by_cases hnb : n2 < blen
          · obtain ⟨b, off, x, hbp, hb, hcell⟩ := U.out n2 hnb
            subst hbp
            have hcw := (BB.out.cell (p := ⟨b, off + n2, none⟩) hb).trans hcell
            have hnbI : (n2 : Int) < (blen : Int) := by omega
            have hc32 : c = 32 := by apply UInt8.toNat_inj.1; show c.toNat = 32; omega
            have HST := Lib.hid (HST0.out hc32)
            have g2 : ¬ 9223372036854775807 < m2.size + 1 := by have := HTS.out; have := HJT.out; omega
            have HK2 := Lib.hid (show n2 + 1 ≤ blen by omega)
            obtain ⟨r, hrm⟩ : ∃ r : Nat, ((n2 : Int) + 1) % 3 = (r : Int) := ⟨(n2 + 1) % 3, by omega⟩
            have hrm2 : ((n2 : Int) + 1).tmod 3 = (r : Int) := by rw [Int.tmod_eq_emod_of_nonneg (by omega)]; exact hrm
            have hn40 : (n2 : Int) + 1 ≤ 40 := by omega
            clear hcell hc32
            cases x
            · have HF3 := Lib.hid (show Mid.fld (m2 ++ ⟨#[32]⟩ : ByteArray).data.toList ([], []) = Mid.fld (t.data.toList.take j) ([], []) by rw [app_list, Mid.fld_app, HF2.out]; exact stp_still _ 32 (by decide) HST.out)
              have hm3 : (m2 ++ ⟨#[32]⟩ : ByteArray).size = j + (n2 + 1) := by rw [ByteArray.size_append, hm2]; show j + n2 + 1 = _; omega
              have HM3 := Lib.hid hm3
              clear hm3
              by_cases hr : r = 0
              · have hrI : (r : Int) = 0 := by omega
                go_wp2_with fail
                go_roundw
                case rel => exact ⟨_, n2 + 1, j, rfl, by go_num, rfl, HJT.out, HK2.out, HM3.out, by trivial, HF3⟩
                case measure => have := HJE.out; have := HJT.out; simp [intOf]; omega
              · have hrI : ¬ (r : Int) = 0 := by omega
                have hbr : ((r : Int) == 0) = false := by simpa using hrI
                go_wp2_with fail
                go_roundw
                case rel => exact ⟨_, n2 + 1, rfl, by go_num, by omega, HK2.out, HM3.out, by trivial, HF3⟩
                case measure => have := HK2.out; simp [intOf]; omega
            · have HF3 := Lib.hid (show Mid.fld (m2 ++ ⟨#[9]⟩ : ByteArray).data.toList ([], []) = Mid.fld (t.data.toList.take j) ([], []) by rw [app_list, Mid.fld_app, HF2.out]; exact stp_still _ 9 (by decide) HST.out)
              have hm3 : (m2 ++ ⟨#[9]⟩ : ByteArray).size = j + (n2 + 1) := by rw [ByteArray.size_append, hm2]; show j + n2 + 1 = _; omega
              have HM3 := Lib.hid hm3
              clear hm3
              by_cases hr : r = 0
              · have hrI : (r : Int) = 0 := by omega
                go_wp2_with fail
                go_roundw
                case rel => exact ⟨_, n2 + 1, j, rfl, by go_num, rfl, HJT.out, HK2.out, HM3.out, by trivial, HF3⟩
                case measure => have := HJE.out; have := HJT.out; simp [intOf]; omega
              · have hrI : ¬ (r : Int) = 0 := by omega
                have hbr : ((r : Int) == 0) = false := by simpa using hrI
                go_wp2_with fail
                go_roundw
                case rel => exact ⟨_, n2 + 1, rfl, by go_num, by omega, HK2.out, HM3.out, by trivial, HF3⟩
                case measure => have := HK2.out; simp [intOf]; omega
          · have hnbI : ¬ (n2 : Int) < (blen : Int) := by omega
            have HM2 := Lib.hid hm2; have HN3 := Lib.hid hn3
            go_wp2_with fail
            go_roundw
            case rel => exact ⟨m2, n2, j, rfl, rfl, rfl, HJT.out, HN3.out, HM2.out, by trivial, HF2⟩
            case measure => have := HJE.out; have := HJT.out; simp [intOf]; omega
        · have hbs : ((c.toNat : Int) == 32) = false := by simpa using hsp
          have HM2 := Lib.hid hm2; have HN3 := Lib.hid hn3
          go_wp2_with fail
          go_roundw
          case rel => exact ⟨m2, n2, j, rfl, rfl, rfl, HJT.out, HN3.out, HM2.out, by trivial, HF2⟩
          case measure => have := HJE.out; have := HJT.out; simp [intOf]; omega
    · have hit : i = t.size := by omega
      have hfl := HF.out
      rw [hit, ← size_toList t, List.take_length] at hfl
      have HF9 := Lib.hid ((more_fld m _ hfl).trans HJ.out)
      have hm9 : m.size ≤ 1480 := by have := HTS.out; omega
      have HM9 := Lib.hid hm9
      have g1 : ¬ 9223372036854775807 < 1 + m.size := by omega
      have g2 : ¬ 9223372036854775807 < 1 + m.size + 1 := by omega
      clear HF hfl hit hm9 hms
      go_wp2_with fail
      refine (HPA.out _ (by have := HTS.out; omega) HJ.out _).mono ?_
      rintro e wa ⟨va, a1, rfl, hia, hba⟩
      have IA := Lib.hid hia; have VA := Lib.hid (VV.out.below hba); have BA := Lib.hid (BB.out.trans (hba.mono BB.out.size))
      clear hia hba
      go_wp2_with fail
      refine (HPA.out _ (by have := HM9.out; rw [ByteArray.size_append, ByteArray.size_append]; show 1 + m.size + 1 ≤ 100000; omega) HF9.out _).mono ?_
      rintro e wb ⟨vb, a2, rfl, hib, hbb⟩
      have IB := Lib.hid hib; have IA2 := Lib.hid (IA.out.below hbb); have VB := Lib.hid (VA.out.below hbb); have BB2 := Lib.hid (BA.out.trans (hbb.mono BA.out.size))
      clear hib hbb
      go_wp2_with fail
      refine (HSA.out _ _ _ IA2.out VB.out).mono ?_
      rintro e wc ⟨rfl, hbc⟩
      have IB3 := Lib.hid (IB.out.below hbc); have VC := Lib.hid (VB.out.below hbc); have BC := Lib.hid (BB2.out.trans (hbc.mono BB2.out.size))
      clear hbc
      rename_i K9 hK9
      refine hK9 _ _ ?_
      clear hK9 K9
      go_wp2_with fail
      refine (HSA.out _ _ _ IB3.out VC.out).mono ?_
      rintro e wd ⟨rfl, hbd⟩
      have BD := Lib.hid (BC.out.trans (hbd.mono BC.out.size))
      clear hbd
      rename_i K9 hK9
      refine hK9 _ _ ?_
      clear hK9 K9
      go_wp2_with fail
      go_ret
      exact ⟨rfl, BD.out⟩

set_option maxRecDepth 100000 in
theorem contract (H : Type) (enc : TypeId × Value → H) (W : World) (base : Nat) (args : Array Value) (ds gs : List (DataW H)) (before : List MemPlace)
    (hval : ∀ (j : Nat) t v, Try.f5.params[j]? = some t → args[j]? = some v → Value.okWide Try.prog W .any base t v)
    (hW : DataW.Whole enc Try.prog Try.f5.params.toList Rows.referencesRoundTripSpec.vars false W args.toList ds gs before) (_hL : laidMetH Try.prog Rows.referencesRoundTripRow.laid W) (_hs : W.ShapedOpen Try.prog) :
    Calls Try.prog 5 args W fun e W' => ∃ v, e = .returned v ∧ Rows.referencesRoundTripSpec.post enc Try.prog Try.f5 false true false false W args v W' := by
  have hW' := hW
  obtain ⟨p, q, hA0, hV, rfl, hfz, hnd⟩ := hW
  have hA : DataW.TrodAll enc Try.prog W 0 (fun _ => true) true Try.f5.params.toList args.toList ds p := hA0
  rw [Try.params5] at hA hval
  obtain ⟨v0, vs0, d0, ds0, p0, q0, hargs, rfl, rfl, h0, r0⟩ := trodAll_cons hA
  obtain ⟨v1, vs1, d1, ds1, p1, q1, rfl, rfl, rfl, h1, r1⟩ := trodAll_cons r0
  obtain ⟨rfl, rfl, rfl⟩ := trodAll_nil r1
  obtain rfl : args = #[v0, v1] := by cases args; simp_all
  obtain ⟨rfl, rfl⟩ := trodVars_none hV
  obtain ⟨a0, len0, cap0, rfl⟩ := okWide_slice Try.underlying22 (hval 0 22 v0 rfl rfl)
  have k0 := h0
  have lt0 : ∀ x ∈ p0, x.block < W.heap.size := by obtain ⟨m, hm⟩ := k0; exact DataW.trod_lt m _ _ _ hm
  obtain ⟨l0, w0, e0⟩ := ids_openR h0
  obtain ⟨a1, len1, cap1, rfl⟩ := okWide_slice Try.underlying39 (hval 1 39 v1 rfl rfl)
  have k1 := h1
  have lt1 : ∀ x ∈ p1, x.block < W.heap.size := by obtain ⟨m, hm⟩ := k1; exact DataW.trod_lt m _ _ _ hm
  obtain ⟨l1, w1⟩ := bools_open h1
  clear hA0
  refine (walk a0 len0 cap0 l0 a1 len1 cap1 W w0 e0 l1).mono fun e W' ⟨he, bel⟩ => ?_
  subst he
  exact ⟨_, rfl, _, _, _, [], _, [], hW', trodAll_mk1 (shut_bool Try.underlying4 _), (trodAll_cons_mk (Below.trod laidOut (by kernel_rfl) (of_decide_eq_true (by kernel_rfl)) k0 bel lt0) (trodAll_cons_mk (Below.trod laidOut (by kernel_rfl) (of_decide_eq_true (by kernel_rfl)) k1 bel lt1) trodAll_mk0)), rfl, bel.frame _, fun h => by cases h⟩

theorem laid_met (os : Os) : laidMet Try.prog Rows.referencesRoundTripRow.laid ((laidWorld os).forCall (fun _ _ => 0) ⟨#[], #[.slice none 0 0, .slice none 0 0], []⟩).memory :=
  laidMet_of_run' 8 (by kernel_rfl) (by kernel_rfl)
theorem reads (os : Os) {H : Type} (enc : TypeId × Value → H) : ∃ places, DataW.whole enc Try.prog ((laidWorld os).forCall (fun _ _ => 0) ⟨#[], #[.slice none 0 0, .slice none 0 0], []⟩).memory Try.f5.params.toList Rows.referencesRoundTripSpec.vars false (#[.slice none 0 0, .slice none 0 0] : Array Value).toList 8 = some ([.nil, .nil], [], places) :=
  ⟨[], by kernel_rfl⟩

set_option maxRecDepth 100000 in
theorem lifted (os : Os) (started : os.Started) (H : Type) (enc : TypeId × Value → H) (F : Stop.Interp) :
    ReturnsInHanded {} Try.checked os 5 .any ((OpenSpec.ofChange Rows.referencesRoundTripSpec).preRow enc Try.prog Try.f5 Rows.referencesRoundTripRow.domain false Rows.referencesRoundTripRow.laid) (((OpenSpec.ofChange Rows.referencesRoundTripSpec).at F).post enc Try.prog Try.f5 false true false false) := by
  obtain ⟨places, hx⟩ := reads os enc
  refine returnsInHanded_of_row (C := Try.checked) (s := OpenSpec.ofChange Rows.referencesRoundTripSpec) own started (by kernel_rfl) Try.func5
    (witness_row_at (enc := enc) (C := Try.checked) false (laidWorld os) #[.slice none 0 0, .slice none 0 0] rfl (by kernel_rfl) (by kernel_rfl) (by kernel_rfl)
      (OpenSpec.preRow_of_cond 8 hx (by kernel_rfl) (fun k hk => by cases hk) (by kernel_rfl) (laid_met os))) ?_
  intro W base args ds gs before hval hW _ _ _ hL hs _
  exact contract H enc W base args ds gs before hval hW hL hs

theorem said : Rows.ReferencesRoundTripSaid :=
  OpenClaim.holds_of_cond 5 Try.f5 rfl rfl rfl rfl rfl rfl rfl ⟨rfl, rfl, rfl, rfl, rfl⟩ rfl rfl rfl rfl rfl (by kernel_rfl) Try.func5 (by kernel_rfl)
    (of_decide_eq_true (by kernel_rfl)) (by unfold Func.isWrapper; first | (rw [if_pos (by decide +kernel)]; kernel_rfl) | (rw [if_neg (by decide +kernel)]; exact ⟨rfl, rfl⟩))
    (fun os started H enc _ F => by rw [OpenClaim.pre_eq_preRow]; exact lifted os started H enc F)

end Go.Proofs.Ytcofplbdapjdjaa.referencesRoundTripLaw
namespace Go.Proofs.Ytcofplbdapjdjaa

/-- THE STATEMENT OF ReferencesRoundTrip -/
theorem referencesRoundTrip_said : Rows.ReferencesRoundTripSaid := referencesRoundTripLaw.said
#print axioms referencesRoundTrip_said
end Go.Proofs.Ytcofplbdapjdjaa
