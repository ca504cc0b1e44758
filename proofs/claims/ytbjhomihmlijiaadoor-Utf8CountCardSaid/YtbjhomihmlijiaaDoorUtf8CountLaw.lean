/- Utf8Count: whatever text and index come in, the law's call returns true and its arguments read as before; the table of bounds reads as the program's text lays it (the card ties it).
   Conditions: none beyond the row's own. -/
import Derived.Test.YtbjhomihmlijiaaDoorFrame
import Derived.Test.YtbjhomihmlijiaaDoorOffset
import Derived.Test.YtbjhomihmlijiaaDoorInts
namespace Go.Proofs.YtbjhomihmlijiaaDoor.utf8CountLaw
open Go.ChangeShapes Go.WideShapes Go.ChangeAt Go.RowKit
open Go.ChangeMaps (open_string shut_string)

set_option maxRecDepth 20000 in
set_option maxHeartbeats 4000000 in
theorem walk (a : ByteArray) (i : Int) (h0 : -9223372036854775808 ≤ i) (h1 : i ≤ 9223372036854775807) (ha : a.size ≤ maxLen) (w : World) (hT : Tab w) :
    Calls Tryd.prog 6 #[.string a, .int .i64 i] w fun e w' => e = .returned (.bool true) ∧ Below w.heap.size w w' := by
  have hp := hT.1
  obtain ⟨c, hc⟩ : ∃ c, c = cutS a 300 := ⟨_, rfl⟩
  have hcs : c.size ≤ 300 := by rw [hc]; exact cutS_size a 300
  obtain ⟨⟨rs, os, at_, e⟩, hall⟩ : ∃ x, U8.allF (bytesOf c) c.size 0 = x := ⟨_, rfl⟩
  have hch := U8.all_check (bytesOf c) (bytesOf_lt c) c.size 0
  rw [hall] at hch
  simp only at hch
  have hits := U8.its_all (bytesOf c) (bytesOf_lt c) c.size 0
  rw [hall] at hits
  simp only at hits
  have hlen := U8.its_len (bytesOf c) c.size 0
  obtain ⟨m, hm⟩ : ∃ m, m = (U8.its (bytesOf c) c.size 0).length := ⟨_, rfl⟩
  have hrl : rs.length = m := by rw [← hits.1, List.length_map, hm]
  have hol : os.length = m := by rw [← hits.2, List.length_map, hm]
  have hm300 : m ≤ 300 := by omega
  have HS := Lib.hid (fun w => short_any a 300 w ha c hc)
  have HA := Lib.hid (fun w => refAll_any c w (by omega) rs os at_ e hall)
  have HK := Lib.hid (fun w hT => known_any w hT)
  by_cases he : e = 0
  · subst he
    have HCN := Lib.hid (fun w hT => count_ok c w hT (by omega) at_ hch.symm m hm)
    by_cases hi : i < 0 ∨ (m : Int) < i
    · have HOF := Lib.hid (fun w hT => offset_range c i w hT (by omega) at_ hch.symm m hm hi)
      have HRL := Lib.hid hrl
      have hmI : (m : Int) ≤ 300 := by omega
      clear hc ha hall hch hits hlen hm hrl hol h0 h1 hm300
      rcases hi with hi | hi
      · go_enter Tryd.func6, Tryd.ntmps6
        go_wp2_with fail
        refine (HS.out _).mono ?_
        rintro y w0' ⟨rfl, rfl⟩
        go_wp2_with fail
        refine (HA.out _).mono ?_
        rintro y w1 ⟨v1, v2, rfl, ho1, ho2, _, hb1⟩
        obtain ⟨x1, m1, cap1, rfl, hm1, _⟩ := ints_of ho1
        obtain ⟨x2, m2, cap2, rfl, hm2, hI2⟩ := ints_of ho2
        have HB1 := Lib.hid hb1
        clear ho1 ho2 hb1
        go_wp2_with fail
        refine (HCN.out _ (hT.below HB1.out hp)).mono ?_
        rintro y w2 ⟨rfl, hb2⟩
        have HB2 := Lib.hid (HB1.out.trans (hb2.mono HB1.out.size))
        have HI2 := Lib.hid (hI2.out.below hb2)
        clear hb2 HB1 hI2
        go_wp2_with fail
        refine (HOF.out _ (hT.below HB2.out hp)).mono ?_
        rintro y w3 ⟨rfl, hb3⟩
        have HB3 := Lib.hid (HB2.out.trans (hb3.mono HB2.out.size))
        have HI3 := Lib.hid (HI2.out.below hb3)
        clear hb3 HB2 HI2
        go_wp2_with fail
        refine (HK.out _ (hT.below HB3.out hp)).mono ?_
        rintro y w4 ⟨rfl, hb4⟩
        have HB4 := Lib.hid (HB3.out.trans (hb4.mono HB3.out.size))
        have HI4 := Lib.hid (HI3.out.below hb4)
        clear hb4 HB3 HI3
        have h1m : m1 = m := by have := hm1.out; have := HRL.out; omega
        subst h1m
        clear hm1 hm2
        go_wp2_with fail
        go_ret
        exact ⟨rfl, HB4.out⟩
      · have hi0 : ¬ i < 0 := by omega
        go_enter Tryd.func6, Tryd.ntmps6
        go_wp2_with fail
        refine (HS.out _).mono ?_
        rintro y w0' ⟨rfl, rfl⟩
        go_wp2_with fail
        refine (HA.out _).mono ?_
        rintro y w1 ⟨v1, v2, rfl, ho1, ho2, _, hb1⟩
        obtain ⟨x1, m1, cap1, rfl, hm1, _⟩ := ints_of ho1
        obtain ⟨x2, m2, cap2, rfl, hm2, hI2⟩ := ints_of ho2
        have HB1 := Lib.hid hb1
        clear ho1 ho2 hb1
        go_wp2_with fail
        refine (HCN.out _ (hT.below HB1.out hp)).mono ?_
        rintro y w2 ⟨rfl, hb2⟩
        have HB2 := Lib.hid (HB1.out.trans (hb2.mono HB1.out.size))
        have HI2 := Lib.hid (hI2.out.below hb2)
        clear hb2 HB1 hI2
        go_wp2_with fail
        refine (HOF.out _ (hT.below HB2.out hp)).mono ?_
        rintro y w3 ⟨rfl, hb3⟩
        have HB3 := Lib.hid (HB2.out.trans (hb3.mono HB2.out.size))
        have HI3 := Lib.hid (HI2.out.below hb3)
        clear hb3 HB2 HI2
        go_wp2_with fail
        refine (HK.out _ (hT.below HB3.out hp)).mono ?_
        rintro y w4 ⟨rfl, hb4⟩
        have HB4 := Lib.hid (HB3.out.trans (hb4.mono HB3.out.size))
        have HI4 := Lib.hid (HI3.out.below hb4)
        clear hb4 HB3 HI3
        have h1m : m1 = m := by have := hm1.out; have := HRL.out; omega
        subst h1m
        clear hm1 hm2
        go_wp2_with fail
        go_ret
        exact ⟨rfl, HB4.out⟩
    · obtain ⟨k, rfl⟩ : ∃ k : Nat, i = (k : Int) := ⟨i.toNat, by omega⟩
      have hkm : k ≤ m := by omega
      obtain ⟨o, ho⟩ : ∃ o, o = if k < m then ((U8.its (bytesOf c) c.size 0).getD k (0, 0)).1 else c.size := ⟨_, rfl⟩
      have HOF := Lib.hid (fun w hT => offset_ok c k w hT (by omega) at_ hch.symm m hm hkm o ho)
      have hk0 : ¬ (k : Int) < 0 := by omega
      have hkI : ¬ (m : Int) < (k : Int) := by omega
      have HRL := Lib.hid hrl
      have hmI : (m : Int) ≤ 300 := by omega
      by_cases hkl : k < m
      · rw [if_pos hkl] at ho
        have hov : os.getD k 0 = o := by
          rw [ho, ← hits.2]
          rw [List.getD_eq_getElem?_getD, List.getD_eq_getElem?_getD, List.getElem?_map, List.getElem?_eq_getElem (by omega)]
          rfl
        have HOV := Lib.hid hov; have HOL := Lib.hid hol
        have hklI : (k : Int) < (m : Int) := by omega
        clear hc ha hall hch hits hlen hm hrl hol h0 h1 hm300 ho hov hi
        go_enter Tryd.func6, Tryd.ntmps6
        go_wp2_with fail
        refine (HS.out _).mono ?_
        rintro y w0' ⟨rfl, rfl⟩
        go_wp2_with fail
        refine (HA.out _).mono ?_
        rintro y w1 ⟨v1, v2, rfl, ho1, ho2, _, hb1⟩
        obtain ⟨x1, m1, cap1, rfl, hm1, _⟩ := ints_of ho1
        obtain ⟨x2, m2, cap2, rfl, hm2, hI2⟩ := ints_of ho2
        have HB1 := Lib.hid hb1
        clear ho1 ho2 hb1
        go_wp2_with fail
        refine (HCN.out _ (hT.below HB1.out hp)).mono ?_
        rintro y w2 ⟨rfl, hb2⟩
        have HB2 := Lib.hid (HB1.out.trans (hb2.mono HB1.out.size))
        have HI2 := Lib.hid (hI2.out.below hb2)
        clear hb2 HB1 hI2
        go_wp2_with fail
        refine (HOF.out _ (hT.below HB2.out hp)).mono ?_
        rintro y w3 ⟨rfl, hb3⟩
        have HB3 := Lib.hid (HB2.out.trans (hb3.mono HB2.out.size))
        have HI3 := Lib.hid (HI2.out.below hb3)
        clear hb3 HB2 HI2
        go_wp2_with fail
        refine (HK.out _ (hT.below HB3.out hp)).mono ?_
        rintro y w4 ⟨rfl, hb4⟩
        have HB4 := Lib.hid (HB3.out.trans (hb4.mono HB3.out.size))
        have HI4 := Lib.hid (HI3.out.below hb4)
        clear hb4 HB3 HI3
        have h1m : m1 = m := by have := hm1.out; have := HRL.out; omega
        subst h1m
        obtain ⟨g, rfl, hg, hcell⟩ := HI4.out k (by have := HOL.out; omega)
        rw [HOV.out] at hcell
        have hkl2 : k < m2 := by have := hm2.out; have := HOL.out; omega
        clear hm1 hm2 HI4 HOV HOL HRL
        go_wp2_with fail
        go_ret
        exact ⟨rfl, HB4.out⟩
      · rw [if_neg hkl] at ho
        subst ho
        obtain rfl : k = m := by omega
        clear hc ha hall hch hits hlen hm hrl hol h0 h1 hm300 hi
        go_enter Tryd.func6, Tryd.ntmps6
        go_wp2_with fail
        refine (HS.out _).mono ?_
        rintro y w0' ⟨rfl, rfl⟩
        go_wp2_with fail
        refine (HA.out _).mono ?_
        rintro y w1 ⟨v1, v2, rfl, ho1, ho2, _, hb1⟩
        obtain ⟨x1, m1, cap1, rfl, hm1, _⟩ := ints_of ho1
        obtain ⟨x2, m2, cap2, rfl, hm2, hI2⟩ := ints_of ho2
        have HB1 := Lib.hid hb1
        clear ho1 ho2 hb1
        go_wp2_with fail
        refine (HCN.out _ (hT.below HB1.out hp)).mono ?_
        rintro y w2 ⟨rfl, hb2⟩
        have HB2 := Lib.hid (HB1.out.trans (hb2.mono HB1.out.size))
        have HI2 := Lib.hid (hI2.out.below hb2)
        clear hb2 HB1 hI2
        go_wp2_with fail
        refine (HOF.out _ (hT.below HB2.out hp)).mono ?_
        rintro y w3 ⟨rfl, hb3⟩
        have HB3 := Lib.hid (HB2.out.trans (hb3.mono HB2.out.size))
        have HI3 := Lib.hid (HI2.out.below hb3)
        clear hb3 HB2 HI2
        go_wp2_with fail
        refine (HK.out _ (hT.below HB3.out hp)).mono ?_
        rintro y w4 ⟨rfl, hb4⟩
        have HB4 := Lib.hid (HB3.out.trans (hb4.mono HB3.out.size))
        have HI4 := Lib.hid (HI3.out.below hb4)
        clear hb4 HB3 HI3
        have h1m : m1 = k := by have := hm1.out; have := HRL.out; omega
        subst h1m
        clear hm1 hm2 HI4
        go_wp2_with fail
        go_ret
        exact ⟨rfl, HB4.out⟩
  · have HCN := Lib.hid (fun w hT => count_err c w hT (by omega) at_ e hch.symm he)
    have HOF := Lib.hid (fun w hT => offset_err c i w hT (by omega) at_ e hch.symm he)
    have hne : ((e : Int) != 0) = true := by simp; omega
    clear hc ha hall hch hits hlen hm hrl hol h0 h1 hm300 he
    go_enter Tryd.func6, Tryd.ntmps6
    go_wp2_with fail
    refine (HS.out _).mono ?_
    rintro y w0' ⟨rfl, rfl⟩
    go_wp2_with fail
    refine (HA.out _).mono ?_
    rintro y w1 ⟨v1, v2, rfl, ho1, ho2, _, hb1⟩
    obtain ⟨x1, m1, cap1, rfl, hm1, _⟩ := ints_of ho1
    obtain ⟨x2, m2, cap2, rfl, hm2, hI2⟩ := ints_of ho2
    have HB1 := Lib.hid hb1
    clear ho1 ho2 hb1
    go_wp2_with fail
    refine (HCN.out _ (hT.below HB1.out hp)).mono ?_
    rintro y w2 ⟨rfl, hb2⟩
    have HB2 := Lib.hid (HB1.out.trans (hb2.mono HB1.out.size))
    have HI2 := Lib.hid (hI2.out.below hb2)
    clear hb2 HB1 hI2
    go_wp2_with fail
    refine (HOF.out _ (hT.below HB2.out hp)).mono ?_
    rintro y w3 ⟨rfl, hb3⟩
    have HB3 := Lib.hid (HB2.out.trans (hb3.mono HB2.out.size))
    have HI3 := Lib.hid (HI2.out.below hb3)
    clear hb3 HB2 HI2
    go_wp2_with fail
    refine (HK.out _ (hT.below HB3.out hp)).mono ?_
    rintro y w4 ⟨rfl, hb4⟩
    have HB4 := Lib.hid (HB3.out.trans (hb4.mono HB3.out.size))
    have HI4 := Lib.hid (HI3.out.below hb4)
    clear hb4 HB3 HI3
    clear hm1 hm2 HI4
    go_wp2_with fail
    go_ret
    exact ⟨rfl, HB4.out⟩

theorem contract (H : Type) (enc : TypeId × Value → H) (W : World) (base : Nat) (args : Array Value) (ds gs : List (DataW H)) (before : List MemPlace)
    (hval : ∀ (j : Nat) t v, Tryd.f6.params[j]? = some t → args[j]? = some v → Value.okWide Tryd.prog W .any base t v)
    (hW : DataW.Whole enc Tryd.prog Tryd.f6.params.toList Rows.utf8CountSpec.vars false W args.toList ds gs before) (hL : laidMetH Tryd.prog Rows.utf8CountRow.laid W) (_hs : W.ShapedOpen Tryd.prog) :
    Calls Tryd.prog 6 args W fun e W' => ∃ v, e = .returned v ∧ Rows.utf8CountSpec.post enc Tryd.prog Tryd.f6 false true false false W args v W' := by
  have hW' := hW
  obtain ⟨p, q, hA0, hV, rfl, hfz, hnd⟩ := hW
  have hA : DataW.TrodAll enc Tryd.prog W 0 (fun _ => true) true Tryd.f6.params.toList args.toList ds p := hA0
  rw [Tryd.params6] at hA hval
  obtain ⟨v0, vs0, d0, ds0, p0, q0, hargs, rfl, rfl, h0, r0⟩ := trodAll_cons hA
  obtain ⟨v1, vs1, d1, ds1, p1, q1, rfl, rfl, rfl, h1, r1⟩ := trodAll_cons r0
  obtain ⟨rfl, rfl, rfl⟩ := trodAll_nil r1
  obtain rfl : args = #[v0, v1] := by cases args; simp_all
  obtain ⟨rfl, rfl⟩ := trodVars_none hV
  obtain ⟨a0, rfl, rfl, rfl, w0⟩ := open_string Tryd.underlying9 (hval 0 9 v0 rfl rfl) h0
  obtain ⟨a1, rfl, rfl, rfl, w1⟩ := open_int Tryd.underlying3 (hval 1 3 v1 rfl rfl) h1
  clear hA0
  simp only [List.append_nil] at hW'
  refine (walk a0 a1 (bounds_i64 w1).1 (bounds_i64 w1).2 w0 W (tab hL)).mono fun e W' ⟨he, bel⟩ => ?_
  subst he
  exact ⟨_, rfl, _, _, _, [], [], [], hW', trodAll_mk1 (shut_bool Tryd.underlying4 _), (trodAll_cons_mk (shut_string Tryd.underlying9 w0) (trodAll_cons_mk (shut_int Tryd.underlying3 w1) trodAll_mk0)), rfl, bel.frame _, fun h => by cases h⟩

theorem laid_met (os : Os) : laidMet Tryd.prog Rows.utf8CountRow.laid ((laidWorld os).forCall (fun _ _ => 0) ⟨#[], #[.string ByteArray.empty, .int .i64 0], []⟩).memory :=
  laidMet_of_run' 8 (by kernel_rfl) (by kernel_rfl)
theorem reads (os : Os) {H : Type} (enc : TypeId × Value → H) : ∃ places, DataW.whole enc Tryd.prog ((laidWorld os).forCall (fun _ _ => 0) ⟨#[], #[.string ByteArray.empty, .int .i64 0], []⟩).memory Tryd.f6.params.toList Rows.utf8CountSpec.vars false (#[.string ByteArray.empty, .int .i64 0] : Array Value).toList 8 = some ([.lit (.string []), .lit (.int .i64 0)], [], places) :=
  ⟨[], by kernel_rfl⟩

set_option maxRecDepth 100000 in
theorem lifted (os : Os) (started : os.Started) (H : Type) (enc : TypeId × Value → H) (F : Stop.Interp) :
    ReturnsInHanded {} Tryd.checked os 6 .any ((OpenSpec.ofChange Rows.utf8CountSpec).preRow enc Tryd.prog Tryd.f6 Rows.utf8CountRow.domain false Rows.utf8CountRow.laid) (((OpenSpec.ofChange Rows.utf8CountSpec).at F).post enc Tryd.prog Tryd.f6 false true false false) := by
  obtain ⟨places, hx⟩ := reads os enc
  refine returnsInHanded_of_row (C := Tryd.checked) (s := OpenSpec.ofChange Rows.utf8CountSpec) own started (by kernel_rfl) Tryd.func6
    (witness_row_at (enc := enc) (C := Tryd.checked) false (laidWorld os) #[.string ByteArray.empty, .int .i64 0] rfl (by kernel_rfl) (by kernel_rfl) (by kernel_rfl)
      (OpenSpec.preRow_of_cond 8 hx (by kernel_rfl) (fun k hk => by cases hk) (by kernel_rfl) (laid_met os))) ?_
  intro W base args ds gs before hval hW _ _ _ hL hs _
  exact contract H enc W base args ds gs before hval hW hL hs

theorem said : Rows.Utf8CountSaid :=
  OpenClaim.holds_of_cond 6 Tryd.f6 rfl rfl rfl rfl rfl rfl rfl ⟨rfl, rfl, rfl, rfl, rfl⟩ rfl rfl rfl rfl rfl (by kernel_rfl) Tryd.func6 (by kernel_rfl)
    (of_decide_eq_true (by kernel_rfl)) (by unfold Func.isWrapper; first | (rw [if_pos (by decide +kernel)]; kernel_rfl) | (rw [if_neg (by decide +kernel)]; exact ⟨rfl, rfl⟩))
    (fun os started H enc _ F => by rw [OpenClaim.pre_eq_preRow]; exact lifted os started H enc F)

theorem plain (f : FuncId) (fn : Func) (hf : Tryd.pinned.checked.prog.funcNamed "bulletin/bulletinlaw03.Utf8Count" = some f) (hfn : Tryd.pinned.checked.prog.funcs[f]? = some fn) :
    false = Tryd.pinned.checked.prog.looks [] ∧ ∀ (j : Nat) t, fn.params[j]? = some t → Tryd.pinned.checked.prog.wantsStandIn t = false := by
  obtain rfl : f = 6 := Option.some.inj ((show Tryd.prog.funcNamed "bulletin/bulletinlaw03.Utf8Count" = some 6 by kernel_rfl).symm.trans hf) |>.symm
  obtain rfl : fn = Tryd.f6 := (Option.some.inj (Tryd.func6.symm.trans hfn)).symm
  refine ⟨by kernel_rfl, fun j t ht => ?_⟩
  rw [Tryd.params6] at ht
  have hm : t = 9 ∨ t = 3 := by simpa using Array.mem_of_getElem? ht
  rcases hm with rfl | rfl
  · exact (show Tryd.prog.wantsStandIn 9 = false by kernel_rfl)
  · exact (show Tryd.prog.wantsStandIn 3 = false by kernel_rfl)

end Go.Proofs.YtbjhomihmlijiaaDoor.utf8CountLaw
namespace Go.Proofs.YtbjhomihmlijiaaDoor

/-- THE CARD OF Utf8Count -/
theorem utf8Count_card : Rows.Utf8CountCardSaid :=
  Claim7.holds_tied_plain_at .later [] _ _ _ _ utf8CountLaw.said (fun _ h => by cases h) (by kernel_rfl) (fun _ h => by cases h) utf8Count_row_tie rfl ⟨rfl, rfl⟩ (by kernel_rfl) rfl utf8CountLaw.plain (by kernel_rfl)
#print axioms utf8Count_card
end Go.Proofs.YtbjhomihmlijiaaDoor
