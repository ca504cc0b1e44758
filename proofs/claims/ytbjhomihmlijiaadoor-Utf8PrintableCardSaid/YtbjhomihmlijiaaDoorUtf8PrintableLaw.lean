/- Utf8Printable: whatever text comes in, the law's call returns true and its arguments read as before; the table of bounds reads as the program's text lays it (the card ties it).
   Conditions: none beyond the row's own. -/
import Derived.Test.YtbjhomihmlijiaaDoorFrame
import Derived.Test.YtbjhomihmlijiaaDoorPrint
import Derived.Test.YtbjhomihmlijiaaDoorInts
namespace Go.Proofs.YtbjhomihmlijiaaDoor.utf8PrintableLaw
open Go.ChangeShapes Go.WideShapes Go.ChangeAt Go.RowKit
open Go.ChangeMaps (open_string shut_string)

theorem any_next (v : Bool) (rs : List Nat) (k : Nat) (hk : k < rs.length) : (v && !((rs.take (k + 1)).any U8.ctl)) = ((v && !((rs.take k).any U8.ctl)) && !(U8.ctl (rs.getD k 0))) := by
  rw [List.take_succ_eq_append_getElem hk, List.any_append, List.getD_eq_getElem?_getD, List.getElem?_eq_getElem hk]
  simp [Bool.and_assoc]

set_option maxRecDepth 20000 in
set_option maxHeartbeats 2000000 in
theorem walk (a : ByteArray) (ha : a.size ≤ maxLen) (w : World) (hT : Tab w) :
    Calls Tryd.prog 10 #[.string a] w fun e w' => e = .returned (.bool true) ∧ Below w.heap.size w w' := by
  have hp := hT.1
  obtain ⟨c, hc⟩ : ∃ c, c = cutS a 300 := ⟨_, rfl⟩
  have hcs : c.size ≤ 300 := by rw [hc]; exact cutS_size a 300
  obtain ⟨⟨rs, os, at_, e⟩, hall⟩ : ∃ x, U8.allF (bytesOf c) c.size 0 = x := ⟨_, rfl⟩
  have hch := U8.all_check (bytesOf c) (bytesOf_lt c) c.size 0
  rw [hall] at hch
  have hits := (U8.its_all (bytesOf c) (bytesOf_lt c) c.size 0).1
  rw [hall] at hits
  simp only at hits
  have hany : ((U8.its (bytesOf c) c.size 0).any fun x => U8.ctl x.2) = rs.any U8.ctl := by
    rw [← hits, List.any_map]
    rfl
  have hlen : rs.length ≤ 300 := by
    have := U8.its_len (bytesOf c) c.size 0
    rw [← hits, List.length_map]
    omega
  obtain ⟨v, hv⟩ : ∃ v : Bool, v = ((e : Int) == 0) := ⟨_, rfl⟩
  obtain ⟨b, hb⟩ : ∃ b, b = (v && !(rs.any U8.ctl)) := ⟨_, rfl⟩
  have HS := Lib.hid (fun w => short_any a 300 w ha c hc)
  have HA := Lib.hid (fun w => refAll_any c w (by omega) rs os at_ e hall)
  have HK := Lib.hid (fun w hT => known_any w hT)
  have HP := Lib.hid (fun w hT => printable_any c w hT (by omega) v b (by rw [← hch]; exact hv) (by rw [hany]; exact hb))
  have hv2 : ((e : Int) == 0) = v := hv.symm
  have HB := Lib.hid hb; have HL := Lib.hid hlen
  clear hc ha hall hch hits hany hv hb hlen
  go_enter Tryd.func10, Tryd.ntmps10
  go_wp2_with fail
  refine (HS.out _).mono ?_
  rintro e w0' ⟨rfl, rfl⟩
  go_wp2_with fail
  refine (HA.out _).mono ?_
  rintro e w1 ⟨v1, v2, rfl, ho1, _, _, hb1⟩
  obtain ⟨x, m, cap, rfl, hm, hI⟩ := ints_of ho1
  have HB1 := Lib.hid hb1
  clear ho1 hb1
  go_wp2_with fail
  go_loop [7, 8] (fun q ii => ∃ (k : Nat) (z : Bool), q = .bool z ∧ ii = .int .i64 k ∧ k ≤ m ∧ Hid (z = (v && !((rs.take k).any U8.ctl)))) (fun _ ii => m - (intOf ii).toNat)
  case atStart => exact ⟨0, v, rfl, rfl, Nat.zero_le _, Lib.hid (by simp)⟩
  case round =>
    obtain ⟨k, z, rfl, rfl, hk, hz⟩ := hrel
    by_cases hlt : k < m
    · have hkl : k < rs.length := by have := hm.out; omega
      obtain ⟨g, rfl, hg, hcell⟩ := hI.out k hkl
      obtain ⟨r, hr⟩ : ∃ r, r = rs.getD k 0 := ⟨_, rfl⟩
      have hnx := any_next v rs k hkl
      rw [← hz.out, ← hr] at hnx
      rw [← hr] at hcell
      have hk300 : (k : Int) < 300 := by have := HL.out; omega
      have HNX := Lib.hid hnx
      clear hnx hr hz
      cases z with
      | true =>
        cases hcr : U8.ctl r with
        | true =>
          have HC := Lib.hid (fun w => control_any r w true hcr.symm)
          have hfin : (v && !((rs.take (k + 1)).any U8.ctl)) = false := by rw [HNX.out, hcr]; rfl
          have HF := Lib.hid hfin
          clear hcr hfin HNX
          go_wp2_with fail
          refine (HC.out _).mono ?_
          rintro e w2 ⟨rfl, rfl⟩
          go_wp2_with fail
          go_round
          case rel => exact ⟨k + 1, false, rfl, by go_num, by omega, Lib.hid HF.out.symm⟩
          case measure => simp [intOf]; omega
        | false =>
          have HC := Lib.hid (fun w => control_any r w false hcr.symm)
          have hfin : (v && !((rs.take (k + 1)).any U8.ctl)) = true := by rw [HNX.out, hcr]; rfl
          have HF := Lib.hid hfin
          clear hcr hfin HNX
          go_wp2_with fail
          refine (HC.out _).mono ?_
          rintro e w2 ⟨rfl, rfl⟩
          go_wp2_with fail
          go_round
          case rel => exact ⟨k + 1, true, rfl, by go_num, by omega, Lib.hid HF.out.symm⟩
          case measure => simp [intOf]; omega
      | false =>
        have hfin : (v && !((rs.take (k + 1)).any U8.ctl)) = false := by rw [HNX.out]; rfl
        have HF := Lib.hid hfin
        clear hfin HNX
        go_wp2_with fail
        go_round
        case rel => exact ⟨k + 1, false, rfl, by go_num, by omega, Lib.hid HF.out.symm⟩
        case measure => simp [intOf]; omega
    · have hzb : z = b := by rw [hz.out, HB.out, List.take_of_length_le (by have := hm.out; omega)]
      subst hzb
      clear hz HB
      go_wp2_with fail
      refine (HK.out _ (hT.below HB1.out hp)).mono ?_
      rintro e w3 ⟨rfl, hb3'⟩
      have HB3 := Lib.hid (HB1.out.trans (hb3'.mono HB1.out.size))
      clear hb3'
      go_wp2_with fail
      refine (HP.out _ (hT.below HB3.out hp)).mono ?_
      rintro e w4 ⟨rfl, hb4'⟩
      have HB4 := Lib.hid (HB3.out.trans (hb4'.mono HB3.out.size))
      clear hb4'
      go_wp2_with fail
      go_ret
      exact ⟨by simp, HB4.out⟩

theorem contract (H : Type) (enc : TypeId × Value → H) (W : World) (base : Nat) (args : Array Value) (ds gs : List (DataW H)) (before : List MemPlace)
    (hval : ∀ (j : Nat) t v, Tryd.f10.params[j]? = some t → args[j]? = some v → Value.okWide Tryd.prog W .any base t v)
    (hW : DataW.Whole enc Tryd.prog Tryd.f10.params.toList Rows.utf8PrintableSpec.vars false W args.toList ds gs before) (hL : laidMetH Tryd.prog Rows.utf8PrintableRow.laid W) (_hs : W.ShapedOpen Tryd.prog) :
    Calls Tryd.prog 10 args W fun e W' => ∃ v, e = .returned v ∧ Rows.utf8PrintableSpec.post enc Tryd.prog Tryd.f10 false true false false W args v W' := by
  have hW' := hW
  obtain ⟨p, q, hA0, hV, rfl, hfz, hnd⟩ := hW
  have hA : DataW.TrodAll enc Tryd.prog W 0 (fun _ => true) true Tryd.f10.params.toList args.toList ds p := hA0
  rw [Tryd.params10] at hA hval
  obtain ⟨v0, vs0, d0, ds0, p0, q0, hargs, rfl, rfl, h0, r0⟩ := trodAll_cons hA
  obtain ⟨rfl, rfl, rfl⟩ := trodAll_nil r0
  obtain rfl : args = #[v0] := by cases args; simp_all
  obtain ⟨rfl, rfl⟩ := trodVars_none hV
  obtain ⟨a0, rfl, rfl, rfl, w0⟩ := open_string Tryd.underlying9 (hval 0 9 v0 rfl rfl) h0
  clear hA0
  simp only [List.append_nil] at hW'
  refine (walk a0 w0 W (tab hL)).mono fun e W' ⟨he, bel⟩ => ?_
  subst he
  exact ⟨_, rfl, _, _, _, [], [], [], hW', trodAll_mk1 (shut_bool Tryd.underlying4 _), (trodAll_cons_mk (shut_string Tryd.underlying9 w0) trodAll_mk0), rfl, bel.frame _, fun h => by cases h⟩

theorem laid_met (os : Os) : laidMet Tryd.prog Rows.utf8PrintableRow.laid ((laidWorld os).forCall (fun _ _ => 0) ⟨#[], #[.string ByteArray.empty], []⟩).memory :=
  laidMet_of_run' 8 (by kernel_rfl) (by kernel_rfl)
theorem reads (os : Os) {H : Type} (enc : TypeId × Value → H) : ∃ places, DataW.whole enc Tryd.prog ((laidWorld os).forCall (fun _ _ => 0) ⟨#[], #[.string ByteArray.empty], []⟩).memory Tryd.f10.params.toList Rows.utf8PrintableSpec.vars false (#[.string ByteArray.empty] : Array Value).toList 8 = some ([.lit (.string [])], [], places) :=
  ⟨[], by kernel_rfl⟩

set_option maxRecDepth 100000 in
theorem lifted (os : Os) (started : os.Started) (H : Type) (enc : TypeId × Value → H) (F : Stop.Interp) :
    ReturnsInHanded {} Tryd.checked os 10 .any ((OpenSpec.ofChange Rows.utf8PrintableSpec).preRow enc Tryd.prog Tryd.f10 Rows.utf8PrintableRow.domain false Rows.utf8PrintableRow.laid) (((OpenSpec.ofChange Rows.utf8PrintableSpec).at F).post enc Tryd.prog Tryd.f10 false true false false) := by
  obtain ⟨places, hx⟩ := reads os enc
  refine returnsInHanded_of_row (C := Tryd.checked) (s := OpenSpec.ofChange Rows.utf8PrintableSpec) own started (by kernel_rfl) Tryd.func10
    (witness_row_at (enc := enc) (C := Tryd.checked) false (laidWorld os) #[.string ByteArray.empty] rfl (by kernel_rfl) (by kernel_rfl) (by kernel_rfl)
      (OpenSpec.preRow_of_cond 8 hx (by kernel_rfl) (fun k hk => by cases hk) (by kernel_rfl) (laid_met os))) ?_
  intro W base args ds gs before hval hW _ _ _ hL hs _
  exact contract H enc W base args ds gs before hval hW hL hs

theorem said : Rows.Utf8PrintableSaid :=
  OpenClaim.holds_of_cond 10 Tryd.f10 rfl rfl rfl rfl rfl rfl rfl ⟨rfl, rfl, rfl, rfl, rfl⟩ rfl rfl rfl rfl rfl (by kernel_rfl) Tryd.func10 (by kernel_rfl)
    (of_decide_eq_true (by kernel_rfl)) (by unfold Func.isWrapper; first | (rw [if_pos (by decide +kernel)]; kernel_rfl) | (rw [if_neg (by decide +kernel)]; exact ⟨rfl, rfl⟩))
    (fun os started H enc _ F => by rw [OpenClaim.pre_eq_preRow]; exact lifted os started H enc F)

theorem plain (f : FuncId) (fn : Func) (hf : Tryd.pinned.checked.prog.funcNamed "bulletin/bulletinlaw03.Utf8Printable" = some f) (hfn : Tryd.pinned.checked.prog.funcs[f]? = some fn) :
    false = Tryd.pinned.checked.prog.looks [] ∧ ∀ (j : Nat) t, fn.params[j]? = some t → Tryd.pinned.checked.prog.wantsStandIn t = false := by
  obtain rfl : f = 10 := Option.some.inj ((show Tryd.prog.funcNamed "bulletin/bulletinlaw03.Utf8Printable" = some 10 by kernel_rfl).symm.trans hf) |>.symm
  obtain rfl : fn = Tryd.f10 := (Option.some.inj (Tryd.func10.symm.trans hfn)).symm
  refine ⟨by kernel_rfl, fun j t ht => ?_⟩
  rw [Tryd.params10] at ht
  obtain rfl : t = 9 := by simpa using Array.mem_of_getElem? ht
  exact (show Tryd.prog.wantsStandIn 9 = false by kernel_rfl)

end Go.Proofs.YtbjhomihmlijiaaDoor.utf8PrintableLaw
namespace Go.Proofs.YtbjhomihmlijiaaDoor

/-- THE CARD OF Utf8Printable -/
theorem utf8Printable_card : Rows.Utf8PrintableCardSaid :=
  Claim7.holds_tied_plain_at .later [] _ _ _ _ utf8PrintableLaw.said (fun _ h => by cases h) (by kernel_rfl) (fun _ h => by cases h) utf8Printable_row_tie rfl ⟨rfl, rfl⟩ (by kernel_rfl) rfl utf8PrintableLaw.plain (by kernel_rfl)
#print axioms utf8Printable_card
end Go.Proofs.YtbjhomihmlijiaaDoor
