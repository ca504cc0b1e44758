/- Utf8Repair: whatever text comes in, the law's call returns true and its arguments read as before; the table of bounds reads as the program's text lays it (the card ties it).
   Conditions: none beyond the row's own. -/
import Derived.Test.YtbjhomihmlijiaaDoorFrame
import Derived.Test.YtbjhomihmlijiaaDoorRefRep
namespace Go.Proofs.YtbjhomihmlijiaaDoor.utf8RepairLaw
open Go.ChangeShapes Go.WideShapes Go.ChangeAt Go.RowKit
open Go.ChangeMaps (open_string shut_string)

theorem baOf_size' (l : List Nat) (s : ByteArray) (h : s = baOf l) : s.size = l.length := by rw [h]; exact baOf_size l

set_option maxRecDepth 20000 in
set_option maxHeartbeats 1000000 in
theorem walk (a : ByteArray) (ha : a.size ≤ maxLen) (w : World) (hT : Tab w) :
    Calls Tryd.prog 8 #[.string a] w fun e w' => e = .returned (.bool true) ∧ Below w.heap.size w w' := by
  have hp := hT.1
  obtain ⟨c, hc⟩ : ∃ c, c = cutS a 300 := ⟨_, rfl⟩
  have hcs : c.size ≤ 300 := by rw [hc]; exact cutS_size a 300
  obtain ⟨t, ht⟩ : ∃ t, t = baOf (U8.rep (bytesOf c) c.size 0) := ⟨_, rfl⟩
  obtain ⟨rs, hok, hform⟩ := U8.rep_form (bytesOf c) c.size 0
  have htb : bytesOf t = U8.encs rs := by rw [ht, hform]; exact bytesOf_baOf _ (U8.encs_lt rs hok)
  have htl : t.size = (U8.encs rs).length := by rw [ht, hform]; exact baOf_size _
  have hts : t.size ≤ 900 := by
    have := U8.rep_len (bytesOf c) c.size 0 (Nat.zero_le _)
    rw [hform, bytesOf_length] at this
    omega
  have htv : true = ((((U8.check (bytesOf t) t.size 0).2 : Nat) : Int) == 0) := by rw [htb, htl, U8.check_encs rs hok]; rfl
  have htr : t = baOf (U8.rep (bytesOf t) t.size 0) := by
    rw [htb, htl, U8.rep_encs rs (U8.encs rs) _ 0 hok rfl (by omega), ht, hform]
  obtain ⟨b, hb⟩ : ∃ b : Bool, b = ((((U8.check (bytesOf c) c.size 0).2 : Nat) : Int) == 0) := ⟨_, rfl⟩
  have hval : b = true → t = c := by
    intro h
    rw [h] at hb
    have hz : (U8.check (bytesOf c) (bytesOf c).length 0).2 = 0 := by
      rw [bytesOf_length]
      have := hb.symm
      simp at this
      omega
    obtain ⟨ss, h1, h2⟩ := U8.valid_encs (bytesOf c) (bytesOf_lt c) hz
    rw [ht, U8.rep_encs ss (bytesOf c) c.size 0 h1 (by rw [List.drop_zero]; exact h2) (by rw [bytesOf_length]; omega), ← h2]
    exact baOf_bytesOf c
  have H1 := Lib.hid (fun w => short_any a 300 w ha c hc)
  have H2 := Lib.hid (fun w hT => repair_any c w hT (by omega) t ht)
  have H3 := Lib.hid (fun w hT => known_any w hT)
  have H4 := Lib.hid (fun w => refRepair_any c w (by omega) t ht)
  have H5 := Lib.hid (fun w hT => valid_any t w hT (by omega) true htv)
  have H6 := Lib.hid (fun w hT => repair_any t w hT (by omega) t htr)
  have H7 := Lib.hid (fun w hT => valid_any c w hT (by omega) b hb)
  have hb0 := Below.refl w.heap.size w
  clear hc ha ht hform htb htl hts htv htr hb hok
  cases b with
  | true =>
    obtain rfl := hval rfl
    clear hval
    go_enter Tryd.func8, Tryd.ntmps8
    go_wp2_with fail
    refine (H1.out _).mono ?_
    rintro e w0' ⟨rfl, rfl⟩
    go_wp2_with fail
    refine (H2.out _ (hT.below hb0 hp)).mono ?_
    rintro e w1 ⟨rfl, hb1'⟩
    have hb1 := hb0.trans (hb1'.mono hb0.size)
    clear hb1' hb0
    go_wp2_with fail
    refine (H3.out _ (hT.below hb1 hp)).mono ?_
    rintro e w2 ⟨rfl, hb2'⟩
    have hb2 := hb1.trans (hb2'.mono hb1.size)
    clear hb2' hb1
    go_wp2_with fail
    refine (H4.out _).mono ?_
    rintro e w3 ⟨rfl, hb3'⟩
    have hb3 := hb2.trans (hb3'.mono hb2.size)
    clear hb3' hb2
    go_wp2_with fail
    refine (H5.out _ (hT.below hb3 hp)).mono ?_
    rintro e w4 ⟨rfl, hb4'⟩
    have hb4 := hb3.trans (hb4'.mono hb3.size)
    clear hb4' hb3
    go_wp2_with fail
    refine (H6.out _ (hT.below hb4 hp)).mono ?_
    rintro e w5 ⟨rfl, hb5'⟩
    have hb5 := hb4.trans (hb5'.mono hb4.size)
    clear hb5' hb4
    go_wp2_with fail
    refine (H7.out _ (hT.below hb5 hp)).mono ?_
    rintro e w6 ⟨rfl, hb6'⟩
    have hb6 := hb5.trans (hb6'.mono hb5.size)
    clear hb6' hb5
    go_wp2_with fail
    go_ret
    exact ⟨rfl, hb6⟩
  | false =>
    clear hval
    go_enter Tryd.func8, Tryd.ntmps8
    go_wp2_with fail
    refine (H1.out _).mono ?_
    rintro e w0' ⟨rfl, rfl⟩
    go_wp2_with fail
    refine (H2.out _ (hT.below hb0 hp)).mono ?_
    rintro e w1 ⟨rfl, hb1'⟩
    have hb1 := hb0.trans (hb1'.mono hb0.size)
    clear hb1' hb0
    go_wp2_with fail
    refine (H3.out _ (hT.below hb1 hp)).mono ?_
    rintro e w2 ⟨rfl, hb2'⟩
    have hb2 := hb1.trans (hb2'.mono hb1.size)
    clear hb2' hb1
    go_wp2_with fail
    refine (H4.out _).mono ?_
    rintro e w3 ⟨rfl, hb3'⟩
    have hb3 := hb2.trans (hb3'.mono hb2.size)
    clear hb3' hb2
    go_wp2_with fail
    refine (H5.out _ (hT.below hb3 hp)).mono ?_
    rintro e w4 ⟨rfl, hb4'⟩
    have hb4 := hb3.trans (hb4'.mono hb3.size)
    clear hb4' hb3
    go_wp2_with fail
    refine (H6.out _ (hT.below hb4 hp)).mono ?_
    rintro e w5 ⟨rfl, hb5'⟩
    have hb5 := hb4.trans (hb5'.mono hb4.size)
    clear hb5' hb4
    go_wp2_with fail
    refine (H7.out _ (hT.below hb5 hp)).mono ?_
    rintro e w6 ⟨rfl, hb6'⟩
    have hb6 := hb5.trans (hb6'.mono hb5.size)
    clear hb6' hb5
    go_wp2_with fail
    go_ret
    exact ⟨rfl, hb6⟩

theorem contract (H : Type) (enc : TypeId × Value → H) (W : World) (base : Nat) (args : Array Value) (ds gs : List (DataW H)) (before : List MemPlace)
    (hval : ∀ (j : Nat) t v, Tryd.f8.params[j]? = some t → args[j]? = some v → Value.okWide Tryd.prog W .any base t v)
    (hW : DataW.Whole enc Tryd.prog Tryd.f8.params.toList Rows.utf8RepairSpec.vars false W args.toList ds gs before) (hL : laidMetH Tryd.prog Rows.utf8RepairRow.laid W) (_hs : W.ShapedOpen Tryd.prog) :
    Calls Tryd.prog 8 args W fun e W' => ∃ v, e = .returned v ∧ Rows.utf8RepairSpec.post enc Tryd.prog Tryd.f8 false true false false W args v W' := by
  have hW' := hW
  obtain ⟨p, q, hA0, hV, rfl, hfz, hnd⟩ := hW
  have hA : DataW.TrodAll enc Tryd.prog W 0 (fun _ => true) true Tryd.f8.params.toList args.toList ds p := hA0
  rw [Tryd.params8] at hA hval
  obtain ⟨v0, vs0, d0, ds0, p0, q0, hargs, rfl, rfl, h0, r0⟩ := trodAll_cons hA
  obtain ⟨rfl, rfl, rfl⟩ := trodAll_nil r0
  obtain rfl : args = #[v0] := by cases args; simp_all
  obtain ⟨rfl, rfl⟩ := trodVars_none hV
  obtain ⟨a0, rfl, rfl, rfl, w0⟩ := open_string Tryd.underlying9 (hval 0 9 v0 rfl rfl) h0
  clear hA0
  simp only [List.append_nil] at hW'
  refine (walk a0 w0 W (tab hL)).mono fun e W' ⟨he, bel⟩ => ?_
  subst he
  exact ⟨_, rfl, _, _, _, [], [], [], hW', trodAll_mk1 (shut_bool Tryd.underlying4 _), (trodAll_cons_mk (shut_string Tryd.underlying9 w0) trodAll_mk0), rfl, bel.frame _, fun h => by cases h⟩

theorem laid_met (os : Os) : laidMet Tryd.prog Rows.utf8RepairRow.laid ((laidWorld os).forCall (fun _ _ => 0) ⟨#[], #[.string ByteArray.empty], []⟩).memory :=
  laidMet_of_run' 8 (by kernel_rfl) (by kernel_rfl)
theorem reads (os : Os) {H : Type} (enc : TypeId × Value → H) : ∃ places, DataW.whole enc Tryd.prog ((laidWorld os).forCall (fun _ _ => 0) ⟨#[], #[.string ByteArray.empty], []⟩).memory Tryd.f8.params.toList Rows.utf8RepairSpec.vars false (#[.string ByteArray.empty] : Array Value).toList 8 = some ([.lit (.string [])], [], places) :=
  ⟨[], by kernel_rfl⟩

set_option maxRecDepth 100000 in
theorem lifted (os : Os) (started : os.Started) (H : Type) (enc : TypeId × Value → H) (F : Stop.Interp) :
    ReturnsInHanded {} Tryd.checked os 8 .any ((OpenSpec.ofChange Rows.utf8RepairSpec).preRow enc Tryd.prog Tryd.f8 Rows.utf8RepairRow.domain false Rows.utf8RepairRow.laid) (((OpenSpec.ofChange Rows.utf8RepairSpec).at F).post enc Tryd.prog Tryd.f8 false true false false) := by
  obtain ⟨places, hx⟩ := reads os enc
  refine returnsInHanded_of_row (C := Tryd.checked) (s := OpenSpec.ofChange Rows.utf8RepairSpec) own started (by kernel_rfl) Tryd.func8
    (witness_row_at (enc := enc) (C := Tryd.checked) false (laidWorld os) #[.string ByteArray.empty] rfl (by kernel_rfl) (by kernel_rfl) (by kernel_rfl)
      (OpenSpec.preRow_of_cond 8 hx (by kernel_rfl) (fun k hk => by cases hk) (by kernel_rfl) (laid_met os))) ?_
  intro W base args ds gs before hval hW _ _ _ hL hs _
  exact contract H enc W base args ds gs before hval hW hL hs

theorem said : Rows.Utf8RepairSaid :=
  OpenClaim.holds_of_cond 8 Tryd.f8 rfl rfl rfl rfl rfl rfl rfl ⟨rfl, rfl, rfl, rfl, rfl⟩ rfl rfl rfl rfl rfl (by kernel_rfl) Tryd.func8 (by kernel_rfl)
    (of_decide_eq_true (by kernel_rfl)) (by unfold Func.isWrapper; first | (rw [if_pos (by decide +kernel)]; kernel_rfl) | (rw [if_neg (by decide +kernel)]; exact ⟨rfl, rfl⟩))
    (fun os started H enc _ F => by rw [OpenClaim.pre_eq_preRow]; exact lifted os started H enc F)

theorem plain (f : FuncId) (fn : Func) (hf : Tryd.pinned.checked.prog.funcNamed "bulletin/bulletinlaw03.Utf8Repair" = some f) (hfn : Tryd.pinned.checked.prog.funcs[f]? = some fn) :
    false = Tryd.pinned.checked.prog.looks [] ∧ ∀ (j : Nat) t, fn.params[j]? = some t → Tryd.pinned.checked.prog.wantsStandIn t = false := by
  obtain rfl : f = 8 := Option.some.inj ((show Tryd.prog.funcNamed "bulletin/bulletinlaw03.Utf8Repair" = some 8 by kernel_rfl).symm.trans hf) |>.symm
  obtain rfl : fn = Tryd.f8 := (Option.some.inj (Tryd.func8.symm.trans hfn)).symm
  refine ⟨by kernel_rfl, fun j t ht => ?_⟩
  rw [Tryd.params8] at ht
  obtain rfl : t = 9 := by simpa using Array.mem_of_getElem? ht
  exact (show Tryd.prog.wantsStandIn 9 = false by kernel_rfl)

end Go.Proofs.YtbjhomihmlijiaaDoor.utf8RepairLaw
namespace Go.Proofs.YtbjhomihmlijiaaDoor

/-- THE CARD OF Utf8Repair -/
theorem utf8Repair_card : Rows.Utf8RepairCardSaid :=
  Claim7.holds_tied_plain_at .later [] _ _ _ _ utf8RepairLaw.said (fun _ h => by cases h) (by kernel_rfl) (fun _ h => by cases h) utf8Repair_row_tie rfl ⟨rfl, rfl⟩ (by kernel_rfl) rfl utf8RepairLaw.plain (by kernel_rfl)
#print axioms utf8Repair_card
end Go.Proofs.YtbjhomihmlijiaaDoor
