/- Base64Wrap: whatever text and width come in, the law's call returns true and both read as before; the alphabet's table reads as the program's text lays it (the card ties it).
   Conditions: none beyond the row's own. -/
import Derived.Test.YtbojodgeknjpjaaDoorOpen
import Derived.Test.YtbojodgeknjpjaaDoorWr
import Derived.Test.YtbojodgeknjpjaaDoorRefWr
namespace Go.Proofs.YtbojodgeknjpjaaDoor.wrapLaw
open Go.ChangeShapes Go.WideShapes Go.ChangeAt Go.RowKit
open Go.ChangeMaps (open_string shut_string)

theorem wr_size (n : Int) (s : ByteArray) (hs : s.size ≤ 600) : (B64.wr n s.data.toList).1.length ≤ 1200 := by
  unfold B64.wr
  split
  · simp
  · split
    · simp
    · have := B64.wrapF_length n.toNat (by omega) s.data.toList.length s.data.toList
      unfold B64.wrapT
      simp only
      rw [size_toList] at this ⊢
      omega

set_option maxHeartbeats 400000 in
theorem walk (s : ByteArray) (n : Int) (w : World) (hT : Tab w) :
    Calls Tryd.prog 8 #[.string s, .int .i64 n] w fun e w' => e = .returned (.bool true) ∧ Below w.heap.size w w' := by
  have hk := known_any w hT
  have HK := Lib.hid hk
  clear hk
  by_cases hl : 600 < s.size
  · have hl2 : (600 : Int) < (s.size : Int) := by omega
    go_enter Tryd.func8, Tryd.ntmps8
    go_wp2_with fail
    refine HK.out.mono ?_
    rintro e w1 ⟨rfl, hb1⟩
    go_wp2_with fail
    refine (known_any w1 (hT.below hb1 hT.1)).mono ?_
    rintro e w2 ⟨rfl, hb2⟩
    go_wp2
    go_ret
    exact ⟨rfl, hb1.trans (hb2.mono hb1.size)⟩
  · have hl2 : ¬ (600 : Int) < (s.size : Int) := by omega
    have hsz := wr_size n s (by omega)
    obtain ⟨t, ht⟩ : ∃ t : ByteArray, t = ⟨(B64.wr n s.data.toList).1.toArray⟩ := ⟨_, rfl⟩
    obtain ⟨e1, he1⟩ : ∃ e : Int, e = ((B64.wr n s.data.toList).2 : Int) := ⟨_, rfl⟩
    have htl : t.data.toList = (B64.wr n s.data.toList).1 := by rw [ht]
    have hts : t.size ≤ 1200 := by rw [← size_toList, htl]; exact hsz
    have hu := fun w => wr_any s n w (by omega)
    have hr := fun w => refWr_any s n w (by omega)
    simp only [← ht, ← he1] at hu hr
    have HU := Lib.hid hu; have HR := Lib.hid hr; have HTL := Lib.hid htl; have HE1 := Lib.hid he1
    clear hu hr ht htl he1 hsz
    by_cases h0 : e1 = 0
    · have huw : ∀ w, Calls Tryd.prog 22 #[.string t] w fun e w' => e = .returned (.tuple #[.string s, .int .i64 0, .int .i64 0]) ∧ Below w.heap.size w w' := by
        intro w
        have h1 := uw_any t w (by omega)
        have h2 := HE1.out
        rw [h0] at h2
        have h3 : B64.uw t.data.toList = (s.data.toList, 0, 0) := by
          rw [HTL.out]
          unfold B64.wr at h2 ⊢
          by_cases hr : n < 1 ∨ 998 < n
          · rw [if_pos hr] at h2; exact absurd h2 (by decide)
          · rw [if_neg hr] at h2 ⊢
            by_cases h10 : (10 : UInt8) ∈ s.data.toList
            · rw [if_pos h10] at h2; exact absurd h2 (by decide)
            · rw [if_neg h10]
              exact B64.uw_wrap n.toNat (by omega) (by omega) _ h10
        rw [h3] at h1
        exact h1
      have HUW := Lib.hid huw
      clear huw HE1
      subst h0
      go_enter Tryd.func8, Tryd.ntmps8
      go_wp2_with fail
      refine HK.out.mono ?_
      rintro e w1 ⟨rfl, hb1⟩
      go_wp2_with fail
      refine (HU.out _).mono ?_
      rintro e w2 ⟨rfl, hb2⟩
      have hb3 : Below w.heap.size w w2 := hb1.trans (hb2.mono hb1.size)
      clear hb1 hb2
      go_wp2_with fail
      refine (HR.out _).mono ?_
      rintro e w3 ⟨rfl, rfl⟩
      go_wp2_with fail
      refine (HUW.out _).mono ?_
      rintro e w3 ⟨rfl, hb4⟩
      have hb5 : Below w.heap.size w w3 := hb3.trans (hb4.mono hb3.size)
      clear hb3 hb4
      go_wp2
      go_ret
      exact ⟨rfl, hb5⟩
    · have hne : (e1 != 0) = true := by simpa using h0
      clear HE1 h0
      go_enter Tryd.func8, Tryd.ntmps8
      go_wp2_with fail
      refine HK.out.mono ?_
      rintro e w1 ⟨rfl, hb1⟩
      go_wp2_with fail
      refine (HU.out _).mono ?_
      rintro e w2 ⟨rfl, hb2⟩
      have hb3 : Below w.heap.size w w2 := hb1.trans (hb2.mono hb1.size)
      clear hb1 hb2
      go_wp2_with fail
      refine (HR.out _).mono ?_
      rintro e w3 ⟨rfl, rfl⟩
      go_wp2
      go_ret
      exact ⟨rfl, hb3⟩

theorem contract (H : Type) (enc : TypeId × Value → H) (W : World) (base : Nat) (args : Array Value) (ds gs : List (DataW H)) (before : List MemPlace)
    (hval : ∀ (j : Nat) t v, Tryd.f8.params[j]? = some t → args[j]? = some v → Value.okWide Tryd.prog W .any base t v)
    (hW : DataW.Whole enc Tryd.prog Tryd.f8.params.toList Rows.base64WrapSpec.vars false W args.toList ds gs before) (hL : laidMetH Tryd.prog Rows.base64WrapRow.laid W) :
    Calls Tryd.prog 8 args W fun e W' => ∃ v, e = .returned v ∧ Rows.base64WrapSpec.post enc Tryd.prog Tryd.f8 false true false false W args v W' := by
  have hW' := hW
  obtain ⟨p, q, hA0, hV, rfl, hfz, hnd⟩ := hW
  have hA : DataW.TrodAll enc Tryd.prog W 0 (fun _ => true) true Tryd.f8.params.toList args.toList ds p := hA0
  rw [Tryd.params8] at hA hval
  obtain ⟨v0, vs0, d0, ds0, p0, q0, hargs, rfl, rfl, h0, r0⟩ := trodAll_cons hA
  obtain ⟨v1, vs1, d1, ds1, p1, q1, rfl, rfl, rfl, h1, r1⟩ := trodAll_cons r0
  obtain ⟨rfl, rfl, rfl⟩ := trodAll_nil r1
  obtain rfl : args = #[v0, v1] := by cases args; simp_all
  obtain ⟨rfl, rfl⟩ := trodVars_none hV
  obtain ⟨a0, rfl, rfl, rfl, w0⟩ := open_string Tryd.underlying9 (hval 0 9 v0 rfl rfl) h0
  obtain ⟨a1, rfl, rfl, rfl, w1⟩ := open_int Tryd.underlying3 (hval 1 3 v1 rfl rfl) h1
  clear hA0
  simp only [List.append_nil] at hW'
  refine (walk a0 a1 W (table hL)).mono fun e W' ⟨he, bel⟩ => ?_
  subst he
  exact ⟨_, rfl, _, _, _, [], [], [], hW', trodAll_mk1 (shut_bool Tryd.underlying4 _), (trodAll_cons_mk (shut_string Tryd.underlying9 w0) (trodAll_cons_mk (shut_int Tryd.underlying3 w1) trodAll_mk0)), rfl, bel.frame _, fun h => by cases h⟩

theorem laid_met (os : Os) : laidMet Tryd.prog Rows.base64WrapRow.laid ((laidWorld os).forCall (fun _ _ => 0) ⟨#[], #[.string ByteArray.empty, .int .i64 0], []⟩).memory :=
  laidMet_of_run' 8 (by kernel_rfl) (by kernel_rfl)
theorem reads (os : Os) {H : Type} (enc : TypeId × Value → H) : ∃ places, DataW.whole enc Tryd.prog ((laidWorld os).forCall (fun _ _ => 0) ⟨#[], #[.string ByteArray.empty, .int .i64 0], []⟩).memory Tryd.f8.params.toList Rows.base64WrapSpec.vars false (#[.string ByteArray.empty, .int .i64 0] : Array Value).toList 8 = some ([.lit (.string []), .lit (.int .i64 0)], [], places) :=
  ⟨[], by kernel_rfl⟩

set_option maxRecDepth 100000 in
theorem lifted (os : Os) (started : os.Started) (H : Type) (enc : TypeId × Value → H) (F : Stop.Interp) :
    ReturnsInHanded {} Tryd.checked os 8 .any ((OpenSpec.ofChange Rows.base64WrapSpec).preRow enc Tryd.prog Tryd.f8 Rows.base64WrapRow.domain false Rows.base64WrapRow.laid) (((OpenSpec.ofChange Rows.base64WrapSpec).at F).post enc Tryd.prog Tryd.f8 false true false false) := by
  obtain ⟨places, hx⟩ := reads os enc
  refine returnsInHanded_of_row (C := Tryd.checked) (s := OpenSpec.ofChange Rows.base64WrapSpec) own started (by kernel_rfl) Tryd.func8
    (witness_row_at (enc := enc) (C := Tryd.checked) false (laidWorld os) #[.string ByteArray.empty, .int .i64 0] rfl (by kernel_rfl) (by kernel_rfl) (by kernel_rfl)
      (OpenSpec.preRow_of_cond 8 hx (by kernel_rfl) (fun k hk => by cases hk) (by kernel_rfl) (laid_met os))) ?_
  intro W base args ds gs before hval hW _ _ _ hL _ _
  exact contract H enc W base args ds gs before hval hW hL

theorem said : Rows.Base64WrapSaid :=
  OpenClaim.holds_of_cond 8 Tryd.f8 rfl rfl rfl rfl rfl rfl rfl ⟨rfl, rfl, rfl, rfl, rfl⟩ rfl rfl rfl rfl rfl (by kernel_rfl) Tryd.func8 (by kernel_rfl)
    (of_decide_eq_true (by kernel_rfl)) (by unfold Func.isWrapper; first | (rw [if_pos (by decide +kernel)]; kernel_rfl) | (rw [if_neg (by decide +kernel)]; exact ⟨rfl, rfl⟩))
    (fun os started H enc _ F => by rw [OpenClaim.pre_eq_preRow]; exact lifted os started H enc F)

theorem plain (f : FuncId) (fn : Func) (hf : Tryd.pinned.checked.prog.funcNamed "bulletin/bulletinlaw02.Base64Wrap" = some f) (hfn : Tryd.pinned.checked.prog.funcs[f]? = some fn) :
    false = Tryd.pinned.checked.prog.looks [] ∧ ∀ (j : Nat) t, fn.params[j]? = some t → Tryd.pinned.checked.prog.wantsStandIn t = false := by
  obtain rfl : f = 8 := Option.some.inj ((show Tryd.prog.funcNamed "bulletin/bulletinlaw02.Base64Wrap" = some 8 by kernel_rfl).symm.trans hf) |>.symm
  obtain rfl : fn = Tryd.f8 := (Option.some.inj (Tryd.func8.symm.trans hfn)).symm
  refine ⟨by kernel_rfl, fun j t ht => ?_⟩
  rw [Tryd.params8] at ht
  have hm : t = 9 ∨ t = 3 := by simpa using Array.mem_of_getElem? ht
  rcases hm with rfl | rfl
  · exact (show Tryd.prog.wantsStandIn 9 = false by kernel_rfl)
  · exact (show Tryd.prog.wantsStandIn 3 = false by kernel_rfl)

end Go.Proofs.YtbojodgeknjpjaaDoor.wrapLaw
namespace Go.Proofs.YtbojodgeknjpjaaDoor

/-- THE CARD OF Base64Wrap -/
theorem base64Wrap_card : Rows.Base64WrapCardSaid :=
  Claim7.holds_tied_plain_at .later [] _ _ _ _ wrapLaw.said (fun _ h => by cases h) (by kernel_rfl) (fun _ h => by cases h) base64Wrap_row_tie rfl ⟨rfl, rfl⟩ (by kernel_rfl) rfl wrapLaw.plain (by kernel_rfl)
#print axioms base64Wrap_card
end Go.Proofs.YtbojodgeknjpjaaDoor
