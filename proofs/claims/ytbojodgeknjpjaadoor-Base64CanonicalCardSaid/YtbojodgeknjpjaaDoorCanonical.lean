/- Base64Canonical: whatever text comes in, the law's call returns true and the text reads as before; the alphabet's table reads as the program's text lays it (the card ties it).
   Conditions: none beyond the row's own. -/
import Derived.Test.YtbojodgeknjpjaaDoorFrame
namespace Go.Proofs.YtbojodgeknjpjaaDoor.canonical
open Go.ChangeShapes Go.WideShapes Go.ChangeAt Go.RowKit
open Go.ChangeMaps (open_string shut_string)

theorem decT_err (s : List UInt8) (h : (B64.decT s).2.2 ≠ 0) : (B64.decT s).1 = [] := by
  unfold B64.decT at h ⊢
  split
  · rfl
  · split
    · rfl
    · split
      · rfl
      · split
        · rfl
        · rename_i h1 h2 h3 h4
          rw [if_neg h1, if_neg h2, if_neg h3, if_neg h4] at h
          simp at h

theorem decT_kind (s : List UInt8) : (B64.decT s).2.2 ≤ 6 := by
  unfold B64.decT
  split
  · simp
  · split
    · simp
    · split
      · simp
      · split <;> simp

set_option maxHeartbeats 400000 in
theorem walk (s : ByteArray) (w : World) (hT : Tab w) (hs : s.size ≤ maxLen) :
    Calls Tryd.prog 6 #[.string s] w fun e w' => e = .returned (.bool true) ∧ Below w.heap.size w w' := by
  have hk := known_any w hT
  have HK := Lib.hid hk
  clear hk
  unfold maxLen at hs
  by_cases hl : 4000 < s.size
  · have hl2 : (4000 : Int) < (s.size : Int) := by omega
    go_enter Tryd.func6, Tryd.ntmps6
    go_wp2_with fail
    refine HK.out.mono ?_
    rintro e w1 ⟨rfl, hb1⟩
    go_wp2_with fail
    refine (known_any w1 (hT.below hb1 hT.1)).mono ?_
    rintro e w2 ⟨rfl, hb2⟩
    go_wp2
    go_ret
    exact ⟨rfl, hb1.trans (hb2.mono hb1.size)⟩
  · have hl2 : ¬ (4000 : Int) < (s.size : Int) := by omega
    go_enter Tryd.func6, Tryd.ntmps6
    go_wp2_with fail
    refine HK.out.mono ?_
    rintro e w1 ⟨rfl, hb1⟩
    have hd := decode_any s w1 (hT.below hb1 hT.1) (by unfold maxLen; omega)
    have HD := Lib.hid hd
    clear hd
    go_wp2_with fail
    refine HD.out.mono ?_
    rintro e w2 ⟨v, rfl, hby, hb2⟩
    have hb3 : Below w.heap.size w w2 := hb1.trans (hb2.mono hb1.size)
    clear hb1 hb2 HD
    by_cases he : (B64.decT s.data.toList).2.2 = 0
    · obtain ⟨hcan, _⟩ := B64.canonical s.data.toList he
      have hby2 := hby.1
      have hlen := B64.encT_length _ hby2
      rw [hcan, size_toList] at hlen
      have hE := Encode_ok v _ w2 (hT.below hb3 hT.1) hby (by omega)
      have hs2 : (⟨(B64.encT (B64.decT s.data.toList).1).toArray⟩ : ByteArray) = s := by rw [hcan]
      rw [hs2] at hE
      have HE := Lib.hid hE
      clear hE hs2 hcan hlen hby hby2
      have he2 : (((B64.decT s.data.toList).2.2 : Nat) : Int) = 0 := by omega
      rw [he2]
      clear he he2
      generalize (((B64.decT s.data.toList).2.1 : Nat) : Int) = at0
      go_wp2_with fail
      refine HE.out.mono ?_
      rintro e w3 ⟨rfl, hb4⟩
      go_wp2
      go_ret
      exact ⟨rfl, hb3.trans (hb4.mono hb3.size)⟩
    · have hnil := decT_err _ he
      rw [hnil] at hby
      obtain ⟨_, x, cap, rfl, _⟩ := hby
      have hq : ((((B64.decT s.data.toList).2.2 : Nat) : Int) != 0) = true := by simp; omega
      generalize (((B64.decT s.data.toList).2.2 : Nat) : Int) = er at *
      generalize (((B64.decT s.data.toList).2.1 : Nat) : Int) = at0
      go_wp2
      go_ret
      exact ⟨rfl, hb3⟩

theorem contract (H : Type) (enc : TypeId × Value → H) (W : World) (base : Nat) (args : Array Value) (ds gs : List (DataW H)) (before : List MemPlace)
    (hval : ∀ (j : Nat) t v, Tryd.f6.params[j]? = some t → args[j]? = some v → Value.okWide Tryd.prog W .any base t v)
    (hW : DataW.Whole enc Tryd.prog Tryd.f6.params.toList Rows.base64CanonicalSpec.vars false W args.toList ds gs before) (hL : laidMetH Tryd.prog Rows.base64CanonicalRow.laid W) :
    Calls Tryd.prog 6 args W fun e W' => ∃ v, e = .returned v ∧ Rows.base64CanonicalSpec.post enc Tryd.prog Tryd.f6 false true false false W args v W' := by
  have hW' := hW
  obtain ⟨p, q, hA0, hV, rfl, hfz, hnd⟩ := hW
  have hA : DataW.TrodAll enc Tryd.prog W 0 (fun _ => true) true Tryd.f6.params.toList args.toList ds p := hA0
  rw [Tryd.params6] at hA hval
  obtain ⟨v0, vs0, d0, ds0, p0, q0, hargs, rfl, rfl, h0, r0⟩ := trodAll_cons hA
  obtain ⟨rfl, rfl, rfl⟩ := trodAll_nil r0
  obtain rfl : args = #[v0] := by cases args; simp_all
  obtain ⟨rfl, rfl⟩ := trodVars_none hV
  obtain ⟨a0, rfl, rfl, rfl, w0⟩ := open_string Tryd.underlying9 (hval 0 9 v0 rfl rfl) h0
  clear hA0
  simp only [List.append_nil] at hW'
  refine (walk a0 W (table hL) w0).mono fun e W' ⟨he, bel⟩ => ?_
  subst he
  exact ⟨_, rfl, _, _, _, [], [], [], hW', (trodAll_cons_mk (shut_bool Tryd.underlying4 _) trodAll_mk0), (trodAll_cons_mk (shut_string Tryd.underlying9 w0) trodAll_mk0), rfl, bel.frame _, fun h => by cases h⟩

theorem laid_met (os : Os) : laidMet Tryd.prog Rows.base64CanonicalRow.laid ((laidWorld os).forCall (fun _ _ => 0) ⟨#[], #[.string ByteArray.empty], []⟩).memory :=
  laidMet_of_run' 8 (by kernel_rfl) (by kernel_rfl)
theorem reads (os : Os) {H : Type} (enc : TypeId × Value → H) : ∃ places, DataW.whole enc Tryd.prog ((laidWorld os).forCall (fun _ _ => 0) ⟨#[], #[.string ByteArray.empty], []⟩).memory Tryd.f6.params.toList Rows.base64CanonicalSpec.vars false #[Value.string ByteArray.empty].toList 8 = some ([.lit (.string [])], [], places) :=
  ⟨[], by kernel_rfl⟩

set_option maxRecDepth 100000 in
theorem lifted (os : Os) (started : os.Started) (H : Type) (enc : TypeId × Value → H) (F : Stop.Interp) :
    ReturnsInHanded {} Tryd.checked os 6 .any ((OpenSpec.ofChange Rows.base64CanonicalSpec).preRow enc Tryd.prog Tryd.f6 Rows.base64CanonicalRow.domain false Rows.base64CanonicalRow.laid) (((OpenSpec.ofChange Rows.base64CanonicalSpec).at F).post enc Tryd.prog Tryd.f6 false true false false) := by
  obtain ⟨places, hx⟩ := reads os enc
  refine returnsInHanded_of_row (C := Tryd.checked) (s := OpenSpec.ofChange Rows.base64CanonicalSpec) own started (by kernel_rfl) Tryd.func6
    (witness_row_at (enc := enc) (C := Tryd.checked) false (laidWorld os) #[.string ByteArray.empty] rfl (by kernel_rfl) (by kernel_rfl) (by kernel_rfl)
      (OpenSpec.preRow_of_cond 8 hx (by kernel_rfl) (fun k hk => by cases hk) (by kernel_rfl) (laid_met os))) ?_
  intro W base args ds gs before hval hW _ _ _ hL _ _
  exact contract H enc W base args ds gs before hval hW hL

theorem said : Rows.Base64CanonicalSaid :=
  OpenClaim.holds_of_cond 6 Tryd.f6 rfl rfl rfl rfl rfl rfl rfl ⟨rfl, rfl, rfl, rfl, rfl⟩ rfl rfl rfl rfl rfl (by kernel_rfl) Tryd.func6 (by kernel_rfl)
    (of_decide_eq_true (by kernel_rfl)) (by unfold Func.isWrapper; first | (rw [if_pos (by decide +kernel)]; kernel_rfl) | (rw [if_neg (by decide +kernel)]; exact ⟨rfl, rfl⟩))
    (fun os started H enc _ F => by rw [OpenClaim.pre_eq_preRow]; exact lifted os started H enc F)

theorem plain (f : FuncId) (fn : Func) (hf : Tryd.pinned.checked.prog.funcNamed "bulletin/bulletinlaw02.Base64Canonical" = some f) (hfn : Tryd.pinned.checked.prog.funcs[f]? = some fn) :
    false = Tryd.pinned.checked.prog.looks [] ∧ ∀ (j : Nat) t, fn.params[j]? = some t → Tryd.pinned.checked.prog.wantsStandIn t = false := by
  obtain rfl : f = 6 := Option.some.inj ((show Tryd.prog.funcNamed "bulletin/bulletinlaw02.Base64Canonical" = some 6 by kernel_rfl).symm.trans hf) |>.symm
  obtain rfl : fn = Tryd.f6 := (Option.some.inj (Tryd.func6.symm.trans hfn)).symm
  refine ⟨by kernel_rfl, fun j t ht => ?_⟩
  rw [Tryd.params6] at ht
  obtain rfl : t = 9 := by simpa using Array.mem_of_getElem? ht
  exact (show Tryd.prog.wantsStandIn 9 = false by kernel_rfl)

end Go.Proofs.YtbojodgeknjpjaaDoor.canonical
namespace Go.Proofs.YtbojodgeknjpjaaDoor

/-- THE CARD OF Base64Canonical -/
theorem base64Canonical_card : Rows.Base64CanonicalCardSaid :=
  Claim7.holds_tied_plain_at .later [] _ _ _ _ canonical.said (fun _ h => by cases h) (by kernel_rfl) (fun _ h => by cases h) base64Canonical_row_tie rfl ⟨rfl, rfl⟩ (by kernel_rfl) rfl canonical.plain (by kernel_rfl)
#print axioms base64Canonical_card
end Go.Proofs.YtbojodgeknjpjaaDoor
