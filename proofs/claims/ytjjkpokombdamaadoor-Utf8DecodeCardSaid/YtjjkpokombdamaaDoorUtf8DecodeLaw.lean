/- Utf8Decode: whatever text comes in, the law's call returns true and its arguments read as before; the table of bounds reads as the program's text lays it (the card ties it).
   Conditions: none beyond the row's own. -/
import Derived.Test.YtjjkpokombdamaaDoorFrame
import Derived.Test.YtjjkpokombdamaaDoorDecPlain
namespace Go.Proofs.YtjjkpokombdamaaDoor.utf8DecodeLaw
open Go.ChangeShapes Go.WideShapes Go.ChangeAt Go.RowKit
open Go.ChangeMaps (open_string shut_string)

set_option maxRecDepth 20000 in
set_option maxHeartbeats 1000000 in
theorem walk (a : ByteArray) (ha : a.size ≤ maxLen) (w : World) (hT : Tab w) :
    Calls Tryd.prog 4 #[.string a] w fun e w' => e = .returned (.bool true) ∧ Below w.heap.size w w' := by
  have hp := hT.1
  have H1 := Lib.hid (fun w hT => known_any w hT)
  by_cases h0 : a.size = 0
  · obtain rfl : a = ByteArray.empty := by
      apply ByteArray.ext
      exact Array.eq_empty_of_size_eq_zero h0
    have H2 := Lib.hid (fun w => decode_empty w)
    clear h0 ha
    go_enter Tryd.func4, Tryd.ntmps4
    go_wp2_with fail
    refine (H1.out _ hT).mono ?_
    rintro e w1 ⟨rfl, hb1⟩
    go_wp2_with fail
    refine (H2.out _).mono ?_
    rintro e w2 ⟨rfl, rfl⟩
    go_wp2_with fail
    go_ret
    exact ⟨rfl, hb1⟩
  · unfold maxLen at ha
    have hne : a.toList.isEmpty = false := by
      rw [ByteArray.toList_eq]
      cases hl : a.data.toList with
      | nil => exact absurd (by rw [← size_toList, hl]; rfl) h0
      | cons _ _ => rfl
    have haI : (a.size : Int) ≤ 9223372036854775807 := by omega
    obtain ⟨⟨r, z, e⟩, hnx⟩ : ∃ x, U8.next (bytesOf a) = x := ⟨_, rfl⟩
    have hlne : bytesOf a ≠ [] := by
      intro he
      have := congrArg List.length he
      rw [bytesOf_length] at this
      exact h0 this
    obtain ⟨m, hm⟩ : ∃ m, m = min a.size 8 := ⟨_, rfl⟩
    have hmI : min (a.size : Int) 8 = (m : Int) := by omega
    have hm2 : (m : Int) ≤ (a.size : Int) := by omega
    have hpz : (a.extract 0 m).size = m := by simp; omega
    have hfirst : U8.first (bytesOf (a.extract 0 m)) = U8.first (bytesOf a) := by
      rw [bytesOf_upto]
      by_cases h8 : a.size ≤ 8
      · rw [List.take_of_length_le (by rw [bytesOf_length]; omega)]
      · rw [show m = 8 by omega, U8.first_take]
    obtain ⟨f1, f2, f3⟩ := U8.next_first (bytesOf a) hlne (bytesOf_lt a)
    rw [hnx] at f1 f2 f3
    obtain ⟨p, hpa⟩ : ∃ p, p = a.extract 0 m := ⟨_, rfl⟩
    rw [← hpa] at hpz hfirst
    have hpa' := hpa.symm
    have hde := fun w hT => decode_any a w hT (by omega) (by omega) r z e hnx hne
    by_cases he : e = 0
    · subst he
      have h2 : ∀ w, Tab w → Calls Tryd.prog 19 #[.string a] w fun x w' => x = .returned (.tuple #[.int .i32 r, .int .i64 z, .int .i64 0]) ∧ Below w.heap.size w w' := fun w hT => (hde w hT).mono fun _ _ ⟨h, hb⟩ => ⟨h, hb⟩
      have H2 := Lib.hid h2
      have hfst := f2 rfl
      have h3 := fun w => refFirst_any p w (by omega) (by omega) r z 0 (by rw [hfirst, hfst])
      obtain ⟨hok, henc⟩ := U8.next_enc (bytesOf a) hlne r z hnx
      have hzs := U8.next_le (bytesOf a) (by rw [bytesOf_length]; omega)
      rw [hnx, bytesOf_length] at hzs
      simp only at hzs
      obtain ⟨t, ht⟩ : ∃ t, t = baOf (U8.enc r) := ⟨_, rfl⟩
      have hta : a.extract 0 z = t := by
        rw [ht, henc, ← bytesOf_upto, baOf_bytesOf]
      have h4 := fun w hT => encode_ok r w hT hok t ht
      have H3 := Lib.hid h3; have H4 := Lib.hid h4
      have hzI : (z : Int) ≤ (a.size : Int) := by omega
      have hw64 : wrap64 (r : Int) = (r : Int) := by have := hok.1; unfold wrap64; omega
      clear hde h2 h3 h4 hok henc ht f1 f2 f3 hfst hfirst hpz hpa hnx hlne hm h0 ha
      go_enter Tryd.func4, Tryd.ntmps4
      go_wp2_with fail
      refine (H1.out _ hT).mono ?_
      rintro e w1 ⟨rfl, hb1⟩
      go_wp2_with fail
      refine (H2.out _ (hT.below hb1 hp)).mono ?_
      rintro e w2 ⟨rfl, hb2'⟩
      have hb2 := hb1.trans (hb2'.mono hb1.size)
      clear hb2' hb1
      go_wp2_with fail
      refine (H3.out _).mono ?_
      rintro e w3 ⟨rfl, hb3'⟩
      have hb3 := hb2.trans (hb3'.mono hb2.size)
      clear hb3' hb2
      go_wp2_with fail
      refine (H4.out _ (hT.below hb3 hp)).mono ?_
      rintro e w4 ⟨rfl, hb4'⟩
      have hb4 := hb3.trans (hb4'.mono hb3.size)
      clear hb4' hb3
      go_wp2_with fail
      go_ret
      exact ⟨rfl, hb4⟩
    · obtain ⟨g1, g2⟩ := f3 he
      have h2 : ∀ w, Tab w → Calls Tryd.prog 19 #[.string a] w fun x w' => x = .returned (.tuple #[.int .i32 0, .int .i64 0, .int .i64 e]) ∧ Below w.heap.size w w' := fun w hT => (hde w hT).mono fun _ _ ⟨h, hb⟩ => ⟨by rw [h, if_neg he, if_neg he]; rfl, hb⟩
      have H2 := Lib.hid h2
      have hfst : U8.first (bytesOf a) = (0, 0, e) := by
        obtain ⟨⟨x, y, e'⟩, hx⟩ : ∃ x, U8.first (bytesOf a) = x := ⟨_, rfl⟩
        rw [hx] at g1 g2 f1 ⊢
        simp only at g1 g2 f1
        rw [g1, g2, f1]
      have h3 := fun w => refFirst_any p w (by omega) (by omega) 0 0 e (by rw [hfirst, hfst])
      have h4 := fun w hT => encode_ok 0 w hT (by unfold U8.ok; omega) ⟨#[0]⟩ (by decide +kernel)
      have H3 := Lib.hid h3; have H4 := Lib.hid h4
      have hne2 : ((e : Int) != 0) = true := by simp; omega
      clear hde h2 h3 h4 f1 f2 f3 hfst hfirst hpz hpa hnx hlne hm h0 ha g1 g2 he
      go_enter Tryd.func4, Tryd.ntmps4
      go_wp2_with fail
      refine (H1.out _ hT).mono ?_
      rintro e w1 ⟨rfl, hb1⟩
      go_wp2_with fail
      refine (H2.out _ (hT.below hb1 hp)).mono ?_
      rintro e w2 ⟨rfl, hb2'⟩
      have hb2 := hb1.trans (hb2'.mono hb1.size)
      clear hb2' hb1
      go_wp2_with fail
      refine (H3.out _).mono ?_
      rintro e w3 ⟨rfl, hb3'⟩
      have hb3 := hb2.trans (hb3'.mono hb2.size)
      clear hb3' hb2
      go_wp2_with fail
      refine (H4.out _ (hT.below hb3 hp)).mono ?_
      rintro e w4 ⟨rfl, hb4'⟩
      have hb4 := hb3.trans (hb4'.mono hb3.size)
      clear hb4' hb3
      go_wp2_with fail
      go_ret
      exact ⟨rfl, hb4⟩

theorem contract (H : Type) (enc : TypeId × Value → H) (W : World) (base : Nat) (args : Array Value) (ds gs : List (DataW H)) (before : List MemPlace)
    (hval : ∀ (j : Nat) t v, Tryd.f4.params[j]? = some t → args[j]? = some v → Value.okWide Tryd.prog W .any base t v)
    (hW : DataW.Whole enc Tryd.prog Tryd.f4.params.toList Rows.utf8DecodeSpec.vars false W args.toList ds gs before) (hL : laidMetH Tryd.prog Rows.utf8DecodeRow.laid W) (_hs : W.ShapedOpen Tryd.prog) :
    Calls Tryd.prog 4 args W fun e W' => ∃ v, e = .returned v ∧ Rows.utf8DecodeSpec.post enc Tryd.prog Tryd.f4 false true false false W args v W' := by
  have hW' := hW
  obtain ⟨p, q, hA0, hV, rfl, hfz, hnd⟩ := hW
  have hA : DataW.TrodAll enc Tryd.prog W 0 (fun _ => true) true Tryd.f4.params.toList args.toList ds p := hA0
  rw [Tryd.params4] at hA hval
  obtain ⟨v0, vs0, d0, ds0, p0, q0, hargs, rfl, rfl, h0, r0⟩ := trodAll_cons hA
  obtain ⟨rfl, rfl, rfl⟩ := trodAll_nil r0
  obtain rfl : args = #[v0] := by cases args; simp_all
  obtain ⟨rfl, rfl⟩ := trodVars_none hV
  obtain ⟨a0, rfl, rfl, rfl, w0⟩ := open_string Tryd.underlying9 (hval 0 9 v0 rfl rfl) h0
  clear hA0
  simp only [List.append_nil] at hW'
  refine (walk a0 w0 W (tab hL)).mono fun e W' ⟨he, bel⟩ => ?_
  subst he
  exact ⟨_, rfl, _, _, _, [], [], [], hW', trodAll_mk1 (shut_bool Tryd.underlying4 _), (trodAll_cons_mk (shut_string Tryd.underlying9 w0) trodAll_mk0), rfl, bel.frame _, fun h => by cases h⟩

theorem laid_met (os : Os) : laidMet Tryd.prog Rows.utf8DecodeRow.laid ((laidWorld os).forCall (fun _ _ => 0) ⟨#[], #[.string ByteArray.empty], []⟩).memory :=
  laidMet_of_run' 8 (by kernel_rfl) (by kernel_rfl)
theorem reads (os : Os) {H : Type} (enc : TypeId × Value → H) : ∃ places, DataW.whole enc Tryd.prog ((laidWorld os).forCall (fun _ _ => 0) ⟨#[], #[.string ByteArray.empty], []⟩).memory Tryd.f4.params.toList Rows.utf8DecodeSpec.vars false (#[.string ByteArray.empty] : Array Value).toList 8 = some ([.lit (.string [])], [], places) :=
  ⟨[], by kernel_rfl⟩

set_option maxRecDepth 100000 in
theorem lifted (os : Os) (started : os.Started) (H : Type) (enc : TypeId × Value → H) (F : Stop.Interp) :
    ReturnsInHanded {} Tryd.checked os 4 .any ((OpenSpec.ofChange Rows.utf8DecodeSpec).preRow enc Tryd.prog Tryd.f4 Rows.utf8DecodeRow.domain false Rows.utf8DecodeRow.laid) (((OpenSpec.ofChange Rows.utf8DecodeSpec).at F).post enc Tryd.prog Tryd.f4 false true false false) := by
  obtain ⟨places, hx⟩ := reads os enc
  refine returnsInHanded_of_row (C := Tryd.checked) (s := OpenSpec.ofChange Rows.utf8DecodeSpec) own started (by kernel_rfl) Tryd.func4
    (witness_row_at (enc := enc) (C := Tryd.checked) false (laidWorld os) #[.string ByteArray.empty] rfl (by kernel_rfl) (by kernel_rfl) (by kernel_rfl)
      (OpenSpec.preRow_of_cond 8 hx (by kernel_rfl) (fun k hk => by cases hk) (by kernel_rfl) (laid_met os))) ?_
  intro W base args ds gs before hval hW _ _ _ hL hs _
  exact contract H enc W base args ds gs before hval hW hL hs

theorem said : Rows.Utf8DecodeSaid :=
  OpenClaim.holds_of_cond 4 Tryd.f4 rfl rfl rfl rfl rfl rfl rfl ⟨rfl, rfl, rfl, rfl, rfl⟩ rfl rfl rfl rfl rfl (by kernel_rfl) Tryd.func4 (by kernel_rfl)
    (of_decide_eq_true (by kernel_rfl)) (by unfold Func.isWrapper; first | (rw [if_pos (by decide +kernel)]; kernel_rfl) | (rw [if_neg (by decide +kernel)]; exact ⟨rfl, rfl⟩))
    (fun os started H enc _ F => by rw [OpenClaim.pre_eq_preRow]; exact lifted os started H enc F)

theorem plain (f : FuncId) (fn : Func) (hf : Tryd.pinned.checked.prog.funcNamed "bulletin/bulletinlaw03.Utf8Decode" = some f) (hfn : Tryd.pinned.checked.prog.funcs[f]? = some fn) :
    false = Tryd.pinned.checked.prog.looks [] ∧ ∀ (j : Nat) t, fn.params[j]? = some t → Tryd.pinned.checked.prog.wantsStandIn t = false := by
  obtain rfl : f = 4 := Option.some.inj ((show Tryd.prog.funcNamed "bulletin/bulletinlaw03.Utf8Decode" = some 4 by kernel_rfl).symm.trans hf) |>.symm
  obtain rfl : fn = Tryd.f4 := (Option.some.inj (Tryd.func4.symm.trans hfn)).symm
  refine ⟨by kernel_rfl, fun j t ht => ?_⟩
  rw [Tryd.params4] at ht
  obtain rfl : t = 9 := by simpa using Array.mem_of_getElem? ht
  exact (show Tryd.prog.wantsStandIn 9 = false by kernel_rfl)

end Go.Proofs.YtjjkpokombdamaaDoor.utf8DecodeLaw
namespace Go.Proofs.YtjjkpokombdamaaDoor

/-- THE CARD OF Utf8Decode -/
theorem utf8Decode_card : Rows.Utf8DecodeCardSaid :=
  Claim7.holds_tied_plain_at .later [] _ _ _ _ utf8DecodeLaw.said (fun _ h => by cases h) (by kernel_rfl) (fun _ h => by cases h) utf8Decode_row_tie rfl ⟨rfl, rfl⟩ (by kernel_rfl) rfl utf8DecodeLaw.plain (by kernel_rfl)
#print axioms utf8Decode_card
end Go.Proofs.YtjjkpokombdamaaDoor
