/- Utf8Encode: whatever number and whatever text come in, the law's call returns true and its arguments read as before; the table of bounds reads as the program's text lays it (the card ties it).
   Conditions: none beyond the row's own. -/
import Derived.Test.YtjjkpokombdamaaDoorFrame
import Derived.Test.YtjjkpokombdamaaDoorRefEnc2
import Derived.Test.YtjjkpokombdamaaDoorBackPlain
namespace Go.Proofs.YtjjkpokombdamaaDoor.utf8EncodeLaw
open Go.ChangeShapes Go.WideShapes Go.ChangeAt Go.RowKit
open Go.ChangeMaps (open_string shut_string)

theorem decide_any' (s : ByteArray) (w : World) (hT : Tab w) (hs : 0 < s.size) (hmax : s.size ≤ 9223372036854775807) (r z : Nat) (hr : U8.next (bytesOf s) = (r, z, 0)) (hne : s.toList.isEmpty = false) :
    Calls Tryd.prog 19 #[.string s] w fun x w' => x = .returned (.tuple #[.int .i32 r, .int .i64 z, .int .i64 0]) ∧ Below w.heap.size w w' :=
  (decode_any s w hT hs hmax r z 0 hr hne).mono fun _ _ ⟨h, hb⟩ => ⟨h, hb⟩

set_option maxRecDepth 20000 in
set_option maxHeartbeats 1000000 in
theorem walk (r : Int) (rest : ByteArray) (h0 : -2147483648 ≤ r) (h1 : r ≤ 2147483647) (ha : rest.size ≤ maxLen) (w : World) (hT : Tab w) :
    Calls Tryd.prog 5 #[.int .i32 r, .string rest] w fun e w' => e = .returned (.bool true) ∧ Below w.heap.size w w' := by
  have hp := hT.1
  obtain ⟨c, hc⟩ : ∃ c, c = cutS rest 20 := ⟨_, rfl⟩
  have hcs : c.size ≤ 20 := by rw [hc]; exact cutS_size rest 20
  have HS := Lib.hid (fun w => short_any rest 20 w ha c hc)
  have HK := Lib.hid (fun w hT => known_any w hT)
  have hw64 : wrap64 r = r := by unfold wrap64; omega
  by_cases hbad : r < 0 ∨ 1114111 < r ∨ (55296 ≤ r ∧ r ≤ 57343)
  · have HE := Lib.hid (fun w => encode_bad r w hbad)
    have HN := Lib.hid (fun w => scalar_no r w hbad)
    clear hbad hc h0 h1
    go_enter Tryd.func5, Tryd.ntmps5
    go_wp2_with fail
    refine (HS.out _).mono ?_
    rintro e w0' ⟨rfl, rfl⟩
    go_wp2_with fail
    refine (HE.out _).mono ?_
    rintro e w0' ⟨rfl, rfl⟩
    go_wp2_with fail
    refine (HK.out _ hT).mono ?_
    rintro e w1 ⟨rfl, hb1⟩
    go_wp2_with fail
    refine (HN.out _).mono ?_
    rintro e w1' ⟨rfl, rfl⟩
    go_wp2_with fail
    go_ret
    exact ⟨rfl, hb1⟩
  · obtain ⟨m, rfl⟩ : ∃ m : Nat, r = (m : Int) := ⟨r.toNat, by omega⟩
    have hok : U8.ok m := by unfold U8.ok; omega
    obtain ⟨t, ht⟩ : ∃ t, t = baOf (U8.enc m) := ⟨_, rfl⟩
    have htb : bytesOf t = U8.enc m := by rw [ht]; exact bytesOf_baOf _ (U8.enc_lt m hok)
    have hts : t.size = U8.esize m := by rw [ht, baOf_size, U8.enc_len]
    obtain ⟨n, hn⟩ : ∃ n, n = U8.esize m := ⟨_, rfl⟩
    rw [← hn] at hts
    have hn4 : 1 ≤ n ∧ n ≤ 4 := by rcases U8.esize_cases m with h | h | h | h <;> omega
    have hcat : bytesOf (t ++ c) = U8.enc m ++ bytesOf c := by
      rw [← htb]; unfold bytesOf; simp
    have hcats : (t ++ c).size = t.size + c.size := ByteArray.size_append
    have hne : (t ++ c).toList.isEmpty = false := by
      rw [ByteArray.toList_eq]
      cases hl : (t ++ c).data.toList with
      | nil =>
        have h9 := size_toList (t ++ c)
        rw [hl] at h9
        simp only [List.length_nil] at h9
        omega
      | cons _ _ => rfl
    have hde : ∀ w, Tab w → Calls Tryd.prog 19 #[.string (t ++ c)] w fun x w' => x = .returned (.tuple #[.int .i32 m, .int .i64 n, .int .i64 0]) ∧ Below w.heap.size w w' := fun w hT =>
      (decide_any' (t ++ c) w hT (by omega) (by omega) m n (by rw [hcat, U8.next_back m hok, hn]) hne)
    have HE := Lib.hid (fun w hT => encode_ok m w hT hok t ht)
    have HN := Lib.hid (fun w => scalar_yes m w hok)
    have HD := Lib.hid hde
    have HR := Lib.hid (fun w => refEncode_any m hok.1 w (U8.enc m) rfl)
    have HCV := Lib.hid (show ∀ (W w' : World) (v : Value), Nb W w' v (U8.enc m) → (convert 38 9 v).run Tryd.prog w' = .ok (.string t) w' from fun W w' v h => by
      unfold Nb at h
      rw [nb_bytes _ (U8.enc_lt m hok)] at h
      rw [ht]
      exact conv_row h)
    have htsI : (t.size : Int) = (n : Int) := by omega
    have hnI : (n : Int) ≤ 4 := by omega
    have hcI : (c.size : Int) ≤ 20 := by omega
    clear hbad hc h0 h1 hok ht htb hts hn hcat hcats hne hde hn4
    go_enter Tryd.func5, Tryd.ntmps5
    go_wp2_with fail
    refine (HS.out _).mono ?_
    rintro e w0' ⟨rfl, rfl⟩
    go_wp2_with fail
    refine (HE.out _ hT).mono ?_
    rintro e w1 ⟨rfl, hb1⟩
    go_wp2_with fail
    refine (HK.out _ (hT.below hb1 hp)).mono ?_
    rintro e w2 ⟨rfl, hb2'⟩
    have hb2 := hb1.trans (hb2'.mono hb1.size)
    clear hb2' hb1
    go_wp2_with fail
    refine (HN.out _).mono ?_
    rintro e w2' ⟨rfl, rfl⟩
    go_wp2_with fail
    refine (HD.out _ (hT.below hb2 hp)).mono ?_
    rintro e w3 ⟨rfl, hb3'⟩
    have hb3 := hb2.trans (hb3'.mono hb2.size)
    clear hb3' hb2
    go_wp2_with fail
    refine (HR.out _).mono ?_
    rintro e w4 ⟨v, rfl, hv, hb4'⟩
    have hb4 := hb3.trans (hb4'.mono hb3.size)
    have hcv := HCV.out _ _ _ hv
    clear hb4' hb3 hv
    go_wp2_with fail
    go_ret
    exact ⟨rfl, hb4⟩

theorem contract (H : Type) (enc : TypeId × Value → H) (W : World) (base : Nat) (args : Array Value) (ds gs : List (DataW H)) (before : List MemPlace)
    (hval : ∀ (j : Nat) t v, Tryd.f5.params[j]? = some t → args[j]? = some v → Value.okWide Tryd.prog W .any base t v)
    (hW : DataW.Whole enc Tryd.prog Tryd.f5.params.toList Rows.utf8EncodeSpec.vars false W args.toList ds gs before) (hL : laidMetH Tryd.prog Rows.utf8EncodeRow.laid W) (_hs : W.ShapedOpen Tryd.prog) :
    Calls Tryd.prog 5 args W fun e W' => ∃ v, e = .returned v ∧ Rows.utf8EncodeSpec.post enc Tryd.prog Tryd.f5 false true false false W args v W' := by
  have hW' := hW
  obtain ⟨p, q, hA0, hV, rfl, hfz, hnd⟩ := hW
  have hA : DataW.TrodAll enc Tryd.prog W 0 (fun _ => true) true Tryd.f5.params.toList args.toList ds p := hA0
  rw [Tryd.params5] at hA hval
  obtain ⟨v0, vs0, d0, ds0, p0, q0, hargs, rfl, rfl, h0, r0⟩ := trodAll_cons hA
  obtain ⟨v1, vs1, d1, ds1, p1, q1, rfl, rfl, rfl, h1, r1⟩ := trodAll_cons r0
  obtain ⟨rfl, rfl, rfl⟩ := trodAll_nil r1
  obtain rfl : args = #[v0, v1] := by cases args; simp_all
  obtain ⟨rfl, rfl⟩ := trodVars_none hV
  obtain ⟨a0, rfl, rfl, rfl, w0⟩ := open_int Tryd.underlying21 (hval 0 21 v0 rfl rfl) h0
  obtain ⟨a1, rfl, rfl, rfl, w1⟩ := open_string Tryd.underlying9 (hval 1 9 v1 rfl rfl) h1
  clear hA0
  simp only [List.append_nil] at hW'
  refine (walk a0 a1 (bounds_i32 w0).1 (bounds_i32 w0).2 w1 W (tab hL)).mono fun e W' ⟨he, bel⟩ => ?_
  subst he
  exact ⟨_, rfl, _, _, _, [], [], [], hW', trodAll_mk1 (shut_bool Tryd.underlying4 _), (trodAll_cons_mk (shut_int Tryd.underlying21 w0) (trodAll_cons_mk (shut_string Tryd.underlying9 w1) trodAll_mk0)), rfl, bel.frame _, fun h => by cases h⟩

theorem laid_met (os : Os) : laidMet Tryd.prog Rows.utf8EncodeRow.laid ((laidWorld os).forCall (fun _ _ => 0) ⟨#[], #[.int .i32 0, .string ByteArray.empty], []⟩).memory :=
  laidMet_of_run' 8 (by kernel_rfl) (by kernel_rfl)
theorem reads (os : Os) {H : Type} (enc : TypeId × Value → H) : ∃ places, DataW.whole enc Tryd.prog ((laidWorld os).forCall (fun _ _ => 0) ⟨#[], #[.int .i32 0, .string ByteArray.empty], []⟩).memory Tryd.f5.params.toList Rows.utf8EncodeSpec.vars false (#[.int .i32 0, .string ByteArray.empty] : Array Value).toList 8 = some ([.lit (.int .i32 0), .lit (.string [])], [], places) :=
  ⟨[], by kernel_rfl⟩

set_option maxRecDepth 100000 in
theorem lifted (os : Os) (started : os.Started) (H : Type) (enc : TypeId × Value → H) (F : Stop.Interp) :
    ReturnsInHanded {} Tryd.checked os 5 .any ((OpenSpec.ofChange Rows.utf8EncodeSpec).preRow enc Tryd.prog Tryd.f5 Rows.utf8EncodeRow.domain false Rows.utf8EncodeRow.laid) (((OpenSpec.ofChange Rows.utf8EncodeSpec).at F).post enc Tryd.prog Tryd.f5 false true false false) := by
  obtain ⟨places, hx⟩ := reads os enc
  refine returnsInHanded_of_row (C := Tryd.checked) (s := OpenSpec.ofChange Rows.utf8EncodeSpec) own started (by kernel_rfl) Tryd.func5
    (witness_row_at (enc := enc) (C := Tryd.checked) false (laidWorld os) #[.int .i32 0, .string ByteArray.empty] rfl (by kernel_rfl) (by kernel_rfl) (by kernel_rfl)
      (OpenSpec.preRow_of_cond 8 hx (by kernel_rfl) (fun k hk => by cases hk) (by kernel_rfl) (laid_met os))) ?_
  intro W base args ds gs before hval hW _ _ _ hL hs _
  exact contract H enc W base args ds gs before hval hW hL hs

theorem said : Rows.Utf8EncodeSaid :=
  OpenClaim.holds_of_cond 5 Tryd.f5 rfl rfl rfl rfl rfl rfl rfl ⟨rfl, rfl, rfl, rfl, rfl⟩ rfl rfl rfl rfl rfl (by kernel_rfl) Tryd.func5 (by kernel_rfl)
    (of_decide_eq_true (by kernel_rfl)) (by unfold Func.isWrapper; first | (rw [if_pos (by decide +kernel)]; kernel_rfl) | (rw [if_neg (by decide +kernel)]; exact ⟨rfl, rfl⟩))
    (fun os started H enc _ F => by rw [OpenClaim.pre_eq_preRow]; exact lifted os started H enc F)

theorem plain (f : FuncId) (fn : Func) (hf : Tryd.pinned.checked.prog.funcNamed "bulletin/bulletinlaw03.Utf8Encode" = some f) (hfn : Tryd.pinned.checked.prog.funcs[f]? = some fn) :
    false = Tryd.pinned.checked.prog.looks [] ∧ ∀ (j : Nat) t, fn.params[j]? = some t → Tryd.pinned.checked.prog.wantsStandIn t = false := by
  obtain rfl : f = 5 := Option.some.inj ((show Tryd.prog.funcNamed "bulletin/bulletinlaw03.Utf8Encode" = some 5 by kernel_rfl).symm.trans hf) |>.symm
  obtain rfl : fn = Tryd.f5 := (Option.some.inj (Tryd.func5.symm.trans hfn)).symm
  refine ⟨by kernel_rfl, fun j t ht => ?_⟩
  rw [Tryd.params5] at ht
  have hm : t = 21 ∨ t = 9 := by simpa using Array.mem_of_getElem? ht
  rcases hm with rfl | rfl
  · exact (show Tryd.prog.wantsStandIn 21 = false by kernel_rfl)
  · exact (show Tryd.prog.wantsStandIn 9 = false by kernel_rfl)

end Go.Proofs.YtjjkpokombdamaaDoor.utf8EncodeLaw
namespace Go.Proofs.YtjjkpokombdamaaDoor

/-- THE CARD OF Utf8Encode -/
theorem utf8Encode_card : Rows.Utf8EncodeCardSaid :=
  Claim7.holds_tied_plain_at .later [] _ _ _ _ utf8EncodeLaw.said (fun _ h => by cases h) (by kernel_rfl) (fun _ h => by cases h) utf8Encode_row_tie rfl ⟨rfl, rfl⟩ (by kernel_rfl) rfl utf8EncodeLaw.plain (by kernel_rfl)
#print axioms utf8Encode_card
end Go.Proofs.YtjjkpokombdamaaDoor
