/- Base64Concatenation: whatever two slices of bytes come in, the law's call returns true and both read as before; the alphabet's table reads as the program's text lays it (the card ties it).
   Conditions: none beyond the row's own. -/
import Derived.Test.YtbojodgeknjpjaaDoorOpen
import Derived.Test.YtbojodgeknjpjaaDoorApp
namespace Go.Proofs.YtbojodgeknjpjaaDoor.concat
open Go.ChangeShapes Go.WideShapes Go.ChangeAt Go.RowKit
open Go.ChangeMaps (open_string shut_string)

set_option maxHeartbeats 400000 in
theorem walk (x y : Option Addr) (cap1 cap2 : Nat) (l m : List Nat) (w : World) (hT : Tab w) (hv : Bytes w (.slice x l.length cap1) l) (hu : Bytes w (.slice y m.length cap2) m) (hx : x = none → cap1 = 0) (hy : y = none → cap2 = 0) :
    Calls Tryd.prog 7 #[.slice x l.length cap1, .slice y m.length cap2] w fun e w' => e = .returned (.bool true) ∧ Below w.heap.size w w' := by
  have hk := known_any w hT
  have HK := Lib.hid hk
  have HV := Lib.hid hv
  have HU := Lib.hid hu
  clear hk
  obtain ⟨hby, x', cap', he, hcap, hmax, _⟩ := hv
  obtain ⟨hby2, y', cap'', he2, hcap2, hmax2, _⟩ := hu
  simp at he he2
  obtain ⟨rfl, rfl⟩ := he
  obtain ⟨rfl, rfl⟩ := he2
  unfold maxLen at hmax hmax2
  by_cases hl : 600 < l.length
  · have hl2 : (600 : Int) < (l.length : Int) := by omega
    go_enter Tryd.func7, Tryd.ntmps7
    go_wp2_with fail
    refine HK.out.mono ?_
    rintro e w1 ⟨rfl, hb1⟩
    go_wp2_with fail
    refine (known_any w1 (hT.below hb1 hT.1)).mono ?_
    rintro e w2 ⟨rfl, hb2⟩
    go_wp2
    go_ret
    exact ⟨rfl, hb1.trans (hb2.mono hb1.size)⟩
  · have hl2 : ¬ (600 : Int) < (l.length : Int) := by omega
    by_cases hm : 600 < m.length
    · have hm2 : (600 : Int) < (m.length : Int) := by omega
      go_enter Tryd.func7, Tryd.ntmps7
      go_wp2_with fail
      refine HK.out.mono ?_
      rintro e w1 ⟨rfl, hb1⟩
      go_wp2_with fail
      refine (known_any w1 (hT.below hb1 hT.1)).mono ?_
      rintro e w2 ⟨rfl, hb2⟩
      go_wp2
      go_ret
      exact ⟨rfl, hb1.trans (hb2.mono hb1.size)⟩
    · have hm2 : ¬ (600 : Int) < (m.length : Int) := by omega
      obtain ⟨l1, hl1⟩ : ∃ l1, l1 = l.take (l.length - l.length % 3) := ⟨_, rfl⟩
      have hlen1 : l.length - l.length % 3 = l1.length := by rw [hl1]; simp
      have hby1 : ∀ z ∈ l1, z < 256 := fun z hz => hby z (by rw [hl1] at hz; exact List.mem_of_mem_take hz)
      have h13 : l1.length % 3 = 0 := by omega
      have hB1 : Bytes w (.slice x l1.length cap1) l1 := by
        obtain ⟨_, xx, cc, hh, _, hmx, hc⟩ := HV.out
        simp at hh
        obtain ⟨rfl, rfl⟩ := hh
        refine ⟨hby1, x, cap1, rfl, by omega, hmx, fun i hi => ?_⟩
        obtain ⟨b, off, e, h0⟩ := hc i (by omega)
        refine ⟨b, off, e, ?_⟩
        rw [h0, hl1]
        simp [List.getD_eq_getElem?_getD, List.getElem?_take_of_lt (show i < l.length - l.length % 3 by omega)]
      have happ := B64.encT_append l1 m hby1 hby2 h13
      have hlb1 := B64.encT_length l1 hby1
      have hlb2 := B64.encT_length m hby2
      obtain ⟨s1, hs1⟩ : ∃ s : ByteArray, s = ⟨(B64.encT l1).toArray⟩ := ⟨_, rfl⟩
      obtain ⟨s2, hs2⟩ : ∃ s : ByteArray, s = ⟨(B64.encT m).toArray⟩ := ⟨_, rfl⟩
      obtain ⟨s3, hs3⟩ : ∃ s : ByteArray, s = ⟨(B64.encT (l1 ++ m)).toArray⟩ := ⟨_, rfl⟩
      have hsum : s3 = s1 ++ s2 := by
        rw [hs1, hs2, hs3, happ]
        apply ByteArray.ext
        simp
      have hq : (s3.toList == (s1 ++ s2).toList) = true := by rw [hsum]; simp
      have hz1 : s1.size ≤ 1000 := by rw [← size_toList, hs1]; simp only []; omega
      have hz2 : s2.size ≤ 1000 := by rw [← size_toList, hs2]; simp only []; omega
      have HL1 := Lib.hid hlen1
      have HS1 := Lib.hid hs1; have HS2 := Lib.hid hs2; have HS3 := Lib.hid hs3
      have HB1 := Lib.hid hB1
      have hle1 : l1.length ≤ 600 := by omega
      clear hl1 hlen1 h13 happ hlb1 hlb2 hs1 hs2 hs3 hsum hB1
      go_enter Tryd.func7, Tryd.ntmps7
      go_wp2_with fail
      refine HK.out.mono ?_
      rintro e w1 ⟨rfl, hb1⟩
      go_wp2_with fail
      rw [HL1.out]
      have hE := Encode_ok _ l1 w1 (hT.below hb1 hT.1) (HB1.out.below hb1) (by omega)
      rw [← HS1.out] at hE
      have HE := Lib.hid hE
      clear hE
      refine HE.out.mono ?_
      rintro e w2 ⟨rfl, hb2⟩
      have hb3 : Below w.heap.size w w2 := hb1.trans (hb2.mono hb1.size)
      clear hb1 hb2 HE
      have hE := Encode_ok _ m w2 (hT.below hb3 hT.1) (HU.out.below hb3) (by omega)
      rw [← HS2.out] at hE
      have HE := Lib.hid hE
      clear hE
      go_wp2_with fail
      refine HE.out.mono ?_
      rintro e w3 ⟨rfl, hb4⟩
      have hb5 : Below w.heap.size w w3 := hb3.trans (hb4.mono hb3.size)
      clear hb3 hb4 HE
      have hsz := hb5.size
      have hempty : (w3.alloc (.cells #[] 5)).ownsRow w.heap.size 5 1 (.slice (some ⟨w3.heap.size, 0, none⟩) 0 0) 0 [] := World.ownsRow_made w3 #[] 0 hsz (by unfold maxLen; omega) rfl
      have hb6 : Below w.heap.size w (w3.alloc (.cells #[] 5)) := hb5.alloc hsz _
      have HB6 := Lib.hid hb6
      have hnil1 : ∀ c, Value.slice x l1.length cap1 = Value.slice none l1.length c → c = 0 := by
        intro c hc
        simp at hc
        rw [← hc.2]
        exact hx hc.1
      have hbs : w.heap.size ≤ (w3.alloc (.cells #[] 5)).heap.size := hb6.size
      have hB2 := HB1.out.below HB6.out
      have HN1 := Lib.hid hnil1; have HBS := Lib.hid hbs; have HB2 := Lib.hid hB2; have HEM := Lib.hid hempty
      clear hnil1 hbs hB2 hempty hb6
      have hnil2 : ∀ c, Value.slice y m.length cap2 = Value.slice none m.length c → c = 0 := by
        intro c hc
        simp at hc
        rw [← hc.2]
        exact hy hc.1
      have HN2 := Lib.hid hnil2
      clear hnil2
      go_wp2_with (first | (at_builtin; refine wpList_append_bytes _ rfl (.tmp 43) (.tmp 44) rfl w.heap.size _ 0 [] rfl HEM.out _ l1 rfl HB2.out HN1.out (by omega) HBS.out ?_; intro v1 w4 hown1 hgrow1; simp only [Nat.zero_add, List.nil_append] at hown1; have hb7 := HB6.out.grown hgrow1 HBS.out (fun k hk => (HEM.out.lt k hk).1); have HB7 := Lib.hid hb7; have HO1 := Lib.hid hown1; clear hown1 hgrow1 hb7) | (at_builtin; refine wpList_append_bytes _ rfl (.tmp 45) (.tmp 46) rfl w.heap.size _ l1.length (byteVals l1) rfl HO1.out _ m rfl (HU.out.below HB7.out) HN2.out (by omega) HB7.out.size ?_; intro v2 w5 hown2 hgrow2; have hb8 := HB7.out.grown hgrow2 HB7.out.size (fun k hk => (HO1.out.lt k hk).1); have HB8 := Lib.hid hb8; have HO2 := Lib.hid hown2; clear hown2 hgrow2 hb8))
      have hby3 : ∀ z ∈ l1 ++ m, z < 256 := by
        intro z hz
        simp at hz
        exact hz.elim (hby1 z) (hby2 z)
      have hB5 : Bytes _ _ (l1 ++ m) := bytes_of_own (b0 := w.heap.size) (by have := HO2.out; rw [List.length_append]; simpa [byteVals] using this) hby3
      have hE := Encode_ok _ _ _ (hT.below HB8.out hT.1) hB5 (by simp; omega)
      rw [← HS3.out] at hE
      have HE := Lib.hid hE
      clear hE hB5
      refine HE.out.mono ?_
      rintro e w6 ⟨rfl, hb9⟩
      go_wp2
      go_ret
      exact ⟨rfl, HB8.out.trans (hb9.mono HB8.out.size)⟩

theorem nil_open {H : Type} {enc : TypeId × Value → H} {W : World} {base : Nat} {a : Option Addr} {len cap : Nat} {d : DataW H} {p : List MemPlace}
    (h : DataW.Trod enc Tryd.prog W base (fun _ => true) true 22 (.slice a len cap) d p) : a = none → cap = 0 := by
  intro ha
  obtain ⟨fuel, hf⟩ := h
  rcases open_ints Tryd.underlying22 Tryd.underlying5 cells5 hf with ⟨hcs, _⟩ | ⟨x, l, c, zs, hcs, _⟩
  · simp [Value.cells] at hcs
    exact hcs.2.2
  · simp [Value.cells] at hcs
    rw [hcs.1] at ha
    cases ha

theorem contract (H : Type) (enc : TypeId × Value → H) (W : World) (base : Nat) (args : Array Value) (ds gs : List (DataW H)) (before : List MemPlace)
    (hval : ∀ (j : Nat) t v, Tryd.f7.params[j]? = some t → args[j]? = some v → Value.okWide Tryd.prog W .any base t v)
    (hW : DataW.Whole enc Tryd.prog Tryd.f7.params.toList Rows.base64ConcatenationSpec.vars false W args.toList ds gs before) (hL : laidMetH Tryd.prog Rows.base64ConcatenationRow.laid W) :
    Calls Tryd.prog 7 args W fun e W' => ∃ v, e = .returned v ∧ Rows.base64ConcatenationSpec.post enc Tryd.prog Tryd.f7 false true false false W args v W' := by
  have hW' := hW
  obtain ⟨p, q, hA0, hV, rfl, hfz, hnd⟩ := hW
  have hA : DataW.TrodAll enc Tryd.prog W 0 (fun _ => true) true Tryd.f7.params.toList args.toList ds p := hA0
  rw [Tryd.params7] at hA hval
  obtain ⟨v0, vs0, d0, ds0, p0, q0, hargs, rfl, rfl, h0, r0⟩ := trodAll_cons hA
  obtain ⟨v1, vs1, d1, ds1, p1, q1, rfl, rfl, rfl, h1, r1⟩ := trodAll_cons r0
  obtain ⟨rfl, rfl, rfl⟩ := trodAll_nil r1
  obtain rfl : args = #[v0, v1] := by cases args; simp_all
  obtain ⟨rfl, rfl⟩ := trodVars_none hV
  obtain ⟨a0, len0, cap0, rfl⟩ := okWide_slice Tryd.underlying22 (hval 0 22 v0 rfl rfl)
  have k0 := h0
  have lt0 : ∀ x ∈ p0, x.block < W.heap.size := by obtain ⟨m, hm⟩ := k0; exact DataW.trod_lt m _ _ _ hm
  obtain ⟨l0, w0, rfl⟩ := bytes_open h0
  obtain ⟨a1, len1, cap1, rfl⟩ := okWide_slice Tryd.underlying22 (hval 1 22 v1 rfl rfl)
  have k1 := h1
  have lt1 : ∀ x ∈ p1, x.block < W.heap.size := by obtain ⟨m, hm⟩ := k1; exact DataW.trod_lt m _ _ _ hm
  obtain ⟨l1, w1, rfl⟩ := bytes_open h1
  clear hA0
  refine (walk a0 a1 cap0 cap1 l0 l1 W (table hL) w0 w1 (nil_open k0) (nil_open k1)).mono fun e W' ⟨he, bel⟩ => ?_
  subst he
  exact ⟨_, rfl, _, _, _, [], _, [], hW', trodAll_mk1 (shut_bool Tryd.underlying4 _), (trodAll_cons_mk (Below.trod laidOut (by kernel_rfl) (of_decide_eq_true (by kernel_rfl)) k0 bel lt0) (trodAll_cons_mk (Below.trod laidOut (by kernel_rfl) (of_decide_eq_true (by kernel_rfl)) k1 bel lt1) trodAll_mk0)), rfl, bel.frame _, fun h => by cases h⟩

theorem laid_met (os : Os) : laidMet Tryd.prog Rows.base64ConcatenationRow.laid ((laidWorld os).forCall (fun _ _ => 0) ⟨#[], #[.slice none 0 0, .slice none 0 0], []⟩).memory :=
  laidMet_of_run' 8 (by kernel_rfl) (by kernel_rfl)
theorem reads (os : Os) {H : Type} (enc : TypeId × Value → H) : ∃ places, DataW.whole enc Tryd.prog ((laidWorld os).forCall (fun _ _ => 0) ⟨#[], #[.slice none 0 0, .slice none 0 0], []⟩).memory Tryd.f7.params.toList Rows.base64ConcatenationSpec.vars false (#[.slice none 0 0, .slice none 0 0] : Array Value).toList 8 = some ([.nil, .nil], [], places) :=
  ⟨[], by kernel_rfl⟩

set_option maxRecDepth 100000 in
theorem lifted (os : Os) (started : os.Started) (H : Type) (enc : TypeId × Value → H) (F : Stop.Interp) :
    ReturnsInHanded {} Tryd.checked os 7 .any ((OpenSpec.ofChange Rows.base64ConcatenationSpec).preRow enc Tryd.prog Tryd.f7 Rows.base64ConcatenationRow.domain false Rows.base64ConcatenationRow.laid) (((OpenSpec.ofChange Rows.base64ConcatenationSpec).at F).post enc Tryd.prog Tryd.f7 false true false false) := by
  obtain ⟨places, hx⟩ := reads os enc
  refine returnsInHanded_of_row (C := Tryd.checked) (s := OpenSpec.ofChange Rows.base64ConcatenationSpec) own started (by kernel_rfl) Tryd.func7
    (witness_row_at (enc := enc) (C := Tryd.checked) false (laidWorld os) #[.slice none 0 0, .slice none 0 0] rfl (by kernel_rfl) (by kernel_rfl) (by kernel_rfl)
      (OpenSpec.preRow_of_cond 8 hx (by kernel_rfl) (fun k hk => by cases hk) (by kernel_rfl) (laid_met os))) ?_
  intro W base args ds gs before hval hW _ _ _ hL _ _
  exact contract H enc W base args ds gs before hval hW hL

theorem said : Rows.Base64ConcatenationSaid :=
  OpenClaim.holds_of_cond 7 Tryd.f7 rfl rfl rfl rfl rfl rfl rfl ⟨rfl, rfl, rfl, rfl, rfl⟩ rfl rfl rfl rfl rfl (by kernel_rfl) Tryd.func7 (by kernel_rfl)
    (of_decide_eq_true (by kernel_rfl)) (by unfold Func.isWrapper; first | (rw [if_pos (by decide +kernel)]; kernel_rfl) | (rw [if_neg (by decide +kernel)]; exact ⟨rfl, rfl⟩))
    (fun os started H enc _ F => by rw [OpenClaim.pre_eq_preRow]; exact lifted os started H enc F)

theorem plain (f : FuncId) (fn : Func) (hf : Tryd.pinned.checked.prog.funcNamed "bulletin/bulletinlaw02.Base64Concatenation" = some f) (hfn : Tryd.pinned.checked.prog.funcs[f]? = some fn) :
    false = Tryd.pinned.checked.prog.looks [] ∧ ∀ (j : Nat) t, fn.params[j]? = some t → Tryd.pinned.checked.prog.wantsStandIn t = false := by
  obtain rfl : f = 7 := Option.some.inj ((show Tryd.prog.funcNamed "bulletin/bulletinlaw02.Base64Concatenation" = some 7 by kernel_rfl).symm.trans hf) |>.symm
  obtain rfl : fn = Tryd.f7 := (Option.some.inj (Tryd.func7.symm.trans hfn)).symm
  refine ⟨by kernel_rfl, fun j t ht => ?_⟩
  rw [Tryd.params7] at ht
  obtain rfl : t = 22 := by simpa using Array.mem_of_getElem? ht
  exact (show Tryd.prog.wantsStandIn 22 = false by kernel_rfl)

end Go.Proofs.YtbojodgeknjpjaaDoor.concat
namespace Go.Proofs.YtbojodgeknjpjaaDoor

/-- THE CARD OF Base64Concatenation -/
theorem base64Concatenation_card : Rows.Base64ConcatenationCardSaid :=
  Claim7.holds_tied_plain_at .later [] _ _ _ _ concat.said (fun _ h => by cases h) (by kernel_rfl) (fun _ h => by cases h) base64Concatenation_row_tie rfl ⟨rfl, rfl⟩ (by kernel_rfl) rfl concat.plain (by kernel_rfl)
#print axioms base64Concatenation_card
end Go.Proofs.YtbojodgeknjpjaaDoor
