/- Base64Limits: whatever number comes in, the law's call returns true; the alphabet's table reads as the program's text lays it (the card ties it).
   Conditions: none beyond the row's own. -/
import Derived.Test.YtbojodgeknjpjaaDoorOpen
import Derived.Test.YtbojodgeknjpjaaDoorCoder
namespace Go.Proofs.YtbojodgeknjpjaaDoor.limitsLaw
open Go.ChangeShapes Go.WideShapes Go.ChangeAt Go.RowKit
open Go.ChangeMaps (open_string shut_string)

/-- what Size answers for every number -/
def sizeF (n : Int) : Int := if n < 0 ∨ 131072 < n then 0 else (n + 2) / 3 * 4

theorem size15 (n : Int) (w : World) (z : Int) (hz : z = sizeF n) : Calls Tryd.prog 15 #[.int .i64 n] w fun e w' => e = .returned (.int .i64 z) ∧ w = w' := by
  have HZ := Lib.hid hz
  clear hz
  by_cases h0 : n < 0
  · go_enter Tryd.func15, Tryd.ntmps15
    go_wp2
    go_ret
    exact ⟨by rw [HZ.out, sizeF, if_pos (Or.inl h0)]; rfl, rfl⟩
  · by_cases h1 : 131072 < n
    · have g1 : decide (n < 0) = false := by simpa using h0
      go_enter Tryd.func15, Tryd.ntmps15
      go_wp2
      go_ret
      exact ⟨by rw [HZ.out, sizeF, if_pos (Or.inr h1)]; rfl, rfl⟩
    · refine (size_ok n w (by omega) (by omega)).mono ?_
      rintro e w' ⟨rfl, rfl⟩
      exact ⟨by rw [HZ.out, sizeF, if_neg (by omega)], rfl⟩

theorem encode_long (x : Option Addr) (len cap : Nat) (w : World) (hl : 131072 < len) : Calls Tryd.prog 13 #[.slice x len cap] w fun e w' => e = .returned (.tuple #[.string ByteArray.empty, .int .i64 5]) ∧ w = w' := by
  have hl2 : (131072 : Int) < (len : Int) := by omega
  go_enter Tryd.func13, Tryd.ntmps13
  go_wp2_with fail
  go_ret2
  exact ⟨rfl, rfl⟩

theorem coderLen_nil (w : World) : Calls Tryd.prog 26 #[.pointer none] w fun e w' => e = .returned (.int .i64 0) ∧ w = w' := by
  go_enter Tryd.func26, Tryd.ntmps26
  go_wp2_with fail
  go_ret
  exact ⟨rfl, rfl⟩

theorem madeZeros (n : Nat) : (madeCells (Value.int .u8 0).cells (n * 1)).toList = byteVals (List.replicate n 0) := by
  apply List.ext_getElem?
  intro i
  have hc : (Value.int .u8 0).cells = #[.int .u8 0] := rfl
  rw [hc, Nat.mul_one]
  by_cases h : i < n
  · simp [madeCells, byteVals, h, Nat.mod_one]
  · simp [madeCells, byteVals, h]

theorem zeros_new (w : World) {g n base : Nat} (h : w.ownsRow base 5 1 (.slice (some ⟨g, 0, none⟩) n n) n (madeCells (Value.int .u8 0).cells (n * 1)).toList) : Bytes w (.slice (some ⟨g, 0, none⟩) n n) (List.replicate n 0) := by
  obtain ⟨g', cap, cur, he, _, hrow, hn, hm, hcur⟩ := row_some h (by simp)
  cases he
  rw [madeZeros] at hcur
  have hl : (List.replicate n 0).length = n := List.length_replicate
  have := row_bytes (tot := List.replicate n 0) hrow (by rw [hl]; exact hcur) (fun x hx => by rw [List.eq_of_mem_replicate hx]; decide) (by rw [hl]; exact hn) hm n (by rw [hl]; exact Nat.le_refl _)
  rwa [List.take_of_length_le (by rw [hl]; exact Nat.le_refl _)] at this

theorem coder_new (w : World) : CoderAt (w.alloc (.cells #[.int .u8 0, .int .u8 0, .int .i64 0, .bool false] 53)) w.heap.size 0 0 0 false := heap_alloc_new w _

theorem Kept.refl (g : Nat) (w : World) : Kept g w w := ⟨rfl, rfl, rfl, Nat.le_refl _, fun _ _ _ => rfl⟩
theorem Kept.bytes {g B : Nat} {w w' : World} {v : Value} {l : List Nat} (h : Kept g w w') (hg : B ≤ g) (hB : B ≤ w.heap.size) {w0 : World} (h0 : Bytes w0 v l) (hb : Below B w0 w) (hs : w0.heap.size = B) : Bytes w' v l := by
  subst hs
  exact h0.below (hb.trans (h.below hg hB))

set_option maxHeartbeats 1000000 in
theorem walk (more : Int) (w : World) (hT : Tab w) (hm : (Lit.int .u8 more).wf = true) :
    Calls Tryd.prog 11 #[.int .u8 more] w fun e w' => e = .returned (.bool true) ∧ Below w.heap.size w w' := by
  have hk := known_any w hT
  have HK := Lib.hid hk
  clear hk
  obtain ⟨i0, hi, hz0, hz1, hz2⟩ := info_parts Tryd.info5
  have hby := byte_of_wf hm
  obtain ⟨r, hr⟩ : ∃ r : Nat, r = (more % 4).toNat := ⟨_, rfl⟩
  have htm : more.tmod 4 = (r : Int) := by rw [Int.tmod_eq_emod_of_nonneg (by omega), hr]; omega
  have hr4 : r < 4 := by omega
  have hr4I : (r : Int) < 4 := by omega
  obtain ⟨N, hN⟩ : ∃ N : Nat, N = 131072 + r := ⟨_, rfl⟩
  have hNI : 131072 + (r : Int) = (N : Int) := by omega
  have hN1 : N ≤ 131075 := by omega
  have hN2 : 131072 ≤ N := by omega
  clear hr hm hN
  by_cases hgt : 131072 < N
  · have hgtI : (131072 : Int) < (N : Int) := by omega
    go_enter Tryd.func11, Tryd.ntmps11
    go_wp2_with fail
    refine HK.out.mono ?_
    rintro e w1 ⟨rfl, hb1⟩
    have hs1 := hb1.size
    go_wp2_with (at_make; go_must (refine wpList_make_full w1 rfl _ _ 22 rfl w.heap.size 5 i0 (.int .u8 0) 1 Tryd.underlying22 hi hz0 hz1 .i64 .i64 _ _ N rfl rfl rfl rfl (by rw [hz2]; omega) (by unfold maxLen; omega) hs1 ?_; intro w2 ho2 hg2))
    have hb2 : Below w.heap.size w w2 := hb1.grown hg2 hs1 (by intro k hk; cases hk)
    have hs2 := hb2.size
    have hpos2 : 0 < w2.heap.size := Nat.lt_of_lt_of_le hT.1 hs2
    have hb3 : Below w.heap.size w (w2.alloc (.cells #[.int .u8 0, .int .u8 0, .int .i64 0, .bool false] 53)) := hb2.alloc hs2 _
    have HC3 := Lib.hid (coder_new w2)
    have HB3 := Lib.hid hb3
    obtain ⟨M, hM⟩ : ∃ M : Nat, M = 174765 := ⟨_, rfl⟩
    have HM := Lib.hid hM
    clear hM hb1 hb2 hb3 hg2
    refine (encode_long _ _ _ _ hgt).mono ?_
    rintro e w' ⟨rfl, rfl⟩
    go_wp2_with fail
    refine (write_long _ _ _ _ w2.heap.size 0 0 0 HC3.out (by omega) (by omega)).mono ?_
    rintro e w' ⟨rfl, rfl⟩
    go_wp2_with fail
    refine (close_any _ w2.heap.size 0 0 0 (hT.below HB3.out hT.1) HC3.out (by omega) (by omega) hpos2 ByteArray.empty (by rfl)).mono ?_
    rintro e w4 ⟨rfl, hC4, hk4⟩
    have HC4 := Lib.hid hC4
    have hb4 : Below w.heap.size w w4 := HB3.out.trans (hk4.below hs2 HB3.out.size)
    have HB4 := Lib.hid hb4
    have hs4 := hb4.size
    clear hC4 hk4 hb4
    go_wp2_with fail
    refine (write_nil _ _).mono ?_
    rintro e w' ⟨rfl, rfl⟩
    go_wp2_with fail
    refine (close_nil _).mono ?_
    rintro e w' ⟨rfl, rfl⟩
    go_wp2_with (first | (go_at_call 26; refine (coderLen_nil _).mono ?_; rintro e w' ⟨rfl, rfl⟩) | (go_at_call 15; refine (size_ok _ _ (by decide) (by decide)).mono ?_; rintro e w' ⟨rfl, rfl⟩) | (at_make; go_must (refine wpList_make_full w4 rfl _ _ 22 rfl w.heap.size 5 i0 (.int .u8 0) 1 Tryd.underlying22 hi hz0 hz1 .i64 .i64 _ _ M rfl rfl (by rw [HM.out]; rfl) (by rw [HM.out]; rfl) (by rw [hz2, HM.out]; decide) (by rw [HM.out]; unfold maxLen; decide) hs4 ?_; intro w5 ho5 hg5; have hcv := conv_bytes (zeros_new w5 ho5); obtain ⟨sz, hsz⟩ : ∃ sz, sz = strB (List.replicate M 0) := ⟨_, rfl⟩; rw [← hsz] at hcv; have HSZ := Lib.hid hsz; have HG5 := Lib.hid hg5; clear hsz hg5 ho5)))
    have hszs : sz.size = 174765 := by
      have h1 : sz.size = M := by rw [HSZ.out]; simp [strB, ByteArray.size]
      rw [h1]; exact HM.out
    have hb5 : Below w4.heap.size w4 w5 := (Below.refl _ w4).grown HG5.out (Nat.le_refl _) (by intro k hk; cases hk)
    have HC5 := Lib.hid (HC4.out.keeps hb5)
    have hb5' : Below w.heap.size w w5 := HB4.out.trans (hb5.mono hs4)
    have HB5 := Lib.hid hb5'
    have hs5 := hb5'.size
    have hD := decode_long sz w5 (by rw [hszs]; unfold maxLen; decide) (by rw [hszs]; decide)
    have hd : B64.decT sz.data.toList = ([], 0, 5) := by
      unfold B64.decT
      rw [size_toList, if_pos (by rw [hszs]; decide)]
    rw [hd] at hD
    clear hb5 hb5' hd hszs
    refine hD.mono ?_
    rintro e w6 ⟨vd, rfl, _, hb6⟩
    have HC6 := Lib.hid (HC5.out.keeps hb6)
    have HB6 := Lib.hid (HB5.out.trans (hb6.mono hs5))
    clear hb6
    go_wp2_with (go_at_call 26; go_must (refine (coderLen_any _ _ _ _ _ _ HC6.out).mono ?_; rintro e w' ⟨rfl, rfl⟩))
    go_ret
    exact ⟨rfl, HB6.out⟩
  · have hN : N = 131072 := by omega
    have hgtI : ¬ (131072 : Int) < (N : Int) := by omega
    have HN := Lib.hid hN
    clear hN hN1 hN2 hgt
    go_enter Tryd.func11, Tryd.ntmps11
    go_wp2_with fail
    refine HK.out.mono ?_
    rintro e w1 ⟨rfl, hb1⟩
    have hs1 := hb1.size
    go_wp2_with (at_make; go_must (refine wpList_make_full w1 rfl _ _ 22 rfl w.heap.size 5 i0 (.int .u8 0) 1 Tryd.underlying22 hi hz0 hz1 .i64 .i64 _ _ N rfl rfl rfl rfl (by rw [hz2, HN.out]; decide) (by rw [HN.out]; unfold maxLen; decide) hs1 ?_; intro w2 ho2 hg2))
    have hb2 : Below w.heap.size w w2 := hb1.grown hg2 hs1 (by intro k hk; cases hk)
    have hbv := zeros_new w2 ho2
    obtain ⟨l, hl⟩ : ∃ l : List Nat, l = List.replicate N 0 := ⟨_, rfl⟩
    have hll : l.length = N := by rw [hl, List.length_replicate]
    rw [← hl] at hbv
    have hby2 := hbv.1
    have hT2 : Tab w2 := hT.below hb2 hT.1
    obtain ⟨s1, hs1'⟩ : ∃ s : ByteArray, s = ⟨(B64.encT l).toArray⟩ := ⟨_, rfl⟩
    have hE := Encode_ok _ l w2 hT2 hbv (by rw [hll, HN.out]; decide)
    rw [← hs1'] at hE
    obtain ⟨z, hz⟩ : ∃ z : Int, z = sizeF (N : Int) := ⟨_, rfl⟩
    have hzs : ((s1.size : Int) == z) = true := by
      have h1 : s1.size = (l.length + 2) / 3 * 4 := by rw [← size_toList, hs1', B64.encT_length l hby2]
      rw [hz, h1, hll, HN.out]
      rfl
    have HE := Lib.hid hE; have HLL := Lib.hid hll; have HBV := Lib.hid hbv; have HB2 := Lib.hid hb2; have HZ := Lib.hid hz
    clear hl hs1' hE hbv hby2 hll hb1 hg2 ho2 hb2 hz
    refine HE.out.mono ?_
    rintro e w3 ⟨rfl, hb3⟩
    have hB3 : Below w.heap.size w w3 := HB2.out.trans (hb3.mono HB2.out.size)
    have hs3 := hB3.size
    have hpos3 : 0 < w3.heap.size := Nat.lt_of_lt_of_le hT.1 hs3
    have hbv3 := HBV.out.below hb3
    have hb4 : Below w.heap.size w (w3.alloc (.cells #[.int .u8 0, .int .u8 0, .int .i64 0, .bool false] 53)) := hB3.alloc hs3 _
    have hW := write_any (w3.alloc (.cells #[.int .u8 0, .int .u8 0, .int .i64 0, .bool false] 53)) (.slice (some ⟨w1.heap.size, 0, none⟩) N N) l w3.heap.size 0 0 0 (hT.below hb4 hT.1) (coder_new w3) (by omega) (by omega) hpos3 (by rw [HLL.out, HN.out]; decide)
      (fun w' hk => hbv3.below (((Below.refl w3.heap.size w3).alloc (Nat.le_refl _) _).trans (hk.below (Nat.le_refl _) (by simp)))) (fun c e => by cases e) _ rfl _ rfl
    obtain ⟨s2, hs2'⟩ : ∃ s : ByteArray, s = ⟨(B64.encT ((([0, 0].take (0 % 3)) ++ l).take ((0 % 3 + l.length) / 3 * 3))).toArray⟩ := ⟨_, rfl⟩
    have hW2 := hW s2 hs2'
    have HW := Lib.hid hW2; have HB4 := Lib.hid hb4
    clear hs2' hW hW2 hb4 hbv3 hb3 hB3
    go_wp2_with fail
    refine HW.out.mono ?_
    rintro e w5 ⟨rfl, hk5, r0, r1, hC5, h50, h51, _⟩
    rw [Nat.zero_add, HLL.out] at hC5
    have hb5 := HB4.out.trans (hk5.below hs3 HB4.out.size)
    obtain ⟨s3, hs3'⟩ : ∃ s : ByteArray, s = ⟨(B64.encT ([r0, r1].take (N % 3))).toArray⟩ := ⟨_, rfl⟩
    have hCl := close_any w5 w3.heap.size r0 r1 N (hT.below hb5 hT.1) hC5 h50 h51 hpos3 s3 hs3'
    have HCL := Lib.hid hCl; have HB5 := Lib.hid hb5
    clear hC5 hk5 hb5 hs3' hCl
    go_wp2_with fail
    refine HCL.out.mono ?_
    rintro e w6 ⟨rfl, hC6, hk6⟩
    have HC6 := Lib.hid hC6
    have HB6 := Lib.hid (HB5.out.trans (hk6.below hs3 HB5.out.size))
    clear hC6 hk6
    go_wp2_with fail
    refine (write_nil _ _).mono ?_
    rintro e w' ⟨rfl, rfl⟩
    go_wp2_with fail
    refine (close_nil _).mono ?_
    rintro e w' ⟨rfl, rfl⟩
    go_wp2_with (first | (go_at_call 26; refine (coderLen_nil _).mono ?_; rintro e w' ⟨rfl, rfl⟩) | (go_at_call 26; refine (coderLen_any _ _ _ _ _ _ HC6.out).mono ?_; rintro e w' ⟨rfl, rfl⟩) | (go_at_call 15; refine (size15 _ _ z HZ.out).mono ?_; rintro e w' ⟨rfl, rfl⟩))
    go_ret
    exact ⟨rfl, HB6.out⟩

theorem contract (H : Type) (enc : TypeId × Value → H) (W : World) (base : Nat) (args : Array Value) (ds gs : List (DataW H)) (before : List MemPlace)
    (hval : ∀ (j : Nat) t v, Tryd.f11.params[j]? = some t → args[j]? = some v → Value.okWide Tryd.prog W .any base t v)
    (hW : DataW.Whole enc Tryd.prog Tryd.f11.params.toList Rows.base64LimitsSpec.vars false W args.toList ds gs before) (hL : laidMetH Tryd.prog Rows.base64LimitsRow.laid W) :
    Calls Tryd.prog 11 args W fun e W' => ∃ v, e = .returned v ∧ Rows.base64LimitsSpec.post enc Tryd.prog Tryd.f11 false true false false W args v W' := by
  have hW' := hW
  obtain ⟨p, q, hA0, hV, rfl, hfz, hnd⟩ := hW
  have hA : DataW.TrodAll enc Tryd.prog W 0 (fun _ => true) true Tryd.f11.params.toList args.toList ds p := hA0
  rw [Tryd.params11] at hA hval
  obtain ⟨v0, vs0, d0, ds0, p0, q0, hargs, rfl, rfl, h0, r0⟩ := trodAll_cons hA
  obtain ⟨rfl, rfl, rfl⟩ := trodAll_nil r0
  obtain rfl : args = #[v0] := by cases args; simp_all
  obtain ⟨rfl, rfl⟩ := trodVars_none hV
  obtain ⟨a0, rfl, rfl, rfl, w0⟩ := open_int Tryd.underlying5 (hval 0 5 v0 rfl rfl) h0
  clear hA0
  simp only [List.append_nil] at hW'
  refine (walk a0 W (table hL) w0).mono fun e W' ⟨he, bel⟩ => ?_
  subst he
  exact ⟨_, rfl, _, _, _, [], [], [], hW', trodAll_mk1 (shut_bool Tryd.underlying4 _), (trodAll_cons_mk (shut_int Tryd.underlying5 w0) trodAll_mk0), rfl, bel.frame _, fun h => by cases h⟩

theorem laid_met (os : Os) : laidMet Tryd.prog Rows.base64LimitsRow.laid ((laidWorld os).forCall (fun _ _ => 0) ⟨#[], #[.int .u8 0], []⟩).memory :=
  laidMet_of_run' 8 (by kernel_rfl) (by kernel_rfl)
theorem reads (os : Os) {H : Type} (enc : TypeId × Value → H) : ∃ places, DataW.whole enc Tryd.prog ((laidWorld os).forCall (fun _ _ => 0) ⟨#[], #[.int .u8 0], []⟩).memory Tryd.f11.params.toList Rows.base64LimitsSpec.vars false (#[.int .u8 0] : Array Value).toList 8 = some ([.lit (.int .u8 0)], [], places) :=
  ⟨[], by kernel_rfl⟩

set_option maxRecDepth 100000 in
theorem lifted (os : Os) (started : os.Started) (H : Type) (enc : TypeId × Value → H) (F : Stop.Interp) :
    ReturnsInHanded {} Tryd.checked os 11 .any ((OpenSpec.ofChange Rows.base64LimitsSpec).preRow enc Tryd.prog Tryd.f11 Rows.base64LimitsRow.domain false Rows.base64LimitsRow.laid) (((OpenSpec.ofChange Rows.base64LimitsSpec).at F).post enc Tryd.prog Tryd.f11 false true false false) := by
  obtain ⟨places, hx⟩ := reads os enc
  refine returnsInHanded_of_row (C := Tryd.checked) (s := OpenSpec.ofChange Rows.base64LimitsSpec) own started (by kernel_rfl) Tryd.func11
    (witness_row_at (enc := enc) (C := Tryd.checked) false (laidWorld os) #[.int .u8 0] rfl (by kernel_rfl) (by kernel_rfl) (by kernel_rfl)
      (OpenSpec.preRow_of_cond 8 hx (by kernel_rfl) (fun k hk => by cases hk) (by kernel_rfl) (laid_met os))) ?_
  intro W base args ds gs before hval hW _ _ _ hL _ _
  exact contract H enc W base args ds gs before hval hW hL

theorem said : Rows.Base64LimitsSaid :=
  OpenClaim.holds_of_cond 11 Tryd.f11 rfl rfl rfl rfl rfl rfl rfl ⟨rfl, rfl, rfl, rfl, rfl⟩ rfl rfl rfl rfl rfl (by kernel_rfl) Tryd.func11 (by kernel_rfl)
    (of_decide_eq_true (by kernel_rfl)) (by unfold Func.isWrapper; first | (rw [if_pos (by decide +kernel)]; kernel_rfl) | (rw [if_neg (by decide +kernel)]; exact ⟨rfl, rfl⟩))
    (fun os started H enc _ F => by rw [OpenClaim.pre_eq_preRow]; exact lifted os started H enc F)

theorem plain (f : FuncId) (fn : Func) (hf : Tryd.pinned.checked.prog.funcNamed "bulletin/bulletinlaw02.Base64Limits" = some f) (hfn : Tryd.pinned.checked.prog.funcs[f]? = some fn) :
    false = Tryd.pinned.checked.prog.looks [] ∧ ∀ (j : Nat) t, fn.params[j]? = some t → Tryd.pinned.checked.prog.wantsStandIn t = false := by
  obtain rfl : f = 11 := Option.some.inj ((show Tryd.prog.funcNamed "bulletin/bulletinlaw02.Base64Limits" = some 11 by kernel_rfl).symm.trans hf) |>.symm
  obtain rfl : fn = Tryd.f11 := (Option.some.inj (Tryd.func11.symm.trans hfn)).symm
  refine ⟨by kernel_rfl, fun j t ht => ?_⟩
  rw [Tryd.params11] at ht
  obtain rfl : t = 5 := by simpa using Array.mem_of_getElem? ht
  exact (show Tryd.prog.wantsStandIn 5 = false by kernel_rfl)

end Go.Proofs.YtbojodgeknjpjaaDoor.limitsLaw
namespace Go.Proofs.YtbojodgeknjpjaaDoor

/-- THE CARD OF Base64Limits -/
theorem base64Limits_card : Rows.Base64LimitsCardSaid :=
  Claim7.holds_tied_plain_at .later [] _ _ _ _ limitsLaw.said (fun _ h => by cases h) (by kernel_rfl) (fun _ h => by cases h) base64Limits_row_tie rfl ⟨rfl, rfl⟩ (by kernel_rfl) rfl limitsLaw.plain (by kernel_rfl)
#print axioms base64Limits_card
end Go.Proofs.YtbojodgeknjpjaaDoor
