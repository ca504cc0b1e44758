/- OnetimeOrder: whatever digest and numbers come in, the law's call returns true and its arguments read as before; the table of constants reads as the program's text lays it (the card ties it).
   Conditions: none beyond the row's own. -/
import Derived.Test.YtgfolgmheinbiaaDoorRRRFrame
namespace Go.Proofs.YtgfolgmheinbiaaDoorRRR.onetimeOrderLaw
open Go.ChangeShapes Go.WideShapes Go.ChangeAt Go.RowKit
open Go.ChangeMaps (open_string shut_string)

theorem xor_u8 (x y : Nat) (hx : x < 256) (hy : y < 256) : bits .xor .u8 (x : Int) (y : Int) = ((x ^^^ y : Nat) : Int) ∧ x ^^^ y < 256 ∧ (x ^^^ y = x ↔ y = 0) := by
  have h : x ^^^ y < 2 ^ 8 := Nat.xor_lt_two_pow hx hy
  refine ⟨?_, h, ?_⟩
  · show IntKind.u8.wrap ((BitVec.ofInt 8 (x : Int) ^^^ BitVec.ofInt 8 (y : Int)).toNat : Int) = _
    have e : ∀ a : Nat, a < 256 → (BitVec.ofInt 8 (a : Int)).toNat = a := fun a ha => by
      rw [BitVec.ofInt_natCast, BitVec.toNat_ofNat]; exact Nat.mod_eq_of_lt ha
    rw [BitVec.toNat_xor, e x hx, e y hy]
    simp [IntKind.wrap, IntKind.bits, IntKind.signed]
    omega
  · constructor
    · intro he
      have h2 : x ^^^ (x ^^^ y) = x ^^^ x := by rw [he]
      rwa [← Nat.xor_assoc, Nat.xor_self, Nat.zero_xor] at h2
    · rintro rfl
      exact Nat.xor_zero x
theorem set_same {l : List Nat} {i x : Nat} (hi : i < l.length) : (l.set i x = l ↔ x = l.getD i 0) := by
  have e : l.getD i 0 = l[i] := by rw [List.getD_eq_getElem?_getD, List.getElem?_eq_getElem hi]; rfl
  rw [e]
  constructor
  · intro h
    have h2 : (l.set i x)[i]'(by rw [List.length_set]; exact hi) = l[i] := by simp only [h]
    rwa [List.getElem_set_self] at h2
  · intro h
    rw [h, List.set_getElem_self]

set_option maxRecDepth 100000 in
set_option maxHeartbeats 8000000 in
theorem walk (a : List Nat) (ha : a.length = 16) (hab : ∀ x ∈ a, x < 256) (at_ by_ : Nat) (h1 : at_ < 256) (h2 : by_ < 256) (w : World) (hT : Tab w) :
    Calls Tryd.prog 4 #[.agg (bsC (nI a)), .int .u8 at_, .int .u8 by_] w fun e w' => e = .returned (.bool true) ∧ Below w.heap.size w w' := by
  have hp := hT.1
  have HK := Lib.hid (fun w hT => known_any w hT)
  obtain ⟨i, hi⟩ : ∃ i, i = at_ % 16 := ⟨_, rfl⟩
  have hi16 : i < 16 := by omega
  obtain ⟨x, hx⟩ : ∃ x, x = a.getD i 0 := ⟨_, rfl⟩
  have hx2 : x < 256 := by
    rw [hx, List.getD_eq_getElem?_getD, List.getElem?_eq_getElem (by omega)]
    exact hab _ (List.getElem_mem _)
  obtain ⟨hq, hq2, hq3⟩ := xor_u8 x by_ hx2 h2
  obtain ⟨y, hy⟩ : ∃ y, y = x ^^^ by_ := ⟨_, rfl⟩
  rw [← hy] at hq hq2 hq3
  obtain ⟨b, hb⟩ : ∃ b, b = a.set i y := ⟨_, rfl⟩
  have hbl : b.length = 16 := by rw [hb, List.length_set, ha]
  have hbb : ∀ z ∈ b, z < 256 := by
    intro z hz
    rw [hb] at hz
    rcases List.mem_or_eq_of_mem_set hz with h | h
    · exact hab z h
    · rw [h]; exact hq2
  have hab2 : b = a ↔ by_ = 0 := by
    rw [hb, set_same (by omega), ← hx]
    exact hq3
  have HL1 := Lib.hid (fun w => lower_any a b ha hbl hab hbb w)
  have HL2 := Lib.hid (fun w => lower_any b a hbl ha hbb hab w)
  have hr1 : (S7.low (S7.split a) (S7.split b)).isSome = !decide (by_ = 0) := by
    by_cases h : by_ = 0
    · rw [hab2.2 h, S7.low_self, decide_eq_true h]; rfl
    · rw [decide_eq_false h]
      cases hc : S7.low (S7.split a) (S7.split b) with
      | some k => rfl
      | none => exact absurd (hab2.1 (S7.order a b ha hbl hbb hc).symm) h
  have hr2 : (S7.low (S7.split b) (S7.split a)).isSome = !decide (by_ = 0) := by
    by_cases h : by_ = 0
    · rw [hab2.2 h, S7.low_self, decide_eq_true h]; rfl
    · rw [decide_eq_false h]
      cases hc : S7.low (S7.split b) (S7.split a) with
      | some k => rfl
      | none => exact absurd (hab2.1 (S7.order b a hbl ha hab hc)) h
  rw [hr1] at HL1
  rw [hr2] at HL2
  generalize (S7.low (S7.split a) (S7.split b)).getD 0 = k1 at *
  generalize (S7.low (S7.split b) (S7.split a)).getD 0 = k2 at *
  obtain ⟨A, hA⟩ : ∃ A, A = nI a := ⟨_, rfl⟩
  obtain ⟨B, hB⟩ : ∃ B, B = nI b := ⟨_, rfl⟩
  have HAL := Lib.hid (show A.length = 16 by rw [hA, nI_len, ha])
  have HBL := Lib.hid (show B.length = 16 by rw [hB, nI_len, hbl])
  have HBE := Lib.hid (show B = A.set i (y : Int) by rw [hB, hb, hA]; unfold nI; rw [List.map_set])
  have hgx : A.getD i 0 = (x : Int) := by
    rw [hA, hx, List.getD_eq_getElem?_getD, List.getElem?_map, List.getD_eq_getElem?_getD, List.getElem?_eq_getElem (by omega)]
    rfl
  have HGX := Lib.hid hgx
  rw [← hA, ← hB] at HL1 HL2
  rw [← hA]
  have hiI : (i : Int) < 16 := by omega
  have hmI : (at_ : Int) % 16 = (i : Int) := by omega
  have hmT : (at_ : Int).tmod 16 = (i : Int) := by rw [Int.tmod_eq_emod_of_nonneg (by omega)]; exact hmI
  have hwa : IntKind.i64.wrap (at_ : Int) = (at_ : Int) := by rw [IntKind.wrap_i64]; omega
  have haI : (at_ : Int) < 256 := by omega
  clear hA hB ha hab hb hbl hbb hab2 hr1 hr2 hq2 hq3 hy hx hgx hi
  by_cases hz : by_ = 0
  · rw [decide_eq_true hz] at HL1 HL2
    have HL1 := Lib.hid (show ∀ w, Calls Tryd.prog 12 #[.agg (bsC A), .agg (bsC B)] w fun e w' => e = .returned (.tuple #[.int .i64 (k1 : Int), .bool false]) ∧ Below w.heap.size w w' from HL1.out)
    have HL2 := Lib.hid (show ∀ w, Calls Tryd.prog 12 #[.agg (bsC B), .agg (bsC A)] w fun e w' => e = .returned (.tuple #[.int .i64 (k2 : Int), .bool false]) ∧ Below w.heap.size w w' from HL2.out)
    have hzI : (by_ : Int) = 0 := by omega
    have hne : ((by_ : Int) != 0) = false := by simp [hzI]
    clear hz hzI
    go_enter Tryd.func4, Tryd.ntmps4
    go_upto_region 1 with (fail)
    change Code.wp Tryd.prog _ _ _ (w.alloc (.cells (bsC A) 22))
    generalize hW0 : w.alloc (.cells (bsC A) 22) = W0
    obtain ⟨hb1, hB0⟩ := boxes1 w hW0
    have K1 := Lib.hid hb1; have B0 := Lib.hid hB0
    clear hW0 hb1 hB0
    go_upto_region 2 with (first
      | (refine ld_bs Tryd.underlying22 info16u w.heap.size A HAL.out K1.out (by rfl) _ (by rfl) (by rfl) ?_)
      | (refine sto_bs info16u _ A HAL.out _ (Blk.fresh W0 22 (bsC z16)) (by rw [bsC_size]; exact z16_len) (by rfl) _ _ (by rfl) (by rfl) (by rfl) ?_; intro w1 hw1))
    have K2 := Lib.hid (show Blk w1 W0.heap.size 22 (bsC A) by rw [hw1.out]; exact (Blk.fresh W0 _ _).row _)
    have K11 := Lib.hid (show Blk w1 w.heap.size 22 (bsC A) by rw [hw1.out]; exact (K1.out.more _).far (Nat.ne_of_lt K1.out.lt) _)
    have B1 := Lib.hid (show Below w.heap.size w w1 by rw [hw1.out]; exact below_row (B0.out.alloc B0.out.size _) _ B0.out.size _)
    have o1 : w.heap.size < W0.heap.size := K1.out.lt
    clear hw1 K1 B0
    generalize W0.heap.size = g2 at *
    have cx : w1.cell? ⟨g2, i, none⟩ = some (.int .u8 (x : Int)) := by rw [K2.out.cell, bsC_get A i (by rw [HAL.out]; exact hi16), HGX.out]
    have fx : w1.frozen? ⟨g2, i, none⟩ = false := K2.out.free i
    have K3 := Lib.hid (show Blk (w1.setCell ⟨g2, i, none⟩ (.int .u8 (y : Int))) g2 22 (bsC B) by rw [HBE.out, ← bsC_set]; exact K2.out.put i _)
    have K13 := Lib.hid (show Blk (w1.setCell ⟨g2, i, none⟩ (.int .u8 (y : Int))) w.heap.size 22 (bsC A) from K11.out.away (Nat.ne_of_lt o1) i _)
    have B3 := Lib.hid (show Below w.heap.size w (w1.setCell ⟨g2, i, none⟩ (.int .u8 (y : Int))) from below_put B1.out g2 i (by omega) _)
    clear K2 K11 B1
    go_upto_region 3 with (fail)
    generalize w1.setCell ⟨g2, i, none⟩ (.int .u8 (y : Int)) = w3 at *
    clear cx fx
    go_upto_region 4 with (first
      | (refine ld_bs Tryd.underlying22 info16u w.heap.size A HAL.out K13.out (by rfl) (.tmp 3) (by rfl) (by rfl) ?_)
      | (refine ld_bs Tryd.underlying22 info16u g2 B HBL.out K3.out (by rfl) (.tmp 7) (by rfl) (by rfl) ?_)
      | (go_at_call 12; refine (HL1.out _).mono ?_; rintro e w4 ⟨rfl, hb⟩; have K14 := Lib.hid (K13.out.keep hb K13.out.lt); have K4 := Lib.hid (K3.out.keep hb K3.out.lt); have B4 := Lib.hid (B3.out.trans (hb.mono B3.out.size)); clear hb))
    go_upto_region 5 with (first
      | (refine ld_bs Tryd.underlying22 info16u w.heap.size A HAL.out K14.out (by rfl) (.tmp 3) (by rfl) (by rfl) ?_)
      | (refine ld_bs Tryd.underlying22 info16u g2 B HBL.out K4.out (by rfl) (.tmp 7) (by rfl) (by rfl) ?_)
      | (go_at_call 12; refine (HL2.out _).mono ?_; rintro e w5 ⟨rfl, hb⟩; have B5 := Lib.hid (B4.out.trans (hb.mono B4.out.size)); clear hb))
    go_wp2_with (go_at_call 14; refine (HK.out _ (hT.below B5.out hp)).mono ?_; rintro e w6 ⟨rfl, hb⟩; have B6 := Lib.hid (B5.out.trans (hb.mono B5.out.size)); clear hb)
    go_ret
    exact ⟨rfl, B6.out⟩
  · rw [decide_eq_false hz] at HL1 HL2
    have HL1 := Lib.hid (show ∀ w, Calls Tryd.prog 12 #[.agg (bsC A), .agg (bsC B)] w fun e w' => e = .returned (.tuple #[.int .i64 (k1 : Int), .bool true]) ∧ Below w.heap.size w w' from HL1.out)
    have HL2 := Lib.hid (show ∀ w, Calls Tryd.prog 12 #[.agg (bsC B), .agg (bsC A)] w fun e w' => e = .returned (.tuple #[.int .i64 (k2 : Int), .bool true]) ∧ Below w.heap.size w w' from HL2.out)
    have hne : ((by_ : Int) != 0) = true := by simp; omega
    clear hz
    go_enter Tryd.func4, Tryd.ntmps4
    go_upto_region 1 with (fail)
    change Code.wp Tryd.prog _ _ _ (w.alloc (.cells (bsC A) 22))
    generalize hW0 : w.alloc (.cells (bsC A) 22) = W0
    obtain ⟨hb1, hB0⟩ := boxes1 w hW0
    have K1 := Lib.hid hb1; have B0 := Lib.hid hB0
    clear hW0 hb1 hB0
    go_upto_region 2 with (first
      | (refine ld_bs Tryd.underlying22 info16u w.heap.size A HAL.out K1.out (by rfl) _ (by rfl) (by rfl) ?_)
      | (refine sto_bs info16u _ A HAL.out _ (Blk.fresh W0 22 (bsC z16)) (by rw [bsC_size]; exact z16_len) (by rfl) _ _ (by rfl) (by rfl) (by rfl) ?_; intro w1 hw1))
    have K2 := Lib.hid (show Blk w1 W0.heap.size 22 (bsC A) by rw [hw1.out]; exact (Blk.fresh W0 _ _).row _)
    have K11 := Lib.hid (show Blk w1 w.heap.size 22 (bsC A) by rw [hw1.out]; exact (K1.out.more _).far (Nat.ne_of_lt K1.out.lt) _)
    have B1 := Lib.hid (show Below w.heap.size w w1 by rw [hw1.out]; exact below_row (B0.out.alloc B0.out.size _) _ B0.out.size _)
    have o1 : w.heap.size < W0.heap.size := K1.out.lt
    clear hw1 K1 B0
    generalize W0.heap.size = g2 at *
    have cx : w1.cell? ⟨g2, i, none⟩ = some (.int .u8 (x : Int)) := by rw [K2.out.cell, bsC_get A i (by rw [HAL.out]; exact hi16), HGX.out]
    have fx : w1.frozen? ⟨g2, i, none⟩ = false := K2.out.free i
    have K3 := Lib.hid (show Blk (w1.setCell ⟨g2, i, none⟩ (.int .u8 (y : Int))) g2 22 (bsC B) by rw [HBE.out, ← bsC_set]; exact K2.out.put i _)
    have K13 := Lib.hid (show Blk (w1.setCell ⟨g2, i, none⟩ (.int .u8 (y : Int))) w.heap.size 22 (bsC A) from K11.out.away (Nat.ne_of_lt o1) i _)
    have B3 := Lib.hid (show Below w.heap.size w (w1.setCell ⟨g2, i, none⟩ (.int .u8 (y : Int))) from below_put B1.out g2 i (by omega) _)
    clear K2 K11 B1
    go_upto_region 3 with (fail)
    generalize w1.setCell ⟨g2, i, none⟩ (.int .u8 (y : Int)) = w3 at *
    clear cx fx
    go_upto_region 4 with (first
      | (refine ld_bs Tryd.underlying22 info16u w.heap.size A HAL.out K13.out (by rfl) (.tmp 3) (by rfl) (by rfl) ?_)
      | (refine ld_bs Tryd.underlying22 info16u g2 B HBL.out K3.out (by rfl) (.tmp 7) (by rfl) (by rfl) ?_)
      | (go_at_call 12; refine (HL1.out _).mono ?_; rintro e w4 ⟨rfl, hb⟩; have K14 := Lib.hid (K13.out.keep hb K13.out.lt); have K4 := Lib.hid (K3.out.keep hb K3.out.lt); have B4 := Lib.hid (B3.out.trans (hb.mono B3.out.size)); clear hb))
    go_upto_region 5 with (first
      | (refine ld_bs Tryd.underlying22 info16u w.heap.size A HAL.out K14.out (by rfl) (.tmp 3) (by rfl) (by rfl) ?_)
      | (refine ld_bs Tryd.underlying22 info16u g2 B HBL.out K4.out (by rfl) (.tmp 7) (by rfl) (by rfl) ?_)
      | (go_at_call 12; refine (HL2.out _).mono ?_; rintro e w5 ⟨rfl, hb⟩; have B5 := Lib.hid (B4.out.trans (hb.mono B4.out.size)); clear hb))
    go_wp2_with (go_at_call 14; refine (HK.out _ (hT.below B5.out hp)).mono ?_; rintro e w6 ⟨rfl, hb⟩; have B6 := Lib.hid (B5.out.trans (hb.mono B5.out.size)); clear hb)
    go_ret
    exact ⟨rfl, B6.out⟩

set_option maxRecDepth 100000 in
theorem contract (H : Type) (enc : TypeId × Value → H) (W : World) (base : Nat) (args : Array Value) (ds gs : List (DataW H)) (before : List MemPlace)
    (hval : ∀ (j : Nat) t v, Tryd.f4.params[j]? = some t → args[j]? = some v → Value.okWide Tryd.prog W .any base t v)
    (hW : DataW.Whole enc Tryd.prog Tryd.f4.params.toList Rows.onetimeOrderSpec.vars false W args.toList ds gs before) (hL : laidMetH Tryd.prog Rows.onetimeOrderRow.laid W) (_hs : W.ShapedOpen Tryd.prog) :
    Calls Tryd.prog 4 args W fun e W' => ∃ v, e = .returned v ∧ Rows.onetimeOrderSpec.post enc Tryd.prog Tryd.f4 false true false false W args v W' := by
  have hW' := hW
  obtain ⟨p, q, hA0, hV, rfl, hfz, hnd⟩ := hW
  have hA : DataW.TrodAll enc Tryd.prog W 0 (fun _ => true) true Tryd.f4.params.toList args.toList ds p := hA0
  rw [Tryd.params4] at hA hval
  obtain ⟨v0, vs0, d0, ds0, p0, q0, hargs, rfl, rfl, h0, r0⟩ := trodAll_cons hA
  obtain ⟨v1, vs1, d1, ds1, p1, q1, rfl, rfl, rfl, h1, r1⟩ := trodAll_cons r0
  obtain ⟨v2, vs2, d2, ds2, p2, q2, rfl, rfl, rfl, h2, r2⟩ := trodAll_cons r1
  obtain ⟨rfl, rfl, rfl⟩ := trodAll_nil r2
  obtain rfl : args = #[v0, v1, v2] := by cases args; simp_all
  obtain ⟨rfl, rfl⟩ := trodVars_none hV
  have k0 := h0
  have lt0 : ∀ x ∈ p0, x.block < W.heap.size := by obtain ⟨m, hm⟩ := k0; exact DataW.trod_lt m _ _ _ hm
  obtain ⟨l0, rfl, n0, b0⟩ := arr_open Tryd.underlying22 (by kernel_rfl) (hval 0 22 v0 rfl rfl) h0
  obtain ⟨a1, rfl, rfl, rfl, w1⟩ := open_int Tryd.underlying5 (hval 1 5 v1 rfl rfl) h1
  obtain ⟨a2, rfl, rfl, rfl, w2⟩ := open_int Tryd.underlying5 (hval 2 5 v2 rfl rfl) h2
  clear hA0
  have q1 := bounds_u8 w1
  have q2 := bounds_u8 w2
  obtain ⟨m1, rfl⟩ : ∃ m : Nat, a1 = (m : Int) := ⟨a1.toNat, by omega⟩
  obtain ⟨m2, rfl⟩ : ∃ m : Nat, a2 = (m : Int) := ⟨a2.toNat, by omega⟩
  refine (walk l0 n0 b0 m1 m2 (by omega) (by omega) W (tab hL)).mono fun e W' ⟨he, bel⟩ => ?_
  subst he
  exact ⟨_, rfl, _, _, _, [], _, [], hW', trodAll_mk1 (shut_bool Tryd.underlying4 _), (trodAll_cons_mk (Below.trod laidOut (by kernel_rfl) (of_decide_eq_true (by kernel_rfl)) k0 bel lt0) (trodAll_cons_mk (shut_int Tryd.underlying5 w1) (trodAll_cons_mk (shut_int Tryd.underlying5 w2) trodAll_mk0))), rfl, bel.frame _, fun h => by cases h⟩

theorem laid_met (os : Os) : laidMet Tryd.prog Rows.onetimeOrderRow.laid ((laidWorld os).forCall (fun _ _ => 0) ⟨#[], #[.agg (bsC z16), .int .u8 0, .int .u8 0], []⟩).memory :=
  laidMet_of_run' 8 (by kernel_rfl) (by kernel_rfl)
theorem reads (os : Os) {H : Type} (enc : TypeId × Value → H) : ∃ places, DataW.whole enc Tryd.prog ((laidWorld os).forCall (fun _ _ => 0) ⟨#[], #[.agg (bsC z16), .int .u8 0, .int .u8 0], []⟩).memory Tryd.f4.params.toList Rows.onetimeOrderSpec.vars false (#[.agg (bsC z16), .int .u8 0, .int .u8 0] : Array Value).toList 8 = some ([.agg (z16.map fun z => .lit (.int .u8 z)), .lit (.int .u8 0), .lit (.int .u8 0)], [], places) :=
  ⟨[], by kernel_rfl⟩

set_option maxRecDepth 100000 in
theorem lifted (os : Os) (started : os.Started) (H : Type) (enc : TypeId × Value → H) (F : Stop.Interp) :
    ReturnsInHanded {} Tryd.checked os 4 .any ((OpenSpec.ofChange Rows.onetimeOrderSpec).preRow enc Tryd.prog Tryd.f4 Rows.onetimeOrderRow.domain false Rows.onetimeOrderRow.laid) (((OpenSpec.ofChange Rows.onetimeOrderSpec).at F).post enc Tryd.prog Tryd.f4 false true false false) := by
  obtain ⟨places, hx⟩ := reads os enc
  refine returnsInHanded_of_row (C := Tryd.checked) (s := OpenSpec.ofChange Rows.onetimeOrderSpec) own started (by kernel_rfl) Tryd.func4
    (witness_row_at (enc := enc) (C := Tryd.checked) false (laidWorld os) #[.agg (bsC z16), .int .u8 0, .int .u8 0] rfl (by kernel_rfl) (by kernel_rfl) (by kernel_rfl)
      (OpenSpec.preRow_of_cond 8 hx (by kernel_rfl) (fun k hk => by cases hk) (by kernel_rfl) (laid_met os))) ?_
  intro W base args ds gs before hval hW _ _ _ hL hs _
  exact contract H enc W base args ds gs before hval hW hL hs

theorem said : Rows.OnetimeOrderSaid :=
  OpenClaim.holds_of_cond 4 Tryd.f4 rfl rfl rfl rfl rfl rfl rfl ⟨rfl, rfl, rfl, rfl, rfl⟩ rfl rfl rfl rfl rfl (by kernel_rfl) Tryd.func4 (by kernel_rfl)
    (of_decide_eq_true (by kernel_rfl)) (by unfold Func.isWrapper; first | (rw [if_pos (by decide +kernel)]; kernel_rfl) | (rw [if_neg (by decide +kernel)]; exact ⟨rfl, rfl⟩))
    (fun os started H enc _ F => by rw [OpenClaim.pre_eq_preRow]; exact lifted os started H enc F)

theorem plain (f : FuncId) (fn : Func) (hf : Tryd.pinned.checked.prog.funcNamed "bulletin/bulletinlaw07.OnetimeOrder" = some f) (hfn : Tryd.pinned.checked.prog.funcs[f]? = some fn) :
    false = Tryd.pinned.checked.prog.looks [] ∧ ∀ (j : Nat) t, fn.params[j]? = some t → Tryd.pinned.checked.prog.wantsStandIn t = false := by
  obtain rfl : f = 4 := Option.some.inj ((show Tryd.prog.funcNamed "bulletin/bulletinlaw07.OnetimeOrder" = some 4 by kernel_rfl).symm.trans hf) |>.symm
  obtain rfl : fn = Tryd.f4 := (Option.some.inj (Tryd.func4.symm.trans hfn)).symm
  refine ⟨by kernel_rfl, fun j t ht => ?_⟩
  rw [Tryd.params4] at ht
  have hm : t = 22 ∨ t = 5 := by simpa using Array.mem_of_getElem? ht
  rcases hm with rfl | rfl
  · exact (show Tryd.prog.wantsStandIn 22 = false by kernel_rfl)
  · exact (show Tryd.prog.wantsStandIn 5 = false by kernel_rfl)

end Go.Proofs.YtgfolgmheinbiaaDoorRRR.onetimeOrderLaw
namespace Go.Proofs.YtgfolgmheinbiaaDoorRRR

/-- THE CARD OF OnetimeOrder -/
theorem onetimeOrder_card : Rows.OnetimeOrderCardSaid :=
  Claim7.holds_tied_plain_at .later [] _ _ _ _ onetimeOrderLaw.said (fun _ h => by cases h) (by kernel_rfl) (fun _ h => by cases h) onetimeOrder_row_tie rfl ⟨rfl, rfl⟩ (by kernel_rfl) rfl onetimeOrderLaw.plain (by kernel_rfl)
#print axioms onetimeOrder_card
end Go.Proofs.YtgfolgmheinbiaaDoorRRR
