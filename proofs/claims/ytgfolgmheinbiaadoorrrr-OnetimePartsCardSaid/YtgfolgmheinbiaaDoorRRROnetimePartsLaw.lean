/- OnetimeParts: whatever numbers and a value come in, the law's call returns true and its arguments read as before; the table of constants reads as the program's text lays it (the card ties it).
   Conditions: none beyond the row's own. -/
import Derived.Test.YtgfolgmheinbiaaDoorRRRLawB
import Derived.WalkLawsBesides
namespace Go.Proofs.YtgfolgmheinbiaaDoorRRR.onetimePartsLaw
open Go.ChangeShapes Go.WideShapes Go.ChangeAt Go.RowKit
open Go.ChangeMaps (open_string shut_string)

set_option maxRecDepth 100000 in
set_option maxHeartbeats 8000000 in
theorem walk (x0 x1 s0 s1 s2 : Nat) (hx0 : x0 < 65536) (hx1 : x1 < 65536) (h0 : s0 < 256) (h1 : s1 < 256) (h2 : s2 < 256) (v : List Nat) (hv : v.length = 16) (hvb : ∀ x ∈ v, x < 256) (w : World) (hT : Tab w) :
    Calls Tryd.prog 7 #[.agg (ksC .u16 [(x0 : Int), (x1 : Int)]), .agg (ksC .u8 [(s0 : Int), (s1 : Int), (s2 : Int)]), .agg (bsC (nI v))] w fun e w' => e = .returned (.bool true) ∧ Below w.heap.size w w' := by
  have hp := hT.1
  have HK := Lib.hid (fun w hT => known_any w hT)
  obtain ⟨k, hk⟩ : ∃ k, k = x1 % 35 := ⟨_, rfl⟩
  obtain ⟨a, ha⟩ : ∃ a, a = s0 % 16 := ⟨_, rfl⟩
  obtain ⟨b, hb⟩ : ∃ b, b = s1 % 16 := ⟨_, rfl⟩
  obtain ⟨c, hc⟩ : ∃ c, c = s2 % 16 := ⟨_, rfl⟩
  obtain ⟨lo, hlo⟩ : ∃ lo, lo = min (min a b) c := ⟨_, rfl⟩
  obtain ⟨hi, hhi⟩ : ∃ hi, hi = max (max a b) c := ⟨_, rfl⟩
  obtain ⟨mi, hmi⟩ : ∃ mi, mi = a + b + c - lo - hi := ⟨_, rfl⟩
  obtain ⟨n1, hn1⟩ : ∃ n1, mi = lo + n1 := ⟨mi - lo, by omega⟩
  obtain ⟨n2, hn2⟩ : ∃ n2, hi = lo + n1 + n2 := ⟨hi - mi, by omega⟩
  have hhi15 : hi ≤ 15 := by omega
  have hk34 : k ≤ 34 := by omega
  have hxl : x0 ≤ 65535 := by omega
  have vl := S7.adv_len x0 k lo n1 v hv
  have H1 := Lib.hid (fun W hT => Advance_ok x0 k lo n1 v hv hvb hxl hk34 (by omega) W hT)
  have H2 := Lib.hid (fun W hT => Advance_ok x0 k (lo + n1) n2 (S7.adv x0 k lo n1 v) vl (S7.adv_lt x0 k lo n1 v hvb) hxl hk34 (by omega) W hT)
  have H3 := Lib.hid (fun W hT => Advance_ok x0 k lo (n1 + n2) v hv hvb hxl hk34 (by omega) W hT)
  have hadd : S7.adv x0 k lo (n1 + n2) v = S7.adv x0 k (lo + n1) n2 (S7.adv x0 k lo n1 v) := S7.adv_add x0 k lo n1 v n2
  rw [hadd, show lo + (n1 + n2) = hi by omega] at H3
  rw [← hn2, ← hn1] at H2
  rw [← hn1] at H1
  obtain ⟨V, hV⟩ : ∃ V, V = nI (S7.adv x0 k lo n1 v) := ⟨_, rfl⟩
  obtain ⟨Y, hY⟩ : ∃ Y, Y = nI (S7.adv x0 k mi n2 (S7.adv x0 k lo n1 v)) := ⟨_, rfl⟩
  obtain ⟨D, hD⟩ : ∃ D, D = nI v := ⟨_, rfl⟩
  have HV := Lib.hid (show V.length = 16 by rw [hV, nI_len, vl])
  have HY := Lib.hid (show Y.length = 16 by rw [hY, nI_len]; exact S7.adv_len _ _ _ _ _ vl)
  have HD := Lib.hid (show D.length = 16 by rw [hD, nI_len, hv])
  rw [← hn1] at H3
  rw [← hV, ← hD] at H1
  rw [← hV, ← hY] at H2
  rw [← hY, ← hD] at H3
  rw [← hD]
  have heq := fun w => eq_same (t := 22) Tryd.underlying22 Y HY.out w
  have f1 : (if (c : Int) < (if b < a then (b : Int) else (a : Int)) then (c : Int) else (if b < a then (b : Int) else (a : Int))) = (lo : Int) := by
    by_cases h9 : b < a <;> simp only [h9, if_true, if_false] <;> split <;> omega
  have f2 : (if (if a < b then (b : Int) else (a : Int)) < (c : Int) then (c : Int) else (if a < b then (b : Int) else (a : Int))) = (hi : Int) := by
    by_cases h9 : a < b <;> simp only [h9, if_true, if_false] <;> split <;> omega
  have f3 : (a : Int) + (b : Int) + (c : Int) - (lo : Int) - (hi : Int) = (mi : Int) := by omega
  have a15 : (a : Int) ≤ 15 := by omega
  have b15 : (b : Int) ≤ 15 := by omega
  have c15 : (c : Int) ≤ 15 := by omega
  have l15 : (lo : Int) ≤ 15 := by omega
  have h15 : (hi : Int) ≤ 15 := by omega
  have q0 : IntKind.i64.wrap (x0 : Int) = (x0 : Int) := by rw [IntKind.wrap_i64]; omega
  have q1 : IntKind.i64.wrap (x1 : Int) = (x1 : Int) := by rw [IntKind.wrap_i64]; omega
  have q2 : IntKind.i64.wrap (s0 : Int) = (s0 : Int) := by rw [IntKind.wrap_i64]; omega
  have q3 : IntKind.i64.wrap (s1 : Int) = (s1 : Int) := by rw [IntKind.wrap_i64]; omega
  have q4 : IntKind.i64.wrap (s2 : Int) = (s2 : Int) := by rw [IntKind.wrap_i64]; omega
  have t1 : (x1 : Int).tmod 35 = (k : Int) := by rw [Int.tmod_eq_emod_of_nonneg (by omega)]; omega
  have t2 : (s0 : Int).tmod 16 = (a : Int) := by rw [Int.tmod_eq_emod_of_nonneg (by omega)]; omega
  have t3 : (s1 : Int).tmod 16 = (b : Int) := by rw [Int.tmod_eq_emod_of_nonneg (by omega)]; omega
  have t4 : (s2 : Int).tmod 16 = (c : Int) := by rw [Int.tmod_eq_emod_of_nonneg (by omega)]; omega
  have u1 : (x1 : Int) % 35 = (k : Int) := by omega
  have u2 : (s0 : Int) % 16 = (a : Int) := by omega
  have u3 : (s1 : Int) % 16 = (b : Int) := by omega
  have u4 : (s2 : Int) % 16 = (c : Int) := by omega
  have x0I : (x0 : Int) ≤ 65535 := by omega
  have F1 := Lib.hid f1; have F2 := Lib.hid f2; have F3 := Lib.hid f3
  obtain ⟨P, hP⟩ : ∃ P : List Int, P = [(x0 : Int), (x1 : Int)] := ⟨_, rfl⟩
  obtain ⟨R, hR⟩ : ∃ R : List Int, R = [(s0 : Int), (s1 : Int), (s2 : Int)] := ⟨_, rfl⟩
  have p0 := Lib.hid (show (ksC .u16 P)[0]? = some (.int .u16 (x0 : Int)) by rw [hP]; rfl)
  have p1 := Lib.hid (show (ksC .u16 P)[1]? = some (.int .u16 (x1 : Int)) by rw [hP]; rfl)
  have r0 := Lib.hid (show (ksC .u8 R)[0]? = some (.int .u8 (s0 : Int)) by rw [hR]; rfl)
  have r1 := Lib.hid (show (ksC .u8 R)[1]? = some (.int .u8 (s1 : Int)) by rw [hR]; rfl)
  have r2 := Lib.hid (show (ksC .u8 R)[2]? = some (.int .u8 (s2 : Int)) by rw [hR]; rfl)
  rw [← hP, ← hR]
  clear hP hR hV hY hD hv hvb vl hadd hn1 hn2 hmi hlo hhi ha hb hc hk f1 f2 f3
  go_enter Tryd.func7, Tryd.ntmps7
  go_upto_region 1 with (fail)
  change Code.wp Tryd.prog _ _ _ (((w.alloc (.cells (ksC .u16 P) 46)).alloc (.cells (ksC .u8 R) 47)).alloc (.cells (bsC D) 22))
  generalize hW0 : ((w.alloc (.cells (ksC .u16 P) 46)).alloc (.cells (ksC .u8 R) 47)).alloc (.cells (bsC D) 22) = W0
  obtain ⟨hb1, hb2, hb3, hB0⟩ := boxes3 w hW0
  have c1 : ∀ m, (W0.drewN m).cell? ⟨w.heap.size, 0, none⟩ = some (.int .u16 (x0 : Int)) := fun m => by rw [(hb1.draws m).cell]; exact p0.out
  have c2 : ∀ m, (W0.drewN m).cell? ⟨w.heap.size, 1, none⟩ = some (.int .u16 (x1 : Int)) := fun m => by rw [(hb1.draws m).cell]; exact p1.out
  have K0 := Lib.hid hb3; have S0 := Lib.hid hb2; have B0 := Lib.hid hB0
  clear hW0 hb1 hb2 hb3 hB0
  obtain ⟨g5, hg5⟩ : ∃ g5, g5 = w.heap.size + 1 + 1 := ⟨_, rfl⟩
  rw [← hg5] at K0 ⊢
  clear hg5
  go_quiet (fail)
  have K1 := Lib.hid (K0.out.draws nq); have S1 := Lib.hid (S0.out.draws nq); have B1 := Lib.hid (below_draws B0.out nq)
  generalize W0.drewN nq = W1 at *
  clear c1 c2 K0 S0 B0 t1 u1 q1
  have c3 : ∀ m, (W1.drewN m).cell? ⟨w.heap.size + 1, 0, none⟩ = some (.int .u8 (s0 : Int)) := fun m => by rw [(S1.out.draws m).cell]; exact r0.out
  have c4 : ∀ m, (W1.drewN m).cell? ⟨w.heap.size + 1, 1, none⟩ = some (.int .u8 (s1 : Int)) := fun m => by rw [(S1.out.draws m).cell]; exact r1.out
  have c5 : ∀ m, (W1.drewN m).cell? ⟨w.heap.size + 1, 2, none⟩ = some (.int .u8 (s2 : Int)) := fun m => by rw [(S1.out.draws m).cell]; exact r2.out
  go_upto_region 2 with (fail)
  go_quiet (fail)
  have K2 := Lib.hid (K1.out.draws nq); have B2 := Lib.hid (below_draws B1.out nq)
  generalize W1.drewN nq = w2 at *
  clear c3 c4 c5 K1 S1 B1 t2 t3 t4 u2 u3 u4 q2 q3 q4
  go_upto_region 4 with (fail)
  simp only [F1.out, F2.out, F3.out]
  go_upto_region 5 with (first
    | (refine ld_bs Tryd.underlying22 info16u _ D HD.out K2.out (by rfl) _ (by rfl) (by rfl) ?_)
    | (go_at_call 21; refine (H1.out _ (hT.below B2.out hp)).mono ?_; rintro e w3 ⟨rfl, hb⟩; have K3 := Lib.hid (K2.out.keep hb K2.out.lt); have B3 := Lib.hid (B2.out.trans (hb.mono B2.out.size)); clear hb)
    | (refine sto_bs info16u _ V HV.out _ (Blk.fresh w3 22 (bsC z16)) (by rw [bsC_size]; exact z16_len) (by rfl) _ _ (by rfl) (by rfl) (by rfl) ?_; intro w4 hw))
  have K4 := Lib.hid (show Blk w4 _ _ _ by rw [hw.out]; exact (K3.out.more _).far (Nat.ne_of_lt K3.out.lt) _)
  have X4 := Lib.hid (show Blk w4 w3.heap.size 22 (bsC V) by rw [hw.out]; exact (Blk.fresh w3 _ _).row _)
  have B4 := Lib.hid (show Below w.heap.size w w4 by rw [hw.out]; exact below_row (B3.out.alloc B3.out.size _) _ B3.out.size _)
  clear hw
  generalize w3.heap.size = gX at *
  go_upto_region 6 with (first
    | (refine ld_bs Tryd.underlying22 info16u _ V HV.out X4.out (by rfl) _ (by rfl) (by rfl) ?_)
    | (go_at_call 21; refine (H2.out _ (hT.below B4.out hp)).mono ?_; rintro e w5 ⟨rfl, hb⟩; have K5 := Lib.hid (K4.out.keep hb K4.out.lt); have B5 := Lib.hid (B4.out.trans (hb.mono B4.out.size)); clear hb)
    | (refine sto_bs info16u _ Y HY.out _ (Blk.fresh w5 22 (bsC z16)) (by rw [bsC_size]; exact z16_len) (by rfl) _ _ (by rfl) (by rfl) (by rfl) ?_; intro w6 hw))
  have K6 := Lib.hid (show Blk w6 _ _ _ by rw [hw.out]; exact (K5.out.more _).far (Nat.ne_of_lt K5.out.lt) _)
  have Y6 := Lib.hid (show Blk w6 w5.heap.size 22 (bsC Y) by rw [hw.out]; exact (Blk.fresh w5 _ _).row _)
  have B6 := Lib.hid (show Below w.heap.size w w6 by rw [hw.out]; exact below_row (B5.out.alloc B5.out.size _) _ B5.out.size _)
  clear hw
  generalize w5.heap.size = gY at *
  go_upto_region 7 with (first
    | (refine ld_bs Tryd.underlying22 info16u _ D HD.out K6.out (by rfl) _ (by rfl) (by rfl) ?_)
    | (go_at_call 21; refine (H3.out _ (hT.below B6.out hp)).mono ?_; rintro e w7 ⟨rfl, hb⟩; have Y7 := Lib.hid (Y6.out.keep hb Y6.out.lt); have B7 := Lib.hid (B6.out.trans (hb.mono B6.out.size)); clear hb)
    | (refine sto_bs info16u _ Y HY.out _ (Blk.fresh w7 22 (bsC z16)) (by rw [bsC_size]; exact z16_len) (by rfl) _ _ (by rfl) (by rfl) (by rfl) ?_; intro w8 hw))
  have Y8 := Lib.hid (show Blk w8 _ _ _ by rw [hw.out]; exact (Y7.out.more _).far (Nat.ne_of_lt Y7.out.lt) _)
  have Z8 := Lib.hid (show Blk w8 w7.heap.size 22 (bsC Y) by rw [hw.out]; exact (Blk.fresh w7 _ _).row _)
  have B8 := Lib.hid (show Below w.heap.size w w8 by rw [hw.out]; exact below_row (B7.out.alloc B7.out.size _) _ B7.out.size _)
  clear hw
  generalize w7.heap.size = gZ at *
  go_wp2_with (first
    | (go_at_call 14; refine (HK.out _ (hT.below B8.out hp)).mono ?_; rintro e w9 ⟨rfl, hb⟩; have Y9 := Lib.hid (Y8.out.keep hb Y8.out.lt); have Z9 := Lib.hid (Z8.out.keep hb Z8.out.lt); have B9 := Lib.hid (B8.out.trans (hb.mono B8.out.size)); clear hb)
    | (refine ld_bs_g Tryd.underlying22 info16u _ Y HY.out Y9.out (by rfl) _ (by rfl) (by rfl) ?_)
    | (refine ld_bs_g Tryd.underlying22 info16u _ Y HY.out Z9.out (by rfl) _ (by rfl) (by rfl) ?_))
  go_ret
  exact ⟨rfl, B9.out⟩
theorem two_of {l : List Int} (h : l.length = 2) : ∃ a b, l = [a, b] := by
  match l, h with
  | [a, b], _ => exact ⟨a, b, rfl⟩
theorem three_of {l : List Int} (h : l.length = 3) : ∃ a b c, l = [a, b, c] := by
  match l, h with
  | [a, b, c], _ => exact ⟨a, b, c, rfl⟩

set_option maxRecDepth 100000 in
theorem contract (H : Type) (enc : TypeId × Value → H) (W : World) (base : Nat) (args : Array Value) (ds gs : List (DataW H)) (before : List MemPlace)
    (hval : ∀ (j : Nat) t v, Tryd.f7.params[j]? = some t → args[j]? = some v → Value.okWide Tryd.prog W .any base t v)
    (hW : DataW.Whole enc Tryd.prog Tryd.f7.params.toList Rows.onetimePartsSpec.vars false W args.toList ds gs before) (hL : laidMetH Tryd.prog Rows.onetimePartsRow.laid W) (_hs : W.ShapedOpen Tryd.prog) :
    Calls Tryd.prog 7 args W fun e W' => ∃ v, e = .returned v ∧ Rows.onetimePartsSpec.post enc Tryd.prog Tryd.f7 false true false false W args v W' := by
  have hW' := hW
  obtain ⟨p, q, hA0, hV, rfl, hfz, hnd⟩ := hW
  have hA : DataW.TrodAll enc Tryd.prog W 0 (fun _ => true) true Tryd.f7.params.toList args.toList ds p := hA0
  rw [Tryd.params7] at hA hval
  obtain ⟨v0, vs0, d0, ds0, p0, q0, hargs, rfl, rfl, h0, r0⟩ := trodAll_cons hA
  obtain ⟨v1, vs1, d1, ds1, p1, q1, rfl, rfl, rfl, h1, r1⟩ := trodAll_cons r0
  obtain ⟨v2, vs2, d2, ds2, p2, q2, rfl, rfl, rfl, h2, r2⟩ := trodAll_cons r1
  obtain ⟨rfl, rfl, rfl⟩ := trodAll_nil r2
  obtain rfl : args = #[v0, v1, v2] := by cases args; simp_all
  obtain ⟨rfl, rfl⟩ := trodVars_none hV
  have k0 := h0
  have lt0 : ∀ x ∈ p0, x.block < W.heap.size := by obtain ⟨m, hm⟩ := k0; exact DataW.trod_lt m _ _ _ hm
  obtain ⟨l0, rfl, n0, b0⟩ := ints_open Tryd.underlying46 Tryd.underlying45 (by kernel_rfl) (by kernel_rfl) (hval 0 46 v0 rfl rfl) h0
  have k1 := h1
  have lt1 : ∀ x ∈ p1, x.block < W.heap.size := by obtain ⟨m, hm⟩ := k1; exact DataW.trod_lt m _ _ _ hm
  obtain ⟨l1, rfl, n1, b1⟩ := ints_open Tryd.underlying47 Tryd.underlying5 (by kernel_rfl) (by kernel_rfl) (hval 1 47 v1 rfl rfl) h1
  have k2 := h2
  have lt2 : ∀ x ∈ p2, x.block < W.heap.size := by obtain ⟨m, hm⟩ := k2; exact DataW.trod_lt m _ _ _ hm
  obtain ⟨l2, rfl, n2, b2⟩ := arr_open Tryd.underlying22 (by kernel_rfl) (hval 2 22 v2 rfl rfl) h2
  clear hA0
  obtain ⟨x0, y0, rfl⟩ := two_of n0
  obtain ⟨x1, y1, z1, rfl⟩ := three_of n1
  have q1 := bounds_u16 (b0 x0 (by simp))
  have q2 := bounds_u16 (b0 y0 (by simp))
  have q3 := bounds_u8 (b1 x1 (by simp))
  have q4 := bounds_u8 (b1 y1 (by simp))
  have q5 := bounds_u8 (b1 z1 (by simp))
  obtain ⟨m1, rfl⟩ : ∃ m : Nat, x0 = (m : Int) := ⟨x0.toNat, by omega⟩
  obtain ⟨m2, rfl⟩ : ∃ m : Nat, y0 = (m : Int) := ⟨y0.toNat, by omega⟩
  obtain ⟨m3, rfl⟩ : ∃ m : Nat, x1 = (m : Int) := ⟨x1.toNat, by omega⟩
  obtain ⟨m4, rfl⟩ : ∃ m : Nat, y1 = (m : Int) := ⟨y1.toNat, by omega⟩
  obtain ⟨m5, rfl⟩ : ∃ m : Nat, z1 = (m : Int) := ⟨z1.toNat, by omega⟩
  refine (walk m1 m2 m3 m4 m5 (by omega) (by omega) (by omega) (by omega) (by omega) l2 n2 b2 W (tab hL)).mono fun e W' ⟨he, bel⟩ => ?_
  subst he
  exact ⟨_, rfl, _, _, _, [], _, [], hW', trodAll_mk1 (shut_bool Tryd.underlying4 _), (trodAll_cons_mk (Below.trod laidOut (by kernel_rfl) (of_decide_eq_true (by kernel_rfl)) k0 bel lt0) (trodAll_cons_mk (Below.trod laidOut (by kernel_rfl) (of_decide_eq_true (by kernel_rfl)) k1 bel lt1) (trodAll_cons_mk (Below.trod laidOut (by kernel_rfl) (of_decide_eq_true (by kernel_rfl)) k2 bel lt2) trodAll_mk0))), rfl, bel.frame _, fun h => by cases h⟩

theorem laid_met (os : Os) : laidMet Tryd.prog Rows.onetimePartsRow.laid ((laidWorld os).forCall (fun _ _ => 0) ⟨#[], #[.agg (ksC .u16 [0, 0]), .agg (ksC .u8 [0, 0, 0]), .agg (bsC z16)], []⟩).memory :=
  laidMet_of_run' 8 (by kernel_rfl) (by kernel_rfl)
theorem reads (os : Os) {H : Type} (enc : TypeId × Value → H) : ∃ places, DataW.whole enc Tryd.prog ((laidWorld os).forCall (fun _ _ => 0) ⟨#[], #[.agg (ksC .u16 [0, 0]), .agg (ksC .u8 [0, 0, 0]), .agg (bsC z16)], []⟩).memory Tryd.f7.params.toList Rows.onetimePartsSpec.vars false (#[.agg (ksC .u16 [0, 0]), .agg (ksC .u8 [0, 0, 0]), .agg (bsC z16)] : Array Value).toList 8 = some ([.agg ([0, 0].map fun z => .lit (.int .u16 z)), .agg ([0, 0, 0].map fun z => .lit (.int .u8 z)), .agg (z16.map fun z => .lit (.int .u8 z))], [], places) :=
  ⟨[], by kernel_rfl⟩

set_option maxRecDepth 100000 in
theorem lifted (os : Os) (started : os.Started) (H : Type) (enc : TypeId × Value → H) (F : Stop.Interp) :
    ReturnsInHanded {} Tryd.checked os 7 .any ((OpenSpec.ofChange Rows.onetimePartsSpec).preRow enc Tryd.prog Tryd.f7 Rows.onetimePartsRow.domain false Rows.onetimePartsRow.laid) (((OpenSpec.ofChange Rows.onetimePartsSpec).at F).post enc Tryd.prog Tryd.f7 false true false false) := by
  obtain ⟨places, hx⟩ := reads os enc
  refine returnsInHanded_of_row (C := Tryd.checked) (s := OpenSpec.ofChange Rows.onetimePartsSpec) own started (by kernel_rfl) Tryd.func7
    (witness_row_at (enc := enc) (C := Tryd.checked) false (laidWorld os) #[.agg (ksC .u16 [0, 0]), .agg (ksC .u8 [0, 0, 0]), .agg (bsC z16)] rfl (by kernel_rfl) (by kernel_rfl) (by kernel_rfl)
      (OpenSpec.preRow_of_cond 8 hx (by kernel_rfl) (fun k hk => by cases hk) (by kernel_rfl) (laid_met os))) ?_
  intro W base args ds gs before hval hW _ _ _ hL hs _
  exact contract H enc W base args ds gs before hval hW hL hs

theorem said : Rows.OnetimePartsSaid :=
  OpenClaim.holds_of_cond 7 Tryd.f7 rfl rfl rfl rfl rfl rfl rfl ⟨rfl, rfl, rfl, rfl, rfl⟩ rfl rfl rfl rfl rfl (by kernel_rfl) Tryd.func7 (by kernel_rfl)
    (of_decide_eq_true (by kernel_rfl)) (by unfold Func.isWrapper; first | (rw [if_pos (by decide +kernel)]; kernel_rfl) | (rw [if_neg (by decide +kernel)]; exact ⟨rfl, rfl⟩))
    (fun os started H enc _ F => by rw [OpenClaim.pre_eq_preRow]; exact lifted os started H enc F)

theorem plain (f : FuncId) (fn : Func) (hf : Tryd.pinned.checked.prog.funcNamed "bulletin/bulletinlaw07.OnetimeParts" = some f) (hfn : Tryd.pinned.checked.prog.funcs[f]? = some fn) :
    false = Tryd.pinned.checked.prog.looks [] ∧ ∀ (j : Nat) t, fn.params[j]? = some t → Tryd.pinned.checked.prog.wantsStandIn t = false := by
  obtain rfl : f = 7 := Option.some.inj ((show Tryd.prog.funcNamed "bulletin/bulletinlaw07.OnetimeParts" = some 7 by kernel_rfl).symm.trans hf) |>.symm
  obtain rfl : fn = Tryd.f7 := (Option.some.inj (Tryd.func7.symm.trans hfn)).symm
  refine ⟨by kernel_rfl, fun j t ht => ?_⟩
  rw [Tryd.params7] at ht
  have hm : t = 46 ∨ t = 47 ∨ t = 22 := by simpa using Array.mem_of_getElem? ht
  rcases hm with rfl | rfl | rfl
  · exact (show Tryd.prog.wantsStandIn 46 = false by kernel_rfl)
  · exact (show Tryd.prog.wantsStandIn 47 = false by kernel_rfl)
  · exact (show Tryd.prog.wantsStandIn 22 = false by kernel_rfl)

end Go.Proofs.YtgfolgmheinbiaaDoorRRR.onetimePartsLaw
namespace Go.Proofs.YtgfolgmheinbiaaDoorRRR

/-- THE CARD OF OnetimeParts -/
theorem onetimeParts_card : Rows.OnetimePartsCardSaid :=
  Claim7.holds_tied_plain_at .later [] _ _ _ _ onetimePartsLaw.said (fun _ h => by cases h) (by kernel_rfl) (fun _ h => by cases h) onetimeParts_row_tie rfl ⟨rfl, rfl⟩ (by kernel_rfl) rfl onetimePartsLaw.plain (by kernel_rfl)
#print axioms onetimeParts_card
end Go.Proofs.YtgfolgmheinbiaaDoorRRR
