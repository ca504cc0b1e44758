/- MsgidResolves: whatever the text and the list, Resolve answers as the reference does. Conditions: none beyond the row's own. -/
import Derived.Test.YtcpiiafnifkahaaRslvRef
import Derived.Test.YtcpiiafnifkahaaTo
namespace Go.Proofs.Ytcpiiafnifkahaa.msgidResolvesLaw
open Go.ChangeShapes Go.WideShapes Go.ChangeAt Go.RowKit
open Go.ChangeMaps (open_string shut_string)

set_option maxRecDepth 100000 in
set_option maxHeartbeats 2000000 in
theorem walk (s0 : ByteArray) (hs0 : s0.size ≤ maxLen) (a : Option Addr) (len cap : Nat) (ls : List Mid.Id) (w : World) (hv : Ids w (.slice a len cap) ls) (hlen : ls.length = len) :
    Calls Try.prog 10 #[.string s0, .slice a len cap] w fun e w' => e = .returned (.bool true) ∧ Below w.heap.size w w' := by
  obtain ⟨n, hn⟩ : ∃ n, n = min len 40 := ⟨_, rfl⟩
  have hn40 : n ≤ 40 := by omega
  have hnl : n ≤ len := by omega
  have hlc : len ≤ cap := by
    obtain ⟨_, _, h, h1, _⟩ := hv; cases h; omega
  have hcm : cap ≤ maxLen := by
    obtain ⟨_, _, h, _, h2, _⟩ := hv; cases h; omega
  unfold maxLen at hcm hs0
  have hT : Ids w (.slice a n cap) (ls.take n) := hv.take n (by omega)
  have hTl : (ls.take n).length = n := by rw [List.length_take]; omega
  have hmin : min (len : Int) 40 = (n : Int) := by omega
  have hnI : (n : Int) ≤ (len : Int) := by omega
  have hn4 : (n : Int) ≤ 40 := by omega
  have hlI : (len : Int) ≤ (cap : Int) := by omega
  have hcI : (cap : Int) ≤ 9223372036854775807 := by omega
  generalize ls.take n = ms at *
  obtain ⟨m, hm⟩ : ∃ m, m = min s0.size 80 := ⟨_, rfl⟩
  have hminS : min (s0.size : Int) 80 = (m : Int) := by omega
  have hms : (m : Int) ≤ (s0.size : Int) := by omega
  have hsz : (s0.extract 0 m).size ≤ 100000 := by simp; omega
  obtain ⟨⟨y, b⟩, hy⟩ : ∃ x, x = Mid.resolve (s0.extract 0 m).data.toList ms := ⟨_, rfl⟩
  have H1 := Lib.hid (fun W h => resolve_any (s0.extract 0 m) (.slice a n cap) ms W hsz (by omega) h y b hy.symm)
  have H2 := Lib.hid (fun W v h => refResolve_any (s0.extract 0 m) v ms W hsz (by omega) h y b hy.symm)
  have HT := Lib.hid hT
  have HTO := Lib.hid (fun W h => to_any (.slice a n cap) ms W (by omega) h)
  have HK := Lib.hid (fun w => known_any w)
  have hAl : (nI y.1).length = 32 := by rw [nI_len]; exact y.2.1
  have heq := fun w => eq_same (t := 30) Try.underlying30 (nI y.1) hAl w
  rw [encI_arr] at H1 H2
  generalize nI y.1 = A at *
  have HA := Lib.hid hAl
  clear hT hTl hv hlen hn hn40 hnl hlc hcm hy hsz hm hs0 hAl
  go_enter Try.func10, Try.ntmps10
  go_wp2_with fail
  refine (H1.out _ HT.out).mono ?_
  rintro e w1 ⟨rfl, hb1⟩
  have B1 := Lib.hid hb1
  clear hb1
  go_wp2_with (first
    | (refine sto_bs infoId _ A HA.out _ (Blk.fresh w1 _ _) rfl (by rfl) _ _ (by rfl) (by rfl) (by rfl) ?_; intro w2 hw2))
  have L2 := Lib.hid (show Blk w2 w1.heap.size 23 (bsC A) by rw [hw2.out]; exact (Blk.fresh w1 _ _).row _)
  have B2 := Lib.hid (show Below w.heap.size w w2 by rw [hw2.out]; exact below_row (B1.out.alloc B1.out.size _) _ B1.out.size _)
  clear hw2
  generalize w1.heap.size = g at *
  refine (HTO.out _ (HT.out.below B2.out)).mono ?_
  rintro e w3 ⟨v3, rfl, hI3, hb3⟩
  have HI3 := Lib.hid hI3
  have L3 := Lib.hid (L2.out.keep hb3 L2.out.lt)
  have B3 := Lib.hid (B2.out.trans (hb3.mono B2.out.size))
  clear hI3 hb3
  go_wp2_with fail
  refine (H2.out _ _ HI3.out).mono ?_
  rintro e w4 ⟨rfl, hb4⟩
  have L4 := Lib.hid (L3.out.keep hb4 L3.out.lt)
  have B4 := Lib.hid (B3.out.trans (hb4.mono B3.out.size))
  clear hb4
  go_upto_region 6 with (first
    | (refine sto_bs infoRid _ A HA.out _ (Blk.fresh w4 _ _) rfl (by rfl) _ _ (by rfl) (by rfl) (by rfl) ?_; intro w5 hw5))
  have M5 := Lib.hid (show Blk w5 w4.heap.size 30 (bsC A) by rw [hw5.out]; exact (Blk.fresh w4 _ _).row _)
  have L5 := Lib.hid (show Blk w5 g 23 (bsC A) by rw [hw5.out]; exact (L4.out.more _).far (by have := L4.out.lt; omega) _)
  have B5 := Lib.hid (show Below w.heap.size w w5 by rw [hw5.out]; exact below_row (B4.out.alloc B4.out.size _) _ B4.out.size _)
  clear hw5
  generalize w4.heap.size = h at *
  refine (HK.out _).mono ?_
  rintro e w6 ⟨rfl, hb6⟩
  have L6 := Lib.hid (L5.out.keep hb6 L5.out.lt)
  have M6 := Lib.hid (M5.out.keep hb6 M5.out.lt)
  have B6 := Lib.hid (B5.out.trans (hb6.mono B5.out.size))
  clear hb6
  go_wp2_with (first
    | (refine ld_bs_g Try.underlying30 infoRid _ A HA.out M6.out (by rfl) _ (by rfl) (by rfl) ?_)
    | (refine ld_bs_g Try.underlying23 infoId _ A HA.out L6.out (by rfl) _ (by rfl) (by rfl) ?_))
  go_ret
  exact ⟨rfl, B6.out⟩

set_option maxRecDepth 100000 in
theorem contract (H : Type) (enc : TypeId × Value → H) (W : World) (base : Nat) (args : Array Value) (ds gs : List (DataW H)) (before : List MemPlace)
    (hval : ∀ (j : Nat) t v, Try.f10.params[j]? = some t → args[j]? = some v → Value.okWide Try.prog W .any base t v)
    (hW : DataW.Whole enc Try.prog Try.f10.params.toList Rows.msgidResolvesSpec.vars false W args.toList ds gs before) (_hL : laidMetH Try.prog Rows.msgidResolvesRow.laid W) (_hs : W.ShapedOpen Try.prog) :
    Calls Try.prog 10 args W fun e W' => ∃ v, e = .returned v ∧ Rows.msgidResolvesSpec.post enc Try.prog Try.f10 false true false false W args v W' := by
  have hW' := hW
  obtain ⟨p, q, hA0, hV, rfl, hfz, hnd⟩ := hW
  have hA : DataW.TrodAll enc Try.prog W 0 (fun _ => true) true Try.f10.params.toList args.toList ds p := hA0
  rw [Try.params10] at hA hval
  obtain ⟨v0, vs0, d0, ds0, p0, q0, hargs, rfl, rfl, h0, r0⟩ := trodAll_cons hA
  obtain ⟨v1, vs1, d1, ds1, p1, q1, rfl, rfl, rfl, h1, r1⟩ := trodAll_cons r0
  obtain ⟨rfl, rfl, rfl⟩ := trodAll_nil r1
  obtain rfl : args = #[v0, v1] := by cases args; simp_all
  obtain ⟨rfl, rfl⟩ := trodVars_none hV
  obtain ⟨a0, rfl, rfl, rfl, w0⟩ := open_string Try.underlying9 (hval 0 9 v0 rfl rfl) h0
  obtain ⟨a1, len1, cap1, rfl⟩ := okWide_slice Try.underlying41 (hval 1 41 v1 rfl rfl)
  have k1 := h1
  have lt1 : ∀ x ∈ p1, x.block < W.heap.size := by obtain ⟨m, hm⟩ := k1; exact DataW.trod_lt m _ _ _ hm
  obtain ⟨l1, w1, e1⟩ := ids_open h1
  clear hA0
  refine (walk a0 w0 a1 len1 cap1 l1 W w1 e1).mono fun e W' ⟨he, bel⟩ => ?_
  subst he
  exact ⟨_, rfl, _, _, _, [], _, [], hW', trodAll_mk1 (shut_bool Try.underlying4 _), (trodAll_cons_mk (shut_string Try.underlying9 w0) (trodAll_cons_mk (Below.trod laidOut (by kernel_rfl) (of_decide_eq_true (by kernel_rfl)) k1 bel lt1) trodAll_mk0)), rfl, bel.frame _, fun h => by cases h⟩

theorem laid_met (os : Os) : laidMet Try.prog Rows.msgidResolvesRow.laid ((laidWorld os).forCall (fun _ _ => 0) ⟨#[], #[.string ByteArray.empty, .slice none 0 0], []⟩).memory :=
  laidMet_of_run' 8 (by kernel_rfl) (by kernel_rfl)
theorem reads (os : Os) {H : Type} (enc : TypeId × Value → H) : ∃ places, DataW.whole enc Try.prog ((laidWorld os).forCall (fun _ _ => 0) ⟨#[], #[.string ByteArray.empty, .slice none 0 0], []⟩).memory Try.f10.params.toList Rows.msgidResolvesSpec.vars false (#[.string ByteArray.empty, .slice none 0 0] : Array Value).toList 8 = some ([.lit (.string []), .nil], [], places) :=
  ⟨[], by kernel_rfl⟩

set_option maxRecDepth 100000 in
theorem lifted (os : Os) (started : os.Started) (H : Type) (enc : TypeId × Value → H) (F : Stop.Interp) :
    ReturnsInHanded {} Try.checked os 10 .any ((OpenSpec.ofChange Rows.msgidResolvesSpec).preRow enc Try.prog Try.f10 Rows.msgidResolvesRow.domain false Rows.msgidResolvesRow.laid) (((OpenSpec.ofChange Rows.msgidResolvesSpec).at F).post enc Try.prog Try.f10 false true false false) := by
  obtain ⟨places, hx⟩ := reads os enc
  refine returnsInHanded_of_row (C := Try.checked) (s := OpenSpec.ofChange Rows.msgidResolvesSpec) own started (by kernel_rfl) Try.func10
    (witness_row_at (enc := enc) (C := Try.checked) false (laidWorld os) #[.string ByteArray.empty, .slice none 0 0] rfl (by kernel_rfl) (by kernel_rfl) (by kernel_rfl)
      (OpenSpec.preRow_of_cond 8 hx (by kernel_rfl) (fun k hk => by cases hk) (by kernel_rfl) (laid_met os))) ?_
  intro W base args ds gs before hval hW _ _ _ hL hs _
  exact contract H enc W base args ds gs before hval hW hL hs

theorem said : Rows.MsgidResolvesSaid :=
  OpenClaim.holds_of_cond 10 Try.f10 rfl rfl rfl rfl rfl rfl rfl ⟨rfl, rfl, rfl, rfl, rfl⟩ rfl rfl rfl rfl rfl (by kernel_rfl) Try.func10 (by kernel_rfl)
    (of_decide_eq_true (by kernel_rfl)) (by unfold Func.isWrapper; first | (rw [if_pos (by decide +kernel)]; kernel_rfl) | (rw [if_neg (by decide +kernel)]; exact ⟨rfl, rfl⟩))
    (fun os started H enc _ F => by rw [OpenClaim.pre_eq_preRow]; exact lifted os started H enc F)

end Go.Proofs.Ytcpiiafnifkahaa.msgidResolvesLaw
namespace Go.Proofs.Ytcpiiafnifkahaa

/-- THE STATEMENT OF MsgidResolves -/
theorem msgidResolves_said : Rows.MsgidResolvesSaid := msgidResolvesLaw.said
#print axioms msgidResolves_said
end Go.Proofs.Ytcpiiafnifkahaa
