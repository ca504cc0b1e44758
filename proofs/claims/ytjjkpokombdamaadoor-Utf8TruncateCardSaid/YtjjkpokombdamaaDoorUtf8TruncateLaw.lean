/- Utf8Truncate: whatever text and whatever limit come in, the law's call returns true and its arguments read as before; the table of bounds reads as the program's text lays it (the card ties it).
   Conditions: none beyond the row's own. -/
import Derived.Test.YtjjkpokombdamaaDoorFrame
import Derived.Test.YtjjkpokombdamaaDoorTrunc
import Derived.Test.YtjjkpokombdamaaDoorCutEnds
namespace Go.Proofs.YtjjkpokombdamaaDoor.utf8TruncateLaw
open Go.ChangeShapes Go.WideShapes Go.ChangeAt Go.RowKit
open Go.ChangeMaps (open_string shut_string)

theorem int_at {W : World} {base n g cap : Nat} {xs : List Nat} (h : W.ownsRow base 3 1 (.slice (some ⟨g, 0, none⟩) n cap) n (intCells xs)) (k : Nat) (hk : k < xs.length) : W.cell? ⟨g, k, none⟩ = some (.int .i64 xs[k]) := by
  have hc := h.cells (g := g) rfl k (.int .i64 xs[k]) (by simp [intCells, List.getElem?_eq_getElem hk])
  have : (⟨g, 0, none⟩ : Addr).add k = ⟨g, k, none⟩ := by unfold Addr.add; split <;> simp_all
  rwa [this] at hc

set_option maxRecDepth 20000 in
set_option maxHeartbeats 1000000 in
theorem walk (a : ByteArray) (most : Int) (h0 : -9223372036854775808 ≤ most) (h1 : most ≤ 9223372036854775807) (ha : a.size ≤ maxLen) (w : World) (hT : Tab w) :
    Calls Tryd.prog 7 #[.string a, .int .i64 most] w fun e w' => e = .returned (.bool true) ∧ Below w.heap.size w w' := by
  have hp := hT.1
  obtain ⟨c, hc⟩ : ∃ c, c = cutS a 300 := ⟨_, rfl⟩
  have hcs : c.size ≤ 300 := by rw [hc]; exact cutS_size a 300
  obtain ⟨⟨rs, os, at_, e⟩, hall⟩ : ∃ x, U8.allF (bytesOf c) c.size 0 = x := ⟨_, rfl⟩
  have hch := U8.all_check (bytesOf c) (bytesOf_lt c) c.size 0
  rw [hall] at hch
  have HS := Lib.hid (fun w => short_any a 300 w ha c hc)
  have HA := Lib.hid (fun w => refAll_any c w (by omega) rs os at_ e hall)
  have HK := Lib.hid (fun w hT => known_any w hT)
  clear hc ha
  by_cases he : e = 0
  · subst he
    have heB : ((0 : Nat) : Int) = 0 := rfl
    by_cases hm : most < 0
    · have HTR := Lib.hid (fun w hT => truncate_neg c most hm w hT (by omega) at_ hch.symm)
      clear hall hch h0 h1
      go_enter Tryd.func7, Tryd.ntmps7
      go_wp2_with fail
      refine (HS.out _).mono ?_
      rintro e w0' ⟨rfl, rfl⟩
      go_wp2_with fail
      refine (HA.out _).mono ?_
      rintro e w1 ⟨v1, v2, rfl, _, _, _, hb1⟩
      go_wp2_with fail
      refine (HTR.out _ (hT.below hb1 hp)).mono ?_
      rintro e w2 ⟨rfl, hb2'⟩
      have hb2 := hb1.trans (hb2'.mono hb1.size)
      clear hb2' hb1
      go_wp2_with fail
      refine (HK.out _ (hT.below hb2 hp)).mono ?_
      rintro e w3 ⟨rfl, hb3'⟩
      have hb3 := hb2.trans (hb3'.mono hb2.size)
      clear hb3' hb2
      go_wp2_with fail
      go_ret
      exact ⟨rfl, hb3⟩
    · obtain ⟨m, rfl⟩ : ∃ m : Nat, most = (m : Int) := ⟨most.toNat, by omega⟩
      have hall2 := hall
      rw [← bytesOf_length] at hall2
      have hok : (U8.allF (bytesOf c) (bytesOf c).length 0).2.2.2 = 0 := by rw [hall2]
      obtain ⟨g1, g2, g3⟩ := U8.cutAt_good (bytesOf c) (bytesOf_lt c) hok m
      have hz := U8.zero_edge (bytesOf c) (bytesOf_lt c) hok
      obtain ⟨E, hE⟩ : ∃ E, E = U8.cutAt (bytesOf c) m := ⟨_, rfl⟩
      rw [← hE] at g1 g2 g3
      obtain ⟨t, ht⟩ : ∃ t, t = c.extract 0 E := ⟨_, rfl⟩
      have HTR := Lib.hid (fun w hT => truncate_ok c m (by omega) w hT (by omega) at_ hch.symm hz E g1 (by omega) (fun j hj hjm => g3 j hj (by omega)) t ht)
      obtain ⟨L, hL⟩ : ∃ L, L = os ++ [c.size] := ⟨_, rfl⟩
      have hEL : E = U8.lastLe m L := by rw [hE, U8.cutAt, hall2, hL, bytesOf_length]
      obtain ⟨n, hn⟩ : ∃ n, n = L.length := ⟨_, rfl⟩
      have hosl : os.length ≤ 100000000 ∧ n ≤ 1000000000 := by
        have hs := U8.offs_len (bytesOf c) c.size 0
        rw [hall] at hs
        simp only at hs
        have : L.length = os.length + 1 := by rw [hL]; simp
        omega
      have hEs : E ≤ c.size := by
        rcases g1 with h | ⟨h, _⟩
        · rw [bytesOf_length] at h; omega
        · rw [bytesOf_length] at h; omega
      have HL := Lib.hid hL; have HEL := Lib.hid hEL; have HN := Lib.hid hn
      have hnI : (n : Int) ≤ 1000000000 := by omega
      have hmI : ¬ (m : Int) < 0 := by omega
      have hEI : (E : Int) ≤ (c.size : Int) := by omega
      have ht2 : c.extract 0 E = t := ht.symm
      clear hall hall2 hch h0 h1 hok g1 g2 g3 hz hE hL hEL hn ht hm
      go_enter Tryd.func7, Tryd.ntmps7
      go_wp2_with fail
      refine (HS.out _).mono ?_
      rintro e w0' ⟨rfl, rfl⟩
      go_wp2_with fail
      refine (HA.out _).mono ?_
      rintro e w1 ⟨v1, v2, rfl, _, ho2, _, hb1⟩
      have HO := Lib.hid ho2
      clear ho2
      go_wp2_with fail
      refine (HTR.out _ (hT.below hb1 hp)).mono ?_
      rintro e w2 ⟨rfl, hb2'⟩
      have hb2 := hb1.trans (hb2'.mono hb1.size)
      have HO2 := Lib.hid (row_below HO.out hb2')
      clear hb2' hb1
      go_wp2_with fail
      refine (HK.out _ (hT.below hb2 hp)).mono ?_
      rintro e w3 ⟨rfl, hb3'⟩
      have hb3 := hb2.trans (hb3'.mono hb2.size)
      have HO3 := Lib.hid (row_below HO2.out hb3')
      clear hb3' hb2
      have hsz := hb3.size
      have HSZ := Lib.hid (show ∀ o, w.heap.size ≤ (w3.alloc o).heap.size by intro o; simp; omega)
      go_wp2_with (at_builtin; refine wpList_append_int _ rfl (.tmp 47) (.tmp 50) rfl w.heap.size v2 os rfl (HO3.out.alloc _) w3.heap.size 1 c.size rfl (icell _ _) (by omega) (HSZ.out _) ?_; intro v3 w4 ho4 hg4 ha4; obtain ⟨g, cap, rfl⟩ := Joins.ownsRow_form ho4.out (by simp); have hb4 := Lib.hid ((hb3.alloc hsz _).grown hg4.out (HSZ.out _) (fun j hj => (HO3.out.lt j hj).1)); rw [← HL.out, ← HN.out] at ho4 ⊢)
      go_loop [11, 12] (fun en ii => ∃ (k x : Nat), en = .int .i64 x ∧ ii = .int .i64 k ∧ k ≤ n ∧ x = U8.lastLe m (L.take k)) (fun _ ii => n - (intOf ii).toNat)
      case atStart => exact ⟨0, 0, rfl, rfl, Nat.zero_le _, rfl⟩
      case round =>
        obtain ⟨k, x, rfl, rfl, hk, hx⟩ := hrel
        have HX := Lib.hid hx
        clear hx
        by_cases hlt : k < n
        · have hkl : k < L.length := by rw [← HN.out]; exact hlt
          have hcell := int_at ho4.out k hkl
          obtain ⟨o, ho⟩ : ∃ o, L[k] = o := ⟨_, rfl⟩
          rw [ho] at hcell
          have hnext : U8.lastLe m (L.take (k + 1)) = if o ≤ m then o else x := by
            rw [List.take_succ_eq_append_getElem hkl, ho, U8.lastLe_snoc, ← HX.out]
          have HNX := Lib.hid hnext
          clear ho hnext
          by_cases hom : o ≤ m
          · have homI : (o : Int) ≤ (m : Int) := by omega
            have hr := HNX.out
            rw [if_pos hom] at hr
            have HR := Lib.hid hr
            clear hr hom
            go_wp2_with fail
            go_round
            case rel => exact ⟨k + 1, o, rfl, by go_num, hlt, HR.out.symm⟩
            case measure => simp [intOf]; omega
          · have homI : ¬ (o : Int) ≤ (m : Int) := by omega
            have hr := HNX.out
            rw [if_neg hom] at hr
            have HR := Lib.hid hr
            clear hr hom
            go_wp2_with fail
            go_round
            case rel => exact ⟨k + 1, x, rfl, by go_num, hlt, HR.out.symm⟩
            case measure => simp [intOf]; omega
        · have hq : x = E := by rw [HX.out, HEL.out, List.take_of_length_le (by rw [← HN.out]; omega)]
          subst hq
          go_wp2_with fail
          go_ret
          exact ⟨rfl, hb4.out⟩
  · have HTR := Lib.hid (fun w hT => truncate_err c most w hT (by omega) at_ e hch.symm he)
    have hne : ((e : Int) != 0) = true := by simp; omega
    clear hall hch h0 h1 he
    go_enter Tryd.func7, Tryd.ntmps7
    go_wp2_with fail
    refine (HS.out _).mono ?_
    rintro e w0' ⟨rfl, rfl⟩
    go_wp2_with fail
    refine (HA.out _).mono ?_
    rintro e w1 ⟨v1, v2, rfl, _, _, _, hb1⟩
    go_wp2_with fail
    refine (HTR.out _ (hT.below hb1 hp)).mono ?_
    rintro e w2 ⟨rfl, hb2'⟩
    have hb2 := hb1.trans (hb2'.mono hb1.size)
    clear hb2' hb1
    go_wp2_with fail
    refine (HK.out _ (hT.below hb2 hp)).mono ?_
    rintro e w3 ⟨rfl, hb3'⟩
    have hb3 := hb2.trans (hb3'.mono hb2.size)
    clear hb3' hb2
    go_wp2_with fail
    go_ret
    exact ⟨rfl, hb3⟩

theorem contract (H : Type) (enc : TypeId × Value → H) (W : World) (base : Nat) (args : Array Value) (ds gs : List (DataW H)) (before : List MemPlace)
    (hval : ∀ (j : Nat) t v, Tryd.f7.params[j]? = some t → args[j]? = some v → Value.okWide Tryd.prog W .any base t v)
    (hW : DataW.Whole enc Tryd.prog Tryd.f7.params.toList Rows.utf8TruncateSpec.vars false W args.toList ds gs before) (hL : laidMetH Tryd.prog Rows.utf8TruncateRow.laid W) (_hs : W.ShapedOpen Tryd.prog) :
    Calls Tryd.prog 7 args W fun e W' => ∃ v, e = .returned v ∧ Rows.utf8TruncateSpec.post enc Tryd.prog Tryd.f7 false true false false W args v W' := by
  have hW' := hW
  obtain ⟨p, q, hA0, hV, rfl, hfz, hnd⟩ := hW
  have hA : DataW.TrodAll enc Tryd.prog W 0 (fun _ => true) true Tryd.f7.params.toList args.toList ds p := hA0
  rw [Tryd.params7] at hA hval
  obtain ⟨v0, vs0, d0, ds0, p0, q0, hargs, rfl, rfl, h0, r0⟩ := trodAll_cons hA
  obtain ⟨v1, vs1, d1, ds1, p1, q1, rfl, rfl, rfl, h1, r1⟩ := trodAll_cons r0
  obtain ⟨rfl, rfl, rfl⟩ := trodAll_nil r1
  obtain rfl : args = #[v0, v1] := by cases args; simp_all
  obtain ⟨rfl, rfl⟩ := trodVars_none hV
  obtain ⟨a0, rfl, rfl, rfl, w0⟩ := open_string Tryd.underlying9 (hval 0 9 v0 rfl rfl) h0
  obtain ⟨a1, rfl, rfl, rfl, w1⟩ := open_int Tryd.underlying3 (hval 1 3 v1 rfl rfl) h1
  clear hA0
  simp only [List.append_nil] at hW'
  refine (walk a0 a1 (bounds_i64 w1).1 (bounds_i64 w1).2 w0 W (tab hL)).mono fun e W' ⟨he, bel⟩ => ?_
  subst he
  exact ⟨_, rfl, _, _, _, [], [], [], hW', trodAll_mk1 (shut_bool Tryd.underlying4 _), (trodAll_cons_mk (shut_string Tryd.underlying9 w0) (trodAll_cons_mk (shut_int Tryd.underlying3 w1) trodAll_mk0)), rfl, bel.frame _, fun h => by cases h⟩

theorem laid_met (os : Os) : laidMet Tryd.prog Rows.utf8TruncateRow.laid ((laidWorld os).forCall (fun _ _ => 0) ⟨#[], #[.string ByteArray.empty, .int .i64 0], []⟩).memory :=
  laidMet_of_run' 8 (by kernel_rfl) (by kernel_rfl)
theorem reads (os : Os) {H : Type} (enc : TypeId × Value → H) : ∃ places, DataW.whole enc Tryd.prog ((laidWorld os).forCall (fun _ _ => 0) ⟨#[], #[.string ByteArray.empty, .int .i64 0], []⟩).memory Tryd.f7.params.toList Rows.utf8TruncateSpec.vars false (#[.string ByteArray.empty, .int .i64 0] : Array Value).toList 8 = some ([.lit (.string []), .lit (.int .i64 0)], [], places) :=
  ⟨[], by kernel_rfl⟩

set_option maxRecDepth 100000 in
theorem lifted (os : Os) (started : os.Started) (H : Type) (enc : TypeId × Value → H) (F : Stop.Interp) :
    ReturnsInHanded {} Tryd.checked os 7 .any ((OpenSpec.ofChange Rows.utf8TruncateSpec).preRow enc Tryd.prog Tryd.f7 Rows.utf8TruncateRow.domain false Rows.utf8TruncateRow.laid) (((OpenSpec.ofChange Rows.utf8TruncateSpec).at F).post enc Tryd.prog Tryd.f7 false true false false) := by
  obtain ⟨places, hx⟩ := reads os enc
  refine returnsInHanded_of_row (C := Tryd.checked) (s := OpenSpec.ofChange Rows.utf8TruncateSpec) own started (by kernel_rfl) Tryd.func7
    (witness_row_at (enc := enc) (C := Tryd.checked) false (laidWorld os) #[.string ByteArray.empty, .int .i64 0] rfl (by kernel_rfl) (by kernel_rfl) (by kernel_rfl)
      (OpenSpec.preRow_of_cond 8 hx (by kernel_rfl) (fun k hk => by cases hk) (by kernel_rfl) (laid_met os))) ?_
  intro W base args ds gs before hval hW _ _ _ hL hs _
  exact contract H enc W base args ds gs before hval hW hL hs

theorem said : Rows.Utf8TruncateSaid :=
  OpenClaim.holds_of_cond 7 Tryd.f7 rfl rfl rfl rfl rfl rfl rfl ⟨rfl, rfl, rfl, rfl, rfl⟩ rfl rfl rfl rfl rfl (by kernel_rfl) Tryd.func7 (by kernel_rfl)
    (of_decide_eq_true (by kernel_rfl)) (by unfold Func.isWrapper; first | (rw [if_pos (by decide +kernel)]; kernel_rfl) | (rw [if_neg (by decide +kernel)]; exact ⟨rfl, rfl⟩))
    (fun os started H enc _ F => by rw [OpenClaim.pre_eq_preRow]; exact lifted os started H enc F)

theorem plain (f : FuncId) (fn : Func) (hf : Tryd.pinned.checked.prog.funcNamed "bulletin/bulletinlaw03.Utf8Truncate" = some f) (hfn : Tryd.pinned.checked.prog.funcs[f]? = some fn) :
    false = Tryd.pinned.checked.prog.looks [] ∧ ∀ (j : Nat) t, fn.params[j]? = some t → Tryd.pinned.checked.prog.wantsStandIn t = false := by
  obtain rfl : f = 7 := Option.some.inj ((show Tryd.prog.funcNamed "bulletin/bulletinlaw03.Utf8Truncate" = some 7 by kernel_rfl).symm.trans hf) |>.symm
  obtain rfl : fn = Tryd.f7 := (Option.some.inj (Tryd.func7.symm.trans hfn)).symm
  refine ⟨by kernel_rfl, fun j t ht => ?_⟩
  rw [Tryd.params7] at ht
  have hm : t = 9 ∨ t = 3 := by simpa using Array.mem_of_getElem? ht
  rcases hm with rfl | rfl
  · exact (show Tryd.prog.wantsStandIn 9 = false by kernel_rfl)
  · exact (show Tryd.prog.wantsStandIn 3 = false by kernel_rfl)

end Go.Proofs.YtjjkpokombdamaaDoor.utf8TruncateLaw
namespace Go.Proofs.YtjjkpokombdamaaDoor

/-- THE CARD OF Utf8Truncate -/
theorem utf8Truncate_card : Rows.Utf8TruncateCardSaid :=
  Claim7.holds_tied_plain_at .later [] _ _ _ _ utf8TruncateLaw.said (fun _ h => by cases h) (by kernel_rfl) (fun _ h => by cases h) utf8Truncate_row_tie rfl ⟨rfl, rfl⟩ (by kernel_rfl) rfl utf8TruncateLaw.plain (by kernel_rfl)
#print axioms utf8Truncate_card
end Go.Proofs.YtjjkpokombdamaaDoor
