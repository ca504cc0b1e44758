/- Utf8Pieces: whatever text and bytes come in, the law's call returns true and its arguments read as before; the table of bounds reads as the program's text lays it (the card ties it).
   Conditions: none beyond the row's own. -/
import Derived.Test.YtbjhomihmlijiaaDoorFrame
import Derived.Test.YtbjhomihmlijiaaDoorDecStep
namespace Go.Proofs.YtbjhomihmlijiaaDoor.utf8PiecesLaw
open Go.ChangeShapes Go.WideShapes Go.ChangeAt Go.RowKit
open Go.ChangeMaps (open_string shut_string)

set_option maxRecDepth 20000 in
set_option maxHeartbeats 2000000 in
theorem walk (a : ByteArray) (ha : a.size ≤ maxLen) (v : Value) (l : List Nat) (w : World) (hv : Bytes w v l) (hT : Tab w) :
    Calls Tryd.prog 12 #[.string a, v] w fun e w' => e = .returned (.bool true) ∧ Below w.heap.size w w' := by
  have hp := hT.1
  obtain ⟨c, hc⟩ : ∃ c, c = cutS a 200 := ⟨_, rfl⟩
  have hcs : c.size ≤ 200 := by rw [hc]; exact cutS_size a 200
  obtain ⟨b, hb⟩ : ∃ b : Bool, b = ((((U8.check (bytesOf c) c.size 0).2 : Nat) : Int) == 0) := ⟨_, rfl⟩
  have H1 := Lib.hid (fun w => short_any a 200 w ha c hc)
  have H3 := Lib.hid (fun w hT => known_any w hT)
  have H7 := Lib.hid (fun w hT => valid_any c w hT (by omega) b hb)
  have hb0 := Below.refl w.heap.size w
  clear hc ha
  cases b with
  | false =>
    clear hb hv
    go_enter Tryd.func12, Tryd.ntmps12
    go_wp2_with fail
    refine (H1.out _).mono ?_
    rintro e w0' ⟨rfl, rfl⟩
    go_wp2_with fail
    refine (H3.out _ (hT.below hb0 hp)).mono ?_
    rintro e w1 ⟨rfl, hb1'⟩
    have hb1 := hb0.trans (hb1'.mono hb0.size)
    clear hb1' hb0
    go_wp2_with fail
    refine (H7.out _ (hT.below hb1 hp)).mono ?_
    rintro e w2 ⟨rfl, hb2'⟩
    have hb2 := hb1.trans (hb2'.mono hb1.size)
    clear hb2' hb1
    go_wp2_with fail
    refine (H3.out _ (hT.below hb2 hp)).mono ?_
    rintro e w3 ⟨rfl, hb3'⟩
    have hb3 := hb2.trans (hb3'.mono hb2.size)
    clear hb3' hb2
    go_wp2_with fail
    go_ret
    exact ⟨rfl, hb3⟩
  | true =>
    have hz : (U8.check (bytesOf c) (bytesOf c).length 0).2 = 0 := by
      rw [bytesOf_length]
      have := hb.symm
      simp at this
      omega
    obtain ⟨rs, hok, hrs⟩ := U8.valid_encs (bytesOf c) (bytesOf_lt c) hz
    have hOK := Lib.hid hok; have hRS := Lib.hid hrs
    clear hb hz hok hrs
    have hw0 := w.heap.size
    have hlo := hv.lo
    obtain ⟨hby, x, cap, rfl, _, _, _, hcl⟩ := hlo
    have HCL := Lib.hid hcl
    clear hcl hv
    go_enter Tryd.func12, Tryd.ntmps12
    go_wp2_with fail
    refine (H1.out _).mono ?_
    rintro e w0' ⟨rfl, rfl⟩
    go_wp2_with fail
    refine (H3.out _ (hT.below hb0 hp)).mono ?_
    rintro e w1 ⟨rfl, hb1'⟩
    have hb1 := hb0.trans (hb1'.mono hb0.size)
    clear hb1' hb0
    go_wp2_with fail
    refine (H7.out _ (hT.below hb1 hp)).mono ?_
    rintro e w2 ⟨rfl, hb2'⟩
    have hb2 := hb1.trans (hb2'.mono hb1.size)
    clear hb2' hb1
    go_wp2_with fail
    refine (decNew_any w2).mono ?_
    rintro e w3 ⟨rfl, hw3⟩
    have hd3 : DecAt w3 w2.heap.size (c.extract 0 0) false := by
      rw [hw3, show c.extract 0 0 = ByteArray.empty by simp]
      exact heap_alloc_new w2 _
    have hb3 : Below w.heap.size w w3 := by rw [hw3]; exact hb2.alloc hb2.size _
    obtain ⟨g, hg⟩ : ∃ g, g = w2.heap.size := ⟨_, rfl⟩
    have hgw : w.heap.size ≤ g := by rw [hg]; exact hb2.size
    rw [← hg] at hd3 ⊢
    have HB3 := Lib.hid hb3; have HD3 := Lib.hid hd3
    clear hw3 hg hb2 hb3 hd3
    go_wp2_with fail
    go_loopw [6, 7, 8] (fun A R i wr => ∃ (k j a0 m : Nat), i = .int .i64 k ∧ k ≤ 40 ∧ A = .string (c.extract 0 a0) ∧ R = .string (c.extract m c.size) ∧ Hid (a0 = (U8.encs (rs.take j)).length) ∧ a0 ≤ m ∧ m ≤ c.size ∧ Hid (DecAt wr g (c.extract a0 m) false) ∧ Hid (Below w.heap.size w wr)) (fun _ _ i _ => 40 - (intOf i).toNat)
    case atStart => exact ⟨0, 0, 0, 0, rfl, by omega, by congr 1; simp; rfl, by congr 1; simp, Lib.hid (by simp [U8.encs]), by omega, by omega, HD3, HB3⟩
    case round =>
      clear HB3 HD3
      obtain ⟨k, j, a0, m, rfl, hk, rfl, rfl, ha0, h0, hm, hD, hB⟩ := hrel
      obtain ⟨R, hR⟩ : ∃ R, R = c.extract m c.size := ⟨_, rfl⟩
      have hRs : R.size = c.size - m := by rw [hR]; simp
      obtain ⟨A, hA⟩ : ∃ A, A = c.extract 0 a0 := ⟨_, rfl⟩
      have hAs : A.size = a0 := by rw [hA]; simp; omega
      rw [← hR, ← hA]
      by_cases hgo : k < l.length ∧ k < 40
      · obtain ⟨hkl, hk40⟩ := hgo
        obtain ⟨bb, off, rfl, hbb, hcell0⟩ := HCL.out k hkl
        have hcell : wr.cell? ⟨bb, off + k, none⟩ = some (.int .u8 (l.getD k 0)) := (hB.out.cell (p := ⟨bb, off + k, none⟩) hbb).trans hcell0
        obtain ⟨y, hy⟩ : ∃ y, y = l.getD k 0 := ⟨_, rfl⟩
        have hy256 : y < 256 := by
          rw [hy, List.getD_eq_getElem?_getD, List.getElem?_eq_getElem hkl]
          exact hby _ (List.getElem_mem hkl)
        rw [← hy] at hcell
        obtain ⟨n, hn⟩ : ∃ n, n = min y R.size := ⟨_, rfl⟩
        have hnR : n ≤ R.size := by omega
        have hmin : min (y : Int) (R.size : Int) = (n : Int) := by omega
        obtain ⟨Q, hQ⟩ : ∃ Q, Q = R.extract 0 n := ⟨_, rfl⟩
        have hQ2 : Q = c.extract m (m + n) := by rw [hQ, hR, ByteArray.extract_extract, Nat.add_zero, Nat.min_eq_left (by omega)]
        have hQs : R.extract 0 n = Q := hQ.symm
        have hRr : R.extract n R.size = c.extract (m + n) c.size := by rw [hR, ByteArray.extract_extract]; congr 1; simp; omega
        obtain ⟨R', hR'⟩ : ∃ R', R' = c.extract (m + n) c.size := ⟨_, rfl⟩
        rw [← hR'] at hRr
        obtain ⟨vq, wq, hcv, hbv, hbq⟩ := conv_in wr Q (by rw [hQ2]; simp; omega)
        have hbq2 : Below w.heap.size w wq := hB.out.trans (hbq.mono hB.out.size)
        have hdq := hD.out.below hbq
        rw [hQ2] at hbv
        have HW := Lib.hid (decWrite_piece c (by omega) rs hOK.out hRS.out j a0 m (m + n) ha0.out h0 (by omega) (by omega) wq vq g (hT.below hbq2 hp) hdq hbv)
        have HBQ := Lib.hid hbq2; have HAe := Lib.hid hA; have HRe := Lib.hid hR'; have HYI := Lib.hid hy256
        have hyI : (y : Int) < 256 := by omega
        have hmn : m + n ≤ c.size := by omega
        have hnI : (n : Int) ≤ (R.size : Int) := by omega
        have hR200 : (R.size : Int) ≤ 200 := by omega
        have hA200 : (A.size : Int) ≤ 200 := by omega
        clear hcell0 hy hn hQ hQ2 hbv hbq hbq2 hdq hA hR' hR hB hD hRs hAs
        go_wp2_with fail
        refine HW.out.mono ?_
        rintro e w4 ⟨j1, a1, rfl, hd4, hk4, ha1, q1, q2, _⟩
        obtain ⟨T, hTe⟩ : ∃ T, T = c.extract a0 a1 := ⟨_, rfl⟩
        have hTs : (T.size : Int) ≤ 200 := by rw [hTe]; simp; omega
        have hadd : A ++ T = c.extract 0 a1 := by rw [HAe.out, hTe, ← ByteArray.extract_eq_extract_append_extract a0 (Nat.zero_le _) q1]
        rw [← hTe]
        have HB4 := Lib.hid (HBQ.out.trans (hk4.below hgw HBQ.out.size)); have HD4 := Lib.hid hd4; have HA1 := Lib.hid ha1; have HADD := Lib.hid hadd
        clear hd4 hk4 ha1 hadd hTe
        go_wp2_with fail
        go_region
        go_wp2_with fail
        go_roundw
        case rel => exact ⟨k + 1, j1, a1, m + n, rfl, by omega, by rw [HADD.out], by rw [← HRe.out], HA1, q2, hmn, HD4, Lib.hid HB4.out.drew⟩
        case measure => simp [intOf]; omega
      · have hfull : R = c.extract m c.size := hR
        obtain ⟨vq, wq, hcv, hbv, hbq⟩ := conv_in wr R (by omega)
        have hbq2 : Below w.heap.size w wq := hB.out.trans (hbq.mono hB.out.size)
        have hdq := hD.out.below hbq
        rw [hR] at hbv
        have HW := Lib.hid (decWrite_piece c (by omega) rs hOK.out hRS.out j a0 m c.size ha0.out h0 (by omega) (by omega) wq vq g (hT.below hbq2 hp) hdq hbv)
        have HBQ := Lib.hid hbq2; have HAe := Lib.hid hA
        have hA200 : (A.size : Int) ≤ 200 := by omega
        clear hbv hbq hbq2 hdq hA hR hB hD hfull hRs hAs
        by_cases hkl : k < l.length
        · have hk40 : ¬ k < 40 := fun h => hgo ⟨hkl, h⟩
          clear hgo
          go_wp2_with fail
          refine HW.out.mono ?_
          rintro e w4 ⟨j1, a1, rfl, hd4, hk4, ha1, q1, q2, q3⟩
          obtain rfl := q3 trivial
          obtain ⟨T, hTe⟩ : ∃ T, T = c.extract a0 c.size := ⟨_, rfl⟩
          have hTs : (T.size : Int) ≤ 200 := by rw [hTe]; simp; omega
          have hadd : A ++ T = c := by rw [HAe.out, hTe, ← ByteArray.extract_eq_extract_append_extract a0 (Nat.zero_le _) q1]; simp
          rw [← hTe]
          rw [show c.extract c.size c.size = (⟨#[]⟩ : ByteArray) by simp; rfl] at hd4
          have HB4 := Lib.hid (HBQ.out.trans (hk4.below hgw HBQ.out.size))
          clear hk4 ha1 hTe
          go_wp2_with fail
          refine (close_ok w4 g hd4).mono ?_
          rintro e w5 ⟨rfl, _, hk5⟩
          have HB5 := Lib.hid (HB4.out.trans (hk5.below hgw HB4.out.size))
          clear hk5
          go_wp2_with fail
          go_ret
          exact ⟨rfl, HB5.out⟩
        · clear hgo
          go_wp2_with fail
          refine HW.out.mono ?_
          rintro e w4 ⟨j1, a1, rfl, hd4, hk4, ha1, q1, q2, q3⟩
          obtain rfl := q3 trivial
          obtain ⟨T, hTe⟩ : ∃ T, T = c.extract a0 c.size := ⟨_, rfl⟩
          have hTs : (T.size : Int) ≤ 200 := by rw [hTe]; simp; omega
          have hadd : A ++ T = c := by rw [HAe.out, hTe, ← ByteArray.extract_eq_extract_append_extract a0 (Nat.zero_le _) q1]; simp
          rw [← hTe]
          rw [show c.extract c.size c.size = (⟨#[]⟩ : ByteArray) by simp; rfl] at hd4
          have HB4 := Lib.hid (HBQ.out.trans (hk4.below hgw HBQ.out.size))
          clear hk4 ha1 hTe
          go_wp2_with fail
          refine (close_ok w4 g hd4).mono ?_
          rintro e w5 ⟨rfl, _, hk5⟩
          have HB5 := Lib.hid (HB4.out.trans (hk5.below hgw HB4.out.size))
          clear hk5
          go_wp2_with fail
          go_ret
          exact ⟨rfl, HB5.out⟩

theorem contract (H : Type) (enc : TypeId × Value → H) (W : World) (base : Nat) (args : Array Value) (ds gs : List (DataW H)) (before : List MemPlace)
    (hval : ∀ (j : Nat) t v, Tryd.f12.params[j]? = some t → args[j]? = some v → Value.okWide Tryd.prog W .any base t v)
    (hW : DataW.Whole enc Tryd.prog Tryd.f12.params.toList Rows.utf8PiecesSpec.vars false W args.toList ds gs before) (hL : laidMetH Tryd.prog Rows.utf8PiecesRow.laid W) (_hs : W.ShapedOpen Tryd.prog) :
    Calls Tryd.prog 12 args W fun e W' => ∃ v, e = .returned v ∧ Rows.utf8PiecesSpec.post enc Tryd.prog Tryd.f12 false true false false W args v W' := by
  have hW' := hW
  obtain ⟨p, q, hA0, hV, rfl, hfz, hnd⟩ := hW
  have hA : DataW.TrodAll enc Tryd.prog W 0 (fun _ => true) true Tryd.f12.params.toList args.toList ds p := hA0
  rw [Tryd.params12] at hA hval
  obtain ⟨v0, vs0, d0, ds0, p0, q0, hargs, rfl, rfl, h0, r0⟩ := trodAll_cons hA
  obtain ⟨v1, vs1, d1, ds1, p1, q1, rfl, rfl, rfl, h1, r1⟩ := trodAll_cons r0
  obtain ⟨rfl, rfl, rfl⟩ := trodAll_nil r1
  obtain rfl : args = #[v0, v1] := by cases args; simp_all
  obtain ⟨rfl, rfl⟩ := trodVars_none hV
  obtain ⟨a0, rfl, rfl, rfl, w0⟩ := open_string Tryd.underlying9 (hval 0 9 v0 rfl rfl) h0
  obtain ⟨a1, len1, cap1, rfl⟩ := okWide_slice Tryd.underlying38 (hval 1 38 v1 rfl rfl)
  have k1 := h1
  have lt1 : ∀ x ∈ p1, x.block < W.heap.size := by obtain ⟨m, hm⟩ := k1; exact DataW.trod_lt m _ _ _ hm
  obtain ⟨l1, w1⟩ := bytes_open h1
  clear hA0
  refine (walk a0 w0 _ l1 W w1.1 (tab hL)).mono fun e W' ⟨he, bel⟩ => ?_
  subst he
  exact ⟨_, rfl, _, _, _, [], _, [], hW', trodAll_mk1 (shut_bool Tryd.underlying4 _), (trodAll_cons_mk (shut_string Tryd.underlying9 w0) (trodAll_cons_mk (Below.trod laidOut (by kernel_rfl) (of_decide_eq_true (by kernel_rfl)) k1 bel lt1) trodAll_mk0)), rfl, bel.frame _, fun h => by cases h⟩

theorem laid_met (os : Os) : laidMet Tryd.prog Rows.utf8PiecesRow.laid ((laidWorld os).forCall (fun _ _ => 0) ⟨#[], #[.string ByteArray.empty, .slice none 0 0], []⟩).memory :=
  laidMet_of_run' 8 (by kernel_rfl) (by kernel_rfl)
theorem reads (os : Os) {H : Type} (enc : TypeId × Value → H) : ∃ places, DataW.whole enc Tryd.prog ((laidWorld os).forCall (fun _ _ => 0) ⟨#[], #[.string ByteArray.empty, .slice none 0 0], []⟩).memory Tryd.f12.params.toList Rows.utf8PiecesSpec.vars false (#[.string ByteArray.empty, .slice none 0 0] : Array Value).toList 8 = some ([.lit (.string []), .nil], [], places) :=
  ⟨[], by kernel_rfl⟩

set_option maxRecDepth 100000 in
theorem lifted (os : Os) (started : os.Started) (H : Type) (enc : TypeId × Value → H) (F : Stop.Interp) :
    ReturnsInHanded {} Tryd.checked os 12 .any ((OpenSpec.ofChange Rows.utf8PiecesSpec).preRow enc Tryd.prog Tryd.f12 Rows.utf8PiecesRow.domain false Rows.utf8PiecesRow.laid) (((OpenSpec.ofChange Rows.utf8PiecesSpec).at F).post enc Tryd.prog Tryd.f12 false true false false) := by
  obtain ⟨places, hx⟩ := reads os enc
  refine returnsInHanded_of_row (C := Tryd.checked) (s := OpenSpec.ofChange Rows.utf8PiecesSpec) own started (by kernel_rfl) Tryd.func12
    (witness_row_at (enc := enc) (C := Tryd.checked) false (laidWorld os) #[.string ByteArray.empty, .slice none 0 0] rfl (by kernel_rfl) (by kernel_rfl) (by kernel_rfl)
      (OpenSpec.preRow_of_cond 8 hx (by kernel_rfl) (fun k hk => by cases hk) (by kernel_rfl) (laid_met os))) ?_
  intro W base args ds gs before hval hW _ _ _ hL hs _
  exact contract H enc W base args ds gs before hval hW hL hs

theorem said : Rows.Utf8PiecesSaid :=
  OpenClaim.holds_of_cond 12 Tryd.f12 rfl rfl rfl rfl rfl rfl rfl ⟨rfl, rfl, rfl, rfl, rfl⟩ rfl rfl rfl rfl rfl (by kernel_rfl) Tryd.func12 (by kernel_rfl)
    (of_decide_eq_true (by kernel_rfl)) (by unfold Func.isWrapper; first | (rw [if_pos (by decide +kernel)]; kernel_rfl) | (rw [if_neg (by decide +kernel)]; exact ⟨rfl, rfl⟩))
    (fun os started H enc _ F => by rw [OpenClaim.pre_eq_preRow]; exact lifted os started H enc F)

theorem plain (f : FuncId) (fn : Func) (hf : Tryd.pinned.checked.prog.funcNamed "bulletin/bulletinlaw03.Utf8Pieces" = some f) (hfn : Tryd.pinned.checked.prog.funcs[f]? = some fn) :
    false = Tryd.pinned.checked.prog.looks [] ∧ ∀ (j : Nat) t, fn.params[j]? = some t → Tryd.pinned.checked.prog.wantsStandIn t = false := by
  obtain rfl : f = 12 := Option.some.inj ((show Tryd.prog.funcNamed "bulletin/bulletinlaw03.Utf8Pieces" = some 12 by kernel_rfl).symm.trans hf) |>.symm
  obtain rfl : fn = Tryd.f12 := (Option.some.inj (Tryd.func12.symm.trans hfn)).symm
  refine ⟨by kernel_rfl, fun j t ht => ?_⟩
  rw [Tryd.params12] at ht
  have hm : t = 9 ∨ t = 38 := by simpa using Array.mem_of_getElem? ht
  rcases hm with rfl | rfl
  · exact (show Tryd.prog.wantsStandIn 9 = false by kernel_rfl)
  · exact (show Tryd.prog.wantsStandIn 38 = false by kernel_rfl)

end Go.Proofs.YtbjhomihmlijiaaDoor.utf8PiecesLaw
namespace Go.Proofs.YtbjhomihmlijiaaDoor

/-- THE CARD OF Utf8Pieces -/
theorem utf8Pieces_card : Rows.Utf8PiecesCardSaid :=
  Claim7.holds_tied_plain_at .later [] _ _ _ _ utf8PiecesLaw.said (fun _ h => by cases h) (by kernel_rfl) (fun _ h => by cases h) utf8Pieces_row_tie rfl ⟨rfl, rfl⟩ (by kernel_rfl) rfl utf8PiecesLaw.plain (by kernel_rfl)
#print axioms utf8Pieces_card
end Go.Proofs.YtbjhomihmlijiaaDoor
