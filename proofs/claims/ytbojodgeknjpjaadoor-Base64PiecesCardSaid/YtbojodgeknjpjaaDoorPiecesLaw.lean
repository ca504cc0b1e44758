/- Base64Pieces: whatever slices of bytes come in, the law's call returns true and they read as before; the alphabet's table reads as the program's text lays it (the card ties it).
   Conditions: none beyond the row's own. -/
import Derived.Test.YtbojodgeknjpjaaDoorOpen
import Derived.Test.YtbojodgeknjpjaaDoorPiecesOpen
import Derived.Test.YtbojodgeknjpjaaDoorRefEnc
namespace Go.Proofs.YtbojodgeknjpjaaDoor.piecesLaw
open Go.ChangeShapes Go.WideShapes Go.ChangeAt Go.RowKit
open Go.ChangeMaps (open_string shut_string)

theorem owns_slice {w : World} {base n : Nat} {v : Value} {xs : List Value} (h : w.ownsRow base 5 1 v n xs) : ∃ x cap, v = .slice x n cap := by
  obtain ⟨_, ⟨rfl, rfl⟩ | ⟨g, cap, cur, rfl, _⟩⟩ := h
  · exact ⟨none, 0, rfl⟩
  · exact ⟨_, cap, rfl⟩

theorem owns_bytes {w : World} {base : Nat} {v : Value} {tot : List Nat} (h : w.ownsRow base 5 1 v tot.length (byteVals tot)) (hb : ∀ x ∈ tot, x < 256) : Bytes w v tot := by
  by_cases hv : v = .slice none 0 0
  · obtain ⟨_, ⟨_, h0⟩ | ⟨g, cap, cur, h1, _⟩⟩ := h
    · obtain rfl : tot = [] := List.eq_nil_of_length_eq_zero h0
      rw [hv]
      exact Bytes.nil w
    · rw [hv] at h1; cases h1
  · obtain ⟨g, cap, cur, rfl, _, hrow, hn, hm, hcur⟩ := row_some h hv
    have := row_bytes (tot := tot) hrow hcur hb hn hm tot.length (Nat.le_refl _)
    rwa [List.take_of_length_le (Nat.le_refl _)] at this

theorem owns_kept {g : Nat} {w w' : World} {n : Nat} {v : Value} {xs : List Value} (h : w.ownsRow (g + 1) 5 1 v n xs) (hk : Kept g w w') : w'.ownsRow (g + 1) 5 1 v n xs := by
  obtain ⟨h0, h1 | ⟨b, cap, cur, h1, h2, h3, h4⟩⟩ := h
  · exact ⟨h0, .inl h1⟩
  · exact ⟨h0, .inr ⟨b, cap, cur, h1, h2, by rw [hk.block b (Array.getElem?_eq_some_iff.1 h3).1 (by omega)]; exact h3, h4⟩⟩

theorem pieces_rest (tot l : List Nat) : (tot.drop (tot.length / 3 * 3) ++ l).drop ((tot.length % 3 + l.length) / 3 * 3) = (tot ++ l).drop ((tot.length + l.length) / 3 * 3) := by
  rw [← List.drop_append_of_le_length (by omega), List.drop_drop]
  congr 1
  omega

def encB (l : List Nat) : ByteArray := ⟨(B64.encT l).toArray⟩
theorem encB_add (a b : List Nat) (c : List Nat) (h : B64.encT a ++ B64.encT b = B64.encT c) : encB a ++ encB b = encB c := by
  apply ByteArray.ext
  apply Array.toList_inj.1
  rw [ByteArray.data_append, Array.toList_append]
  exact h
theorem encB_size (a : List Nat) : (encB a).size = (B64.encT a).length := by simp [encB, ByteArray.size]

/-- what stands at the head of a round: the bytes till now, the coder, the text till now -/
structure Till (w : World) (g k : Nat) (tot : List Nat) (r0 r1 : Nat) (va : Value) (wr : World) : Prop where
  coder : CoderAt wr g r0 r1 tot.length false
  b0 : r0 < 256
  b1 : r1 < 256
  rest : [r0, r1].take (tot.length % 3) = tot.drop (tot.length / 3 * 3)
  byte : ∀ x ∈ tot, x < 256
  len : tot.length ≤ 200 * k
  own : wr.ownsRow (g + 1) 5 1 va tot.length (byteVals tot)
  bel : Below w.heap.size w wr
  gw : w.heap.size ≤ g
  gl : g + 1 ≤ wr.heap.size

set_option maxHeartbeats 1000000 in
theorem walk (a : Option Addr) (n cap : Nat) (w : World) (hT : Tab w) (hR : Rowed w a n) (hn : n ≤ maxLen) :
    Calls Tryd.prog 10 #[.slice a n cap] w fun e w' => e = .returned (.bool true) ∧ Below w.heap.size w w' := by
  have hk := known_any w hT
  have HK := Lib.hid hk
  clear hk
  unfold maxLen at hn
  by_cases hl : 30 < n
  · have hl2 : (30 : Int) < (n : Int) := by omega
    go_enter Tryd.func10, Tryd.ntmps10
    go_wp2_with fail
    refine HK.out.mono ?_
    rintro e w1 ⟨rfl, hb1⟩
    go_wp2_with fail
    refine (known_any w1 (hT.below hb1 hT.1)).mono ?_
    rintro e w2 ⟨rfl, hb2⟩
    go_wp2
    go_ret
    exact ⟨rfl, hb1.trans (hb2.mono hb1.size)⟩
  · have hl2 : ¬ (30 : Int) < (n : Int) := by omega
    go_enter Tryd.func10, Tryd.ntmps10
    go_wp2_with fail
    refine HK.out.mono ?_
    rintro e w1 ⟨rfl, hb1⟩
    go_wp2_with fail
    refine (coderNew_any w1).mono ?_
    rintro e w2 ⟨rfl, hw2⟩
    have hst : Till w w1.heap.size 0 [] 0 0 (.slice none 0 0) w2 := by
      rw [hw2]
      exact ⟨heap_alloc_new w1 _, by omega, by omega, rfl, (fun x hx => by cases hx), Nat.zero_le _, ⟨rfl, .inl ⟨rfl, rfl⟩⟩, hb1.alloc hb1.size _, hb1.size, by simp⟩
    obtain ⟨g, hg⟩ : ∃ g, g = w1.heap.size := ⟨_, rfl⟩
    have hpos : 0 < g := by rw [hg]; exact Nat.lt_of_lt_of_le hT.1 hb1.size
    rw [← hg] at hst ⊢
    clear hw2 hg hb1
    go_wp2_with fail
    go_loopw [4, 5, 6] (fun all out i wr => ∃ (k : Nat) (tot : List Nat) (r0 r1 : Nat) (o1 : ByteArray), k ≤ n ∧ i = .int .i64 k ∧ out = .string o1 ∧ Hid (o1 = encB (tot.take (tot.length / 3 * 3))) ∧ Till w g k tot r0 r1 all wr)
      (fun _ _ i _ => n - (intOf i).toNat)
    case atStart => exact ⟨0, [], 0, 0, ByteArray.empty, Nat.zero_le _, rfl, rfl, Lib.hid rfl, hst⟩
    case round =>
      clear hst
      obtain ⟨k, tot, r0, r1, o1, hkn, rfl, rfl, HO1, H⟩ := hrel
      by_cases hlt : k < n
      · obtain ⟨b, off, A, L, C, l, rfl, hbw, hcell, hby, rfl, hnil⟩ := hR k hlt
        have hcr : wr.cell? ⟨b, off + k, none⟩ = some (.slice A l.length C) := by rw [H.bel.cell (p := ⟨b, off + k, none⟩) hbw]; exact hcell
        by_cases h200 : 200 < l.length
        · have h2 : (200 : Int) < (l.length : Int) := by omega
          have HB := Lib.hid H.bel
          clear H
          go_wp2_with fail
          go_ret
          exact ⟨rfl, HB.out⟩
        · have h2 : ¬ (200 : Int) < (l.length : Int) := by omega
          have hlen := H.len
          have hHV : ∀ w', Kept g wr w' → Bytes w' (.slice A l.length C) l := fun w' hk => hby.below (H.bel.trans (hk.below H.gw H.bel.size))
          have hW := write_any wr (.slice A l.length C) l g r0 r1 tot.length (hT.below H.bel hT.1) H.coder H.b0 H.b1 hpos (by omega) hHV (fun c e => by cases e; exact hnil rfl) (tot.drop (tot.length / 3 * 3) ++ l) (by rw [H.rest]) _ rfl
          obtain ⟨s2, hs2⟩ : ∃ s, s = encB ((tot.drop (tot.length / 3 * 3) ++ l).take ((tot.length % 3 + l.length) / 3 * 3)) := ⟨_, rfl⟩
          have hW2 := hW s2 hs2
          obtain ⟨o3, ho3⟩ : ∃ o, o = encB ((tot ++ l).take ((tot ++ l).length / 3 * 3)) := ⟨_, rfl⟩
          have hbt : ∀ x ∈ tot ++ l, x < 256 := fun x hx => (List.mem_append.1 hx).elim (H.byte x) (hby.1 x)
          have hadd : o1 ++ s2 = o3 := by rw [HO1.out, hs2, ho3]; exact encB_add _ _ _ (B64.pieces_step tot l H.byte hby.1)
          have hz3 : o3.size = (tot.length + l.length) / 3 * 4 := by rw [ho3, encB_size, B64.pieces_len _ hbt, List.length_append]
          have hz12 : o1.size + s2.size = o3.size := by rw [← hadd]; simp
          obtain ⟨m, hm⟩ : ∃ m, m = (tot.length + l.length) / 3 := ⟨_, rfl⟩
          have hz3I : (o3.size : Int) = (m : Int) * 4 := by rw [hz3, ← hm]; simp
          have htd : ((tot.length : Int) + (l.length : Int)).tdiv 3 = (m : Int) := by rw [Int.tdiv_eq_ediv_of_nonneg (by omega)]; omega
          have hm2 : (m : Int) ≤ 3000 := by omega
          have hroom : (o1.size : Int) + (s2.size : Int) ≤ 140737488355328 := by omega
          have HH := Lib.hid H; have HW := Lib.hid hW2; have HV := Lib.hid hHV; have HO3 := Lib.hid ho3; have HBT := Lib.hid hbt; have HM := Lib.hid hm
          clear H hW hW2 hHV hs2 ho3 hbt hm hz3 hz12
          go_wp2_with fail
          refine HW.out.mono ?_
          rintro e w3 ⟨rfl, hk3, r0', r1', hc3, h03, h13, hrest3⟩
          have hb3 := HH.out.bel.trans (hk3.below HH.out.gw HH.out.bel.size)
          have hcr3 : w3.cell? ⟨b, off + k, none⟩ = some (.slice A l.length C) := by rw [hb3.cell (p := ⟨b, off + k, none⟩) hbw]; exact hcell
          have HOW := Lib.hid (owns_kept HH.out.own hk3)
          have HV3 := Lib.hid (HV.out w3 hk3)
          have HG3 := Lib.hid (Nat.le_trans HH.out.gl hk3.size)
          have HB3 := Lib.hid hb3; have HC3 := Lib.hid hc3; have HR3 := Lib.hid hrest3
          clear hk3 hb3 hc3 hrest3
          go_wp2_with (first | (at_builtin; go_must (refine wpList_append_bytes w3 rfl (.tmp 45) (.tmp 49) rfl (g + 1) _ tot.length (byteVals tot) rfl HOW.out _ l rfl HV3.out (fun c e => by cases e; exact hnil rfl) (by omega) HG3.out ?_; intro v4 w4 ho4 hg4; obtain ⟨x4, cap4, rfl⟩ := owns_slice ho4; have hb4 := (Below.refl (g + 1) w3).grown hg4 HG3.out (ownBlock_ge HOW.out); have hc4 : CoderAt w4 g r0' r1' (tot.length + l.length) false := (hb4.block g (Nat.lt_succ_self g)).trans HC3.out; have HC4 := Lib.hid hc4; have HB4 := Lib.hid hb4; have HO4 := Lib.hid ho4; clear hc4 hb4 ho4 hg4)) | (go_at_call 26; refine (coderLen_any _ _ _ _ _ _ HC4.out).mono ?_; rintro e w' ⟨rfl, rfl⟩))
          refine ⟨⟨k + 1, tot ++ l, r0', r1', o3, hlt, by go_num, rfl, Lib.hid HO3.out, ?_⟩, by simp [intOf]; omega⟩
          have hll : (tot ++ l).length = tot.length + l.length := List.length_append
          have hbv : byteVals (tot ++ l) = byteVals tot ++ byteVals l := by simp [byteVals]
          exact ⟨by rw [hll]; exact HC4.out, h03, h13, by rw [hll, HR3.out]; exact pieces_rest tot l, HBT.out, by rw [hll]; omega, by rw [hll, hbv]; exact HO4.out, HB3.out.trans (HB4.out.mono (Nat.le_trans HH.out.gw (Nat.le_succ g))), HH.out.gw, Nat.le_trans HG3.out HB4.out.size⟩
      · have hke : k = n := by omega
        subst hke
        obtain ⟨s2, hs2⟩ : ∃ s, s = encB ([r0, r1].take (tot.length % 3)) := ⟨_, rfl⟩
        have hC := close_any wr g r0 r1 tot.length (hT.below H.bel hT.1) H.coder H.b0 H.b1 hpos s2 hs2
        obtain ⟨o3, ho3⟩ : ∃ o, o = encB tot := ⟨_, rfl⟩
        have hadd : o1 ++ s2 = o3 := by
          rw [HO1.out, hs2, H.rest, ho3]
          exact encB_add _ _ _ (B64.pieces_end tot H.byte)
        have hlen := H.len
        have hz3 : o1.size + s2.size = o3.size := by rw [← hadd]; simp
        have hz : o3.size ≤ 100000 := by
          rw [ho3, encB_size, B64.encT_length tot H.byte]
          omega
        have hroom : (o1.size : Int) + (s2.size : Int) ≤ 140737488355328 := by omega
        obtain ⟨xa, ca, rfl⟩ := owns_slice H.own
        have HH := Lib.hid H; have HC := Lib.hid hC; have HO3 := Lib.hid ho3
        clear H hC hs2 ho3 hz3 hz
        go_wp2_with fail
        refine HC.out.mono ?_
        rintro e w3 ⟨rfl, hc3, hk3⟩
        have hb3 := HH.out.bel.trans (hk3.below HH.out.gw HH.out.bel.size)
        have hR := refEnc_any _ tot w3 (owns_bytes (owns_kept HH.out.own hk3) HH.out.byte) (by omega)
        rw [show (⟨(B64.encT tot).toArray⟩ : ByteArray) = o3 from HO3.out.symm] at hR
        have HR := Lib.hid hR; have HB3 := Lib.hid hb3; have HC3 := Lib.hid hc3
        clear hR hb3 hc3 hk3
        go_wp2_with (go_at_call 14; go_must (refine HR.out.mono ?_; rintro e w' ⟨rfl, rfl⟩))
        have hc4 : CoderAt (w3.alloc (.cells #[.int .u8 1] 5)) g r0 r1 tot.length true := CoderAt.keeps HC3.out (Kept.newBelow w3 _)
        have hb4 : Below w.heap.size w (w3.alloc (.cells #[.int .u8 1] 5)) := HB3.out.alloc HB3.out.size _
        have HC4 := Lib.hid hc4; have HB4 := Lib.hid hb4
        clear hc4 hb4
        refine (write_shut _ _ _ _ _ _ HC4.out).mono ?_
        rintro e w' ⟨rfl, rfl⟩
        go_wp2_with fail
        refine (close_shut _ _ _ _ _ HC4.out).mono ?_
        rintro e w' ⟨rfl, rfl⟩
        go_wp2_with (go_at_call 26; go_must (refine (coderLen_any _ _ _ _ _ _ HC4.out).mono ?_; rintro e w' ⟨rfl, rfl⟩))
        go_ret
        exact ⟨rfl, HB4.out⟩

theorem contract (H : Type) (enc : TypeId × Value → H) (W : World) (base : Nat) (args : Array Value) (ds gs : List (DataW H)) (before : List MemPlace)
    (hval : ∀ (j : Nat) t v, Tryd.f10.params[j]? = some t → args[j]? = some v → Value.okWide Tryd.prog W .any base t v)
    (hW : DataW.Whole enc Tryd.prog Tryd.f10.params.toList Rows.base64PiecesSpec.vars false W args.toList ds gs before) (hL : laidMetH Tryd.prog Rows.base64PiecesRow.laid W) :
    Calls Tryd.prog 10 args W fun e W' => ∃ v, e = .returned v ∧ Rows.base64PiecesSpec.post enc Tryd.prog Tryd.f10 false true false false W args v W' := by
  have hW' := hW
  obtain ⟨p, q, hA0, hV, rfl, hfz, hnd⟩ := hW
  have hA : DataW.TrodAll enc Tryd.prog W 0 (fun _ => true) true Tryd.f10.params.toList args.toList ds p := hA0
  rw [Tryd.params10] at hA hval
  obtain ⟨v0, vs0, d0, ds0, p0, q0, hargs, rfl, rfl, h0, r0⟩ := trodAll_cons hA
  obtain ⟨rfl, rfl, rfl⟩ := trodAll_nil r0
  obtain rfl : args = #[v0] := by cases args; simp_all
  obtain ⟨rfl, rfl⟩ := trodVars_none hV
  obtain ⟨a0, len0, cap0, rfl⟩ := okWide_slice Tryd.underlying45 (hval 0 45 v0 rfl rfl)
  have k0 := h0
  have lt0 : ∀ x ∈ p0, x.block < W.heap.size := by obtain ⟨m, hm⟩ := k0; exact DataW.trod_lt m _ _ _ hm
  obtain ⟨w0, m0⟩ := pieces_open h0
  clear hA0
  refine (walk a0 len0 cap0 W (table hL) w0 m0).mono fun e W' ⟨he, bel⟩ => ?_
  subst he
  exact ⟨_, rfl, _, _, _, [], _, [], hW', trodAll_mk1 (shut_bool Tryd.underlying4 _), (trodAll_cons_mk (Below.trod laidOut (by kernel_rfl) (of_decide_eq_true (by kernel_rfl)) k0 bel lt0) trodAll_mk0), rfl, bel.frame _, fun h => by cases h⟩

theorem laid_met (os : Os) : laidMet Tryd.prog Rows.base64PiecesRow.laid ((laidWorld os).forCall (fun _ _ => 0) ⟨#[], #[.slice none 0 0], []⟩).memory :=
  laidMet_of_run' 8 (by kernel_rfl) (by kernel_rfl)
theorem reads (os : Os) {H : Type} (enc : TypeId × Value → H) : ∃ places, DataW.whole enc Tryd.prog ((laidWorld os).forCall (fun _ _ => 0) ⟨#[], #[.slice none 0 0], []⟩).memory Tryd.f10.params.toList Rows.base64PiecesSpec.vars false (#[.slice none 0 0] : Array Value).toList 8 = some ([.nil], [], places) :=
  ⟨[], by kernel_rfl⟩

set_option maxRecDepth 100000 in
theorem lifted (os : Os) (started : os.Started) (H : Type) (enc : TypeId × Value → H) (F : Stop.Interp) :
    ReturnsInHanded {} Tryd.checked os 10 .any ((OpenSpec.ofChange Rows.base64PiecesSpec).preRow enc Tryd.prog Tryd.f10 Rows.base64PiecesRow.domain false Rows.base64PiecesRow.laid) (((OpenSpec.ofChange Rows.base64PiecesSpec).at F).post enc Tryd.prog Tryd.f10 false true false false) := by
  obtain ⟨places, hx⟩ := reads os enc
  refine returnsInHanded_of_row (C := Tryd.checked) (s := OpenSpec.ofChange Rows.base64PiecesSpec) own started (by kernel_rfl) Tryd.func10
    (witness_row_at (enc := enc) (C := Tryd.checked) false (laidWorld os) #[.slice none 0 0] rfl (by kernel_rfl) (by kernel_rfl) (by kernel_rfl)
      (OpenSpec.preRow_of_cond 8 hx (by kernel_rfl) (fun k hk => by cases hk) (by kernel_rfl) (laid_met os))) ?_
  intro W base args ds gs before hval hW _ _ _ hL _ _
  exact contract H enc W base args ds gs before hval hW hL

theorem said : Rows.Base64PiecesSaid :=
  OpenClaim.holds_of_cond 10 Tryd.f10 rfl rfl rfl rfl rfl rfl rfl ⟨rfl, rfl, rfl, rfl, rfl⟩ rfl rfl rfl rfl rfl (by kernel_rfl) Tryd.func10 (by kernel_rfl)
    (of_decide_eq_true (by kernel_rfl)) (by unfold Func.isWrapper; first | (rw [if_pos (by decide +kernel)]; kernel_rfl) | (rw [if_neg (by decide +kernel)]; exact ⟨rfl, rfl⟩))
    (fun os started H enc _ F => by rw [OpenClaim.pre_eq_preRow]; exact lifted os started H enc F)

theorem plain (f : FuncId) (fn : Func) (hf : Tryd.pinned.checked.prog.funcNamed "bulletin/bulletinlaw02.Base64Pieces" = some f) (hfn : Tryd.pinned.checked.prog.funcs[f]? = some fn) :
    false = Tryd.pinned.checked.prog.looks [] ∧ ∀ (j : Nat) t, fn.params[j]? = some t → Tryd.pinned.checked.prog.wantsStandIn t = false := by
  obtain rfl : f = 10 := Option.some.inj ((show Tryd.prog.funcNamed "bulletin/bulletinlaw02.Base64Pieces" = some 10 by kernel_rfl).symm.trans hf) |>.symm
  obtain rfl : fn = Tryd.f10 := (Option.some.inj (Tryd.func10.symm.trans hfn)).symm
  refine ⟨by kernel_rfl, fun j t ht => ?_⟩
  rw [Tryd.params10] at ht
  obtain rfl : t = 45 := by simpa using Array.mem_of_getElem? ht
  exact (show Tryd.prog.wantsStandIn 45 = false by kernel_rfl)

end Go.Proofs.YtbojodgeknjpjaaDoor.piecesLaw
namespace Go.Proofs.YtbojodgeknjpjaaDoor

/-- THE CARD OF Base64Pieces -/
theorem base64Pieces_card : Rows.Base64PiecesCardSaid :=
  Claim7.holds_tied_plain_at .later [] _ _ _ _ piecesLaw.said (fun _ h => by cases h) (by kernel_rfl) (fun _ h => by cases h) base64Pieces_row_tie rfl ⟨rfl, rfl⟩ (by kernel_rfl) rfl piecesLaw.plain (by kernel_rfl)
#print axioms base64Pieces_card
end Go.Proofs.YtbojodgeknjpjaaDoor
