/- Utf8Decoder: whatever pieces and bools come in, the law's call returns true and its arguments read as before; the table of bounds reads as the program's text lays it (the card ties it).
   Conditions: none beyond the row's own. -/
import Derived.Test.YtbjhomihmlijiaaDoorFrame
import Derived.Test.YtbjhomihmlijiaaDoorDecAll
import Derived.Test.YtbjhomihmlijiaaDoorPieces
import Derived.Test.YtbjhomihmlijiaaDoorBools
import Derived.Test.YtbjhomihmlijiaaDoorCutAll
namespace Go.Proofs.YtbjhomihmlijiaaDoor.utf8DecoderLaw
open Go.ChangeShapes Go.WideShapes Go.ChangeAt Go.RowKit
open Go.ChangeMaps (open_string shut_string)

set_option maxRecDepth 20000 in
set_option maxHeartbeats 4000000 in
theorem walk (A : Option Addr) (n cap : Nat) (B : Option Addr) (nc capc : Nat) (w : World) (hR : Rowed w A n) (hC : Bools w B nc) (hT : Tab w) :
    Calls Tryd.prog 11 #[.slice A n cap, .slice B nc capc] w fun e w' => e = .returned (.bool true) ∧ Below w.heap.size w w' := by
  have hp := hT.1
  have H3 := Lib.hid (fun w hT => known_any w hT)
  have hb0 := Below.refl w.heap.size w
  have HR := Lib.hid hR; have HC := Lib.hid hC
  clear hR hC
  go_enter Tryd.func11, Tryd.ntmps11
  go_wp2_with fail
  refine (decWrite_nil _ _).mono ?_
  rintro e w0' ⟨rfl, rfl⟩
  have hb1 := hb0.alloc (Nat.le_refl _) (.cells #[.int .u8 65] 5)
  clear hb0
  go_wp2_with fail
  refine (H3.out _ (hT.below hb1 hp)).mono ?_
  rintro e w2 ⟨rfl, hb2'⟩
  have hb2 := hb1.trans (hb2'.mono hb1.size)
  clear hb2' hb1
  go_wp2_with fail
  refine (pending_nil _).mono ?_
  rintro e w2' ⟨rfl, rfl⟩
  go_wp2_with fail
  refine (close_nil _).mono ?_
  rintro e w2' ⟨rfl, rfl⟩
  go_wp2_with fail
  refine (decNew_any w2).mono ?_
  rintro e w3 ⟨rfl, hw3⟩
  have hd3 : DecAt w3 w2.heap.size ⟨#[]⟩ false := by
    rw [hw3]
    exact heap_alloc_new w2 _
  have hb3 : Below w.heap.size w w3 := by rw [hw3]; exact hb2.alloc hb2.size _
  obtain ⟨g, hg⟩ : ∃ g, g = w2.heap.size := ⟨_, rfl⟩
  have hgw : w.heap.size ≤ g := by rw [hg]; exact hb2.size
  rw [← hg] at hd3 ⊢
  have HB3 := Lib.hid hb3; have HD3 := Lib.hid hd3
  clear hw3 hg hb2 hb3 hd3
  go_wp2_with fail
  go_loopw [9, 10, 11] (fun P C i wr => ∃ (k : Nat) (p : ByteArray) (c : Bool), i = .int .i64 k ∧ k ≤ 12 ∧ P = .string p ∧ C = .bool c ∧ p.size ≤ 40 * k ∧ Hid (DecAt wr g p c) ∧ Hid (Below w.heap.size w wr)) (fun _ _ i _ => 12 - (intOf i).toNat)
  case atStart => exact ⟨0, ⟨#[]⟩, false, rfl, by omega, rfl, rfl, Nat.le_refl _, HD3, HB3⟩
  case round =>
    clear HB3 HD3
    obtain ⟨k, p, c, rfl, hk, rfl, rfl, hps, hD, hB⟩ := hrel
    by_cases hkn : k < n
    · by_cases hk12 : k < 12
      · obtain ⟨bb, off, A1, L, C1, l, rfl, hbb, hcell0, hby0, rfl⟩ := HR.out k hkn
        have hcell : wr.cell? ⟨bb, off + k, none⟩ = some (.slice A1 l.length C1) := (hB.out.cell (p := ⟨bb, off + k, none⟩) hbb).trans hcell0
        have hby := hby0.below hB.out
        have hcellA : (wr.alloc (.cells #[] 5)).drew.cell? ⟨bb, off + k, none⟩ = some (.slice A1 l.length C1) := (((Below.refl _ wr).alloc (Nat.le_refl _) (.cells #[] 5)).cell (p := ⟨bb, off + k, none⟩) (Nat.lt_of_lt_of_le hbb hB.out.size)).trans hcell
        have hcellB : (wr.alloc (.cells #[] 5)).cell? ⟨bb, off + k, none⟩ = some (.slice A1 l.length C1) := hcellA
        obtain ⟨q, hq⟩ : ∃ q, q = min l.length 40 := ⟨_, rfl⟩
        have hmin : min (l.length : Int) 40 = (q : Int) := by omega
        have hLC : l.length ≤ C1 := by obtain ⟨_, y, cc, e, h1, _⟩ := hby; cases e; exact h1
        have hqC : (q : Int) ≤ (C1 : Int) := by omega
        have hqC2 : q ≤ C1 := by omega
        have htk := hby.take q (by omega)
        obtain ⟨l2, hl2⟩ : ∃ l2, l2 = l.take q := ⟨_, rfl⟩
        have hl2s : l2.length ≤ 40 := by rw [hl2]; simp; omega
        rw [← hl2] at htk
        have hl2b : ∀ x ∈ l2, x < 256 := by rw [hl2]; exact fun x hx => hby.1 x (List.mem_of_mem_take hx)
        obtain ⟨x, hx⟩ : ∃ x, x = p ++ strB l2 := ⟨_, rfl⟩
        have hxs : x.size = p.size + l2.length := by rw [hx, ByteArray.size_append, strB_size]
        obtain ⟨⟨a, e0⟩, hch⟩ : ∃ z, U8.check (bytesOf x) x.size 0 = z := ⟨_, rfl⟩
        have hax : a ≤ x.size := by
          have := U8.check_le (bytesOf x) x.size 0 (Nat.zero_le _)
          rw [hch, bytesOf_length] at this
          exact this
        obtain ⟨t, ht⟩ : ∃ t, t = if e0 = 0 then x else if e0 = 23 then x.extract 0 a else ⟨#[]⟩ := ⟨_, rfl⟩
        obtain ⟨r, hr⟩ : ∃ r, r = if e0 = 0 then ⟨#[]⟩ else if e0 = 23 then x.extract a x.size else p := ⟨_, rfl⟩
        obtain ⟨e', he'⟩ : ∃ e', e' = if e0 = 0 then 0 else if e0 = 23 then 0 else e0 := ⟨_, rfl⟩
        have hrs : r.size ≤ 40 * (k + 1) := by
          rw [hr]
          split
          · exact Nat.zero_le _
          · split
            · simp; omega
            · omega
        have HRW := Lib.hid (fun w => refWrite_any p (strB l2) x hx.symm w (by omega) a e0 hch hax t r e' ht hr he')
        have HDW := Lib.hid (fun w v hT h hv => decWrite_any w v l2 g p hT h hv x hx.symm (by omega) a e0 hch hax t r e' ht hr he')
        have HTK := Lib.hid htk; have HL2B := Lib.hid hl2b
        have hs8 : ∀ o, wr.heap.size ≤ (wr.alloc o).heap.size := fun o => by simp
        have HS8 := Lib.hid hs8
        have hrI : (r.size : Int) ≤ 1000 := by omega
        have hpI : (p.size : Int) ≤ 1000 := by omega
        have hkI : (k : Int) < 12 := by omega
        clear hcell0 hby0 hby hq hLC htk hl2 hl2b hx hxs hch hax ht hr he' hs8
        go_upto_region 12 with fail
        go_cut [12] from 48 to 128 (fun vb wx => Hid (Bytes wx vb l2) ∧ Hid (Below wr.heap.size wr wx))
        case first =>
          go_region_law (refine step_append_bytes rfl (.tmp 58) (.tmp 69) rfl wr.heap.size (.slice (some ⟨wr.heap.size, 0, none⟩) 0 0) [] (by simp [Act.eval, Act.put]) (OwnL.empty wr) (.slice A1 q C1) l2 (by simp [Act.eval, Act.put]) (HTK.out.below ((Below.refl _ wr).alloc (Nat.le_refl _) _).drew) (by simp; omega) (HS8.out _) ?_; intro v1 w1 ho1 hg1)
          all_goals
            have HX1 := Lib.hid (ho1.out.bytes HL2B.out)
            have HX2 := Lib.hid (OwnL.grown (show OwnL wr.heap.size (wr.alloc (.cells #[] 5)).drew (.slice (some ⟨wr.heap.size, 0, none⟩) 0 0) [] from OwnL.empty wr) hg1.out ((Below.refl _ wr).alloc (Nat.le_refl _) _).drew (HS8.out _) (Nat.le_refl _))
            clear ho1 hg1
            go_wp2_with fail
            go_meet
            exact ⟨HX1, HX2⟩
        case rest =>
          obtain ⟨hbv, hbw⟩ := hcut
          have HB4 := Lib.hid (hB.out.trans (hbw.out.mono hB.out.size))
          have HD4 := Lib.hid (hD.out.below hbw.out)
          have hcv := conv_bytes hbv.out
          clear hD hB hbw hcell hcellA hcellB
          go_wp2_with fail
          refine (HRW.out _).mono ?_
          rintro e w5 ⟨rfl, hb5⟩
          have HB5 := Lib.hid (HB4.out.trans (hb5.mono HB4.out.size))
          have HD5 := Lib.hid (HD4.out.below hb5)
          have HBV5 := Lib.hid (hbv.out.below hb5)
          clear hb5 HB4 HD4 hbv hcv
          cases c with
          | true =>
            have HD6 := HD5; have HB6 := HB5
            have HPS := Lib.hid (show p.size ≤ 40 * (k + 1) by omega)
            go_wp2_with fail
            refine (decWrite_shut _ _ g p HD6.out).mono ?_
            rintro e w6 ⟨rfl, rfl⟩
            go_wp2_with fail
            refine (pending_any _ g p true HD6.out).mono ?_
            rintro e w7 ⟨rfl, rfl⟩
            by_cases hkc : k < nc
            · obtain ⟨b2, off2, y, rfl, hb2, hc2⟩ := HC.out k hkc
              have hcc := (HB6.out.cell (p := ⟨b2, off2 + k, none⟩) hb2).trans hc2
              clear hc2
              cases y with
              | false =>
                go_wp2_with fail
                go_roundw
                case rel => exact ⟨k + 1, p, true, rfl, by omega, rfl, rfl, HPS.out, HD6, HB6⟩
                case measure => simp [intOf]; omega
              | true =>
                go_wp2_with fail
                refine (close_shut _ g p HD6.out).mono ?_
                rintro e w7 ⟨rfl, rfl⟩
                go_wp2_with fail
                refine (pending_any _ g p true HD6.out).mono ?_
                rintro e w7 ⟨rfl, rfl⟩
                go_wp2_with fail
                go_roundw
                case rel => exact ⟨k + 1, p, true, rfl, by omega, rfl, rfl, HPS.out, HD6, HB6⟩
                case measure => simp [intOf]; omega
            · go_wp2_with fail
              go_roundw
              case rel => exact ⟨k + 1, p, true, rfl, by omega, rfl, rfl, HPS.out, HD6, HB6⟩
              case measure => simp [intOf]; omega
          | false =>
            have HPS := Lib.hid hrs
            go_wp2_with fail
            refine (HDW.out _ _ (hT.below HB5.out hp) HD5.out HBV5.out).mono ?_
            rintro e w6 ⟨rfl, hd6, hk6⟩
            have HB6 := Lib.hid (HB5.out.trans (hk6.below hgw HB5.out.size)); have HD6 := Lib.hid hd6
            clear hd6 hk6
            go_wp2_with fail
            refine (pending_any _ g r false HD6.out).mono ?_
            rintro e w7 ⟨rfl, rfl⟩
            by_cases hkc : k < nc
            · obtain ⟨b2, off2, y, rfl, hb2, hc2⟩ := HC.out k hkc
              have hcc := (HB6.out.cell (p := ⟨b2, off2 + k, none⟩) hb2).trans hc2
              clear hc2
              cases y with
              | false =>
                go_wp2_with fail
                go_roundw
                case rel => exact ⟨k + 1, r, false, rfl, by omega, rfl, rfl, HPS.out, HD6, HB6⟩
                case measure => simp [intOf]; omega
              | true =>
                by_cases hr0 : r.size = 0
                · obtain rfl := empty_of_isEmpty r hr0
                  clear hr0
                  go_wp2_with fail
                  refine (close_ok _ g HD6.out).mono ?_
                  rintro e w7 ⟨rfl, hd7, hk7⟩
                  have HB7 := Lib.hid (HB6.out.trans (hk7.below hgw HB6.out.size)); have HD7 := Lib.hid hd7
                  clear hk7 hd7
                  go_wp2_with fail
                  refine (pending_any _ g _ true HD7.out).mono ?_
                  rintro e w8 ⟨rfl, rfl⟩
                  go_wp2_with fail
                  go_roundw
                  case rel => exact ⟨k + 1, ⟨#[]⟩, true, rfl, by omega, rfl, rfl, HPS.out, HD7, HB7⟩
                  case measure => simp [intOf]; omega
                · have hre := some_of_size r hr0
                  have HRE := Lib.hid hr0
                  clear hr0
                  go_wp2_with fail
                  refine (close_rest _ g r HD6.out hre).mono ?_
                  rintro e w7 ⟨rfl, rfl⟩
                  go_wp2_with fail
                  refine (pending_any _ g r false HD6.out).mono ?_
                  rintro e w7 ⟨rfl, rfl⟩
                  go_wp2_with fail
                  go_roundw
                  case rel => exact ⟨k + 1, r, false, rfl, by omega, rfl, rfl, HPS.out, HD6, HB6⟩
                  case measure => simp [intOf]; omega
            · go_wp2_with fail
              go_roundw
              case rel => exact ⟨k + 1, r, false, rfl, by omega, rfl, rfl, HPS.out, HD6, HB6⟩
              case measure => simp [intOf]; omega
      · go_wp2_with fail
        go_ret
        exact ⟨rfl, hB.out⟩
    · go_wp2_with fail
      go_ret
      exact ⟨rfl, hB.out⟩

theorem contract (H : Type) (enc : TypeId × Value → H) (W : World) (base : Nat) (args : Array Value) (ds gs : List (DataW H)) (before : List MemPlace)
    (hval : ∀ (j : Nat) t v, Tryd.f11.params[j]? = some t → args[j]? = some v → Value.okWide Tryd.prog W .any base t v)
    (hW : DataW.Whole enc Tryd.prog Tryd.f11.params.toList Rows.utf8DecoderSpec.vars false W args.toList ds gs before) (hL : laidMetH Tryd.prog Rows.utf8DecoderRow.laid W) (_hs : W.ShapedOpen Tryd.prog) :
    Calls Tryd.prog 11 args W fun e W' => ∃ v, e = .returned v ∧ Rows.utf8DecoderSpec.post enc Tryd.prog Tryd.f11 false true false false W args v W' := by
  have hW' := hW
  obtain ⟨p, q, hA0, hV, rfl, hfz, hnd⟩ := hW
  have hA : DataW.TrodAll enc Tryd.prog W 0 (fun _ => true) true Tryd.f11.params.toList args.toList ds p := hA0
  rw [Tryd.params11] at hA hval
  obtain ⟨v0, vs0, d0, ds0, p0, q0, hargs, rfl, rfl, h0, r0⟩ := trodAll_cons hA
  obtain ⟨v1, vs1, d1, ds1, p1, q1, rfl, rfl, rfl, h1, r1⟩ := trodAll_cons r0
  obtain ⟨rfl, rfl, rfl⟩ := trodAll_nil r1
  obtain rfl : args = #[v0, v1] := by cases args; simp_all
  obtain ⟨rfl, rfl⟩ := trodVars_none hV
  obtain ⟨a0, len0, cap0, rfl⟩ := okWide_slice Tryd.underlying48 (hval 0 48 v0 rfl rfl)
  have k0 := h0
  have lt0 : ∀ x ∈ p0, x.block < W.heap.size := by obtain ⟨m, hm⟩ := k0; exact DataW.trod_lt m _ _ _ hm
  obtain ⟨l0, w0⟩ := pieces_open h0
  obtain ⟨a1, len1, cap1, rfl⟩ := okWide_slice Tryd.underlying49 (hval 1 49 v1 rfl rfl)
  have k1 := h1
  have lt1 : ∀ x ∈ p1, x.block < W.heap.size := by obtain ⟨m, hm⟩ := k1; exact DataW.trod_lt m _ _ _ hm
  obtain ⟨l1, w1⟩ := bools_open h1
  clear hA0
  refine (walk _ _ _ _ _ _ W l0 l1 (tab hL)).mono fun e W' ⟨he, bel⟩ => ?_
  subst he
  exact ⟨_, rfl, _, _, _, [], _, [], hW', trodAll_mk1 (shut_bool Tryd.underlying4 _), (trodAll_cons_mk (Below.trod laidOut (by kernel_rfl) (of_decide_eq_true (by kernel_rfl)) k0 bel lt0) (trodAll_cons_mk (Below.trod laidOut (by kernel_rfl) (of_decide_eq_true (by kernel_rfl)) k1 bel lt1) trodAll_mk0)), rfl, bel.frame _, fun h => by cases h⟩

theorem laid_met (os : Os) : laidMet Tryd.prog Rows.utf8DecoderRow.laid ((laidWorld os).forCall (fun _ _ => 0) ⟨#[], #[.slice none 0 0, .slice none 0 0], []⟩).memory :=
  laidMet_of_run' 8 (by kernel_rfl) (by kernel_rfl)
theorem reads (os : Os) {H : Type} (enc : TypeId × Value → H) : ∃ places, DataW.whole enc Tryd.prog ((laidWorld os).forCall (fun _ _ => 0) ⟨#[], #[.slice none 0 0, .slice none 0 0], []⟩).memory Tryd.f11.params.toList Rows.utf8DecoderSpec.vars false (#[.slice none 0 0, .slice none 0 0] : Array Value).toList 8 = some ([.nil, .nil], [], places) :=
  ⟨[], by kernel_rfl⟩

set_option maxRecDepth 100000 in
theorem lifted (os : Os) (started : os.Started) (H : Type) (enc : TypeId × Value → H) (F : Stop.Interp) :
    ReturnsInHanded {} Tryd.checked os 11 .any ((OpenSpec.ofChange Rows.utf8DecoderSpec).preRow enc Tryd.prog Tryd.f11 Rows.utf8DecoderRow.domain false Rows.utf8DecoderRow.laid) (((OpenSpec.ofChange Rows.utf8DecoderSpec).at F).post enc Tryd.prog Tryd.f11 false true false false) := by
  obtain ⟨places, hx⟩ := reads os enc
  refine returnsInHanded_of_row (C := Tryd.checked) (s := OpenSpec.ofChange Rows.utf8DecoderSpec) own started (by kernel_rfl) Tryd.func11
    (witness_row_at (enc := enc) (C := Tryd.checked) false (laidWorld os) #[.slice none 0 0, .slice none 0 0] rfl (by kernel_rfl) (by kernel_rfl) (by kernel_rfl)
      (OpenSpec.preRow_of_cond 8 hx (by kernel_rfl) (fun k hk => by cases hk) (by kernel_rfl) (laid_met os))) ?_
  intro W base args ds gs before hval hW _ _ _ hL hs _
  exact contract H enc W base args ds gs before hval hW hL hs

theorem said : Rows.Utf8DecoderSaid :=
  OpenClaim.holds_of_cond 11 Tryd.f11 rfl rfl rfl rfl rfl rfl rfl ⟨rfl, rfl, rfl, rfl, rfl⟩ rfl rfl rfl rfl rfl (by kernel_rfl) Tryd.func11 (by kernel_rfl)
    (of_decide_eq_true (by kernel_rfl)) (by unfold Func.isWrapper; first | (rw [if_pos (by decide +kernel)]; kernel_rfl) | (rw [if_neg (by decide +kernel)]; exact ⟨rfl, rfl⟩))
    (fun os started H enc _ F => by rw [OpenClaim.pre_eq_preRow]; exact lifted os started H enc F)

theorem plain (f : FuncId) (fn : Func) (hf : Tryd.pinned.checked.prog.funcNamed "bulletin/bulletinlaw03.Utf8Decoder" = some f) (hfn : Tryd.pinned.checked.prog.funcs[f]? = some fn) :
    false = Tryd.pinned.checked.prog.looks [] ∧ ∀ (j : Nat) t, fn.params[j]? = some t → Tryd.pinned.checked.prog.wantsStandIn t = false := by
  obtain rfl : f = 11 := Option.some.inj ((show Tryd.prog.funcNamed "bulletin/bulletinlaw03.Utf8Decoder" = some 11 by kernel_rfl).symm.trans hf) |>.symm
  obtain rfl : fn = Tryd.f11 := (Option.some.inj (Tryd.func11.symm.trans hfn)).symm
  refine ⟨by kernel_rfl, fun j t ht => ?_⟩
  rw [Tryd.params11] at ht
  have hm : t = 48 ∨ t = 49 := by simpa using Array.mem_of_getElem? ht
  rcases hm with rfl | rfl
  · exact (show Tryd.prog.wantsStandIn 48 = false by kernel_rfl)
  · exact (show Tryd.prog.wantsStandIn 49 = false by kernel_rfl)

end Go.Proofs.YtbjhomihmlijiaaDoor.utf8DecoderLaw
namespace Go.Proofs.YtbjhomihmlijiaaDoor

/-- THE CARD OF Utf8Decoder -/
theorem utf8Decoder_card : Rows.Utf8DecoderCardSaid :=
  Claim7.holds_tied_plain_at .later [] _ _ _ _ utf8DecoderLaw.said (fun _ h => by cases h) (by kernel_rfl) (fun _ h => by cases h) utf8Decoder_row_tie rfl ⟨rfl, rfl⟩ (by kernel_rfl) rfl utf8DecoderLaw.plain (by kernel_rfl)
#print axioms utf8Decoder_card
end Go.Proofs.YtbjhomihmlijiaaDoor
