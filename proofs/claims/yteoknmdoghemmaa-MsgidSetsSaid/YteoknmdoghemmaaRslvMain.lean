/- Resolve. -/
import Derived.Test.YteoknmdoghemmaaRslvGo
import Derived.Test.YteoknmdoghemmaaParseGo
import Derived.Test.YteoknmdoghemmaaTo
namespace Go.Proofs.Yteoknmdoghemmaa
open Go.RowKit Go.Shelf

theorem results_cell_tmp1 {fn : Func} {p u : Tmp} {ty : TypeId} {P : Program} (h : fn.results = #[.cell p ty, .tmp u]) (tmps : Array Value) (w : World) (g : Nat) (t : TypeId) (cs : Array Value) (fr : Nat × Nat) (d : TypeDesc)
    (hp : tmps.getD p undef = .pointer (some ⟨g, 0, none⟩)) (hg : w.heap[g]? = some (.cells cs t fr))
    (hd : d.isRow = true) (hu : P.underlying ty = some d) (hi : (P.info? ty).map (·.size) = some cs.size) :
    (results fn tmps).run P w = .ok (.tuple #[.agg cs, tmps.getD u undef]) w := by
  have hp' : tmps[p]?.getD undef = .pointer (some ⟨g, 0, none⟩) := by simpa using hp
  have hr := run_loadVar_mid (P := P) w g 0 ty cs.toList d (fun j v hv => by rw [Nat.zero_add, cell_of_row w g j cs t fr hg]; simpa using hv) hu hd (by simpa using hi)
  simp only [Array.toArray_toList] at hr
  simp [results, h, hp', asAddr, hr]

theorem OwnI.keep {T : TypeId} {base : Nat} {w w' : World} {v : Value} {ls : List Mid.Id} (h : OwnI T base w v ls) (hb : Below w.heap.size w w') : OwnI T base w' v ls := by
  refine ⟨h.1, ?_⟩
  rcases h.2 with h0 | ⟨g, cap, cur, hv, hg, hh, hr⟩
  · exact .inl h0
  · exact .inr ⟨g, cap, cur, hv, hg, by rw [hb.block g (Array.getElem?_eq_some_iff.1 hh).1]; exact hh, hr⟩

theorem encI_bsL (x : Mid.Id) : encI x = bsL (nI x.1) := by
  unfold encI bsL nI
  rw [List.map_map]
  rfl
theorem bytes_pre {w : World} {g n m : Nat} {t : TypeId} (l : List Nat) (hb : ∀ x ∈ l, x < 256) (hl : l.length = n) (hm : m ≤ n) (hn : n ≤ maxLen) (h : Blk w g t (bsC (nI l))) : Bytes w (.slice (some ⟨g, 0, none⟩) m n) (l.take m) := by
  have hlt : (l.take m).length = m := by rw [List.length_take]; omega
  refine ⟨fun x hx => hb x (List.mem_of_mem_take hx), some ⟨g, 0, none⟩, n, by rw [hlt], by omega, hn, (fun h => by cases h), fun i hi => ⟨g, 0, rfl, ?_⟩⟩
  rw [hlt] at hi
  rw [Nat.zero_add, cell_of_row w g i _ _ _ h]
  have hil : i < l.length := by omega
  have e : (l.take m).getD i 0 = l.getD i 0 := by simp [List.getD_eq_getElem?_getD, hi]
  rw [e]
  simp [bsC, List.getElem?_eq_getElem hil]
theorem pre_eq (p : List UInt8) (y : Mid.Id) (s : ByteArray) (hs : s.data.toList = p) : ((strB ((Mid.hxN y.1).take s.size)).toList == s.toList) = Mid.pre p y := by
  have e : (strB ((Mid.hxN y.1).take s.size)).toList = (Asc.hexL y.1).take p.length := by
    rw [ByteArray.toList_eq]
    show (((Mid.hxN y.1).take s.size).map fun x => UInt8.ofNat x) = _
    rw [List.map_take, Mid.hxN_back, ← size_toList, hs]
  rw [e, ByteArray.toList_eq, hs]
  unfold Mid.pre
  rw [Bool.eq_iff_iff]
  simp

theorem enc_default : (encI default).toArray = bsC zD := by kernel_rfl

set_option maxRecDepth 100000 in
set_option maxHeartbeats 1000000 in
theorem resolve_any (s : ByteArray) (v : Value) (ls : List Mid.Id) (w : World) (hs : s.size ≤ 100000) (hn : ls.length ≤ 1000000) (hv : Ids w v ls) (y : Mid.Id) (b : Nat) (hy : Mid.resolve s.data.toList ls = (y, b)) :
    Calls Try.prog 31 #[.string s, v] w fun e w' => e = .returned (.tuple #[.agg (encI y).toArray, .int .i64 b]) ∧ Below w.heap.size w w' := by
  have HY := Lib.hid hy; have HV := Lib.hid hv
  have hsI : (s.size : Int) ≤ 100000 := by omega
  clear hy hv
  go_enter Try.func31, Try.ntmps31
  go_upto_region 1 with (fail)
  change Code.wp Try.prog _ _ _ (w.alloc (.cells (bsC zD) 23))
  have k0 := Blk.fresh w 23 (bsC zD)
  have hB : Below w.heap.size w (w.alloc (.cells (bsC zD) 23)) := (Below.refl _ w).alloc (Nat.le_refl _) _
  generalize w.alloc (.cells (bsC zD) 23) = W0 at *
  have K0 := Lib.hid k0; have B0 := Lib.hid hB
  clear k0 hB
  by_cases h4 : s.size < 4
  · have h4I : (s.size : Int) < 4 := by omega
    have hres := HY.out
    rw [Mid.resolve, if_pos (by rw [size_toList]; exact h4)] at hres
    obtain ⟨e1, e2⟩ := Prod.mk.inj hres
    subst e1 e2
    clear hres h4
    go_wp2_with (first
      | (refine wp_build_id (by rfl) (by rfl) ?_)
      | (refine sto_bs infoId _ zD zD_len _ K0.out (by rw [bsC_size]; exact zD_len) (by rfl) _ _ (by rfl) (by rfl) (by rfl) ?_; intro w5 hw5))
    have hfin : Blk w5 w.heap.size 23 (bsC zD) := by rw [hw5.out]; exact K0.out.row _
    have hfB : Below w.heap.size w w5 := by rw [hw5.out]; exact below_row B0.out _ (Nat.le_refl _) _
    exact bodyPost_ret (results_cell_tmp1 rfl _ _ w.heap.size _ _ _ _ rfl hfin (by rfl) Try.underlying23 (by rw [bsC_size, zD_len]; exact infoId)) rfl ⟨by rw [enc_default]; rfl, hfB⟩
  · have h4I : ¬ (s.size : Int) < 4 := by omega
    by_cases h64 : 64 < s.size
    · have h64I : (64 : Int) < (s.size : Int) := by omega
      have hres := HY.out
      rw [Mid.resolve, if_neg (by rw [size_toList]; exact h4), if_pos (by rw [size_toList]; exact h64)] at hres
      obtain ⟨e1, e2⟩ := Prod.mk.inj hres
      subst e1 e2
      clear hres h4 h64
      go_wp2_with (first
        | (refine wp_build_id (by rfl) (by rfl) ?_)
        | (refine sto_bs infoId _ zD zD_len _ K0.out (by rw [bsC_size]; exact zD_len) (by rfl) _ _ (by rfl) (by rfl) (by rfl) ?_; intro w5 hw5))
      have hfin : Blk w5 w.heap.size 23 (bsC zD) := by rw [hw5.out]; exact K0.out.row _
      have hfB : Below w.heap.size w w5 := by rw [hw5.out]; exact below_row B0.out _ (Nat.le_refl _) _
      exact bodyPost_ret (results_cell_tmp1 rfl _ _ w.heap.size _ _ _ _ rfl hfin (by rfl) Try.underlying23 (by rw [bsC_size, zD_len]; exact infoId)) rfl ⟨by rw [enc_default]; rfl, hfB⟩
    · have h64I : ¬ (64 : Int) < (s.size : Int) := by omega
      obtain ⟨W2, cap2, hcv, hrow, hb2⟩ := conv_in W0 s
      have HCF := Lib.hid (containsFunc_any W0.heap.size cap2 s.data.toList W2 (by rw [size_toList]; exact hs) hrow)
      rw [size_toList] at HCF
      have K2 := Lib.hid (K0.out.keep hb2 K0.out.lt)
      have B2 := Lib.hid (B0.out.trans (hb2.mono B0.out.size))
      have hres := HY.out
      rw [Mid.resolve, if_neg (by rw [size_toList]; exact h4), if_neg (by rw [size_toList]; exact h64)] at hres
      obtain ⟨q, hq⟩ : ∃ q, q = s.data.toList.any (fun c => !Mid.hxB c) := ⟨_, rfl⟩
      rw [← hq] at HCF hres
      have HRES := Lib.hid hres
      have H4 := Lib.hid h4; have H64 := Lib.hid h64
      clear hq hrow hb2 hres h4 h64
      cases q with
      | true =>
        have hres := HRES.out
        rw [if_pos rfl] at hres
        obtain ⟨e1, e2⟩ := Prod.mk.inj hres
        subst e1 e2
        clear hres
        go_wp2_with fail
        refine HCF.out.mono ?_
        rintro e w' ⟨rfl, rfl⟩
        go_wp2_with (first
          | (refine wp_build_id (by rfl) (by rfl) ?_)
          | (refine sto_bs infoId _ zD zD_len _ K2.out (by rw [bsC_size]; exact zD_len) (by rfl) _ _ (by rfl) (by rfl) (by rfl) ?_; intro w5 hw5))
        have hfin : Blk w5 w.heap.size 23 (bsC zD) := by rw [hw5.out]; exact K2.out.row _
        have hfB : Below w.heap.size w w5 := by rw [hw5.out]; exact below_row B2.out _ (Nat.le_refl _) _
        exact bodyPost_ret (results_cell_tmp1 rfl _ _ w.heap.size _ _ _ _ rfl hfin (by rfl) Try.underlying23 (by rw [bsC_size, zD_len]; exact infoId)) rfl ⟨by rw [enc_default]; rfl, hfB⟩
      | false =>
        have hres := HRES.out
        rw [if_neg (by decide)] at hres
        have HO := Lib.hid hres
        clear hres HRES
        obtain ⟨ad, cap, rfl, hlc, hcm, _, hcells⟩ := HV.out
        obtain ⟨n, hnn⟩ : ∃ n, n = ls.length := ⟨_, rfl⟩
        rw [← hnn]
        have hnI : (n : Int) ≤ 1000000 := by omega
        have HN := Lib.hid hnn; have HCL := Lib.hid hcells
        clear hnn hcells hlc hcm HV
        go_wp2_with fail
        refine HCF.out.mono ?_
        rintro e w' ⟨rfl, rfl⟩
        go_wp2_with fail
        have HSP := Lib.hid hs
        have hW2 : w.heap.size + 1 ≤ W2.heap.size := K2.out.lt
        have HW2 := Lib.hid hW2
        clear hW2
        have h64N : (s.size : Int) ≤ 64 := by omega
        go_loopw [7, 29] (fun f i wr => ∃ (k : Nat) (vf : Value), vf = f ∧ i = .int .i64 k ∧ k ≤ n ∧ Hid (OwnI 23 (w.heap.size + 1) wr vf ((ls.take k).filter (Mid.pre s.data.toList))) ∧ Hid (Below (w.heap.size + 1) W2 wr)) (fun _ i _ => n - (intOf i).toNat)
        case atStart => exact ⟨0, _, rfl, rfl, Nat.zero_le _, Lib.hid (World.ownsRow_nil _ _ _ _), Lib.hid (Below.refl _ _)⟩
        case round =>
          obtain ⟨k, vf, rfl, rfl, hk, ho, hbl⟩ := hrel
          by_cases hlt : k < n
          · have hkl : k < ls.length := by rw [← HN.out]; exact hlt
            rcases HCL.out with h0 | ⟨b, off, rfl, hc⟩
            · rw [h0] at hkl; exact absurd hkl (by simp)
            · have hblt : b < w.heap.size := hc.lt (by intro h; rw [h] at hkl; exact absurd hkl (by simp))
              have hrg := ((hc.keep B2.out hblt).keep hbl.out (by omega)).range k hkl
              have hfs := Mid.filter_step ls k hkl (Mid.pre s.data.toList)
              obtain ⟨x, hx⟩ : ∃ x, x = ls[k]! := ⟨_, rfl⟩
              rw [← hx] at hrg hfs
              rw [encI_bsL] at hrg
              have hpe := pre_eq s.data.toList x s rfl
              have HD := Lib.hid (fun w => digits_any x.1 x.2.1 x.2.2 w)
              have HCV := Lib.hid (fun (W : World) g t h => conv_bytes (bytes_pre (w := W) (g := g) (t := t) (n := 64) (m := s.size) (Mid.hxN x.1) (Mid.hxN_lt x.1) (Mid.hxN_len x.1 x.2.1) (by have := H64.out; omega) (by unfold maxLen; omega) h))
              have HX := Lib.hid (show (nI (Mid.hxN x.1)).length = 64 by rw [nI_len]; exact Mid.hxN_len x.1 x.2.1)
              have HA := Lib.hid (show (nI x.1).length = 32 by rw [nI_len]; exact x.2.1)
              have HEN := Lib.hid (fun (W : World) g t (h : Blk W g t (bsC (nI x.1))) => encBlk (x := x) (w := W) (g := g) (t := t) (by rw [encI_arr]; exact h))
              have hiA : (Try.prog.info? 23).map (·.size) = some (bsL (nI x.1)).length := by rw [bsL_len, HA.out]; exact infoId
              have hiX := info_enc infoId x
              generalize strB ((Mid.hxN x.1).take s.size) = u at *
              generalize nI (Mid.hxN x.1) = H at *
              generalize nI x.1 = A at *
              generalize Mid.pre s.data.toList x = q at *
              have HFS := Lib.hid hfs; have HRG := Lib.hid hrg; have HPE := Lib.hid hpe
              have hltI : (k : Int) < (n : Int) := by omega
              have hoa : ∀ o, OwnI 23 (w.heap.size + 1) (wr.alloc o) vf ((ls.take k).filter (Mid.pre s.data.toList)) := fun o => ho.out.alloc o
              clear hfs hrg hpe hc hx hkl
              go_upto_region 12 with (first
                | (refine wpList_load_mid rfl _ _ rfl b (off + k * 32) (by rfl) (bsL A) _ HRG.out Try.underlying23 rfl hiA ?_)
                | (refine sto_bs infoId _ A HA.out _ (Blk.fresh wr _ _) rfl (by rfl) _ _ (by rfl) (by rfl) (by rfl) ?_; intro w3 hw3))
              have L3 := Lib.hid (show Blk w3 wr.heap.size 23 (bsC A) by rw [hw3.out]; exact (Blk.fresh wr _ _).row _)
              have hb3 : Below wr.heap.size wr w3 := by rw [hw3.out]; exact below_row ((Below.refl _ wr).alloc (Nat.le_refl _) _) _ (Nat.le_refl _) _
              have HB3 := Lib.hid hb3
              clear hw3 hb3 hoa
              go_upto_region 13 with (first
                | (refine ld_bs Try.underlying23 infoId _ A HA.out L3.out (by rfl) _ (by rfl) (by rfl) ?_)
                | (go_at_call 37; refine (HD.out _).mono ?_; rintro e w4 ⟨rfl, hb4⟩; have HB4 := Lib.hid (HB3.out.trans (hb4.mono HB3.out.size)); have L4 := Lib.hid (L3.out.keep hb4 L3.out.lt); clear hb4)
                | (refine sto_bs info64 _ H HX.out _ (Blk.fresh w4 _ _) rfl (by rfl) _ _ (by rfl) (by rfl) (by rfl) ?_; intro w5 hw5))
              have M5 := Lib.hid (show Blk w5 w4.heap.size 68 (bsC H) by rw [hw5.out]; exact (Blk.fresh w4 _ _).row _)
              have L5 := Lib.hid (show w5.rangeAt wr.heap.size 0 (encI x) by
                refine HEN.out _ _ _ (show Blk w5 wr.heap.size 23 (bsC A) from ?_)
                rw [hw5.out]; exact (L4.out.more _).far (by have := L4.out.lt; omega) _)
              have HB5 := Lib.hid (show Below wr.heap.size wr w5 by rw [hw5.out]; exact below_row (HB4.out.alloc HB4.out.size _) _ HB4.out.size _)
              clear hw5
              have hcv5 := HCV.out _ _ _ M5.out
              have HO5 := Lib.hid (ho.out.keep HB5.out)
              have hsw : w.heap.size + 1 ≤ wr.heap.size := Nat.le_trans HW2.out hbl.out.size
              have HBL5 := Lib.hid (hbl.out.trans (HB5.out.mono hsw))
              cases q with
              | true =>
                have hfs := HFS.out
                rw [if_pos rfl] at hfs
                have HF := Lib.hid hfs
                have heq := HPE.out
                obtain ⟨i0, hi0, hz0, hz1, hz2⟩ := info_partsM infoI
                have HI0 := Lib.hid (And.intro hi0 (And.intro hz0 (And.intro hz1 hz2)))
                have HC := Lib.hid (show ∀ C, C = (encI x).toArray → (w5.alloc (.cells C 23)).rangeAt w5.heap.size 0 (encI x) from fun C hC => by rw [hC]; exact encBlk (Blk.fresh w5 _ _))
                have hlen : ((ls.take k).filter (Mid.pre s.data.toList)).length ≤ 1000000 := by
                  have h1 := List.length_filter_le (Mid.pre s.data.toList) (ls.take k)
                  have h2 := List.length_take_le k ls
                  omega
                have HLN := Lib.hid hlen
                have hs5 : w.heap.size + 1 ≤ w5.heap.size := Nat.le_trans hsw HB5.out.size
                have HS5 := Lib.hid hs5
                have HSZ := Lib.hid (show ∀ o, w.heap.size + 1 ≤ (w5.alloc o).heap.size from fun o => by simp; omega)
                clear hfs hi0 hz0 hz1 hz2 hlen hs5 hsw
                have hle := encI_len x
                generalize (ls.take k).filter (Mid.pre s.data.toList) = FK at *
                go_wp2_with (first
                  | (refine wpList_load_mid rfl _ _ rfl wr.heap.size 0 (by rfl) (encI x) _ L5.out Try.underlying23 rfl hiX ?_)
                  | (refine wpList_append_id Try.underlying41 HI0.out.1 HI0.out.2.1 HI0.out.2.2.1 HI0.out.2.2.2 rfl _ _ rfl (w.heap.size + 1) vf FK (by rfl) (HO5.out.alloc _) w5.heap.size 0 1 x (by rfl) (HC.out _ (fold_enc x)) HLN.out (HSZ.out _) ?_; intro v2 w2 ho2 hg2))
                go_roundw
                case rel => exact ⟨k + 1, v2, rfl, by go_num, hlt, by rw [HF.out]; exact ho2, Lib.hid ((HBL5.out.alloc HS5.out _).grown hg2.out (HSZ.out _) (fun j hj => (HO5.out.lt j hj).1))⟩
                case measure => simp [intOf]; omega
              | false =>
                have hfs := HFS.out
                rw [if_neg (by decide)] at hfs
                have HF := Lib.hid hfs
                have heq := HPE.out
                clear hfs
                go_wp2_with fail
                go_roundw
                case rel => exact ⟨k + 1, vf, rfl, by go_num, hlt, by rw [HF.out]; exact HO5, HBL5⟩
                case measure => simp [intOf]; omega
          · have hfull : ls.take k = ls := List.take_of_length_le (by rw [← HN.out]; omega)
            have hids := ho.out.ids
            rw [hfull] at hids
            have hlF : (ls.filter (Mid.pre s.data.toList)).length ≤ 1000000 := Nat.le_trans (List.length_filter_le _ _) hn
            have HKR := Lib.hid (K2.out.keep hbl.out (Nat.lt_succ_self _))
            have HBR := Lib.hid (B2.out.trans (hbl.out.mono (Nat.le_succ _)))
            generalize ls.filter (Mid.pre s.data.toList) = F at *
            have HSE := Lib.hid (set_any vf F wr hlF hids)
            clear hfull hids hlF ho hbl
            go_wp2_with fail
            refine HSE.out.mono ?_
            rintro e w6 ⟨v6, ms, rfl, hml, hsp, hI6, hb6⟩
            have hos := Mid.only_set F ms hsp.1
            rw [HO.out] at hos
            have HK6 := Lib.hid (HKR.out.keep hb6 HKR.out.lt)
            have HB6 := Lib.hid (HBR.out.trans (hb6.mono HBR.out.size))
            obtain ⟨ad6, cap6, rfl, _, _, _, hc6⟩ := hI6
            generalize Mid.dd ms ms.length = D at *
            clear hml hsp hb6
            have HOS := Lib.hid hos; have HC6 := Lib.hid hc6
            clear hos hc6
            by_cases hd0 : D.length = 0
            · have hres := HOS.out.1 hd0
              obtain ⟨e1, e2⟩ := Prod.mk.inj hres
              subst e1 e2
              have hd0I : (D.length : Int) = 0 := by omega
              rw [hd0]
              clear hres
              go_wp2_with (first
                | (refine wp_build_id (by rfl) (by rfl) ?_)
                | (refine sto_bs infoId _ zD zD_len _ HK6.out (by rw [bsC_size]; exact zD_len) (by rfl) _ _ (by rfl) (by rfl) (by rfl) ?_; intro w7 hw7))
              have hfin : Blk w7 w.heap.size 23 (bsC zD) := by rw [hw7.out]; exact HK6.out.row _
              have hfB : Below w.heap.size w w7 := by rw [hw7.out]; exact below_row HB6.out _ (Nat.le_refl _) _
              exact bodyPost_ret (results_cell_tmp1 rfl _ _ w.heap.size _ _ _ _ rfl hfin (by rfl) Try.underlying23 (by rw [bsC_size, zD_len]; exact infoId)) rfl ⟨by rw [enc_default]; rfl, hfB⟩
            · by_cases hd1 : D.length = 1
              · obtain ⟨x, rfl⟩ := List.length_eq_one_iff.1 hd1
                have hres := HOS.out.2.1 x rfl
                obtain ⟨e1, e2⟩ := Prod.mk.inj hres
                subst e1 e2
                rcases HC6.out with h0 | ⟨b6, off6, rfl, hc6⟩
                · cases h0
                · have hrg := hc6.range 0 (by simp)
                  rw [show ([y] : List Mid.Id)[0]! = y from rfl, encI_bsL, show off6 + 0 * 32 = off6 by omega] at hrg
                  have HRG := Lib.hid hrg
                  have HE := Lib.hid (show bsC (nI y.1) = (encI y).toArray from (encI_arr y).symm)
                  have HA := Lib.hid (show (nI y.1).length = 32 by rw [nI_len]; exact y.2.1)
                  have hiA : (Try.prog.info? 23).map (·.size) = some (bsL (nI y.1)).length := by rw [bsL_len, HA.out]; exact infoId
                  generalize nI y.1 = A at *
                  rw [show ([y] : List Mid.Id).length = 1 from rfl]
                  clear hres hd0 hd1 hrg hc6
                  go_wp2_with (first
                    | (refine wpList_load_mid rfl _ _ rfl b6 off6 (by rfl) (bsL A) _ HRG.out Try.underlying23 rfl hiA ?_)
                    | (refine sto_bs infoId _ A HA.out _ HK6.out (by rw [bsC_size]; exact zD_len) (by rfl) _ _ (by rfl) (by rfl) (by rfl) ?_; intro w7 hw7))
                  have hfin : Blk w7 w.heap.size 23 (bsC A) := by rw [hw7.out]; exact HK6.out.row _
                  have hfB : Below w.heap.size w w7 := by rw [hw7.out]; exact below_row HB6.out _ (Nat.le_refl _) _
                  exact bodyPost_ret (results_cell_tmp1 rfl _ _ w.heap.size _ _ _ _ rfl hfin (by rfl) Try.underlying23 (by rw [bsC_size, HA.out]; exact infoId)) rfl ⟨by rw [HE.out]; rfl, hfB⟩
              · have hres := HOS.out.2.2 (by omega)
                obtain ⟨e1, e2⟩ := Prod.mk.inj hres
                subst e1 e2
                have hd0I : ¬ (D.length : Int) = 0 := by omega
                have hd1I : ¬ (D.length : Int) = 1 := by omega
                clear hres hd0 hd1
                go_wp2_with (first
                  | (refine wp_build_id (by rfl) (by rfl) ?_)
                  | (refine sto_bs infoId _ zD zD_len _ HK6.out (by rw [bsC_size]; exact zD_len) (by rfl) _ _ (by rfl) (by rfl) (by rfl) ?_; intro w7 hw7))
                have hfin : Blk w7 w.heap.size 23 (bsC zD) := by rw [hw7.out]; exact HK6.out.row _
                have hfB : Below w.heap.size w w7 := by rw [hw7.out]; exact below_row HB6.out _ (Nat.le_refl _) _
                exact bodyPost_ret (results_cell_tmp1 rfl _ _ w.heap.size _ _ _ _ rfl hfin (by rfl) Try.underlying23 (by rw [bsC_size, zD_len]; exact infoId)) rfl ⟨by rw [enc_default]; rfl, hfB⟩
end Go.Proofs.Yteoknmdoghemmaa
