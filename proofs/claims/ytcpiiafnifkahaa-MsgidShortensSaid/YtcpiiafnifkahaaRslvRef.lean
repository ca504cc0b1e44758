/- The reference's Resolve. -/
import Derived.Test.YtcpiiafnifkahaaRslvMain
import Derived.Test.YtcpiiafnifkahaaRefDig
import Derived.Test.YtcpiiafnifkahaaRefParse
namespace Mid
/-- the identities found, each of them once -/
def fnd (p : List UInt8) (ls : List Id) : Nat → List Id
  | 0 => []
  | k + 1 => if pre p ls[k]! = true ∧ ls[k]! ∉ fnd p ls k then fnd p ls k ++ [ls[k]!] else fnd p ls k
theorem fnd_len (p : List UInt8) (ls : List Id) : ∀ k, (fnd p ls k).length ≤ k
  | 0 => Nat.le_refl _
  | k + 1 => by
    have ih := fnd_len p ls k
    rw [fnd]
    split
    · rw [List.length_append]; simp; exact ih
    · omega
theorem fnd_mem (p : List UInt8) (ls : List Id) (x : Id) : ∀ k, k ≤ ls.length → (x ∈ fnd p ls k ↔ x ∈ (ls.take k).filter (pre p))
  | 0, _ => by simp [fnd]
  | k + 1, h => by
    have ih := fnd_mem p ls x k (by omega)
    have hf := filter_step ls k (by omega) (pre p)
    rw [hf, fnd]
    by_cases h1 : pre p ls[k]! = true
    · rw [if_pos h1]
      by_cases h2 : ls[k]! ∈ fnd p ls k
      · rw [if_neg (fun h => h.2 h2), ih, List.mem_append, List.mem_singleton]
        constructor
        · intro h; exact .inl h
        · rintro (h | h)
          · exact h
          · rw [h]
            have ih2 := fnd_mem p ls ls[k]! k (by omega)
            exact ih2.1 h2
      · rw [if_pos ⟨h1, h2⟩, List.mem_append, List.mem_singleton, List.mem_append, List.mem_singleton, ih]
    · rw [if_neg h1, if_neg (fun h => h1 h.1), ih]
theorem fnd_nodup (p : List UInt8) (ls : List Id) : ∀ k, (fnd p ls k).Nodup
  | 0 => by simp [fnd]
  | k + 1 => by
    have ih := fnd_nodup p ls k
    rw [fnd]
    split
    · rename_i h
      rw [List.nodup_append]
      refine ⟨ih, by simp, ?_⟩
      intro a ha b hb
      rw [List.mem_singleton] at hb
      rintro rfl
      rw [hb] at ha
      exact h.2 ha
    · exact ih
theorem only_fnd (p : List UInt8) (ls : List Id) :
    ((fnd p ls ls.length).length = 0 → only (ls.filter (pre p)) = (default, 8)) ∧ (∀ x, fnd p ls ls.length = [x] → only (ls.filter (pre p)) = (x, 0)) ∧ (2 ≤ (fnd p ls ls.length).length → only (ls.filter (pre p)) = (default, 7)) := by
  have hm : ∀ y, y ∈ fnd p ls ls.length ↔ y ∈ ls.filter (pre p) := fun y => by
    rw [fnd_mem p ls y _ (Nat.le_refl _), List.take_of_length_le (Nat.le_refl _)]
  have hnd := fnd_nodup p ls ls.length
  refine ⟨fun h => ?_, fun x h => ?_, fun h => ?_⟩
  · rw [List.eq_nil_of_length_eq_zero h] at hm
    exact only_none _ hm
  · rw [h] at hm
    exact only_one _ x hm
  · refine only_two _ _ hm ?_
    generalize fnd p ls ls.length = D at *
    match D, h, hnd with
    | a :: b :: r, _, hnd =>
      refine ⟨a, by simp, b, by simp, ?_⟩
      rintro rfl
      simp at hnd
end Mid
namespace Go.Proofs.Ytcpiiafnifkahaa
open Go.RowKit Go.Shelf

theorem ld_mid_g {ops : Array Oper} {rest : List Oper} {op : Oper} {a : Act} {w : World} {Q : Exit → Act → World → Prop} (hw : Region.wanted op (yielded ops a.tmps) = true) (ty : TypeId) (x : Operand) (ho : op.op = .load ty x)
    (b o : Nat) (hx : a.eval x = .pointer (some ⟨b, o, none⟩)) (cs : List Value) (d : TypeDesc) (hc : w.rangeAt b o cs)
    (hu : Try.prog.underlying ty = some d) (hd : d.isRow = true) (hi : (Try.prog.info? ty).map (·.size) = some cs.length)
    (h : wpList Try.prog ops Q rest (a.put op.dst (.agg cs.toArray)) w) : wpList Try.prog ops Q (op :: rest) a w :=
  wpList_step fun K hK => by
    simp only [hw, if_true]
    exact wp_load_mid ty x ho b o hx cs d hc hu hd hi (hK _ _ h)

theorem pre_eq2 (y : Mid.Id) (s t : ByteArray) (ht : t = ⟨(Asc.hexL y.1).toArray⟩) : ((t.extract 0 s.size).toList == s.toList) = Mid.pre s.data.toList y := by
  have e : (t.extract 0 s.size).toList = (Asc.hexL y.1).take s.data.toList.length := by
    rw [ByteArray.toList_eq, Lib.extract_data, ht, size_toList]
    simp
  rw [e, ByteArray.toList_eq]
  unfold Mid.pre
  rw [Bool.eq_iff_iff]
  simp

set_option maxRecDepth 100000 in
set_option maxHeartbeats 2000000 in
theorem refResolve_any (s : ByteArray) (v : Value) (ls : List Mid.Id) (w : World) (hs : s.size ≤ 100000) (hn : ls.length ≤ 1000000) (hv : Ids w v ls) (y : Mid.Id) (b : Nat) (hy : Mid.resolve s.data.toList ls = (y, b)) :
    Calls Try.prog 32 #[.string s, v] w fun e w' => e = .returned (.tuple #[.agg (encI y).toArray, .int .i64 b]) ∧ Below w.heap.size w w' := by
  have HY := Lib.hid hy; have HV := Lib.hid hv
  have hsI : (s.size : Int) ≤ 100000 := by omega
  clear hy hv
  go_enter Try.func32, Try.ntmps32
  go_upto_region 1 with (fail)
  change Code.wp Try.prog _ _ _ (w.alloc (.cells (bsC zD) 30))
  have k0 := Blk.fresh w 30 (bsC zD)
  have hB : Below w.heap.size w (w.alloc (.cells (bsC zD) 30)) := (Below.refl _ w).alloc (Nat.le_refl _) _
  have hsz0 : w.heap.size + 1 ≤ (w.alloc (.cells (bsC zD) 30)).heap.size := by simp
  generalize w.alloc (.cells (bsC zD) 30) = W0 at *
  have K0 := Lib.hid k0; have B0 := Lib.hid hB; have HW0 := Lib.hid hsz0
  clear k0 hB hsz0
  by_cases h4 : s.size < 4
  · have h4I : (s.size : Int) < 4 := by omega
    have hres := HY.out
    rw [Mid.resolve, if_pos (by rw [size_toList]; exact h4)] at hres
    obtain ⟨e1, e2⟩ := Prod.mk.inj hres
    subst e1 e2
    clear hres h4
    go_wp2_with (first
      | (refine wp_build_rid (by rfl) (by rfl) ?_)
      | (refine sto_bs infoRid _ zD zD_len _ K0.out (by rw [bsC_size]; exact zD_len) (by rfl) _ _ (by rfl) (by rfl) (by rfl) ?_; intro w7 hw7))
    have hfin : Blk w7 w.heap.size 30 (bsC zD) := by rw [hw7.out]; exact K0.out.row _
    have hfB : Below w.heap.size w w7 := by rw [hw7.out]; exact below_row B0.out _ (Nat.le_refl _) _
    exact bodyPost_ret (results_cell_tmp1 rfl _ _ w.heap.size _ _ _ _ rfl hfin (by rfl) Try.underlying30 (by rw [bsC_size, zD_len]; exact infoRid)) rfl ⟨by rw [enc_default]; rfl, hfB⟩
  · have h4I : ¬ (s.size : Int) < 4 := by omega
    by_cases h64 : 64 < s.size
    · have h64I : (64 : Int) < (s.size : Int) := by omega
      have hres := HY.out
      rw [Mid.resolve, if_neg (by rw [size_toList]; exact h4), if_pos (by rw [size_toList]; exact h64)] at hres
      obtain ⟨e1, e2⟩ := Prod.mk.inj hres
      subst e1 e2
      clear hres h4 h64
      go_wp2_with (first
        | (refine wp_build_rid (by rfl) (by rfl) ?_)
        | (refine sto_bs infoRid _ zD zD_len _ K0.out (by rw [bsC_size]; exact zD_len) (by rfl) _ _ (by rfl) (by rfl) (by rfl) ?_; intro w7 hw7))
      have hfin : Blk w7 w.heap.size 30 (bsC zD) := by rw [hw7.out]; exact K0.out.row _
      have hfB : Below w.heap.size w w7 := by rw [hw7.out]; exact below_row B0.out _ (Nat.le_refl _) _
      exact bodyPost_ret (results_cell_tmp1 rfl _ _ w.heap.size _ _ _ _ rfl hfin (by rfl) Try.underlying30 (by rw [bsC_size, zD_len]; exact infoRid)) rfl ⟨by rw [enc_default]; rfl, hfB⟩
    · have h64I : ¬ (64 : Int) < (s.size : Int) := by omega
      have hres := HY.out
      rw [Mid.resolve, if_neg (by rw [size_toList]; exact h4), if_neg (by rw [size_toList]; exact h64)] at hres
      have HRES := Lib.hid hres
      have H64 := Lib.hid h64
      clear hres h4 h64
      go_wp2_with fail
      go_loopw [6] (fun i wr => ∃ k : Nat, i = .int .i64 k ∧ k ≤ s.size ∧ W0 = wr ∧ Hid ((s.data.toList.take k).any (fun c => !Mid.hxB c) = false)) (fun i _ => s.size - (intOf i).toNat)
      case atStart => exact ⟨0, rfl, Nat.zero_le _, rfl, Lib.hid rfl⟩
      case round =>
        obtain ⟨k, rfl, hk, rfl, hf⟩ := hrel
        by_cases hlt : k < s.size
        · have hkl : k < s.data.toList.length := by rw [size_toList]; exact hlt
          have hst := any_take s.data.toList k hkl (fun c => !Mid.hxB c)
          rw [hf.out, get_toList s k hlt] at hst
          obtain ⟨x, hx⟩ : ∃ x, s[k] = x := ⟨_, rfl⟩
          have i1 := fun w => run_at s k hlt x hx w
          rw [hx] at hst
          simp only [Bool.false_or] at hst
          unfold Mid.hxB at hst
          have HC := Lib.hid (fun w => refdigit_any x w)
          generalize Asc.nib x = z at *
          have HST := Lib.hid hst
          have hltI : (k : Int) < (s.size : Int) := by omega
          clear hst hx hf hkl
          by_cases hneg : z < 0
          · have htrue : s.data.toList.any (fun c => !Mid.hxB c) = true := by
              rw [List.any_eq_true]
              have h2 := HST.out
              rw [decide_eq_false (by omega), show (!false) = true from rfl, List.any_eq_true] at h2
              obtain ⟨y, hy, hy2⟩ := h2
              exact ⟨y, List.mem_of_mem_take hy, hy2⟩
            have hres := HRES.out
            rw [if_pos htrue] at hres
            obtain ⟨e1, e2⟩ := Prod.mk.inj hres
            subst e1 e2
            clear hres htrue
            go_wp2_with fail
            refine (HC.out _).mono ?_
            rintro e w1 ⟨rfl, rfl⟩
            go_wp2_with (first
              | (refine wp_build_rid (by rfl) (by rfl) ?_)
              | (refine sto_bs infoRid _ zD zD_len _ K0.out (by rw [bsC_size]; exact zD_len) (by rfl) _ _ (by rfl) (by rfl) (by rfl) ?_; intro w7 hw7))
            have hfin : Blk w7 w.heap.size 30 (bsC zD) := by rw [hw7.out]; exact K0.out.row _
            have hfB : Below w.heap.size w w7 := by rw [hw7.out]; exact below_row B0.out _ (Nat.le_refl _) _
            exact bodyPost_ret (results_cell_tmp1 rfl _ _ w.heap.size _ _ _ _ rfl hfin (by rfl) Try.underlying30 (by rw [bsC_size, zD_len]; exact infoRid)) rfl ⟨by rw [enc_default]; rfl, hfB⟩
          · have HNX := Lib.hid (show (s.data.toList.take (k + 1)).any (fun c => !Mid.hxB c) = false by unfold Mid.hxB; rw [HST.out, decide_eq_true (by omega)]; rfl)
            go_wp2_with fail
            refine (HC.out _).mono ?_
            rintro e w1 ⟨rfl, rfl⟩
            go_wp2_with fail
            go_roundw
            case rel => exact ⟨k + 1, by go_num, hlt, by first | rfl | trivial, HNX⟩
            case measure => simp [intOf]; omega
        · have hfalse : s.data.toList.any (fun c => !Mid.hxB c) = false := by
            have h := hf.out
            rwa [List.take_of_length_le (by rw [size_toList]; omega)] at h
          have hres := HRES.out
          rw [if_neg (by rw [hfalse]; decide)] at hres
          have hof := Mid.only_fnd s.data.toList ls
          rw [hres] at hof
          have HO := Lib.hid hof
          clear hres hfalse hf hof HRES HY
          obtain ⟨ad, cap, rfl, hlc, hcm, _, hcells⟩ := HV.out
          obtain ⟨n, hnn⟩ : ∃ n, n = ls.length := ⟨_, rfl⟩
          rw [← hnn] at HO ⊢
          have hnI : (n : Int) ≤ 1000000 := by omega
          have HN := Lib.hid hnn; have HCL := Lib.hid hcells
          clear hnn hcells hlc hcm HV
          have h64N : (s.size : Int) ≤ 64 := by omega
          go_wp2_with fail
          go_loopw [7, 8] (fun f i wr => ∃ (k : Nat) (vf : Value), vf = f ∧ i = .int .i64 k ∧ k ≤ n ∧ Hid (OwnI 30 (w.heap.size + 1) wr vf (Mid.fnd s.data.toList ls k)) ∧ Hid (Below (w.heap.size + 1) W0 wr)) (fun _ i _ => n - (intOf i).toNat)
          case atStart => exact ⟨0, _, rfl, rfl, Nat.zero_le _, Lib.hid (World.ownsRow_nil _ _ _ _), Lib.hid (Below.refl _ _)⟩
          case round =>
            obtain ⟨k, vf, rfl, rfl, hk, ho, hbl⟩ := hrel
            by_cases hlt : k < n
            · have hkl : k < ls.length := by rw [← HN.out]; exact hlt
              rcases HCL.out with h0 | ⟨b, off, rfl, hc⟩
              · rw [h0] at hkl; exact absurd hkl (by simp)
              · have hblt : b < w.heap.size := hc.lt (by intro h; rw [h] at hkl; exact absurd hkl (by simp))
                have hrg := ((hc.keep B0.out hblt).keep hbl.out (by omega)).range k hkl
                have hfl := Mid.fnd_len s.data.toList ls k
                obtain ⟨x, hx⟩ : ∃ x, x = ls[k]! := ⟨_, rfl⟩
                have hfs : Mid.fnd s.data.toList ls (k + 1) = if Mid.pre s.data.toList x = true ∧ x ∉ Mid.fnd s.data.toList ls k then Mid.fnd s.data.toList ls k ++ [x] else Mid.fnd s.data.toList ls k := by rw [hx]; rfl
                rw [← hx] at hrg
                obtain ⟨u, hu⟩ : ∃ u : ByteArray, u = ⟨(Asc.hexL x.1).toArray⟩ := ⟨_, rfl⟩
                have hpe := pre_eq2 x s u hu
                have husz : u.size = 64 := by rw [hu]; show (Asc.hexL x.1).toArray.size = 64; simp [Mid.hexL_length, x.2.1]
                have HD := Lib.hid (fun w => refDigits_any x.1 x.2.1 x.2.2 w u hu)
                rw [← encI_arr] at HD
                have HH := Lib.hid (fun W v h => refHas_any v (Mid.fnd s.data.toList ls k) x W (by omega) h)
                have hHR := fun (W : World) (h : Below wr.heap.size wr W) => (hrg : wr.rangeAt b (off + k * 32) (encI x))
                have hbw : b < wr.heap.size := by have := HW0.out; have := hbl.out.size; omega
                have HKEEP := Lib.hid (fun (W : World) (h : Below wr.heap.size wr W) => (show W.rangeAt b (off + k * 32) (encI x) from fun i v hv => (h.cell (p := ⟨b, off + k * 32 + i, none⟩) hbw).trans (hrg i v hv)))
                have HRG := Lib.hid hrg
                have hiX := info_enc infoRid x
                have hle := encI_len x
                generalize Mid.pre s.data.toList x = q at *
                obtain ⟨r, hr⟩ : ∃ r, r = decide (x ∈ Mid.fnd s.data.toList ls k) := ⟨_, rfl⟩
                rw [← hr] at HH
                have hltI : (k : Int) < (n : Int) := by omega
                have HFS := Lib.hid hfs; have HR := Lib.hid hr; have HFL := Lib.hid hfl
                have hu64 : (s.size : Int) ≤ (u.size : Int) := by omega
                clear hfs hr hfl hrg hc hx hkl hu hHR hbw husz
                have hu30 : Try.prog.underlying 30 = some (.array 32 5) := Try.underlying30
                cases q with
                | true =>
                  go_wp2_with (first
                    | (refine wpList_load_mid rfl _ _ rfl b (off + k * 32) (by rfl) (encI x) _ HRG.out hu30 rfl hiX ?_)
                    | (go_at_call 40; refine (HD.out _).mono ?_; rintro e w1 ⟨rfl, hb1⟩; have HB1 := Lib.hid hb1; have HRG1 := Lib.hid (HKEEP.out _ hb1); have HO1 := Lib.hid (ho.out.keep hb1); clear hb1)
                    | (refine ld_mid_g (by rfl) _ _ rfl b (off + k * 32) (by rfl) (encI x) _ HRG1.out hu30 rfl hiX ?_))
                  refine (HH.out _ _ HO1.out.ids).mono ?_
                  rintro e w2 ⟨rfl, hb2⟩
                  have HB2 := Lib.hid (HB1.out.trans (hb2.mono HB1.out.size))
                  have HRG2 := Lib.hid (HKEEP.out _ HB2.out)
                  have HO2 := Lib.hid (ho.out.keep HB2.out)
                  clear hb2
                  have hsw : w.heap.size + 1 ≤ wr.heap.size := Nat.le_trans HW0.out hbl.out.size
                  have HBL2 := Lib.hid (hbl.out.trans (HB2.out.mono hsw))
                  have hs2 : w.heap.size + 1 ≤ w2.heap.size := Nat.le_trans hsw HB2.out.size
                  rename_i K9 hK9
                  refine hK9 _ _ ?_
                  cases r with
                  | true =>
                    have hfs := HFS.out
                    rw [if_neg (fun h => h.2 (of_decide_eq_true HR.out.symm))] at hfs
                    have HF := Lib.hid hfs
                    clear hfs
                    go_wp2_with fail
                    go_roundw
                    case rel => exact ⟨k + 1, vf, rfl, by go_num, hlt, by rw [HF.out]; exact HO2, HBL2⟩
                    case measure => simp [intOf]; omega
                  | false =>
                    have hfs := HFS.out
                    rw [if_pos ⟨by first | rfl | trivial, of_decide_eq_false HR.out.symm⟩] at hfs
                    have HF := Lib.hid hfs
                    obtain ⟨i0, hi0, hz0, hz1, hz2⟩ := info_partsM infoRI
                    have HI0 := Lib.hid (And.intro hi0 (And.intro hz0 (And.intro hz1 hz2)))
                    have HC := Lib.hid (show ∀ C, C = (encI x).toArray → (w2.alloc (.cells C 30)).rangeAt w2.heap.size 0 (encI x) from fun C hC => by rw [hC]; exact encBlk (Blk.fresh w2 _ _))
                    have HLN := Lib.hid (show (Mid.fnd s.data.toList ls k).length ≤ 1000000 by have := HFL.out; omega)
                    have HS2 := Lib.hid hs2
                    have HSZ := Lib.hid (show ∀ o, w.heap.size + 1 ≤ (w2.alloc o).heap.size from fun o => by simp; omega)
                    clear hfs hi0 hz0 hz1 hz2 hs2 hsw
                    generalize Mid.fnd s.data.toList ls k = FK at *
                    go_wp2_with (first
                      | (refine wpList_load_mid rfl _ _ rfl b (off + k * 32) (by rfl) (encI x) _ HRG2.out hu30 rfl hiX ?_)
                      | (refine wpList_append_id Try.underlying42 HI0.out.1 HI0.out.2.1 HI0.out.2.2.1 HI0.out.2.2.2 rfl _ _ rfl (w.heap.size + 1) vf FK (by rfl) (HO2.out.alloc _) w2.heap.size 0 1 x (by rfl) (HC.out _ (fold_enc x)) HLN.out (HSZ.out _) ?_; intro v3 w3 ho3 hg3))
                    go_roundw
                    case rel => exact ⟨k + 1, v3, rfl, by go_num, hlt, by rw [HF.out]; exact ho3, Lib.hid ((HBL2.out.alloc HS2.out _).grown hg3.out (HSZ.out _) (fun j hj => (HO2.out.lt j hj).1))⟩
                    case measure => simp [intOf]; omega
                | false =>
                  have hfs := HFS.out
                  rw [if_neg (fun h => by cases h.1)] at hfs
                  have HF := Lib.hid hfs
                  clear hfs
                  go_wp2_with (first
                    | (refine wpList_load_mid rfl _ _ rfl b (off + k * 32) (by rfl) (encI x) _ HRG.out hu30 rfl hiX ?_)
                    | (go_at_call 40; refine (HD.out _).mono ?_; rintro e w1 ⟨rfl, hb1⟩; have HB1 := Lib.hid hb1; have HO1 := Lib.hid (ho.out.keep hb1); clear hb1))
                  have hsw : w.heap.size + 1 ≤ wr.heap.size := Nat.le_trans HW0.out hbl.out.size
                  go_roundw
                  case rel => exact ⟨k + 1, vf, rfl, by go_num, hlt, by rw [HF.out]; exact HO1, Lib.hid (hbl.out.trans (HB1.out.mono hsw))⟩
                  case measure => simp [intOf]; omega
            · have hkn : k = n := by omega
              have hK := K0.out.keep hbl.out (Nat.lt_succ_self _)
              have hBR := B0.out.trans (hbl.out.mono (Nat.le_succ _))
              have hids := ho.out.ids
              rw [hkn] at hids
              have HKR := Lib.hid hK; have HBR := Lib.hid hBR
              obtain ⟨ad6, cap6, hv6, _, _, _, hc6⟩ := hids
              subst hv6
              generalize Mid.fnd s.data.toList ls n = D at *
              have HC6 := Lib.hid hc6
              clear hc6 ho hbl hK hBR
              by_cases hd0 : D.length = 0
              · have hres := HO.out.1 hd0
                obtain ⟨e1, e2⟩ := Prod.mk.inj hres
                subst e1 e2
                have hd0I : (D.length : Int) = 0 := by omega
                rw [hd0]
                clear hres
                go_wp2_with (first
                  | (refine wp_build_rid (by rfl) (by rfl) ?_)
                  | (refine sto_bs infoRid _ zD zD_len _ HKR.out (by rw [bsC_size]; exact zD_len) (by rfl) _ _ (by rfl) (by rfl) (by rfl) ?_; intro w7 hw7))
                have hfin : Blk w7 w.heap.size 30 (bsC zD) := by rw [hw7.out]; exact HKR.out.row _
                have hfB : Below w.heap.size w w7 := by rw [hw7.out]; exact below_row HBR.out _ (Nat.le_refl _) _
                exact bodyPost_ret (results_cell_tmp1 rfl _ _ w.heap.size _ _ _ _ rfl hfin (by rfl) Try.underlying30 (by rw [bsC_size, zD_len]; exact infoRid)) rfl ⟨by rw [enc_default]; rfl, hfB⟩
              · by_cases hd1 : D.length = 1
                · obtain ⟨x, rfl⟩ := List.length_eq_one_iff.1 hd1
                  have hres := HO.out.2.1 x rfl
                  obtain ⟨e1, e2⟩ := Prod.mk.inj hres
                  subst e1 e2
                  rcases HC6.out with h0 | ⟨b6, off6, rfl, hc6⟩
                  · cases h0
                  · have hrg := hc6.range 0 (by simp)
                    rw [show ([y] : List Mid.Id)[0]! = y from rfl, encI_bsL, show off6 + 0 * 32 = off6 by omega] at hrg
                    have HRG := Lib.hid hrg
                    have HE := Lib.hid (show bsC (nI y.1) = (encI y).toArray from (encI_arr y).symm)
                    have HA := Lib.hid (show (nI y.1).length = 32 by rw [nI_len]; exact y.2.1)
                    have hiA : (Try.prog.info? 30).map (·.size) = some (bsL (nI y.1)).length := by rw [bsL_len, HA.out]; exact infoRid
                    generalize nI y.1 = A at *
                    rw [show ([y] : List Mid.Id).length = 1 from rfl]
                    clear hres hd0 hd1 hrg hc6
                    go_wp2_with (first
                      | (refine wpList_load_mid rfl _ _ rfl b6 off6 (by rfl) (bsL A) _ HRG.out Try.underlying30 rfl hiA ?_)
                      | (refine sto_bs infoRid _ A HA.out _ HKR.out (by rw [bsC_size]; exact zD_len) (by rfl) _ _ (by rfl) (by rfl) (by rfl) ?_; intro w7 hw7))
                    have hfin : Blk w7 w.heap.size 30 (bsC A) := by rw [hw7.out]; exact HKR.out.row _
                    have hfB : Below w.heap.size w w7 := by rw [hw7.out]; exact below_row HBR.out _ (Nat.le_refl _) _
                    exact bodyPost_ret (results_cell_tmp1 rfl _ _ w.heap.size _ _ _ _ rfl hfin (by rfl) Try.underlying30 (by rw [bsC_size, HA.out]; exact infoRid)) rfl ⟨by rw [HE.out]; rfl, hfB⟩
                · have hres := HO.out.2.2 (by omega)
                  obtain ⟨e1, e2⟩ := Prod.mk.inj hres
                  subst e1 e2
                  have hd0I : ¬ (D.length : Int) = 0 := by omega
                  have hd1I : ¬ (D.length : Int) = 1 := by omega
                  clear hres hd0 hd1
                  go_wp2_with (first
                    | (refine wp_build_rid (by rfl) (by rfl) ?_)
                    | (refine sto_bs infoRid _ zD zD_len _ HKR.out (by rw [bsC_size]; exact zD_len) (by rfl) _ _ (by rfl) (by rfl) (by rfl) ?_; intro w7 hw7))
                  have hfin : Blk w7 w.heap.size 30 (bsC zD) := by rw [hw7.out]; exact HKR.out.row _
                  have hfB : Below w.heap.size w w7 := by rw [hw7.out]; exact below_row HBR.out _ (Nat.le_refl _) _
                  exact bodyPost_ret (results_cell_tmp1 rfl _ _ w.heap.size _ _ _ _ rfl hfin (by rfl) Try.underlying30 (by rw [bsC_size, zD_len]; exact infoRid)) rfl ⟨by rw [enc_default]; rfl, hfB⟩
end Go.Proofs.Ytcpiiafnifkahaa
