/- merge: the walk. -/
import Derived.Test.YteoknmdoghemmaaMgPl
import Derived.Test.YteoknmdoghemmaaTo
import Derived.Test.YteoknmdoghemmaaRslvMain
namespace Go.Proofs.Yteoknmdoghemmaa
open Go.RowKit Go.Shelf

def lenV : Value → Nat
  | .slice _ n _ => n
  | _ => 0
/-- a slice from its second element on -/
def tailV (b off n c : Nat) : Value := .slice (if c = 1 then some ⟨b, off, none⟩ else some ⟨b, off + 32, none⟩) (n - 1) (c - 1)
theorem run_tail (b off n c : Nat) (W : World) (hn : 1 ≤ n) : (Instr.sliceAt 41 (.slice (some ⟨b, off, none⟩) n c) (some (.int .i64 1)) none none).run Try.prog W = .ok (tailV b off n c) W := by
  have h1 : (1 : Int) ≤ (n : Int) := by omega
  unfold tailV
  go_simp
theorem yields_tail {ops : Array Oper} {S : World → Prop} {op : Oper} {a : Act} (hw : Region.wanted op (yielded ops a.tmps) = true) (x : Operand) (ho : op.op = .slice 41 x (some (.const (.int .i64 1))) none none)
    (b off n c : Nat) (hx : a.eval x = .slice (some ⟨b, off, none⟩) n c) (hn : 1 ≤ n) : YieldsIf Try.prog ops S op (tailV b off n c) a := by
  have he : a.eval (.const (.int .i64 1)) = .int .i64 1 := rfl
  refine .inl ⟨hw, fun w _ => ?_⟩
  simp [execOp, ho, hx, he, run_tail b off n c w hn, Result.andThen]
theorem ids_tail {W : World} {b off c : Nat} {x : Mid.Id} {P : List Mid.Id} (n : Nat) (hn : n = (x :: P).length) (h : Ids W (.slice (some ⟨b, off, none⟩) n c) (x :: P)) : Ids W (tailV b off n c) P := by
  obtain ⟨ad, cap, hv, h1, h2, _, h4⟩ := h
  injection hv with e1 e2 e3
  subst e1 e3
  have hl : n - 1 = P.length := by rw [hn]; simp
  have hlc : P.length + 1 ≤ c := by simpa using h1
  unfold tailV
  rw [hl]
  refine ⟨_, _, rfl, by omega, by omega, (fun h => by split at h <;> cases h), ?_⟩
  by_cases hp : P = []
  · exact .inl hp
  · have hpl : 0 < P.length := List.length_pos_iff.2 hp
    rcases h4 with h4 | ⟨b', off', hx, hc⟩
    · cases h4
    · cases hx
      refine .inr ⟨b, off + 32, by rw [if_neg (by omega)], fun j hj i v hv => ?_⟩
      have := hc (j + 1) (by simp; omega) i v (by rw [getE _ _ (by simp; omega), List.getElem_cons_succ, ← getE _ _ hj]; exact hv)
      rw [show off + (j + 1) * 32 + i = off + 32 + j * 32 + i by omega] at this
      exact this
theorem step_sto {ops : Array Oper} {o : Oper} {a : Act} {w : World} {K : Act → World → Prop} {Q : Exit → Act → World → Prop} {E : Prop} (hw : Region.wanted o (yielded ops a.tmps) = true) (x y : Operand) (ho : o.op = .store 23 x y)
    (g : Nat) (z : Mid.Id) (hx : a.eval x = .pointer (some ⟨g, 0, none⟩)) (hy : a.eval y = .agg (encI z).toArray) (old : Array Value) (hg : Blk w g 23 old) (hold : old.size = 32)
    (h : ∀ w', Hid (w' = w.setRow g (encI z).toArray) → K (a.put o.dst undef) w') : if Region.wanted o (yielded ops a.tmps) = true then Oper.wp Try.prog o a w K Q else E := by
  rw [if_pos hw]
  exact wp_store_row _ x y ho g _ hx hy 23 old hg (by simpa using info_enc infoId z) (by rw [hold]; simp [encI_len]) (all_oneCell_toArray (encI_one z)) (h _ (Lib.hid rfl))
theorem enc_blk {w : World} {g : Nat} {x : Mid.Id} (h : Blk w g 23 (encI x).toArray) : w.rangeAt g 0 (encI x) := encBlk h

set_option maxRecDepth 100000 in
set_option maxHeartbeats 8000000 in
theorem merge_any (F : Nat) (kf : Bool → Bool → Bool) (eg : ∀ args w, (callFunc F args).run Try.prog w = .ok (.enter F args) w)
    (hF : ∀ p q W, Calls Try.prog F #[.bool p, .bool q] W fun e w' => e = .returned (.bool (kf p q)) ∧ W = w')
    (v1 v2 : Value) (P0 Q0 : List Mid.Id) (w : World) (hlen : P0.length + Q0.length ≤ 1000000) (h1 : Ids w v1 P0) (h2 : Ids w v2 Q0) :
    Calls Try.prog 46 #[v1, v2, .func (.func 19) #[] #[], .func (.func F) #[] #[]] w fun e w' => ∃ v', e = .returned v' ∧ OwnI 23 w.heap.size w' v' (Mid.mg kf P0 Q0) ∧ Below w.heap.size w w' := by
  have HCMP := Lib.hid (fun (x y : Mid.Id) W => (show Calls Try.prog 19 #[.agg (encI x).toArray, .agg (encI y).toArray] W fun e w' => e = .returned (.int .i64 (Mid.cfI x y)) ∧ Below W.heap.size W w' by rw [encI_arr, encI_arr]; exact compare_any x.1 y.1 x.2.1 y.2.1 x.2.2 y.2.2 W))
  have HF := Lib.hid hF
  have hu23 : Try.prog.underlying 23 = some (.array 32 5) := Try.underlying23
  obtain ⟨R, hR⟩ : ∃ R, R = Mid.mg kf P0 Q0 := ⟨_, rfl⟩
  rw [← hR]
  have HR := Lib.hid hR; have H1 := Lib.hid h1; have H2 := Lib.hid h2; have HL := Lib.hid hlen
  clear hR h1 h2 hF hlen
  go_enter Try.func46, Try.ntmps46
  go_wp2_with fail
  go_loopw [0, 1, 9] (fun a b m wr => ∃ (va vb vm : Value) (P Q M : List Mid.Id), va = a ∧ vb = b ∧ vm = m ∧ Hid (Ids w va P) ∧ Hid (Ids w vb Q) ∧ Hid (OwnI 23 w.heap.size wr vm M) ∧ Hid (Below w.heap.size w wr) ∧ Hid (M ++ Mid.mg kf P Q = R) ∧ Hid (M.length + P.length + Q.length ≤ 1000000)) (fun a b _ _ => lenV a + lenV b)
  case atStart => exact ⟨_, _, _, P0, Q0, [], rfl, rfl, rfl, H1, H2, Lib.hid (World.ownsRow_nil _ _ _ _), Lib.hid (Below.refl _ _), Lib.hid HR.out.symm, Lib.hid (by simpa using HL.out)⟩
  case round =>
    clear H1 H2 HR HL
    obtain ⟨va, vb, vm, P, Q, M, rfl, rfl, rfl, hP, hQ, hM, hbl, hRR, hLL⟩ := hrel
    obtain ⟨pa, ca, rfl, hac, hacm, _, hpc⟩ := hP.out
    obtain ⟨pb, cb, rfl, hbc, hbcm, _, hqc⟩ := hQ.out
    rcases P with _ | ⟨x, P⟩
    · rw [show ([] : List Mid.Id).length = 0 from rfl]
      rcases Q with _ | ⟨y, Q⟩
      · rw [show ([] : List Mid.Id).length = 0 from rfl]
        have hR := hRR.out
        rw [Mid.mg, List.append_nil] at hR
        have HRM := Lib.hid hR
        clear hR hRR
        go_wp2_with fail
        go_ret
        exact ⟨_, rfl, by rw [← HRM.out]; exact hM.out, hbl.out⟩
      · have hst : Mid.mg kf [] (y :: Q) = (if kf false true = true then [y] else []) ++ Mid.mg kf [] Q := by rw [Mid.mg]
        obtain ⟨nb, hnb⟩ : ∃ nb, nb = (y :: Q).length := ⟨_, rfl⟩
        rw [← hnb] at hQ ⊢
        have hnbI : (0 : Int) < (nb : Int) := by rw [hnb]; simp
        have hnb1 : 1 ≤ nb := by omega
        have hnb0 : 0 < nb := hnb1
        rcases hqc with h0 | ⟨bb, ob, rfl, hcb⟩
        · cases h0
        have HXB := Lib.hid (fun (W : World) (h : Below w.heap.size w W) => (show W.rangeAt bb ob (encI y) from by
          have h3 := (hcb.keep h (hcb.lt (by simp))).range 0 (by simp)
          rw [show ob + 0 * 32 = ob by omega] at h3
          exact h3))
        have HTB := Lib.hid (ids_tail nb hnb hQ.out)
        have hiY := info_enc infoId y
        have HNB := Lib.hid hnb
        have HQ0 := Lib.hid hQ.out
        clear hcb hnb hQ
        go_upto_region 10 with (fail)
        change Code.wp Try.prog _ _ _ (wr.alloc (.cells (bsC zD) 23))
        have hkn := Blk.fresh wr 23 (bsC zD)
        have hbw := hbl.out.alloc hbl.out.size (.cells (bsC zD) 23)
        have hbr := (Below.refl wr.heap.size wr).alloc (Below.refl wr.heap.size wr).size (.cells (bsC zD) 23)
        obtain ⟨g, hg⟩ : ∃ g, g = wr.heap.size := ⟨_, rfl⟩
        have HG := Lib.hid (show w.heap.size ≤ g ∧ wr.heap.size ≤ g from ⟨by rw [hg]; exact hbl.out.size, by rw [hg]; exact (Below.refl wr.heap.size wr).size⟩)
        have zsz : (bsC zD).size = 32 := by rw [bsC_size]; exact zD_len
        generalize wr.alloc (.cells (bsC zD) 23) = W1 at *
        rw [← hg] at hkn ⊢
        have KN1 := Lib.hid hkn; have BW1 := Lib.hid hbw; have BR1 := Lib.hid hbr
        clear hkn hbw hbr hg
        go_wp2_with fail
        have KD1 := Lib.hid KN1.out.draw; have BD1 := Lib.hid BW1.out.drew; have RD1 := Lib.hid BR1.out.drew
        refine wp_region_held_drew (S := (fun w' => w'.rangeAt bb ob (encI y))) (by kernel_rfl) ?_ (fun hHeld => ?_)
        · exact HXB.out _ BD1.out
        refine wpAnyH_take (i := 0) (v := ?_) rfl (by kernel_rfl) (by kernel_rfl) (by kernel_rfl) (fun _ _ _ h => h) (Or.inl ⟨by rfl, ?_⟩) (by assumption) ?_
        rotate_left
        · (intro w9 _; go_simp; try with_reducible rfl)
        simp only [Act.put, List.getElem_toArray, List.getElem_cons_zero, List.setIfInBounds_toArray, List.set_cons_succ, List.set_cons_zero]
        refine wpAnyH_take (i := 1) (v := ?_) rfl (by kernel_rfl) (by kernel_rfl) (by kernel_rfl) (fun _ _ _ h => h) (Or.inl ⟨by rfl, ?_⟩) (by assumption) ?_
        rotate_left
        · (intro w9 _; go_simp; try with_reducible rfl)
        simp only [Act.put, List.getElem_toArray, List.getElem_cons_succ, List.getElem_cons_zero, List.setIfInBounds_toArray, List.set_cons_succ, List.set_cons_zero]
        refine wpAnyH_take (i := 2) (v := .agg (encI y).toArray) rfl (by kernel_rfl) (by kernel_rfl) (by kernel_rfl) (fun _ _ _ h => h) (yieldsIf_load_mid (by rfl) _ _ rfl _ _ rfl (encI y) _ (fun _ h => h) hu23 rfl hiY) (by assumption) ?_
        simp only [Act.put, List.getElem_toArray, List.getElem_cons_succ, List.getElem_cons_zero, List.setIfInBounds_toArray, List.set_cons_succ, List.set_cons_zero]
        refine wpAnyH_take (i := 3) (v := ?_) rfl (by kernel_rfl) (by kernel_rfl) (by kernel_rfl) (fun _ _ _ h => h) (Or.inl ⟨by rfl, ?_⟩) (by assumption) ?_
        rotate_left
        · (intro w9 _; go_simp; try with_reducible rfl)
        simp only [Act.put, List.getElem_toArray, List.getElem_cons_succ, List.getElem_cons_zero, List.setIfInBounds_toArray, List.set_cons_succ, List.set_cons_zero]
        refine wpAnyH_take (i := 4) (v := tailV bb ob nb cb) rfl (by kernel_rfl) (by kernel_rfl) (by kernel_rfl) (fun _ _ _ h => h) (yields_tail (by rfl) _ rfl bb ob nb cb rfl hnb1) (by assumption) ?_
        simp only [Act.put, List.getElem_toArray, List.getElem_cons_succ, List.getElem_cons_zero, List.setIfInBounds_toArray, List.set_cons_succ, List.set_cons_zero]
        refine wpAnyH_ready (rs := [5]) (by kernel_rfl) (by simp) ?_
        refine AllReadyH.cons rfl (fun K hK => ?_) AllReadyH.nil
        refine step_sto (by rfl) _ _ rfl g y (by rfl) (by rfl) _ KD1.out (by first | exact zsz | simp [encI_len]) ?_
        intro w6 hw6
        have KN2 := Lib.hid (show Blk w6 g 23 (encI y).toArray by rw [hw6.out]; exact KD1.out.row _)
        have BW2 := Lib.hid (show Below w.heap.size w w6 by rw [hw6.out]; exact below_row BD1.out _ HG.out.1 _)
        have BR2 := Lib.hid (show Below wr.heap.size wr w6 by rw [hw6.out]; exact below_row RD1.out _ HG.out.2 _)
        clear hw6
        refine hK.out _ _ (HXB.out _ BW2.out) (fun hHeld => ?_)
        clear hK K
        refine wpAnyH_take (i := 6) (v := ?_) rfl (by kernel_rfl) (by kernel_rfl) (by kernel_rfl) (fun _ _ _ h => h) (Or.inl ⟨by rfl, ?_⟩) (by assumption) ?_
        rotate_left
        · (intro w9 _; go_simp; try with_reducible rfl)
        simp only [Act.put, List.getElem_toArray, List.getElem_cons_succ, List.getElem_cons_zero, List.setIfInBounds_toArray, List.set_cons_succ, List.set_cons_zero]
        refine wpAnyH_done (by kernel_rfl) ?_ _
        clear hHeld
        have HOM := Lib.hid (hM.out.keep BR2.out)
        obtain ⟨q, hq⟩ : ∃ q, q = kf false true := ⟨_, rfl⟩
        have HFK := Lib.hid (fun W => HF.out false true W)
        rw [← hq] at HFK
        have HST := Lib.hid hst
        rw [← hq] at HST
        clear hq
        cases q with
        | true =>
          obtain ⟨i0, hi0, hz0, hz1, hz2⟩ := info_partsM infoI
          have HI0 := Lib.hid (And.intro hi0 (And.intro hz0 (And.intro hz1 hz2)))
          have HC := Lib.hid (show ∀ C, C = (encI y).toArray → (w6.alloc (.cells C 23)).rangeAt w6.heap.size 0 (encI y) from fun C hC => by rw [hC]; exact encBlk (Blk.fresh w6 _ _))
          have HLN := Lib.hid (show M.length ≤ 1000000 by have := hLL.out; omega)
          have HSZ := Lib.hid (show ∀ o, w.heap.size ≤ (w6.alloc o).heap.size from fun o => by have := BW2.out.size; simp; omega)
          have hle := encI_len y
          clear hi0 hz0 hz1 hz2
          go_wp2_with (first
            | (go_at_fn F; refine (HFK.out _).mono ?_; rintro e wk ⟨rfl, rfl⟩)
            | (refine wpList_load_mid rfl _ _ rfl g 0 (by rfl) (encI y) _ (encBlk KN2.out) hu23 rfl (info_enc infoId _) ?_)
            | (refine wpList_append_id Try.underlying41 HI0.out.1 HI0.out.2.1 HI0.out.2.2.1 HI0.out.2.2.2 rfl _ _ rfl w.heap.size vm M (by rfl) (HOM.out.alloc _) w6.heap.size 0 1 y (by rfl) (HC.out _ (fold_enc y)) HLN.out (HSZ.out _) ?_; intro v9 w9 ho9 hg9))
          exact ⟨⟨_, _, _, [], Q, M ++ [y], rfl, rfl, rfl, hP, Lib.hid HTB.out, ho9, Lib.hid ((BW2.out.alloc BW2.out.size _).grown hg9.out (HSZ.out _) (fun j hj => (HOM.out.lt j hj).1)), Lib.hid (by have h := HST.out; simp only [if_true] at h; rw [← hRR.out, h, List.append_assoc]), Lib.hid (by have h := hLL.out; simp at h ⊢; omega)⟩, by simp only [lenV, tailV]; omega⟩
        | false =>
          go_wp2_with (go_at_fn F; refine (HFK.out _).mono ?_; rintro e wk ⟨rfl, rfl⟩)
          exact ⟨⟨_, _, _, [], Q, M, rfl, rfl, rfl, hP, Lib.hid HTB.out, HOM, BW2, Lib.hid (by have h := HST.out; simp only [Bool.false_eq_true, if_false, List.nil_append] at h; rw [← hRR.out, h]), Lib.hid (by have h := hLL.out; simp at h ⊢; omega)⟩, by simp only [lenV, tailV]; omega⟩
    · rcases Q with _ | ⟨y, Q⟩
      · rw [show ([] : List Mid.Id).length = 0 from rfl]
        have hst : Mid.mg kf (x :: P) [] = (if kf true false = true then [x] else []) ++ Mid.mg kf P [] := by rw [Mid.mg]
        obtain ⟨na, hna⟩ : ∃ na, na = (x :: P).length := ⟨_, rfl⟩
        rw [← hna] at hP ⊢
        have hnaI : (0 : Int) < (na : Int) := by rw [hna]; simp
        have hna1 : 1 ≤ na := by omega
        have hna0 : 0 < na := hna1
        rcases hpc with h0 | ⟨ba, oa, rfl, hca⟩
        · cases h0
        have HXA := Lib.hid (fun (W : World) (h : Below w.heap.size w W) => (show W.rangeAt ba oa (encI x) from by
          have h3 := (hca.keep h (hca.lt (by simp))).range 0 (by simp)
          rw [show oa + 0 * 32 = oa by omega] at h3
          exact h3))
        have HTA := Lib.hid (ids_tail na hna hP.out)
        have hiX := info_enc infoId x
        have HNA := Lib.hid hna
        have HP0 := Lib.hid hP.out
        clear hca hna hP
        go_upto_region 10 with (fail)
        change Code.wp Try.prog _ _ _ (wr.alloc (.cells (bsC zD) 23))
        have hkn := Blk.fresh wr 23 (bsC zD)
        have hbw := hbl.out.alloc hbl.out.size (.cells (bsC zD) 23)
        have hbr := (Below.refl wr.heap.size wr).alloc (Below.refl wr.heap.size wr).size (.cells (bsC zD) 23)
        obtain ⟨g, hg⟩ : ∃ g, g = wr.heap.size := ⟨_, rfl⟩
        have HG := Lib.hid (show w.heap.size ≤ g ∧ wr.heap.size ≤ g from ⟨by rw [hg]; exact hbl.out.size, by rw [hg]; exact (Below.refl wr.heap.size wr).size⟩)
        have zsz : (bsC zD).size = 32 := by rw [bsC_size]; exact zD_len
        generalize wr.alloc (.cells (bsC zD) 23) = W1 at *
        rw [← hg] at hkn ⊢
        have KN1 := Lib.hid hkn; have BW1 := Lib.hid hbw; have BR1 := Lib.hid hbr
        clear hkn hbw hbr hg
        go_wp2_with fail
        have KD1 := Lib.hid KN1.out.draw; have BD1 := Lib.hid BW1.out.drew; have RD1 := Lib.hid BR1.out.drew
        refine wp_region_held_drew (S := (fun w' => w'.rangeAt ba oa (encI x))) (by kernel_rfl) ?_ (fun hHeld => ?_)
        · exact HXA.out _ BD1.out
        refine wpAnyH_take (i := 0) (v := ?_) rfl (by kernel_rfl) (by kernel_rfl) (by kernel_rfl) (fun _ _ _ h => h) (Or.inl ⟨by rfl, ?_⟩) (by assumption) ?_
        rotate_left
        · (intro w9 _; go_simp; try with_reducible rfl)
        simp only [Act.put, List.getElem_toArray, List.getElem_cons_zero, List.setIfInBounds_toArray, List.set_cons_succ, List.set_cons_zero]
        refine wpAnyH_take (i := 1) (v := ?_) rfl (by kernel_rfl) (by kernel_rfl) (by kernel_rfl) (fun _ _ _ h => h) (Or.inl ⟨by rfl, ?_⟩) (by assumption) ?_
        rotate_left
        · (intro w9 _; go_simp; try with_reducible rfl)
        simp only [Act.put, List.getElem_toArray, List.getElem_cons_succ, List.getElem_cons_zero, List.setIfInBounds_toArray, List.set_cons_succ, List.set_cons_zero]
        refine wpAnyH_take (i := 2) (v := .agg (encI x).toArray) rfl (by kernel_rfl) (by kernel_rfl) (by kernel_rfl) (fun _ _ _ h => h) (yieldsIf_load_mid (by rfl) _ _ rfl _ _ rfl (encI x) _ (fun _ h => h) hu23 rfl hiX) (by assumption) ?_
        simp only [Act.put, List.getElem_toArray, List.getElem_cons_succ, List.getElem_cons_zero, List.setIfInBounds_toArray, List.set_cons_succ, List.set_cons_zero]
        refine wpAnyH_take (i := 3) (v := ?_) rfl (by kernel_rfl) (by kernel_rfl) (by kernel_rfl) (fun _ _ _ h => h) (Or.inl ⟨by rfl, ?_⟩) (by assumption) ?_
        rotate_left
        · (intro w9 _; go_simp; try with_reducible rfl)
        simp only [Act.put, List.getElem_toArray, List.getElem_cons_succ, List.getElem_cons_zero, List.setIfInBounds_toArray, List.set_cons_succ, List.set_cons_zero]
        refine wpAnyH_take (i := 4) (v := tailV ba oa na ca) rfl (by kernel_rfl) (by kernel_rfl) (by kernel_rfl) (fun _ _ _ h => h) (yields_tail (by rfl) _ rfl ba oa na ca rfl hna1) (by assumption) ?_
        simp only [Act.put, List.getElem_toArray, List.getElem_cons_succ, List.getElem_cons_zero, List.setIfInBounds_toArray, List.set_cons_succ, List.set_cons_zero]
        refine wpAnyH_ready (rs := [5]) (by kernel_rfl) (by simp) ?_
        refine AllReadyH.cons rfl (fun K hK => ?_) AllReadyH.nil
        refine step_sto (by rfl) _ _ rfl g x (by rfl) (by rfl) _ KD1.out (by first | exact zsz | simp [encI_len]) ?_
        intro w6 hw6
        have KN2 := Lib.hid (show Blk w6 g 23 (encI x).toArray by rw [hw6.out]; exact KD1.out.row _)
        have BW2 := Lib.hid (show Below w.heap.size w w6 by rw [hw6.out]; exact below_row BD1.out _ HG.out.1 _)
        have BR2 := Lib.hid (show Below wr.heap.size wr w6 by rw [hw6.out]; exact below_row RD1.out _ HG.out.2 _)
        clear hw6
        refine hK.out _ _ (HXA.out _ BW2.out) (fun hHeld => ?_)
        clear hK K
        refine wpAnyH_take (i := 6) (v := ?_) rfl (by kernel_rfl) (by kernel_rfl) (by kernel_rfl) (fun _ _ _ h => h) (Or.inl ⟨by rfl, ?_⟩) (by assumption) ?_
        rotate_left
        · (intro w9 _; go_simp; try with_reducible rfl)
        simp only [Act.put, List.getElem_toArray, List.getElem_cons_succ, List.getElem_cons_zero, List.setIfInBounds_toArray, List.set_cons_zero]
        refine wpAnyH_done (by kernel_rfl) ?_ _
        clear hHeld
        have HOM := Lib.hid (hM.out.keep BR2.out)
        obtain ⟨q, hq⟩ : ∃ q, q = kf true false := ⟨_, rfl⟩
        have HFK := Lib.hid (fun W => HF.out true false W)
        rw [← hq] at HFK
        have HST := Lib.hid hst
        rw [← hq] at HST
        clear hq
        cases q with
        | true =>
          obtain ⟨i0, hi0, hz0, hz1, hz2⟩ := info_partsM infoI
          have HI0 := Lib.hid (And.intro hi0 (And.intro hz0 (And.intro hz1 hz2)))
          have HC := Lib.hid (show ∀ C, C = (encI x).toArray → (w6.alloc (.cells C 23)).rangeAt w6.heap.size 0 (encI x) from fun C hC => by rw [hC]; exact encBlk (Blk.fresh w6 _ _))
          have HLN := Lib.hid (show M.length ≤ 1000000 by have := hLL.out; omega)
          have HSZ := Lib.hid (show ∀ o, w.heap.size ≤ (w6.alloc o).heap.size from fun o => by have := BW2.out.size; simp; omega)
          have hle := encI_len x
          clear hi0 hz0 hz1 hz2
          go_wp2_with (first
            | (go_at_fn F; refine (HFK.out _).mono ?_; rintro e wk ⟨rfl, rfl⟩)
            | (refine wpList_load_mid rfl _ _ rfl g 0 (by rfl) (encI x) _ (encBlk KN2.out) hu23 rfl (info_enc infoId _) ?_)
            | (refine wpList_append_id Try.underlying41 HI0.out.1 HI0.out.2.1 HI0.out.2.2.1 HI0.out.2.2.2 rfl _ _ rfl w.heap.size vm M (by rfl) (HOM.out.alloc _) w6.heap.size 0 1 x (by rfl) (HC.out _ (fold_enc x)) HLN.out (HSZ.out _) ?_; intro v9 w9 ho9 hg9))
          exact ⟨⟨_, _, _, P, [], M ++ [x], rfl, rfl, rfl, Lib.hid HTA.out, hQ, ho9, Lib.hid ((BW2.out.alloc BW2.out.size _).grown hg9.out (HSZ.out _) (fun j hj => (HOM.out.lt j hj).1)), Lib.hid (by have h := HST.out; simp only [if_true] at h; rw [← hRR.out, h, List.append_assoc]), Lib.hid (by have h := hLL.out; simp at h ⊢; omega)⟩, by simp only [lenV, tailV]; omega⟩
        | false =>
          go_wp2_with (go_at_fn F; refine (HFK.out _).mono ?_; rintro e wk ⟨rfl, rfl⟩)
          exact ⟨⟨_, _, _, P, [], M, rfl, rfl, rfl, Lib.hid HTA.out, hQ, HOM, BW2, Lib.hid (by have h := HST.out; simp only [Bool.false_eq_true, if_false, List.nil_append] at h; rw [← hRR.out, h]), Lib.hid (by have h := hLL.out; simp at h ⊢; omega)⟩, by simp only [lenV, tailV]; omega⟩
      · obtain ⟨na, hna⟩ : ∃ na, na = (x :: P).length := ⟨_, rfl⟩
        rw [← hna] at hP ⊢
        have hnaI : (0 : Int) < (na : Int) := by rw [hna]; simp
        have hna1 : 1 ≤ na := by omega
        have hna0 : 0 < na := hna1
        rcases hpc with h0 | ⟨ba, oa, rfl, hca⟩
        · cases h0
        have HXA := Lib.hid (fun (W : World) (h : Below w.heap.size w W) => (show W.rangeAt ba oa (encI x) from by
          have h3 := (hca.keep h (hca.lt (by simp))).range 0 (by simp)
          rw [show oa + 0 * 32 = oa by omega] at h3
          exact h3))
        have HTA := Lib.hid (ids_tail na hna hP.out)
        have hiX := info_enc infoId x
        have HNA := Lib.hid hna
        have HP0 := Lib.hid hP.out
        clear hca hna hP
        obtain ⟨nb, hnb⟩ : ∃ nb, nb = (y :: Q).length := ⟨_, rfl⟩
        rw [← hnb] at hQ ⊢
        have hnbI : (0 : Int) < (nb : Int) := by rw [hnb]; simp
        have hnb1 : 1 ≤ nb := by omega
        have hnb0 : 0 < nb := hnb1
        rcases hqc with h0 | ⟨bb, ob, rfl, hcb⟩
        · cases h0
        have HXB := Lib.hid (fun (W : World) (h : Below w.heap.size w W) => (show W.rangeAt bb ob (encI y) from by
          have h3 := (hcb.keep h (hcb.lt (by simp))).range 0 (by simp)
          rw [show ob + 0 * 32 = ob by omega] at h3
          exact h3))
        have HTB := Lib.hid (ids_tail nb hnb hQ.out)
        have hiY := info_enc infoId y
        have HNB := Lib.hid hnb
        have HQ0 := Lib.hid hQ.out
        clear hcb hnb hQ
        have HCM := Lib.hid (fun W => HCMP.out x y W)
        have hBD := hbl.out.drew
        have HBD := Lib.hid hBD
        clear hBD
        rcases Mid.cfI_range x y with ho | ho | ho
        · have hst : Mid.mg kf (x :: P) (y :: Q) = (if kf true false = true then [x] else []) ++ Mid.mg kf P (y :: Q) := by rw [Mid.mg, if_pos (by omega)]
          rw [ho] at HCM
          clear ho
          go_wp2_with fail
          refine wp_region_held_drew (S := (fun w' => w'.rangeAt ba oa (encI x) ∧ w'.rangeAt bb ob (encI y))) (by kernel_rfl) ?_ (fun hHeld => ?_)
          · exact ⟨HXA.out _ HBD.out, HXB.out _ HBD.out⟩
          refine wpAnyH_take (i := 0) (v := ?_) rfl (by kernel_rfl) (by kernel_rfl) (by kernel_rfl) (fun _ _ _ h => h) (Or.inl ⟨by rfl, ?_⟩) (by assumption) ?_
          rotate_left
          · (intro w9 _; go_simp; try with_reducible rfl)
          simp only [Act.put, List.getElem_toArray, List.getElem_cons_zero, List.setIfInBounds_toArray, List.set_cons_succ, List.set_cons_zero]
          refine wpAnyH_take (i := 1) (v := ?_) rfl (by kernel_rfl) (by kernel_rfl) (by kernel_rfl) (fun _ _ _ h => h) (Or.inl ⟨by rfl, ?_⟩) (by assumption) ?_
          rotate_left
          · (intro w9 _; go_simp; try with_reducible rfl)
          simp only [Act.put, List.getElem_toArray, List.getElem_cons_succ, List.getElem_cons_zero, List.setIfInBounds_toArray, List.set_cons_succ, List.set_cons_zero]
          refine wpAnyH_take (i := 2) (v := ?_) rfl (by kernel_rfl) (by kernel_rfl) (by kernel_rfl) (fun _ _ _ h => h) (Or.inl ⟨by rfl, ?_⟩) (by assumption) ?_
          rotate_left
          · (intro w9 _; go_simp; try with_reducible rfl)
          simp only [Act.put, List.getElem_toArray, List.getElem_cons_succ, List.getElem_cons_zero, List.setIfInBounds_toArray, List.set_cons_succ, List.set_cons_zero]
          refine wpAnyH_take (i := 3) (v := .agg (encI x).toArray) rfl (by kernel_rfl) (by kernel_rfl) (by kernel_rfl) (fun _ _ _ h => h) (yieldsIf_load_mid (by rfl) _ _ rfl _ _ rfl (encI x) _ (fun _ h => h.1) hu23 rfl hiX) (by assumption) ?_
          simp only [Act.put, List.getElem_toArray, List.getElem_cons_succ, List.getElem_cons_zero, List.setIfInBounds_toArray, List.set_cons_succ, List.set_cons_zero]
          refine wpAnyH_take (i := 4) (v := ?_) rfl (by kernel_rfl) (by kernel_rfl) (by kernel_rfl) (fun _ _ _ h => h) (Or.inl ⟨by rfl, ?_⟩) (by assumption) ?_
          rotate_left
          · (intro w9 _; go_simp; try with_reducible rfl)
          simp only [Act.put, List.getElem_toArray, List.getElem_cons_succ, List.getElem_cons_zero, List.setIfInBounds_toArray, List.set_cons_succ, List.set_cons_zero]
          refine wpAnyH_take (i := 5) (v := ?_) rfl (by kernel_rfl) (by kernel_rfl) (by kernel_rfl) (fun _ _ _ h => h) (Or.inl ⟨by rfl, ?_⟩) (by assumption) ?_
          rotate_left
          · (intro w9 _; go_simp; try with_reducible rfl)
          simp only [Act.put, List.getElem_toArray, List.getElem_cons_succ, List.getElem_cons_zero, List.setIfInBounds_toArray, List.set_cons_succ, List.set_cons_zero]
          refine wpAnyH_take (i := 6) (v := .agg (encI y).toArray) rfl (by kernel_rfl) (by kernel_rfl) (by kernel_rfl) (fun _ _ _ h => h) (yieldsIf_load_mid (by rfl) _ _ rfl _ _ rfl (encI y) _ (fun _ h => h.2) hu23 rfl hiY) (by assumption) ?_
          simp only [Act.put, List.getElem_toArray, List.getElem_cons_succ, List.getElem_cons_zero, List.setIfInBounds_toArray, List.set_cons_succ, List.set_cons_zero]
          refine wpAnyH_ready (rs := [7]) (by kernel_rfl) (by simp) ?_
          refine AllReadyH.cons rfl (fun K hK => ?_) AllReadyH.nil
          go_simp
          refine (HCM.out _).mono ?_
          rintro e w5 ⟨rfl, hb5⟩
          have BC := Lib.hid (HBD.out.trans (hb5.mono HBD.out.size)); have RC := Lib.hid ((Below.refl wr.heap.size wr).drew.trans hb5)
          clear hb5
          refine hK.out _ _ ⟨HXA.out _ BC.out, HXB.out _ BC.out⟩ (fun hHeld => ?_)
          clear hK K
          refine wpAnyH_take (i := 8) (v := ?_) rfl (by kernel_rfl) (by kernel_rfl) (by kernel_rfl) (fun _ _ _ h => h) (Or.inl ⟨by rfl, ?_⟩) (by assumption) ?_
          rotate_left
          · (intro w9 _; go_simp; try with_reducible rfl)
          simp only [Act.put, List.getElem_toArray, List.getElem_cons_succ, List.getElem_cons_zero, List.setIfInBounds_toArray, List.set_cons_succ, List.set_cons_zero]
          refine wpAnyH_done (by kernel_rfl) ?_ _
          clear hHeld
          go_wp2_with fail
          go_upto_region 10 with (fail)
          change Code.wp Try.prog _ _ _ (w5.alloc (.cells (bsC zD) 23))
          have hkn := Blk.fresh w5 23 (bsC zD)
          have hbw := BC.out.alloc BC.out.size (.cells (bsC zD) 23)
          have hbr := RC.out.alloc RC.out.size (.cells (bsC zD) 23)
          obtain ⟨g, hg⟩ : ∃ g, g = w5.heap.size := ⟨_, rfl⟩
          have HG := Lib.hid (show w.heap.size ≤ g ∧ wr.heap.size ≤ g from ⟨by rw [hg]; exact BC.out.size, by rw [hg]; exact RC.out.size⟩)
          have zsz : (bsC zD).size = 32 := by rw [bsC_size]; exact zD_len
          generalize w5.alloc (.cells (bsC zD) 23) = W1 at *
          rw [← hg] at hkn ⊢
          have KN1 := Lib.hid hkn; have BW1 := Lib.hid hbw; have BR1 := Lib.hid hbr
          clear hkn hbw hbr hg
          go_wp2_with fail
          have KD1 := Lib.hid KN1.out.draw; have BD1 := Lib.hid BW1.out.drew; have RD1 := Lib.hid BR1.out.drew
          refine wp_region_held_drew (S := (fun w' => w'.rangeAt ba oa (encI x))) (by kernel_rfl) ?_ (fun hHeld => ?_)
          · exact HXA.out _ BD1.out
          refine wpAnyH_take (i := 0) (v := ?_) rfl (by kernel_rfl) (by kernel_rfl) (by kernel_rfl) (fun _ _ _ h => h) (Or.inl ⟨by rfl, ?_⟩) (by assumption) ?_
          rotate_left
          · (intro w9 _; go_simp; try with_reducible rfl)
          simp only [Act.put, List.getElem_toArray, List.getElem_cons_zero, List.setIfInBounds_toArray, List.set_cons_succ, List.set_cons_zero]
          refine wpAnyH_take (i := 1) (v := ?_) rfl (by kernel_rfl) (by kernel_rfl) (by kernel_rfl) (fun _ _ _ h => h) (Or.inl ⟨by rfl, ?_⟩) (by assumption) ?_
          rotate_left
          · (intro w9 _; go_simp; try with_reducible rfl)
          simp only [Act.put, List.getElem_toArray, List.getElem_cons_succ, List.getElem_cons_zero, List.setIfInBounds_toArray, List.set_cons_succ, List.set_cons_zero]
          refine wpAnyH_take (i := 2) (v := .agg (encI x).toArray) rfl (by kernel_rfl) (by kernel_rfl) (by kernel_rfl) (fun _ _ _ h => h) (yieldsIf_load_mid (by rfl) _ _ rfl _ _ rfl (encI x) _ (fun _ h => h) hu23 rfl hiX) (by assumption) ?_
          simp only [Act.put, List.getElem_toArray, List.getElem_cons_succ, List.getElem_cons_zero, List.setIfInBounds_toArray, List.set_cons_succ, List.set_cons_zero]
          refine wpAnyH_take (i := 3) (v := ?_) rfl (by kernel_rfl) (by kernel_rfl) (by kernel_rfl) (fun _ _ _ h => h) (Or.inl ⟨by rfl, ?_⟩) (by assumption) ?_
          rotate_left
          · (intro w9 _; go_simp; try with_reducible rfl)
          simp only [Act.put, List.getElem_toArray, List.getElem_cons_succ, List.getElem_cons_zero, List.setIfInBounds_toArray, List.set_cons_succ, List.set_cons_zero]
          refine wpAnyH_take (i := 4) (v := tailV ba oa na ca) rfl (by kernel_rfl) (by kernel_rfl) (by kernel_rfl) (fun _ _ _ h => h) (yields_tail (by rfl) _ rfl ba oa na ca rfl hna1) (by assumption) ?_
          simp only [Act.put, List.getElem_toArray, List.getElem_cons_succ, List.getElem_cons_zero, List.setIfInBounds_toArray, List.set_cons_succ, List.set_cons_zero]
          refine wpAnyH_ready (rs := [5]) (by kernel_rfl) (by simp) ?_
          refine AllReadyH.cons rfl (fun K hK => ?_) AllReadyH.nil
          refine step_sto (by rfl) _ _ rfl g x (by rfl) (by rfl) _ KD1.out (by first | exact zsz | simp [encI_len]) ?_
          intro w6 hw6
          have KN2 := Lib.hid (show Blk w6 g 23 (encI x).toArray by rw [hw6.out]; exact KD1.out.row _)
          have BW2 := Lib.hid (show Below w.heap.size w w6 by rw [hw6.out]; exact below_row BD1.out _ HG.out.1 _)
          have BR2 := Lib.hid (show Below wr.heap.size wr w6 by rw [hw6.out]; exact below_row RD1.out _ HG.out.2 _)
          clear hw6
          refine hK.out _ _ (HXA.out _ BW2.out) (fun hHeld => ?_)
          clear hK K
          refine wpAnyH_take (i := 6) (v := ?_) rfl (by kernel_rfl) (by kernel_rfl) (by kernel_rfl) (fun _ _ _ h => h) (Or.inl ⟨by rfl, ?_⟩) (by assumption) ?_
          rotate_left
          · (intro w9 _; go_simp; try with_reducible rfl)
          simp only [Act.put, List.getElem_toArray, List.getElem_cons_succ, List.getElem_cons_zero, List.setIfInBounds_toArray, List.set_cons_zero]
          refine wpAnyH_done (by kernel_rfl) ?_ _
          clear hHeld
          have HOM := Lib.hid (hM.out.keep BR2.out)
          obtain ⟨q, hq⟩ : ∃ q, q = kf true false := ⟨_, rfl⟩
          have HFK := Lib.hid (fun W => HF.out true false W)
          rw [← hq] at HFK
          have HST := Lib.hid hst
          rw [← hq] at HST
          clear hq
          cases q with
          | true =>
            obtain ⟨i0, hi0, hz0, hz1, hz2⟩ := info_partsM infoI
            have HI0 := Lib.hid (And.intro hi0 (And.intro hz0 (And.intro hz1 hz2)))
            have HC := Lib.hid (show ∀ C, C = (encI x).toArray → (w6.alloc (.cells C 23)).rangeAt w6.heap.size 0 (encI x) from fun C hC => by rw [hC]; exact encBlk (Blk.fresh w6 _ _))
            have HLN := Lib.hid (show M.length ≤ 1000000 by have := hLL.out; omega)
            have HSZ := Lib.hid (show ∀ o, w.heap.size ≤ (w6.alloc o).heap.size from fun o => by have := BW2.out.size; simp; omega)
            have hle := encI_len x
            clear hi0 hz0 hz1 hz2
            go_wp2_with (first
              | (go_at_fn F; refine (HFK.out _).mono ?_; rintro e wk ⟨rfl, rfl⟩)
              | (refine wpList_load_mid rfl _ _ rfl g 0 (by rfl) (encI x) _ (encBlk KN2.out) hu23 rfl (info_enc infoId _) ?_)
              | (refine wpList_append_id Try.underlying41 HI0.out.1 HI0.out.2.1 HI0.out.2.2.1 HI0.out.2.2.2 rfl _ _ rfl w.heap.size vm M (by rfl) (HOM.out.alloc _) w6.heap.size 0 1 x (by rfl) (HC.out _ (fold_enc x)) HLN.out (HSZ.out _) ?_; intro v9 w9 ho9 hg9))
            exact ⟨⟨_, _, _, P, (y :: Q), M ++ [x], rfl, rfl, rfl, Lib.hid HTA.out, HQ0, ho9, Lib.hid ((BW2.out.alloc BW2.out.size _).grown hg9.out (HSZ.out _) (fun j hj => (HOM.out.lt j hj).1)), Lib.hid (by have h := HST.out; simp only [if_true] at h; rw [← hRR.out, h, List.append_assoc]), Lib.hid (by have h := hLL.out; simp at h ⊢; omega)⟩, by simp only [lenV, tailV]; omega⟩
          | false =>
            go_wp2_with (go_at_fn F; refine (HFK.out _).mono ?_; rintro e wk ⟨rfl, rfl⟩)
            exact ⟨⟨_, _, _, P, (y :: Q), M, rfl, rfl, rfl, Lib.hid HTA.out, HQ0, HOM, BW2, Lib.hid (by have h := HST.out; simp only [Bool.false_eq_true, if_false, List.nil_append] at h; rw [← hRR.out, h]), Lib.hid (by have h := hLL.out; simp at h ⊢; omega)⟩, by simp only [lenV, tailV]; omega⟩
        · have hst : Mid.mg kf (x :: P) (y :: Q) = (if kf true true = true then [y] else []) ++ Mid.mg kf P Q := by rw [Mid.mg, if_neg (by omega), if_neg (by omega)]
          rw [ho] at HCM
          clear ho
          go_wp2_with fail
          refine wp_region_held_drew (S := (fun w' => w'.rangeAt ba oa (encI x) ∧ w'.rangeAt bb ob (encI y))) (by kernel_rfl) ?_ (fun hHeld => ?_)
          · exact ⟨HXA.out _ HBD.out, HXB.out _ HBD.out⟩
          refine wpAnyH_take (i := 0) (v := ?_) rfl (by kernel_rfl) (by kernel_rfl) (by kernel_rfl) (fun _ _ _ h => h) (Or.inl ⟨by rfl, ?_⟩) (by assumption) ?_
          rotate_left
          · (intro w9 _; go_simp; try with_reducible rfl)
          simp only [Act.put, List.getElem_toArray, List.getElem_cons_zero, List.setIfInBounds_toArray, List.set_cons_succ, List.set_cons_zero]
          refine wpAnyH_take (i := 1) (v := ?_) rfl (by kernel_rfl) (by kernel_rfl) (by kernel_rfl) (fun _ _ _ h => h) (Or.inl ⟨by rfl, ?_⟩) (by assumption) ?_
          rotate_left
          · (intro w9 _; go_simp; try with_reducible rfl)
          simp only [Act.put, List.getElem_toArray, List.getElem_cons_succ, List.getElem_cons_zero, List.setIfInBounds_toArray, List.set_cons_succ, List.set_cons_zero]
          refine wpAnyH_take (i := 2) (v := ?_) rfl (by kernel_rfl) (by kernel_rfl) (by kernel_rfl) (fun _ _ _ h => h) (Or.inl ⟨by rfl, ?_⟩) (by assumption) ?_
          rotate_left
          · (intro w9 _; go_simp; try with_reducible rfl)
          simp only [Act.put, List.getElem_toArray, List.getElem_cons_succ, List.getElem_cons_zero, List.setIfInBounds_toArray, List.set_cons_succ, List.set_cons_zero]
          refine wpAnyH_take (i := 3) (v := .agg (encI x).toArray) rfl (by kernel_rfl) (by kernel_rfl) (by kernel_rfl) (fun _ _ _ h => h) (yieldsIf_load_mid (by rfl) _ _ rfl _ _ rfl (encI x) _ (fun _ h => h.1) hu23 rfl hiX) (by assumption) ?_
          simp only [Act.put, List.getElem_toArray, List.getElem_cons_succ, List.getElem_cons_zero, List.setIfInBounds_toArray, List.set_cons_succ, List.set_cons_zero]
          refine wpAnyH_take (i := 4) (v := ?_) rfl (by kernel_rfl) (by kernel_rfl) (by kernel_rfl) (fun _ _ _ h => h) (Or.inl ⟨by rfl, ?_⟩) (by assumption) ?_
          rotate_left
          · (intro w9 _; go_simp; try with_reducible rfl)
          simp only [Act.put, List.getElem_toArray, List.getElem_cons_succ, List.getElem_cons_zero, List.setIfInBounds_toArray, List.set_cons_succ, List.set_cons_zero]
          refine wpAnyH_take (i := 5) (v := ?_) rfl (by kernel_rfl) (by kernel_rfl) (by kernel_rfl) (fun _ _ _ h => h) (Or.inl ⟨by rfl, ?_⟩) (by assumption) ?_
          rotate_left
          · (intro w9 _; go_simp; try with_reducible rfl)
          simp only [Act.put, List.getElem_toArray, List.getElem_cons_succ, List.getElem_cons_zero, List.setIfInBounds_toArray, List.set_cons_succ, List.set_cons_zero]
          refine wpAnyH_take (i := 6) (v := .agg (encI y).toArray) rfl (by kernel_rfl) (by kernel_rfl) (by kernel_rfl) (fun _ _ _ h => h) (yieldsIf_load_mid (by rfl) _ _ rfl _ _ rfl (encI y) _ (fun _ h => h.2) hu23 rfl hiY) (by assumption) ?_
          simp only [Act.put, List.getElem_toArray, List.getElem_cons_succ, List.getElem_cons_zero, List.setIfInBounds_toArray, List.set_cons_succ, List.set_cons_zero]
          refine wpAnyH_ready (rs := [7]) (by kernel_rfl) (by simp) ?_
          refine AllReadyH.cons rfl (fun K hK => ?_) AllReadyH.nil
          go_simp
          refine (HCM.out _).mono ?_
          rintro e w5 ⟨rfl, hb5⟩
          have BC := Lib.hid (HBD.out.trans (hb5.mono HBD.out.size)); have RC := Lib.hid ((Below.refl wr.heap.size wr).drew.trans hb5)
          clear hb5
          refine hK.out _ _ ⟨HXA.out _ BC.out, HXB.out _ BC.out⟩ (fun hHeld => ?_)
          clear hK K
          refine wpAnyH_take (i := 8) (v := ?_) rfl (by kernel_rfl) (by kernel_rfl) (by kernel_rfl) (fun _ _ _ h => h) (Or.inl ⟨by rfl, ?_⟩) (by assumption) ?_
          rotate_left
          · (intro w9 _; go_simp; try with_reducible rfl)
          simp only [Act.put, List.getElem_toArray, List.getElem_cons_succ, List.getElem_cons_zero, List.setIfInBounds_toArray, List.set_cons_succ, List.set_cons_zero]
          refine wpAnyH_done (by kernel_rfl) ?_ _
          clear hHeld
          go_wp2_with fail
          go_upto_region 10 with (fail)
          change Code.wp Try.prog _ _ _ (w5.alloc (.cells (bsC zD) 23))
          have hkn := Blk.fresh w5 23 (bsC zD)
          have hbw := BC.out.alloc BC.out.size (.cells (bsC zD) 23)
          have hbr := RC.out.alloc RC.out.size (.cells (bsC zD) 23)
          obtain ⟨g, hg⟩ : ∃ g, g = w5.heap.size := ⟨_, rfl⟩
          have HG := Lib.hid (show w.heap.size ≤ g ∧ wr.heap.size ≤ g from ⟨by rw [hg]; exact BC.out.size, by rw [hg]; exact RC.out.size⟩)
          have zsz : (bsC zD).size = 32 := by rw [bsC_size]; exact zD_len
          generalize w5.alloc (.cells (bsC zD) 23) = W1 at *
          rw [← hg] at hkn ⊢
          have KN1 := Lib.hid hkn; have BW1 := Lib.hid hbw; have BR1 := Lib.hid hbr
          clear hkn hbw hbr hg
          go_wp2_with fail
          have KD1 := Lib.hid KN1.out.draw; have BD1 := Lib.hid BW1.out.drew; have RD1 := Lib.hid BR1.out.drew
          refine wp_region_held_drew (S := (fun w' => w'.rangeAt ba oa (encI x))) (by kernel_rfl) ?_ (fun hHeld => ?_)
          · exact HXA.out _ BD1.out
          refine wpAnyH_take (i := 0) (v := ?_) rfl (by kernel_rfl) (by kernel_rfl) (by kernel_rfl) (fun _ _ _ h => h) (Or.inl ⟨by rfl, ?_⟩) (by assumption) ?_
          rotate_left
          · (intro w9 _; go_simp; try with_reducible rfl)
          simp only [Act.put, List.getElem_toArray, List.getElem_cons_zero, List.setIfInBounds_toArray, List.set_cons_succ, List.set_cons_zero]
          refine wpAnyH_take (i := 1) (v := ?_) rfl (by kernel_rfl) (by kernel_rfl) (by kernel_rfl) (fun _ _ _ h => h) (Or.inl ⟨by rfl, ?_⟩) (by assumption) ?_
          rotate_left
          · (intro w9 _; go_simp; try with_reducible rfl)
          simp only [Act.put, List.getElem_toArray, List.getElem_cons_succ, List.getElem_cons_zero, List.setIfInBounds_toArray, List.set_cons_succ, List.set_cons_zero]
          refine wpAnyH_take (i := 2) (v := .agg (encI x).toArray) rfl (by kernel_rfl) (by kernel_rfl) (by kernel_rfl) (fun _ _ _ h => h) (yieldsIf_load_mid (by rfl) _ _ rfl _ _ rfl (encI x) _ (fun _ h => h) hu23 rfl hiX) (by assumption) ?_
          simp only [Act.put, List.getElem_toArray, List.getElem_cons_succ, List.getElem_cons_zero, List.setIfInBounds_toArray, List.set_cons_succ, List.set_cons_zero]
          refine wpAnyH_take (i := 3) (v := ?_) rfl (by kernel_rfl) (by kernel_rfl) (by kernel_rfl) (fun _ _ _ h => h) (Or.inl ⟨by rfl, ?_⟩) (by assumption) ?_
          rotate_left
          · (intro w9 _; go_simp; try with_reducible rfl)
          simp only [Act.put, List.getElem_toArray, List.getElem_cons_succ, List.getElem_cons_zero, List.setIfInBounds_toArray, List.set_cons_succ, List.set_cons_zero]
          refine wpAnyH_take (i := 4) (v := tailV ba oa na ca) rfl (by kernel_rfl) (by kernel_rfl) (by kernel_rfl) (fun _ _ _ h => h) (yields_tail (by rfl) _ rfl ba oa na ca rfl hna1) (by assumption) ?_
          simp only [Act.put, List.getElem_toArray, List.getElem_cons_succ, List.getElem_cons_zero, List.setIfInBounds_toArray, List.set_cons_succ, List.set_cons_zero]
          refine wpAnyH_ready (rs := [5]) (by kernel_rfl) (by simp) ?_
          refine AllReadyH.cons rfl (fun K hK => ?_) AllReadyH.nil
          refine step_sto (by rfl) _ _ rfl g x (by rfl) (by rfl) _ KD1.out (by first | exact zsz | simp [encI_len]) ?_
          intro w6 hw6
          have KN2 := Lib.hid (show Blk w6 g 23 (encI x).toArray by rw [hw6.out]; exact KD1.out.row _)
          have BW2 := Lib.hid (show Below w.heap.size w w6 by rw [hw6.out]; exact below_row BD1.out _ HG.out.1 _)
          have BR2 := Lib.hid (show Below wr.heap.size wr w6 by rw [hw6.out]; exact below_row RD1.out _ HG.out.2 _)
          clear hw6
          refine hK.out _ _ (HXA.out _ BW2.out) (fun hHeld => ?_)
          clear hK K
          refine wpAnyH_take (i := 6) (v := ?_) rfl (by kernel_rfl) (by kernel_rfl) (by kernel_rfl) (fun _ _ _ h => h) (Or.inl ⟨by rfl, ?_⟩) (by assumption) ?_
          rotate_left
          · (intro w9 _; go_simp; try with_reducible rfl)
          simp only [Act.put, List.getElem_toArray, List.getElem_cons_succ, List.getElem_cons_zero, List.setIfInBounds_toArray, List.set_cons_zero]
          refine wpAnyH_done (by kernel_rfl) ?_ _
          clear hHeld
          go_wp2_with fail
          have KD2 := Lib.hid KN2.out.draw; have BD2 := Lib.hid BW2.out.drew; have RD2 := Lib.hid BR2.out.drew
          refine wp_region_held_drew (S := (fun w' => w'.rangeAt bb ob (encI y))) (by kernel_rfl) ?_ (fun hHeld => ?_)
          · exact HXB.out _ BD2.out
          refine wpAnyH_take (i := 0) (v := ?_) rfl (by kernel_rfl) (by kernel_rfl) (by kernel_rfl) (fun _ _ _ h => h) (Or.inl ⟨by rfl, ?_⟩) (by assumption) ?_
          rotate_left
          · (intro w9 _; go_simp; try with_reducible rfl)
          simp only [Act.put, List.getElem_toArray, List.getElem_cons_zero, List.setIfInBounds_toArray, List.set_cons_succ, List.set_cons_zero]
          refine wpAnyH_take (i := 1) (v := ?_) rfl (by kernel_rfl) (by kernel_rfl) (by kernel_rfl) (fun _ _ _ h => h) (Or.inl ⟨by rfl, ?_⟩) (by assumption) ?_
          rotate_left
          · (intro w9 _; go_simp; try with_reducible rfl)
          simp only [Act.put, List.getElem_toArray, List.getElem_cons_succ, List.getElem_cons_zero, List.setIfInBounds_toArray, List.set_cons_succ, List.set_cons_zero]
          refine wpAnyH_take (i := 2) (v := .agg (encI y).toArray) rfl (by kernel_rfl) (by kernel_rfl) (by kernel_rfl) (fun _ _ _ h => h) (yieldsIf_load_mid (by rfl) _ _ rfl _ _ rfl (encI y) _ (fun _ h => h) hu23 rfl hiY) (by assumption) ?_
          simp only [Act.put, List.getElem_toArray, List.getElem_cons_succ, List.getElem_cons_zero, List.setIfInBounds_toArray, List.set_cons_succ, List.set_cons_zero]
          refine wpAnyH_take (i := 3) (v := ?_) rfl (by kernel_rfl) (by kernel_rfl) (by kernel_rfl) (fun _ _ _ h => h) (Or.inl ⟨by rfl, ?_⟩) (by assumption) ?_
          rotate_left
          · (intro w9 _; go_simp; try with_reducible rfl)
          simp only [Act.put, List.getElem_toArray, List.getElem_cons_succ, List.getElem_cons_zero, List.setIfInBounds_toArray, List.set_cons_succ, List.set_cons_zero]
          refine wpAnyH_take (i := 4) (v := tailV bb ob nb cb) rfl (by kernel_rfl) (by kernel_rfl) (by kernel_rfl) (fun _ _ _ h => h) (yields_tail (by rfl) _ rfl bb ob nb cb rfl hnb1) (by assumption) ?_
          simp only [Act.put, List.getElem_toArray, List.getElem_cons_succ, List.getElem_cons_zero, List.setIfInBounds_toArray, List.set_cons_succ, List.set_cons_zero]
          refine wpAnyH_ready (rs := [5]) (by kernel_rfl) (by simp) ?_
          refine AllReadyH.cons rfl (fun K hK => ?_) AllReadyH.nil
          refine step_sto (by rfl) _ _ rfl g y (by rfl) (by rfl) _ KD2.out (by first | exact zsz | simp [encI_len]) ?_
          intro w7 hw7
          have KN3 := Lib.hid (show Blk w7 g 23 (encI y).toArray by rw [hw7.out]; exact KD2.out.row _)
          have BW3 := Lib.hid (show Below w.heap.size w w7 by rw [hw7.out]; exact below_row BD2.out _ HG.out.1 _)
          have BR3 := Lib.hid (show Below wr.heap.size wr w7 by rw [hw7.out]; exact below_row RD2.out _ HG.out.2 _)
          clear hw7
          refine hK.out _ _ (HXB.out _ BW3.out) (fun hHeld => ?_)
          clear hK K
          refine wpAnyH_take (i := 6) (v := ?_) rfl (by kernel_rfl) (by kernel_rfl) (by kernel_rfl) (fun _ _ _ h => h) (Or.inl ⟨by rfl, ?_⟩) (by assumption) ?_
          rotate_left
          · (intro w9 _; go_simp; try with_reducible rfl)
          simp only [Act.put, List.getElem_toArray, List.getElem_cons_succ, List.getElem_cons_zero, List.setIfInBounds_toArray, List.set_cons_succ, List.set_cons_zero]
          refine wpAnyH_done (by kernel_rfl) ?_ _
          clear hHeld
          have HOM := Lib.hid (hM.out.keep BR3.out)
          obtain ⟨q, hq⟩ : ∃ q, q = kf true true := ⟨_, rfl⟩
          have HFK := Lib.hid (fun W => HF.out true true W)
          rw [← hq] at HFK
          have HST := Lib.hid hst
          rw [← hq] at HST
          clear hq
          cases q with
          | true =>
            obtain ⟨i0, hi0, hz0, hz1, hz2⟩ := info_partsM infoI
            have HI0 := Lib.hid (And.intro hi0 (And.intro hz0 (And.intro hz1 hz2)))
            have HC := Lib.hid (show ∀ C, C = (encI y).toArray → (w7.alloc (.cells C 23)).rangeAt w7.heap.size 0 (encI y) from fun C hC => by rw [hC]; exact encBlk (Blk.fresh w7 _ _))
            have HLN := Lib.hid (show M.length ≤ 1000000 by have := hLL.out; omega)
            have HSZ := Lib.hid (show ∀ o, w.heap.size ≤ (w7.alloc o).heap.size from fun o => by have := BW3.out.size; simp; omega)
            have hle := encI_len y
            clear hi0 hz0 hz1 hz2
            go_wp2_with (first
              | (go_at_fn F; refine (HFK.out _).mono ?_; rintro e wk ⟨rfl, rfl⟩)
              | (refine wpList_load_mid rfl _ _ rfl g 0 (by rfl) (encI y) _ (encBlk KN3.out) hu23 rfl (info_enc infoId _) ?_)
              | (refine wpList_append_id Try.underlying41 HI0.out.1 HI0.out.2.1 HI0.out.2.2.1 HI0.out.2.2.2 rfl _ _ rfl w.heap.size vm M (by rfl) (HOM.out.alloc _) w7.heap.size 0 1 y (by rfl) (HC.out _ (fold_enc y)) HLN.out (HSZ.out _) ?_; intro v9 w9 ho9 hg9))
            exact ⟨⟨_, _, _, P, Q, M ++ [y], rfl, rfl, rfl, Lib.hid HTA.out, Lib.hid HTB.out, ho9, Lib.hid ((BW3.out.alloc BW3.out.size _).grown hg9.out (HSZ.out _) (fun j hj => (HOM.out.lt j hj).1)), Lib.hid (by have h := HST.out; simp only [if_true] at h; rw [← hRR.out, h, List.append_assoc]), Lib.hid (by have h := hLL.out; simp at h ⊢; omega)⟩, by simp only [lenV, tailV]; omega⟩
          | false =>
            go_wp2_with (go_at_fn F; refine (HFK.out _).mono ?_; rintro e wk ⟨rfl, rfl⟩)
            exact ⟨⟨_, _, _, P, Q, M, rfl, rfl, rfl, Lib.hid HTA.out, Lib.hid HTB.out, HOM, BW3, Lib.hid (by have h := HST.out; simp only [Bool.false_eq_true, if_false, List.nil_append] at h; rw [← hRR.out, h]), Lib.hid (by have h := hLL.out; simp at h ⊢; omega)⟩, by simp only [lenV, tailV]; omega⟩
        · have hst : Mid.mg kf (x :: P) (y :: Q) = (if kf false true = true then [y] else []) ++ Mid.mg kf (x :: P) Q := by rw [Mid.mg, if_neg (by omega), if_pos (by omega)]
          rw [ho] at HCM
          clear ho
          go_wp2_with fail
          refine wp_region_held_drew (S := (fun w' => w'.rangeAt ba oa (encI x) ∧ w'.rangeAt bb ob (encI y))) (by kernel_rfl) ?_ (fun hHeld => ?_)
          · exact ⟨HXA.out _ HBD.out, HXB.out _ HBD.out⟩
          refine wpAnyH_take (i := 0) (v := ?_) rfl (by kernel_rfl) (by kernel_rfl) (by kernel_rfl) (fun _ _ _ h => h) (Or.inl ⟨by rfl, ?_⟩) (by assumption) ?_
          rotate_left
          · (intro w9 _; go_simp; try with_reducible rfl)
          simp only [Act.put, List.getElem_toArray, List.getElem_cons_zero, List.setIfInBounds_toArray, List.set_cons_succ, List.set_cons_zero]
          refine wpAnyH_take (i := 1) (v := ?_) rfl (by kernel_rfl) (by kernel_rfl) (by kernel_rfl) (fun _ _ _ h => h) (Or.inl ⟨by rfl, ?_⟩) (by assumption) ?_
          rotate_left
          · (intro w9 _; go_simp; try with_reducible rfl)
          simp only [Act.put, List.getElem_toArray, List.getElem_cons_succ, List.getElem_cons_zero, List.setIfInBounds_toArray, List.set_cons_succ, List.set_cons_zero]
          refine wpAnyH_take (i := 2) (v := ?_) rfl (by kernel_rfl) (by kernel_rfl) (by kernel_rfl) (fun _ _ _ h => h) (Or.inl ⟨by rfl, ?_⟩) (by assumption) ?_
          rotate_left
          · (intro w9 _; go_simp; try with_reducible rfl)
          simp only [Act.put, List.getElem_toArray, List.getElem_cons_succ, List.getElem_cons_zero, List.setIfInBounds_toArray, List.set_cons_succ, List.set_cons_zero]
          refine wpAnyH_take (i := 3) (v := .agg (encI x).toArray) rfl (by kernel_rfl) (by kernel_rfl) (by kernel_rfl) (fun _ _ _ h => h) (yieldsIf_load_mid (by rfl) _ _ rfl _ _ rfl (encI x) _ (fun _ h => h.1) hu23 rfl hiX) (by assumption) ?_
          simp only [Act.put, List.getElem_toArray, List.getElem_cons_succ, List.getElem_cons_zero, List.setIfInBounds_toArray, List.set_cons_succ, List.set_cons_zero]
          refine wpAnyH_take (i := 4) (v := ?_) rfl (by kernel_rfl) (by kernel_rfl) (by kernel_rfl) (fun _ _ _ h => h) (Or.inl ⟨by rfl, ?_⟩) (by assumption) ?_
          rotate_left
          · (intro w9 _; go_simp; try with_reducible rfl)
          simp only [Act.put, List.getElem_toArray, List.getElem_cons_succ, List.getElem_cons_zero, List.setIfInBounds_toArray, List.set_cons_succ, List.set_cons_zero]
          refine wpAnyH_take (i := 5) (v := ?_) rfl (by kernel_rfl) (by kernel_rfl) (by kernel_rfl) (fun _ _ _ h => h) (Or.inl ⟨by rfl, ?_⟩) (by assumption) ?_
          rotate_left
          · (intro w9 _; go_simp; try with_reducible rfl)
          simp only [Act.put, List.getElem_toArray, List.getElem_cons_succ, List.getElem_cons_zero, List.setIfInBounds_toArray, List.set_cons_succ, List.set_cons_zero]
          refine wpAnyH_take (i := 6) (v := .agg (encI y).toArray) rfl (by kernel_rfl) (by kernel_rfl) (by kernel_rfl) (fun _ _ _ h => h) (yieldsIf_load_mid (by rfl) _ _ rfl _ _ rfl (encI y) _ (fun _ h => h.2) hu23 rfl hiY) (by assumption) ?_
          simp only [Act.put, List.getElem_toArray, List.getElem_cons_succ, List.getElem_cons_zero, List.setIfInBounds_toArray, List.set_cons_succ, List.set_cons_zero]
          refine wpAnyH_ready (rs := [7]) (by kernel_rfl) (by simp) ?_
          refine AllReadyH.cons rfl (fun K hK => ?_) AllReadyH.nil
          go_simp
          refine (HCM.out _).mono ?_
          rintro e w5 ⟨rfl, hb5⟩
          have BC := Lib.hid (HBD.out.trans (hb5.mono HBD.out.size)); have RC := Lib.hid ((Below.refl wr.heap.size wr).drew.trans hb5)
          clear hb5
          refine hK.out _ _ ⟨HXA.out _ BC.out, HXB.out _ BC.out⟩ (fun hHeld => ?_)
          clear hK K
          refine wpAnyH_take (i := 8) (v := ?_) rfl (by kernel_rfl) (by kernel_rfl) (by kernel_rfl) (fun _ _ _ h => h) (Or.inl ⟨by rfl, ?_⟩) (by assumption) ?_
          rotate_left
          · (intro w9 _; go_simp; try with_reducible rfl)
          simp only [Act.put, List.getElem_toArray, List.getElem_cons_succ, List.getElem_cons_zero, List.setIfInBounds_toArray, List.set_cons_succ, List.set_cons_zero]
          refine wpAnyH_done (by kernel_rfl) ?_ _
          clear hHeld
          go_wp2_with fail
          go_upto_region 10 with (fail)
          change Code.wp Try.prog _ _ _ (w5.alloc (.cells (bsC zD) 23))
          have hkn := Blk.fresh w5 23 (bsC zD)
          have hbw := BC.out.alloc BC.out.size (.cells (bsC zD) 23)
          have hbr := RC.out.alloc RC.out.size (.cells (bsC zD) 23)
          obtain ⟨g, hg⟩ : ∃ g, g = w5.heap.size := ⟨_, rfl⟩
          have HG := Lib.hid (show w.heap.size ≤ g ∧ wr.heap.size ≤ g from ⟨by rw [hg]; exact BC.out.size, by rw [hg]; exact RC.out.size⟩)
          have zsz : (bsC zD).size = 32 := by rw [bsC_size]; exact zD_len
          generalize w5.alloc (.cells (bsC zD) 23) = W1 at *
          rw [← hg] at hkn ⊢
          have KN1 := Lib.hid hkn; have BW1 := Lib.hid hbw; have BR1 := Lib.hid hbr
          clear hkn hbw hbr hg
          go_wp2_with fail
          have KD1 := Lib.hid KN1.out.draw; have BD1 := Lib.hid BW1.out.drew; have RD1 := Lib.hid BR1.out.drew
          refine wp_region_held_drew (S := (fun w' => w'.rangeAt bb ob (encI y))) (by kernel_rfl) ?_ (fun hHeld => ?_)
          · exact HXB.out _ BD1.out
          refine wpAnyH_take (i := 0) (v := ?_) rfl (by kernel_rfl) (by kernel_rfl) (by kernel_rfl) (fun _ _ _ h => h) (Or.inl ⟨by rfl, ?_⟩) (by assumption) ?_
          rotate_left
          · (intro w9 _; go_simp; try with_reducible rfl)
          simp only [Act.put, List.getElem_toArray, List.getElem_cons_zero, List.setIfInBounds_toArray, List.set_cons_succ, List.set_cons_zero]
          refine wpAnyH_take (i := 1) (v := ?_) rfl (by kernel_rfl) (by kernel_rfl) (by kernel_rfl) (fun _ _ _ h => h) (Or.inl ⟨by rfl, ?_⟩) (by assumption) ?_
          rotate_left
          · (intro w9 _; go_simp; try with_reducible rfl)
          simp only [Act.put, List.getElem_toArray, List.getElem_cons_succ, List.getElem_cons_zero, List.setIfInBounds_toArray, List.set_cons_succ, List.set_cons_zero]
          refine wpAnyH_take (i := 2) (v := .agg (encI y).toArray) rfl (by kernel_rfl) (by kernel_rfl) (by kernel_rfl) (fun _ _ _ h => h) (yieldsIf_load_mid (by rfl) _ _ rfl _ _ rfl (encI y) _ (fun _ h => h) hu23 rfl hiY) (by assumption) ?_
          simp only [Act.put, List.getElem_toArray, List.getElem_cons_succ, List.getElem_cons_zero, List.setIfInBounds_toArray, List.set_cons_succ, List.set_cons_zero]
          refine wpAnyH_take (i := 3) (v := ?_) rfl (by kernel_rfl) (by kernel_rfl) (by kernel_rfl) (fun _ _ _ h => h) (Or.inl ⟨by rfl, ?_⟩) (by assumption) ?_
          rotate_left
          · (intro w9 _; go_simp; try with_reducible rfl)
          simp only [Act.put, List.getElem_toArray, List.getElem_cons_succ, List.getElem_cons_zero, List.setIfInBounds_toArray, List.set_cons_succ, List.set_cons_zero]
          refine wpAnyH_take (i := 4) (v := tailV bb ob nb cb) rfl (by kernel_rfl) (by kernel_rfl) (by kernel_rfl) (fun _ _ _ h => h) (yields_tail (by rfl) _ rfl bb ob nb cb rfl hnb1) (by assumption) ?_
          simp only [Act.put, List.getElem_toArray, List.getElem_cons_succ, List.getElem_cons_zero, List.setIfInBounds_toArray, List.set_cons_succ, List.set_cons_zero]
          refine wpAnyH_ready (rs := [5]) (by kernel_rfl) (by simp) ?_
          refine AllReadyH.cons rfl (fun K hK => ?_) AllReadyH.nil
          refine step_sto (by rfl) _ _ rfl g y (by rfl) (by rfl) _ KD1.out (by first | exact zsz | simp [encI_len]) ?_
          intro w6 hw6
          have KN2 := Lib.hid (show Blk w6 g 23 (encI y).toArray by rw [hw6.out]; exact KD1.out.row _)
          have BW2 := Lib.hid (show Below w.heap.size w w6 by rw [hw6.out]; exact below_row BD1.out _ HG.out.1 _)
          have BR2 := Lib.hid (show Below wr.heap.size wr w6 by rw [hw6.out]; exact below_row RD1.out _ HG.out.2 _)
          clear hw6
          refine hK.out _ _ (HXB.out _ BW2.out) (fun hHeld => ?_)
          clear hK K
          refine wpAnyH_take (i := 6) (v := ?_) rfl (by kernel_rfl) (by kernel_rfl) (by kernel_rfl) (fun _ _ _ h => h) (Or.inl ⟨by rfl, ?_⟩) (by assumption) ?_
          rotate_left
          · (intro w9 _; go_simp; try with_reducible rfl)
          simp only [Act.put, List.getElem_toArray, List.getElem_cons_succ, List.getElem_cons_zero, List.setIfInBounds_toArray, List.set_cons_succ, List.set_cons_zero]
          refine wpAnyH_done (by kernel_rfl) ?_ _
          clear hHeld
          have HOM := Lib.hid (hM.out.keep BR2.out)
          obtain ⟨q, hq⟩ : ∃ q, q = kf false true := ⟨_, rfl⟩
          have HFK := Lib.hid (fun W => HF.out false true W)
          rw [← hq] at HFK
          have HST := Lib.hid hst
          rw [← hq] at HST
          clear hq
          cases q with
          | true =>
            obtain ⟨i0, hi0, hz0, hz1, hz2⟩ := info_partsM infoI
            have HI0 := Lib.hid (And.intro hi0 (And.intro hz0 (And.intro hz1 hz2)))
            have HC := Lib.hid (show ∀ C, C = (encI y).toArray → (w6.alloc (.cells C 23)).rangeAt w6.heap.size 0 (encI y) from fun C hC => by rw [hC]; exact encBlk (Blk.fresh w6 _ _))
            have HLN := Lib.hid (show M.length ≤ 1000000 by have := hLL.out; omega)
            have HSZ := Lib.hid (show ∀ o, w.heap.size ≤ (w6.alloc o).heap.size from fun o => by have := BW2.out.size; simp; omega)
            have hle := encI_len y
            clear hi0 hz0 hz1 hz2
            go_wp2_with (first
              | (go_at_fn F; refine (HFK.out _).mono ?_; rintro e wk ⟨rfl, rfl⟩)
              | (refine wpList_load_mid rfl _ _ rfl g 0 (by rfl) (encI y) _ (encBlk KN2.out) hu23 rfl (info_enc infoId _) ?_)
              | (refine wpList_append_id Try.underlying41 HI0.out.1 HI0.out.2.1 HI0.out.2.2.1 HI0.out.2.2.2 rfl _ _ rfl w.heap.size vm M (by rfl) (HOM.out.alloc _) w6.heap.size 0 1 y (by rfl) (HC.out _ (fold_enc y)) HLN.out (HSZ.out _) ?_; intro v9 w9 ho9 hg9))
            exact ⟨⟨_, _, _, (x :: P), Q, M ++ [y], rfl, rfl, rfl, HP0, Lib.hid HTB.out, ho9, Lib.hid ((BW2.out.alloc BW2.out.size _).grown hg9.out (HSZ.out _) (fun j hj => (HOM.out.lt j hj).1)), Lib.hid (by have h := HST.out; simp only [if_true] at h; rw [← hRR.out, h, List.append_assoc]), Lib.hid (by have h := hLL.out; simp at h ⊢; omega)⟩, by simp only [lenV, tailV]; omega⟩
          | false =>
            go_wp2_with (go_at_fn F; refine (HFK.out _).mono ?_; rintro e wk ⟨rfl, rfl⟩)
            exact ⟨⟨_, _, _, (x :: P), Q, M, rfl, rfl, rfl, HP0, Lib.hid HTB.out, HOM, BW2, Lib.hid (by have h := HST.out; simp only [Bool.false_eq_true, if_false, List.nil_append] at h; rw [← hRR.out, h]), Lib.hid (by have h := hLL.out; simp at h ⊢; omega)⟩, by simp only [lenV, tailV]; omega⟩
end Go.Proofs.Yteoknmdoghemmaa
