/- The reference's Set. -/
import Derived.Test.YteoknmdoghemmaaOps
namespace Mid
theorem ins_mem (o : List Id) (x u : Id) (k : Nat) : u ∈ o.take k ++ x :: o.drop k ↔ u = x ∨ u ∈ o := by
  have h : u ∈ o ↔ u ∈ o.take k ∨ u ∈ o.drop k := by
    rw [← List.mem_append, List.take_append_drop]
  rw [List.mem_append, List.mem_cons, h]
  constructor
  · rintro (h | h | h)
    · exact .inr (.inl h)
    · exact .inl h
    · exact .inr (.inr h)
  · rintro (h | h | h)
    · exact .inr (.inl h)
    · exact .inl h
    · exact .inr (.inr h)
theorem ins_asc (o : List Id) (x : Id) (k : Nat) (hk : k ≤ o.length) (ho : Asc' o) (hlt : ∀ i, i < k → cfI o[i]! x < 0) (hge : k < o.length → 0 < cfI o[k]! x) : Asc' (o.take k ++ x :: o.drop k) := by
  unfold Asc' at *
  rw [List.pairwise_append]
  have hx : ∀ u ∈ o.take k, cfI u x < 0 := by
    intro u hu
    obtain ⟨i, hi, rfl⟩ := List.mem_take_iff_getElem.1 hu
    have := hlt i (by omega)
    rwa [getElem!_pos o i (by omega)] at this
  have hd : ∀ u ∈ o.drop k, cfI x u < 0 := by
    intro u hu
    have hkl : k < o.length := by
      have := List.length_pos_of_mem hu
      rw [List.length_drop] at this
      omega
    have h0 := hge hkl
    rw [getElem!_pos o k hkl] at h0
    have hxk : cfI x o[k] < 0 := by rw [cfI_neg o[k] x]; omega
    rw [List.drop_eq_getElem_cons hkl] at hu
    rcases List.mem_cons.1 hu with e | e
    · rw [e]; exact hxk
    · have h2 : (o.drop k).Pairwise fun x y => cfI x y < 0 := ho.sublist (List.drop_sublist k o)
      rw [List.drop_eq_getElem_cons hkl] at h2
      exact cfI_trans hxk ((List.pairwise_cons.1 h2).1 u e)
  refine ⟨ho.sublist (List.take_sublist k o), List.pairwise_cons.2 ⟨hd, ho.sublist (List.drop_sublist k o)⟩, fun u hu v hv => ?_⟩
  rcases List.mem_cons.1 hv with e | e
  · rw [e]; exact hx u hu
  · exact cfI_trans (hx u hu) (hd v e)
end Mid
namespace Go.Proofs.Yteoknmdoghemmaa
open Go.RowKit Go.Shelf

theorem flatI_app (ls ms : List Mid.Id) : flatI (ls ++ ms) = flatI ls ++ flatI ms := by simp [flatI]
theorem step_app {ops : Array Oper} {o : Oper} {a : Act} {w : World} {K : Act → World → Prop} {Q : Exit → Act → World → Prop} {E : Prop} (hw : Region.wanted o (yielded ops a.tmps) = true) (s x : Operand)
    (ho : o.op = .call { callee := .builtin .append, args := #[s, x], argTypes := #[42, 42] })
    (base : Nat) (v : Value) (ls : List Mid.Id) (hs : a.eval s = v) (hown : OwnI 30 base w v ls) (b off m c : Nat) (ms : List Mid.Id) (hx : a.eval x = .slice (some ⟨b, off, none⟩) m c) (hm : m = ms.length) (hc : IdsC w b off ms)
    (hn : ls.length + ms.length ≤ 1000000) (hbase : base ≤ w.heap.size)
    (h : ∀ v' w', Hid (OwnI 30 base w' v' (ls ++ ms)) → Hid (w.grownBy w' v.ownBlock) → K (a.put o.dst v') w') : if Region.wanted o (yielded ops a.tmps) = true then Oper.wp Try.prog o a w K Q else E := by
  rw [if_pos hw]
  obtain ⟨i0, hi, hz0, hz1, hz2⟩ := info_partsM infoRI
  refine wp_append_own w s x 42 ho base 30 i0 (.agg (bsC zD)) 32 32 Try.underlying42 hi hz0 hz1 hz2 rfl (by decide) v ls.length (flatI ls) hs hown ⟨b, off, none⟩ m c (flatI ms) hx (by rw [flatI_len, hm]) (fun j u hj => ?_) (flatI_one ms) (by unfold maxLen; omega) (by omega) hbase (fun v' w' h1 h2 _ => h v' w' (Lib.hid ?_) (Lib.hid h2))
  · have hjl : j < ms.length * 32 := by
      have := (List.getElem?_eq_some_iff.1 hj).1
      rwa [flatI_len] at this
    have e : j = j / 32 * 32 + j % 32 := by omega
    rw [e] at hj
    rw [flatI_get ms (j / 32) (j % 32) (by omega) (by omega)] at hj
    have := hc (j / 32) (by omega) (j % 32) u hj
    rw [addr_add]
    rwa [Nat.add_assoc, ← e] at this
  · unfold OwnI
    rw [flatI_app, List.length_append, ← hm]
    exact h1
theorem step_app_none {ops : Array Oper} {o : Oper} {a : Act} {w : World} {K : Act → World → Prop} {Q : Exit → Act → World → Prop} {E : Prop} (hw : Region.wanted o (yielded ops a.tmps) = true) (s x : Operand)
    (ho : o.op = .call { callee := .builtin .append, args := #[s, x], argTypes := #[42, 42] })
    (base : Nat) (v : Value) (ls : List Mid.Id) (hs : a.eval s = v) (hown : OwnI 30 base w v ls) (hx : a.eval x = .slice none 0 0)
    (h : K (a.put o.dst v) w) : if Region.wanted o (yielded ops a.tmps) = true then Oper.wp Try.prog o a w K Q else E := by
  rw [if_pos hw]
  obtain ⟨i0, hi, hz0, hz1, hz2⟩ := info_partsM infoRI
  have hrun := run_append_owned_none (P := Try.prog) (w := w) base 42 o.type 30 i0 32 Try.underlying42 hi v ls.length (flatI ls) hown
  unfold Oper.wp execOp
  simp only [ho, resolve, invoke, builtin, Sem.run_bind, Sem.run_pure, Result.andThen_ok, List.map_toArray, List.map_cons, List.map_nil, hs, hx, hrun]
  exact h
theorem idsC_one {w : World} {g : Nat} {x : Mid.Id} (h : w.rangeAt g 0 (encI x)) : IdsC w g 0 [x] := by
  intro j hj i v hv
  obtain rfl : j = 0 := by simpa using hj
  exact h i v (by simpa using hv)
theorem idsC_take {w : World} {b off : Nat} {ls : List Mid.Id} (h : IdsC w b off ls) (j : Nat) (hj : j ≤ ls.length) : IdsC w b off (ls.take j) := by
  intro i hi t v hv
  have hl : (ls.take j).length = j := by rw [List.length_take]; omega
  rw [hl] at hi
  rw [getE _ i (by rw [hl]; exact hi), List.getElem_take] at hv
  exact h i (by omega) t v (by rw [getE _ i (by omega)]; exact hv)
theorem idsC_drop {w : World} {b off : Nat} {ls : List Mid.Id} (h : IdsC w b off ls) (j : Nat) : IdsC w b (off + j * 32) (ls.drop j) := by
  intro i hi t v hv
  rw [List.length_drop] at hi
  rw [getE _ i (by rw [List.length_drop]; exact hi), List.getElem_drop] at hv
  have := h (j + i) (by omega) t v (by rw [getE _ (j + i) (by omega)]; exact hv)
  rwa [show off + (j + i) * 32 + t = off + j * 32 + i * 32 + t by omega] at this
/-- a slice from an element on -/
def dropV (b off n c j : Nat) : Value := .slice (some ⟨b, if c = j then off else off + j * 32, none⟩) (n - j) (c - j)
theorem run_drop (b off n c j : Nat) (W : World) (hj : j ≤ n) : (Instr.sliceAt 42 (.slice (some ⟨b, off, none⟩) n c) (some (.int .i64 (j : Int))) none none).run Try.prog W = .ok (dropV b off n c j) W := by
  have h1 : (j : Int) ≤ (n : Int) := by omega
  have h2 : (0 : Int) ≤ (j : Int) := by omega
  unfold dropV
  go_simp
  split <;> simp_all
theorem yields_drop {ops : Array Oper} {S : World → Prop} {op : Oper} {a : Act} (hw : Region.wanted op (yielded ops a.tmps) = true) (x y : Operand) (ho : op.op = .slice 42 x (some y) none none)
    (b off n c j : Nat) (hx : a.eval x = .slice (some ⟨b, off, none⟩) n c) (hy : a.eval y = .int .i64 (j : Int)) (hj : j ≤ n) : YieldsIf Try.prog ops S op (dropV b off n c j) a := by
  refine .inl ⟨hw, fun w _ => ?_⟩
  simp [execOp, ho, hx, hy, run_drop b off n c j w hj, Result.andThen]

set_option maxRecDepth 100000 in
set_option maxHeartbeats 8000000 in
theorem refSet_any (v : Value) (ls : List Mid.Id) (w : World) (hn : ls.length ≤ 100000) (hv : Ids w v ls) :
    Calls Try.prog 24 #[v] w fun e w' => ∃ v' D, e = .returned v' ∧ Ids w' v' D ∧ Mid.Asc' D ∧ (∀ u, u ∈ D ↔ u ∈ ls) ∧ D.length ≤ ls.length ∧ Below w.heap.size w w' := by
  have HCMP := Lib.hid (fun (x y : Mid.Id) W => (show Calls Try.prog 20 #[.agg (encI x).toArray, .agg (encI y).toArray] W fun e w' => e = .returned (.int .i64 (Mid.cfI x y)) ∧ Below W.heap.size W w' by rw [encI_arr, encI_arr]; exact refCompare_any x.1 y.1 x.2.1 y.2.1 W))
  have HHAS := Lib.hid (fun W v M (hl : List.length M ≤ 1000000) x h => refHas_any v M x W hl h)
  obtain ⟨ad, cap, rfl, hlc, hcm, _, hcells⟩ := hv
  obtain ⟨n, hnn⟩ : ∃ n, n = ls.length := ⟨_, rfl⟩
  rw [← hnn] at hn ⊢
  have hnI : (n : Int) ≤ 100000 := by omega
  have HN := Lib.hid hnn; have HCL := Lib.hid hcells
  have hu30 : Try.prog.underlying 30 = some (.array 32 5) := Try.underlying30
  clear hnn hcells hlc hcm
  go_enter Try.func24, Try.ntmps24
  go_wp2_with fail
  go_loopw [3, 4] (fun o i wr => ∃ (k : Nat) (vo : Value) (O : List Mid.Id), vo = o ∧ i = .int .i64 k ∧ k ≤ n ∧ Hid (Ids wr vo O) ∧ Hid (Mid.Asc' O) ∧ Hid (∀ u, u ∈ O ↔ u ∈ ls.take k) ∧ O.length ≤ k ∧ Hid (O = [] → vo = .slice none 0 0) ∧ Hid (Below w.heap.size w wr)) (fun _ i _ => n - (intOf i).toNat)
  case atStart => exact ⟨0, _, [], rfl, rfl, Nat.zero_le _, Lib.hid (Ids.nil _), Lib.hid (by simp [Mid.Asc']), Lib.hid (by simp), Nat.le_refl _, Lib.hid (fun _ => rfl), Lib.hid (Below.refl _ _)⟩
  case round =>
    obtain ⟨k, vo, O, rfl, rfl, hk, hO, hA, hM, hol, hnil, hbl⟩ := hrel
    by_cases hlt : k < n
    · have hkl : k < ls.length := by rw [← HN.out]; exact hlt
      rcases HCL.out with h0 | ⟨b, off, rfl, hc⟩
      · rw [h0] at hkl; exact absurd hkl (by simp)
      · have hblt : b < w.heap.size := hc.lt (by intro h; rw [h] at hkl; exact absurd hkl (by simp))
        have hms := Mid.mem_take_succ ls k hkl
        have hrx : ∀ W, Below w.heap.size w W → W.rangeAt b (off + k * 32) (encI ls[k]!) := fun W h => (hc.keep h hblt).range k hkl
        generalize ls[k]! = x at *
        have HRX := Lib.hid hrx; have HMS := Lib.hid hms
        have hiX := info_enc infoRid x
        have hle := encI_len x
        have hltI : (k : Int) < (n : Int) := by omega
        clear hrx hms hc hkl
        have HHX := Lib.hid (HHAS.out wr vo O (by omega) x hO.out)
        obtain ⟨q, hq⟩ : ∃ q, q = decide (x ∈ O) := ⟨_, rfl⟩
        rw [← hq] at HHX
        have HQ := Lib.hid hq
        clear hq
        go_wp2_with (refine wpList_load_mid rfl _ _ rfl b (off + k * 32) (by rfl) (encI x) _ (HRX.out _ hbl.out) hu30 rfl hiX ?_)
        refine HHX.out.mono ?_
        rintro e w2 ⟨rfl, hb2⟩
        have hO2 := Lib.hid (hO.out.below hb2)
        have B2 := Lib.hid (hbl.out.trans (hb2.mono hbl.out.size))
        clear hb2 hO hbl HHX
        cases q with
        | true =>
          have hin : x ∈ O := of_decide_eq_true HQ.out.symm
          have HM2 := Lib.hid (show ∀ u, u ∈ O ↔ u ∈ ls.take (k + 1) from fun u => by
            rw [HMS.out u, ← hM.out u]
            constructor
            · intro h; exact .inl h
            · rintro (h | h)
              · exact h
              · rw [h]; exact hin)
          clear hin
          go_wp2_with fail
          go_roundw
          case rel => exact ⟨k + 1, vo, O, rfl, by go_num, hlt, hO2, hA, HM2, by omega, hnil, B2⟩
          case measure => simp [intOf]; omega
        | false =>
          have hout : x ∉ O := of_decide_eq_false HQ.out.symm
          have HOUT := Lib.hid hout
          have HM2 := Lib.hid (show ∀ j u, u ∈ O.take j ++ x :: O.drop j ↔ u ∈ ls.take (k + 1) from fun j u => by
            rw [Mid.ins_mem, HMS.out u, ← hM.out u]; exact or_comm)
          clear hout
          obtain ⟨ao, co, rfl, hoc, hocm, _, hcO⟩ := hO2.out
          obtain ⟨m, hm⟩ : ∃ m, m = O.length := ⟨_, rfl⟩
          rw [← hm] at hO2 hol hoc ⊢
          have HM := Lib.hid hm
          have hmI : (m : Int) ≤ 100000 := by omega
          have HHO := Lib.hid hcO
          clear hm hcO
          go_wp2_with fail
          go_loopw [5] (fun i wq => ∃ j : Nat, i = .int .i64 j ∧ j ≤ m ∧ Hid (∀ i, i < j → Mid.cfI O[i]! x < 0) ∧ Hid (Below w.heap.size w wq) ∧ Hid (Below w2.heap.size w2 wq)) (fun i _ => m - (intOf i).toNat)
          case atStart => exact ⟨0, rfl, Nat.zero_le _, Lib.hid (fun i h => absurd h (Nat.not_lt_zero _)), B2, Lib.hid (Below.refl _ _)⟩
          case round =>
            obtain ⟨j, rfl, hj, hless, hbq, hcq⟩ := hrel
            have hbd := Lib.hid hbq.out.drew; have hcd := Lib.hid hcq.out.drew
            by_cases hjl : j < m
            · have hjO : j < O.length := by rw [← HM.out]; exact hjl
              have hne : O ≠ [] := by intro h; rw [h] at hjO; exact absurd hjO (by simp)
              rcases HHO.out with h0 | ⟨bo, oo, rfl, kO⟩
              · exact absurd h0 hne
              have HRO := Lib.hid (fun (W : World) (h : Below w2.heap.size w2 W) => (kO.keep h (kO.lt hne)).range j hjO)
              have hge : j < O.length → Mid.cfI O[j]! x = Mid.cfI O[j]! x := fun _ => rfl
              have HLS := Lib.hid (show Mid.cfI O[j]! x < 0 → ∀ i, i < j + 1 → Mid.cfI O[i]! x < 0 from fun h i hi => by
                rcases Nat.lt_succ_iff_lt_or_eq.1 hi with e | e
                · exact hless.out i e
                · rw [e]; exact h)
              have HMM := Lib.hid (show O[j]! ∈ O by rw [getE O j hjO]; exact List.getElem_mem hjO)
              obtain ⟨z, hz⟩ : ∃ z, z = O[j]! := ⟨_, rfl⟩
              rw [← hz] at HRO HLS HMM
              have HZ := Lib.hid hz
              have hiZ := info_enc infoRid z
              have HCM := Lib.hid (fun W => HCMP.out z x W)
              have hjI : (j : Int) < (m : Int) := by omega
              have HKO := Lib.hid (fun (W : World) (h : Below w2.heap.size w2 W) => (kO.keep h (kO.lt hne)))
              have HJ := Lib.hid (show j ≤ m ∧ j ≤ co ∧ (j : Int) ≤ (co : Int) by omega)
              clear hge hz kO hne hjO
              rcases Mid.cfI_range z x with ho | ho | ho
              · rw [ho] at HCM
                have HNX := Lib.hid (HLS.out (by omega))
                clear ho
                go_wp2_with fail
                refine wp_region_held_drew (S := (fun w' => w'.rangeAt bo (oo + j * 32) (encI z) ∧ w'.rangeAt b (off + k * 32) (encI x))) (by kernel_rfl) ?_ (fun hHeld => ?_)
                · exact ⟨HRO.out _ hcd.out, HRX.out _ hbd.out⟩
                refine wpAnyH_take (i := 0) (v := ?_) rfl (by kernel_rfl) (by kernel_rfl) (by kernel_rfl) (fun _ _ _ h => h) (Or.inl ⟨by rfl, ?_⟩) (by assumption) ?_
                rotate_left
                · (intro w9 _; go_simp; try with_reducible rfl)
                simp only [Act.put, List.getElem_toArray, List.getElem_cons_zero, List.setIfInBounds_toArray, List.set_cons_succ, List.set_cons_zero]
                refine wpAnyH_take (i := 1) (v := ?_) rfl (by kernel_rfl) (by kernel_rfl) (by kernel_rfl) (fun _ _ _ h => h) (Or.inl ⟨by rfl, ?_⟩) (by assumption) ?_
                rotate_left
                · (intro w9 _; go_simp; try with_reducible rfl)
                simp only [Act.put, List.getElem_toArray, List.getElem_cons_succ, List.getElem_cons_zero, List.setIfInBounds_toArray, List.set_cons_succ, List.set_cons_zero]
                refine wpAnyH_take (i := 2) (v := ?_) rfl (by kernel_rfl) (by kernel_rfl) (by kernel_rfl) (fun _ _ _ h => h) (Or.inl ⟨by rfl, ?_⟩) (by assumption) ?_
                rotate_left
                · (intro w9 _; go_simp; try with_reducible rfl)
                simp only [Act.put, List.getElem_toArray, List.getElem_cons_succ, List.getElem_cons_zero, List.setIfInBounds_toArray, List.set_cons_succ, List.set_cons_zero]
                refine wpAnyH_take (i := 3) (v := ?_) rfl (by kernel_rfl) (by kernel_rfl) (by kernel_rfl) (fun _ _ _ h => h) (Or.inl ⟨by rfl, ?_⟩) (by assumption) ?_
                rotate_left
                · (intro w9 _; go_simp; try with_reducible rfl)
                simp only [Act.put, List.getElem_toArray, List.getElem_cons_succ, List.getElem_cons_zero, List.setIfInBounds_toArray, List.set_cons_succ, List.set_cons_zero]
                refine wpAnyH_take (i := 4) (v := ?_) rfl (by kernel_rfl) (by kernel_rfl) (by kernel_rfl) (fun _ _ _ h => h) (Or.inl ⟨by rfl, ?_⟩) (by assumption) ?_
                rotate_left
                · (intro w9 _; go_simp; try with_reducible rfl)
                simp only [Act.put, List.getElem_toArray, List.getElem_cons_succ, List.getElem_cons_zero, List.setIfInBounds_toArray, List.set_cons_succ, List.set_cons_zero]
                refine wpAnyH_take (i := 5) (v := ?_) rfl (by kernel_rfl) (by kernel_rfl) (by kernel_rfl) (fun _ _ _ h => h) (Or.inl ⟨by rfl, ?_⟩) (by assumption) ?_
                rotate_left
                · (intro w9 _; go_simp; try with_reducible rfl)
                simp only [Act.put, List.getElem_toArray, List.getElem_cons_succ, List.getElem_cons_zero, List.setIfInBounds_toArray, List.set_cons_succ, List.set_cons_zero]
                refine wpAnyH_take (i := 6) (v := ?_) rfl (by kernel_rfl) (by kernel_rfl) (by kernel_rfl) (fun _ _ _ h => h) (Or.inl ⟨by rfl, ?_⟩) (by assumption) ?_
                rotate_left
                · (intro w9 _; go_simp; try with_reducible rfl)
                simp only [Act.put, List.getElem_toArray, List.getElem_cons_succ, List.getElem_cons_zero, List.setIfInBounds_toArray, List.set_cons_succ, List.set_cons_zero]
                refine wpAnyH_take (i := 7) (v := ?_) rfl (by kernel_rfl) (by kernel_rfl) (by kernel_rfl) (fun _ _ _ h => h) (Or.inl ⟨by rfl, ?_⟩) (by assumption) ?_
                rotate_left
                · (intro w9 _; go_simp; try with_reducible rfl)
                simp only [Act.put, List.getElem_toArray, List.getElem_cons_succ, List.getElem_cons_zero, List.setIfInBounds_toArray, List.set_cons_succ, List.set_cons_zero]
                refine wpAnyH_take (i := 8) (v := .agg (encI z).toArray) rfl (by kernel_rfl) (by kernel_rfl) (by kernel_rfl) (fun _ _ _ h => h) (yieldsIf_load_mid (by rfl) _ _ rfl _ _ rfl (encI z) _ (fun _ h => h.1) hu30 rfl hiZ) (by assumption) ?_
                simp only [Act.put, List.getElem_toArray, List.getElem_cons_succ, List.getElem_cons_zero, List.setIfInBounds_toArray, List.set_cons_succ, List.set_cons_zero]
                refine wpAnyH_take (i := 9) (v := ?_) rfl (by kernel_rfl) (by kernel_rfl) (by kernel_rfl) (fun _ _ _ h => h) (Or.inl ⟨by rfl, ?_⟩) (by assumption) ?_
                rotate_left
                · (intro w9 _; go_simp; try with_reducible rfl)
                simp only [Act.put, List.getElem_toArray, List.getElem_cons_succ, List.getElem_cons_zero, List.setIfInBounds_toArray, List.set_cons_succ, List.set_cons_zero]
                refine wpAnyH_take (i := 10) (v := ?_) rfl (by kernel_rfl) (by kernel_rfl) (by kernel_rfl) (fun _ _ _ h => h) (Or.inl ⟨by rfl, ?_⟩) (by assumption) ?_
                rotate_left
                · (intro w9 _; go_simp; try with_reducible rfl)
                simp only [Act.put, List.getElem_toArray, List.getElem_cons_succ, List.getElem_cons_zero, List.setIfInBounds_toArray, List.set_cons_succ, List.set_cons_zero]
                refine wpAnyH_take (i := 11) (v := ?_) rfl (by kernel_rfl) (by kernel_rfl) (by kernel_rfl) (fun _ _ _ h => h) (Or.inl ⟨by rfl, ?_⟩) (by assumption) ?_
                rotate_left
                · (intro w9 _; go_simp; try with_reducible rfl)
                simp only [Act.put, List.getElem_toArray, List.getElem_cons_succ, List.getElem_cons_zero, List.setIfInBounds_toArray, List.set_cons_succ, List.set_cons_zero]
                refine wpAnyH_take (i := 12) (v := .agg (encI x).toArray) rfl (by kernel_rfl) (by kernel_rfl) (by kernel_rfl) (fun _ _ _ h => h) (yieldsIf_load_mid (by rfl) _ _ rfl _ _ rfl (encI x) _ (fun _ h => h.2) hu30 rfl hiX) (by assumption) ?_
                simp only [Act.put, List.getElem_toArray, List.getElem_cons_succ, List.getElem_cons_zero, List.setIfInBounds_toArray, List.set_cons_succ, List.set_cons_zero]
                refine wpAnyH_ready (rs := [13]) (by kernel_rfl) (by simp) ?_
                refine AllReadyH.cons rfl (fun K hK => ?_) AllReadyH.nil
                go_simp
                refine (HCM.out _).mono ?_
                rintro e w4 ⟨rfl, hb4⟩
                have B4 := Lib.hid (hbd.out.trans (hb4.mono hbd.out.size)); have C4 := Lib.hid (hcd.out.trans (hb4.mono hcd.out.size))
                clear hb4
                refine hK.out _ _ ⟨HRO.out _ C4.out, HRX.out _ B4.out⟩ (fun hHeld => ?_)
                clear hK K
                refine wpAnyH_take (i := 14) (v := ?_) rfl (by kernel_rfl) (by kernel_rfl) (by kernel_rfl) (fun _ _ _ h => h) (Or.inl ⟨by rfl, ?_⟩) (by assumption) ?_
                rotate_left
                · (intro w9 _; go_simp; try with_reducible rfl)
                simp only [Act.put, List.getElem_toArray, List.getElem_cons_succ, List.getElem_cons_zero, List.setIfInBounds_toArray, List.set_cons_succ, List.set_cons_zero]
                refine wpAnyH_take (i := 15) (v := ?_) rfl (by kernel_rfl) (by kernel_rfl) (by kernel_rfl) (fun _ _ _ h => h) (Or.inl ⟨by rfl, ?_⟩) (by assumption) ?_
                rotate_left
                · (intro w9 _; go_simp; try with_reducible rfl)
                simp only [Act.put, List.getElem_toArray, List.getElem_cons_succ, List.getElem_cons_zero, List.setIfInBounds_toArray, List.set_cons_succ, List.set_cons_zero]
                refine wpAnyH_done (by kernel_rfl) ?_ _
                clear hHeld
                go_wp2_with fail
                go_roundw
                case rel => exact ⟨j + 1, by go_num, by omega, HNX, B4, C4⟩
                case measure => simp [intOf]; omega
              · exact absurd (Mid.cfI_zero ho) (fun e => HOUT.out (by rw [← e]; exact HMM.out))
              · rw [ho] at HCM
                have HGE := Lib.hid (show 0 < Mid.cfI z x by omega)
                clear ho
                go_wp2_with fail
                refine wp_region_held_drew (S := (fun w' => w'.rangeAt bo (oo + j * 32) (encI z) ∧ w'.rangeAt b (off + k * 32) (encI x))) (by kernel_rfl) ?_ (fun hHeld => ?_)
                · exact ⟨HRO.out _ hcd.out, HRX.out _ hbd.out⟩
                refine wpAnyH_take (i := 0) (v := ?_) rfl (by kernel_rfl) (by kernel_rfl) (by kernel_rfl) (fun _ _ _ h => h) (Or.inl ⟨by rfl, ?_⟩) (by assumption) ?_
                rotate_left
                · (intro w9 _; go_simp; try with_reducible rfl)
                simp only [Act.put, List.getElem_toArray, List.getElem_cons_zero, List.setIfInBounds_toArray, List.set_cons_succ, List.set_cons_zero]
                refine wpAnyH_take (i := 1) (v := ?_) rfl (by kernel_rfl) (by kernel_rfl) (by kernel_rfl) (fun _ _ _ h => h) (Or.inl ⟨by rfl, ?_⟩) (by assumption) ?_
                rotate_left
                · (intro w9 _; go_simp; try with_reducible rfl)
                simp only [Act.put, List.getElem_toArray, List.getElem_cons_succ, List.getElem_cons_zero, List.setIfInBounds_toArray, List.set_cons_succ, List.set_cons_zero]
                refine wpAnyH_take (i := 2) (v := ?_) rfl (by kernel_rfl) (by kernel_rfl) (by kernel_rfl) (fun _ _ _ h => h) (Or.inl ⟨by rfl, ?_⟩) (by assumption) ?_
                rotate_left
                · (intro w9 _; go_simp; try with_reducible rfl)
                simp only [Act.put, List.getElem_toArray, List.getElem_cons_succ, List.getElem_cons_zero, List.setIfInBounds_toArray, List.set_cons_succ, List.set_cons_zero]
                refine wpAnyH_take (i := 3) (v := ?_) rfl (by kernel_rfl) (by kernel_rfl) (by kernel_rfl) (fun _ _ _ h => h) (Or.inl ⟨by rfl, ?_⟩) (by assumption) ?_
                rotate_left
                · (intro w9 _; go_simp; try with_reducible rfl)
                simp only [Act.put, List.getElem_toArray, List.getElem_cons_succ, List.getElem_cons_zero, List.setIfInBounds_toArray, List.set_cons_succ, List.set_cons_zero]
                refine wpAnyH_take (i := 4) (v := ?_) rfl (by kernel_rfl) (by kernel_rfl) (by kernel_rfl) (fun _ _ _ h => h) (Or.inl ⟨by rfl, ?_⟩) (by assumption) ?_
                rotate_left
                · (intro w9 _; go_simp; try with_reducible rfl)
                simp only [Act.put, List.getElem_toArray, List.getElem_cons_succ, List.getElem_cons_zero, List.setIfInBounds_toArray, List.set_cons_succ, List.set_cons_zero]
                refine wpAnyH_take (i := 5) (v := ?_) rfl (by kernel_rfl) (by kernel_rfl) (by kernel_rfl) (fun _ _ _ h => h) (Or.inl ⟨by rfl, ?_⟩) (by assumption) ?_
                rotate_left
                · (intro w9 _; go_simp; try with_reducible rfl)
                simp only [Act.put, List.getElem_toArray, List.getElem_cons_succ, List.getElem_cons_zero, List.setIfInBounds_toArray, List.set_cons_succ, List.set_cons_zero]
                refine wpAnyH_take (i := 6) (v := ?_) rfl (by kernel_rfl) (by kernel_rfl) (by kernel_rfl) (fun _ _ _ h => h) (Or.inl ⟨by rfl, ?_⟩) (by assumption) ?_
                rotate_left
                · (intro w9 _; go_simp; try with_reducible rfl)
                simp only [Act.put, List.getElem_toArray, List.getElem_cons_succ, List.getElem_cons_zero, List.setIfInBounds_toArray, List.set_cons_succ, List.set_cons_zero]
                refine wpAnyH_take (i := 7) (v := ?_) rfl (by kernel_rfl) (by kernel_rfl) (by kernel_rfl) (fun _ _ _ h => h) (Or.inl ⟨by rfl, ?_⟩) (by assumption) ?_
                rotate_left
                · (intro w9 _; go_simp; try with_reducible rfl)
                simp only [Act.put, List.getElem_toArray, List.getElem_cons_succ, List.getElem_cons_zero, List.setIfInBounds_toArray, List.set_cons_succ, List.set_cons_zero]
                refine wpAnyH_take (i := 8) (v := .agg (encI z).toArray) rfl (by kernel_rfl) (by kernel_rfl) (by kernel_rfl) (fun _ _ _ h => h) (yieldsIf_load_mid (by rfl) _ _ rfl _ _ rfl (encI z) _ (fun _ h => h.1) hu30 rfl hiZ) (by assumption) ?_
                simp only [Act.put, List.getElem_toArray, List.getElem_cons_succ, List.getElem_cons_zero, List.setIfInBounds_toArray, List.set_cons_succ, List.set_cons_zero]
                refine wpAnyH_take (i := 9) (v := ?_) rfl (by kernel_rfl) (by kernel_rfl) (by kernel_rfl) (fun _ _ _ h => h) (Or.inl ⟨by rfl, ?_⟩) (by assumption) ?_
                rotate_left
                · (intro w9 _; go_simp; try with_reducible rfl)
                simp only [Act.put, List.getElem_toArray, List.getElem_cons_succ, List.getElem_cons_zero, List.setIfInBounds_toArray, List.set_cons_succ, List.set_cons_zero]
                refine wpAnyH_take (i := 10) (v := ?_) rfl (by kernel_rfl) (by kernel_rfl) (by kernel_rfl) (fun _ _ _ h => h) (Or.inl ⟨by rfl, ?_⟩) (by assumption) ?_
                rotate_left
                · (intro w9 _; go_simp; try with_reducible rfl)
                simp only [Act.put, List.getElem_toArray, List.getElem_cons_succ, List.getElem_cons_zero, List.setIfInBounds_toArray, List.set_cons_succ, List.set_cons_zero]
                refine wpAnyH_take (i := 11) (v := ?_) rfl (by kernel_rfl) (by kernel_rfl) (by kernel_rfl) (fun _ _ _ h => h) (Or.inl ⟨by rfl, ?_⟩) (by assumption) ?_
                rotate_left
                · (intro w9 _; go_simp; try with_reducible rfl)
                simp only [Act.put, List.getElem_toArray, List.getElem_cons_succ, List.getElem_cons_zero, List.setIfInBounds_toArray, List.set_cons_succ, List.set_cons_zero]
                refine wpAnyH_take (i := 12) (v := .agg (encI x).toArray) rfl (by kernel_rfl) (by kernel_rfl) (by kernel_rfl) (fun _ _ _ h => h) (yieldsIf_load_mid (by rfl) _ _ rfl _ _ rfl (encI x) _ (fun _ h => h.2) hu30 rfl hiX) (by assumption) ?_
                simp only [Act.put, List.getElem_toArray, List.getElem_cons_succ, List.getElem_cons_zero, List.setIfInBounds_toArray, List.set_cons_succ, List.set_cons_zero]
                refine wpAnyH_ready (rs := [13]) (by kernel_rfl) (by simp) ?_
                refine AllReadyH.cons rfl (fun K hK => ?_) AllReadyH.nil
                go_simp
                refine (HCM.out _).mono ?_
                rintro e w4 ⟨rfl, hb4⟩
                have B4 := Lib.hid (hbd.out.trans (hb4.mono hbd.out.size)); have C4 := Lib.hid (hcd.out.trans (hb4.mono hcd.out.size))
                clear hb4
                refine hK.out _ _ ⟨HRO.out _ C4.out, HRX.out _ B4.out⟩ (fun hHeld => ?_)
                clear hK K
                refine wpAnyH_take (i := 14) (v := ?_) rfl (by kernel_rfl) (by kernel_rfl) (by kernel_rfl) (fun _ _ _ h => h) (Or.inl ⟨by rfl, ?_⟩) (by assumption) ?_
                rotate_left
                · (intro w9 _; go_simp; try with_reducible rfl)
                simp only [Act.put, List.getElem_toArray, List.getElem_cons_succ, List.getElem_cons_zero, List.setIfInBounds_toArray, List.set_cons_succ, List.set_cons_zero]
                refine wpAnyH_take (i := 15) (v := ?_) rfl (by kernel_rfl) (by kernel_rfl) (by kernel_rfl) (fun _ _ _ h => h) (Or.inl ⟨by rfl, ?_⟩) (by assumption) ?_
                rotate_left
                · (intro w9 _; go_simp; try with_reducible rfl)
                simp only [Act.put, List.getElem_toArray, List.getElem_cons_succ, List.getElem_cons_zero, List.setIfInBounds_toArray, List.set_cons_succ, List.set_cons_zero]
                refine wpAnyH_done (by kernel_rfl) ?_ _
                clear hHeld
                go_wp2_with fail
                have D4 := Lib.hid B4.out.drew
                obtain ⟨hjm, hjc, hjcI⟩ := HJ.out
                have HDR := Lib.hid (show ∀ W, IdsC W bo oo O → IdsC W bo (if co = j then oo else oo + j * 32) (O.drop j) from fun W h => by
                  by_cases e : co = j
                  · have e2 : O.drop j = [] := List.drop_eq_nil_of_le (by have := HM.out; omega)
                    rw [e2]; intro i hi; simp at hi
                  · rw [if_neg e]; exact idsC_drop h j)
                obtain ⟨q0, hq0⟩ : ∃ q0, q0 = w4.heap.size := ⟨_, rfl⟩
                have HWq := Lib.hid (show w.heap.size ≤ q0 by rw [hq0]; exact B4.out.size)
                have H2q := Lib.hid (show w2.heap.size ≤ q0 by rw [hq0]; exact C4.out.size)
                have Hq4 := Lib.hid (show q0 ≤ w4.heap.size by rw [hq0]; exact Nat.le_refl _)
                clear hq0
                have HAS := Lib.hid (Mid.ins_asc O x j (by have := HM.out; omega) hA.out hless.out (fun _ => by rw [← HZ.out]; exact HGE.out))
                refine wp_region_held_drew (S := (fun w' => w'.rangeAt b (off + k * 32) (encI x))) (by kernel_rfl) ?_ (fun hHeld => ?_)
                · exact (HRX.out _ D4.out)
                refine wpAnyH_take (i := 1) (v := ?_) rfl (by kernel_rfl) (by kernel_rfl) (by kernel_rfl) (fun _ _ _ h => h) (Or.inl ⟨by rfl, ?_⟩) (by assumption) ?_
                rotate_left
                · (intro w9 _; go_simp; try with_reducible rfl)
                simp only [Act.put, List.getElem_toArray, List.getElem_cons_succ, List.getElem_cons_zero, List.setIfInBounds_toArray, List.set_cons_succ, List.set_cons_zero]
                refine wpAnyH_take (i := 2) (v := ?_) rfl (by kernel_rfl) (by kernel_rfl) (by kernel_rfl) (fun _ _ _ h => h) (Or.inl ⟨by rfl, ?_⟩) (by assumption) ?_
                rotate_left
                · (intro w9 _; go_simp; try with_reducible rfl)
                simp only [Act.put, List.getElem_toArray, List.getElem_cons_succ, List.getElem_cons_zero, List.setIfInBounds_toArray, List.set_cons_succ, List.set_cons_zero]
                refine wpAnyH_take (i := 3) (v := ?_) rfl (by kernel_rfl) (by kernel_rfl) (by kernel_rfl) (fun _ _ _ h => h) (Or.inl ⟨by rfl, ?_⟩) (by assumption) ?_
                rotate_left
                · (intro w9 _; go_simp; try with_reducible rfl)
                simp only [Act.put, List.getElem_toArray, List.getElem_cons_succ, List.getElem_cons_zero, List.setIfInBounds_toArray, List.set_cons_succ, List.set_cons_zero]
                refine wpAnyH_take (i := 5) (v := ?_) rfl (by kernel_rfl) (by kernel_rfl) (by kernel_rfl) (fun _ _ _ h => h) (Or.inl ⟨by rfl, ?_⟩) (by assumption) ?_
                rotate_left
                · (intro w9 _; go_simp; try with_reducible rfl)
                simp only [Act.put, List.getElem_toArray, List.getElem_cons_succ, List.getElem_cons_zero, List.setIfInBounds_toArray, List.set_cons_succ, List.set_cons_zero]
                refine wpAnyH_take (i := 6) (v := ?_) rfl (by kernel_rfl) (by kernel_rfl) (by kernel_rfl) (fun _ _ _ h => h) (Or.inl ⟨by rfl, ?_⟩) (by assumption) ?_
                rotate_left
                · (intro w9 _; go_simp; try with_reducible rfl)
                simp only [Act.put, List.getElem_toArray, List.getElem_cons_succ, List.getElem_cons_zero, List.setIfInBounds_toArray, List.set_cons_succ, List.set_cons_zero]
                refine wpAnyH_take (i := 7) (v := ?_) rfl (by kernel_rfl) (by kernel_rfl) (by kernel_rfl) (fun _ _ _ h => h) (Or.inl ⟨by rfl, ?_⟩) (by assumption) ?_
                rotate_left
                · (intro w9 _; go_simp; try with_reducible rfl)
                simp only [Act.put, List.getElem_toArray, List.getElem_cons_succ, List.getElem_cons_zero, List.setIfInBounds_toArray, List.set_cons_succ, List.set_cons_zero]
                refine wpAnyH_take (i := 8) (v := .agg (encI x).toArray) rfl (by kernel_rfl) (by kernel_rfl) (by kernel_rfl) (fun _ _ _ h => h) (yieldsIf_load_mid (by rfl) _ _ rfl _ _ rfl (encI x) _ (fun _ h => h) hu30 rfl hiX) (by assumption) ?_
                simp only [Act.put, List.getElem_toArray, List.getElem_cons_succ, List.getElem_cons_zero, List.setIfInBounds_toArray, List.set_cons_succ, List.set_cons_zero]
                refine wpAnyH_take (i := 11) (v := ?_) rfl (by kernel_rfl) (by kernel_rfl) (by kernel_rfl) (fun _ _ _ h => h) (Or.inl ⟨by rfl, ?_⟩) (by assumption) ?_
                rotate_left
                · (intro w9 _; go_simp; try with_reducible rfl)
                simp only [Act.put, List.getElem_toArray, List.getElem_cons_succ, List.getElem_cons_zero, List.setIfInBounds_toArray, List.set_cons_succ, List.set_cons_zero]
                refine wpAnyH_take (i := 12) (v := ?_) rfl (by kernel_rfl) (by kernel_rfl) (by kernel_rfl) (fun _ _ _ h => h) (Or.inl ⟨by rfl, ?_⟩) (by assumption) ?_
                rotate_left
                · (intro w9 _; go_simp; try with_reducible rfl)
                simp only [Act.put, List.getElem_toArray, List.getElem_cons_succ, List.getElem_cons_zero, List.setIfInBounds_toArray, List.set_cons_succ, List.set_cons_zero]
                refine wpAnyH_take (i := 13) (v := dropV bo oo m co j) rfl (by kernel_rfl) (by kernel_rfl) (by kernel_rfl) (fun _ _ _ h => h) (yields_drop (by rfl) _ _ rfl bo oo m co j rfl rfl hjm) (by assumption) ?_
                simp only [Act.put, List.getElem_toArray, List.getElem_cons_succ, List.getElem_cons_zero, List.setIfInBounds_toArray, List.set_cons_succ, List.set_cons_zero]
                unfold dropV
                refine wpAnyH_ready (rs := [0, 9]) (by kernel_rfl) (by simp) ?_
                refine AllReadyH.cons rfl (fun K hK => ?_) (AllReadyH.cons rfl (fun K hK => ?_) AllReadyH.nil)
                · go_simp
                  have Gwa0 := Lib.hid (show OwnI 30 q0 (w4.alloc (.cells #[] 30)).drew (.slice (some ⟨w4.heap.size, 0, none⟩) 0 0) [] from World.ownsRow_made w4 #[] 0 Hq4.out (Nat.zero_le _) (by simp))
                  have Fwa0 := Lib.hid (show Below q0 w4 (w4.alloc (.cells #[] 30)).drew from ((Below.refl _ w4).alloc Hq4.out _).drew)
                  obtain ⟨g0, hg0⟩ : ∃ g0, g0 = w4.heap.size := ⟨_, rfl⟩
                  rw [← hg0] at Gwa0 ⊢
                  have hdum := True.intro
                  clear hg0 hdum
                  generalize (w4.alloc (.cells #[] 30)).drew = wa0 at *
                  refine hK.out _ _ (HRX.out _ (B4.out.trans (Fwa0.out.mono HWq.out))) (fun hHeld => ?_)
                  clear hK K
                  refine wpAnyH_ready (rs := [4, 9]) (by kernel_rfl) (by simp) ?_
                  refine AllReadyH.cons rfl (fun K hK => ?_) (AllReadyH.cons rfl (fun K hK => ?_) AllReadyH.nil)
                  · refine step_app (by rfl) _ _ rfl q0 (.slice (some ⟨g0, 0, none⟩) 0 0) _ (by rfl) Gwa0.out bo oo j co (O.take j) (by rfl) (by rw [List.length_take]; have := HM.out; omega) (idsC_take (HKO.out _ (C4.out.trans (Fwa0.out.mono H2q.out))) j (by have := HM.out; omega)) (by have := HM.out; simp <;> omega) (Nat.le_trans Hq4.out Fwa0.out.size) ?_
                    intro vwa1 wa1 Gwa1 Hwa1
                    have Fwa1 := Lib.hid (Fwa0.out.grown Hwa1.out (Nat.le_trans Hq4.out Fwa0.out.size) (fun j hj => (Gwa0.out.lt j hj).1))
                    refine hK.out _ _ (HRX.out _ (B4.out.trans (Fwa1.out.mono HWq.out))) (fun hHeld => ?_)
                    clear hK K
                    refine wpAnyH_ready (rs := [9]) (by kernel_rfl) (by simp) ?_
                    refine AllReadyH.cons rfl (fun K hK => ?_) AllReadyH.nil
                    go_simp
                    rw [fold_enc x]
                    have Xwa2 := Lib.hid (show Blk (wa1.alloc (.cells (encI x).toArray 30)) wa1.heap.size 30 (encI x).toArray from Blk.fresh wa1 30 (encI x).toArray)
                    have Fwa2 := Lib.hid (show Below q0 w4 (wa1.alloc (.cells (encI x).toArray 30)) from Fwa1.out.alloc (Nat.le_trans Hq4.out Fwa1.out.size) _)
                    have Gwa2 := Lib.hid (Gwa1.out.alloc (.cells (encI x).toArray 30))
                    obtain ⟨gx, hgx2⟩ : ∃ gx, gx = wa1.heap.size := ⟨_, rfl⟩
                    rw [← hgx2] at Xwa2 ⊢
                    have hdum := True.intro
                    clear hgx2 hdum
                    generalize (wa1.alloc (.cells (encI x).toArray 30)) = wa2 at *
                    refine hK.out _ _ (HRX.out _ (B4.out.trans (Fwa2.out.mono HWq.out))) (fun hHeld => ?_)
                    clear hK K
                    refine wpAnyH_ready (rs := [10]) (by kernel_rfl) (by simp) ?_
                    refine AllReadyH.cons rfl (fun K hK => ?_) AllReadyH.nil
                    refine step_app (by rfl) _ _ rfl q0 vwa1 _ (by rfl) Gwa2.out gx 0 1 1 [x] (by rfl) rfl (idsC_one (encBlk Xwa2.out)) (by have := HM.out; simp <;> omega) (Nat.le_trans Hq4.out Fwa2.out.size) ?_
                    intro vwa3 wa3 Gwa3 Hwa3
                    have Fwa3 := Lib.hid (Fwa2.out.grown Hwa3.out (Nat.le_trans Hq4.out Fwa2.out.size) (fun j hj => (Gwa2.out.lt j hj).1))
                    refine hK.out _ _ (HRX.out _ (B4.out.trans (Fwa3.out.mono HWq.out))) (fun hHeld => ?_)
                    clear hK K
                    refine wpAnyH_ready (rs := [14]) (by kernel_rfl) (by simp) ?_
                    refine AllReadyH.cons rfl (fun K hK => ?_) AllReadyH.nil
                    refine step_app (by rfl) _ _ rfl q0 vwa3 _ (by rfl) Gwa3.out bo (if co = j then oo else oo + j * 32) (m - j) (co - j) (O.drop j) (by rfl) (by rw [List.length_drop]; have := HM.out; omega) (HDR.out _ (HKO.out _ (C4.out.trans (Fwa3.out.mono H2q.out)))) (by have := HM.out; simp <;> omega) (Nat.le_trans Hq4.out Fwa3.out.size) ?_
                    intro vwa4 wa4 Gwa4 Hwa4
                    have Fwa4 := Lib.hid (Fwa3.out.grown Hwa4.out (Nat.le_trans Hq4.out Fwa3.out.size) (fun j hj => (Gwa3.out.lt j hj).1))
                    refine hK.out _ _ (HRX.out _ (B4.out.trans (Fwa4.out.mono HWq.out))) (fun hHeld => ?_)
                    clear hK K
                    refine wpAnyH_take (i := 15) (v := ?_) rfl (by kernel_rfl) (by kernel_rfl) (by kernel_rfl) (fun _ _ _ h => h) (Or.inl ⟨by rfl, ?_⟩) (by assumption) ?_
                    rotate_left
                    · (intro w9 _; go_simp; try with_reducible rfl)
                    simp only [Act.put, List.getElem_toArray, List.getElem_cons_succ, List.getElem_cons_zero, List.setIfInBounds_toArray, List.set_cons_succ, List.set_cons_zero]
                    refine wpAnyH_done (by kernel_rfl) ?_ _
                    clear hHeld
                    go_wp2_with fail
                    exact ⟨⟨k + 1, _, _, rfl, by go_num, hlt, Lib.hid Gwa4.out.ids, Lib.hid (by have h := HAS.out; simpa using h), Lib.hid (fun u => by have h := HM2.out j u; simpa using h), by have := HM.out; simp; omega, Lib.hid (fun h => by simp at h), Lib.hid (B4.out.trans (Fwa4.out.mono HWq.out))⟩, by simp [intOf]; omega⟩
                  · go_simp
                    rw [fold_enc x]
                    have Xwa1 := Lib.hid (show Blk (wa0.alloc (.cells (encI x).toArray 30)) wa0.heap.size 30 (encI x).toArray from Blk.fresh wa0 30 (encI x).toArray)
                    have Fwa1 := Lib.hid (show Below q0 w4 (wa0.alloc (.cells (encI x).toArray 30)) from Fwa0.out.alloc (Nat.le_trans Hq4.out Fwa0.out.size) _)
                    have hgx : g0 < wa0.heap.size := (Gwa0.out.lt g0 rfl).2
                    have Gwa1 := Lib.hid (Gwa0.out.alloc (.cells (encI x).toArray 30))
                    obtain ⟨gx, hgx2⟩ : ∃ gx, gx = wa0.heap.size := ⟨_, rfl⟩
                    rw [← hgx2] at Xwa1 ⊢
                    have HNE := Lib.hid (show gx ≠ g0 by omega)
                    clear hgx2 hgx
                    generalize (wa0.alloc (.cells (encI x).toArray 30)) = wa1 at *
                    refine hK.out _ _ (HRX.out _ (B4.out.trans (Fwa1.out.mono HWq.out))) (fun hHeld => ?_)
                    clear hK K
                    refine wpAnyH_ready (rs := [4]) (by kernel_rfl) (by simp) ?_
                    refine AllReadyH.cons rfl (fun K hK => ?_) AllReadyH.nil
                    refine step_app (by rfl) _ _ rfl q0 (.slice (some ⟨g0, 0, none⟩) 0 0) _ (by rfl) Gwa1.out bo oo j co (O.take j) (by rfl) (by rw [List.length_take]; have := HM.out; omega) (idsC_take (HKO.out _ (C4.out.trans (Fwa1.out.mono H2q.out))) j (by have := HM.out; omega)) (by have := HM.out; simp <;> omega) (Nat.le_trans Hq4.out Fwa1.out.size) ?_
                    intro vwa2 wa2 Gwa2 Hwa2
                    have Fwa2 := Lib.hid (Fwa1.out.grown Hwa2.out (Nat.le_trans Hq4.out Fwa1.out.size) (fun j hj => (Gwa1.out.lt j hj).1))
                    have Xwa2 := Lib.hid ((Hwa2.out.block gx Xwa1.out.lt (by have := HNE.out; simpa [Value.ownBlock] using this)).trans Xwa1.out)
                    refine hK.out _ _ (HRX.out _ (B4.out.trans (Fwa2.out.mono HWq.out))) (fun hHeld => ?_)
                    clear hK K
                    refine wpAnyH_ready (rs := [10]) (by kernel_rfl) (by simp) ?_
                    refine AllReadyH.cons rfl (fun K hK => ?_) AllReadyH.nil
                    refine step_app (by rfl) _ _ rfl q0 vwa2 _ (by rfl) Gwa2.out gx 0 1 1 [x] (by rfl) rfl (idsC_one (encBlk Xwa2.out)) (by have := HM.out; simp <;> omega) (Nat.le_trans Hq4.out Fwa2.out.size) ?_
                    intro vwa3 wa3 Gwa3 Hwa3
                    have Fwa3 := Lib.hid (Fwa2.out.grown Hwa3.out (Nat.le_trans Hq4.out Fwa2.out.size) (fun j hj => (Gwa2.out.lt j hj).1))
                    refine hK.out _ _ (HRX.out _ (B4.out.trans (Fwa3.out.mono HWq.out))) (fun hHeld => ?_)
                    clear hK K
                    refine wpAnyH_ready (rs := [14]) (by kernel_rfl) (by simp) ?_
                    refine AllReadyH.cons rfl (fun K hK => ?_) AllReadyH.nil
                    refine step_app (by rfl) _ _ rfl q0 vwa3 _ (by rfl) Gwa3.out bo (if co = j then oo else oo + j * 32) (m - j) (co - j) (O.drop j) (by rfl) (by rw [List.length_drop]; have := HM.out; omega) (HDR.out _ (HKO.out _ (C4.out.trans (Fwa3.out.mono H2q.out)))) (by have := HM.out; simp <;> omega) (Nat.le_trans Hq4.out Fwa3.out.size) ?_
                    intro vwa4 wa4 Gwa4 Hwa4
                    have Fwa4 := Lib.hid (Fwa3.out.grown Hwa4.out (Nat.le_trans Hq4.out Fwa3.out.size) (fun j hj => (Gwa3.out.lt j hj).1))
                    refine hK.out _ _ (HRX.out _ (B4.out.trans (Fwa4.out.mono HWq.out))) (fun hHeld => ?_)
                    clear hK K
                    refine wpAnyH_take (i := 15) (v := ?_) rfl (by kernel_rfl) (by kernel_rfl) (by kernel_rfl) (fun _ _ _ h => h) (Or.inl ⟨by rfl, ?_⟩) (by assumption) ?_
                    rotate_left
                    · (intro w9 _; go_simp; try with_reducible rfl)
                    simp only [Act.put, List.getElem_toArray, List.getElem_cons_succ, List.getElem_cons_zero, List.setIfInBounds_toArray, List.set_cons_succ, List.set_cons_zero]
                    refine wpAnyH_done (by kernel_rfl) ?_ _
                    clear hHeld
                    go_wp2_with fail
                    exact ⟨⟨k + 1, _, _, rfl, by go_num, hlt, Lib.hid Gwa4.out.ids, Lib.hid (by have h := HAS.out; simpa using h), Lib.hid (fun u => by have h := HM2.out j u; simpa using h), by have := HM.out; simp; omega, Lib.hid (fun h => by simp at h), Lib.hid (B4.out.trans (Fwa4.out.mono HWq.out))⟩, by simp [intOf]; omega⟩
                · go_simp
                  rw [fold_enc x]
                  have Xwa0 := Lib.hid (show Blk (w4.alloc (.cells (encI x).toArray 30)).drew w4.heap.size 30 (encI x).toArray from Blk.fresh w4 30 (encI x).toArray)
                  have Fwa0 := Lib.hid (show Below q0 w4 (w4.alloc (.cells (encI x).toArray 30)).drew from ((Below.refl _ w4).alloc Hq4.out _).drew)
                  obtain ⟨gx, hgx2⟩ : ∃ gx, gx = w4.heap.size := ⟨_, rfl⟩
                  rw [← hgx2] at Xwa0 ⊢
                  have hdum := True.intro
                  clear hgx2 hdum
                  generalize (w4.alloc (.cells (encI x).toArray 30)).drew = wa0 at *
                  refine hK.out _ _ (HRX.out _ (B4.out.trans (Fwa0.out.mono HWq.out))) (fun hHeld => ?_)
                  clear hK K
                  refine wpAnyH_ready (rs := [0]) (by kernel_rfl) (by simp) ?_
                  refine AllReadyH.cons rfl (fun K hK => ?_) AllReadyH.nil
                  go_simp
                  have Gwa1 := Lib.hid (show OwnI 30 q0 (wa0.alloc (.cells #[] 30)) (.slice (some ⟨wa0.heap.size, 0, none⟩) 0 0) [] from World.ownsRow_made wa0 #[] 0 (Nat.le_trans Hq4.out Fwa0.out.size) (Nat.zero_le _) (by simp))
                  have Fwa1 := Lib.hid (show Below q0 w4 (wa0.alloc (.cells #[] 30)) from Fwa0.out.alloc (Nat.le_trans Hq4.out Fwa0.out.size) _)
                  have Xwa1 := Lib.hid ((Xwa0.out.more (.cells #[] 30)))
                  have hgx : gx < wa0.heap.size := Xwa0.out.lt
                  obtain ⟨g0, hg0⟩ : ∃ g0, g0 = wa0.heap.size := ⟨_, rfl⟩
                  rw [← hg0] at Gwa1 ⊢
                  have HNE := Lib.hid (show gx ≠ g0 by omega)
                  clear hg0 hgx
                  generalize (wa0.alloc (.cells #[] 30)) = wa1 at *
                  refine hK.out _ _ (HRX.out _ (B4.out.trans (Fwa1.out.mono HWq.out))) (fun hHeld => ?_)
                  clear hK K
                  refine wpAnyH_ready (rs := [4]) (by kernel_rfl) (by simp) ?_
                  refine AllReadyH.cons rfl (fun K hK => ?_) AllReadyH.nil
                  refine step_app (by rfl) _ _ rfl q0 (.slice (some ⟨g0, 0, none⟩) 0 0) _ (by rfl) Gwa1.out bo oo j co (O.take j) (by rfl) (by rw [List.length_take]; have := HM.out; omega) (idsC_take (HKO.out _ (C4.out.trans (Fwa1.out.mono H2q.out))) j (by have := HM.out; omega)) (by have := HM.out; simp <;> omega) (Nat.le_trans Hq4.out Fwa1.out.size) ?_
                  intro vwa2 wa2 Gwa2 Hwa2
                  have Fwa2 := Lib.hid (Fwa1.out.grown Hwa2.out (Nat.le_trans Hq4.out Fwa1.out.size) (fun j hj => (Gwa1.out.lt j hj).1))
                  have Xwa2 := Lib.hid ((Hwa2.out.block gx Xwa1.out.lt (by have := HNE.out; simpa [Value.ownBlock] using this)).trans Xwa1.out)
                  refine hK.out _ _ (HRX.out _ (B4.out.trans (Fwa2.out.mono HWq.out))) (fun hHeld => ?_)
                  clear hK K
                  refine wpAnyH_ready (rs := [10]) (by kernel_rfl) (by simp) ?_
                  refine AllReadyH.cons rfl (fun K hK => ?_) AllReadyH.nil
                  refine step_app (by rfl) _ _ rfl q0 vwa2 _ (by rfl) Gwa2.out gx 0 1 1 [x] (by rfl) rfl (idsC_one (encBlk Xwa2.out)) (by have := HM.out; simp <;> omega) (Nat.le_trans Hq4.out Fwa2.out.size) ?_
                  intro vwa3 wa3 Gwa3 Hwa3
                  have Fwa3 := Lib.hid (Fwa2.out.grown Hwa3.out (Nat.le_trans Hq4.out Fwa2.out.size) (fun j hj => (Gwa2.out.lt j hj).1))
                  refine hK.out _ _ (HRX.out _ (B4.out.trans (Fwa3.out.mono HWq.out))) (fun hHeld => ?_)
                  clear hK K
                  refine wpAnyH_ready (rs := [14]) (by kernel_rfl) (by simp) ?_
                  refine AllReadyH.cons rfl (fun K hK => ?_) AllReadyH.nil
                  refine step_app (by rfl) _ _ rfl q0 vwa3 _ (by rfl) Gwa3.out bo (if co = j then oo else oo + j * 32) (m - j) (co - j) (O.drop j) (by rfl) (by rw [List.length_drop]; have := HM.out; omega) (HDR.out _ (HKO.out _ (C4.out.trans (Fwa3.out.mono H2q.out)))) (by have := HM.out; simp <;> omega) (Nat.le_trans Hq4.out Fwa3.out.size) ?_
                  intro vwa4 wa4 Gwa4 Hwa4
                  have Fwa4 := Lib.hid (Fwa3.out.grown Hwa4.out (Nat.le_trans Hq4.out Fwa3.out.size) (fun j hj => (Gwa3.out.lt j hj).1))
                  refine hK.out _ _ (HRX.out _ (B4.out.trans (Fwa4.out.mono HWq.out))) (fun hHeld => ?_)
                  clear hK K
                  refine wpAnyH_take (i := 15) (v := ?_) rfl (by kernel_rfl) (by kernel_rfl) (by kernel_rfl) (fun _ _ _ h => h) (Or.inl ⟨by rfl, ?_⟩) (by assumption) ?_
                  rotate_left
                  · (intro w9 _; go_simp; try with_reducible rfl)
                  simp only [Act.put, List.getElem_toArray, List.getElem_cons_succ, List.getElem_cons_zero, List.setIfInBounds_toArray, List.set_cons_succ, List.set_cons_zero]
                  refine wpAnyH_done (by kernel_rfl) ?_ _
                  clear hHeld
                  go_wp2_with fail
                  exact ⟨⟨k + 1, _, _, rfl, by go_num, hlt, Lib.hid Gwa4.out.ids, Lib.hid (by have h := HAS.out; simpa using h), Lib.hid (fun u => by have h := HM2.out j u; simpa using h), by have := HM.out; simp; omega, Lib.hid (fun h => by simp at h), Lib.hid (B4.out.trans (Fwa4.out.mono HWq.out))⟩, by simp [intOf]; omega⟩
            · obtain rfl : j = m := by omega
              by_cases hne : O = []
              · have hv0 := hnil.out hne
                have hm0 : j = 0 := by have := HM.out; rw [hne] at this; simpa using this
                subst hne
                subst hm0
                obtain ⟨rfl, rfl⟩ : ao = none ∧ co = 0 := by injection hv0 with e1 e2 e3; exact ⟨e1, e3⟩
                clear hv0
                go_wp2_with fail
                refine wp_region_held_drew (S := (fun _ => True)) (by kernel_rfl) ?_ (fun hHeld => ?_)
                · exact trivial
                refine wpAnyH_take (i := 0) (v := ?_) rfl (by kernel_rfl) (by kernel_rfl) (by kernel_rfl) (fun _ _ _ h => h) (Or.inl ⟨by rfl, ?_⟩) (by assumption) ?_
                rotate_left
                · (intro w9 _; go_simp; try with_reducible rfl)
                simp only [Act.put, List.getElem_toArray, List.getElem_cons_zero, List.setIfInBounds_toArray, List.set_cons_succ, List.set_cons_zero]
                refine wpAnyH_take (i := 1) (v := ?_) rfl (by kernel_rfl) (by kernel_rfl) (by kernel_rfl) (fun _ _ _ h => h) (Or.inl ⟨by rfl, ?_⟩) (by assumption) ?_
                rotate_left
                · (intro w9 _; go_simp; try with_reducible rfl)
                simp only [Act.put, List.getElem_toArray, List.getElem_cons_succ, List.getElem_cons_zero, List.setIfInBounds_toArray, List.set_cons_succ, List.set_cons_zero]
                refine wpAnyH_take (i := 2) (v := ?_) rfl (by kernel_rfl) (by kernel_rfl) (by kernel_rfl) (fun _ _ _ h => h) (Or.inl ⟨by rfl, ?_⟩) (by assumption) ?_
                rotate_left
                · (intro w9 _; go_simp; try with_reducible rfl)
                simp only [Act.put, List.getElem_toArray, List.getElem_cons_succ, List.getElem_cons_zero, List.setIfInBounds_toArray, List.set_cons_succ, List.set_cons_zero]
                refine wpAnyH_take (i := 3) (v := ?_) rfl (by kernel_rfl) (by kernel_rfl) (by kernel_rfl) (fun _ _ _ h => h) (Or.inl ⟨by rfl, ?_⟩) (by assumption) ?_
                rotate_left
                · (intro w9 _; go_simp; try with_reducible rfl)
                simp only [Act.put, List.getElem_toArray, List.getElem_cons_succ, List.getElem_cons_zero, List.setIfInBounds_toArray, List.set_cons_succ, List.set_cons_zero]
                refine wpAnyH_take (i := 4) (v := ?_) rfl (by kernel_rfl) (by kernel_rfl) (by kernel_rfl) (fun _ _ _ h => h) (Or.inl ⟨by rfl, ?_⟩) (by assumption) ?_
                rotate_left
                · (intro w9 _; go_simp; try with_reducible rfl)
                simp only [Act.put, List.getElem_toArray, List.getElem_cons_succ, List.getElem_cons_zero, List.setIfInBounds_toArray, List.set_cons_succ, List.set_cons_zero]
                refine wpAnyH_take (i := 5) (v := undef) rfl (by kernel_rfl) (by kernel_rfl) (by kernel_rfl) (fun _ _ _ h => h) (Or.inr ⟨by rfl, rfl⟩) (by assumption) ?_
                simp only [Act.put, List.getElem_toArray, List.getElem_cons_succ, List.getElem_cons_zero, List.setIfInBounds_toArray, List.set_cons_succ, List.set_cons_zero]
                refine wpAnyH_take (i := 6) (v := undef) rfl (by kernel_rfl) (by kernel_rfl) (by kernel_rfl) (fun _ _ _ h => h) (Or.inr ⟨by rfl, rfl⟩) (by assumption) ?_
                simp only [Act.put, List.getElem_toArray, List.getElem_cons_succ, List.getElem_cons_zero, List.setIfInBounds_toArray, List.set_cons_succ, List.set_cons_zero]
                refine wpAnyH_take (i := 7) (v := undef) rfl (by kernel_rfl) (by kernel_rfl) (by kernel_rfl) (fun _ _ _ h => h) (Or.inr ⟨by rfl, rfl⟩) (by assumption) ?_
                simp only [Act.put, List.getElem_toArray, List.getElem_cons_succ, List.getElem_cons_zero, List.setIfInBounds_toArray, List.set_cons_succ, List.set_cons_zero]
                refine wpAnyH_take (i := 8) (v := undef) rfl (by kernel_rfl) (by kernel_rfl) (by kernel_rfl) (fun _ _ _ h => h) (Or.inr ⟨by rfl, rfl⟩) (by assumption) ?_
                simp only [Act.put, List.getElem_toArray, List.getElem_cons_succ, List.getElem_cons_zero, List.setIfInBounds_toArray, List.set_cons_succ, List.set_cons_zero]
                refine wpAnyH_take (i := 9) (v := undef) rfl (by kernel_rfl) (by kernel_rfl) (by kernel_rfl) (fun _ _ _ h => h) (Or.inr ⟨by rfl, rfl⟩) (by assumption) ?_
                simp only [Act.put, List.getElem_toArray, List.getElem_cons_succ, List.getElem_cons_zero, List.setIfInBounds_toArray, List.set_cons_succ, List.set_cons_zero]
                refine wpAnyH_take (i := 10) (v := undef) rfl (by kernel_rfl) (by kernel_rfl) (by kernel_rfl) (fun _ _ _ h => h) (Or.inr ⟨by rfl, rfl⟩) (by assumption) ?_
                simp only [Act.put, List.getElem_toArray, List.getElem_cons_succ, List.getElem_cons_zero, List.setIfInBounds_toArray, List.set_cons_succ, List.set_cons_zero]
                refine wpAnyH_take (i := 11) (v := undef) rfl (by kernel_rfl) (by kernel_rfl) (by kernel_rfl) (fun _ _ _ h => h) (Or.inr ⟨by rfl, rfl⟩) (by assumption) ?_
                simp only [Act.put, List.getElem_toArray, List.getElem_cons_succ, List.getElem_cons_zero, List.setIfInBounds_toArray, List.set_cons_succ, List.set_cons_zero]
                refine wpAnyH_take (i := 12) (v := undef) rfl (by kernel_rfl) (by kernel_rfl) (by kernel_rfl) (fun _ _ _ h => h) (Or.inr ⟨by rfl, rfl⟩) (by assumption) ?_
                simp only [Act.put, List.getElem_toArray, List.getElem_cons_succ, List.getElem_cons_zero, List.setIfInBounds_toArray, List.set_cons_succ, List.set_cons_zero]
                refine wpAnyH_take (i := 13) (v := undef) rfl (by kernel_rfl) (by kernel_rfl) (by kernel_rfl) (fun _ _ _ h => h) (Or.inr ⟨by rfl, rfl⟩) (by assumption) ?_
                simp only [Act.put, List.getElem_toArray, List.getElem_cons_succ, List.getElem_cons_zero, List.setIfInBounds_toArray, List.set_cons_succ, List.set_cons_zero]
                refine wpAnyH_take (i := 14) (v := undef) rfl (by kernel_rfl) (by kernel_rfl) (by kernel_rfl) (fun _ _ _ h => h) (Or.inr ⟨by rfl, rfl⟩) (by assumption) ?_
                simp only [Act.put, List.getElem_toArray, List.getElem_cons_succ, List.getElem_cons_zero, List.setIfInBounds_toArray, List.set_cons_succ, List.set_cons_zero]
                refine wpAnyH_take (i := 15) (v := ?_) rfl (by kernel_rfl) (by kernel_rfl) (by kernel_rfl) (fun _ _ _ h => h) (Or.inl ⟨by rfl, ?_⟩) (by assumption) ?_
                rotate_left
                · (intro w9 _; go_simp; try with_reducible rfl)
                simp only [Act.put, List.getElem_toArray, List.getElem_cons_succ, List.getElem_cons_zero, List.setIfInBounds_toArray, List.set_cons_succ, List.set_cons_zero]
                refine wpAnyH_done (by kernel_rfl) ?_ _
                clear hHeld
                have B4 := hbd; have C4 := hcd
                clear hbd hcd hbq hcq
                generalize wr.drew = w4 at *
                go_wp2_with fail
                have D4 := Lib.hid B4.out.drew
                obtain ⟨q0, hq0⟩ : ∃ q0, q0 = w4.heap.size := ⟨_, rfl⟩
                have HWq := Lib.hid (show w.heap.size ≤ q0 by rw [hq0]; exact B4.out.size)
                have H2q := Lib.hid (show w2.heap.size ≤ q0 by rw [hq0]; exact C4.out.size)
                have Hq4 := Lib.hid (show q0 ≤ w4.heap.size by rw [hq0]; exact Nat.le_refl _)
                clear hq0
                refine wp_region_held_drew (S := (fun w' => w'.rangeAt b (off + k * 32) (encI x))) (by kernel_rfl) ?_ (fun hHeld => ?_)
                · exact (HRX.out _ D4.out)
                refine wpAnyH_take (i := 1) (v := ?_) rfl (by kernel_rfl) (by kernel_rfl) (by kernel_rfl) (fun _ _ _ h => h) (Or.inl ⟨by rfl, ?_⟩) (by assumption) ?_
                rotate_left
                · (intro w9 _; go_simp; try with_reducible rfl)
                simp only [Act.put, List.getElem_toArray, List.getElem_cons_succ, List.getElem_cons_zero, List.setIfInBounds_toArray, List.set_cons_succ, List.set_cons_zero]
                refine wpAnyH_take (i := 2) (v := ?_) rfl (by kernel_rfl) (by kernel_rfl) (by kernel_rfl) (fun _ _ _ h => h) (Or.inl ⟨by rfl, ?_⟩) (by assumption) ?_
                rotate_left
                · (intro w9 _; go_simp; try with_reducible rfl)
                simp only [Act.put, List.getElem_toArray, List.getElem_cons_succ, List.getElem_cons_zero, List.setIfInBounds_toArray, List.set_cons_succ, List.set_cons_zero]
                refine wpAnyH_take (i := 3) (v := ?_) rfl (by kernel_rfl) (by kernel_rfl) (by kernel_rfl) (fun _ _ _ h => h) (Or.inl ⟨by rfl, ?_⟩) (by assumption) ?_
                rotate_left
                · (intro w9 _; go_simp; try with_reducible rfl)
                simp only [Act.put, List.getElem_toArray, List.getElem_cons_succ, List.getElem_cons_zero, List.setIfInBounds_toArray, List.set_cons_succ, List.set_cons_zero]
                refine wpAnyH_take (i := 5) (v := ?_) rfl (by kernel_rfl) (by kernel_rfl) (by kernel_rfl) (fun _ _ _ h => h) (Or.inl ⟨by rfl, ?_⟩) (by assumption) ?_
                rotate_left
                · (intro w9 _; go_simp; try with_reducible rfl)
                simp only [Act.put, List.getElem_toArray, List.getElem_cons_succ, List.getElem_cons_zero, List.setIfInBounds_toArray, List.set_cons_succ, List.set_cons_zero]
                refine wpAnyH_take (i := 6) (v := ?_) rfl (by kernel_rfl) (by kernel_rfl) (by kernel_rfl) (fun _ _ _ h => h) (Or.inl ⟨by rfl, ?_⟩) (by assumption) ?_
                rotate_left
                · (intro w9 _; go_simp; try with_reducible rfl)
                simp only [Act.put, List.getElem_toArray, List.getElem_cons_succ, List.getElem_cons_zero, List.setIfInBounds_toArray, List.set_cons_succ, List.set_cons_zero]
                refine wpAnyH_take (i := 7) (v := ?_) rfl (by kernel_rfl) (by kernel_rfl) (by kernel_rfl) (fun _ _ _ h => h) (Or.inl ⟨by rfl, ?_⟩) (by assumption) ?_
                rotate_left
                · (intro w9 _; go_simp; try with_reducible rfl)
                simp only [Act.put, List.getElem_toArray, List.getElem_cons_succ, List.getElem_cons_zero, List.setIfInBounds_toArray, List.set_cons_succ, List.set_cons_zero]
                refine wpAnyH_take (i := 8) (v := .agg (encI x).toArray) rfl (by kernel_rfl) (by kernel_rfl) (by kernel_rfl) (fun _ _ _ h => h) (yieldsIf_load_mid (by rfl) _ _ rfl _ _ rfl (encI x) _ (fun _ h => h) hu30 rfl hiX) (by assumption) ?_
                simp only [Act.put, List.getElem_toArray, List.getElem_cons_succ, List.getElem_cons_zero, List.setIfInBounds_toArray, List.set_cons_succ, List.set_cons_zero]
                refine wpAnyH_take (i := 11) (v := ?_) rfl (by kernel_rfl) (by kernel_rfl) (by kernel_rfl) (fun _ _ _ h => h) (Or.inl ⟨by rfl, ?_⟩) (by assumption) ?_
                rotate_left
                · (intro w9 _; go_simp; try with_reducible rfl)
                simp only [Act.put, List.getElem_toArray, List.getElem_cons_succ, List.getElem_cons_zero, List.setIfInBounds_toArray, List.set_cons_succ, List.set_cons_zero]
                refine wpAnyH_take (i := 12) (v := ?_) rfl (by kernel_rfl) (by kernel_rfl) (by kernel_rfl) (fun _ _ _ h => h) (Or.inl ⟨by rfl, ?_⟩) (by assumption) ?_
                rotate_left
                · (intro w9 _; go_simp; try with_reducible rfl)
                simp only [Act.put, List.getElem_toArray, List.getElem_cons_succ, List.getElem_cons_zero, List.setIfInBounds_toArray, List.set_cons_succ, List.set_cons_zero]
                refine wpAnyH_take (i := 13) (v := ?_) rfl (by kernel_rfl) (by kernel_rfl) (by kernel_rfl) (fun _ _ _ h => h) (Or.inl ⟨by rfl, ?_⟩) (by assumption) ?_
                rotate_left
                · (intro w9 _; go_simp; try with_reducible rfl)
                simp only [Act.put, List.getElem_toArray, List.getElem_cons_succ, List.getElem_cons_zero, List.setIfInBounds_toArray, List.set_cons_succ, List.set_cons_zero]
                refine wpAnyH_ready (rs := [0, 9]) (by kernel_rfl) (by simp) ?_
                refine AllReadyH.cons rfl (fun K hK => ?_) (AllReadyH.cons rfl (fun K hK => ?_) AllReadyH.nil)
                · go_simp
                  have Gwa0 := Lib.hid (show OwnI 30 q0 (w4.alloc (.cells #[] 30)).drew (.slice (some ⟨w4.heap.size, 0, none⟩) 0 0) [] from World.ownsRow_made w4 #[] 0 Hq4.out (Nat.zero_le _) (by simp))
                  have Fwa0 := Lib.hid (show Below q0 w4 (w4.alloc (.cells #[] 30)).drew from ((Below.refl _ w4).alloc Hq4.out _).drew)
                  obtain ⟨g0, hg0⟩ : ∃ g0, g0 = w4.heap.size := ⟨_, rfl⟩
                  rw [← hg0] at Gwa0 ⊢
                  have hdum := True.intro
                  clear hg0 hdum
                  generalize (w4.alloc (.cells #[] 30)).drew = wa0 at *
                  refine hK.out _ _ (HRX.out _ (B4.out.trans (Fwa0.out.mono HWq.out))) (fun hHeld => ?_)
                  clear hK K
                  refine wpAnyH_ready (rs := [4, 9]) (by kernel_rfl) (by simp) ?_
                  refine AllReadyH.cons rfl (fun K hK => ?_) (AllReadyH.cons rfl (fun K hK => ?_) AllReadyH.nil)
                  · refine step_app_none (by rfl) _ _ rfl q0 (.slice (some ⟨g0, 0, none⟩) 0 0) _ (by rfl) Gwa0.out (by rfl) ?_
                    refine hK.out _ _ (HRX.out _ (B4.out.trans (Fwa0.out.mono HWq.out))) (fun hHeld => ?_)
                    clear hK K
                    refine wpAnyH_ready (rs := [9]) (by kernel_rfl) (by simp) ?_
                    refine AllReadyH.cons rfl (fun K hK => ?_) AllReadyH.nil
                    go_simp
                    rw [fold_enc x]
                    have Xwa1 := Lib.hid (show Blk (wa0.alloc (.cells (encI x).toArray 30)) wa0.heap.size 30 (encI x).toArray from Blk.fresh wa0 30 (encI x).toArray)
                    have Fwa1 := Lib.hid (show Below q0 w4 (wa0.alloc (.cells (encI x).toArray 30)) from Fwa0.out.alloc (Nat.le_trans Hq4.out Fwa0.out.size) _)
                    have hgx : g0 < wa0.heap.size := (Gwa0.out.lt g0 rfl).2
                    have Gwa1 := Lib.hid (Gwa0.out.alloc (.cells (encI x).toArray 30))
                    obtain ⟨gx, hgx2⟩ : ∃ gx, gx = wa0.heap.size := ⟨_, rfl⟩
                    rw [← hgx2] at Xwa1 ⊢
                    have HNE := Lib.hid (show gx ≠ g0 by omega)
                    clear hgx2 hgx
                    generalize (wa0.alloc (.cells (encI x).toArray 30)) = wa1 at *
                    refine hK.out _ _ (HRX.out _ (B4.out.trans (Fwa1.out.mono HWq.out))) (fun hHeld => ?_)
                    clear hK K
                    refine wpAnyH_ready (rs := [10]) (by kernel_rfl) (by simp) ?_
                    refine AllReadyH.cons rfl (fun K hK => ?_) AllReadyH.nil
                    refine step_app (by rfl) _ _ rfl q0 (.slice (some ⟨g0, 0, none⟩) 0 0) _ (by rfl) Gwa1.out gx 0 1 1 [x] (by rfl) rfl (idsC_one (encBlk Xwa1.out)) (by have := HM.out; simp <;> omega) (Nat.le_trans Hq4.out Fwa1.out.size) ?_
                    intro vwa2 wa2 Gwa2 Hwa2
                    have Fwa2 := Lib.hid (Fwa1.out.grown Hwa2.out (Nat.le_trans Hq4.out Fwa1.out.size) (fun j hj => (Gwa1.out.lt j hj).1))
                    refine hK.out _ _ (HRX.out _ (B4.out.trans (Fwa2.out.mono HWq.out))) (fun hHeld => ?_)
                    clear hK K
                    refine wpAnyH_ready (rs := [14]) (by kernel_rfl) (by simp) ?_
                    refine AllReadyH.cons rfl (fun K hK => ?_) AllReadyH.nil
                    refine step_app_none (by rfl) _ _ rfl q0 vwa2 _ (by rfl) Gwa2.out (by rfl) ?_
                    refine hK.out _ _ (HRX.out _ (B4.out.trans (Fwa2.out.mono HWq.out))) (fun hHeld => ?_)
                    clear hK K
                    refine wpAnyH_take (i := 15) (v := ?_) rfl (by kernel_rfl) (by kernel_rfl) (by kernel_rfl) (fun _ _ _ h => h) (Or.inl ⟨by rfl, ?_⟩) (by assumption) ?_
                    rotate_left
                    · (intro w9 _; go_simp; try with_reducible rfl)
                    simp only [Act.put, List.getElem_toArray, List.getElem_cons_succ, List.getElem_cons_zero, List.setIfInBounds_toArray, List.set_cons_succ, List.set_cons_zero]
                    refine wpAnyH_done (by kernel_rfl) ?_ _
                    clear hHeld
                    go_wp2_with fail
                    exact ⟨⟨k + 1, _, _, rfl, by go_num, hlt, Lib.hid Gwa2.out.ids, Lib.hid (List.pairwise_singleton _ _), Lib.hid (fun u => by have h := HM2.out 0 u; simpa using h), by simp, Lib.hid (fun h => by simp at h), Lib.hid (B4.out.trans (Fwa2.out.mono HWq.out))⟩, by simp [intOf]; omega⟩
                  · go_simp
                    rw [fold_enc x]
                    have Xwa1 := Lib.hid (show Blk (wa0.alloc (.cells (encI x).toArray 30)) wa0.heap.size 30 (encI x).toArray from Blk.fresh wa0 30 (encI x).toArray)
                    have Fwa1 := Lib.hid (show Below q0 w4 (wa0.alloc (.cells (encI x).toArray 30)) from Fwa0.out.alloc (Nat.le_trans Hq4.out Fwa0.out.size) _)
                    have hgx : g0 < wa0.heap.size := (Gwa0.out.lt g0 rfl).2
                    have Gwa1 := Lib.hid (Gwa0.out.alloc (.cells (encI x).toArray 30))
                    obtain ⟨gx, hgx2⟩ : ∃ gx, gx = wa0.heap.size := ⟨_, rfl⟩
                    rw [← hgx2] at Xwa1 ⊢
                    have HNE := Lib.hid (show gx ≠ g0 by omega)
                    clear hgx2 hgx
                    generalize (wa0.alloc (.cells (encI x).toArray 30)) = wa1 at *
                    refine hK.out _ _ (HRX.out _ (B4.out.trans (Fwa1.out.mono HWq.out))) (fun hHeld => ?_)
                    clear hK K
                    refine wpAnyH_ready (rs := [4]) (by kernel_rfl) (by simp) ?_
                    refine AllReadyH.cons rfl (fun K hK => ?_) AllReadyH.nil
                    refine step_app_none (by rfl) _ _ rfl q0 (.slice (some ⟨g0, 0, none⟩) 0 0) _ (by rfl) Gwa1.out (by rfl) ?_
                    refine hK.out _ _ (HRX.out _ (B4.out.trans (Fwa1.out.mono HWq.out))) (fun hHeld => ?_)
                    clear hK K
                    refine wpAnyH_ready (rs := [10]) (by kernel_rfl) (by simp) ?_
                    refine AllReadyH.cons rfl (fun K hK => ?_) AllReadyH.nil
                    refine step_app (by rfl) _ _ rfl q0 (.slice (some ⟨g0, 0, none⟩) 0 0) _ (by rfl) Gwa1.out gx 0 1 1 [x] (by rfl) rfl (idsC_one (encBlk Xwa1.out)) (by have := HM.out; simp <;> omega) (Nat.le_trans Hq4.out Fwa1.out.size) ?_
                    intro vwa2 wa2 Gwa2 Hwa2
                    have Fwa2 := Lib.hid (Fwa1.out.grown Hwa2.out (Nat.le_trans Hq4.out Fwa1.out.size) (fun j hj => (Gwa1.out.lt j hj).1))
                    refine hK.out _ _ (HRX.out _ (B4.out.trans (Fwa2.out.mono HWq.out))) (fun hHeld => ?_)
                    clear hK K
                    refine wpAnyH_ready (rs := [14]) (by kernel_rfl) (by simp) ?_
                    refine AllReadyH.cons rfl (fun K hK => ?_) AllReadyH.nil
                    refine step_app_none (by rfl) _ _ rfl q0 vwa2 _ (by rfl) Gwa2.out (by rfl) ?_
                    refine hK.out _ _ (HRX.out _ (B4.out.trans (Fwa2.out.mono HWq.out))) (fun hHeld => ?_)
                    clear hK K
                    refine wpAnyH_take (i := 15) (v := ?_) rfl (by kernel_rfl) (by kernel_rfl) (by kernel_rfl) (fun _ _ _ h => h) (Or.inl ⟨by rfl, ?_⟩) (by assumption) ?_
                    rotate_left
                    · (intro w9 _; go_simp; try with_reducible rfl)
                    simp only [Act.put, List.getElem_toArray, List.getElem_cons_succ, List.getElem_cons_zero, List.setIfInBounds_toArray, List.set_cons_succ, List.set_cons_zero]
                    refine wpAnyH_done (by kernel_rfl) ?_ _
                    clear hHeld
                    go_wp2_with fail
                    exact ⟨⟨k + 1, _, _, rfl, by go_num, hlt, Lib.hid Gwa2.out.ids, Lib.hid (List.pairwise_singleton _ _), Lib.hid (fun u => by have h := HM2.out 0 u; simpa using h), by simp, Lib.hid (fun h => by simp at h), Lib.hid (B4.out.trans (Fwa2.out.mono HWq.out))⟩, by simp [intOf]; omega⟩
                · go_simp
                  rw [fold_enc x]
                  have Xwa0 := Lib.hid (show Blk (w4.alloc (.cells (encI x).toArray 30)).drew w4.heap.size 30 (encI x).toArray from Blk.fresh w4 30 (encI x).toArray)
                  have Fwa0 := Lib.hid (show Below q0 w4 (w4.alloc (.cells (encI x).toArray 30)).drew from ((Below.refl _ w4).alloc Hq4.out _).drew)
                  obtain ⟨gx, hgx2⟩ : ∃ gx, gx = w4.heap.size := ⟨_, rfl⟩
                  rw [← hgx2] at Xwa0 ⊢
                  have hdum := True.intro
                  clear hgx2 hdum
                  generalize (w4.alloc (.cells (encI x).toArray 30)).drew = wa0 at *
                  refine hK.out _ _ (HRX.out _ (B4.out.trans (Fwa0.out.mono HWq.out))) (fun hHeld => ?_)
                  clear hK K
                  refine wpAnyH_ready (rs := [0]) (by kernel_rfl) (by simp) ?_
                  refine AllReadyH.cons rfl (fun K hK => ?_) AllReadyH.nil
                  go_simp
                  have Gwa1 := Lib.hid (show OwnI 30 q0 (wa0.alloc (.cells #[] 30)) (.slice (some ⟨wa0.heap.size, 0, none⟩) 0 0) [] from World.ownsRow_made wa0 #[] 0 (Nat.le_trans Hq4.out Fwa0.out.size) (Nat.zero_le _) (by simp))
                  have Fwa1 := Lib.hid (show Below q0 w4 (wa0.alloc (.cells #[] 30)) from Fwa0.out.alloc (Nat.le_trans Hq4.out Fwa0.out.size) _)
                  have Xwa1 := Lib.hid ((Xwa0.out.more (.cells #[] 30)))
                  have hgx : gx < wa0.heap.size := Xwa0.out.lt
                  obtain ⟨g0, hg0⟩ : ∃ g0, g0 = wa0.heap.size := ⟨_, rfl⟩
                  rw [← hg0] at Gwa1 ⊢
                  have HNE := Lib.hid (show gx ≠ g0 by omega)
                  clear hg0 hgx
                  generalize (wa0.alloc (.cells #[] 30)) = wa1 at *
                  refine hK.out _ _ (HRX.out _ (B4.out.trans (Fwa1.out.mono HWq.out))) (fun hHeld => ?_)
                  clear hK K
                  refine wpAnyH_ready (rs := [4]) (by kernel_rfl) (by simp) ?_
                  refine AllReadyH.cons rfl (fun K hK => ?_) AllReadyH.nil
                  refine step_app_none (by rfl) _ _ rfl q0 (.slice (some ⟨g0, 0, none⟩) 0 0) _ (by rfl) Gwa1.out (by rfl) ?_
                  refine hK.out _ _ (HRX.out _ (B4.out.trans (Fwa1.out.mono HWq.out))) (fun hHeld => ?_)
                  clear hK K
                  refine wpAnyH_ready (rs := [10]) (by kernel_rfl) (by simp) ?_
                  refine AllReadyH.cons rfl (fun K hK => ?_) AllReadyH.nil
                  refine step_app (by rfl) _ _ rfl q0 (.slice (some ⟨g0, 0, none⟩) 0 0) _ (by rfl) Gwa1.out gx 0 1 1 [x] (by rfl) rfl (idsC_one (encBlk Xwa1.out)) (by have := HM.out; simp <;> omega) (Nat.le_trans Hq4.out Fwa1.out.size) ?_
                  intro vwa2 wa2 Gwa2 Hwa2
                  have Fwa2 := Lib.hid (Fwa1.out.grown Hwa2.out (Nat.le_trans Hq4.out Fwa1.out.size) (fun j hj => (Gwa1.out.lt j hj).1))
                  refine hK.out _ _ (HRX.out _ (B4.out.trans (Fwa2.out.mono HWq.out))) (fun hHeld => ?_)
                  clear hK K
                  refine wpAnyH_ready (rs := [14]) (by kernel_rfl) (by simp) ?_
                  refine AllReadyH.cons rfl (fun K hK => ?_) AllReadyH.nil
                  refine step_app_none (by rfl) _ _ rfl q0 vwa2 _ (by rfl) Gwa2.out (by rfl) ?_
                  refine hK.out _ _ (HRX.out _ (B4.out.trans (Fwa2.out.mono HWq.out))) (fun hHeld => ?_)
                  clear hK K
                  refine wpAnyH_take (i := 15) (v := ?_) rfl (by kernel_rfl) (by kernel_rfl) (by kernel_rfl) (fun _ _ _ h => h) (Or.inl ⟨by rfl, ?_⟩) (by assumption) ?_
                  rotate_left
                  · (intro w9 _; go_simp; try with_reducible rfl)
                  simp only [Act.put, List.getElem_toArray, List.getElem_cons_succ, List.getElem_cons_zero, List.setIfInBounds_toArray, List.set_cons_succ, List.set_cons_zero]
                  refine wpAnyH_done (by kernel_rfl) ?_ _
                  clear hHeld
                  go_wp2_with fail
                  exact ⟨⟨k + 1, _, _, rfl, by go_num, hlt, Lib.hid Gwa2.out.ids, Lib.hid (List.pairwise_singleton _ _), Lib.hid (fun u => by have h := HM2.out 0 u; simpa using h), by simp, Lib.hid (fun h => by simp at h), Lib.hid (B4.out.trans (Fwa2.out.mono HWq.out))⟩, by simp [intOf]; omega⟩
              · rcases HHO.out with h0 | ⟨bo, oo, rfl, kO⟩
                · exact absurd h0 hne
                have HKO := Lib.hid (fun (W : World) (h : Below w2.heap.size w2 W) => (kO.keep h (kO.lt hne)))
                have HJ := Lib.hid (show j ≤ j ∧ j ≤ co ∧ (j : Int) ≤ (co : Int) by omega)
                obtain ⟨m, hmj⟩ : ∃ m, m = j := ⟨_, rfl⟩
                clear hne kO hmj m
                go_wp2_with fail
                refine wp_region_held_drew (S := (fun _ => True)) (by kernel_rfl) ?_ (fun hHeld => ?_)
                · exact trivial
                refine wpAnyH_take (i := 0) (v := ?_) rfl (by kernel_rfl) (by kernel_rfl) (by kernel_rfl) (fun _ _ _ h => h) (Or.inl ⟨by rfl, ?_⟩) (by assumption) ?_
                rotate_left
                · (intro w9 _; go_simp; try with_reducible rfl)
                simp only [Act.put, List.getElem_toArray, List.getElem_cons_zero, List.setIfInBounds_toArray, List.set_cons_succ, List.set_cons_zero]
                refine wpAnyH_take (i := 1) (v := ?_) rfl (by kernel_rfl) (by kernel_rfl) (by kernel_rfl) (fun _ _ _ h => h) (Or.inl ⟨by rfl, ?_⟩) (by assumption) ?_
                rotate_left
                · (intro w9 _; go_simp; try with_reducible rfl)
                simp only [Act.put, List.getElem_toArray, List.getElem_cons_succ, List.getElem_cons_zero, List.setIfInBounds_toArray, List.set_cons_succ, List.set_cons_zero]
                refine wpAnyH_take (i := 2) (v := ?_) rfl (by kernel_rfl) (by kernel_rfl) (by kernel_rfl) (fun _ _ _ h => h) (Or.inl ⟨by rfl, ?_⟩) (by assumption) ?_
                rotate_left
                · (intro w9 _; go_simp; try with_reducible rfl)
                simp only [Act.put, List.getElem_toArray, List.getElem_cons_succ, List.getElem_cons_zero, List.setIfInBounds_toArray, List.set_cons_succ, List.set_cons_zero]
                refine wpAnyH_take (i := 3) (v := ?_) rfl (by kernel_rfl) (by kernel_rfl) (by kernel_rfl) (fun _ _ _ h => h) (Or.inl ⟨by rfl, ?_⟩) (by assumption) ?_
                rotate_left
                · (intro w9 _; go_simp; try with_reducible rfl)
                simp only [Act.put, List.getElem_toArray, List.getElem_cons_succ, List.getElem_cons_zero, List.setIfInBounds_toArray, List.set_cons_succ, List.set_cons_zero]
                refine wpAnyH_take (i := 4) (v := ?_) rfl (by kernel_rfl) (by kernel_rfl) (by kernel_rfl) (fun _ _ _ h => h) (Or.inl ⟨by rfl, ?_⟩) (by assumption) ?_
                rotate_left
                · (intro w9 _; go_simp; try with_reducible rfl)
                simp only [Act.put, List.getElem_toArray, List.getElem_cons_succ, List.getElem_cons_zero, List.setIfInBounds_toArray, List.set_cons_succ, List.set_cons_zero]
                refine wpAnyH_take (i := 5) (v := undef) rfl (by kernel_rfl) (by kernel_rfl) (by kernel_rfl) (fun _ _ _ h => h) (Or.inr ⟨by rfl, rfl⟩) (by assumption) ?_
                simp only [Act.put, List.getElem_toArray, List.getElem_cons_succ, List.getElem_cons_zero, List.setIfInBounds_toArray, List.set_cons_succ, List.set_cons_zero]
                refine wpAnyH_take (i := 6) (v := undef) rfl (by kernel_rfl) (by kernel_rfl) (by kernel_rfl) (fun _ _ _ h => h) (Or.inr ⟨by rfl, rfl⟩) (by assumption) ?_
                simp only [Act.put, List.getElem_toArray, List.getElem_cons_succ, List.getElem_cons_zero, List.setIfInBounds_toArray, List.set_cons_succ, List.set_cons_zero]
                refine wpAnyH_take (i := 7) (v := undef) rfl (by kernel_rfl) (by kernel_rfl) (by kernel_rfl) (fun _ _ _ h => h) (Or.inr ⟨by rfl, rfl⟩) (by assumption) ?_
                simp only [Act.put, List.getElem_toArray, List.getElem_cons_succ, List.getElem_cons_zero, List.setIfInBounds_toArray, List.set_cons_succ, List.set_cons_zero]
                refine wpAnyH_take (i := 8) (v := undef) rfl (by kernel_rfl) (by kernel_rfl) (by kernel_rfl) (fun _ _ _ h => h) (Or.inr ⟨by rfl, rfl⟩) (by assumption) ?_
                simp only [Act.put, List.getElem_toArray, List.getElem_cons_succ, List.getElem_cons_zero, List.setIfInBounds_toArray, List.set_cons_succ, List.set_cons_zero]
                refine wpAnyH_take (i := 9) (v := undef) rfl (by kernel_rfl) (by kernel_rfl) (by kernel_rfl) (fun _ _ _ h => h) (Or.inr ⟨by rfl, rfl⟩) (by assumption) ?_
                simp only [Act.put, List.getElem_toArray, List.getElem_cons_succ, List.getElem_cons_zero, List.setIfInBounds_toArray, List.set_cons_succ, List.set_cons_zero]
                refine wpAnyH_take (i := 10) (v := undef) rfl (by kernel_rfl) (by kernel_rfl) (by kernel_rfl) (fun _ _ _ h => h) (Or.inr ⟨by rfl, rfl⟩) (by assumption) ?_
                simp only [Act.put, List.getElem_toArray, List.getElem_cons_succ, List.getElem_cons_zero, List.setIfInBounds_toArray, List.set_cons_succ, List.set_cons_zero]
                refine wpAnyH_take (i := 11) (v := undef) rfl (by kernel_rfl) (by kernel_rfl) (by kernel_rfl) (fun _ _ _ h => h) (Or.inr ⟨by rfl, rfl⟩) (by assumption) ?_
                simp only [Act.put, List.getElem_toArray, List.getElem_cons_succ, List.getElem_cons_zero, List.setIfInBounds_toArray, List.set_cons_succ, List.set_cons_zero]
                refine wpAnyH_take (i := 12) (v := undef) rfl (by kernel_rfl) (by kernel_rfl) (by kernel_rfl) (fun _ _ _ h => h) (Or.inr ⟨by rfl, rfl⟩) (by assumption) ?_
                simp only [Act.put, List.getElem_toArray, List.getElem_cons_succ, List.getElem_cons_zero, List.setIfInBounds_toArray, List.set_cons_succ, List.set_cons_zero]
                refine wpAnyH_take (i := 13) (v := undef) rfl (by kernel_rfl) (by kernel_rfl) (by kernel_rfl) (fun _ _ _ h => h) (Or.inr ⟨by rfl, rfl⟩) (by assumption) ?_
                simp only [Act.put, List.getElem_toArray, List.getElem_cons_succ, List.getElem_cons_zero, List.setIfInBounds_toArray, List.set_cons_succ, List.set_cons_zero]
                refine wpAnyH_take (i := 14) (v := undef) rfl (by kernel_rfl) (by kernel_rfl) (by kernel_rfl) (fun _ _ _ h => h) (Or.inr ⟨by rfl, rfl⟩) (by assumption) ?_
                simp only [Act.put, List.getElem_toArray, List.getElem_cons_succ, List.getElem_cons_zero, List.setIfInBounds_toArray, List.set_cons_succ, List.set_cons_zero]
                refine wpAnyH_take (i := 15) (v := ?_) rfl (by kernel_rfl) (by kernel_rfl) (by kernel_rfl) (fun _ _ _ h => h) (Or.inl ⟨by rfl, ?_⟩) (by assumption) ?_
                rotate_left
                · (intro w9 _; go_simp; try with_reducible rfl)
                simp only [Act.put, List.getElem_toArray, List.getElem_cons_succ, List.getElem_cons_zero, List.setIfInBounds_toArray, List.set_cons_succ, List.set_cons_zero]
                refine wpAnyH_done (by kernel_rfl) ?_ _
                clear hHeld
                have B4 := hbd; have C4 := hcd
                clear hbd hcd hbq hcq
                generalize wr.drew = w4 at *
                go_wp2_with fail
                have D4 := Lib.hid B4.out.drew
                obtain ⟨hjm, hjc, hjcI⟩ := HJ.out
                have HDR := Lib.hid (show ∀ W, IdsC W bo oo O → IdsC W bo (if co = j then oo else oo + j * 32) (O.drop j) from fun W h => by
                  by_cases e : co = j
                  · have e2 : O.drop j = [] := List.drop_eq_nil_of_le (by have := HM.out; omega)
                    rw [e2]; intro i hi; simp at hi
                  · rw [if_neg e]; exact idsC_drop h j)
                obtain ⟨q0, hq0⟩ : ∃ q0, q0 = w4.heap.size := ⟨_, rfl⟩
                have HWq := Lib.hid (show w.heap.size ≤ q0 by rw [hq0]; exact B4.out.size)
                have H2q := Lib.hid (show w2.heap.size ≤ q0 by rw [hq0]; exact C4.out.size)
                have Hq4 := Lib.hid (show q0 ≤ w4.heap.size by rw [hq0]; exact Nat.le_refl _)
                clear hq0
                have HAS := Lib.hid (Mid.ins_asc O x j (by have := HM.out; omega) hA.out hless.out (fun h => by have := HM.out; omega))
                refine wp_region_held_drew (S := (fun w' => w'.rangeAt b (off + k * 32) (encI x))) (by kernel_rfl) ?_ (fun hHeld => ?_)
                · exact (HRX.out _ D4.out)
                refine wpAnyH_take (i := 1) (v := ?_) rfl (by kernel_rfl) (by kernel_rfl) (by kernel_rfl) (fun _ _ _ h => h) (Or.inl ⟨by rfl, ?_⟩) (by assumption) ?_
                rotate_left
                · (intro w9 _; go_simp; try with_reducible rfl)
                simp only [Act.put, List.getElem_toArray, List.getElem_cons_succ, List.getElem_cons_zero, List.setIfInBounds_toArray, List.set_cons_succ, List.set_cons_zero]
                refine wpAnyH_take (i := 2) (v := ?_) rfl (by kernel_rfl) (by kernel_rfl) (by kernel_rfl) (fun _ _ _ h => h) (Or.inl ⟨by rfl, ?_⟩) (by assumption) ?_
                rotate_left
                · (intro w9 _; go_simp; try with_reducible rfl)
                simp only [Act.put, List.getElem_toArray, List.getElem_cons_succ, List.getElem_cons_zero, List.setIfInBounds_toArray, List.set_cons_succ, List.set_cons_zero]
                refine wpAnyH_take (i := 3) (v := ?_) rfl (by kernel_rfl) (by kernel_rfl) (by kernel_rfl) (fun _ _ _ h => h) (Or.inl ⟨by rfl, ?_⟩) (by assumption) ?_
                rotate_left
                · (intro w9 _; go_simp; try with_reducible rfl)
                simp only [Act.put, List.getElem_toArray, List.getElem_cons_succ, List.getElem_cons_zero, List.setIfInBounds_toArray, List.set_cons_succ, List.set_cons_zero]
                refine wpAnyH_take (i := 5) (v := ?_) rfl (by kernel_rfl) (by kernel_rfl) (by kernel_rfl) (fun _ _ _ h => h) (Or.inl ⟨by rfl, ?_⟩) (by assumption) ?_
                rotate_left
                · (intro w9 _; go_simp; try with_reducible rfl)
                simp only [Act.put, List.getElem_toArray, List.getElem_cons_succ, List.getElem_cons_zero, List.setIfInBounds_toArray, List.set_cons_succ, List.set_cons_zero]
                refine wpAnyH_take (i := 6) (v := ?_) rfl (by kernel_rfl) (by kernel_rfl) (by kernel_rfl) (fun _ _ _ h => h) (Or.inl ⟨by rfl, ?_⟩) (by assumption) ?_
                rotate_left
                · (intro w9 _; go_simp; try with_reducible rfl)
                simp only [Act.put, List.getElem_toArray, List.getElem_cons_succ, List.getElem_cons_zero, List.setIfInBounds_toArray, List.set_cons_succ, List.set_cons_zero]
                refine wpAnyH_take (i := 7) (v := ?_) rfl (by kernel_rfl) (by kernel_rfl) (by kernel_rfl) (fun _ _ _ h => h) (Or.inl ⟨by rfl, ?_⟩) (by assumption) ?_
                rotate_left
                · (intro w9 _; go_simp; try with_reducible rfl)
                simp only [Act.put, List.getElem_toArray, List.getElem_cons_succ, List.getElem_cons_zero, List.setIfInBounds_toArray, List.set_cons_succ, List.set_cons_zero]
                refine wpAnyH_take (i := 8) (v := .agg (encI x).toArray) rfl (by kernel_rfl) (by kernel_rfl) (by kernel_rfl) (fun _ _ _ h => h) (yieldsIf_load_mid (by rfl) _ _ rfl _ _ rfl (encI x) _ (fun _ h => h) hu30 rfl hiX) (by assumption) ?_
                simp only [Act.put, List.getElem_toArray, List.getElem_cons_succ, List.getElem_cons_zero, List.setIfInBounds_toArray, List.set_cons_succ, List.set_cons_zero]
                refine wpAnyH_take (i := 11) (v := ?_) rfl (by kernel_rfl) (by kernel_rfl) (by kernel_rfl) (fun _ _ _ h => h) (Or.inl ⟨by rfl, ?_⟩) (by assumption) ?_
                rotate_left
                · (intro w9 _; go_simp; try with_reducible rfl)
                simp only [Act.put, List.getElem_toArray, List.getElem_cons_succ, List.getElem_cons_zero, List.setIfInBounds_toArray, List.set_cons_succ, List.set_cons_zero]
                refine wpAnyH_take (i := 12) (v := ?_) rfl (by kernel_rfl) (by kernel_rfl) (by kernel_rfl) (fun _ _ _ h => h) (Or.inl ⟨by rfl, ?_⟩) (by assumption) ?_
                rotate_left
                · (intro w9 _; go_simp; try with_reducible rfl)
                simp only [Act.put, List.getElem_toArray, List.getElem_cons_succ, List.getElem_cons_zero, List.setIfInBounds_toArray, List.set_cons_succ, List.set_cons_zero]
                refine wpAnyH_take (i := 13) (v := dropV bo oo j co j) rfl (by kernel_rfl) (by kernel_rfl) (by kernel_rfl) (fun _ _ _ h => h) (yields_drop (by rfl) _ _ rfl bo oo j co j rfl rfl hjm) (by assumption) ?_
                simp only [Act.put, List.getElem_toArray, List.getElem_cons_succ, List.getElem_cons_zero, List.setIfInBounds_toArray, List.set_cons_succ, List.set_cons_zero]
                unfold dropV
                refine wpAnyH_ready (rs := [0, 9]) (by kernel_rfl) (by simp) ?_
                refine AllReadyH.cons rfl (fun K hK => ?_) (AllReadyH.cons rfl (fun K hK => ?_) AllReadyH.nil)
                · go_simp
                  have Gwa0 := Lib.hid (show OwnI 30 q0 (w4.alloc (.cells #[] 30)).drew (.slice (some ⟨w4.heap.size, 0, none⟩) 0 0) [] from World.ownsRow_made w4 #[] 0 Hq4.out (Nat.zero_le _) (by simp))
                  have Fwa0 := Lib.hid (show Below q0 w4 (w4.alloc (.cells #[] 30)).drew from ((Below.refl _ w4).alloc Hq4.out _).drew)
                  obtain ⟨g0, hg0⟩ : ∃ g0, g0 = w4.heap.size := ⟨_, rfl⟩
                  rw [← hg0] at Gwa0 ⊢
                  have hdum := True.intro
                  clear hg0 hdum
                  generalize (w4.alloc (.cells #[] 30)).drew = wa0 at *
                  refine hK.out _ _ (HRX.out _ (B4.out.trans (Fwa0.out.mono HWq.out))) (fun hHeld => ?_)
                  clear hK K
                  refine wpAnyH_ready (rs := [4, 9]) (by kernel_rfl) (by simp) ?_
                  refine AllReadyH.cons rfl (fun K hK => ?_) (AllReadyH.cons rfl (fun K hK => ?_) AllReadyH.nil)
                  · refine step_app (by rfl) _ _ rfl q0 (.slice (some ⟨g0, 0, none⟩) 0 0) _ (by rfl) Gwa0.out bo oo j co (O.take j) (by rfl) (by rw [List.length_take]; have := HM.out; omega) (idsC_take (HKO.out _ (C4.out.trans (Fwa0.out.mono H2q.out))) j (by have := HM.out; omega)) (by have := HM.out; simp <;> omega) (Nat.le_trans Hq4.out Fwa0.out.size) ?_
                    intro vwa1 wa1 Gwa1 Hwa1
                    have Fwa1 := Lib.hid (Fwa0.out.grown Hwa1.out (Nat.le_trans Hq4.out Fwa0.out.size) (fun j hj => (Gwa0.out.lt j hj).1))
                    refine hK.out _ _ (HRX.out _ (B4.out.trans (Fwa1.out.mono HWq.out))) (fun hHeld => ?_)
                    clear hK K
                    refine wpAnyH_ready (rs := [9]) (by kernel_rfl) (by simp) ?_
                    refine AllReadyH.cons rfl (fun K hK => ?_) AllReadyH.nil
                    go_simp
                    rw [fold_enc x]
                    have Xwa2 := Lib.hid (show Blk (wa1.alloc (.cells (encI x).toArray 30)) wa1.heap.size 30 (encI x).toArray from Blk.fresh wa1 30 (encI x).toArray)
                    have Fwa2 := Lib.hid (show Below q0 w4 (wa1.alloc (.cells (encI x).toArray 30)) from Fwa1.out.alloc (Nat.le_trans Hq4.out Fwa1.out.size) _)
                    have Gwa2 := Lib.hid (Gwa1.out.alloc (.cells (encI x).toArray 30))
                    obtain ⟨gx, hgx2⟩ : ∃ gx, gx = wa1.heap.size := ⟨_, rfl⟩
                    rw [← hgx2] at Xwa2 ⊢
                    have hdum := True.intro
                    clear hgx2 hdum
                    generalize (wa1.alloc (.cells (encI x).toArray 30)) = wa2 at *
                    refine hK.out _ _ (HRX.out _ (B4.out.trans (Fwa2.out.mono HWq.out))) (fun hHeld => ?_)
                    clear hK K
                    refine wpAnyH_ready (rs := [10]) (by kernel_rfl) (by simp) ?_
                    refine AllReadyH.cons rfl (fun K hK => ?_) AllReadyH.nil
                    refine step_app (by rfl) _ _ rfl q0 vwa1 _ (by rfl) Gwa2.out gx 0 1 1 [x] (by rfl) rfl (idsC_one (encBlk Xwa2.out)) (by have := HM.out; simp <;> omega) (Nat.le_trans Hq4.out Fwa2.out.size) ?_
                    intro vwa3 wa3 Gwa3 Hwa3
                    have Fwa3 := Lib.hid (Fwa2.out.grown Hwa3.out (Nat.le_trans Hq4.out Fwa2.out.size) (fun j hj => (Gwa2.out.lt j hj).1))
                    refine hK.out _ _ (HRX.out _ (B4.out.trans (Fwa3.out.mono HWq.out))) (fun hHeld => ?_)
                    clear hK K
                    refine wpAnyH_ready (rs := [14]) (by kernel_rfl) (by simp) ?_
                    refine AllReadyH.cons rfl (fun K hK => ?_) AllReadyH.nil
                    refine step_app (by rfl) _ _ rfl q0 vwa3 _ (by rfl) Gwa3.out bo (if co = j then oo else oo + j * 32) 0 (co - j) (O.drop j) (by rfl) (by rw [List.length_drop]; have := HM.out; omega) (HDR.out _ (HKO.out _ (C4.out.trans (Fwa3.out.mono H2q.out)))) (by have := HM.out; simp <;> omega) (Nat.le_trans Hq4.out Fwa3.out.size) ?_
                    intro vwa4 wa4 Gwa4 Hwa4
                    have Fwa4 := Lib.hid (Fwa3.out.grown Hwa4.out (Nat.le_trans Hq4.out Fwa3.out.size) (fun j hj => (Gwa3.out.lt j hj).1))
                    refine hK.out _ _ (HRX.out _ (B4.out.trans (Fwa4.out.mono HWq.out))) (fun hHeld => ?_)
                    clear hK K
                    refine wpAnyH_take (i := 15) (v := ?_) rfl (by kernel_rfl) (by kernel_rfl) (by kernel_rfl) (fun _ _ _ h => h) (Or.inl ⟨by rfl, ?_⟩) (by assumption) ?_
                    rotate_left
                    · (intro w9 _; go_simp; try with_reducible rfl)
                    simp only [Act.put, List.getElem_toArray, List.getElem_cons_succ, List.getElem_cons_zero, List.setIfInBounds_toArray, List.set_cons_succ, List.set_cons_zero]
                    refine wpAnyH_done (by kernel_rfl) ?_ _
                    clear hHeld
                    go_wp2_with fail
                    exact ⟨⟨k + 1, _, _, rfl, by go_num, hlt, Lib.hid Gwa4.out.ids, Lib.hid (by have h := HAS.out; simpa using h), Lib.hid (fun u => by have h := HM2.out j u; simpa using h), by have := HM.out; simp; omega, Lib.hid (fun h => by simp at h), Lib.hid (B4.out.trans (Fwa4.out.mono HWq.out))⟩, by simp [intOf]; omega⟩
                  · go_simp
                    rw [fold_enc x]
                    have Xwa1 := Lib.hid (show Blk (wa0.alloc (.cells (encI x).toArray 30)) wa0.heap.size 30 (encI x).toArray from Blk.fresh wa0 30 (encI x).toArray)
                    have Fwa1 := Lib.hid (show Below q0 w4 (wa0.alloc (.cells (encI x).toArray 30)) from Fwa0.out.alloc (Nat.le_trans Hq4.out Fwa0.out.size) _)
                    have hgx : g0 < wa0.heap.size := (Gwa0.out.lt g0 rfl).2
                    have Gwa1 := Lib.hid (Gwa0.out.alloc (.cells (encI x).toArray 30))
                    obtain ⟨gx, hgx2⟩ : ∃ gx, gx = wa0.heap.size := ⟨_, rfl⟩
                    rw [← hgx2] at Xwa1 ⊢
                    have HNE := Lib.hid (show gx ≠ g0 by omega)
                    clear hgx2 hgx
                    generalize (wa0.alloc (.cells (encI x).toArray 30)) = wa1 at *
                    refine hK.out _ _ (HRX.out _ (B4.out.trans (Fwa1.out.mono HWq.out))) (fun hHeld => ?_)
                    clear hK K
                    refine wpAnyH_ready (rs := [4]) (by kernel_rfl) (by simp) ?_
                    refine AllReadyH.cons rfl (fun K hK => ?_) AllReadyH.nil
                    refine step_app (by rfl) _ _ rfl q0 (.slice (some ⟨g0, 0, none⟩) 0 0) _ (by rfl) Gwa1.out bo oo j co (O.take j) (by rfl) (by rw [List.length_take]; have := HM.out; omega) (idsC_take (HKO.out _ (C4.out.trans (Fwa1.out.mono H2q.out))) j (by have := HM.out; omega)) (by have := HM.out; simp <;> omega) (Nat.le_trans Hq4.out Fwa1.out.size) ?_
                    intro vwa2 wa2 Gwa2 Hwa2
                    have Fwa2 := Lib.hid (Fwa1.out.grown Hwa2.out (Nat.le_trans Hq4.out Fwa1.out.size) (fun j hj => (Gwa1.out.lt j hj).1))
                    have Xwa2 := Lib.hid ((Hwa2.out.block gx Xwa1.out.lt (by have := HNE.out; simpa [Value.ownBlock] using this)).trans Xwa1.out)
                    refine hK.out _ _ (HRX.out _ (B4.out.trans (Fwa2.out.mono HWq.out))) (fun hHeld => ?_)
                    clear hK K
                    refine wpAnyH_ready (rs := [10]) (by kernel_rfl) (by simp) ?_
                    refine AllReadyH.cons rfl (fun K hK => ?_) AllReadyH.nil
                    refine step_app (by rfl) _ _ rfl q0 vwa2 _ (by rfl) Gwa2.out gx 0 1 1 [x] (by rfl) rfl (idsC_one (encBlk Xwa2.out)) (by have := HM.out; simp <;> omega) (Nat.le_trans Hq4.out Fwa2.out.size) ?_
                    intro vwa3 wa3 Gwa3 Hwa3
                    have Fwa3 := Lib.hid (Fwa2.out.grown Hwa3.out (Nat.le_trans Hq4.out Fwa2.out.size) (fun j hj => (Gwa2.out.lt j hj).1))
                    refine hK.out _ _ (HRX.out _ (B4.out.trans (Fwa3.out.mono HWq.out))) (fun hHeld => ?_)
                    clear hK K
                    refine wpAnyH_ready (rs := [14]) (by kernel_rfl) (by simp) ?_
                    refine AllReadyH.cons rfl (fun K hK => ?_) AllReadyH.nil
                    refine step_app (by rfl) _ _ rfl q0 vwa3 _ (by rfl) Gwa3.out bo (if co = j then oo else oo + j * 32) 0 (co - j) (O.drop j) (by rfl) (by rw [List.length_drop]; have := HM.out; omega) (HDR.out _ (HKO.out _ (C4.out.trans (Fwa3.out.mono H2q.out)))) (by have := HM.out; simp <;> omega) (Nat.le_trans Hq4.out Fwa3.out.size) ?_
                    intro vwa4 wa4 Gwa4 Hwa4
                    have Fwa4 := Lib.hid (Fwa3.out.grown Hwa4.out (Nat.le_trans Hq4.out Fwa3.out.size) (fun j hj => (Gwa3.out.lt j hj).1))
                    refine hK.out _ _ (HRX.out _ (B4.out.trans (Fwa4.out.mono HWq.out))) (fun hHeld => ?_)
                    clear hK K
                    refine wpAnyH_take (i := 15) (v := ?_) rfl (by kernel_rfl) (by kernel_rfl) (by kernel_rfl) (fun _ _ _ h => h) (Or.inl ⟨by rfl, ?_⟩) (by assumption) ?_
                    rotate_left
                    · (intro w9 _; go_simp; try with_reducible rfl)
                    simp only [Act.put, List.getElem_toArray, List.getElem_cons_succ, List.getElem_cons_zero, List.setIfInBounds_toArray, List.set_cons_succ, List.set_cons_zero]
                    refine wpAnyH_done (by kernel_rfl) ?_ _
                    clear hHeld
                    go_wp2_with fail
                    exact ⟨⟨k + 1, _, _, rfl, by go_num, hlt, Lib.hid Gwa4.out.ids, Lib.hid (by have h := HAS.out; simpa using h), Lib.hid (fun u => by have h := HM2.out j u; simpa using h), by have := HM.out; simp; omega, Lib.hid (fun h => by simp at h), Lib.hid (B4.out.trans (Fwa4.out.mono HWq.out))⟩, by simp [intOf]; omega⟩
                · go_simp
                  rw [fold_enc x]
                  have Xwa0 := Lib.hid (show Blk (w4.alloc (.cells (encI x).toArray 30)).drew w4.heap.size 30 (encI x).toArray from Blk.fresh w4 30 (encI x).toArray)
                  have Fwa0 := Lib.hid (show Below q0 w4 (w4.alloc (.cells (encI x).toArray 30)).drew from ((Below.refl _ w4).alloc Hq4.out _).drew)
                  obtain ⟨gx, hgx2⟩ : ∃ gx, gx = w4.heap.size := ⟨_, rfl⟩
                  rw [← hgx2] at Xwa0 ⊢
                  have hdum := True.intro
                  clear hgx2 hdum
                  generalize (w4.alloc (.cells (encI x).toArray 30)).drew = wa0 at *
                  refine hK.out _ _ (HRX.out _ (B4.out.trans (Fwa0.out.mono HWq.out))) (fun hHeld => ?_)
                  clear hK K
                  refine wpAnyH_ready (rs := [0]) (by kernel_rfl) (by simp) ?_
                  refine AllReadyH.cons rfl (fun K hK => ?_) AllReadyH.nil
                  go_simp
                  have Gwa1 := Lib.hid (show OwnI 30 q0 (wa0.alloc (.cells #[] 30)) (.slice (some ⟨wa0.heap.size, 0, none⟩) 0 0) [] from World.ownsRow_made wa0 #[] 0 (Nat.le_trans Hq4.out Fwa0.out.size) (Nat.zero_le _) (by simp))
                  have Fwa1 := Lib.hid (show Below q0 w4 (wa0.alloc (.cells #[] 30)) from Fwa0.out.alloc (Nat.le_trans Hq4.out Fwa0.out.size) _)
                  have Xwa1 := Lib.hid ((Xwa0.out.more (.cells #[] 30)))
                  have hgx : gx < wa0.heap.size := Xwa0.out.lt
                  obtain ⟨g0, hg0⟩ : ∃ g0, g0 = wa0.heap.size := ⟨_, rfl⟩
                  rw [← hg0] at Gwa1 ⊢
                  have HNE := Lib.hid (show gx ≠ g0 by omega)
                  clear hg0 hgx
                  generalize (wa0.alloc (.cells #[] 30)) = wa1 at *
                  refine hK.out _ _ (HRX.out _ (B4.out.trans (Fwa1.out.mono HWq.out))) (fun hHeld => ?_)
                  clear hK K
                  refine wpAnyH_ready (rs := [4]) (by kernel_rfl) (by simp) ?_
                  refine AllReadyH.cons rfl (fun K hK => ?_) AllReadyH.nil
                  refine step_app (by rfl) _ _ rfl q0 (.slice (some ⟨g0, 0, none⟩) 0 0) _ (by rfl) Gwa1.out bo oo j co (O.take j) (by rfl) (by rw [List.length_take]; have := HM.out; omega) (idsC_take (HKO.out _ (C4.out.trans (Fwa1.out.mono H2q.out))) j (by have := HM.out; omega)) (by have := HM.out; simp <;> omega) (Nat.le_trans Hq4.out Fwa1.out.size) ?_
                  intro vwa2 wa2 Gwa2 Hwa2
                  have Fwa2 := Lib.hid (Fwa1.out.grown Hwa2.out (Nat.le_trans Hq4.out Fwa1.out.size) (fun j hj => (Gwa1.out.lt j hj).1))
                  have Xwa2 := Lib.hid ((Hwa2.out.block gx Xwa1.out.lt (by have := HNE.out; simpa [Value.ownBlock] using this)).trans Xwa1.out)
                  refine hK.out _ _ (HRX.out _ (B4.out.trans (Fwa2.out.mono HWq.out))) (fun hHeld => ?_)
                  clear hK K
                  refine wpAnyH_ready (rs := [10]) (by kernel_rfl) (by simp) ?_
                  refine AllReadyH.cons rfl (fun K hK => ?_) AllReadyH.nil
                  refine step_app (by rfl) _ _ rfl q0 vwa2 _ (by rfl) Gwa2.out gx 0 1 1 [x] (by rfl) rfl (idsC_one (encBlk Xwa2.out)) (by have := HM.out; simp <;> omega) (Nat.le_trans Hq4.out Fwa2.out.size) ?_
                  intro vwa3 wa3 Gwa3 Hwa3
                  have Fwa3 := Lib.hid (Fwa2.out.grown Hwa3.out (Nat.le_trans Hq4.out Fwa2.out.size) (fun j hj => (Gwa2.out.lt j hj).1))
                  refine hK.out _ _ (HRX.out _ (B4.out.trans (Fwa3.out.mono HWq.out))) (fun hHeld => ?_)
                  clear hK K
                  refine wpAnyH_ready (rs := [14]) (by kernel_rfl) (by simp) ?_
                  refine AllReadyH.cons rfl (fun K hK => ?_) AllReadyH.nil
                  refine step_app (by rfl) _ _ rfl q0 vwa3 _ (by rfl) Gwa3.out bo (if co = j then oo else oo + j * 32) 0 (co - j) (O.drop j) (by rfl) (by rw [List.length_drop]; have := HM.out; omega) (HDR.out _ (HKO.out _ (C4.out.trans (Fwa3.out.mono H2q.out)))) (by have := HM.out; simp <;> omega) (Nat.le_trans Hq4.out Fwa3.out.size) ?_
                  intro vwa4 wa4 Gwa4 Hwa4
                  have Fwa4 := Lib.hid (Fwa3.out.grown Hwa4.out (Nat.le_trans Hq4.out Fwa3.out.size) (fun j hj => (Gwa3.out.lt j hj).1))
                  refine hK.out _ _ (HRX.out _ (B4.out.trans (Fwa4.out.mono HWq.out))) (fun hHeld => ?_)
                  clear hK K
                  refine wpAnyH_take (i := 15) (v := ?_) rfl (by kernel_rfl) (by kernel_rfl) (by kernel_rfl) (fun _ _ _ h => h) (Or.inl ⟨by rfl, ?_⟩) (by assumption) ?_
                  rotate_left
                  · (intro w9 _; go_simp; try with_reducible rfl)
                  simp only [Act.put, List.getElem_toArray, List.getElem_cons_succ, List.getElem_cons_zero, List.setIfInBounds_toArray, List.set_cons_succ, List.set_cons_zero]
                  refine wpAnyH_done (by kernel_rfl) ?_ _
                  clear hHeld
                  go_wp2_with fail
                  exact ⟨⟨k + 1, _, _, rfl, by go_num, hlt, Lib.hid Gwa4.out.ids, Lib.hid (by have h := HAS.out; simpa using h), Lib.hid (fun u => by have h := HM2.out j u; simpa using h), by have := HM.out; simp; omega, Lib.hid (fun h => by simp at h), Lib.hid (B4.out.trans (Fwa4.out.mono HWq.out))⟩, by simp [intOf]; omega⟩
    · have hfull : ls.take k = ls := List.take_of_length_le (by rw [← HN.out]; omega)
      have hmem := hM.out
      rw [hfull] at hmem
      have HMEM := Lib.hid hmem
      have hltI : ¬ (k : Int) < (n : Int) := by omega
      clear hmem hfull
      go_wp2_with fail
      go_ret
      exact ⟨_, rfl, O, hO.out, hA.out, HMEM.out, by omega, hbl.out⟩
end Go.Proofs.Yteoknmdoghemmaa
