/- The program's trim and Trim, IsTrimmed. -/
import Derived.Test.YtcofplbdapjdjaaSame
import Derived.Test.YtcofplbdapjdjaaCln
import Derived.Test.YtcofplbdapjdjaaRfPlain
namespace Go.Proofs.Ytcofplbdapjdjaa
open Go.RowKit

theorem OwnI.mrow {base : Nat} {w0 w : World} {v : Value} {ls : List Mid.Id} {T : TypeId} (h : OwnI T base w v ls) (hne : ls ≠ []) (hb : Below base w0 w) :
    ∃ g cap, v = .slice (some ⟨g, 0, none⟩) ls.length cap ∧ ls.length ≤ cap ∧ cap ≤ maxLen ∧ Mrow base w0 w g 0 ls := by
  have hids := h.ids
  rcases h.2 with ⟨rfl, h0⟩ | ⟨g, cap, cur, rfl, hg, hh, hn, hm, hs, ht⟩
  · exact absurd (List.eq_nil_of_length_eq_zero h0) hne
  · refine ⟨g, cap, rfl, hn, hm, hg, (Array.getElem?_eq_some_iff.1 hh).1, ?_, ?_, hb⟩
    · obtain ⟨x, c2, hv, _, _, _, h4⟩ := hids
      cases hv
      rcases h4 with h4 | ⟨b, off, hx, hc⟩
      · exact absurd h4 hne
      · cases hx; exact hc
    · intro j hj
      have e := cell_of_row w g j cur T (0, 0) hh
      refine ⟨?_, ?_⟩
      · rw [Nat.zero_add, e, Array.getElem?_eq_getElem (by rw [hs]; have := Nat.mul_le_mul_right 32 hn; omega)]; rfl
      · rw [Nat.zero_add]; exact frozen_of_row w g j cur T hh

/-! ### a slice from a place on -/
theorem run_drop (p : Option Addr) (n c d : Nat) (W : World) (hd : d ≤ n) :
    (Instr.sliceAt 27 (.slice p n c) (some (.int .i64 d)) none none).run Try.prog W = .ok (sliced p d n c 32) W := by
  have h1 : (0 : Int) ≤ (d : Int) := by omega
  have h2 : (d : Int) ≤ (n : Int) := by omega
  go_simp
theorem run_dropR (p : Option Addr) (n c d : Nat) (W : World) (hd : d ≤ n) :
    (Instr.sliceAt 22 (.slice p n c) (some (.int .i64 d)) none none).run Try.prog W = .ok (sliced p d n c 32) W := by
  have h1 : (0 : Int) ≤ (d : Int) := by omega
  have h2 : (d : Int) ≤ (n : Int) := by omega
  go_simp
theorem ids_drop {W : World} {p : Option Addr} {n c : Nat} {ls : List Mid.Id} (h : Ids W (.slice p n c) ls) (d : Nat) (hd : d ≤ ls.length) : Ids W (sliced p d n c 32) (ls.drop d) := by
  obtain ⟨ad, cap, hv, h1, h2, h3, h4⟩ := h
  cases hv
  have hl : (ls.drop d).length = ls.length - d := by rw [List.length_drop]
  refine ⟨_, c - d, by unfold sliced; rw [hl], by rw [hl]; omega, by omega, ?_, ?_⟩
  · intro hn
    split at hn
    · omega
    · cases p with
      | none => have := h3 rfl; omega
      | some a => cases hn
  · by_cases he : ls.drop d = []
    · exact .inl he
    · right
      have h0 : 0 < (ls.drop d).length := List.length_pos_iff.2 he
      rcases h4 with h4 | ⟨b, off, rfl, hc⟩
      · rw [h4] at h0; simp at h0
      · refine ⟨b, off + d * 32, ?_, fun j hj i v hv => ?_⟩
        · rw [if_neg (by omega)]
          simp [addr_add]
        · have := hc (d + j) (by omega) i v (by
            rw [getE _ j hj, List.getElem_drop] at hv
            rw [getE _ (d + j) (by omega)]; exact hv)
          rw [show off + (d + j) * 32 + i = off + d * 32 + j * 32 + i by omega] at this
          exact this
/-- the operation -/
theorem wpList_drop {T : TypeId} {ops : Array Oper} {rest : List Oper} {o : Oper} {a : Act} {w : World} {Q : Exit → Act → World → Prop} (hgd : o.guard = none) (s x : Operand) (ho : o.op = .slice T s (some x) none none)
    (p : Option Addr) (n c d : Nat) (hrun : d ≤ n → (Instr.sliceAt T (.slice p n c) (some (.int .i64 d)) none none).run Try.prog w = .ok (sliced p d n c 32) w) (hs : a.eval s = .slice p n c) (hx : a.eval x = .int .i64 d)
    (ls : List Mid.Id) (hv : Ids w (.slice p n c) ls) (hd : d ≤ ls.length)
    (hk : ∀ v', Hid (Ids w v' (ls.drop d)) → wpList Try.prog ops Q rest (a.put o.dst v') w) : wpList Try.prog ops Q (o :: rest) a w := by
  have hn : d ≤ n := by obtain ⟨_, _, hv, _⟩ := hv; cases hv; exact hd
  refine wpList_plain hgd fun K hK => ?_
  unfold Oper.wp
  simp [execOp, ho, hs, hx, hrun hn, Result.andThen]
  exact hK _ _ (hk _ (Lib.hid (ids_drop hv d hd)))

theorem Mrow.ids {base : Nat} {w0 w : World} {g cap : Nat} {M : List Mid.Id} (h : Mrow base w0 w g 0 M) (hc : M.length ≤ cap) (hm : cap ≤ maxLen) : Ids w (.slice (some ⟨g, 0, none⟩) M.length cap) M :=
  ⟨_, cap, rfl, hc, hm, (fun h => by cases h), .inr ⟨g, 0, rfl, h.2.2.1⟩⟩

/-! ### append of whatever list behind a row of one's own -/
theorem flatI_app (ls ms : List Mid.Id) : flatI (ls ++ ms) = flatI ls ++ flatI ms := by simp [flatI]
theorem run_app (S T : TypeId) (i0 : TypeInfo) (hS : Try.prog.underlying S = some (.slice T)) (hi : Try.prog.info? T = some i0) (hz0 : i0.zero = some (.agg (bsC zD))) (hz1 : i0.size = 32) (hz2 : i0.bytes = 32) (ty : TypeId)
    (w : World) (base : Nat) (v : Value) (ls : List Mid.Id) (hown : OwnI T base w v ls) (u : Value) (ms : List Mid.Id) (hu : Ids w u ms) (hn : (ls.length + ms.length) * 32 ≤ 140737488355328) (hbase : base ≤ w.heap.size) :
    ∃ v' w', (Builtin.append_ #[S, S] ty #[v, u]).run Try.prog w = .ok v' w' ∧ OwnI T base w' v' (ls ++ ms) ∧ w.grownBy w' v.ownBlock := by
  have key : ∀ (b off m c : Nat), m = ms.length → (∀ j u, (flatI ms)[j]? = some u → w.cell? ⟨b, off + j, none⟩ = some u) →
      ∃ v' w', (Builtin.append_ #[S, S] ty #[v, .slice (some ⟨b, off, none⟩) m c]).run Try.prog w = .ok v' w' ∧ OwnI T base w' v' (ls ++ ms) ∧ w.grownBy w' v.ownBlock := by
    intro b off m c hm hc
    obtain ⟨v', w', hr, h1, h2, _⟩ := run_append_own (P := Try.prog) w base S ty T i0 (.agg (bsC zD)) 32 32 hS hi hz0 hz1 hz2 rfl (by decide) v ls.length (flatI ls) hown ⟨b, off, none⟩ m c (flatI ms) (by rw [flatI_len, hm]) (fun j u hj => by rw [addr_add]; exact hc j u hj) (flatI_one ms) (by unfold maxLen; omega) (by omega) hbase
    refine ⟨v', w', hr, ?_, h2⟩
    unfold OwnI
    rw [flatI_app, List.length_append, ← hm]
    exact h1
  obtain ⟨ad, cap, rfl, h1, _, h3, h4⟩ := hu
  cases ad with
  | none =>
    have h0 := h3 rfl
    obtain rfl : ms = [] := List.eq_nil_of_length_eq_zero (by omega)
    obtain rfl : cap = 0 := h0
    exact ⟨v, w, run_append_owned_none (P := Try.prog) (w := w) base S ty T i0 32 hS (by rw [hi]) v ls.length (flatI ls) hown, by rw [List.append_nil]; exact hown, World.grownBy.refl _ _⟩
  | some a =>
    rcases h4 with rfl | ⟨b, off, hx, hc⟩
    · obtain ⟨v', w', hr, h1, h2, _⟩ := run_append_own (P := Try.prog) w base S ty T i0 (.agg (bsC zD)) 32 32 hS hi hz0 hz1 hz2 rfl (by decide) v ls.length (flatI ls) hown a 0 cap [] (by simp) (by simp) (by simp) (by unfold maxLen; simp at hn; omega) (by simp at hn; omega) hbase
      refine ⟨v', w', hr, ?_, h2⟩
      unfold OwnI
      simpa using h1
    · cases hx
      refine key b off ms.length cap rfl (fun j u hj => ?_)
      have hjl : j < ms.length * 32 := by
        have := (List.getElem?_eq_some_iff.1 hj).1
        rwa [flatI_len] at this
      have e : j = j / 32 * 32 + j % 32 := by omega
      rw [e] at hj
      rw [flatI_get ms (j / 32) (j % 32) (by omega) (by omega)] at hj
      have := hc (j / 32) (by omega) (j % 32) u hj
      rwa [Nat.add_assoc, ← e] at this
/-- .. at a type of its own -/
theorem run_appI (w : World) (ty : TypeId) (base : Nat) (v : Value) (ls : List Mid.Id) (hown : OwnI 46 base w v ls) (u : Value) (ms : List Mid.Id) (hu : Ids w u ms) (hn : (ls.length + ms.length) * 32 ≤ 140737488355328) (hbase : base ≤ w.heap.size) :
    ∃ v' w', (Builtin.append_ #[27, 27] ty #[v, u]).run Try.prog w = .ok v' w' ∧ OwnI 46 base w' v' (ls ++ ms) ∧ w.grownBy w' v.ownBlock := by
  obtain ⟨i0, hi, hz0, hz1, hz2⟩ := info_partsM infoI
  exact run_app _ _ i0 Try.underlying27 hi hz0 hz1 hz2 ty w base v ls hown u ms hu hn hbase
theorem run_appR (w : World) (ty : TypeId) (base : Nat) (v : Value) (ls : List Mid.Id) (hown : OwnI 48 base w v ls) (u : Value) (ms : List Mid.Id) (hu : Ids w u ms) (hn : (ls.length + ms.length) * 32 ≤ 140737488355328) (hbase : base ≤ w.heap.size) :
    ∃ v' w', (Builtin.append_ #[22, 22] ty #[v, u]).run Try.prog w = .ok v' w' ∧ OwnI 48 base w' v' (ls ++ ms) ∧ w.grownBy w' v.ownBlock := by
  obtain ⟨i0, hi, hz0, hz1, hz2⟩ := info_partsM infoRI
  exact run_app _ _ i0 Try.underlying22 hi hz0 hz1 hz2 ty w base v ls hown u ms hu hn hbase
theorem wpList_appR {ops : Array Oper} {rest : List Oper} {o : Oper} {a : Act} {w : World} {Q : Exit → Act → World → Prop} (hgd : o.guard = none) (s x : Operand)
    (ho : o.op = .call { callee := .builtin .append, args := #[s, x], argTypes := #[22, 22] }) (base : Nat) (v : Value) (ls : List Mid.Id) (hs : a.eval s = v) (hown : OwnI 48 base w v ls)
    (u : Value) (ms : List Mid.Id) (hx : a.eval x = u) (hu : Ids w u ms) (hn : (ls.length + ms.length) * 32 ≤ 140737488355328) (hbase : base ≤ w.heap.size)
    (h : ∀ v' w', Hid (OwnI 48 base w' v' (ls ++ ms)) → Hid (w.grownBy w' v.ownBlock) → wpList Try.prog ops Q rest (a.put o.dst v') w') : wpList Try.prog ops Q (o :: rest) a w := by
  refine wpList_plain hgd fun K hK => ?_
  obtain ⟨v', w', hr, h1, h2⟩ := run_appR w o.type base v ls hown u ms hu hn hbase
  unfold Oper.wp execOp
  simp only [ho, resolve, invoke, builtin, Sem.run_bind, Sem.run_pure, Result.andThen_ok, List.map_toArray, List.map_cons, List.map_nil, hs, hx, hr]
  exact hK _ _ (h v' w' (Lib.hid h1) (Lib.hid h2))
theorem wpList_appI {ops : Array Oper} {rest : List Oper} {o : Oper} {a : Act} {w : World} {Q : Exit → Act → World → Prop} (hgd : o.guard = none) (s x : Operand)
    (ho : o.op = .call { callee := .builtin .append, args := #[s, x], argTypes := #[27, 27] }) (base : Nat) (v : Value) (ls : List Mid.Id) (hs : a.eval s = v) (hown : OwnI 46 base w v ls)
    (u : Value) (ms : List Mid.Id) (hx : a.eval x = u) (hu : Ids w u ms) (hn : (ls.length + ms.length) * 32 ≤ 140737488355328) (hbase : base ≤ w.heap.size)
    (h : ∀ v' w', Hid (OwnI 46 base w' v' (ls ++ ms)) → Hid (w.grownBy w' v.ownBlock) → wpList Try.prog ops Q rest (a.put o.dst v') w') : wpList Try.prog ops Q (o :: rest) a w := by
  refine wpList_plain hgd fun K hK => ?_
  obtain ⟨v', w', hr, h1, h2⟩ := run_appI w o.type base v ls hown u ms hu hn hbase
  unfold Oper.wp execOp
  simp only [ho, resolve, invoke, builtin, Sem.run_bind, Sem.run_pure, Result.andThen_ok, List.map_toArray, List.map_cons, List.map_nil, hs, hx, hr]
  exact hK _ _ (h v' w' (Lib.hid h1) (Lib.hid h2))
theorem step_appR {ops : Array Oper} {o : Oper} {a : Act} {w : World} {K : Act → World → Prop} {Q : Exit → Act → World → Prop} {E : Prop} (hw : Region.wanted o (yielded ops a.tmps) = true) (s x : Operand)
    (ho : o.op = .call { callee := .builtin .append, args := #[s, x], argTypes := #[22, 22] })
    (base : Nat) (v : Value) (ls : List Mid.Id) (hs : a.eval s = v) (hown : OwnI 48 base w v ls) (u : Value) (ms : List Mid.Id) (hx : a.eval x = u) (hu : Ids w u ms)
    (hn : (ls.length + ms.length) * 32 ≤ 140737488355328) (hbase : base ≤ w.heap.size)
    (h : ∀ v' w', Hid (OwnI 48 base w' v' (ls ++ ms)) → Hid (w.grownBy w' v.ownBlock) → K (a.put o.dst v') w') : if Region.wanted o (yielded ops a.tmps) = true then Oper.wp Try.prog o a w K Q else E := by
  rw [if_pos hw]
  obtain ⟨v', w', hr, h1, h2⟩ := run_appR w o.type base v ls hown u ms hu hn hbase
  unfold Oper.wp execOp
  simp only [ho, resolve, invoke, builtin, Sem.run_bind, Sem.run_pure, Result.andThen_ok, List.map_toArray, List.map_cons, List.map_nil, hs, hx, hr]
  exact h v' w' (Lib.hid h1) (Lib.hid h2)
theorem own_one {T : TypeId} {W : World} {base g : Nat} {x : Mid.Id} (h : Blk W g T (encI x).toArray) (hb : base ≤ g) : OwnI T base W (.slice (some ⟨g, 0, none⟩) 1 1) [x] := by
  have hl := encI_len x
  refine ⟨by simp [flatI, encI_len], .inr ⟨g, 1, (encI x).toArray, rfl, hb, h, Nat.le_refl _, by unfold maxLen; omega, by simp [hl], ?_⟩⟩
  simp [flatI, ← hl]
theorem own_zero {T : TypeId} (W : World) (base : Nat) (hb : base ≤ W.heap.size) : OwnI T base (W.alloc (.cells #[] T)) (.slice (some ⟨W.heap.size, 0, none⟩) 0 0) [] :=
  World.ownsRow_made W #[] 0 hb (Nat.zero_le _) (by simp)

set_option maxRecDepth 100000 in
set_option maxHeartbeats 1000000 in
theorem trim_any (v : Value) (ls : List Mid.Id) (m : Nat) (w : World) (hm : 1 ≤ m) (hm2 : m ≤ 4398046511104) (hn : ls.length * 32 + 64 ≤ 140737488355328) (hv : Ids w v ls) :
    Calls Try.prog 42 #[v, .int .i64 m] w fun e w' => ∃ v', e = .returned v' ∧ Ids w' v' (Mid.cutL ls m) ∧ Below w.heap.size w w' := by
  have hv0 := hv
  obtain ⟨p, cap, rfl, hlc, hcm, _, hcells⟩ := hv
  rw [← Mid.trimL_cut ls m hm]
  have HCL := Lib.hid (fun W u (h : Ids W u (ls.drop (ls.length - m))) => clone_any u _ W (by rw [List.length_drop]; omega) h)
  have hdl : ls.length - m ≤ ls.length := by omega
  have HTR := Lib.hid (show Mid.trimL ls m = if m < ls.length ∧ 1 < m then (ls.drop (ls.length - m)).set 0 ls[0]! else ls.drop (ls.length - m) by unfold Mid.trimL; rfl)
  obtain ⟨R, hR⟩ : ∃ R, R = Mid.trimL ls m := ⟨_, rfl⟩
  rw [← hR] at HTR ⊢
  clear hR
  obtain ⟨n, hnn⟩ : ∃ n, n = ls.length := ⟨_, rfl⟩
  obtain ⟨d, hd⟩ : ∃ d, d = n - m := ⟨_, rfl⟩
  rw [← hnn] at hdl HTR HCL hv0 ⊢
  rw [← hd] at hdl HTR HCL
  have hmax : max ((n : Int) - (m : Int)) 0 = (d : Int) := by omega
  have hwr : wrap64 ((n : Int) - (m : Int)) = (n : Int) - (m : Int) := by unfold wrap64; omega
  have HV := Lib.hid hv0; have HDL := Lib.hid (show d ≤ ls.length by omega); have HN := Lib.hid hnn; have HD := Lib.hid hd
  have hrun := fun w => run_drop p n cap d w
  have HRUN := Lib.hid hrun
  have hu := Try.underlying46
  by_cases hA : m < n ∧ 1 < m
  · have h1 : (m : Int) < (n : Int) := by omega
    have h2 : (1 : Int) < (m : Int) := by omega
    have h0 : (0 : Int) < (n : Int) := by omega
    have hne : ls ≠ [] := by intro h; rw [h] at hnn; simp at hnn; omega
    have hne2 : ls.drop d ≠ [] := by intro h; have := congrArg List.length h; rw [List.length_drop] at this; simp at this; omega
    rcases hcells with h9 | ⟨b, off, rfl, hc⟩
    · exact absurd h9 hne
    have HLT := Lib.hid (hc.lt hne); have HC := Lib.hid hc
    have HNE := Lib.hid hne2
    have HH := Lib.hid hA
    clear hv0 hdl hnn hd hlc hcm hne hne2 hc hrun hA
    go_enter Try.func42, Try.ntmps42
    go_wp2_with (refine wpList_drop rfl _ _ rfl _ _ _ d (HRUN.out _) (by rfl) (by rfl) ls HV.out HDL.out ?_; intro u hu2)
    refine (HCL.out _ _ hu2.out).mono ?_
    rintro e w1 ⟨v1, rfl, ho, hb1⟩
    obtain ⟨g, cp, rfl, hcp, hcpm, hM⟩ := ho.mrow HNE.out hb1
    rw [List.length_drop, ← HN.out] at hcp ⊢
    have hrg := ((HC.out.keep hb1 HLT.out).range 0 (by have := HN.out; omega))
    generalize hxx : ls[0]! = x at *
    have hth : w1.there g 0 (encI x).toArray.size := by
      intro j hj
      have hj2 : j < 32 := by simpa [encI_len x] using hj
      have := hM.2.2.2.1 j (by rw [List.length_drop]; have := HN.out; omega)
      simpa using this
    have HTH := Lib.hid hth; have HM := Lib.hid hM
    have hix := info_enc infoId x
    have HIX := Lib.hid (show (Try.prog.info? 46).map (·.size) = some (encI x).toArray.size by simpa using hix)
    have HRG := Lib.hid (show w1.rangeAt b off (encI x) by simpa using hrg)
    have hlen : ((n - d : Nat) : Int) = (m : Int) := by have := HD.out; omega
    have HXX := Lib.hid hxx; have HCP := Lib.hid hcp; have HCPM := Lib.hid hcpm
    clear hth hrg ho hb1 hM hxx hcp hcpm
    go_wp2_with (first
      | (refine wpList_load_mid rfl _ _ rfl b off (by rfl) (encI x) _ HRG.out hu rfl hix ?_)
      | (refine wpList_store_mid rfl _ _ _ rfl g 0 (encI x).toArray (by rfl) (by rfl) HTH.out HIX.out (all_oneCell_toArray (encI_one x)) ?_))
    go_ret
    have hl : (ls.drop d).length = n - d := by rw [List.length_drop, ← HN.out]
    have hP := HM.out.put 0 (by rw [hl]; have := HD.out; omega) x
    have hI := hP.ids (cap := cp) (by rw [List.length_set, hl]; exact HCP.out) HCPM.out
    rw [List.length_set, hl, show (0 + 0 * 32 : Nat) = 0 from rfl] at hI
    refine ⟨_, rfl, ?_, hP.2.2.2.2⟩
    rw [HTR.out, if_pos HH.out]
    exact hI
  · have hB : (if m < n ∧ 1 < m then (ls.drop d).set 0 ls[0]! else ls.drop d) = ls.drop d := if_neg hA
    have HR := Lib.hid (HTR.out.trans hB)
    have HLC := Lib.hid hlc
    clear hcells hv0 hdl hnn hd hlc hcm hrun hB
    by_cases h1 : m < n
    · have h1I : (m : Int) < (n : Int) := by omega
      have h2 : ¬ (1 : Int) < (m : Int) := by omega
      clear hA h1
      go_enter Try.func42, Try.ntmps42
      go_wp2_with (refine wpList_drop rfl _ _ rfl _ _ _ d (HRUN.out _) (by rfl) (by rfl) ls HV.out HDL.out ?_; intro u hu2)
      refine (HCL.out _ _ hu2.out).mono ?_
      rintro e w1 ⟨v1, rfl, ho, hb1⟩
      have HI := Lib.hid ho.ids; have HB := Lib.hid hb1
      clear ho hb1
      go_wp2_with fail
      go_ret
      exact ⟨_, rfl, by rw [HR.out]; exact HI.out, HB.out⟩
    · have h1I : ¬ (m : Int) < (n : Int) := by omega
      clear hA h1
      go_enter Try.func42, Try.ntmps42
      go_wp2_with (refine wpList_drop rfl _ _ rfl _ _ _ d (HRUN.out _) (by rfl) (by rfl) ls HV.out HDL.out ?_; intro u hu2)
      refine (HCL.out _ _ hu2.out).mono ?_
      rintro e w1 ⟨v1, rfl, ho, hb1⟩
      have HI := Lib.hid ho.ids; have HB := Lib.hid hb1
      clear ho hb1
      go_wp2_with fail
      go_ret
      exact ⟨_, rfl, by rw [HR.out]; exact HI.out, HB.out⟩
end Go.Proofs.Ytcofplbdapjdjaa
