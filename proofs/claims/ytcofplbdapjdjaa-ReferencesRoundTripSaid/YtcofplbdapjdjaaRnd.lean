/- A region that draws its order, walked in ONE path inside the round of a loop over a function: what holds of it outside a round holds in one. -/
import Derived.Test.YtcofplbdapjdjaaBk
import Derived.Test.YtcofplbdapjdjaaKnown
import Derived.Deep.RegionHeld
import Derived.OrdersIn
namespace Go.Proofs.Ytcofplbdapjdjaa
open Go.RowKit

section
variable {P : Program} {l n : Nat} {Q : Exit → Act → World → Prop}
theorem opIn_of_op {o : Oper} (hd : ∀ c, o.op ≠ .defer c) {a : Act} {w : World} {K : Act → World → Prop} (h : o.wp P a w K Q) : o.wpIn (Fence.wide.inRound l) n P a w K Q := by
  unfold Oper.wpIn
  refine ⟨fun _ _ => trivial, ?_⟩
  rw [show (Fence.wide.inRound l).round = some l from rfl, Oper.semAt_some l _ o hd]
  unfold Oper.wp at h
  generalize (execOp a.eval o).run P w = r at h
  cases r with
  | ok x w' =>
    cases x with
    | value v => exact h
    | skip => exact h
    | defer d => exact h
    | enter f args => exact ⟨(fun hh => by cases hh), CallsIn.inRound l (callsIn_wide.2 h)⟩
    | row r args =>
      refine ⟨(fun hh => by cases hh), fun c cs _ => ?_⟩
      obtain ⟨v, w2, hr, s⟩ := h c cs
      exact ⟨v, w2, hr, stepsIn_wide.2 s⟩
    | _ => exact h.elim
  | halt e w' =>
    cases e with
    | panic v => exact h
    | _ => exact h.elim

theorem any_round {md : Region.Mode} {ops : Array Oper} {S : World → Prop} (hd : ∀ (i : Nat) (o : Oper), ops[i]? = some o → ∀ c, o.op ≠ .defer c) (hno : ¬ LetsOut Q) : ∀ (fuel : Nat) (listed : Array Bool) (a : Act) (w : World),
    wpAnyH P md ops Q S fuel listed a w → wpAnyIn (Fence.wide.inRound l) n P md ops Q fuel listed a w
  | 0, _, _, _, h => h
  | fuel + 1, listed, a, w, h => ⟨h.1, fun i hi => by
      have h2 := h.2 i hi
      unfold wpOp at h2
      unfold wpOpIn
      cases ho : ops[i]? with
      | none =>
        rw [ho] at h2
        exact any_round hd hno fuel _ a w h2.2
      | some o =>
        rw [ho] at h2
        simp only at h2 ⊢
        split
        · rename_i hw
          rw [if_pos hw] at h2
          rcases h2 with h2 | h2
          · exact Oper.wpIn_mono (fun a' w' hk => any_round hd hno fuel _ a' w' hk.2) (opIn_of_op (hd i o ho) h2)
          · exact absurd h2.2 hno
        · rename_i hw
          rw [if_neg hw] at h2
          exact ⟨fun _ _ => trivial, any_round hd hno fuel _ _ w h2.2⟩⟩
/-- THE REGION -/
theorem region_round {ops : Array Oper} {S : World → Prop} {id : Nat} {a : Act} {w : World} (hm : P.follows .mixedOrders = true) (hd : (ops.all fun o => match o.op with | .defer _ => false | _ => true) = true) (hno : ¬ LetsOut Q) (hS : S w.drew)
    (h : S w.drew → wpAnyH P .any ops Q S ops.size (Array.replicate ops.size false) a w.drew) : (Code.region id ops true).wpIn (Fence.wide.inRound l) n P Q a w :=
  wpIn_region_any hm (any_round (fun i o ho c hc => by
    have h1 := Array.all_eq_true_iff_forall_mem.1 hd o (Array.mem_of_getElem? ho)
    rw [hc] at h1
    cases h1) hno _ _ _ _ (h hS))
end

section
variable {F : Fence} {nF : Nat}
theorem wpListIn_store_row {P : Program} {ops : Array Oper} {rest : List Oper} {o : Oper} {a : Act} {w : World} {Q : Exit → Act → World → Prop} (hgd : o.guard = none) (ty : TypeId) (x y : Operand) (ho : o.op = .store ty x y)
    (g : Nat) (cells : Array Value) (hx : a.eval x = .pointer (some ⟨g, 0, none⟩)) (hy : a.eval y = .agg cells)
    (t : TypeId) (old : Array Value) (hg : w.heap[g]? = some (.cells old t (0, 0))) (hi : (P.info? ty).map (·.size) = some cells.size)
    (hold : old.size = cells.size) (h1 : cells.all (·.oneCell') = true)
    (h : wpListIn F nF P ops Q rest (a.put o.dst undef) (w.setRow g cells)) : wpListIn F nF P ops Q (o :: rest) a w := by
  refine wpListIn_plain hgd fun K' hK' => ?_
  unfold Oper.wpIn
  refine ⟨by simp [Oper.about, ho], ?_⟩
  rw [Oper.semAt_plain F _ _ (by rw [ho]; intro c hc'; cases hc')]
  unfold execOp
  simp only [ho, hx, hy, Instr.storeAt, Instr.sureAddr, Sem.run_bind, Sem.run_pure, Result.andThen_ok, run_storeVar_row w g t ty old cells hg hi hold h1]
  exact hK' _ _ h
theorem stoIn_id {ops : Array Oper} {rest : List Oper} {o : Oper} {a : Act} {w : World} {Q : Exit → Act → World → Prop} {T : TypeId} (hi : (Try.prog.info? T).map (·.size) = some 32) (g : Nat) (z : Mid.Id) (old : Array Value) (h : Blk w g T old) (hold : old.size = 32) (hgd : o.guard = none) (x y : Operand) (ho : o.op = .store T x y)
    (hx : a.eval x = .pointer (some ⟨g, 0, none⟩)) (hy : a.eval y = .agg (encI z).toArray) (hk : ∀ w', Hid (w' = w.setRow g (encI z).toArray) → wpListIn F nF Try.prog ops Q rest (a.put o.dst undef) w') : wpListIn F nF Try.prog ops Q (o :: rest) a w :=
  wpListIn_store_row hgd _ x y ho g _ hx hy _ _ h (by rw [List.size_toArray, encI_len]; exact hi) (by rw [hold, List.size_toArray, encI_len]) (all_oneCell_toArray (encI_one z)) (hk _ (Lib.hid rfl))
end
theorem keepsOthers_row {W : World} {g : Nat} {t : TypeId} {cs : Array Value} (h : Blk W g t cs) (ds : Array Value) : KeepsOthers W (W.setRow g ds) :=
  ⟨by rw [size_setRow]; exact Nat.le_refl _, fun k o hk ho => by
    have hne : k ≠ g := by rintro rfl; rw [show W.heap[k]? = _ from h] at hk; cases hk; cases ho
    rw [setRow_other W g k ds hne]; exact hk⟩
theorem step_sto_id {ops : Array Oper} {o : Oper} {a : Act} {w : World} {K : Act → World → Prop} {Q : Exit → Act → World → Prop} {E : Prop} {T : TypeId} (hi : (Try.prog.info? T).map (·.size) = some 32) (g : Nat) (z : Mid.Id) (old : Array Value) (h : Blk w g T old) (hold : old.size = 32) (hw : Region.wanted o (yielded ops a.tmps) = true) (x y : Operand) (ho : o.op = .store T x y)
    (hx : a.eval x = .pointer (some ⟨g, 0, none⟩)) (hy : a.eval y = .agg (encI z).toArray) (hk : ∀ w', Hid (w' = w.setRow g (encI z).toArray) → K (a.put o.dst undef) w') : if Region.wanted o (yielded ops a.tmps) = true then Oper.wp Try.prog o a w K Q else E := by
  rw [if_pos hw]
  exact wp_store_row _ x y ho g _ hx hy _ _ h (by rw [List.size_toArray, encI_len]; exact hi) (by rw [hold, List.size_toArray, encI_len]) (all_oneCell_toArray (encI_one z)) (hk _ (Lib.hid rfl))

/-- what does not panic -/
def OnlyN (N : Act → World → Prop) : Exit → Act → World → Prop
  | .normal, a, w => N a w
  | _, _, _ => False
theorem wpIn_onlyN {F : Fence} {n : Nat} {P : Program} {c : Code} {Q : Exit → Act → World → Prop} {a : Act} {w : World} (h : c.wpIn F n P (OnlyN (fun a w => Q .normal a w)) a w) : c.wpIn F n P Q a w :=
  Code.wpIn_mono (fun e a w q => by cases e <;> first | exact q | exact q.elim) h
end Go.Proofs.Ytcofplbdapjdjaa
