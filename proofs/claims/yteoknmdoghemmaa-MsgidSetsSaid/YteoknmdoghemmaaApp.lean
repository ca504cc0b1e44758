/- append of whatever list behind a row of one's own, at the reference's type. -/
import Derived.Test.YteoknmdoghemmaaRPick
namespace Go.Proofs.Yteoknmdoghemmaa
open Go.RowKit Go.Shelf
theorem run_app (S T : TypeId) (i0 : TypeInfo) (hS : Try.prog.underlying S = some (.slice T)) (hi : Try.prog.info? T = some i0) (hz0 : i0.zero = some (.agg (bsC zD))) (hz1 : i0.size = 32) (hz2 : i0.bytes = 32) (ty : TypeId)
    (w : World) (base : Nat) (v : Value) (ls : List Mid.Id) (hown : OwnI T base w v ls) (u : Value) (ms : List Mid.Id) (hu : Ids w u ms) (hn : (ls.length + ms.length) * 32 ≤ 140737488355328) (hbase : base ≤ w.heap.size) :
    ∃ v' w', (Builtin.append_ #[S, S] ty #[v, u]).run Try.prog w = .ok v' w' ∧ OwnI T base w' v' (ls ++ ms) ∧ w.grownBy w' v.ownBlock := by
  have key : ∀ (b off m c : Nat), m = ms.length → (∀ j u, (flatI ms)[j]? = some u → w.cell? ⟨b, off + j, none⟩ = some u) →
      ∃ v' w', (Builtin.append_ #[S, S] ty #[v, .slice (some ⟨b, off, none⟩) m c]).run Try.prog w = .ok v' w' ∧ OwnI T base w' v' (ls ++ ms) ∧ w.grownBy w' v.ownBlock := by
    intro b off m c hm hc
    obtain ⟨v', w', hr, h1, h2, _⟩ := run_append_own (P := Try.prog) w base S ty T i0 (.agg (bsC zD)) 32 32 hS hi hz0 hz1 hz2 rfl (by decide) v ls.length (flatI ls) hown ⟨b, off, none⟩ m c (flatI ms) (by rw [flatI_len, hm]) (fun j u hj => by rw [addr_add]; exact hc j u hj) (flatI_one ms) (by unfold maxLen; omega) (by omega) hbase
    refine ⟨v', w', hr, ?_, h2⟩
    unfold OwnI
    rw [flatI_app, List.length_append, ← hm]
    exact h1
  obtain ⟨ad, cap, rfl, h1, _, h3, h4⟩ := hu
  cases ad with
  | none =>
    have h0 := h3 rfl
    obtain rfl : ms = [] := List.eq_nil_of_length_eq_zero (by omega)
    obtain rfl : cap = 0 := h0
    exact ⟨v, w, run_append_owned_none (P := Try.prog) (w := w) base S ty T i0 32 hS (by rw [hi]) v ls.length (flatI ls) hown, by rw [List.append_nil]; exact hown, World.grownBy.refl _ _⟩
  | some a =>
    rcases h4 with rfl | ⟨b, off, hx, hc⟩
    · obtain ⟨v', w', hr, h1, h2, _⟩ := run_append_own (P := Try.prog) w base S ty T i0 (.agg (bsC zD)) 32 32 hS hi hz0 hz1 hz2 rfl (by decide) v ls.length (flatI ls) hown a 0 cap [] (by simp) (by simp) (by simp) (by unfold maxLen; simp at hn; omega) (by simp at hn; omega) hbase
      refine ⟨v', w', hr, ?_, h2⟩
      unfold OwnI
      simpa using h1
    · cases hx
      refine key b off ms.length cap rfl (fun j u hj => ?_)
      have hjl : j < ms.length * 32 := by
        have := (List.getElem?_eq_some_iff.1 hj).1
        rwa [flatI_len] at this
      have e : j = j / 32 * 32 + j % 32 := by omega
      rw [e] at hj
      rw [flatI_get ms (j / 32) (j % 32) (by omega) (by omega)] at hj
      have := hc (j / 32) (by omega) (j % 32) u hj
      rwa [Nat.add_assoc, ← e] at this
theorem run_appR (w : World) (ty : TypeId) (base : Nat) (v : Value) (ls : List Mid.Id) (hown : OwnI 30 base w v ls) (u : Value) (ms : List Mid.Id) (hu : Ids w u ms) (hn : (ls.length + ms.length) * 32 ≤ 140737488355328) (hbase : base ≤ w.heap.size) :
    ∃ v' w', (Builtin.append_ #[42, 42] ty #[v, u]).run Try.prog w = .ok v' w' ∧ OwnI 30 base w' v' (ls ++ ms) ∧ w.grownBy w' v.ownBlock := by
  obtain ⟨i0, hi, hz0, hz1, hz2⟩ := info_partsM infoRI
  exact run_app _ _ i0 Try.underlying42 hi hz0 hz1 hz2 ty w base v ls hown u ms hu hn hbase
theorem wpList_app_g {ops : Array Oper} {rest : List Oper} {o : Oper} {a : Act} {w : World} {Q : Exit → Act → World → Prop} (hw : Region.wanted o (yielded ops a.tmps) = true) (s x : Operand)
    (ho : o.op = .call { callee := .builtin .append, args := #[s, x], argTypes := #[42, 42] }) (base : Nat) (v : Value) (ls : List Mid.Id) (hs : a.eval s = v) (hown : OwnI 30 base w v ls)
    (u : Value) (ms : List Mid.Id) (hx : a.eval x = u) (hu : Ids w u ms) (hn : (ls.length + ms.length) * 32 ≤ 140737488355328) (hbase : base ≤ w.heap.size)
    (h : ∀ v' w', Hid (OwnI 30 base w' v' (ls ++ ms)) → Hid (w.grownBy w' v.ownBlock) → wpList Try.prog ops Q rest (a.put o.dst v') w') : wpList Try.prog ops Q (o :: rest) a w := by
  refine wpList_step fun K hK => ?_
  rw [if_pos hw]
  obtain ⟨v', w', hr, h1, h2⟩ := run_appR w o.type base v ls hown u ms hu hn hbase
  unfold Oper.wp execOp
  simp only [ho, resolve, invoke, builtin, Sem.run_bind, Sem.run_pure, Result.andThen_ok, List.map_toArray, List.map_cons, List.map_nil, hs, hx, hr]
  exact hK _ _ (h v' w' (Lib.hid h1) (Lib.hid h2))
end Go.Proofs.Yteoknmdoghemmaa
