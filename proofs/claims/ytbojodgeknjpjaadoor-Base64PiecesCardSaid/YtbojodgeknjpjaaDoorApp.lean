/- One law for 'append(own, bytes...)': a row of the call's own grows by the bytes that a slice reads as, a nil one too. -/
import Derived.Test.YtbojodgeknjpjaaDoorDec
import Derived.Laws.AppendOwnNone
namespace Go.Proofs.YtbojodgeknjpjaaDoor
open Go.RowKit

theorem wpList_append_bytes (w : World) {ops : Array Oper} {rest : List Oper} {o : Oper} {a : Act} {Q : Exit → Act → World → Prop} (hgd : o.guard = none) (s x : Operand)
    (ho : o.op = .call { callee := .builtin .append, args := #[s, x], argTypes := #[22, 22] })
    (base : Nat) (v : Value) (n : Nat) (xs : List Value) (hs : a.eval s = v) (hown : w.ownsRow base 5 1 v n xs) (src : Value) (l : List Nat) (hx : a.eval x = src) (hb : Bytes w src l) (hnil : ∀ c, src = .slice none l.length c → c = 0)
    (hn : n + l.length ≤ 1000000000) (hbase : base ≤ w.heap.size)
    (h : ∀ v' w', w'.ownsRow base 5 1 v' (n + l.length) (xs ++ byteVals l) → w.grownBy w' v.ownBlock → wpList Tryd.prog ops Q rest (a.put o.dst v') w') : wpList Tryd.prog ops Q (o :: rest) a w := by
  obtain ⟨i0, hi, hz0, hz1, hz2⟩ := info_parts Tryd.info5
  obtain ⟨_, y, cap, rfl, _, _, hc⟩ := hb
  cases y with
  | none =>
    have h0 : l = [] := by
      cases l with
      | nil => rfl
      | cons z l => obtain ⟨b, off, e, _⟩ := hc 0 (by simp); cases e
    subst h0
    obtain rfl := hnil cap rfl
    have := wpList_append_own_none hgd s x 22 ho base 5 i0 1 Tryd.underlying22 hi v n xs hs hown (Q := Q) (ops := ops) (rest := rest) hx
    exact this (h v w (by simpa [byteVals] using hown) ⟨rfl, rfl, rfl, Nat.le_refl _, fun _ _ _ => rfl⟩)
  | some ad =>
    refine wpList_append_own _ hgd s x 22 ho base 5 i0 (.int .u8 0) 1 1 Tryd.underlying22 hi hz0 hz1 hz2 rfl (by decide) v n xs hs hown ad l.length cap (byteVals l) hx (by simp [byteVals]) ?_ ?_ (by unfold maxLen; omega) (by omega) hbase (fun v' w' h1 h2 _ => h v' w' h1 h2)
    · intro j u hj
      have hjl : j < l.length := by
        have := (List.getElem?_eq_some_iff.1 hj).1
        simpa [byteVals] using this
      obtain ⟨b, off, e, h0⟩ := hc j hjl
      obtain rfl := Option.some.inj e
      have : (⟨b, off, none⟩ : Addr).add j = ⟨b, off + j, none⟩ := by
        unfold Addr.add
        split
        · rename_i hj0; subst hj0; rfl
        · rfl
      rw [this, h0, ← hj]
      simp [byteVals, List.getElem?_eq_getElem hjl]
    · intro u hu
      simp only [byteVals, List.mem_map] at hu
      obtain ⟨z, _, rfl⟩ := hu
      rfl
end Go.Proofs.YtbojodgeknjpjaaDoor
