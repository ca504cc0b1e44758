/- Sets of identities kept in a map that the call makes. -/
import Derived.Test.YtcofplbdapjdjaaFrame
import Derived.Maps.OwnOps
import Derived.Maps.OwnSet
import Derived.DeepKeys4
namespace Go.Proofs.Ytcofplbdapjdjaa
open Go.RowKit Go.Maps Go.WideMaps

theorem byte_wf {n : Nat} (h : n < 256) : (Lit.int .u8 (n : Int)).wf = true := by
  simp [Lit.wf, IntKind.min, IntKind.max, IntKind.signed, IntKind.bits]
  omega
theorem mapM_all {α β : Type} (f : α → Option β) : ∀ l : List α, (∀ x ∈ l, ∃ y, f x = some y) → ∃ ys, l.mapM f = some ys
  | [], _ => ⟨[], rfl⟩
  | x :: l, h => by
    obtain ⟨y, hy⟩ := h x (by simp)
    obtain ⟨ys, hys⟩ := mapM_all f l (fun z hz => h z (by simp [hz]))
    exact ⟨y :: ys, by rw [List.mapM_cons, hy, hys]; rfl⟩

theorem kdeep : Try.prog.keyType 46 = true := by kernel_rfl
theorem krow : (46 : TypeId) < Try.prog.types.size := of_decide_eq_true (by kernel_rfl)
theorem kwide : (match Try.prog.underlying 46 with | some (.array _ _) | some (.struct _) => true | _ => false) = true := by rw [Try.underlying46]
set_option maxRecDepth 100000 in
theorem klaw : KeyLaw Try.prog 46 := deep_law_laid laidOut (m := 2) (by omega) krow (by kernel_rfl) kwide
theorem keyed : Keyed Try.prog 46 := Keyed.of_law klaw
theorem bool_zero (w : World) : (zeroValue 4).run Try.prog w = .ok (.bool false) w := by kernel_rfl

set_option maxRecDepth 100000 in
theorem key_is (x : Mid.Id) : ∃ kl, keyOf Try.prog 46 (.agg (encI x).toArray) = some kl := by
  have hl := encI_len x
  unfold keyOf
  simp only [Try.underlying46]
  rw [if_pos (by rw [kdeep]; simp [Value.formed, Try.underlying46, cellsId, hl])]
  obtain ⟨m, hm⟩ : ∃ m, Try.prog.types.size = m + 1 := ⟨Try.prog.types.size - 1, (Nat.succ_pred_eq_of_pos (Nat.lt_of_le_of_lt (Nat.zero_le _) krow)).symm⟩
  rw [hm]
  unfold Program.keyLits
  simp only [Try.underlying46, Value.cells]
  rw [if_pos (by simp [cellsId, hl])]
  obtain ⟨ys, hys⟩ := mapM_all (fun i => Try.prog.keyLits (m + 1) 5 (((encI x).drop (i * Try.prog.cellsOf 5)).take (Try.prog.cellsOf 5))) (List.range 32) (fun i hi => by
    have hi := List.mem_range.1 hi
    rw [cellsU8', Nat.mul_one, List.drop_eq_getElem_cons (by rw [hl]; exact hi)]
    simp only [List.take_succ_cons, List.take_zero]
    have hb : x.1[i]'(by rw [x.2.1]; exact hi) < 256 := x.2.2 _ (List.getElem_mem _)
    simp only [encI, List.getElem_map]
    unfold Program.keyLits
    simp only [Try.underlying5]
    have hwf : (Lit.int .u8 ((x.1[i]'(by rw [x.2.1]; exact hi) : Nat) : Int)).wf = true := byte_wf hb
    exact ⟨_, if_pos (by simp [hwf])⟩)
  rw [hys]
  exact ⟨_, rfl⟩

/-- BLOCK b IS A MAP OF AT MOST n ENTRIES THAT HOLDS TRUE JUST AT THE IDENTITIES OF S -/
def Occ (w : World) (b n : Nat) (S : List Mid.Id) : Prop :=
  ∃ D : DataW Unit, w.ownsMap Try.prog 46 (plainElem Try.prog 4) b n D ∧ ∀ x kl, keyOf Try.prog 46 (.agg (encI x).toArray) = some kl → D.atKey kl (.lit (.bool false)) = .lit (.bool (decide (x ∈ S)))
set_option maxRecDepth 100000 in
theorem Occ.made (w : World) : Occ (w.alloc (.map #[] 0)) w.heap.size 0 [] := ⟨.map [], World.ownsMap_made _ _ _ _, fun x kl _ => by simp; rfl⟩
theorem Occ.kept {w w' : World} {b n : Nat} {S : List Mid.Id} {row : Option Nat} (h : Occ w b n S) (hg : w.grownBy w' row) (hne : some b ≠ row) : Occ w' b n S := by
  obtain ⟨D, h1, h2⟩ := h
  exact ⟨D, h1.kept hg hne, h2⟩
theorem Occ.lt {w : World} {b n : Nat} {S : List Mid.Id} (h : Occ w b n S) : b < w.heap.size := h.elim fun _ h => h.1.lt
theorem bl_grownBy {w w' : World} (h : Below w.heap.size w w') (row : Option Nat) : w.grownBy w' row := ⟨h.os, h.tape, h.output, h.size, fun i hi _ => h.block i hi⟩
theorem Occ.below {w w' : World} {b n : Nat} {S : List Mid.Id} (h : Occ w b n S) (hb : Below w.heap.size w w') : Occ w' b n S := h.kept (bl_grownBy hb none) (by simp)
set_option maxRecDepth 100000 in
theorem plainElem_bool_inv {v : Value} {q : Bool} {ps : List MemPlace} (h : plainElem (H := Unit) Try.prog 4 v = some (.lit (.bool q), ps)) : v = .bool q := by
  unfold plainElem at h
  rw [Try.underlying4] at h
  cases v <;> simp at h
  rw [h.1]
set_option maxRecDepth 100000 in
theorem key_ne {x y : Mid.Id} {k l : Lit} (hx : keyOf Try.prog 46 (.agg (encI x).toArray) = some k) (hy : keyOf Try.prog 46 (.agg (encI y).toArray) = some l) (h : x ≠ y) : k ≠ l := by
  rintro rfl
  have := keyed.inj hx hy
  injection this with e
  exact h (encI_inj (by simpa using congrArg Array.toList e))
set_option maxRecDepth 100000 in
/-- the look-up -/
theorem wpList_occ {ops : Array Oper} {rest : List Oper} {o : Oper} {a : Act} {w : World} {Q : Exit → Act → World → Prop} (hgd : o.guard = none) (m y : Operand) (T : TypeId) (hT : Try.prog.underlying T = some (.map 46 4)) (ho : o.op = .lookup T m y false)
    (b n : Nat) (S : List Mid.Id) (x : Mid.Id) (hm : a.eval m = .map (some b)) (hy : a.eval y = .agg (encI x).toArray) (h : Occ w b n S)
    (hk : wpList Try.prog ops Q rest (a.put o.dst (.bool (decide (x ∈ S)))) w) : wpList Try.prog ops Q (o :: rest) a w := by
  refine wpList_plain hgd fun K hK => ?_
  obtain ⟨D, hown, hD⟩ := h
  obtain ⟨kl, hkl⟩ := key_is x
  obtain ⟨v, ps, hrun, hv⟩ := hown.lookup keyed hT (bool_zero w) (plainElem_bool Try.underlying4 false) hkl
  rw [hD x kl hkl] at hv
  have hvv := plainElem_bool_inv hv
  subst hvv
  unfold Oper.wp
  simp [execOp, ho, hm, hy, hrun, Result.andThen]
  exact hK _ _ hk
/-- the store -/
theorem wpList_occ_put {ops : Array Oper} {rest : List Oper} {o : Oper} {a : Act} {w : World} {Q : Exit → Act → World → Prop} (hgd : o.guard = none) (m y z : Operand) (T : TypeId) (hT : Try.prog.underlying T = some (.map 46 4)) (ho : o.op = .mapUpdate T m y z)
    (b n : Nat) (S : List Mid.Id) (x : Mid.Id) (hm : a.eval m = .map (some b)) (hy : a.eval y = .agg (encI x).toArray) (hz : a.eval z = .bool true) (h : Occ w b n S) (hn : n < maxLen)
    (hk : ∀ w', Hid (Occ w' b (n + 1) (S ++ [x])) → Hid (w.grownBy w' (some b)) → wpList Try.prog ops Q rest (a.put o.dst undef) w') : wpList Try.prog ops Q (o :: rest) a w := by
  obtain ⟨D, hown, hD⟩ := h
  obtain ⟨kl, hkl⟩ := key_is x
  refine wpList_mapUpdate_own w hgd m y z T ho 46 4 keyed hT _ b n D hm hown hn _ _ kl hy hz hkl _ [] (plainElem_bool Try.underlying4 true) (fun w' h1 h2 => hk w' (Lib.hid ⟨_, h1, fun y' kl' hk' => ?_⟩) (Lib.hid h2))
  by_cases e : y' = x
  · subst e
    obtain rfl : kl' = kl := Option.some.inj (hk'.symm.trans hkl)
    rw [atKey_put_same hown.isMap (keyed.key hk')]
    simp
  · rw [atKey_put_other (key_ne hk' hkl e), hD y' kl' hk']
    simp [e]
end Go.Proofs.Ytcofplbdapjdjaa
