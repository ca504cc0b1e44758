/- copy of bytes into a block that is known whole: at whatever place, out of whatever slice, an empty one or nil too. -/
import Derived.Test.YtgfolgmheinbiaaDoorRRRMem
import Derived.Test.YtgfolgmheinbiaaDoorRRRBlk
import Derived.Laws.CopyOwn
import Derived.Laws.CopyRow
namespace Go.Proofs.YtgfolgmheinbiaaDoorRRR
open Go.RowKit

theorem copied_none (cur : List Value) (o : Nat) : (cur.take o ++ (byteVals [] ++ cur.drop (o + 0))).toArray = cur.toArray := by
  simp [byteVals]

theorem wpList_copy_at {ops : Array Oper} {rest : List Oper} {op : Oper} {a : Act} {w : World} {Q : Exit → Act → World → Prop} (g o dLen dCap : Nat) (t : TypeId) (cur : Array Value) (hB : Blk w g t cur) (v : Value) (l : List Nat) (hv : Bytes w v l) (m : Nat) (hm : m = min l.length dLen) (hfit : o + m ≤ cur.size)
    (hgd : op.guard = none) (d s : Operand) (ho : op.op = .call { callee := .builtin .copy, args := #[d, s], argTypes := #[78, 78] })
    (hd : a.eval d = .slice (some ⟨g, o, none⟩) dLen dCap) (hs : a.eval s = v)
    (hk : ∀ w', Hid (Blk w' g t (cur.toList.take o ++ (byteVals (l.take m) ++ cur.toList.drop (o + m))).toArray) → Hid (∀ k, k ≠ g → w'.heap[k]? = w.heap[k]?) → Hid (∀ B w0, Below B w0 w → B ≤ g → Below B w0 w') → wpList Tryd.prog ops Q rest (a.put op.dst (goInt m)) w') : wpList Tryd.prog ops Q (op :: rest) a w := by
  refine wpList_plain hgd fun K hK => ?_
  have hsz : (Tryd.prog.info? 5).map (·.size) = some 1 := by kernel_rfl
  have hv' := hv
  obtain ⟨_, x, cap, rfl, _, _, _, hc⟩ := hv
  have hml : (l.take m).length = m := by rw [List.length_take]; omega
  have hbl : (byteVals (l.take m)).length = m := by rw [byteVals_len, hml]
  by_cases hz : m = 0
  · have hrun := run_copy_none (P := Tryd.prog) w 78 78 op.type 5 (some ⟨g, o, none⟩) x dLen dCap l.length cap Tryd.underlying78 hsz (by rw [show Nat.min l.length dLen = min l.length dLen from rfl, ← hm, hz])
    unfold Oper.wp
    simp [execOp, ho, resolve, invoke, builtin, hd, hs, hrun, Result.andThen]
    subst hz
    refine hK _ _ (hk w (Lib.hid ?_) (Lib.hid fun _ _ => rfl) (Lib.hid fun _ _ h _ => h))
    rw [List.take_zero, copied_none]
    exact hB
  · have hl0 : 0 < l.length := by omega
    obtain ⟨b, off, hx, _⟩ := hc 0 hl0
    subst hx
    have hsrc : ∀ j u, (byteVals (l.take m))[j]? = some u → w.cell? ((⟨b, off, none⟩ : Addr).add j) = some u := by
      intro j u hj
      refine bytes_vals hv' j u ?_
      have hjm : j < m := by
        have := (List.getElem?_eq_some_iff.1 hj).1
        omega
      rw [← hj]
      simp [byteVals, hjm]
    have hrun := run_copy_row (P := Tryd.prog) w 78 78 op.type 5 g o dLen dCap ⟨b, off, none⟩ l.length cap cur t (byteVals (l.take m)) Tryd.underlying78 hsz hB (by rw [hbl, hm]) hsrc (by rw [hbl]; exact hfit) (by
      intro u hu
      simp only [byteVals, List.mem_map] at hu
      obtain ⟨z, _, rfl⟩ := hu
      rfl)
    unfold Oper.wp
    simp [execOp, ho, resolve, invoke, builtin, hd, hs, hrun, Result.andThen]
    rw [hbl]
    refine hK _ _ (hk _ (Lib.hid (Blk.row hB _)) (Lib.hid fun k hk => setRow_other w g k _ hk) (Lib.hid fun B w0 h hBg => below_row h g hBg _))
end Go.Proofs.YtgfolgmheinbiaaDoorRRR
