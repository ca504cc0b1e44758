/- What every row of this seat shares: the table as the rows list it, a world that holds it, the closed facts of the program; a text cut. -/
import Derived.Test.YtgfolgmheinbiaaDoorRRRKnown
import Derived.Test.YtgfolgmheinbiaaDoorRRRCards
import Derived.Test.YtgfolgmheinbiaaDoorRRRTie
import Derived.WalkKit
import Derived.ProofKit
import Derived.OpenShut
import Derived.ShutString
import Derived.ChangeOld
import Derived.Below
import Derived.LaidSub
import Derived.LaidLaws
import Derived.Stop.LaidErr
import Derived.Deep.DeepHandedRow
import Derived.Lib.LaidTab
namespace Go.Proofs.YtgfolgmheinbiaaDoorRRR
open Go.ChangeShapes Go.WideShapes Go.ChangeAt Go.RowKit

theorem own : ownKnob Tryd.prog.godebug = none := by kernel_rfl
theorem laidOut : laidOutB Tryd.prog = true := by kernel_rfl
theorem gB : Tryd.prog.globalNamed "bulletin/sha256.constants" = some 0 := by kernel_rfl
theorem gBType : (Tryd.prog.globals[0]?).map (·.type) = some 94 := by kernel_rfl
theorem cellsB : Tryd.prog.cellsOf 94 = 64 := by kernel_rfl
theorem cellsR : Tryd.prog.cellsOf 92 = 1 := by kernel_rfl
theorem cells5 : Tryd.prog.cellsOf 5 = 1 := by kernel_rfl

abbrev laidL : List (String × DataW Unit) := [("bulletin/sha256.constants", Rows.laid_bulletin_sha256_constants)]

theorem tab {W : World} (h : laidMetH Tryd.prog laidL W) : Tab W := by
  have ht : Lib.TabIs Tryd.prog W "bulletin/sha256.constants" .u32 S5.kL := Lib.tabIs_of_head (rest := []) gB gBType Tryd.underlying94 Tryd.underlying92 cellsR cellsB h
  unfold Lib.TabIs World.var? at ht
  rw [gB] at ht
  simp only [Option.bind_some] at ht
  cases hh : W.heap[0]? with
  | none => rw [hh] at ht; cases ht
  | some o =>
    rw [hh] at ht
    cases o with
    | cells cs t fr =>
      simp only [Option.some.injEq] at ht
      subst ht
      exact ⟨(Array.getElem?_eq_some_iff.1 hh).1, t, fr, hh⟩
    | _ => cases ht

def setAt (h : Array Obj) (g : Nat) (c : Array Value) : Array Obj := h.modify g fun
  | .cells _ t frozen => .cells c t frozen
  | o => o
/-- A WORLD FOR THE WITNESS: the settled one; the table holds what its initialiser lays. -/
noncomputable def laidWorld (os : Os) : World :=
  let w0 := World.holding Tryd.prog os ⟨#[], #[], []⟩
  { w0 with heap := setAt w0.heap 0 kCells }

/-! equality of arrays of numbers -/
theorem plainI : Tryd.prog.plainKey 3 = true := by kernel_rfl
theorem cellsI : Tryd.prog.cellsOf 3 = 1 := by kernel_rfl
theorem eqItems_ks (d : Nat) (xs : List Int) (n : Nat) (hx : xs.length = n) (w : World) : ∀ (is : List Nat), (∀ i ∈ is, i < n) →
    (Op.eqItems (d + 1) 3 1 (ksC .i64 xs) (ksC .i64 xs) is).run Tryd.prog w = .ok true w
  | [], _ => by simp [Op.eqItems]
  | i :: is, h => by
    have hi := h i (by simp)
    have ih := eqItems_ks d xs n hx w is (fun j hj => h j (by simp [hj]))
    have p1 := run_part_plain (P := Tryd.prog) w plainI (ksC_get .i64 xs i (by omega))
    have p3 := run_equalIn_int (P := Tryd.prog) w d 3 .i64 .i64 (xs.getD i 0) (xs.getD i 0) Tryd.underlying3
    simp only [Op.eqItems, Sem.run_bind, Nat.mul_one, p1, p3, Result.andThen_ok]
    simpa using ih
theorem eq_same_ks {t : TypeId} {n : Nat} (hu : Tryd.prog.underlying t = some (.array n 3)) (xs : List Int) (hx : xs.length = n) (w : World) :
    (Op.equalIn 10000 t (.agg (ksC .i64 xs)) (.agg (ksC .i64 xs))).run Tryd.prog w = .ok true w := by
  obtain ⟨i, hi⟩ := info_of_underlying Tryd.underlying3
  rw [run_equalIn_array w 9999 _ _ hu hi, cellsI, eqItems_ks 9998 xs n hx w (List.range n) (fun i hi => List.mem_range.1 hi)]
end Go.Proofs.YtgfolgmheinbiaaDoorRRR
