/- What every row of this seat shares: the table as the row lists it, a world that holds it, the closed facts of the program. -/
import Derived.Test.YtbojodgeknjpjaaDoorKnown
import Derived.Test.YtbojodgeknjpjaaDoorCards
import Derived.Test.YtbojodgeknjpjaaDoorTie
import Derived.WalkKit
import Derived.ProofKit
import Derived.OpenShut
import Derived.ShutString
import Derived.ChangeOld
import Derived.Below
import Derived.Deep.DeepHandedRow
import Derived.Lib.LaidTab
namespace Go.Proofs.YtbojodgeknjpjaaDoor
open Go.ChangeShapes Go.WideShapes Go.ChangeAt Go.RowKit

theorem own : ownKnob Tryd.prog.godebug = none := by kernel_rfl
theorem laidOut : laidOutB Tryd.prog = true := by kernel_rfl
theorem gTab : Tryd.prog.globalNamed "bulletin/base64.alphabet" = some 0 := by kernel_rfl
theorem gTabType : (Tryd.prog.globals[0]?).map (·.type) = some 74 := by kernel_rfl
theorem cells74 : Tryd.prog.cellsOf 74 = 64 := by kernel_rfl
theorem cells5 : Tryd.prog.cellsOf 5 = 1 := by kernel_rfl

def alphaZ : List Int := B64.alphaL.map fun c => (c.toNat : Int)

/-- WHAT THE ROW's LIST GIVES: the table's block. -/
theorem table {W : World} (h : laidMetH Tryd.prog [("bulletin/base64.alphabet", Rows.laid_bulletin_base64_alphabet)] W) : Tab W := by
  have ht : Lib.TabIs Tryd.prog W "bulletin/base64.alphabet" .u8 alphaZ := Lib.tabIs_of_head (rest := []) gTab gTabType Tryd.underlying74 Tryd.underlying5 cells5 cells74 h
  unfold Lib.TabIs World.var? at ht
  rw [gTab] at ht
  simp only [Option.bind_some] at ht
  cases hh : W.heap[0]? with
  | none => rw [hh] at ht; cases ht
  | some o =>
    rw [hh] at ht
    cases o with
    | cells cs t fr =>
      simp only [Option.some.injEq] at ht
      refine ⟨lt_of_block hh, t, fr, ?_⟩
      rw [hh, ht]
      simp [alphaCells, alphaZ]
    | _ => cases ht

/-- A WORLD FOR THE WITNESS: the settled one, the table (block 0) holding what its initialiser lays. -/
noncomputable def laidWorld (os : Os) : World :=
  { World.holding Tryd.prog os ⟨#[], #[], []⟩ with heap := (World.holding Tryd.prog os ⟨#[], #[], []⟩).heap.modify 0 fun
      | .cells _ t frozen => .cells alphaCells t frozen
      | o => o }
end Go.Proofs.YtbojodgeknjpjaaDoor
