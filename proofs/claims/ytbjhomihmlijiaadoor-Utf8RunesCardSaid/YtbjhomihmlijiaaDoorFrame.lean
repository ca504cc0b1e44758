/- What every row of this seat shares: the table as the rows list it, a world that holds it, the closed facts of the program; a text cut. -/
import Derived.Test.YtbjhomihmlijiaaDoorKnown
import Derived.Test.YtbjhomihmlijiaaDoorCards
import Derived.Test.YtbjhomihmlijiaaDoorTie
import Derived.WalkKit
import Derived.ProofKit
import Derived.OpenShut
import Derived.ShutString
import Derived.ChangeOld
import Derived.Below
import Derived.LaidSub
import Derived.LaidLaws
import Derived.Stop.LaidErr
import Derived.Deep.DeepHandedRow
import Derived.Lib.LaidTab
namespace Go.Proofs.YtbjhomihmlijiaaDoor
open Go.ChangeShapes Go.WideShapes Go.ChangeAt Go.RowKit

theorem own : ownKnob Tryd.prog.godebug = none := by kernel_rfl
theorem laidOut : laidOutB Tryd.prog = true := by kernel_rfl
theorem gB : Tryd.prog.globalNamed "bulletin/utf8.bounds" = some 0 := by kernel_rfl
theorem gBType : (Tryd.prog.globals[0]?).map (·.type) = some 62 := by kernel_rfl
theorem cellsB : Tryd.prog.cellsOf 62 = 5 := by kernel_rfl
theorem cellsR : Tryd.prog.cellsOf 21 = 1 := by kernel_rfl
theorem cells5 : Tryd.prog.cellsOf 5 = 1 := by kernel_rfl

abbrev laidL : List (String × DataW Unit) := [("bulletin/utf8.bounds", Rows.laid_bulletin_utf8_bounds)]

theorem tab {W : World} (h : laidMetH Tryd.prog laidL W) : Tab W := by
  have ht : Lib.TabIs Tryd.prog W "bulletin/utf8.bounds" .i32 [0, 128, 2048, 65536, 1114112] := Lib.tabIs_of_head (rest := []) gB gBType Tryd.underlying62 Tryd.underlying21 cellsR cellsB h
  unfold Lib.TabIs World.var? at ht
  rw [gB] at ht
  simp only [Option.bind_some] at ht
  cases hh : W.heap[0]? with
  | none => rw [hh] at ht; cases ht
  | some o =>
    rw [hh] at ht
    cases o with
    | cells cs t fr =>
      simp only [Option.some.injEq] at ht
      subst ht
      exact ⟨(Array.getElem?_eq_some_iff.1 hh).1, t, fr, hh⟩
    | _ => cases ht

def setAt (h : Array Obj) (g : Nat) (c : Array Value) : Array Obj := h.modify g fun
  | .cells _ t frozen => .cells c t frozen
  | o => o
/-- A WORLD FOR THE WITNESS: the settled one; the table holds what its initialiser lays. -/
noncomputable def laidWorld (os : Os) : World :=
  let w0 := World.holding Tryd.prog os ⟨#[], #[], []⟩
  { w0 with heap := setAt w0.heap 0 #[.int .i32 0, .int .i32 128, .int .i32 2048, .int .i32 65536, .int .i32 1114112] }
theorem laid_met1 (os : Os) : laidMet Tryd.prog laidL ((laidWorld os).forCall (fun _ _ => 0) ⟨#[], #[.string ByteArray.empty], []⟩).memory :=
  laidMet_of_run' 8 (by kernel_rfl) (by kernel_rfl)

/-- a text, cut -/
def cutS (s : ByteArray) (n : Nat) : ByteArray := s.extract 0 (min s.size n)

theorem cutS_size (s : ByteArray) (n : Nat) : (cutS s n).size ≤ n := by simp [cutS]; omega

theorem short_any (s : ByteArray) (n : Nat) (w : World) (hs : s.size ≤ maxLen) (t : ByteArray) (ht : t = cutS s n) : Calls Tryd.prog 14 #[.string s, .int .i64 n] w fun e w' => e = .returned (.string t) ∧ w = w' := by
  unfold maxLen at hs
  have hsI : (s.size : Int) ≤ 9223372036854775807 := by omega
  have HT := Lib.hid ht
  clear ht
  obtain ⟨m, hm⟩ : ∃ m : Nat, m = min s.size n := ⟨_, rfl⟩
  have hmI : min (s.size : Int) (n : Int) = (m : Int) := by omega
  have hm2 : (m : Int) ≤ (s.size : Int) := by omega
  have HM := Lib.hid hm
  clear hm
  go_enter Tryd.func14, Tryd.ntmps14
  go_wp2_with fail
  go_ret
  exact ⟨ret_str (by rw [HT.out, cutS, ← HM.out]), rfl⟩
end Go.Proofs.YtbjhomihmlijiaaDoor
