/- What every row of this seat shares: the table as the rows list it, a world that holds it, the closed facts of the program; a text cut. -/
import Derived.Test.YtpkbceelbppleaaDoorKnown
import Derived.Test.YtpkbceelbppleaaDoorCards
import Derived.Test.YtpkbceelbppleaaDoorTie
import Derived.WalkKit
import Derived.ProofKit
import Derived.OpenShut
import Derived.ShutString
import Derived.ChangeOld
import Derived.Below
import Derived.LaidSub
import Derived.LaidLaws
import Derived.Stop.LaidErr
import Derived.Deep.DeepHandedRow
import Derived.Lib.LaidTab
namespace Go.Proofs.YtpkbceelbppleaaDoor
open Go.ChangeShapes Go.WideShapes Go.ChangeAt Go.RowKit

theorem own : ownKnob Tryd.prog.godebug = none := by kernel_rfl
theorem laidOut : laidOutB Tryd.prog = true := by kernel_rfl
theorem gB : Tryd.prog.globalNamed "bulletin/sha256.constants" = some 0 := by kernel_rfl
theorem gBType : (Tryd.prog.globals[0]?).map (·.type) = some 60 := by kernel_rfl
theorem cellsB : Tryd.prog.cellsOf 60 = 64 := by kernel_rfl
theorem cellsR : Tryd.prog.cellsOf 52 = 1 := by kernel_rfl
theorem cells5 : Tryd.prog.cellsOf 5 = 1 := by kernel_rfl

abbrev laidL : List (String × DataW Unit) := [("bulletin/sha256.constants", Rows.laid_bulletin_sha256_constants)]

theorem tab {W : World} (h : laidMetH Tryd.prog laidL W) : Tab W := by
  have ht : Lib.TabIs Tryd.prog W "bulletin/sha256.constants" .u32 S5.kL := Lib.tabIs_of_head (rest := []) gB gBType Tryd.underlying60 Tryd.underlying52 cellsR cellsB h
  unfold Lib.TabIs World.var? at ht
  rw [gB] at ht
  simp only [Option.bind_some] at ht
  cases hh : W.heap[0]? with
  | none => rw [hh] at ht; cases ht
  | some o =>
    rw [hh] at ht
    cases o with
    | cells cs t fr =>
      simp only [Option.some.injEq] at ht
      subst ht
      exact ⟨(Array.getElem?_eq_some_iff.1 hh).1, t, fr, hh⟩
    | _ => cases ht

def setAt (h : Array Obj) (g : Nat) (c : Array Value) : Array Obj := h.modify g fun
  | .cells _ t frozen => .cells c t frozen
  | o => o
/-- A WORLD FOR THE WITNESS: the settled one; the table holds what its initialiser lays. -/
noncomputable def laidWorld (os : Os) : World :=
  let w0 := World.holding Tryd.prog os ⟨#[], #[], []⟩
  { w0 with heap := setAt w0.heap 0 kCells }
theorem laid_met1 (os : Os) : laidMet Tryd.prog laidL ((laidWorld os).forCall (fun _ _ => 0) ⟨#[], #[.slice none 0 0], []⟩).memory :=
  laidMet_of_run' 8 (by kernel_rfl) (by kernel_rfl)


/-- bytes, cut -/
theorem cut_any (x : Option Addr) (n c : Nat) (l : List Nat) (hl : l.length = n) (w : World) (hv : Bytes w (.slice x n c) l) (q : Nat) (hq : q = min n 500) (hn : n ≤ maxLen) :
    Calls Tryd.prog 11 #[.slice x n c] w fun e w' => e = .returned (.slice x q c) ∧ w = w' := by
  unfold maxLen at hn
  have hmin : min (n : Int) 500 = (q : Int) := by omega
  have hnI : (n : Int) ≤ 9223372036854775807 := by omega
  have hc : n ≤ c := by obtain ⟨_, y, cc, e, h1, _⟩ := hv; cases e; omega
  have hqc : (q : Int) ≤ (c : Int) := by omega
  clear hq hl hv hn hc
  go_enter Tryd.func11, Tryd.ntmps11
  go_wp2_with fail
  go_ret
  exact ⟨rfl, rfl⟩

theorem Bytes.take {w : World} {x : Option Addr} {n c : Nat} {l : List Nat} (h : Bytes w (.slice x n c) l) (q : Nat) (hq : q ≤ l.length) : Bytes w (.slice x q c) (l.take q) := by
  obtain ⟨h1, y, cap, hv, hl, hm, hn, hc⟩ := h
  have hlen : (l.take q).length = q := by simp; omega
  cases hv
  refine ⟨fun z hz => h1 z (List.mem_of_mem_take hz), x, c, by rw [hlen], by omega, hm, hn, fun i hi => ?_⟩
  rw [hlen] at hi
  obtain ⟨b, off, e, h0⟩ := hc i (by omega)
  refine ⟨b, off, e, ?_⟩
  rw [h0]
  congr 3
  rw [List.getD_eq_getElem?_getD, List.getD_eq_getElem?_getD, List.getElem?_take_of_lt hi]
end Go.Proofs.YtpkbceelbppleaaDoor
