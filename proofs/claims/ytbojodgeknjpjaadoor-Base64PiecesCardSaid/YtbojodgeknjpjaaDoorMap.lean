/- The map of the characters' values: what the program makes holds exactly the 64 characters of the alphabet with their positions. Condition: the alphabet's table reads as laid. -/
import Derived.Test.YtbojodgeknjpjaaDoorMem
import Derived.Laws.Rows
import Derived.Maps.OwnOps
import Derived.Maps.OwnSet
import Derived.Maps.Views
import Derived.Lib.Hide
namespace Go.Proofs.YtbojodgeknjpjaaDoor
open Go.RowKit Go.Maps

abbrev zlit : DataW Unit := .lit (.int .i64 0)
abbrev keyL (c : UInt8) : Lit := .int .u8 c.toNat

/-- WHAT THE MAP HOLDS WHEN k CHARACTERS HAVE GONE IN -/
def MapInv (k : Nat) (D : DataW Unit) : Prop :=
  IsMap D ∧ (∀ c : UInt8, has D (keyL c) = true ↔ ∃ i, i < k ∧ B64.alpha i = c) ∧ ∀ i, i < k → D.atKey (keyL (B64.alpha i)) zlit = .lit (.int .i64 i)

theorem keyL_inj {a b : UInt8} (h : keyL a = keyL b) : a = b := by
  simp [keyL] at h
  exact UInt8.toNat_inj.1 (by omega)

theorem alpha_inj {i j : Nat} (hi : i < 64) (hj : j < 64) (h : B64.alpha i = B64.alpha j) : i = j := by
  have := B64.val_alpha i hi
  rw [h, B64.val_alpha j hj] at this
  simpa using this.symm

theorem MapInv.zero : MapInv 0 (.map []) := ⟨isMap_empty, fun c => by simp [has], fun i hi => by omega⟩

theorem MapInv.step {k : Nat} {D : DataW Unit} (h : MapInv k D) (hk : k < 64) : MapInv (k + 1) (D.put (keyL (B64.alpha k)) (.lit (.int .i64 k))) := by
  obtain ⟨h1, h2, h3⟩ := h
  have hkey : WideAt.IsKeyLit (keyL (B64.alpha k)) := by trivial
  refine ⟨h1.put _ _, fun c => ?_, fun i hi => ?_⟩
  · by_cases hc : B64.alpha k = c
    · subst hc
      rw [has_put_same h1 hkey]
      simp
      exact ⟨k, by omega, rfl⟩
    · rw [has_put_other (fun e => hc (keyL_inj e).symm), h2]
      constructor
      · rintro ⟨i, hi, e⟩; exact ⟨i, by omega, e⟩
      · rintro ⟨i, hi, e⟩
        by_cases hik : i = k
        · subst hik; exact absurd e hc
        · exact ⟨i, by omega, e⟩
  · by_cases hik : i = k
    · subst hik
      rw [atKey_put_same h1 hkey]
    · rw [atKey_put_other (fun e => hik (alpha_inj (by omega) hk (keyL_inj e)))]
      exact h3 i (by omega)

/-- what a look-up in the whole map gives -/
theorem MapInv.has_val {D : DataW Unit} (h : MapInv 64 D) (c : UInt8) : has D (keyL c) = (B64.val c).isSome := by
  rw [Bool.eq_iff_iff, h.2.1]
  constructor
  · rintro ⟨i, hi, rfl⟩; rw [B64.val_alpha i hi]; rfl
  · intro hs
    obtain ⟨v, hv⟩ := Option.isSome_iff_exists.1 hs
    have := B64.val_some c v hv
    exact ⟨v, this.1, this.2⟩

theorem MapInv.at_val {D : DataW Unit} (h : MapInv 64 D) (c : UInt8) (v : Nat) (hv : B64.val c = some v) : D.atKey (keyL c) zlit = .lit (.int .i64 v) := by
  have := B64.val_some c v hv
  rw [← this.2]
  exact h.2.2 v this.1

theorem law5 : Keyed Tryd.prog 5 := int_keyed Tryd.underlying5
theorem zero3 (w : World) : (zeroValue 3).run Tryd.prog w = .ok (.int .i64 0) w := by kernel_rfl

theorem wf_byte (c : UInt8) : (Lit.int .u8 c.toNat).wf = true := by
  have := c.toNat_lt
  exact WalkArith.wf_u8 (by omega)

set_option maxRecDepth 100000 in
theorem values_any (w : World) (hT : Tab w) :
    Calls Tryd.prog 32 #[] w fun e w' => e = .returned (.map (some w.heap.size)) ∧ (∃ D : DataW Unit, MapInv 64 D ∧ w'.ownsMap Tryd.prog 5 (plainElem Tryd.prog 3) w.heap.size 64 D) ∧ Below w.heap.size w w' := by
  have hmm : ∀ w : World, (Instr.makeMap 59 (some (.int .i64 64))).run Tryd.prog w = .ok (.map (some w.heap.size)) (w.alloc (.map #[] 0)) := fun _ => by kernel_rfl
  obtain ⟨hpos, tt, fr, hblk⟩ := hT
  have hblk2 : (w.alloc (.map #[] 0)).heap[0]? = some (.cells alphaCells tt fr) := by rw [Lib.alloc_old _ _ _ hpos]; exact hblk
  have hidx : ∀ (k : Nat) (_ : k < 64) (w : World), (Instr.index 74 (.agg alphaCells) (.int .i64 k)).run Tryd.prog w = .ok (.int .u8 (B64.alpha k).toNat) w :=
    fun k hk w => run_index_cells 74 5 64 alphaCells .i64 k _ w Tryd.underlying74 hk Tryd.sizeOf5 Tryd.isAgg5 (alphaCells_get k hk)
  have HIDX := Lib.hid hidx
  clear hidx
  go_enter Tryd.func32, Tryd.ntmps32
  go_wp2_with (refine wpList_load_row rfl 74 _ rfl 0 rfl tt _ fr _ hblk2 Tryd.underlying74 rfl (by kernel_rfl) ?_)
  go_loopw [6] (fun i wr => ∃ k : Nat, k ≤ 64 ∧ i = .int .i64 k ∧ (∃ D : DataW Unit, MapInv k D ∧ wr.ownsMap Tryd.prog 5 (plainElem Tryd.prog 3) w.heap.size k D) ∧ Below w.heap.size w wr) (fun i _ => 64 - (intOf i).toNat)
  case atStart => exact ⟨0, by omega, rfl, ⟨_, MapInv.zero, World.ownsMap_made _ _ _ _⟩, (Below.refl _ _).alloc (Nat.le_refl _) _⟩
  case round =>
    obtain ⟨k, hk, rfl, ⟨D, hD, hown⟩, hnx⟩ := hrel
    have hkey : keyOf Tryd.prog 5 (.int .u8 (B64.alpha k).toNat) = some (keyL (B64.alpha k)) := keyOf_int_mk Tryd.underlying5 (wf_byte _)
    by_cases hlt : k < 64
    · have hix := HIDX.out k hlt
      go_wp2_with (at_mapUpdate; refine wpList_mapUpdate_own _ rfl _ _ _ 59 rfl 5 3 law5 Tryd.underlying59 _ w.heap.size k _ rfl hown (by unfold maxLen; omega) _ _ _ rfl rfl hkey _ [] (plainElem_int Tryd.underlying3 (WalkArith.wf_i64 (by omega))) ?_; intro w1 hown1 hgrow1)
      go_roundw
      case rel => exact ⟨k + 1, by omega, by go_num, ⟨_, hD.step hlt, hown1⟩, hnx.grown hgrow1 hnx.size (fun j hj => by cases hj; exact Nat.le_refl _)⟩
      case measure => simp [intOf]; omega
    · have : k = 64 := by omega
      subst this
      go_wp2
      go_ret
      exact ⟨rfl, ⟨D, hD, hown⟩, hnx⟩
end Go.Proofs.YtbojodgeknjpjaaDoor
