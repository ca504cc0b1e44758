/- Three arrays that are read in a region that draws its order: how they stand while calls make memory. -/
import Derived.Test.YteoknmdoghemmaaFrame
import Derived.Deep.RegionHeld3
import Derived.Laws.BitsAllLaws
namespace Mid
theorem bytesLess_eq : ∀ (x y : List UInt8), Go.Op.bytesLess x y = lessU x y
  | [], [] => rfl
  | _ :: _, [] => rfl
  | [], _ :: _ => rfl
  | a :: x, b :: y => by
    rw [Go.Op.bytesLess, bytesLess_eq x y, lessU]
    by_cases h : a = b
    · subst h; simp
    · by_cases h2 : a < b
      · simp [h2]
      · have h3 : b < a := UInt8.lt_of_le_of_ne (UInt8.not_lt.1 h2) (Ne.symm h)
        simp [h, h2, h3]
theorem less_print (l m : List Nat) (hl : l.length = 32) (hm : m.length = 32) (h1 : ∀ x ∈ l, x < 256) (h2 : ∀ x ∈ m, x < 256) : lessU (printL l) (printL m) = decide (cmpL l m = -1) := by
  unfold printL
  rw [lessU, if_neg (by simp), if_neg (by simp), less_hex l m (by rw [hl, hm]) h1 h2]
theorem cmpL_zero : ∀ l m : List Nat, cmpL l m = 0 → l = m
  | [], [], _ => rfl
  | [], _ :: _, h => by simp [cmpL] at h
  | _ :: _, [], h => by simp [cmpL] at h
  | a :: l, b :: m, h => by
    rw [cmpL] at h
    split at h
    · cases h
    · split at h
      · cases h
      · rw [cmpL_zero l m h, show a = b by omega]
end Mid
namespace Go.Proofs.Yteoknmdoghemmaa
open Go.RowKit

def bsL (l : List Int) : List Value := l.map fun x => Value.int .u8 x
theorem bsL_C (l : List Int) : bsC l = (bsL l).toArray := rfl
theorem bsL_len (l : List Int) : (bsL l).length = l.length := by simp [bsL]
theorem Blk.range {w : World} {g : Nat} {t : TypeId} {l : List Int} (h : Blk w g t (bsC l)) : w.rangeAt g 0 (bsL l) := by
  intro j v hv
  rw [Nat.zero_add, h.cell, bsL_C, List.getElem?_toArray]
  exact hv

def R3 (w W : World) (g h k : Nat) (t : TypeId) (A B C : List Int) : Prop := Blk W g t (bsC A) ∧ Blk W h t (bsC B) ∧ Blk W k t (bsC C) ∧ Below w.heap.size w W
theorem R3.step {w W W1 : World} {g h k : Nat} {t : TypeId} {A B C : List Int} (r : R3 w W g h k t A B C) (hb : Below W.heap.size W W1) : R3 w W1 g h k t A B C :=
  ⟨r.1.keep hb r.1.lt, r.2.1.keep hb r.2.1.lt, r.2.2.1.keep hb r.2.2.1.lt, r.2.2.2.trans (hb.mono r.2.2.2.size)⟩
theorem R3.draw {w W : World} {g h k : Nat} {t : TypeId} {A B C : List Int} (r : R3 w W g h k t A B C) : R3 w W.drew g h k t A B C :=
  ⟨r.1.draw, r.2.1.draw, r.2.2.1.draw, r.2.2.2.drew⟩
theorem R3.rng {w W : World} {g h k : Nat} {t : TypeId} {A B C : List Int} (r : R3 w W g h k t A B C) : W.rangeAt g 0 (bsL A) ∧ W.rangeAt h 0 (bsL B) ∧ W.rangeAt k 0 (bsL C) :=
  ⟨r.1.range, r.2.1.range, r.2.2.1.range⟩
end Go.Proofs.Yteoknmdoghemmaa
