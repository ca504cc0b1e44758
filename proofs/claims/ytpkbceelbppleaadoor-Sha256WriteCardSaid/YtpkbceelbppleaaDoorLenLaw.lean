/- The law of every length. -/
import Derived.Test.YtpkbceelbppleaaDoorHash6
import Derived.Test.YtpkbceelbppleaaDoorFrame
import Derived.Test.YtpkbceelbppleaaDoorPush
import Derived.Deep.CutRange
namespace Go.Proofs.YtpkbceelbppleaaDoor
open Go.RowKit

theorem OwnL.but {base : Nat} {w w1 : World} {v : Value} {l : List Nat} {g : Nat} (h : OwnL base w v l) (hb : But g w w1) (hg : g < base) : OwnL base w1 v l := by
  refine World.ownsRow.kept h (row := some g) hb ?_
  cases hk : v.ownBlock with
  | none => simp
  | some k =>
    have := ownBlock_ge h k hk
    simp
    omega
theorem below_but {B g : Nat} {w0 w w1 : World} (h : Below B w0 w) (hb : But g w w1) (hg : B ≤ g) (hB : B ≤ w.heap.size) : Below B w0 w1 :=
  h.grown hb hB (fun k hk => by cases hk; exact hg)
theorem OwnL.apart {base : Nat} {w : World} {v : Value} {l : List Nat} {g : Nat} {x : Option Addr} {n c : Nat} (h : OwnL base w v l) (hv : v = .slice x n c) (hg : g < base) : ∀ a, x = some a → a.block ≠ g := by
  intro a ha e
  subst hv
  subst ha
  have := ownBlock_ge h a.block rfl
  omega

theorem HashIs.grown {w w1 : World} {g : Nat} {l : List Nat} {row : Option Nat} (h : HashIs w g l) (hb : w.grownBy w1 row) (hg : some g ≠ row) : HashIs w1 g l := by
  obtain ⟨r, h1, h2, h3, h5, h4⟩ := h
  obtain ⟨a1, a2, a3, a4, a5⟩ := hb
  exact ⟨r, h1, h2, h3, h5, (a5 g h4.lt hg).trans h4⟩
/-- an own row of bytes and a Hash, behind what else is made -/
def Cx (w : World) (base : Nat) (W : World) (v : Value) (L M : List Nat) (g : Nat) : Prop := OwnL base W v L ∧ HashIs W g M ∧ Below w.heap.size w W ∧ base ≤ W.heap.size
theorem Cx.step {w : World} {base : Nat} {W W1 : World} {v : Value} {L M : List Nat} {g : Nat} (h : Cx w base W v L M g) (hb : Below W.heap.size W W1) : Cx w base W1 v L M g :=
  ⟨h.1.keep hb, h.2.1.keep hb h.2.1.lt, h.2.2.1.trans (hb.mono h.2.2.1.size), Nat.le_trans h.2.2.2 hb.size⟩
theorem Cx.more {w : World} {base : Nat} {W : World} {v : Value} {L M : List Nat} {g : Nat} (h : Cx w base W v L M g) (o : Obj) : Cx w base (W.alloc o) v L M g := h.step ((Below.refl _ W).alloc (Nat.le_refl _) o)
theorem Cx.wrote {w : World} {base : Nat} {W W1 : World} {v : Value} {L M M2 : List Nat} {g : Nat} (h : Cx w base W v L M g) (hh : HashIs W1 g M2) (hb : But g W W1) (hg : g < base) (hw : w.heap.size ≤ g) : Cx w base W1 v L M2 g := by
  have hs : W.heap.size ≤ W1.heap.size := by obtain ⟨_, _, _, a4, _⟩ := hb; exact a4
  exact ⟨h.1.but hb hg, hh, below_but h.2.2.1 hb hw h.2.2.1.size, Nat.le_trans h.2.2.2 hs⟩
theorem Cx.pushed {w : World} {base : Nat} {W W1 : World} {v v2 : Value} {L L2 M : List Nat} {g : Nat} (h : Cx w base W v L M g) (ho : OwnL base W1 v2 L2) (hb : W.grownBy W1 v.ownBlock) (hg : g < base) (hw : w.heap.size ≤ g) : Cx w base W1 v2 L2 M g := by
  have hs : W.heap.size ≤ W1.heap.size := by obtain ⟨_, _, _, a4, _⟩ := hb; exact a4
  have hne : some g ≠ v.ownBlock := fun e => by have := ownBlock_ge h.1 g e.symm; omega
  exact ⟨ho, h.2.1.grown hb hne, h.2.2.1.grown hb h.2.2.1.size (fun k hk => by have := ownBlock_ge h.1 k hk; omega), Nat.le_trans h.2.2.2 hs⟩

set_option maxRecDepth 100000 in
set_option maxHeartbeats 4000000 in
theorem len_law (cI : Int) (hc0 : 0 ≤ cI) (hc1 : cI ≤ 255) (w : World) (hT : Tab w) :
    Calls Tryd.prog 9 #[.int .u8 cI] w fun e w' => e = .returned (.bool true) ∧ Below w.heap.size w w' := by
  obtain ⟨c, rfl⟩ : ∃ c : Nat, cI = (c : Int) := ⟨cI.toNat, by omega⟩
  have hp := hT.1
  have HC := Lib.hid (show c < 256 by omega)
  have HK := Lib.hid (fun w hT => known_any w hT)
  clear hc0 hc1
  go_enter Tryd.func9, Tryd.ntmps9
  go_wp2_with fail
  refine (new_any _).mono ?_
  rintro e w1 ⟨g, rfl, HH1, HG, hb1⟩
  have B1 := Lib.hid hb1
  clear hb1
  go_wp2_with fail
  refine (HK.out _ (hT.below B1.out hp)).mono ?_
  rintro e w2 ⟨rfl, hb2⟩
  have B2 := Lib.hid (B1.out.trans (hb2.mono B1.out.size))
  have HH2 := Lib.hid (HH1.out.keep hb2 HH1.out.lt)
  clear hb2
  go_wp2_with fail
  have HG2 := Lib.hid (show g < w2.heap.size from HH2.out.lt)
  go_loopw [4, 5] (fun vb ii wr => ∃ (i : Nat) (v : Value), v = vb ∧ ii = .int .i64 i ∧ i ≤ 201 ∧ Hid (OwnL w2.heap.size wr v (List.replicate i c)) ∧ Hid (HashIs wr g (List.replicate i c)) ∧ Hid (Below w.heap.size w wr) ∧ Hid (w2.heap.size ≤ wr.heap.size)) (fun _ ii _ => 201 - (intOf ii).toNat)
  case atStart => exact ⟨0, _, rfl, rfl, by omega, Lib.hid (OwnL.nothing _ _), HH2, B2, Lib.hid (Nat.le_refl _)⟩
  case round =>
    clear HH1 B1 HH2 B2
    obtain ⟨i, v, rfl, rfl, hi, HO, HH, HB, HW⟩ := hrel
    by_cases hlt : i ≤ 200
    · have hltI : (i : Int) ≤ 200 := by omega
      obtain ⟨L, hL⟩ : ∃ L, L = List.replicate i c := ⟨_, rfl⟩
      have HLB := Lib.hid (show ∀ x ∈ L, x < 256 by intro x hx; rw [hL] at hx; rw [(List.mem_replicate.1 hx).2]; exact HC.out)
      have HLL := Lib.hid (show L.length = i by rw [hL]; simp)
      have HL1 := Lib.hid (show L ++ [c] = List.replicate (i + 1) c by rw [hL, List.replicate_succ'])
      rw [← hL] at HO HH
      obtain ⟨D, hD⟩ : ∃ D, D = S5.sha S5.K L := ⟨_, rfl⟩
      have HS := Lib.hid (fun v w hT hv => sum_any v L (by rw [HLL.out]; omega) w hT hv)
      have HR := Lib.hid (fun v w hv => refSum_any v L (by rw [HLL.out]; omega) w hv)
      have HHS := Lib.hid (fun w hT h => hsum_any w hT g L h)
      rw [← hD] at HS HR HHS
      have HDL := Lib.hid (show D.length = 32 by rw [hD]; exact sha_len L)
      have heq := fun w => eq_same (t := 24) Tryd.underlying24 D HDL.out w
      clear hD hL
      have C0 := Lib.hid (show Cx w w2.heap.size wr v L L g from ⟨HO.out, HH.out, HB.out, HW.out⟩)
      clear HO HH HB HW
      go_wp2_with fail
      refine (HS.out v _ (hT.below C0.out.2.2.1 hp) (C0.out.1.bytes HLB.out)).mono ?_
      rintro e a1 ⟨rfl, hb⟩
      have C1 := Lib.hid (C0.out.step hb)
      clear hb C0
      go_wp2_with fail
      refine (HR.out v _ (C1.out.1.bytes HLB.out)).mono ?_
      rintro e a2 ⟨rfl, hb⟩
      have C2 := Lib.hid (C1.out.step hb)
      clear hb C1
      go_wp2_with fail
      refine (HHS.out _ (hT.below C2.out.2.2.1 hp) C2.out.2.1).mono ?_
      rintro e a3 ⟨rfl, hb⟩
      have C3 := Lib.hid (C2.out.step hb)
      clear hb C2
      go_wp2_with fail
      refine (HR.out v _ (C3.out.1.bytes HLB.out)).mono ?_
      rintro e a4 ⟨rfl, hb⟩
      have C4 := Lib.hid (C3.out.step hb)
      clear hb C3
      go_wp2_with fail
      have hby : Bytes (a4.alloc (.cells #[.int .u8 (c : Int)] 5)) (.slice (some ⟨a4.heap.size, 0, none⟩) 1 1) [c] := bytes_new a4 [c] (0, 0) (by intro x hx; simp at hx; rw [hx]; exact HC.out) (by unfold maxLen; simp)
      refine (write_any _ ((hT.below C4.out.2.2.1 hp).more _) g (by have := HG.out; omega) L (C4.out.2.1.more _) (some ⟨a4.heap.size, 0, none⟩) 1 1 [c] rfl hby (fun _ a ha => by cases ha; have := C4.out.2.1.lt; show a4.heap.size ≠ g; omega) (by rw [HLL.out]; omega)).mono ?_
      rintro e a5 ⟨rfl, HH5, HU5⟩
      have C5 := Lib.hid ((C4.out.more (.cells #[.int .u8 (c : Int)] 5)).wrote HH5.out HU5.out HG2.out HG.out)
      clear hby HH5 HU5 C4
      have hsz := Lib.hid (show w2.heap.size ≤ (a5.alloc (.cells #[.int .u8 (c : Int)] 5)).heap.size by have := C5.out.2.2.2; simp; omega)
      go_wp2_with (at_builtin; refine wpList_push1 _ w2.heap.size v L (C5.out.1.more _) a5.heap.size 1 c (cell_new1 _ _ _) (by rw [HLL.out]; omega) hsz.out rfl _ _ rfl rfl rfl ?_; intro v2 a6 ho6 hg6; have C6 := Lib.hid ((C5.out.more _).pushed ho6.out hg6.out HG2.out HG.out); clear ho6 hg6)
      go_roundw
      case rel => exact ⟨i + 1, _, rfl, by go_num, by omega, Lib.hid (by rw [← HL1.out]; exact C6.out.1), Lib.hid (by rw [← HL1.out]; exact C6.out.2.1), Lib.hid C6.out.2.2.1, Lib.hid C6.out.2.2.2⟩
      case measure => simp [intOf]; omega
    · obtain rfl : i = 201 := by omega
      have hltI : ¬ ((201 : Nat) : Int) ≤ 200 := by omega
      go_wp2_with fail
      go_ret
      exact ⟨rfl, HB.out⟩
end Go.Proofs.YtpkbceelbppleaaDoor
