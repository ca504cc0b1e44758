/- The law of Parse, where Parse refuses. -/
import Derived.Test.YtpkbceelbppleaaDoorParse
import Derived.Test.YtpkbceelbppleaaDoorRefUnhex
import Derived.Test.YtpkbceelbppleaaDoorFrame
namespace Go.Proofs.YtpkbceelbppleaaDoor
open Go.RowKit

theorem refUnhex_some (s : ByteArray) (w : World) (hs : s.size ≤ 1000) : Calls Tryd.prog 25 #[.string s] w fun e w' => ∃ (v : Value) (k : Int), e = .returned (.tuple #[v, .int .i64 k]) ∧ Below w.heap.size w w' := by
  refine (refUnhex_any s w hs).mono ?_
  intro e w' h
  cases hq : Asc.unhexL s.data.toList with
  | none => rw [hq] at h; exact ⟨_, _, h.1, h.2⟩
  | some l => rw [hq] at h; obtain ⟨v, h1, _, h2⟩ := h; exact ⟨v, 0, h1, h2⟩

/-- a guarded load of a whole digest -/
theorem ld_dg_g {ops : Array Oper} {rest : List Oper} {o : Oper} {a : Act} {w : World} {Q : Exit → Act → World → Prop} (g : Nat) (l : List Int) (hl : l.length = 32) (h : Blk w g 25 (bsC l)) (hw : Region.wanted o (yielded ops a.tmps) = true) (x : Operand) (ho : o.op = .load 25 x)
    (hx : a.eval x = .pointer (some ⟨g, 0, none⟩)) (hk : wpList Tryd.prog ops Q rest (a.put o.dst (.agg (bsC l))) w) : wpList Tryd.prog ops Q (o :: rest) a w :=
  wpList_step fun K hK => by
    simp only [hw, if_true]
    exact wp_load_row _ x ho g hx _ _ _ _ h Tryd.underlying25 rfl (infoDg l hl) (hK _ _ hk)

set_option maxRecDepth 100000 in
set_option maxHeartbeats 2000000 in
theorem parse_law_long (a s : ByteArray) (ha : a.size ≤ maxLen) (hs : s = a.extract 0 (min a.size 200)) (h : 64 < s.size) (w : World) (hT : Tab w) :
    Calls Tryd.prog 8 #[.string a] w fun e w' => e = .returned (.bool true) ∧ Below w.heap.size w w' := by
  have hp := hT.1
  unfold maxLen at ha
  obtain ⟨m, hm⟩ : ∃ m, m = min a.size 200 := ⟨_, rfl⟩
  have hmin : min (a.size : Int) 200 = (m : Int) := by omega
  have haI : (a.size : Int) ≤ 9223372036854775807 := by omega
  have hmI : (m : Int) ≤ (a.size : Int) := by omega
  rw [← hm] at hs
  have hss : s.size ≤ 200 := by rw [hs]; simp; omega
  have hs2 : a.extract 0 m = s := hs.symm
  have HP := Lib.hid (fun w => parse_long s h (by omega) w)
  have HU := Lib.hid (fun w => refUnhex_some s w (by omega))
  have HK := Lib.hid (fun w hT => known_any w hT)
  have hI : (64 : Int) < (s.size : Int) := by omega
  have HB0 := Lib.hid (Below.refl w.heap.size w)
  have heqz := eq_zero
  clear hm hs ha hss h
  go_enter Tryd.func8, Tryd.ntmps8
  go_wp2_with fail
  refine (HP.out _).mono ?_
  rintro e w1 ⟨rfl, hb1⟩
  have HB1 := Lib.hid hb1
  clear hb1
  go_wp2_with (first
    | (refine sto_dg _ zD rfl _ (Blk.fresh w1 _ _) rfl (by rfl) _ _ (by rfl) (by rfl) (by rfl) ?_; intro w2 hw2; have K2 := Lib.hid (show Blk w2 w1.heap.size 25 (bsC zD) by rw [hw2.out]; exact (Blk.fresh w1 _ _).row _); have HB2 := Lib.hid (show Below w.heap.size w w2 by rw [hw2.out]; exact below_row (HB1.out.alloc HB1.out.size _) _ HB1.out.size _); clear hw2)
    | (go_at_call 25; refine (HU.out _).mono ?_; rintro e w3 ⟨v, k, rfl, hb3⟩; have HB3 := Lib.hid (HB2.out.trans (hb3.mono HB2.out.size)); have K3 := Lib.hid (K2.out.keep hb3 K2.out.lt); clear hb3)
    | (go_at_call 13; refine (HK.out _ (hT.below HB3.out hp)).mono ?_; rintro e w4 ⟨rfl, hb4⟩; have HB4 := Lib.hid (HB3.out.trans (hb4.mono HB3.out.size)); have K4 := Lib.hid (K3.out.keep hb4 K3.out.lt); clear hb4)
    | (refine ld_dg_g _ zD rfl K4.out (by rfl) _ (by rfl) (by rfl) ?_))
  go_ret
  exact ⟨rfl, HB4.out⟩
end Go.Proofs.YtpkbceelbppleaaDoor
