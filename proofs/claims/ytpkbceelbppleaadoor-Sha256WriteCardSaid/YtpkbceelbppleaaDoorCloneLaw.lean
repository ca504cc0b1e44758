/- The law of copies of a Hash. -/
import Derived.Test.YtpkbceelbppleaaDoorLenLaw
namespace Go.Proofs.YtpkbceelbppleaaDoor
open Go.RowKit

theorem wp_ungd {ops : Array Oper} {rest : List Oper} {o : Oper} {a : Act} {w : World} {Q : Exit → Act → World → Prop} (hw : Region.wanted o (yielded ops a.tmps) = true) (h : wpList Tryd.prog ops Q ({ o with guard := none } :: rest) a w) : wpList Tryd.prog ops Q (o :: rest) a w := by
  unfold wpList at h ⊢
  rw [if_pos hw]
  have hw2 : Region.wanted { o with guard := none } (yielded ops a.tmps) = true := by simp [Region.wanted]
  rw [if_pos hw2] at h
  exact h

/-- two Hashes, behind what else is made -/
def Hx (w W : World) (g k : Nat) (L M : List Nat) : Prop := HashIs W g L ∧ HashIs W k M ∧ Below w.heap.size w W
theorem Hx.step {w W W1 : World} {g k : Nat} {L M : List Nat} (h : Hx w W g k L M) (hb : Below W.heap.size W W1) : Hx w W1 g k L M :=
  ⟨h.1.keep hb h.1.lt, h.2.1.keep hb h.2.1.lt, h.2.2.trans (hb.mono h.2.2.size)⟩
theorem Hx.app {w W W1 : World} {g k base : Nat} {L M : List Nat} {v : Value} {l : List Nat} (h : Hx w W g k L M) (ho : OwnL base W v l) (hb : W.grownBy W1 v.ownBlock) (h1 : g < base) (h2 : k < base) (h3 : w.heap.size ≤ base) : Hx w W1 g k L M :=
  ⟨h.1.grown hb (fun e => by have := ownBlock_ge ho g e.symm; omega), h.2.1.grown hb (fun e => by have := ownBlock_ge ho k e.symm; omega), h.2.2.grown hb h.2.2.size (fun j hj => by have := ownBlock_ge ho j hj; omega)⟩

set_option maxRecDepth 100000 in
set_option maxHeartbeats 4000000 in
theorem clone_law (x1 : Option Addr) (n1 c1 : Nat) (l1 : List Nat) (hl1 : l1.length = n1) (x2 : Option Addr) (n2 c2 : Nat) (l2 : List Nat) (hl2 : l2.length = n2) (x3 : Option Addr) (n3 c3 : Nat) (l3 : List Nat) (hl3 : l3.length = n3)
    (w : World) (hv1 : Bytes w (.slice x1 n1 c1) l1) (hv2 : Bytes w (.slice x2 n2 c2) l2) (hv3 : Bytes w (.slice x3 n3 c3) l3) (hT : Tab w) :
    Calls Tryd.prog 6 #[.slice x1 n1 c1, .slice x2 n2 c2, .slice x3 n3 c3] w fun e w' => e = .returned (.bool true) ∧ Below w.heap.size w w' := by
  have hp := hT.1
  have hm1 : n1 ≤ maxLen := by obtain ⟨_, y, cc, e, h1, h2, _⟩ := hv1; cases e; omega
  have hm2 : n2 ≤ maxLen := by obtain ⟨_, y, cc, e, h1, h2, _⟩ := hv2; cases e; omega
  have hm3 : n3 ≤ maxLen := by obtain ⟨_, y, cc, e, h1, h2, _⟩ := hv3; cases e; omega
  obtain ⟨q1, hq1⟩ : ∃ q, q = min n1 500 := ⟨_, rfl⟩
  obtain ⟨q2, hq2⟩ : ∃ q, q = min n2 500 := ⟨_, rfl⟩
  obtain ⟨q3, hq3⟩ : ∃ q, q = min n3 500 := ⟨_, rfl⟩
  have HC1 := Lib.hid (fun w hv => cut_any x1 n1 c1 l1 hl1 w hv q1 hq1 hm1)
  have HC2 := Lib.hid (fun w hv => cut_any x2 n2 c2 l2 hl2 w hv q2 hq2 hm2)
  have HC3 := Lib.hid (fun w hv => cut_any x3 n3 c3 l3 hl3 w hv q3 hq3 hm3)
  obtain ⟨a, ha⟩ : ∃ a, a = l1.take q1 := ⟨_, rfl⟩
  obtain ⟨b, hb⟩ : ∃ b, b = l2.take q2 := ⟨_, rfl⟩
  obtain ⟨c, hc⟩ : ∃ c, c = l3.take q3 := ⟨_, rfl⟩
  have A := Lib.hid (show Bytes w (.slice x1 q1 c1) a by rw [ha]; exact hv1.take q1 (by omega))
  have B := Lib.hid (show Bytes w (.slice x2 q2 c2) b by rw [hb]; exact hv2.take q2 (by omega))
  have C := Lib.hid (show Bytes w (.slice x3 q3 c3) c by rw [hc]; exact hv3.take q3 (by omega))
  have AL := Lib.hid (show a.length = q1 by rw [ha]; simp; omega)
  have BL := Lib.hid (show b.length = q2 by rw [hb]; simp; omega)
  have CL := Lib.hid (show c.length = q3 by rw [hc]; simp; omega)
  have HV1 := Lib.hid hv1; have HV2 := Lib.hid hv2; have HV3 := Lib.hid hv3
  have hq : q1 ≤ 500 ∧ q2 ≤ 500 ∧ q3 ≤ 500 := by omega
  have HQ := Lib.hid hq
  have HK := Lib.hid (fun w hT => known_any w hT)
  have HBLK := Lib.hid (show ∀ (x : Option Addr) n c (l : List Nat), Bytes w (.slice x n c) l → 0 < l.length → ∀ ad, x = some ad → ad.block < w.heap.size from fun x n c l h h0 ad hx => by
    obtain ⟨_, y, cc, e, _, _, _, hcell⟩ := h
    obtain ⟨b', o', e', h'⟩ := hcell 0 h0
    have e1 := (Value.slice.inj e).1
    rw [hx, e'] at e1
    cases e1
    exact World.block_lt_of_cell? w _ h')
  obtain ⟨D1, hD1⟩ : ∃ D, D = S5.sha S5.K (a ++ b) := ⟨_, rfl⟩
  obtain ⟨D2, hD2⟩ : ∃ D, D = S5.sha S5.K (a ++ c) := ⟨_, rfl⟩
  have HS1 := Lib.hid (fun w hT g h => hsum_any w hT g (a ++ b) h)
  have HS2 := Lib.hid (fun w hT g h => hsum_any w hT g (a ++ c) h)
  have HR1 := Lib.hid (fun v w hv => refSum_any v (a ++ b) (by rw [List.length_append, AL.out, BL.out]; omega) w hv)
  have HR2 := Lib.hid (fun v w hv => refSum_any v (a ++ c) (by rw [List.length_append, AL.out, CL.out]; omega) w hv)
  rw [← hD1] at HS1 HR1
  rw [← hD2] at HS2 HR2
  have HDL1 := Lib.hid (show D1.length = 32 by rw [hD1]; exact sha_len _)
  have HDL2 := Lib.hid (show D2.length = 32 by rw [hD2]; exact sha_len _)
  have heq1 := fun w => eq_same (t := 24) Tryd.underlying24 D1 HDL1.out w
  have heq2 := fun w => eq_same (t := 24) Tryd.underlying24 D2 HDL2.out w
  obtain ⟨q13, hq13⟩ : ∃ q, q = q1 + q3 := ⟨_, rfl⟩
  have hqI : (q1 : Int) + (q3 : Int) = (q13 : Int) := by omega
  have hqB : (q13 : Int) ≤ 1000 := by omega
  have HLEN := Lib.hid (fun w g h => len_any w g (a ++ c) h)
  rw [show ((a ++ c).length : Int) = (q13 : Int) by rw [List.length_append, AL.out, CL.out, hq13]] at HLEN
  clear hD1 hD2 hq13 hq hq1 hq2 hq3 hm1 hm2 hm3 ha hb hc hv1 hv2 hv3 hl1 hl2 hl3
  go_enter Tryd.func6, Tryd.ntmps6
  go_wp2_with fail
  refine (HC1.out _ HV1.out).mono ?_
  rintro e w0 ⟨rfl, rfl⟩
  go_wp2_with fail
  refine (HC2.out _ HV2.out).mono ?_
  rintro e w0 ⟨rfl, rfl⟩
  go_wp2_with fail
  refine (HC3.out _ HV3.out).mono ?_
  rintro e w0 ⟨rfl, rfl⟩
  go_wp2_with fail
  refine (new_any _).mono ?_
  rintro e w1 ⟨g, rfl, HH1, HG, hb1⟩
  have B1 := Lib.hid hb1
  clear hb1
  go_wp2_with fail
  refine (write_any _ (hT.below B1.out hp) g (by have := HG.out; omega) [] HH1.out x1 q1 c1 a AL.out (A.out.below B1.out) (fun h0 ad had e => by have := HBLK.out _ _ _ _ A.out h0 ad had; have := HG.out; omega) (by have := HQ.out; simp; omega)).mono ?_
  rintro e w2 ⟨rfl, HH2, HU2⟩
  have B2 := Lib.hid (below_but B1.out HU2.out HG.out B1.out.size)
  have HH2 := Lib.hid (show HashIs w2 g a from HH2.out)
  clear HU2 HH1
  go_wp2_with fail
  refine (clone_any _ g a HH2.out).mono ?_
  rintro e w3 ⟨k, rfl, HH3, HG3, hb3⟩
  have B3 := Lib.hid (B2.out.trans (hb3.mono B2.out.size))
  have HGK := Lib.hid (show g < k by have := HG3.out; have := HH2.out.lt; omega)
  have HH2 := Lib.hid (HH2.out.keep hb3 HH2.out.lt)
  clear hb3 HG3
  go_wp2_with fail
  refine (write_any _ (hT.below B3.out hp) g (by have := HG.out; omega) a HH2.out x2 q2 c2 b BL.out (B.out.below B3.out) (fun h0 ad had e => by have := HBLK.out _ _ _ _ B.out h0 ad had; have := HG.out; omega) (by have := HQ.out; rw [AL.out]; omega)).mono ?_
  rintro e w4 ⟨rfl, HH4, HU4⟩
  have B4 := Lib.hid (below_but B3.out HU4.out HG.out B3.out.size)
  have HK4 := Lib.hid (HH3.out.grown HU4.out (fun e => by cases e; have := HGK.out; omega))
  clear HU4 HH3 HH2
  go_wp2_with fail
  refine (write_any _ (hT.below B4.out hp) k (by have := HG.out; have := HGK.out; omega) a HK4.out x3 q3 c3 c CL.out (C.out.below B4.out) (fun h0 ad had e => by have := HBLK.out _ _ _ _ C.out h0 ad had; have := HG.out; have := HGK.out; omega) (by have := HQ.out; rw [AL.out]; omega)).mono ?_
  rintro e w5 ⟨rfl, HK5, HU5⟩
  have X5 := Lib.hid (show Hx w w5 g k (a ++ b) (a ++ c) from ⟨HH4.out.grown HU5.out (fun e => by cases e; have := HGK.out; omega), HK5.out, below_but B4.out HU5.out (by have := HG.out; have := HGK.out; omega) B4.out.size⟩)
  clear HU5 HK5 HH4 HK4 B4 B3 B2 B1
  go_wp2_with fail
  refine (HK.out _ (hT.below X5.out.2.2 hp)).mono ?_
  rintro e w6 ⟨rfl, hb6⟩
  have X6 := Lib.hid (X5.out.step hb6)
  clear hb6 X5
  go_wp2_with fail
  refine (HS1.out _ (hT.below X6.out.2.2 hp) g X6.out.1).mono ?_
  rintro e w7 ⟨rfl, hb7⟩
  have X7 := Lib.hid (X6.out.step hb7)
  clear hb7 X6
  have E7 := Lib.hid (OwnL.empty w7)
  have X7a := Lib.hid (X7.out.step ((Below.refl _ w7).alloc (Nat.le_refl _) (.cells #[] 5)))
  have S7 := Lib.hid (show w7.heap.size ≤ (w7.alloc (.cells #[] 5)).heap.size by simp)
  go_wp2_with (at_builtin; refine wp_ungd (by rfl) ?_; first
    | (refine wpList_append_bytes _ rfl _ _ rfl w7.heap.size _ 0 [] rfl E7.out _ a rfl (A.out.below X7a.out.2.2) (by rw [AL.out]; have := HQ.out; omega) S7.out ?_; intro v1 w8 ho8 hg8 _; have O8 := Lib.hid (show OwnL w7.heap.size w8 v1 a by have := ho8.out; rw [Nat.zero_add, List.nil_append] at this; exact this); have X8 := Lib.hid (X7a.out.app E7.out hg8.out X7.out.1.lt X7.out.2.1.lt X7.out.2.2.size); have S8 := Lib.hid (Nat.le_trans S7.out hg8.out.size); clear ho8 hg8)
    | (refine wpList_append_bytes _ rfl _ _ rfl w7.heap.size v1 a.length (byteVals a) rfl O8.out _ b rfl (B.out.below X8.out.2.2) (by rw [AL.out, BL.out]; have := HQ.out; omega) S8.out ?_; intro v2 w9 ho9 hg9 _; have O9 := Lib.hid (show OwnL w7.heap.size w9 v2 (a ++ b) by have := ho9.out; unfold OwnL; rw [List.length_append, show byteVals (a ++ b) = byteVals a ++ byteVals b by simp [byteVals]]; exact this); have X9 := Lib.hid (X8.out.app O8.out hg9.out X7.out.1.lt X7.out.2.1.lt X7.out.2.2.size); clear ho9 hg9))
  refine (HR1.out v2 _ (O9.out.bytes (fun x hx => by rcases List.mem_append.1 hx with hx | hx; exact A.out.1 x hx; exact B.out.1 x hx))).mono ?_
  rintro e w10 ⟨rfl, hb10⟩
  have X10 := Lib.hid (X9.out.step hb10)
  clear hb10 X9 O9 O8 X8 S8 E7 X7a S7 X7
  go_wp2_with fail
  refine (HS2.out _ (hT.below X10.out.2.2 hp) k X10.out.2.1).mono ?_
  rintro e w11 ⟨rfl, hb11⟩
  have X11 := Lib.hid (X10.out.step hb11)
  clear hb11 X10
  have E7 := Lib.hid (OwnL.empty w11)
  have X7a := Lib.hid (X11.out.step ((Below.refl _ w11).alloc (Nat.le_refl _) (.cells #[] 5)))
  have S7 := Lib.hid (show w11.heap.size ≤ (w11.alloc (.cells #[] 5)).heap.size by simp)
  go_wp2_with (at_builtin; refine wp_ungd (by rfl) ?_; first
    | (refine wpList_append_bytes _ rfl _ _ rfl w11.heap.size _ 0 [] rfl E7.out _ a rfl (A.out.below X7a.out.2.2) (by rw [AL.out]; have := HQ.out; omega) S7.out ?_; intro v3 w12 ho8 hg8 _; have O8 := Lib.hid (show OwnL w11.heap.size w12 v3 a by have := ho8.out; rw [Nat.zero_add, List.nil_append] at this; exact this); have X8 := Lib.hid (X7a.out.app E7.out hg8.out X11.out.1.lt X11.out.2.1.lt X11.out.2.2.size); have S8 := Lib.hid (Nat.le_trans S7.out hg8.out.size); clear ho8 hg8)
    | (refine wpList_append_bytes _ rfl _ _ rfl w11.heap.size v3 a.length (byteVals a) rfl O8.out _ c rfl (C.out.below X8.out.2.2) (by rw [AL.out, CL.out]; have := HQ.out; omega) S8.out ?_; intro v4 w13 ho9 hg9 _; have O9 := Lib.hid (show OwnL w11.heap.size w13 v4 (a ++ c) by have := ho9.out; unfold OwnL; rw [List.length_append, show byteVals (a ++ c) = byteVals a ++ byteVals c by simp [byteVals]]; exact this); have X9 := Lib.hid (X8.out.app O8.out hg9.out X11.out.1.lt X11.out.2.1.lt X11.out.2.2.size); clear ho9 hg9))
  refine (HR2.out v4 _ (O9.out.bytes (fun x hx => by rcases List.mem_append.1 hx with hx | hx; exact A.out.1 x hx; exact C.out.1 x hx))).mono ?_
  rintro e w14 ⟨rfl, hb14⟩
  have X14 := Lib.hid (X9.out.step hb14)
  clear hb14 X9 O9 O8 X8 S8 E7 X7a S7 X11
  go_wp2_with fail
  refine (HLEN.out _ k X14.out.2.1).mono ?_
  rintro e w15 ⟨rfl, rfl⟩
  go_wp2_with fail
  go_ret
  exact ⟨rfl, X14.out.2.2⟩
end Go.Proofs.YtpkbceelbppleaaDoor
