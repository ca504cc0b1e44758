/- MsgidAlgebra: whatever the three lists, the laws of sets hold of Minus, Union and Both. Conditions: none beyond the row's own. -/
import Derived.Test.YtcpiiafnifkahaaOps
namespace Go.Proofs.Ytcpiiafnifkahaa.msgidAlgebraLaw
open Go.ChangeShapes Go.WideShapes Go.ChangeAt Go.RowKit
open Go.ChangeMaps (open_string shut_string)

set_option maxRecDepth 100000 in
theorem cut {w : World} {a : Option Addr} {len cap : Nat} {ls : List Mid.Id} (hv : Ids w (.slice a len cap) ls) (hlen : ls.length = len) (m : Nat) :
    ∃ (n : Nat) (ms : List Mid.Id), Ids w (.slice a n cap) ms ∧ ms.length = n ∧ min (len : Int) m = (n : Int) ∧ (n : Int) ≤ (len : Int) ∧ (n : Int) ≤ m ∧ (len : Int) ≤ (cap : Int) ∧ (cap : Int) ≤ 9223372036854775807 := by
  have hlc : len ≤ cap := by
    obtain ⟨_, _, h, h1, _⟩ := hv; cases h; omega
  have hcm : cap ≤ maxLen := by
    obtain ⟨_, _, h, _, h2, _⟩ := hv; cases h; omega
  unfold maxLen at hcm
  refine ⟨min len m, ls.take (min len m), hv.take _ (by omega), by rw [List.length_take]; omega, by omega, by omega, by omega, by omega, by omega⟩

set_option maxRecDepth 100000 in
set_option maxHeartbeats 4000000 in
theorem walk (a1 : Option Addr) (len1 cap1 : Nat) (l1 : List Mid.Id) (a2 : Option Addr) (len2 cap2 : Nat) (l2 : List Mid.Id) (a3 : Option Addr) (len3 cap3 : Nat) (l3 : List Mid.Id) (w : World)
    (v1 : Ids w (.slice a1 len1 cap1) l1) (e1 : l1.length = len1) (v2 : Ids w (.slice a2 len2 cap2) l2) (e2 : l2.length = len2) (v3 : Ids w (.slice a3 len3 cap3) l3) (e3 : l3.length = len3) :
    Calls Try.prog 9 #[.slice a1 len1 cap1, .slice a2 len2 cap2, .slice a3 len3 cap3] w fun e w' => e = .returned (.bool true) ∧ Below w.heap.size w w' := by
  obtain ⟨n1, A, hA, hAl, m1, i1, j1, k1, t1⟩ := cut v1 e1 20
  obtain ⟨n2, B, hB, hBl, m2, i2, j2, k2, t2⟩ := cut v2 e2 20
  obtain ⟨n3, C, hC, hCl, m3, i3, j3, k3, t3⟩ := cut v3 e3 20
  have c20 : ((20 : Nat) : Int) = 20 := rfl
  rw [c20] at m1 m2 m3 j1 j2 j3
  have HA := Lib.hid hA; have HB := Lib.hid hB; have HC := Lib.hid hC
  have HL := Lib.hid (And.intro hAl (And.intro hBl hCl))
  have HJ := Lib.hid (show n1 ≤ 20 ∧ n2 ≤ 20 ∧ n3 ≤ 20 by omega)
  have q1 : n1 ≤ cap1 := by omega
  have q2 : n2 ≤ cap2 := by omega
  have q3 : n3 ≤ cap3 := by omega
  have HK := Lib.hid (fun w => known_any w)
  have HU := Lib.hid (fun v1 v2 a b w ha hb h1 h2 => opUnion_any v1 v2 a b w ha hb h1 h2)
  have HM := Lib.hid (fun v1 v2 a b w ha hb h1 h2 => opMinus_any v1 v2 a b w ha hb h1 h2)
  have HBO := Lib.hid (fun v1 v2 a b w ha hb h1 h2 => opBoth_any v1 v2 a b w ha hb h1 h2)
  have HS := Lib.hid (fun v a w ha h => set2_any v a w ha h)
  have HTO := Lib.hid (fun v a w ha h => to_any v a w ha h)
  have HE := Lib.hid (fun v1 v2 a w ha h1 h2 => equal_any v1 v2 a w ha h1 h2)
  clear hA hB hC hAl hBl hCl v1 v2 v3 e1 e2 e3 c20
  go_enter Try.func9, Try.ntmps9
  go_wp2_with fail
  refine wp_region_held_drew (S := (fun _ => True)) (by kernel_rfl) ?_ (fun hHeld => ?_)
  · exact trivial
  refine wpAnyH_take (i := 0) (v := ?_) rfl (by kernel_rfl) (by kernel_rfl) (by kernel_rfl) (fun _ _ _ h => h) (Or.inl ⟨by rfl, ?_⟩) (by assumption) ?_
  rotate_left
  · (intro w9 _; go_simp; try with_reducible rfl)
  simp only [Act.put, List.getElem_toArray, List.getElem_cons_zero, List.setIfInBounds_toArray, List.set_cons_succ, List.set_cons_zero]
  refine wpAnyH_take (i := 1) (v := ?_) rfl (by kernel_rfl) (by kernel_rfl) (by kernel_rfl) (fun _ _ _ h => h) (Or.inl ⟨by rfl, ?_⟩) (by assumption) ?_
  rotate_left
  · (intro w9 _; go_simp; try with_reducible rfl)
  simp only [Act.put, List.getElem_toArray, List.getElem_cons_succ, List.getElem_cons_zero, List.setIfInBounds_toArray, List.set_cons_succ, List.set_cons_zero]
  refine wpAnyH_take (i := 2) (v := ?_) rfl (by kernel_rfl) (by kernel_rfl) (by kernel_rfl) (fun _ _ _ h => h) (Or.inl ⟨by rfl, ?_⟩) (by assumption) ?_
  rotate_left
  · (intro w9 _; go_simp; try with_reducible rfl)
  simp only [Act.put, List.getElem_toArray, List.getElem_cons_succ, List.getElem_cons_zero, List.setIfInBounds_toArray, List.set_cons_succ, List.set_cons_zero]
  refine wpAnyH_take (i := 3) (v := ?_) rfl (by kernel_rfl) (by kernel_rfl) (by kernel_rfl) (fun _ _ _ h => h) (Or.inl ⟨by rfl, ?_⟩) (by assumption) ?_
  rotate_left
  · (intro w9 _; go_simp; try with_reducible rfl)
  simp only [Act.put, List.getElem_toArray, List.getElem_cons_succ, List.getElem_cons_zero, List.setIfInBounds_toArray, List.set_cons_succ, List.set_cons_zero]
  refine wpAnyH_take (i := 4) (v := ?_) rfl (by kernel_rfl) (by kernel_rfl) (by kernel_rfl) (fun _ _ _ h => h) (Or.inl ⟨by rfl, ?_⟩) (by assumption) ?_
  rotate_left
  · (intro w9 _; go_simp; try with_reducible rfl)
  simp only [Act.put, List.getElem_toArray, List.getElem_cons_succ, List.getElem_cons_zero, List.setIfInBounds_toArray, List.set_cons_succ, List.set_cons_zero]
  refine wpAnyH_take (i := 5) (v := ?_) rfl (by kernel_rfl) (by kernel_rfl) (by kernel_rfl) (fun _ _ _ h => h) (Or.inl ⟨by rfl, ?_⟩) (by assumption) ?_
  rotate_left
  · (intro w9 _; go_simp; try with_reducible rfl)
  simp only [Act.put, List.getElem_toArray, List.getElem_cons_succ, List.getElem_cons_zero, List.setIfInBounds_toArray, List.set_cons_succ, List.set_cons_zero]
  refine wpAnyH_take (i := 6) (v := ?_) rfl (by kernel_rfl) (by kernel_rfl) (by kernel_rfl) (fun _ _ _ h => h) (Or.inl ⟨by rfl, ?_⟩) (by assumption) ?_
  rotate_left
  · (intro w9 _; go_simp; try with_reducible rfl)
  simp only [Act.put, List.getElem_toArray, List.getElem_cons_succ, List.getElem_cons_zero, List.setIfInBounds_toArray, List.set_cons_succ, List.set_cons_zero]
  refine wpAnyH_take (i := 7) (v := ?_) rfl (by kernel_rfl) (by kernel_rfl) (by kernel_rfl) (fun _ _ _ h => h) (Or.inl ⟨by rfl, ?_⟩) (by assumption) ?_
  rotate_left
  · (intro w9 _; go_simp; try with_reducible rfl)
  simp only [Act.put, List.getElem_toArray, List.getElem_cons_succ, List.getElem_cons_zero, List.setIfInBounds_toArray, List.set_cons_succ, List.set_cons_zero]
  refine wpAnyH_take (i := 8) (v := ?_) rfl (by kernel_rfl) (by kernel_rfl) (by kernel_rfl) (fun _ _ _ h => h) (Or.inl ⟨by rfl, ?_⟩) (by assumption) ?_
  rotate_left
  · (intro w9 _; go_simp; try with_reducible rfl)
  simp only [Act.put, List.getElem_toArray, List.getElem_cons_succ, List.getElem_cons_zero, List.setIfInBounds_toArray, List.set_cons_succ, List.set_cons_zero]
  refine wpAnyH_take (i := 9) (v := ?_) rfl (by kernel_rfl) (by kernel_rfl) (by kernel_rfl) (fun _ _ _ h => h) (Or.inl ⟨by rfl, ?_⟩) (by assumption) ?_
  rotate_left
  · (intro w9 _; go_simp; try with_reducible rfl)
  simp only [Act.put, List.getElem_toArray, List.getElem_cons_succ, List.getElem_cons_zero, List.setIfInBounds_toArray, List.set_cons_succ, List.set_cons_zero]
  refine wpAnyH_take (i := 10) (v := ?_) rfl (by kernel_rfl) (by kernel_rfl) (by kernel_rfl) (fun _ _ _ h => h) (Or.inl ⟨by rfl, ?_⟩) (by assumption) ?_
  rotate_left
  · (intro w9 _; go_simp; try with_reducible rfl)
  simp only [Act.put, List.getElem_toArray, List.getElem_cons_succ, List.getElem_cons_zero, List.setIfInBounds_toArray, List.set_cons_succ, List.set_cons_zero]
  refine wpAnyH_take (i := 11) (v := ?_) rfl (by kernel_rfl) (by kernel_rfl) (by kernel_rfl) (fun _ _ _ h => h) (Or.inl ⟨by rfl, ?_⟩) (by assumption) ?_
  rotate_left
  · (intro w9 _; go_simp; try with_reducible rfl)
  simp only [Act.put, List.getElem_toArray, List.getElem_cons_succ, List.getElem_cons_zero, List.setIfInBounds_toArray, List.set_cons_succ, List.set_cons_zero]
  refine wpAnyH_take (i := 12) (v := ?_) rfl (by kernel_rfl) (by kernel_rfl) (by kernel_rfl) (fun _ _ _ h => h) (Or.inl ⟨by rfl, ?_⟩) (by assumption) ?_
  rotate_left
  · (intro w9 _; go_simp; try with_reducible rfl)
  simp only [Act.put, List.getElem_toArray, List.getElem_cons_succ, List.getElem_cons_zero, List.setIfInBounds_toArray, List.set_cons_succ, List.set_cons_zero]
  refine wpAnyH_take (i := 13) (v := ?_) rfl (by kernel_rfl) (by kernel_rfl) (by kernel_rfl) (fun _ _ _ h => h) (Or.inl ⟨by rfl, ?_⟩) (by assumption) ?_
  rotate_left
  · (intro w9 _; go_simp; try with_reducible rfl)
  simp only [Act.put, List.getElem_toArray, List.getElem_cons_succ, List.getElem_cons_zero, List.setIfInBounds_toArray, List.set_cons_succ, List.set_cons_zero]
  refine wpAnyH_take (i := 14) (v := ?_) rfl (by kernel_rfl) (by kernel_rfl) (by kernel_rfl) (fun _ _ _ h => h) (Or.inl ⟨by rfl, ?_⟩) (by assumption) ?_
  rotate_left
  · (intro w9 _; go_simp; try with_reducible rfl)
  simp only [Act.put, List.getElem_toArray, List.getElem_cons_succ, List.getElem_cons_zero, List.setIfInBounds_toArray, List.set_cons_succ, List.set_cons_zero]
  refine wpAnyH_take (i := 15) (v := ?_) rfl (by kernel_rfl) (by kernel_rfl) (by kernel_rfl) (fun _ _ _ h => h) (Or.inl ⟨by rfl, ?_⟩) (by assumption) ?_
  rotate_left
  · (intro w9 _; go_simp; try with_reducible rfl)
  simp only [Act.put, List.getElem_toArray, List.getElem_cons_succ, List.getElem_cons_zero, List.setIfInBounds_toArray, List.set_cons_zero]
  refine wpAnyH_take (i := 16) (v := ?_) rfl (by kernel_rfl) (by kernel_rfl) (by kernel_rfl) (fun _ _ _ h => h) (Or.inl ⟨by rfl, ?_⟩) (by assumption) ?_
  rotate_left
  · (intro w9 _; go_simp; try with_reducible rfl)
  simp only [Act.put, List.getElem_toArray, List.getElem_cons_succ, List.getElem_cons_zero, List.setIfInBounds_toArray, List.set_cons_succ, List.set_cons_zero]
  refine wpAnyH_take (i := 17) (v := ?_) rfl (by kernel_rfl) (by kernel_rfl) (by kernel_rfl) (fun _ _ _ h => h) (Or.inl ⟨by rfl, ?_⟩) (by assumption) ?_
  rotate_left
  · (intro w9 _; go_simp; try with_reducible rfl)
  simp only [Act.put, List.getElem_toArray, List.getElem_cons_succ, List.getElem_cons_zero, List.setIfInBounds_toArray, List.set_cons_succ, List.set_cons_zero]
  refine wpAnyH_done (by kernel_rfl) ?_ _
  clear hHeld
  have B0 := Lib.hid ((Below.refl w.heap.size w).drew)
  go_wp2_with fail
  refine (HK.out _).mono ?_
  rintro e w1 ⟨rfl, hb1⟩
  have B1 := Lib.hid (B0.out.trans (hb1.mono B0.out.size))
  clear hb1
  go_wp2_with fail
  refine (HU.out _ _ B C _ (by have := HJ.out; have := HL.out; omega) (by have := HJ.out; have := HL.out; omega) (HB.out.below B1.out) (HC.out.below B1.out)).mono ?_
  rintro e w2 ⟨u27, D27, rfl, hI, -, hm27, hl27, -, hb⟩
  have I27 := Lib.hid hI; have M27 := Lib.hid hm27; have L27 := Lib.hid hl27
  have B2 := Lib.hid (B1.out.trans (hb.mono B1.out.size))
  clear hI hm27 hl27 hb
  rename_i K9 hK9
  refine hK9 _ _ ?_
  clear hK9 K9
  go_wp2_with fail
  refine (HM.out _ _ A D27 _ (by have := HJ.out; have := HL.out; omega) (by have := HJ.out; have := HL.out; have := L27.out; omega) (HA.out.below B2.out) I27.out).mono ?_
  rintro e w3 ⟨u28, D28, rfl, hI, hA28, hm28, hl28, -, hb⟩
  have I28 := Lib.hid hI; have M28 := Lib.hid hm28; have A28 := Lib.hid hA28; have L28 := Lib.hid hl28
  have B3 := Lib.hid (B2.out.trans (hb.mono B2.out.size))
  clear hI hm28 hA28 hl28 hb
  rename_i K9 hK9
  refine hK9 _ _ ?_
  clear hK9 K9
  go_wp2_with fail
  refine (HM.out _ _ A B _ (by have := HJ.out; have := HL.out; omega) (by have := HJ.out; have := HL.out; omega) (HA.out.below B3.out) (HB.out.below B3.out)).mono ?_
  rintro e w4 ⟨u31, D31, rfl, hI, -, hm31, -, hl31, hb⟩
  have I31 := Lib.hid hI; have M31 := Lib.hid hm31; have L31 := Lib.hid (hl31 rfl); have J28 := Lib.hid (I28.out.below hb)
  have B4 := Lib.hid (B3.out.trans (hb.mono B3.out.size))
  clear hI hm31 hl31 hb
  rename_i K9 hK9
  refine hK9 _ _ ?_
  clear hK9 K9
  go_wp2_with fail
  refine (HM.out _ _ D31 C _ (by have := HJ.out; have := HL.out; have := L31.out; omega) (by have := HJ.out; have := HL.out; omega) I31.out (HC.out.below B4.out)).mono ?_
  rintro e w5 ⟨u33, D33, rfl, hI, hA33, hm33, -, hl33, hb⟩
  have I33 := Lib.hid hI; have M33 := Lib.hid hm33; have A33 := Lib.hid hA33; have L33 := Lib.hid (hl33 rfl); have K28 := Lib.hid (J28.out.below hb)
  have B5 := Lib.hid (B4.out.trans (hb.mono B4.out.size))
  clear hI hm33 hA33 hl33 hb
  rename_i K9 hK9
  refine hK9 _ _ ?_
  clear hK9 K9
  go_wp2_with fail
  refine (HTO.out _ D33 _ (by have := HJ.out; have := HL.out; have := L31.out; have := L33.out; omega) I33.out).mono ?_
  rintro e w6 ⟨u34, rfl, hI, hb⟩
  have hD : D28 = D33 := Mid.uniq _ _ A28.out A33.out (fun u => by have p27 := M27.out u; have p31 := M31.out u; rw [M28.out u, M33.out u]; simp at p27 p31 ⊢; rw [p27, p31]; by_cases x1 : u ∈ A <;> by_cases x2 : u ∈ B <;> by_cases x3 : u ∈ C <;> simp [x1, x2, x3])
  have I34 := Lib.hid hI; have N28 := Lib.hid (K28.out.below hb); have HD := Lib.hid hD
  have B6 := Lib.hid (B5.out.trans (hb.mono B5.out.size))
  clear hI hb hD
  rename_i K9 hK9
  refine hK9 _ _ ?_
  clear hK9 K9
  go_wp2_with fail
  refine (HE.out _ _ D28 _ (by have := HJ.out; have := HL.out; have := L28.out; have := L27.out; omega) N28.out (by rw [HD.out]; exact I34.out)).mono ?_
  rintro e w7 ⟨rfl, hb⟩
  have B7 := Lib.hid (B6.out.trans (hb.mono B6.out.size))
  clear hb
  rename_i K9 hK9
  refine hK9 _ _ ?_
  clear hK9 K9
  go_wp2_with fail
  refine (HBO.out _ _ A B _ (by have := HJ.out; have := HL.out; omega) (by have := HJ.out; have := HL.out; omega) (HA.out.below B7.out) (HB.out.below B7.out)).mono ?_
  rintro e w8 ⟨u40, D40, rfl, hI, -, hm40, hl40, -, hb⟩
  have I40 := Lib.hid hI; have M40 := Lib.hid hm40; have L40 := Lib.hid hl40
  have B8 := Lib.hid (B7.out.trans (hb.mono B7.out.size))
  clear hI hm40 hl40 hb
  rename_i K9 hK9
  refine hK9 _ _ ?_
  clear hK9 K9
  go_wp2_with fail
  refine (HM.out _ _ A B _ (by have := HJ.out; have := HL.out; omega) (by have := HJ.out; have := HL.out; omega) (HA.out.below B8.out) (HB.out.below B8.out)).mono ?_
  rintro e w9 ⟨u43, D43, rfl, hI, -, hm43, hl43, -, hb⟩
  have I43 := Lib.hid hI; have M43 := Lib.hid hm43; have L43 := Lib.hid hl43; have J40 := Lib.hid (I40.out.below hb)
  have B9 := Lib.hid (B8.out.trans (hb.mono B8.out.size))
  clear hI hm43 hl43 hb
  rename_i K9 hK9
  refine hK9 _ _ ?_
  clear hK9 K9
  go_wp2_with fail
  refine (HU.out _ _ D40 D43 _ (by have := HJ.out; have := HL.out; have := L40.out; omega) (by have := HJ.out; have := HL.out; have := L43.out; omega) J40.out I43.out).mono ?_
  rintro e w10 ⟨u44, D44, rfl, hI, hA44, hm44, hl44, -, hb⟩
  have I44 := Lib.hid hI; have M44 := Lib.hid hm44; have A44 := Lib.hid hA44; have L44 := Lib.hid hl44
  have B10 := Lib.hid (B9.out.trans (hb.mono B9.out.size))
  clear hI hm44 hA44 hl44 hb
  rename_i K9 hK9
  refine hK9 _ _ ?_
  clear hK9 K9
  go_wp2_with fail
  refine (HS.out _ A _ (by have := HJ.out; have := HL.out; omega) (HA.out.below B10.out)).mono ?_
  rintro e w11 ⟨u46, D46, rfl, hI, hA46, hm46, hl46, hb⟩
  have I46 := Lib.hid hI; have M46 := Lib.hid hm46; have A46 := Lib.hid hA46; have L46 := Lib.hid hl46; have J44 := Lib.hid (I44.out.below hb)
  have B11 := Lib.hid (B10.out.trans (hb.mono B10.out.size))
  clear hI hm46 hA46 hl46 hb
  rename_i K9 hK9
  refine hK9 _ _ ?_
  clear hK9 K9
  go_wp2_with fail
  refine (HTO.out _ D46 _ (by have := HJ.out; have := HL.out; have := L46.out; omega) I46.out).mono ?_
  rintro e w12 ⟨u47, rfl, hI, hb⟩
  have hD : D44 = D46 := Mid.uniq _ _ A44.out A46.out (fun u => by have p40 := M40.out u; have p43 := M43.out u; rw [M44.out u, M46.out u]; simp at p40 p43 ⊢; rw [p40, p43]; by_cases x1 : u ∈ A <;> by_cases x2 : u ∈ B <;> simp [x1, x2])
  have I47 := Lib.hid hI; have K44 := Lib.hid (J44.out.below hb); have HD2 := Lib.hid hD
  have B12 := Lib.hid (B11.out.trans (hb.mono B11.out.size))
  clear hI hb hD
  rename_i K9 hK9
  refine hK9 _ _ ?_
  clear hK9 K9
  go_wp2_with fail
  refine (HE.out _ _ D44 _ (by have := HJ.out; have := HL.out; have := L44.out; have := L40.out; have := L43.out; omega) K44.out (by rw [HD2.out]; exact I47.out)).mono ?_
  rintro e w13 ⟨rfl, hb⟩
  have B13 := Lib.hid (B12.out.trans (hb.mono B12.out.size))
  clear hb
  rename_i K9 hK9
  refine hK9 _ _ ?_
  clear hK9 K9
  go_wp2_with fail
  go_ret
  exact ⟨rfl, B13.out⟩

set_option maxRecDepth 100000 in
theorem contract (H : Type) (enc : TypeId × Value → H) (W : World) (base : Nat) (args : Array Value) (ds gs : List (DataW H)) (before : List MemPlace)
    (hval : ∀ (j : Nat) t v, Try.f9.params[j]? = some t → args[j]? = some v → Value.okWide Try.prog W .any base t v)
    (hW : DataW.Whole enc Try.prog Try.f9.params.toList Rows.msgidAlgebraSpec.vars false W args.toList ds gs before) (_hL : laidMetH Try.prog Rows.msgidAlgebraRow.laid W) (_hs : W.ShapedOpen Try.prog) :
    Calls Try.prog 9 args W fun e W' => ∃ v, e = .returned v ∧ Rows.msgidAlgebraSpec.post enc Try.prog Try.f9 false true false false W args v W' := by
  have hW' := hW
  obtain ⟨p, q, hA0, hV, rfl, hfz, hnd⟩ := hW
  have hA : DataW.TrodAll enc Try.prog W 0 (fun _ => true) true Try.f9.params.toList args.toList ds p := hA0
  rw [Try.params9] at hA hval
  obtain ⟨v0, vs0, d0, ds0, p0, q0, hargs, rfl, rfl, h0, r0⟩ := trodAll_cons hA
  obtain ⟨v1, vs1, d1, ds1, p1, q1, rfl, rfl, rfl, h1, r1⟩ := trodAll_cons r0
  obtain ⟨v2, vs2, d2, ds2, p2, q2, rfl, rfl, rfl, h2, r2⟩ := trodAll_cons r1
  obtain ⟨rfl, rfl, rfl⟩ := trodAll_nil r2
  obtain rfl : args = #[v0, v1, v2] := by cases args; simp_all
  obtain ⟨rfl, rfl⟩ := trodVars_none hV
  obtain ⟨a0, len0, cap0, rfl⟩ := okWide_slice Try.underlying41 (hval 0 41 v0 rfl rfl)
  have k0 := h0
  have lt0 : ∀ x ∈ p0, x.block < W.heap.size := by obtain ⟨m, hm⟩ := k0; exact DataW.trod_lt m _ _ _ hm
  obtain ⟨l0, w0, e0⟩ := ids_open h0
  obtain ⟨a1, len1, cap1, rfl⟩ := okWide_slice Try.underlying41 (hval 1 41 v1 rfl rfl)
  have k1 := h1
  have lt1 : ∀ x ∈ p1, x.block < W.heap.size := by obtain ⟨m, hm⟩ := k1; exact DataW.trod_lt m _ _ _ hm
  obtain ⟨l1, w1, e1⟩ := ids_open h1
  obtain ⟨a2, len2, cap2, rfl⟩ := okWide_slice Try.underlying41 (hval 2 41 v2 rfl rfl)
  have k2 := h2
  have lt2 : ∀ x ∈ p2, x.block < W.heap.size := by obtain ⟨m, hm⟩ := k2; exact DataW.trod_lt m _ _ _ hm
  obtain ⟨l2, w2, e2⟩ := ids_open h2
  clear hA0
  refine (walk a0 len0 cap0 l0 a1 len1 cap1 l1 a2 len2 cap2 l2 W w0 e0 w1 e1 w2 e2).mono fun e W' ⟨he, bel⟩ => ?_
  subst he
  exact ⟨_, rfl, _, _, _, [], _, [], hW', trodAll_mk1 (shut_bool Try.underlying4 _), (trodAll_cons_mk (Below.trod laidOut (by kernel_rfl) (of_decide_eq_true (by kernel_rfl)) k0 bel lt0) (trodAll_cons_mk (Below.trod laidOut (by kernel_rfl) (of_decide_eq_true (by kernel_rfl)) k1 bel lt1) (trodAll_cons_mk (Below.trod laidOut (by kernel_rfl) (of_decide_eq_true (by kernel_rfl)) k2 bel lt2) trodAll_mk0))), rfl, bel.frame _, fun h => by cases h⟩

theorem laid_met (os : Os) : laidMet Try.prog Rows.msgidAlgebraRow.laid ((laidWorld os).forCall (fun _ _ => 0) ⟨#[], #[.slice none 0 0, .slice none 0 0, .slice none 0 0], []⟩).memory :=
  laidMet_of_run' 8 (by kernel_rfl) (by kernel_rfl)
theorem reads (os : Os) {H : Type} (enc : TypeId × Value → H) : ∃ places, DataW.whole enc Try.prog ((laidWorld os).forCall (fun _ _ => 0) ⟨#[], #[.slice none 0 0, .slice none 0 0, .slice none 0 0], []⟩).memory Try.f9.params.toList Rows.msgidAlgebraSpec.vars false (#[.slice none 0 0, .slice none 0 0, .slice none 0 0] : Array Value).toList 8 = some ([.nil, .nil, .nil], [], places) :=
  ⟨[], by kernel_rfl⟩

set_option maxRecDepth 100000 in
theorem lifted (os : Os) (started : os.Started) (H : Type) (enc : TypeId × Value → H) (F : Stop.Interp) :
    ReturnsInHanded {} Try.checked os 9 .any ((OpenSpec.ofChange Rows.msgidAlgebraSpec).preRow enc Try.prog Try.f9 Rows.msgidAlgebraRow.domain false Rows.msgidAlgebraRow.laid) (((OpenSpec.ofChange Rows.msgidAlgebraSpec).at F).post enc Try.prog Try.f9 false true false false) := by
  obtain ⟨places, hx⟩ := reads os enc
  refine returnsInHanded_of_row (C := Try.checked) (s := OpenSpec.ofChange Rows.msgidAlgebraSpec) own started (by kernel_rfl) Try.func9
    (witness_row_at (enc := enc) (C := Try.checked) false (laidWorld os) #[.slice none 0 0, .slice none 0 0, .slice none 0 0] rfl (by kernel_rfl) (by kernel_rfl) (by kernel_rfl)
      (OpenSpec.preRow_of_cond 8 hx (by kernel_rfl) (fun k hk => by cases hk) (by kernel_rfl) (laid_met os))) ?_
  intro W base args ds gs before hval hW _ _ _ hL hs _
  exact contract H enc W base args ds gs before hval hW hL hs

theorem said : Rows.MsgidAlgebraSaid :=
  OpenClaim.holds_of_cond 9 Try.f9 rfl rfl rfl rfl rfl rfl rfl ⟨rfl, rfl, rfl, rfl, rfl⟩ rfl rfl rfl rfl rfl (by kernel_rfl) Try.func9 (by kernel_rfl)
    (of_decide_eq_true (by kernel_rfl)) (by unfold Func.isWrapper; first | (rw [if_pos (by decide +kernel)]; kernel_rfl) | (rw [if_neg (by decide +kernel)]; exact ⟨rfl, rfl⟩))
    (fun os started H enc _ F => by rw [OpenClaim.pre_eq_preRow]; exact lifted os started H enc F)

end Go.Proofs.Ytcpiiafnifkahaa.msgidAlgebraLaw
namespace Go.Proofs.Ytcpiiafnifkahaa

/-- THE STATEMENT OF MsgidAlgebra -/
theorem msgidAlgebra_said : Rows.MsgidAlgebraSaid := msgidAlgebraLaw.said
#print axioms msgidAlgebra_said
end Go.Proofs.Ytcpiiafnifkahaa
