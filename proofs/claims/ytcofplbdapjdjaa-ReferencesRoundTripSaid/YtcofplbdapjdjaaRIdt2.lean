/- The reference's Identity. -/
import Derived.Test.YtcofplbdapjdjaaRIdt
import Derived.Deep.RegionHeld
namespace Go.Proofs.Ytcofplbdapjdjaa
open Go.RowKit
def tailB : ByteArray := ⟨#[64, 104, 97, 115, 104, 62]⟩
theorem tail_iff (s : ByteArray) (h : s.size = 71) : s.extract 65 71 = ⟨#[64, 104, 97, 115, 104, 62]⟩ ↔ ∀ j, 65 ≤ j → j < 71 → Mid.good (s.data.toList.getD j 0) j = true := by
  have hl : (s.extract 65 71).data.toList = (s.data.toList.drop 65).take 6 := by rw [ByteArray.data_extract, Array.toList_extract]
  have hsl : s.data.toList.length = 71 := by simpa using h
  have hlen : ((s.data.toList.drop 65).take 6).length = 6 := by simp [hsl]
  have hget : ∀ i, i < 6 → ((s.data.toList.drop 65).take 6)[i]? = some (s.data.toList.getD (65 + i) 0) := by
    intro i hi
    rw [List.getElem?_take, if_pos hi, List.getElem?_drop, List.getD_eq_getElem?_getD, List.getElem?_eq_getElem (by omega)]
    rfl
  have hgood : ∀ j, 65 ≤ j → j < 71 → (Mid.good (s.data.toList.getD j 0) j = true ↔ s.data.toList.getD j 0 = Mid.tail6.getD (j - 65) 0) := by
    intro j h1 h2
    unfold Mid.good
    rw [if_neg (by omega), if_neg (by omega), beq_iff_eq]
  constructor
  · intro he j h1 h2
    rw [hgood j h1 h2]
    have h3 := hget (j - 65) (by omega)
    rw [← hl, he, show 65 + (j - 65) = j by omega] at h3
    have h4 : Mid.tail6[j - 65]? = some (s.data.toList.getD j 0) := h3
    rw [List.getD_eq_getElem?_getD (l := Mid.tail6), h4]
    rfl
  · intro hg
    apply ByteArray.ext
    apply Array.toList_inj.1
    rw [hl]
    apply List.ext_getElem?
    intro i
    by_cases hi : i < 6
    · rw [hget i hi, (hgood (65 + i) (by omega) (by omega)).1 (hg _ (by omega) (by omega)), show 65 + i - 65 = i by omega]
      show some (Mid.tail6.getD i 0) = Mid.tail6[i]?
      rw [List.getD_eq_getElem?_getD, List.getElem?_eq_getElem (show i < Mid.tail6.length from hi)]
      rfl
    · rw [List.getElem?_eq_none (by omega), List.getElem?_eq_none (show (6 : Nat) ≤ i by omega)]

set_option maxRecDepth 100000 in
set_option maxHeartbeats 4000000 in
theorem identity_any (s : ByteArray) (hs : s.size ≤ 100000) (w : World) :
    Calls Try.prog 40 #[.string s] w fun e w' => e = .returned (.tuple #[.agg (encI (if Mid.okT s.data.toList = true then Mid.idT s.data.toList else default)).toArray, .bool (Mid.okT s.data.toList)]) ∧ Below w.heap.size w w' := by
  have hsI : (s.size : Int) ≤ 100000 := by omega
  have hz0 := (Blk.fresh w 48 (encI default).toArray).more (.cells (encI default).toArray 48)
  have ha0 := Blk.fresh (w.alloc (.cells (encI default).toArray 48)) 48 (encI default).toArray
  rw [World.size_alloc] at ha0
  have hb0 := ((Below.refl w.heap.size w).alloc (Nat.le_refl _) (.cells (encI default).toArray 48)).alloc (by simp) (.cells (encI default).toArray 48)
  have hid := info_enc infoRid default
  have huR : Try.prog.underlying 48 = some (.array 32 5) := Try.underlying48
  have OKI := Lib.hid (Mid.okT_iff s.data.toList)
  have hsl := size_toList s
  obtain ⟨y0, hy0⟩ : ∃ y0, y0 = (if Mid.okT s.data.toList = true then Mid.idT s.data.toList else default) := ⟨_, rfl⟩
  obtain ⟨b0, hb0'⟩ : ∃ b0, b0 = Mid.okT s.data.toList := ⟨_, rfl⟩
  rw [← hy0, ← hb0']
  have FL := Lib.hid (show Mid.okT s.data.toList = false → y0 = default ∧ b0 = false from fun h => by rw [hy0, hb0', h]; exact ⟨rfl, rfl⟩)
  have TR := Lib.hid (show Mid.okT s.data.toList = true → y0 = Mid.idT s.data.toList ∧ b0 = true from fun h => by rw [hy0, hb0', h]; exact ⟨rfl, rfl⟩)
  clear hy0 hb0'
  obtain ⟨W0, hW0⟩ : ∃ W0, W0 = (w.alloc (.cells (encI default).toArray 48)).alloc (.cells (encI default).toArray 48) := ⟨_, rfl⟩
  rw [← hW0] at hz0 ha0 hb0
  have Z0 := Lib.hid hz0; have A0 := Lib.hid ha0; have B0 := Lib.hid hb0; have HW0 := Lib.hid hW0; have HSL := Lib.hid hsl
  clear hz0 ha0 hb0 hW0 hsl hs
  by_cases h71 : s.size = 71
  rotate_left
  · have h71I : ¬ (s.size : Int) = 71 := by omega
    have hb71 : ((s.size : Int) != 71) = true := by simpa using h71I
    have HFL := Lib.hid (show Mid.okT s.data.toList = false by
      cases hk : Mid.okT s.data.toList
      · rfl
      · have := (OKI.out.1 hk).1; rw [HSL.out] at this; exact absurd this h71)
    clear OKI
    go_enter Try.func40, Try.ntmps40
    go_upto_region 2 with (fail)
    change Code.wp Try.prog _ _ _ ((w.alloc (.cells (encI default).toArray 48)).alloc (.cells (encI default).toArray 48))
    rw [← HW0.out]
    go_wp2_with (first
      | (refine wpList_load_mid rfl _ _ rfl (w.heap.size + 1) 0 (by rfl) (encI default) _ (encBlk A0.out) huR rfl hid ?_)
      | (refine sto_id infoRid w.heap.size default _ Z0.out (by rfl) (by rfl) _ _ (by rfl) (by rfl) (by rfl) ?_; intro w5 hw5))
    exact bodyPost_ret (results_R rfl (show Blk w5 w.heap.size 48 (encI default).toArray by rw [hw5.out]; exact Z0.out.row _) (by simp [encI_len]) _ rfl) rfl ⟨by rw [(FL.out HFL.out).1, (FL.out HFL.out).2]; rfl, by rw [hw5.out]; exact below_row B0.out _ (Nat.le_refl _) _⟩
  obtain ⟨c0, hc0⟩ : ∃ c0, s[0]'(by omega) = c0 := ⟨_, rfl⟩
  have i0 : ∀ w, (Instr.index 9 (.string s) (.int .i64 0)).run Try.prog w = .ok (.int .u8 (c0.toNat : Int)) w := fun w => run_at s 0 (by omega) c0 hc0 w
  have hg0 : s.data.toList.getD 0 0 = c0 := by rw [getD_toList s 0 (by omega)]; exact hc0
  have HG0 := Lib.hid hg0
  clear hc0 hg0
  by_cases h60 : (c0.toNat : Int) = 60
  rotate_left
  · have HFL := Lib.hid (show Mid.okT s.data.toList = false by
      cases hk : Mid.okT s.data.toList
      · rfl
      · have h9 := (OKI.out.1 hk).2 0 (by omega)
        rw [HG0.out] at h9
        have h8 : (c0 == 60) = true := h9
        rw [Mid.u8_eq] at h8
        exact absurd (of_decide_eq_true h8) h60)
    have hb60 : ((c0.toNat : Int) != 60) = true := by simpa using h60
    clear OKI
    go_enter Try.func40, Try.ntmps40
    go_upto_region 2 with (fail)
    change Code.wp Try.prog _ _ _ ((w.alloc (.cells (encI default).toArray 48)).alloc (.cells (encI default).toArray 48))
    rw [← HW0.out]
    go_wp2_with (first
      | (refine wpList_load_mid rfl _ _ rfl (w.heap.size + 1) 0 (by rfl) (encI default) _ (encBlk A0.out) huR rfl hid ?_)
      | (refine sto_id infoRid w.heap.size default _ Z0.out (by rfl) (by rfl) _ _ (by rfl) (by rfl) (by rfl) ?_; intro w5 hw5))
    exact bodyPost_ret (results_R rfl (show Blk w5 w.heap.size 48 (encI default).toArray by rw [hw5.out]; exact Z0.out.row _) (by simp [encI_len]) _ rfl) rfl ⟨by rw [(FL.out HFL.out).1, (FL.out HFL.out).2]; rfl, by rw [hw5.out]; exact below_row B0.out _ (Nat.le_refl _) _⟩
  have HTI := Lib.hid (tail_iff s h71)
  by_cases hT : s.extract 65 71 = ⟨#[64, 104, 97, 115, 104, 62]⟩
  rotate_left
  · have HFL := Lib.hid (show Mid.okT s.data.toList = false by
      cases hk : Mid.okT s.data.toList
      · rfl
      · exact absurd (HTI.out.2 (fun j _ h2 => (OKI.out.1 hk).2 j h2)) hT)
    have hbT : ((s.extract 65 71).toList == [64, 104, 97, 115, 104, 62]) = false := by
      refine beq_eq_false_iff_ne.2 (fun e => hT ?_)
      rw [Lib.toList_data] at e
      apply ByteArray.ext
      apply Array.toList_inj.1
      exact e
    clear OKI HTI
    go_enter Try.func40, Try.ntmps40
    go_upto_region 2 with (fail)
    change Code.wp Try.prog _ _ _ ((w.alloc (.cells (encI default).toArray 48)).alloc (.cells (encI default).toArray 48))
    rw [← HW0.out]
    go_wp2_with (first
      | (refine wpList_load_mid rfl _ _ rfl (w.heap.size + 1) 0 (by rfl) (encI default) _ (encBlk A0.out) huR rfl hid ?_)
      | (refine sto_id infoRid w.heap.size default _ Z0.out (by rfl) (by rfl) _ _ (by rfl) (by rfl) (by rfl) ?_; intro w5 hw5))
    exact bodyPost_ret (results_R rfl (show Blk w5 w.heap.size 48 (encI default).toArray by rw [hw5.out]; exact Z0.out.row _) (by simp [encI_len]) _ rfl) rfl ⟨by rw [(FL.out HFL.out).1, (FL.out HFL.out).2]; rfl, by rw [hw5.out]; exact below_row B0.out _ (Nat.le_refl _) _⟩
  have HGT := Lib.hid (HTI.out.1 hT)
  have hz : (encI default).toArray = bsC (nI (Mid.stI s.data.toList 0)) := by rw [Mid.stI_zero]; exact encI_arr default
  have A1 := Lib.hid (show Blk W0 (w.heap.size + 1) 48 (bsC (nI (Mid.stI s.data.toList 0))) by rw [← hz]; exact A0.out)
  clear HTI hz
  go_enter Try.func40, Try.ntmps40
  go_upto_region 2 with (fail)
  change Code.wp Try.prog _ _ _ ((w.alloc (.cells (encI default).toArray 48)).alloc (.cells (encI default).toArray 48))
  rw [← HW0.out]
  go_wp2_with fail
  go_loopw [5] (fun i wr => ∃ k : Nat, i = .int .i64 k ∧ k ≤ 32 ∧ Hid (Blk wr w.heap.size 48 (encI default).toArray) ∧ Hid (Blk wr (w.heap.size + 1) 48 (bsC (nI (Mid.stI s.data.toList k)))) ∧ Hid (Below w.heap.size w wr) ∧ Hid (∀ j, 1 ≤ j → j < 2 * k + 1 → 0 ≤ Asc.nib (s.data.toList.getD j 0))) (fun i _ => 32 - (intOf i).toNat)
  case atStart => exact ⟨0, rfl, by omega, Z0, A1, B0, Lib.hid (fun j h1 h2 => by omega)⟩
  case round =>
    clear Z0 A1 B0 A0 HW0
    obtain ⟨k, rfl, hk, ZZ, AA, BB, GG⟩ := hrel
    by_cases hlt : k < 32
    · obtain ⟨x1, hx1⟩ : ∃ x, s[1 + 2 * k]'(by omega) = x := ⟨_, rfl⟩
      obtain ⟨x2, hx2⟩ : ∃ x, s[2 + 2 * k]'(by omega) = x := ⟨_, rfl⟩
      have i1 := fun w => run_at s (1 + 2 * k) (by omega) x1 hx1 w
      have i2 := fun w => run_at s (2 + 2 * k) (by omega) x2 hx2 w
      have d1 : s.data.toList.getD (2 * k + 1) 0 = x1 := by rw [show 2 * k + 1 = 1 + 2 * k by omega, getD_toList s (1 + 2 * k) (by omega)]; exact hx1
      have d2 : s.data.toList.getD (2 * k + 1 + 1) 0 = x2 := by rw [show 2 * k + 1 + 1 = 2 + 2 * k by omega, getD_toList s (2 + 2 * k) (by omega)]; exact hx2
      obtain ⟨y1, hy1⟩ : ∃ y, y = Asc.nib x1 := ⟨_, rfl⟩
      obtain ⟨y2, hy2⟩ : ∃ y, y = Asc.nib x2 := ⟨_, rfl⟩
      have H1 := Lib.hid (fun w => refvalue_any x1 w); have H2 := Lib.hid (fun w => refvalue_any x2 w)
      rw [← hy1] at H1; rw [← hy2] at H2
      have r1 := Asc.nib_range x1; have r2 := Asc.nib_range x2
      rw [← hy1] at r1; rw [← hy2] at r2
      have NEG := Lib.hid (show (y1 < 0 ∨ y2 < 0) → Mid.okT s.data.toList = false from fun h => by
        cases hk : Mid.okT s.data.toList
        · rfl
        · exfalso
          have g := (OKI.out.1 hk).2
          have a1 := Mid.good_hex _ (2 * k + 1) (by omega) (by omega) (g _ (by omega))
          have a2 := Mid.good_hex _ (2 * k + 1 + 1) (by omega) (by omega) (g _ (by omega))
          rw [d1, ← hy1] at a1; rw [d2, ← hy2] at a2
          omega)
      have POS := Lib.hid (show ¬ (y1 < 0 ∨ y2 < 0) → ∃ z : Nat, 16 * y1 + y2 = (z : Int) ∧ z < 256 ∧ 16 * Mid.dg s.data.toList (2 * k) + Mid.dg s.data.toList (2 * k + 1) = z from fun h => by
        refine ⟨(16 * y1 + y2).toNat, by omega, by omega, ?_⟩
        unfold Mid.dg
        rw [d1, d2, ← hy1, ← hy2]
        omega)
      have GOODN := Lib.hid (show ¬ (y1 < 0 ∨ y2 < 0) → ∀ j, 1 ≤ j → j < 2 * (k + 1) + 1 → 0 ≤ Asc.nib (s.data.toList.getD j 0) from fun h j h1 h2 => by
        by_cases h3 : j < 2 * k + 1
        · exact GG.out j h1 h3
        · have h4 : j = 2 * k + 1 ∨ j = 2 * k + 1 + 1 := by omega
          rcases h4 with rfl | rfl
          · rw [d1, ← hy1]; omega
          · rw [d2, ← hy2]; omega)
      have e1 : (1 : Int) + 2 * (k : Int) = ((1 + 2 * k : Nat) : Int) := by omega
      have e2 : (2 : Int) + 2 * (k : Int) = ((2 + 2 * k : Nat) : Int) := by omega
      obtain ⟨p1, hp1⟩ : ∃ p, p = 1 + 2 * k := ⟨_, rfl⟩
      obtain ⟨p2, hp2⟩ : ∃ p, p = 2 + 2 * k := ⟨_, rfl⟩
      rw [← hp1] at e1 i1; rw [← hp2] at e2 i2
      have q1 : IntKind.i64.wrap (2 * (k : Int)) = 2 * (k : Int) := by simp [IntKind.wrap, IntKind.bits, IntKind.signed]; omega
      have q2 : IntKind.i64.wrap (1 + 2 * (k : Int)) = (p1 : Int) := by simp [IntKind.wrap, IntKind.bits, IntKind.signed]; omega
      have q3 : IntKind.i64.wrap (2 + 2 * (k : Int)) = (p2 : Int) := by simp [IntKind.wrap, IntKind.bits, IntKind.signed]; omega
      have q4 : IntKind.i64.wrap (p1 : Int) = (p1 : Int) := by simp [IntKind.wrap, IntKind.bits, IntKind.signed]; omega
      have q5 : IntKind.i64.wrap (p2 : Int) = (p2 : Int) := by simp [IntKind.wrap, IntKind.bits, IntKind.signed]; omega
      have hltI : (k : Int) < 32 := by omega
      clear hx1 hx2 d1 d2 hy1 hy2 hp1 hp2 GG HGT HG0 OKI HSL
      go_wp2_with fail
      refine wp_region_held_drew (S := (fun _ => True)) (by kernel_rfl) ?_ (fun hHeld => ?_)
      · exact trivial
      refine wpAnyH_take (i := 0) (v := ?_) rfl (by kernel_rfl) (by kernel_rfl) (by kernel_rfl) (fun _ _ _ h => h) (Or.inl ⟨by rfl, ?_⟩) (by assumption) ?_
      rotate_left
      · (intro w9 _; go_simp; try with_reducible rfl)
      simp only [Act.put, List.getElem_toArray, List.getElem_cons_zero, List.setIfInBounds_toArray, List.set_cons_succ, List.set_cons_zero]
      refine wpAnyH_take (i := 1) (v := ?_) rfl (by kernel_rfl) (by kernel_rfl) (by kernel_rfl) (fun _ _ _ h => h) (Or.inl ⟨by rfl, ?_⟩) (by assumption) ?_
      rotate_left
      · (intro w9 _; go_simp; try with_reducible rfl)
      simp only [Act.put, List.getElem_toArray, List.getElem_cons_succ, List.getElem_cons_zero, List.setIfInBounds_toArray, List.set_cons_succ, List.set_cons_zero]
      refine wpAnyH_take (i := 2) (v := ?_) rfl (by kernel_rfl) (by kernel_rfl) (by kernel_rfl) (fun _ _ _ h => h) (Or.inl ⟨by rfl, ?_⟩) (by assumption) ?_
      rotate_left
      · (intro w9 _; go_simp; try with_reducible rfl)
      simp only [Act.put, List.getElem_toArray, List.getElem_cons_succ, List.getElem_cons_zero, List.setIfInBounds_toArray, List.set_cons_succ, List.set_cons_zero]
      refine wpAnyH_take (i := 3) (v := ?_) rfl (by kernel_rfl) (by kernel_rfl) (by kernel_rfl) (fun _ _ _ h => h) (Or.inl ⟨by rfl, ?_⟩) (by assumption) ?_
      rotate_left
      · (intro w9 _; go_simp; try with_reducible rfl)
      simp only [Act.put, List.getElem_toArray, List.getElem_cons_succ, List.getElem_cons_zero, List.setIfInBounds_toArray, List.set_cons_succ, List.set_cons_zero]
      refine wpAnyH_take (i := 4) (v := ?_) rfl (by kernel_rfl) (by kernel_rfl) (by kernel_rfl) (fun _ _ _ h => h) (Or.inl ⟨by rfl, ?_⟩) (by assumption) ?_
      rotate_left
      · (intro w9 _; go_simp; try with_reducible rfl)
      simp only [Act.put, List.getElem_toArray, List.getElem_cons_succ, List.getElem_cons_zero, List.setIfInBounds_toArray, List.set_cons_succ, List.set_cons_zero]
      refine wpAnyH_take (i := 6) (v := ?_) rfl (by kernel_rfl) (by kernel_rfl) (by kernel_rfl) (fun _ _ _ h => h) (Or.inl ⟨by rfl, ?_⟩) (by assumption) ?_
      rotate_left
      · (intro w9 _; go_simp; try with_reducible rfl)
      simp only [Act.put, List.getElem_toArray, List.getElem_cons_succ, List.getElem_cons_zero, List.setIfInBounds_toArray, List.set_cons_succ, List.set_cons_zero]
      refine wpAnyH_take (i := 7) (v := ?_) rfl (by kernel_rfl) (by kernel_rfl) (by kernel_rfl) (fun _ _ _ h => h) (Or.inl ⟨by rfl, ?_⟩) (by assumption) ?_
      rotate_left
      · (intro w9 _; go_simp; try with_reducible rfl)
      simp only [Act.put, List.getElem_toArray, List.getElem_cons_succ, List.getElem_cons_zero, List.setIfInBounds_toArray, List.set_cons_succ, List.set_cons_zero]
      refine wpAnyH_take (i := 8) (v := ?_) rfl (by kernel_rfl) (by kernel_rfl) (by kernel_rfl) (fun _ _ _ h => h) (Or.inl ⟨by rfl, ?_⟩) (by assumption) ?_
      rotate_left
      · (intro w9 _; go_simp; try with_reducible rfl)
      simp only [Act.put, List.getElem_toArray, List.getElem_cons_succ, List.getElem_cons_zero, List.setIfInBounds_toArray, List.set_cons_succ, List.set_cons_zero]
      refine wpAnyH_take (i := 9) (v := ?_) rfl (by kernel_rfl) (by kernel_rfl) (by kernel_rfl) (fun _ _ _ h => h) (Or.inl ⟨by rfl, ?_⟩) (by assumption) ?_
      rotate_left
      · (intro w9 _; go_simp; try with_reducible rfl)
      simp only [Act.put, List.getElem_toArray, List.getElem_cons_succ, List.getElem_cons_zero, List.setIfInBounds_toArray, List.set_cons_succ, List.set_cons_zero]
      refine wpAnyH_take (i := 10) (v := ?_) rfl (by kernel_rfl) (by kernel_rfl) (by kernel_rfl) (fun _ _ _ h => h) (Or.inl ⟨by rfl, ?_⟩) (by assumption) ?_
      rotate_left
      · (intro w9 _; go_simp; try with_reducible rfl)
      simp only [Act.put, List.getElem_toArray, List.getElem_cons_succ, List.getElem_cons_zero, List.setIfInBounds_toArray, List.set_cons_succ, List.set_cons_zero]
      refine wpAnyH_ready (rs := [5]) (by kernel_rfl) (by simp) ?_
      refine AllReadyH.cons rfl (fun K hK => ?_) AllReadyH.nil
      go_simp
      refine (H1.out _).mono ?_
      rintro e w9 ⟨rfl, rfl⟩
      refine hK.out _ _ trivial (fun hHeld => ?_)
      clear hK K
      refine wpAnyH_ready (rs := [11]) (by kernel_rfl) (by simp) ?_
      refine AllReadyH.cons rfl (fun K hK => ?_) AllReadyH.nil
      go_simp
      refine (H2.out _).mono ?_
      rintro e w9 ⟨rfl, rfl⟩
      refine hK.out _ _ trivial (fun hHeld => ?_)
      clear hK K
      refine wpAnyH_take (i := 12) (v := ?_) rfl (by kernel_rfl) (by kernel_rfl) (by kernel_rfl) (fun _ _ _ h => h) (Or.inl ⟨by rfl, ?_⟩) (by assumption) ?_
      rotate_left
      · (intro w9 _; go_simp; try with_reducible rfl)
      simp only [Act.put, List.getElem_toArray, List.getElem_cons_succ, List.getElem_cons_zero, List.setIfInBounds_toArray, List.set_cons_succ, List.set_cons_zero]
      refine wpAnyH_take (i := 13) (v := ?_) rfl (by kernel_rfl) (by kernel_rfl) (by kernel_rfl) (fun _ _ _ h => h) (Or.inl ⟨by rfl, ?_⟩) (by assumption) ?_
      rotate_left
      · (intro w9 _; go_simp; try with_reducible rfl)
      simp only [Act.put, List.getElem_toArray, List.getElem_cons_succ, List.getElem_cons_zero, List.setIfInBounds_toArray, List.set_cons_succ, List.set_cons_zero]
      refine wpAnyH_done (by kernel_rfl) ?_ _
      clear hHeld
      by_cases hneg : y1 < 0 ∨ y2 < 0
      · have HFL := Lib.hid (NEG.out hneg)
        by_cases n1 : y1 < 0
        · go_wp2_with (first
            | (refine wp_build_R rfl rfl ?_)
            | (refine sto_id infoRid w.heap.size default _ ZZ.out.draw (by rfl) (by rfl) _ _ (by rfl) (by rfl) (by rfl) ?_; intro w5 hw5))
          exact bodyPost_ret (results_R rfl (show Blk w5 w.heap.size 48 (encI default).toArray by rw [hw5.out]; exact ZZ.out.draw.row _) (by simp [encI_len]) _ rfl) rfl ⟨by rw [(FL.out HFL.out).1, (FL.out HFL.out).2]; rfl, by rw [hw5.out]; exact below_row BB.out.drew _ (Nat.le_refl _) _⟩
        · have n2 : y2 < 0 := by omega
          go_wp2_with (first
            | (refine wp_build_R rfl rfl ?_)
            | (refine sto_id infoRid w.heap.size default _ ZZ.out.draw (by rfl) (by rfl) _ _ (by rfl) (by rfl) (by rfl) ?_; intro w5 hw5))
          exact bodyPost_ret (results_R rfl (show Blk w5 w.heap.size 48 (encI default).toArray by rw [hw5.out]; exact ZZ.out.draw.row _) (by simp [encI_len]) _ rfl) rfl ⟨by rw [(FL.out HFL.out).1, (FL.out HFL.out).2]; rfl, by rw [hw5.out]; exact below_row BB.out.drew _ (Nat.le_refl _) _⟩
      · have n1 : ¬ y1 < 0 := by omega
        have n2 : ¬ y2 < 0 := by omega
        obtain ⟨z, hz, hz256, hzd⟩ := POS.out hneg
        have hzm : (z : Int) % 256 = (z : Int) := by omega
        have hnew : (bsC (nI (Mid.stI s.data.toList k))).setIfInBounds k (.int .u8 (z : Int)) = bsC (nI (Mid.stI s.data.toList (k + 1))) := by
          rw [bsC_set, ← Mid.stI_step s.data.toList k (by omega), hzd]
          congr 1
          unfold nI
          rw [List.map_set]
        have HNW := Lib.hid hnew
        have HG2 := Lib.hid (GOODN.out hneg)
        have c1 := cell_nI AA.out.draw k (by rw [Mid.stI_len]; omega)
        have f1 : wr.drew.frozen? ⟨w.heap.size + 1, k, none⟩ = false := AA.out.draw.free _
        clear hnew hzd NEG POS GOODN FL TR
        go_wp2_with fail
        go_roundw
        case rel => exact ⟨k + 1, by go_num, by omega, Lib.hid (ZZ.out.draw.away (by omega) _ _), Lib.hid (by rw [← HNW.out]; exact AA.out.draw.put _ _), Lib.hid (BB.out.drew.setCell (p := ⟨w.heap.size + 1, k, none⟩) (by simp) _), HG2⟩
        case measure => simp [intOf]; omega
    · obtain rfl : k = 32 := by omega
      have hok : Mid.okT s.data.toList = true := by
        rw [OKI.out, HSL.out]
        refine ⟨h71, fun j hj => ?_⟩
        by_cases h1 : j < 1
        · obtain rfl : j = 0 := by omega
          rw [HG0.out]
          show (c0 == 60) = true
          rw [Mid.u8_eq]; exact decide_eq_true h60
        · by_cases h2 : j < 65
          · unfold Mid.good
            rw [if_neg h1, if_pos h2]
            exact decide_eq_true (GG.out j (by omega) (by omega))
          · exact HGT.out j (by omega) hj
      have hid2 := Mid.idT_ok _ hok
      have X := Lib.hid (show Blk wr (w.heap.size + 1) 48 (encI (Mid.idT s.data.toList)).toArray by rw [encI_arr, hid2, ← Mid.stI_top]; exact AA.out)
      have HOK := Lib.hid (TR.out hok)
      generalize Mid.idT s.data.toList = y at *
      have hiy := info_enc infoRid y
      clear hok hid2 AA GG HGT OKI TR FL
      go_wp2_with (first
        | (refine wpList_load_mid rfl _ _ rfl (w.heap.size + 1) 0 (by rfl) (encI y) _ (encBlk X.out) huR rfl hiy ?_)
        | (refine sto_id infoRid w.heap.size y _ ZZ.out (by simp [encI_len]) (by rfl) _ _ (by rfl) (by rfl) (by rfl) ?_; intro w5 hw5))
      exact bodyPost_ret (results_R rfl (show Blk w5 w.heap.size 48 (encI y).toArray by rw [hw5.out]; exact ZZ.out.row _) (by simp [encI_len]) _ rfl) rfl ⟨by rw [HOK.out.1, HOK.out.2]; rfl, by rw [hw5.out]; exact below_row BB.out _ (Nat.le_refl _) _⟩
end Go.Proofs.Ytcofplbdapjdjaa
