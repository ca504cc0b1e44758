/- Printable; the control characters of the program and of the reference. -/
import Derived.Test.YtbjhomihmlijiaaDoorRunesIt
import Derived.Test.YtbjhomihmlijiaaDoorCount
namespace U8
def ctl (r : Nat) : Bool := decide (r < 32) || (decide (127 ≤ r) && decide (r ≤ 159)) || decide (r = 8232) || decide (r = 8233)
theorem ctl_yes1 {r : Nat} (h : r < 32) : ctl r = true := by simp [ctl, h]
theorem ctl_yes2 {r : Nat} (h : 127 ≤ r) (h2 : r ≤ 159) : ctl r = true := by simp [ctl, h, h2]
theorem ctl_no {r : Nat} (h : ¬ r < 32) (h2 : ¬ (127 ≤ r ∧ r ≤ 159)) (h3 : r ≠ 8232) (h4 : r ≠ 8233) : ctl r = false := by simp [ctl]; omega
end U8
namespace Go.Proofs.YtbjhomihmlijiaaDoor
open Go.RowKit Go.Shelf

attribute [local go_sem] Oper.semAt_some

theorem isControl_any (r : Nat) (w : World) (b : Bool) (hb : b = U8.ctl r) : Calls Tryd.prog 45 #[.int .i32 r] w fun e w' => e = .returned (.bool b) ∧ w = w' := by
  have HB := Lib.hid hb
  clear hb
  by_cases h1 : r < 32
  · have h1I : (r : Int) < 32 := by omega
    go_enter Tryd.func45, Tryd.ntmps45
    go_wp2_with fail
    go_ret
    exact ⟨by rw [HB.out, U8.ctl_yes1 h1]; rfl, rfl⟩
  · have h1I : ¬ (r : Int) < 32 := by omega
    by_cases h2 : 127 ≤ r
    · have h2I : (127 : Int) ≤ (r : Int) := by omega
      by_cases h3 : r ≤ 159
      · have h3I : (r : Int) ≤ 159 := by omega
        go_enter Tryd.func45, Tryd.ntmps45
        go_wp2_with fail
        go_ret
        exact ⟨by rw [HB.out, U8.ctl_yes2 h2 h3]; rfl, rfl⟩
      · have h3I : ¬ (r : Int) ≤ 159 := by omega
        by_cases h4 : r = 8232
        · subst h4
          go_enter Tryd.func45, Tryd.ntmps45
          go_wp2_with fail
          go_ret
          exact ⟨by rw [HB.out]; rfl, rfl⟩
        · by_cases h5 : r = 8233
          · subst h5
            go_enter Tryd.func45, Tryd.ntmps45
            go_wp2_with fail
            go_ret
            exact ⟨by rw [HB.out]; rfl, rfl⟩
          · have h4I : ((r : Int) == 8232) = false := by simp; omega
            have h5I : ((r : Int) == 8233) = false := by simp; omega
            have HN := Lib.hid (U8.ctl_no h1 (by omega) h4 h5)
            clear h4 h5
            go_enter Tryd.func45, Tryd.ntmps45
            go_wp2_with fail
            go_ret
            exact ⟨by rw [HB.out, HN.out]; rfl, rfl⟩
    · have h2I : ¬ (127 : Int) ≤ (r : Int) := by omega
      have HN := Lib.hid (U8.ctl_no h1 (by omega) (by omega) (by omega))
      have h4I : ((r : Int) == 8232) = false := by simp; omega
      have h5I : ((r : Int) == 8233) = false := by simp; omega
      go_enter Tryd.func45, Tryd.ntmps45
      go_wp2_with fail
      go_ret
      exact ⟨by rw [HB.out, HN.out]; rfl, rfl⟩

theorem control_any (r : Nat) (w : World) (b : Bool) (hb : b = U8.ctl r) : Calls Tryd.prog 30 #[.int .i64 r] w fun e w' => e = .returned (.bool b) ∧ w = w' := by
  have HB := Lib.hid hb
  clear hb
  by_cases h1 : r < 32
  · have h1I : (r : Int) < 32 := by omega
    go_enter Tryd.func30, Tryd.ntmps30
    go_wp2_with fail
    go_ret
    exact ⟨by rw [HB.out, U8.ctl_yes1 h1]; rfl, rfl⟩
  · have h1I : ¬ (r : Int) < 32 := by omega
    by_cases h2 : 127 ≤ r
    · have h2I : (127 : Int) ≤ (r : Int) := by omega
      by_cases h3 : r ≤ 159
      · have h3I : (r : Int) ≤ 159 := by omega
        go_enter Tryd.func30, Tryd.ntmps30
        go_wp2_with fail
        go_ret
        exact ⟨by rw [HB.out, U8.ctl_yes2 h2 h3]; rfl, rfl⟩
      · have h3I : ¬ (r : Int) ≤ 159 := by omega
        by_cases h4 : r = 8232
        · subst h4
          go_enter Tryd.func30, Tryd.ntmps30
          go_wp2_with fail
          go_ret
          exact ⟨by rw [HB.out]; rfl, rfl⟩
        · by_cases h5 : r = 8233
          · subst h5
            go_enter Tryd.func30, Tryd.ntmps30
            go_wp2_with fail
            go_ret
            exact ⟨by rw [HB.out]; rfl, rfl⟩
          · have h4I : ((r : Int) == 8232) = false := by simp; omega
            have h5I : ((r : Int) == 8233) = false := by simp; omega
            have HN := Lib.hid (U8.ctl_no h1 (by omega) h4 h5)
            clear h4 h5
            go_enter Tryd.func30, Tryd.ntmps30
            go_wp2_with fail
            go_ret
            exact ⟨by rw [HB.out, HN.out]; rfl, rfl⟩
    · have h2I : ¬ (127 : Int) ≤ (r : Int) := by omega
      have HN := Lib.hid (U8.ctl_no h1 (by omega) (by omega) (by omega))
      have h4I : ((r : Int) == 8232) = false := by simp; omega
      have h5I : ((r : Int) == 8233) = false := by simp; omega
      go_enter Tryd.func30, Tryd.ntmps30
      go_wp2_with fail
      go_ret
      exact ⟨by rw [HB.out, HN.out]; rfl, rfl⟩

set_option maxRecDepth 100000 in
set_option maxHeartbeats 2000000 in
theorem printable_any (s : ByteArray) (w : World) (hT : Tab w) (hmax : s.size ≤ 1000000) (v b : Bool) (hv : v = ((((U8.check (bytesOf s) s.size 0).2 : Nat) : Int) == 0)) (hb : b = (v && !((U8.its (bytesOf s) s.size 0).any fun x => U8.ctl x.2))) :
    Calls Tryd.prog 31 #[.string s] w fun x w' => x = .returned (.bool b) ∧ Below w.heap.size w w' := by
  have HV := Lib.hid (fun w hT => valid_any s w hT hmax v hv)
  have HB := Lib.hid hb
  clear hv hb
  refine (callsIn_wide (n := 8)).1 ?_
  refine callsIn_of_wp_marks Tryd.func31 rfl trivial ?_ rfl
  simp only [Tryd.ntmps31, List.size_toArray, List.length_cons, List.length_nil, Nat.reduceAdd, Nat.reduceSub, Array.replicate_succ, Array.replicate_zero, List.push_toArray, List.append_toArray, List.nil_append, List.cons_append]
  gi_wp2
  refine ⟨trivial, ?_⟩
  refine (callsIn_wide.2 (runes_any s _)).mono ?_
  rintro e w2 ⟨rfl, hw2⟩
  gi_wp2
  have hs := cell_new_l w (.bool false) 4
  have hbx := cell_new_l (w.alloc (.cells #[.bool false] 4)) (.string s) 9
  rw [World.size_alloc] at hbx
  have hB0 : Below w.heap.size w ((w.alloc (.cells #[.bool false] 4)).alloc (.cells #[.string s] 9)) := ((Below.refl _ w).alloc (Nat.le_refl _) _).alloc (by simp) _
  obtain ⟨B, hBe⟩ : ∃ B, B = w.heap.size := ⟨_, rfl⟩
  have hwB : w.heap.size ≤ B := by omega
  have hW0 : ((w.alloc (.cells #[.bool false] 4)).alloc (.cells #[.string s] 9)).heap.size = B + 2 := by simp [hBe]
  have hcell : ((w.alloc (.cells #[.bool false] 4)).alloc (.cells #[.string s] 9)).cell? ⟨B, 0, none⟩ = some (.bool false) := by rw [hBe]; exact cell_alloc_l _ hs.1
  have hfree : ((w.alloc (.cells #[.bool false] 4)).alloc (.cells #[.string s] 9)).frozen? ⟨B, 0, none⟩ = false := by rw [hBe]; exact frozen_alloc_l _ hs.1 hs.2
  have hbox : ((w.alloc (.cells #[.bool false] 4)).alloc (.cells #[.string s] 9)).cell? ⟨B + 1, 0, none⟩ = some (.string s) := by rw [hBe]; exact hbx.1
  obtain ⟨W0, hW0e⟩ : ∃ W0, W0 = (w.alloc (.cells #[.bool false] 4)).alloc (.cells #[.string s] 9) := ⟨_, rfl⟩
  rw [← hW0e] at hB0 hW0 hcell hfree hbox ⊢
  obtain ⟨n0, hn0⟩ : ∃ n0, n0 = w.heap.size := ⟨_, rfl⟩
  rw [← hn0] at hBe
  subst hBe
  rw [← hn0]
  have HN0 := Lib.hid hn0
  clear hW0e hs hbx hn0
  have hp := hT.1
  refine wpIn_rangeFunc_ownF rfl (by omega) (gf := 44) (lb := #[.pointer (some ⟨B + 1, 0, none⟩)]) rfl trivial (enters_of Tryd.func44 (by kernel_rfl) rfl)
    (runes_stops 7 (by omega) (B + 1) w.heap.size hp s hmax W0 (hT.below hB0 hp) (by omega) (by omega) hbox) keepsB_t (keepsB_b (by omega) (by omega)) (Below.refl _ _) (fun _ => rfl)
    (fun pre W => (pre.any (fun x => U8.ctl x.2) = false ∧ W.cell? ⟨B, 0, none⟩ = some (.bool false) ∧ W.frozen? ⟨B, 0, none⟩ = false) ∧ Below w.heap.size w W)
    (fun c pre W => (c = .ret ∧ pre.any (fun x => U8.ctl x.2) = true ∧ W.cell? ⟨B, 0, none⟩ = some (.bool false)) ∧ Below w.heap.size w W)
    (OwnFrom.and (Own.from (fun s A B row hs hg hr => ⟨hs.1, cell_kept hs.2.1 hg hr, (frozen_kept hs.2.1 hg hr).trans hs.2.2⟩) _) (ownFrom_below (Nat.le_refl _) (by omega)))
    (fun c => OwnFrom.and (Own.from (fun s A B row hs hg hr => ⟨hs.1, hs.2.1, cell_kept hs.2.2 hg hr⟩) _) (ownFrom_below (Nat.le_refl _) (by omega)))
    ⟨⟨rfl, hcell, hfree⟩, hB0⟩
    (fun x => { tmps := #[.string s, undef, .pointer (some ⟨B, 0, none⟩), undef, .int .i32 x.2, .string s, .func (.func 44) #[] #[.pointer (some ⟨B + 1, 0, none⟩)], .int .i64 x.1, .int .i32 x.2, undef, undef, undef, undef], defers := [] }) ?assign ?body ?done ?stop
  case assign =>
    intro l x W K hK
    dsimp only [encs]
    gi_wp2
    exact hK
  case body =>
    rintro l pre x W ⟨⟨hpa, hc, hf⟩, hBW⟩ hlt
    have HBW := Lib.hid hBW; have HPA := Lib.hid hpa
    clear hBW hB0 hcell hfree hbox hpa
    cases hx : U8.ctl x.2 with
    | true =>
      have HX := Lib.hid hx
      clear hx
      gi_wp2
      refine ⟨trivial, ?_⟩
      refine (CallsIn.inRound l (callsIn_wide.2 (isControl_any x.2 W true HX.out.symm))).mono ?_
      rintro e w' ⟨rfl, rfl⟩
      gi_wp2
      refine ⟨KeepsOthers.setCell _ _ _, ⟨rfl, ?_, ?_⟩, HBW.out.setCell (p := ⟨B, 0, none⟩) hwB _⟩
      · rw [List.any_append, HPA.out]
        simp [HX.out]
      · rw [World.cell?_setCell_same' _ _ _ (by rw [hc]; rfl)]
    | false =>
      have HX := Lib.hid hx
      clear hx
      gi_wp2
      refine ⟨trivial, ?_⟩
      refine (CallsIn.inRound l (callsIn_wide.2 (isControl_any x.2 W false HX.out.symm))).mono ?_
      rintro e w' ⟨rfl, rfl⟩
      gi_wp2
      refine ⟨KeepsOthers.refl _, KeepsB.refl _ _ _, ⟨?_, hc, hf⟩, HBW.out⟩
      rw [List.any_append, HPA.out]
      simp [HX.out]
  case done =>
    rintro D ys W hD rfl ⟨⟨hpa, hc, hf⟩, hBW⟩ hK
    have HBW := Lib.hid hBW; have HD := Lib.hid hD; have HK := Lib.hid hK
    have hbv : b = v := by rw [HB.out, hpa]; simp
    subst hbv
    have hBl : B < W.heap.size := World.block_lt_of_cell? W _ hc
    have hDl : D < W.heap.size := (Array.getElem?_eq_some_iff.1 hK).1
    clear hBW hB0 hcell hfree hbox hpa hD hK HB
    gi_wp2
    refine ⟨trivial, ?_⟩
    refine (callsIn_wide.2 (HV.out W (hT.below HBW.out hp))).mono ?_
    rintro e w5 ⟨rfl, hb5⟩
    have hc5 := (hb5.cell (p := ⟨B, 0, none⟩) hBl).trans hc
    have hf5 := (hb5.frozen (p := ⟨B, 0, none⟩) hBl).trans hf
    have HK5 := Lib.hid ((hb5.block D hDl).trans HK.out)
    have HB5 := Lib.hid (HBW.out.trans (hb5.mono HBW.out.size))
    clear hb5 hc hf
    gi_wp2
    have hK' := (KeepsOthers.setCell w5 ⟨B, 0, none⟩ (.bool b)).same D _ HK5.out rfl
    refine ⟨by simp, .inl ⟨_, _, rfl, run_takeDeferred hK', ?_⟩⟩
    have hc6 := cell_kept (World.cell?_setCell_same' w5 ⟨B, 0, none⟩ (.bool b) (by rw [hc5]; rfl)) (grownBy_putObj' _ D (.deferred none)) (fun r e => by cases e; exact ⟨_, hK', rfl⟩)
    refine ⟨.bool b, ?_, rfl, (HB5.out.setCell (p := ⟨B, 0, none⟩) hwB _).trans (belowK_b (w := w) (Nat.le_refl _) _ D _ _ (by have := HD.out; omega) hK' rfl rfl)⟩
    simp [results, Tryd.f31, go_sem, hc6]
  case stop =>
    rintro D c pre W hD hpre ⟨⟨rfl, hin, hcr⟩, hBW⟩ hK
    have hbf : b = false := by
      rw [HB.out]
      obtain ⟨z, hz⟩ := hpre
      rw [← hz, List.any_append, hin]
      simp
    subst hbf
    have HBW := Lib.hid hBW; have HD := Lib.hid hD; have HK := Lib.hid hK
    clear hBW hB0 hcell hfree hbox HB hD hK hin hpre
    gi_wp2
    refine ⟨by simp, .inl ⟨_, _, rfl, run_takeDeferred HK.out, ?_⟩⟩
    have hc5 := cell_kept hcr (grownBy_putObj' _ D (.deferred none)) (fun r e => by cases e; exact ⟨_, HK.out, rfl⟩)
    refine ⟨.bool false, ?_, rfl, HBW.out.trans (belowK_b (w := w) (Nat.le_refl _) W D _ _ (by have := HD.out; omega) HK.out rfl rfl)⟩
    simp [results, Tryd.f31, go_sem, hc5]
end Go.Proofs.YtbjhomihmlijiaaDoor
