/- Count: the number of code points. -/
import Derived.Test.YtbjhomihmlijiaaDoorRunesIt
namespace Go.Proofs.YtbjhomihmlijiaaDoor
open Go.RowKit Go.Shelf

attribute [local go_sem] Oper.semAt_some

set_option maxRecDepth 100000 in
set_option maxHeartbeats 2000000 in
theorem count_err (s : ByteArray) (w : World) (hT : Tab w) (hmax : s.size ≤ 1000000) (a e : Nat) (hr : U8.check (bytesOf s) s.size 0 = (a, e)) (he : e ≠ 0) :
    Calls Tryd.prog 24 #[.string s] w fun x w' => x = .returned (.tuple #[.int .i64 0, .int .i64 e]) ∧ Below w.heap.size w w' := by
  have HC := Lib.hid (check_any s w hT hmax a e hr)
  have hne : ((e : Int) != 0) = true := by simp; omega
  clear he hr
  go_enter Tryd.func24, Tryd.ntmps24
  go_wp2_with fail
  refine HC.out.mono ?_
  rintro e w1 ⟨rfl, hb1⟩
  go_wp2_with fail
  go_ret2
  exact ⟨rfl, hb1⟩

set_option maxRecDepth 100000 in
set_option maxHeartbeats 2000000 in
theorem count_ok (s : ByteArray) (w : World) (hT : Tab w) (hmax : s.size ≤ 1000000) (a : Nat) (hr : U8.check (bytesOf s) s.size 0 = (a, 0)) (m : Nat) (hm : m = (U8.its (bytesOf s) s.size 0).length) :
    Calls Tryd.prog 24 #[.string s] w fun x w' => x = .returned (.tuple #[.int .i64 m, .int .i64 0]) ∧ Below w.heap.size w w' := by
  have HC := Lib.hid (check_any s w hT hmax a 0 hr)
  have HM := Lib.hid hm
  clear hr hm
  refine (callsIn_wide (n := 8)).1 ?_
  refine callsIn_of_wp_marks Tryd.func24 rfl trivial ?_ rfl
  simp only [Tryd.ntmps24, List.size_toArray, List.length_cons, List.length_nil, Nat.reduceAdd, Nat.reduceSub, Array.replicate_succ, Array.replicate_zero, List.push_toArray, List.append_toArray, List.nil_append, List.cons_append]
  gi_wp2
  refine ⟨trivial, ?_⟩
  refine (callsIn_wide.2 HC.out).mono ?_
  rintro e w1 ⟨rfl, hb1⟩
  gi_wp2
  refine ⟨trivial, ?_⟩
  refine (callsIn_wide.2 (runes_any s _)).mono ?_
  rintro e w2 ⟨rfl, hw2⟩
  gi_wp2
  have hs := cell_new_l w1 (.int .i64 0) 3
  have hb := cell_new_l (w1.alloc (.cells #[.int .i64 0] 3)) (.string s) 9
  rw [World.size_alloc] at hb
  have hsz := hb1.size
  have hB0 : Below w.heap.size w ((w1.alloc (.cells #[.int .i64 0] 3)).alloc (.cells #[.string s] 9)) := (hb1.alloc hsz _).alloc (by simp; omega) _
  obtain ⟨B, hBe⟩ : ∃ B, B = w1.heap.size := ⟨_, rfl⟩
  have hwB : w.heap.size ≤ B := by omega
  rw [← hBe] at hs hb ⊢
  have hW0 : ((w1.alloc (.cells #[.int .i64 0] 3)).alloc (.cells #[.string s] 9)).heap.size = B + 2 := by simp [hBe]
  have hcell : ((w1.alloc (.cells #[.int .i64 0] 3)).alloc (.cells #[.string s] 9)).cell? ⟨B, 0, none⟩ = some (.int .i64 0) := cell_alloc_l _ hs.1
  have hfree : ((w1.alloc (.cells #[.int .i64 0] 3)).alloc (.cells #[.string s] 9)).frozen? ⟨B, 0, none⟩ = false := frozen_alloc_l _ hs.1 hs.2
  have hbox := hb.1
  obtain ⟨W0, hW0e⟩ : ∃ W0, W0 = (w1.alloc (.cells #[.int .i64 0] 3)).alloc (.cells #[.string s] 9) := ⟨_, rfl⟩
  rw [← hW0e] at hB0 hW0 hcell hfree hbox ⊢
  clear hW0e hs hb hBe hb1 hsz
  have hp := hT.1
  refine wpIn_rangeFunc_ownF rfl (by omega) (gf := 44) (lb := #[.pointer (some ⟨B + 1, 0, none⟩)]) rfl trivial (enters_of Tryd.func44 (by kernel_rfl) rfl)
    (runes_stops 7 (by omega) (B + 1) w.heap.size hp s hmax W0 (hT.below hB0 hp) (by omega) (by omega) hbox) keepsB_t (keepsB_b (by omega) (by omega)) (Below.refl _ _) (fun _ => rfl)
    (fun pre W => (W.cell? ⟨B, 0, none⟩ = some (.int .i64 (pre.length : Int)) ∧ W.frozen? ⟨B, 0, none⟩ = false) ∧ Below w.heap.size w W)
    (fun _ _ _ => False)
    (OwnFrom.and (Own.from (fun s A B row hs hg hr => ⟨cell_kept hs.1 hg hr, (frozen_kept hs.1 hg hr).trans hs.2⟩) _) (ownFrom_below (Nat.le_refl _) (by omega)))
    (fun _ _ _ _ _ hs _ _ => hs)
    ⟨⟨hcell, hfree⟩, hB0⟩
    (fun x => { tmps := #[.string s, undef, .int .i64 0, .int .i64 0, .int .i64 a, .int .i64 0, .pointer (some ⟨B, 0, none⟩), .tuple #[.int .i64 a, .int .i64 0], .string s, .tuple #[.int .i64 a, .int .i64 0], .int .i64 a, .int .i64 0, .int .i64 0, .bool false, undef, .string s, .func (.func 44) #[] #[.pointer (some ⟨B + 1, 0, none⟩)], .int .i64 x.1, .int .i32 x.2, undef, undef, undef], defers := [] }) ?assign ?body ?done ?stop
  case assign =>
    intro l x W K hK
    gi_wp2
    simp [encs]
    exact hK
  case body =>
    rintro l pre x W ⟨⟨hc, hf⟩, hBW⟩ hlt
    have hltI : (pre.length : Int) < 1000000 := by omega
    have HBW := Lib.hid hBW; have HB0 := Lib.hid hB0
    clear hBW hB0 hcell hfree hbox
    gi_wp2
    refine ⟨KeepsOthers.setCell _ _ _, ⟨(Below.refl w.heap.size W).setCell (p := ⟨B, 0, none⟩) hwB _, heap_setCell_other W ⟨B, 0, none⟩ (B + 1) _ (by simp)⟩, ⟨?_, by rw [World.frozen?_setCell]; exact hf⟩, HBW.out.setCell (p := ⟨B, 0, none⟩) hwB _⟩
    rw [World.cell?_setCell_same' _ _ _ (by rw [hc]; rfl)]
    simp
  case done =>
    rintro D ys W hD rfl ⟨⟨hc, _⟩, hBW⟩ hK
    have HBW := Lib.hid hBW; have HD := Lib.hid hD; have HK := Lib.hid hK
    rw [← HM.out] at hc
    clear hBW hB0 hcell hfree hbox
    gi_wp2
    refine ⟨by simp, .inl ⟨_, _, rfl, run_takeDeferred HK.out, ?_⟩⟩
    exact ⟨_, results_tmp2 rfl _ _ _, rfl, HBW.out.trans (belowK_b (w := w) (Nat.le_refl _) W D _ _ (by have := HD.out; omega) HK.out rfl rfl)⟩
  case stop =>
    rintro D c pre W _ _ h _
    exact h.elim
end Go.Proofs.YtbjhomihmlijiaaDoor
