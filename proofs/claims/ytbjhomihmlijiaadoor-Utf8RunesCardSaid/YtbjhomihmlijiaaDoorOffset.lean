/- Offset: where the code point of an index begins. -/
import Derived.Test.YtbjhomihmlijiaaDoorCount
import Derived.Test.YtbjhomihmlijiaaDoorCutAll
namespace Go.Proofs.YtbjhomihmlijiaaDoor
open Go.RowKit Go.Shelf

attribute [local go_sem] Oper.semAt_some

/-- a box of the call's own -/
def Box (W : World) (B : Nat) (v : Value) : Prop := W.cell? ⟨B, 0, none⟩ = some v ∧ W.frozen? ⟨B, 0, none⟩ = false
theorem Box.lt {W : World} {B : Nat} {v : Value} (h : Box W B v) : B < W.heap.size := World.block_lt_of_cell? W _ h.1
theorem Box.below {W W1 : World} {B : Nat} {v : Value} (h : Box W B v) (hb : Below W.heap.size W W1) : Box W1 B v := ⟨(hb.cell (p := ⟨B, 0, none⟩) h.lt).trans h.1, (hb.frozen (p := ⟨B, 0, none⟩) h.lt).trans h.2⟩
theorem Box.alloc {W : World} {B : Nat} {v : Value} (o : Obj) (h : Box W B v) : Box (W.alloc o) B v := ⟨cell_alloc_l o h.1, frozen_alloc_l o h.1 h.2⟩
theorem Box.new (W : World) (v : Value) (t : TypeId) (B : Nat) (hB : B = W.heap.size) : Box (W.alloc (.cells #[v] t)) B v := by subst hB; exact cell_new_l W v t
theorem Box.set {W : World} {B : Nat} {v : Value} (u : Value) (h : Box W B v) : Box (W.setCell ⟨B, 0, none⟩ u) B u := ⟨World.cell?_setCell_same' _ _ _ (by rw [h.1]; rfl), by rw [World.frozen?_setCell]; exact h.2⟩
theorem Box.other {W : World} {B C : Nat} {v : Value} (u : Value) (hne : C ≠ B) (h : Box W B v) : Box (W.setCell ⟨C, 0, none⟩ u) B v := ⟨by rw [World.cell?_setCell_other _ _ _ _ (by intro x; injection x with x _ _; exact hne x)]; exact h.1, by rw [World.frozen?_setCell]; exact h.2⟩
theorem Box.own {W W' : World} {B : Nat} {v : Value} {row : Option Nat} (h : Box W B v) (hg : W.grownBy W' row) (hr : ∀ r, row = some r → ∃ o : Obj, W.heap[r]? = some o ∧ o.isCells = false) : Box W' B v := ⟨cell_kept h.1 hg hr, (frozen_kept h.1 hg hr).trans h.2⟩

/-- the three boxes that Offset lays -/
def boxes3 (w : World) (i : Int) : World := ((w.alloc (.cells #[.int .i64 i] 3)).alloc (.cells #[.int .i64 0] 3)).alloc (.cells #[.int .i64 0] 26)
theorem boxes3_ok (w : World) (i : Int) (B : Nat) (hB : B = w.heap.size) : Box (boxes3 w i) B (.int .i64 i) ∧ Box (boxes3 w i) (B + 1) (.int .i64 0) ∧ Box (boxes3 w i) (B + 1 + 1) (.int .i64 0) ∧ Below w.heap.size w (boxes3 w i) ∧ (boxes3 w i).heap.size = B + 3 := by
  unfold boxes3
  refine ⟨((Box.new w _ _ B hB).alloc _).alloc _, (Box.new _ _ _ (B + 1) (by simp [hB])).alloc _, Box.new _ _ _ (B + 1 + 1) (by simp [hB]), (((Below.refl w.heap.size w).alloc (Nat.le_refl _) _).alloc (by simp) _).alloc (by simp; omega) _, by simp [hB]⟩

set_option maxRecDepth 100000 in
set_option maxHeartbeats 2000000 in
theorem offset_err (s : ByteArray) (i : Int) (w : World) (hT : Tab w) (hmax : s.size ≤ 1000000) (a e : Nat) (hr : U8.check (bytesOf s) s.size 0 = (a, e)) (he : e ≠ 0) :
    Calls Tryd.prog 25 #[.string s, .int .i64 i] w fun x w' => x = .returned (.tuple #[.int .i64 0, .int .i64 e]) ∧ Below w.heap.size w w' := by
  have HC := Lib.hid (fun w hT => count_err s w hT hmax a e hr he)
  have hne : ((e : Int) != 0) = true := by simp; omega
  clear he hr
  have hp := hT.1
  obtain ⟨B, hB⟩ : ∃ B, B = w.heap.size := ⟨_, rfl⟩
  have hwB : w.heap.size ≤ B := by omega
  obtain ⟨b1, b2, b3, hB0, hsz⟩ := boxes3_ok w i B hB
  go_enter Tryd.func25, Tryd.ntmps25
  go_upto_region 1 with fail
  change Code.wp _ _ _ _ (boxes3 w i)
  obtain ⟨W3, hW3⟩ : ∃ W3, W3 = boxes3 w i := ⟨_, rfl⟩
  rw [← hB, ← hW3]
  rw [← hW3] at b1 b2 b3 hB0 hsz
  clear hW3 hB
  go_wp2_with fail
  refine (HC.out W3 (hT.below hB0 hp)).mono ?_
  rintro y w4 ⟨rfl, hb4⟩
  have d1 := b2.below hb4
  have d2 := b3.below hb4
  have c1 := d1.1; have f1 := d1.2; have c2 := d2.1; have f2 := d2.2
  have r1 := ((d1.set (.int .i64 0)).other (.int .i64 e) (C := B + 1 + 1) (by omega))
  have r2 := ((d2.other (.int .i64 0) (C := B + 1) (by omega)).set (.int .i64 e))
  have hfin := ((hB0.trans (hb4.mono hB0.size)).setCell (p := ⟨B + 1, 0, none⟩) (by simp; omega) (.int .i64 0)).setCell (p := ⟨B + 1 + 1, 0, none⟩) (by simp; omega) (.int .i64 e)
  have HR1 := Lib.hid r1; have HR2 := Lib.hid r2; have HF := Lib.hid hfin
  clear r1 r2 hfin b1 b2 b3 hB0 hb4
  go_wp2_with fail
  have r1 := HR1.out; have r2 := HR2.out
  refine bodyPost_ret (v := .tuple #[.int .i64 0, .int .i64 e]) ?_ rfl ?_
  · simp [results, Tryd.f25, go_sem, r1.1, r2.1]
  · exact ⟨rfl, HF.out⟩

set_option maxRecDepth 100000 in
set_option maxHeartbeats 2000000 in
theorem offset_range (s : ByteArray) (i : Int) (w : World) (hT : Tab w) (hmax : s.size ≤ 1000000) (a : Nat) (hr : U8.check (bytesOf s) s.size 0 = (a, 0)) (m : Nat) (hm : m = (U8.its (bytesOf s) s.size 0).length) (hi : i < 0 ∨ (m : Int) < i) :
    Calls Tryd.prog 25 #[.string s, .int .i64 i] w fun x w' => x = .returned (.tuple #[.int .i64 0, .int .i64 2]) ∧ Below w.heap.size w w' := by
  have HC := Lib.hid (fun w hT => count_ok s w hT hmax a hr m hm)
  clear hr hm
  have hp := hT.1
  obtain ⟨B, hB⟩ : ∃ B, B = w.heap.size := ⟨_, rfl⟩
  have hwB : w.heap.size ≤ B := by omega
  obtain ⟨b1, b2, b3, hB0, hsz⟩ := boxes3_ok w i B hB
  go_enter Tryd.func25, Tryd.ntmps25
  go_upto_region 1 with fail
  change Code.wp _ _ _ _ (boxes3 w i)
  obtain ⟨W3, hW3⟩ : ∃ W3, W3 = boxes3 w i := ⟨_, rfl⟩
  rw [← hB, ← hW3]
  rw [← hW3] at b1 b2 b3 hB0 hsz
  clear hW3 hB
  go_wp2_with fail
  refine (HC.out W3 (hT.below hB0 hp)).mono ?_
  rintro y w4 ⟨rfl, hb4⟩
  have d0 := b1.below hb4
  have d1 := b2.below hb4
  have d2 := b3.below hb4
  have c0 := d0.1; have f0 := d0.2
  have c1 := d1.1; have f1 := d1.2; have c2 := d2.1; have f2 := d2.2
  have r1 := ((d1.set (.int .i64 0)).other (.int .i64 2) (C := B + 1 + 1) (by omega))
  have r2 := ((d2.other (.int .i64 0) (C := B + 1) (by omega)).set (.int .i64 2))
  have hfin := ((hB0.trans (hb4.mono hB0.size)).setCell (p := ⟨B + 1, 0, none⟩) (by simp; omega) (.int .i64 0)).setCell (p := ⟨B + 1 + 1, 0, none⟩) (by simp; omega) (.int .i64 2)
  have HR1 := Lib.hid r1; have HR2 := Lib.hid r2; have HF := Lib.hid hfin
  clear r1 r2 hfin b1 b2 b3 hB0 hb4 d0 d1 d2
  rcases hi with hi | hi
  · go_wp2_with fail
    have r1 := HR1.out; have r2 := HR2.out
    refine bodyPost_ret (v := .tuple #[.int .i64 0, .int .i64 2]) ?_ rfl ?_
    · simp [results, Tryd.f25, go_sem, r1.1, r2.1]
    · exact ⟨rfl, HF.out⟩
  · have hi0 : ¬ i < 0 := by omega
    go_wp2_with fail
    have r1 := HR1.out; have r2 := HR2.out
    refine bodyPost_ret (v := .tuple #[.int .i64 0, .int .i64 2]) ?_ rfl ?_
    · simp [results, Tryd.f25, go_sem, r1.1, r2.1]
    · exact ⟨rfl, HF.out⟩

theorem prefix_getD {xs ys : List (Nat × Nat)} (h : xs <+: ys) (k : Nat) (hk : k < xs.length) : ys.getD k (0, 0) = xs.getD k (0, 0) := by
  obtain ⟨z, rfl⟩ := h
  rw [List.getD_eq_getElem?_getD, List.getD_eq_getElem?_getD, List.getElem?_append_left hk]

set_option maxRecDepth 100000 in
set_option maxHeartbeats 4000000 in
theorem offset_ok (s : ByteArray) (k : Nat) (w : World) (hT : Tab w) (hmax : s.size ≤ 1000000) (a : Nat) (hr : U8.check (bytesOf s) s.size 0 = (a, 0)) (m : Nat) (hm : m = (U8.its (bytesOf s) s.size 0).length) (hk : k ≤ m) (o : Nat) (ho : o = if k < m then ((U8.its (bytesOf s) s.size 0).getD k (0, 0)).1 else s.size) :
    Calls Tryd.prog 25 #[.string s, .int .i64 (k : Int)] w fun x w' => x = .returned (.tuple #[.int .i64 o, .int .i64 0]) ∧ Below w.heap.size w w' := by
  have HC := Lib.hid (fun w hT => count_ok s w hT hmax a hr m hm)
  have hml : m ≤ 1000000 := by have := U8.its_len (bytesOf s) s.size 0; omega
  have hkI : (k : Int) ≤ (m : Int) := by omega
  have hk0 : ¬ (k : Int) < 0 := by omega
  have hkm : ¬ (m : Int) < (k : Int) := by omega
  have HM := Lib.hid hm; have HO := Lib.hid ho
  clear hr hm ho
  have hp := hT.1
  obtain ⟨B, hB⟩ : ∃ B, B = w.heap.size := ⟨_, rfl⟩
  have hwB : w.heap.size ≤ B := by omega
  obtain ⟨b1, b2, b3, hB0, hsz⟩ := boxes3_ok w (k : Int) B hB
  refine (callsIn_wide (n := 8)).1 ?_
  refine callsIn_of_wp_marks Tryd.func25 rfl trivial ?_ rfl
  simp only [Tryd.ntmps25, List.size_toArray, List.length_cons, List.length_nil, Nat.reduceAdd, Nat.reduceSub, Array.replicate_succ, Array.replicate_zero, List.push_toArray, List.append_toArray, List.nil_append, List.cons_append]
  gi_wp2
  refine ⟨trivial, ?_⟩
  have hcall := callsIn_wide (n := 7).2 (HC.out (boxes3 w (k : Int)) (hT.below hB0 hp))
  unfold boxes3 at hcall b1 b2 b3 hB0 hsz
  refine hcall.mono ?_
  rintro y w4 ⟨rfl, hb4⟩
  have HB4 := Lib.hid (hB0.trans (hb4.mono hB0.size))
  have d0 := b1.below hb4
  have d1 := b2.below hb4
  have d2 := b3.below hb4
  rw [← hB]
  clear b1 b2 b3 hB0 hb4 hsz hcall hB
  have c0 := d0.1; have f0 := d0.2
  have D0 := Lib.hid d0; have D1 := Lib.hid d1; have D2 := Lib.hid d2
  clear d0 d1 d2
  gi_wp2
  refine ⟨trivial, ?_⟩
  refine (callsIn_wide.2 (runes_any s _)).mono ?_
  rintro y w5 ⟨rfl, hw5⟩
  obtain ⟨R, hR⟩ : ∃ R, R = w4.heap.size := ⟨_, rfl⟩
  have e0 := D0.out.alloc (.cells #[.string s] 9)
  have e1 := D1.out.alloc (.cells #[.string s] 9)
  have e2 := D2.out.alloc (.cells #[.string s] 9)
  have hR0 : B + 1 + 1 < R := by rw [hR]; exact D2.out.lt
  have hbox : Box w5 R (.string s) := by rw [hw5]; exact Box.new _ _ _ R hR
  have hB5 : Below w.heap.size w w5 := by rw [hw5]; exact HB4.out.alloc HB4.out.size _
  have hs5 : w5.heap.size = R + 1 := by rw [hw5, hR]; simp
  rw [← hw5] at e0 e1 e2
  rw [← hR]
  have E0 := Lib.hid e0; have E1 := Lib.hid e1; have E2 := Lib.hid e2; have HBX := Lib.hid hbox; have HB5 := Lib.hid hB5
  clear hw5 hR e0 e1 e2 hbox hB5 D0 D1 D2 HB4 c0 f0
  gi_wp2
  refine wpIn_rangeFunc_ownF rfl (by omega) (gf := 44) (lb := #[.pointer (some ⟨R, 0, none⟩)]) rfl trivial (enters_of Tryd.func44 (by kernel_rfl) rfl)
    (runes_stops 7 (by omega) R w.heap.size hp s hmax w5 (hT.below HB5.out hp) (by omega) (by omega) HBX.out.1) keepsB_t (keepsB_b (by omega) (by omega)) (Below.refl _ _) (fun _ => rfl)
    (fun pre W => (pre.length ≤ k ∧ Box W B (.int .i64 ((k - pre.length : Nat) : Int)) ∧ Box W (B + 1) (.int .i64 0) ∧ Box W (B + 1 + 1) (.int .i64 0)) ∧ Below w.heap.size w W)
    (fun c pre W => (c = .ret ∧ pre.length = k + 1 ∧ Box W (B + 1) (.int .i64 ((pre.getD k (0, 0)).1 : Int)) ∧ Box W (B + 1 + 1) (.int .i64 0)) ∧ Below w.heap.size w W)
    (OwnFrom.and (Own.from (fun s A B row hs hg hr => ⟨hs.1, hs.2.1.own hg hr, hs.2.2.1.own hg hr, hs.2.2.2.own hg hr⟩) _) (ownFrom_below (Nat.le_refl _) (by omega)))
    (fun c => OwnFrom.and (Own.from (fun s A B row hs hg hr => ⟨hs.1, hs.2.1, hs.2.2.1.own hg hr, hs.2.2.2.own hg hr⟩) _) (ownFrom_below (Nat.le_refl _) (by omega)))
    ⟨⟨Nat.zero_le _, E0.out, E1.out, E2.out⟩, HB5.out⟩
    (fun x => { tmps := #[.string s, .int .i64 (k : Int), undef, .pointer (some ⟨B, 0, none⟩), .pointer (some ⟨B + 1, 0, none⟩), .pointer (some ⟨B + 1 + 1, 0, none⟩), .int .i64 (m : Int), .int .i64 0, .int .i64 (x.1 : Int), .tuple #[.int .i64 (m : Int), .int .i64 0], .string s, .tuple #[.int .i64 (m : Int), .int .i64 0], .int .i64 (m : Int), .int .i64 0, .bool false, .int .i64 0, .bool false, undef, .bool (decide ((k : Int) < 0)), .int .i64 (k : Int), .bool (decide ((k : Int) < 0)), .bool (decide ((k : Int) < 0)), .int .i64 (k : Int), .int .i64 (m : Int), .bool false, .bool (decide ((k : Int) < 0)), .string s, .func (.func 44) #[] #[.pointer (some ⟨R, 0, none⟩)], .int .i64 (x.1 : Int), .int .i32 (x.2 : Int), undef, undef, undef, undef, undef, undef, undef], defers := [] }) ?assign ?body ?done ?stop
  case assign =>
    intro l x W K hK
    dsimp only [encs]
    gi_wp2
    exact hK
  case body =>
    rintro l pre x W ⟨⟨hpk, hb0, hb1, hb2⟩, hBW⟩ hlt
    obtain ⟨j, hj⟩ : ∃ j, j = k - pre.length := ⟨_, rfl⟩
    rw [← hj] at hb0
    have hjI : (j : Int) ≤ 1000000 := by omega
    have c0 := hb0.1; have f0 := hb0.2; have c1 := hb1.1; have f1 := hb1.2; have c2 := hb2.1; have f2 := hb2.2
    have D0 := Lib.hid hb0; have D1 := Lib.hid hb1; have D2 := Lib.hid hb2; have HBW := Lib.hid hBW; have HJ := Lib.hid hj; have HP := Lib.hid hpk
    clear hb0 hb1 hb2 hBW hj E0 E1 E2 HBX HB5 hpk hlt
    by_cases h0 : j = 0
    · subst h0
      gi_wp2
      refine ⟨(KeepsOthers.setCell _ _ _).trans (KeepsOthers.setCell _ _ _), ⟨rfl, ?_, ?_, ?_⟩, (HBW.out.setCell (p := ⟨B + 1, 0, none⟩) (by simp; omega) _).setCell (p := ⟨B + 1 + 1, 0, none⟩) (by simp; omega) _⟩
      · have := HJ.out; have := HP.out; simp; omega
      · have hlen : pre.length = k := by have := HJ.out; have := HP.out; omega
        have hx : (pre ++ [x]).getD k (0, 0) = x := by
          rw [List.getD_eq_getElem?_getD, List.getElem?_append_right (by omega), show k - pre.length = 0 by omega]
          rfl
        rw [hx]
        exact (D1.out.set _).other _ (by omega)
      · exact (D2.out.other _ (by omega)).set _
    · have hne : ((j : Int) == 0) = false := by simp; omega
      gi_wp2
      refine ⟨KeepsOthers.setCell _ _ _, ⟨(Below.refl w.heap.size W).setCell (p := ⟨B, 0, none⟩) hwB _, heap_setCell_other W ⟨B, 0, none⟩ R _ (by simp; omega)⟩, ⟨?_, ?_, ?_, ?_⟩, HBW.out.setCell (p := ⟨B, 0, none⟩) hwB _⟩
      · have := HJ.out; have := HP.out; simp; omega
      · have h1 : ((k - (pre ++ [x]).length : Nat) : Int) = (j : Int) - 1 := by have := HJ.out; have := HP.out; simp; omega
        rw [h1]
        exact D0.out.set _
      · exact D1.out.other _ (by omega)
      · exact D2.out.other _ (by omega)
  case done =>
    rintro D ys W hD rfl ⟨⟨hpk, hb0, hb1, hb2⟩, hBW⟩ hK
    have c1 := hb1.1; have f1 := hb1.2; have c2 := hb2.1; have f2 := hb2.2
    have ho : o = s.size := by rw [HO.out, if_neg (by have := HM.out; omega)]
    subst ho
    have HBW := Lib.hid hBW; have HD := Lib.hid hD; have HK := Lib.hid hK; have D1 := Lib.hid hb1; have D2 := Lib.hid hb2
    clear hBW hD hK hb0 hb1 hb2 E0 E1 E2 HBX HB5 hpk HO
    gi_wp2
    have k1 := ((KeepsOthers.setCell W ⟨B + 1, 0, none⟩ (.int .i64 (s.size : Int))).trans (KeepsOthers.setCell _ ⟨B + 1 + 1, 0, none⟩ (.int .i64 0))).same D _ HK.out rfl
    refine ⟨by simp, .inl ⟨_, _, rfl, run_takeDeferred k1, ?_⟩⟩
    have r1 := ((D1.out.set (.int .i64 (s.size : Int))).other (.int .i64 0) (C := B + 1 + 1) (by omega)).own (grownBy_putObj' _ D (.deferred none)) (fun r e => by cases e; exact ⟨_, k1, rfl⟩)
    have r2 := ((D2.out.other (.int .i64 (s.size : Int)) (C := B + 1) (by omega)).set (.int .i64 0)).own (grownBy_putObj' _ D (.deferred none)) (fun r e => by cases e; exact ⟨_, k1, rfl⟩)
    refine ⟨.tuple #[.int .i64 (s.size : Int), .int .i64 0], ?_, rfl, ((HBW.out.setCell (p := ⟨B + 1, 0, none⟩) (by simp; omega) _).setCell (p := ⟨B + 1 + 1, 0, none⟩) (by simp; omega) _).trans (belowK_b (w := w) (Nat.le_refl _) _ D _ _ (by have := HD.out; omega) k1 rfl rfl)⟩
    simp [results, Tryd.f25, go_sem, r1.1, r2.1]
  case stop =>
    rintro D c pre W hD hpre ⟨⟨rfl, hpl, hb1, hb2⟩, hBW⟩ hK
    have ho : o = (pre.getD k (0, 0)).1 := by
      have hl := hpre.length_le
      rw [HO.out, if_pos (by have := HM.out; omega), prefix_getD hpre k (by omega)]
    rw [← ho] at hb1
    have HBW := Lib.hid hBW; have HD := Lib.hid hD; have HK := Lib.hid hK; have D1 := Lib.hid hb1; have D2 := Lib.hid hb2
    clear hBW hD hK hb1 hb2 E0 E1 E2 HBX HB5 HO ho hpre hpl
    gi_wp2
    refine ⟨by simp, .inl ⟨_, _, rfl, run_takeDeferred HK.out, ?_⟩⟩
    have r1 := D1.out.own (grownBy_putObj' _ D (.deferred none)) (fun r e => by cases e; exact ⟨_, HK.out, rfl⟩)
    have r2 := D2.out.own (grownBy_putObj' _ D (.deferred none)) (fun r e => by cases e; exact ⟨_, HK.out, rfl⟩)
    refine ⟨.tuple #[.int .i64 (o : Int), .int .i64 0], ?_, rfl, HBW.out.trans (belowK_b (w := w) (Nat.le_refl _) W D _ _ (by have := HD.out; omega) HK.out rfl rfl)⟩
    simp [results, Tryd.f25, go_sem, r1.1, r2.1]
end Go.Proofs.YtbjhomihmlijiaaDoor
