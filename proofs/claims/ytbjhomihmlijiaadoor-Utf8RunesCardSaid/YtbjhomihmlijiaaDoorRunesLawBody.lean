/- The law's call of Runes. -/
import Derived.Test.YtbjhomihmlijiaaDoorFrame
import Derived.Test.YtbjhomihmlijiaaDoorOffset
import Derived.Test.YtbjhomihmlijiaaDoorInts
namespace Go.Proofs.YtbjhomihmlijiaaDoor
open Go.RowKit Go.Shelf

attribute [local go_sem] Oper.semAt_some

theorem IntsAt.own {W W' : World} {x : Option Addr} {xs : List Nat} {row : Option Nat} (h : IntsAt W x xs) (hg : W.grownBy W' row) (hr : ∀ r, row = some r → ∃ o : Obj, W.heap[r]? = some o ∧ o.isCells = false) : IntsAt W' x xs := by
  intro i hi
  obtain ⟨g, h1, h2, h3⟩ := h i hi
  exact ⟨g, h1, World.block_lt_of_cell? W' _ (cell_kept h3 hg hr), cell_kept h3 hg hr⟩

theorem IntsAt.set {W : World} {x : Option Addr} {xs : List Nat} {R C : Nat} (u : Value) (h : IntsAt W x xs) (hx : ∀ i, i < xs.length → ∃ g, x = some ⟨g, 0, none⟩ ∧ g < R) (hC : R ≤ C) : IntsAt (W.setCell ⟨C, 0, none⟩ u) x xs := by
  intro i hi
  obtain ⟨g, h1, h2, h3⟩ := h i hi
  obtain ⟨g', e, hlt⟩ := hx i hi
  rw [h1] at e
  cases e
  exact ⟨g, h1, by simpa using h2, by rw [World.cell?_setCell_other _ _ _ _ (by intro y; injection y with y _ _; omega)]; exact h3⟩

theorem its_small (l : List Nat) : ∀ f p, ∀ x ∈ U8.its l f p, x.2 < 2147483648
  | 0, p => by simp [U8.its]
  | f + 1, p => by
    intro x hx
    rw [U8.its] at hx
    by_cases h : p < l.length
    · rw [if_pos h] at hx
      by_cases h0 : (U8.next (l.drop p)).2.2 = 0
      · rw [if_pos h0] at hx
        rcases List.mem_cons.1 hx with rfl | hx
        · obtain ⟨⟨r, z, e⟩, hn⟩ : ∃ y, U8.next (l.drop p) = y := ⟨_, rfl⟩
          rw [hn] at h0
          simp only at h0
          subst h0
          have hok := (U8.next_enc (l.drop p) (by intro h2; have := congrArg List.length h2; rw [List.length_drop] at this; simp at this; omega) r z hn).1
          have := hok.1
          rw [hn]
          simp only
          omega
        · exact its_small l f _ x hx
      · rw [if_neg h0] at hx; cases hx
    · rw [if_neg h] at hx; cases hx

/-- a part that has come: its last element stands in both rows -/
theorem last_of {pre : List (Nat × Nat)} {x : Nat × Nat} {xs : List (Nat × Nat)} {rs os : List Nat} (h1 : xs.map (·.2) = rs) (h2 : xs.map (·.1) = os) (h : pre ++ [x] <+: xs) : x ∈ xs ∧ pre.length < rs.length ∧ rs.getD pre.length 0 = x.2 ∧ os.getD pre.length 0 = x.1 := by
  obtain ⟨z, rfl⟩ := h
  subst h1 h2
  refine ⟨by simp, by simp, ?_, ?_⟩
  · rw [List.getD_eq_getElem?_getD, List.getElem?_map, List.append_assoc, List.getElem?_append_right (Nat.le_refl _)]
    simp
  · rw [List.getD_eq_getElem?_getD, List.getElem?_map, List.append_assoc, List.getElem?_append_right (Nat.le_refl _)]
    simp

set_option maxRecDepth 100000 in
set_option maxHeartbeats 4000000 in
theorem runesLaw (a : ByteArray) (ha : a.size ≤ maxLen) (st : Nat) (hst : st < 256) (w : World) (hT : Tab w) :
    Calls Tryd.prog 9 #[.string a, .int .u8 st] w fun e w' => e = .returned (.bool true) ∧ Below w.heap.size w w' := by
  have hp := hT.1
  obtain ⟨c, hc⟩ : ∃ c, c = cutS a 300 := ⟨_, rfl⟩
  have hcs : c.size ≤ 300 := by rw [hc]; exact cutS_size a 300
  obtain ⟨⟨rs, os, at_, e⟩, hall⟩ : ∃ x, U8.allF (bytesOf c) c.size 0 = x := ⟨_, rfl⟩
  have hits := U8.its_all (bytesOf c) (bytesOf_lt c) c.size 0
  rw [hall] at hits
  simp only at hits
  have HS := Lib.hid (fun w => short_any a 300 w ha c hc)
  have HA := Lib.hid (fun w => refAll_any c w (by omega) rs os at_ e hall)
  have HK := Lib.hid (fun w hT => known_any w hT)
  have HITS := Lib.hid hits; have HSM := Lib.hid (its_small (bytesOf c) c.size 0)
  clear hc ha hall hits
  have bR := Box.new w (.bool false) 4 w.heap.size rfl
  have hB0 : Below w.heap.size w (w.alloc (.cells #[.bool false] 4)) := (Below.refl _ w).alloc (Nat.le_refl _) _
  refine (callsIn_wide (n := 8)).1 ?_
  refine callsIn_of_wp_marks Tryd.func9 rfl trivial ?_ rfl
  simp only [Tryd.ntmps9, List.size_toArray, List.length_cons, List.length_nil, Nat.reduceAdd, Nat.reduceSub, Array.replicate_succ, Array.replicate_zero, List.push_toArray, List.append_toArray, List.nil_append, List.cons_append]
  gi_wp2
  refine ⟨trivial, ?_⟩
  refine (callsIn_wide.2 (HS.out _)).mono ?_
  rintro y w0' ⟨rfl, rfl⟩
  gi_wp2
  refine ⟨trivial, ?_⟩
  refine (callsIn_wide.2 (HK.out _ (hT.below hB0 hp))).mono ?_
  rintro y w1 ⟨rfl, hb1⟩
  have bR1 := bR.below hb1
  have hB1 := hB0.trans (hb1.mono hB0.size)
  obtain ⟨B, hB⟩ : ∃ B, B = w.heap.size := ⟨_, rfl⟩
  have hwB : w.heap.size ≤ B := by omega
  rw [← hB] at bR1 ⊢
  clear hb1 bR hB0 hB
  gi_wp2
  refine ⟨trivial, ?_⟩
  refine (callsIn_wide.2 (HA.out _)).mono ?_
  rintro y w2 ⟨v1, v2, rfl, ho1, ho2, _, hb2⟩
  obtain ⟨x1, m1, cap1, rfl, hm1, hI1⟩ := ints_of ho1
  obtain ⟨x2, m2, cap2, rfl, hm2, hI2⟩ := ints_of ho2
  have BR2 := Lib.hid (bR1.below hb2)
  have HB2 := Lib.hid (hB1.trans (hb2.mono hB1.size))
  clear bR1 hB1 hb2 ho1 ho2
  gi_wp2
  refine ⟨trivial, ?_⟩
  obtain ⟨M, hM⟩ : ∃ M : Nat, M = st + 1 := ⟨_, rfl⟩
  have hMI : (st : Int) + 1 = (M : Int) := by omega
  rw [hMI]
  obtain ⟨W4, hW4⟩ : ∃ W4, W4 = (((w2.alloc (.cells #[.slice x1 m1 cap1] 23)).alloc (.cells #[.slice x2 m2 cap2] 23)).alloc (.cells #[.int .i64 (M : Int)] 3)).alloc (.cells #[.int .i64 0] 3) := ⟨_, rfl⟩
  obtain ⟨R, hR⟩ : ∃ R, R = w2.heap.size := ⟨_, rfl⟩
  have q1 : Box W4 R (.slice x1 m1 cap1) := by rw [hW4]; exact (((Box.new w2 _ _ R hR).alloc _).alloc _).alloc _
  have q2 : Box W4 (R + 1) (.slice x2 m2 cap2) := by rw [hW4]; exact ((Box.new _ _ _ (R + 1) (by simp [hR])).alloc _).alloc _
  have q3 : Box W4 (R + 1 + 1) (.int .i64 (M : Int)) := by rw [hW4]; exact (Box.new _ _ _ (R + 1 + 1) (by simp [hR])).alloc _
  have q4 : Box W4 (R + 1 + 1 + 1) (.int .i64 0) := by rw [hW4]; exact Box.new _ _ _ (R + 1 + 1 + 1) (by simp [hR])
  have h24 : Below w2.heap.size w2 W4 := by rw [hW4]; exact ((((Below.refl _ w2).alloc (Nat.le_refl _) _).alloc (by simp) _).alloc (by simp; omega) _).alloc (by simp; omega) _
  have q5 := BR2.out.below h24
  have qb := HB2.out.trans (h24.mono HB2.out.size)
  have qi1 := hI1.out.below h24
  have qi2 := hI2.out.below h24
  have hs4 : W4.heap.size = R + 1 + 1 + 1 + 1 := by rw [hW4, hR]; simp
  have hBR : B < R := by rw [hR]; exact BR2.out.lt
  have hg1 : ∀ i, i < rs.length → ∃ g, x1 = some ⟨g, 0, none⟩ ∧ g < R := fun i hi => by obtain ⟨g, e, h, _⟩ := hI1.out i hi; exact ⟨g, e, by rw [hR]; exact h⟩
  have hg2 : ∀ i, i < os.length → ∃ g, x2 = some ⟨g, 0, none⟩ ∧ g < R := fun i hi => by obtain ⟨g, e, h, _⟩ := hI2.out i hi; exact ⟨g, e, by rw [hR]; exact h⟩
  have HG1 := Lib.hid hg1; have HG2 := Lib.hid hg2
  rw [← hW4, ← hR]
  have hm1e := hm1.out; have hm2e := hm2.out
  have Q1 := Lib.hid q1; have Q2 := Lib.hid q2; have Q3 := Lib.hid q3; have Q4 := Lib.hid q4; have Q5 := Lib.hid q5; have QB := Lib.hid qb; have QI1 := Lib.hid qi1; have QI2 := Lib.hid qi2
  clear hg1 hg2 hW4 hR q1 q2 q3 q4 q5 qb qi1 qi2 h24 BR2 HB2 hI1 hI2 hm1e hm2e hMI
  refine (callsIn_wide.2 (runes_any c _)).mono ?_
  rintro y w5 ⟨rfl, hw5⟩
  obtain ⟨Z, hZ⟩ : ∃ Z, Z = W4.heap.size := ⟨_, rfl⟩
  have HBX : Hid (Box w5 Z (.string c)) := Lib.hid (by rw [hw5]; exact Box.new _ _ _ Z hZ)
  have QB5 : Hid (Below w.heap.size w w5) := Lib.hid (by rw [hw5]; exact QB.out.alloc QB.out.size _)
  have Q51 : Hid (Box w5 R (.slice x1 m1 cap1)) := Lib.hid (by rw [hw5]; exact Q1.out.alloc _)
  have Q52 : Hid (Box w5 (R + 1) (.slice x2 m2 cap2)) := Lib.hid (by rw [hw5]; exact Q2.out.alloc _)
  have Q53 : Hid (Box w5 (R + 1 + 1) (.int .i64 (M : Int))) := Lib.hid (by rw [hw5]; exact Q3.out.alloc _)
  have Q54 : Hid (Box w5 (R + 1 + 1 + 1) (.int .i64 0)) := Lib.hid (by rw [hw5]; exact Q4.out.alloc _)
  have Q55 : Hid (Box w5 B (.bool false)) := Lib.hid (by rw [hw5]; exact Q5.out.alloc _)
  have QI51 : Hid (IntsAt w5 x1 rs) := Lib.hid (QI1.out.below (by rw [hw5]; exact (Below.refl _ _).alloc (Nat.le_refl _) _))
  have QI52 : Hid (IntsAt w5 x2 os) := Lib.hid (QI2.out.below (by rw [hw5]; exact (Below.refl _ _).alloc (Nat.le_refl _) _))
  have hs5 : w5.heap.size = Z + 1 := by rw [hw5, hZ]; simp
  have hZR : R + 1 + 1 + 1 < Z := by omega
  rw [← hZ]
  clear hw5 hZ Q1 Q2 Q3 Q4 Q5 QB QI1 QI2 hs4
  gi_wp2
  obtain ⟨xs, hxs⟩ : ∃ xs, xs = U8.its (bytesOf c) c.size 0 := ⟨_, rfl⟩
  have hst0 := runes_stops 7 (by omega) Z w.heap.size hp c (by omega) w5 (hT.below QB5.out hp) (by omega) (by have := QB5.out.size; omega) HBX.out.1
  rw [← hxs] at HITS HSM hst0
  have hlm : rs.length = xs.length := by rw [← HITS.out.1, List.length_map]
  have hlo : os.length = xs.length := by rw [← HITS.out.2, List.length_map]
  have hm1x : m1 = xs.length := by rw [hm1.out, hlm]
  have hm2x : m2 = xs.length := by rw [hm2.out, hlo]
  subst hm1x
  have HM2 := Lib.hid hm2x; have HLM := Lib.hid hlm; have HLO := Lib.hid hlo
  have hx300 : (xs.length : Int) ≤ 300 := by have := U8.its_len (bytesOf c) c.size 0; rw [← hxs] at this; omega
  have hM256 : (M : Int) ≤ 256 := by omega
  have hM0 : 0 < M := by omega
  clear hxs hm1 hm2 hlm hlo hm2x hM
  refine wpIn_rangeFunc_ownF rfl (by omega) (gf := 44) (lb := #[.pointer (some ⟨Z, 0, none⟩)]) rfl trivial (enters_of Tryd.func44 (by kernel_rfl) rfl)
    hst0 keepsB_t (keepsB_b (by have := QB5.out.size; omega) (by omega)) (Below.refl _ _) (fun _ => rfl)
    (fun pre W => (pre.length < M ∧ pre.length ≤ xs.length ∧ Box W R (.slice x1 xs.length cap1) ∧ Box W (R + 1) (.slice x2 m2 cap2) ∧ Box W (R + 1 + 1) (.int .i64 (M : Int)) ∧ Box W (R + 1 + 1 + 1) (.int .i64 (pre.length : Int)) ∧ Box W B (.bool false) ∧ IntsAt W x1 rs ∧ IntsAt W x2 os) ∧ Below w.heap.size w W)
    (fun cc pre W => ((cc = .ret ∧ ¬ (pre <+: xs)) ∨ (cc = .exit 0 ∧ M ≤ xs.length ∧ Box W R (.slice x1 xs.length cap1) ∧ Box W (R + 1 + 1) (.int .i64 (M : Int)) ∧ Box W (R + 1 + 1 + 1) (.int .i64 (M : Int)) ∧ Box W B (.bool false))) ∧ Below w.heap.size w W)
    (OwnFrom.and (Own.from (fun s A B row hs hg hr => ⟨hs.1, hs.2.1, hs.2.2.1.own hg hr, hs.2.2.2.1.own hg hr, hs.2.2.2.2.1.own hg hr, hs.2.2.2.2.2.1.own hg hr, hs.2.2.2.2.2.2.1.own hg hr, hs.2.2.2.2.2.2.2.1.own hg hr, hs.2.2.2.2.2.2.2.2.own hg hr⟩) _) (ownFrom_below (Nat.le_refl _) (QB5.out.size)))
    (fun c => OwnFrom.and (Own.from (fun s A B row hs hg hr => hs.elim .inl (fun h => .inr ⟨h.1, h.2.1, h.2.2.1.own hg hr, h.2.2.2.1.own hg hr, h.2.2.2.2.1.own hg hr, h.2.2.2.2.2.own hg hr⟩)) _) (ownFrom_below (Nat.le_refl _) (QB5.out.size)))
    ⟨⟨hM0, Nat.zero_le _, Q51.out, Q52.out, Q53.out, Q54.out, Q55.out, QI51.out, QI52.out⟩, QB5.out⟩
    (fun x => { tmps := #[.string c, .int .u8 (st : Int), undef, undef, .pointer (some ⟨B, 0, none⟩), .pointer (some ⟨R, 0, none⟩), .pointer (some ⟨R + 1, 0, none⟩), .int .i64 (at_ : Int), .int .i64 (e : Int), .pointer (some ⟨R + 1 + 1, 0, none⟩), .pointer (some ⟨R + 1 + 1 + 1, 0, none⟩), .int .i64 (x.1 : Int), .int .i32 (x.2 : Int), .string a, .string c, .bool true, .bool false, .tuple #[.slice x1 xs.length cap1, .slice x2 m2 cap2, .int .i64 (at_ : Int), .int .i64 (e : Int)], .string c, .tuple #[.slice x1 xs.length cap1, .slice x2 m2 cap2, .int .i64 (at_ : Int), .int .i64 (e : Int)], .slice x1 xs.length cap1, .slice x2 m2 cap2, .int .i64 (at_ : Int), .int .i64 (e : Int), .int .u8 (st : Int), .int .i64 (st : Int), .int .i64 ((st : Int) + 1), .string c, .func (.func 44) #[] #[.pointer (some ⟨Z, 0, none⟩)], .int .i64 (x.1 : Int), .int .i32 (x.2 : Int), undef, undef, undef, undef, undef, undef, undef, undef, undef, undef, undef, undef, undef, undef, undef, undef, undef, undef, undef, undef, undef, undef, undef, undef, undef, undef, undef, undef, undef, undef, undef, undef, undef, undef, undef, undef, undef], defers := [] }) ?assign ?body ?done ?stop
  case assign =>
    intro l x W K hK
    dsimp only [encs]
    gi_wp2
    exact hK
  case body =>
    rintro l pre x W ⟨⟨hpM, hpx, b1, b2, b3, b4, b5, i1, i2⟩, hBW⟩ _
    have HNPL : Hid (pre ++ [x] <+: xs → x ∈ xs ∧ pre.length < rs.length ∧ rs.getD pre.length 0 = x.2 ∧ os.getD pre.length 0 = x.1) := Lib.hid (fun h => last_of HITS.out.1 HITS.out.2 h)
    obtain ⟨k, hk⟩ : ∃ k, k = pre.length := ⟨_, rfl⟩
    rw [← hk] at hpM hpx b4 HNPL
    have c1 := b1.1; have c2 := b2.1; have c3 := b3.1; have c4 := b4.1; have f4 := b4.2; have c5 := b5.1; have f5 := b5.2
    have HBW := Lib.hid hBW; have HK := Lib.hid hk
    have B1 := Lib.hid b1; have B2 := Lib.hid b2; have B3 := Lib.hid b3; have B4 := Lib.hid b4; have B5 := Lib.hid b5; have I1 := Lib.hid i1; have I2 := Lib.hid i2
    have hkMI : (k : Int) < (M : Int) := by omega
    clear b1 b2 b3 b4 b5 i1 i2 hBW hk Q51 Q52 Q53 Q54 Q55 QI51 QI52 QB5 HBX
    by_cases hkx : k < xs.length
    · obtain ⟨g1, e1, _, ci1⟩ := I1.out k (by rw [HLM.out]; exact hkx)
      obtain ⟨g2, e2, _, ci2⟩ := I2.out k (by rw [HLO.out]; exact hkx)
      subst e1 e2
      obtain ⟨p, hp1⟩ : ∃ p, p = rs.getD k 0 := ⟨_, rfl⟩
      obtain ⟨o, ho1⟩ : ∃ o, o = os.getD k 0 := ⟨_, rfl⟩
      rw [← hp1] at ci1 HNPL
      rw [← ho1] at ci2 HNPL
      have hkm2 : k < m2 := by rw [HM2.out]; exact hkx
      clear hp1 ho1
      obtain ⟨xa, xb⟩ := x
      have hlen : (pre ++ [(xa, xb)]).length = pre.length + 1 := by simp
      have HLEN := Lib.hid hlen
      clear hlen
      by_cases ho : xa = o
      · subst ho
        gi_wp2
        · rename_i h
          have hnp : ¬ (pre ++ [(xa, xb)] <+: xs) := fun hpre => by
            obtain ⟨h1, _, h3, _⟩ := HNPL.out hpre
            have h4 := HSM.out _ h1
            simp only at h4
            have hw : wrap64 (xb : Int) = (xb : Int) := by
              unfold wrap64
              omega
            rcases h with (h | h) | h
            · omega
            · omega
            · rw [hw, h3] at h
              simp at h
          refine ⟨KeepsOthers.setCell _ _ _, .inl ⟨rfl, hnp⟩, HBW.out.setCell (p := ⟨B, 0, none⟩) hwB _⟩
        · rename_i h
          have hkM : k + 1 = M := by have := eq_of_beq h; omega
          refine ⟨KeepsOthers.setCell _ _ _, .inr ⟨rfl, ?_, ?_, ?_, ?_, ?_⟩, HBW.out.setCell (p := ⟨R + 1 + 1 + 1, 0, none⟩) (by simp; omega) _⟩
          · omega
          · exact B1.out.other _ (by omega)
          · exact B3.out.other _ (by omega)
          · have h1 : ((M : Nat) : Int) = (k : Int) + 1 := by omega
            rw [h1]
            exact B4.out.set _
          · exact B5.out.other _ (by omega)
        · rename_i h
          have hkM : k + 1 ≠ M := by intro h2; simp at h; omega
          refine ⟨KeepsOthers.setCell _ _ _, ⟨(Below.refl w.heap.size W).setCell (p := ⟨R + 1 + 1 + 1, 0, none⟩) (by simp; omega) _, heap_setCell_other W ⟨R + 1 + 1 + 1, 0, none⟩ Z _ (by simp; omega)⟩, ⟨?_, ?_, ?_, ?_, ?_, ?_, ?_, ?_, ?_⟩, HBW.out.setCell (p := ⟨R + 1 + 1 + 1, 0, none⟩) (by simp; omega) _⟩
          · have := HK.out; have := HLEN.out; omega
          · have := HK.out; have := HLEN.out; omega
          · exact B1.out.other _ (by omega)
          · exact B2.out.other _ (by omega)
          · exact B3.out.other _ (by omega)
          · have h1 : (((pre ++ [(xa, xb)]).length : Nat) : Int) = (k : Int) + 1 := by have := HK.out; have := HLEN.out; omega
            rw [h1]
            exact B4.out.set _
          · exact B5.out.other _ (by omega)
          · exact I1.out.set _ HG1.out (by omega)
          · exact I2.out.set _ HG2.out (by omega)
      · have hne : ((xa : Int) == (o : Int)) = false := by simp; omega
        have hne2 : ((xa : Int) != (o : Int)) = true := by simp; omega
        have HNP := Lib.hid (show ¬ (pre ++ [(xa, xb)] <+: xs) from fun h => ho (HNPL.out h).2.2.2.symm)
        clear HNPL ho
        gi_wp2
        refine ⟨KeepsOthers.setCell _ _ _, .inl ⟨rfl, HNP.out⟩, HBW.out.setCell (p := ⟨B, 0, none⟩) hwB _⟩
    · have HNP := Lib.hid (show ¬ (pre ++ [x] <+: xs) from fun h => hkx (by rw [← HLM.out]; exact (HNPL.out h).2.1))
      clear HNPL
      gi_wp2
      refine ⟨KeepsOthers.setCell _ _ _, .inl ⟨rfl, HNP.out⟩, HBW.out.setCell (p := ⟨B, 0, none⟩) hwB _⟩
  case done =>
    rintro D ys W hD rfl ⟨⟨hpM, hpx, b1, b2, b3, b4, b5, i1, i2⟩, hBW⟩ hK
    have c1 := b1.1; have c3 := b3.1; have c4 := b4.1; have c5 := b5.1; have f5 := b5.2
    have hmin : min (M : Int) (ys.length : Int) = (ys.length : Int) := by omega
    clear b2 i1 i2
    have D5 := Lib.hid b5; have HBW := Lib.hid hBW; have HD := Lib.hid hD; have HK := Lib.hid hK
    clear b1 b3 b4 b5 hBW hD hK Q51 Q52 Q53 Q54 Q55 QI51 QI52 QB5 HBX HITS HSM
    gi_wp2
    have k1 := (KeepsOthers.setCell W ⟨B, 0, none⟩ (.bool true)).same D _ HK.out rfl
    refine ⟨by simp, .inl ⟨_, _, rfl, run_takeDeferred k1, ?_⟩⟩
    have r1 := (D5.out.set (.bool true)).own (grownBy_putObj' _ D (.deferred none)) (fun r e => by cases e; exact ⟨_, k1, rfl⟩)
    refine ⟨.bool true, ?_, rfl, (HBW.out.setCell (p := ⟨B, 0, none⟩) hwB _).trans (belowK_b (w := w) (Nat.le_refl _) _ D _ _ (by have := HD.out; have := hwB; omega) k1 rfl rfl)⟩
    simp [results, Tryd.f9, go_sem, r1.1]
  case stop =>
    rintro D cc pre W hD hpre ⟨h | ⟨rfl, hMx, b1, b3, b4, b5⟩, hBW⟩ hK
    · exact absurd hpre h.2
    · have c1 := b1.1; have c3 := b3.1; have c4 := b4.1; have c5 := b5.1; have f5 := b5.2
      have hmin : min (M : Int) (xs.length : Int) = (M : Int) := by omega
      clear hpre
      have D5 := Lib.hid b5; have HBW := Lib.hid hBW; have HD := Lib.hid hD; have HK := Lib.hid hK
      clear b1 b3 b4 b5 hBW hD hK Q51 Q52 Q53 Q54 Q55 QI51 QI52 QB5 HBX HITS HSM
      gi_wp2
      have k1 := (KeepsOthers.setCell W ⟨B, 0, none⟩ (.bool true)).same D _ HK.out rfl
      refine ⟨by simp, .inl ⟨_, _, rfl, run_takeDeferred k1, ?_⟩⟩
      have r1 := (D5.out.set (.bool true)).own (grownBy_putObj' _ D (.deferred none)) (fun r e => by cases e; exact ⟨_, k1, rfl⟩)
      refine ⟨.bool true, ?_, rfl, (HBW.out.setCell (p := ⟨B, 0, none⟩) hwB _).trans (belowK_b (w := w) (Nat.le_refl _) _ D _ _ (by have := HD.out; have := hwB; omega) k1 rfl rfl)⟩
      simp [results, Tryd.f9, go_sem, r1.1]
end Go.Proofs.YtbjhomihmlijiaaDoor
