/- Encoding: called with a slice of at most 1,000,000 bytes, the program's encode returns the text B64.encT of these bytes, and writes nothing that was there. Condition: the alphabet's table reads as laid. -/
import Derived.Test.YtbojodgeknjpjaaDoorMem
import Derived.Test.YtbojodgeknjpjaaDoorAdd
import Derived.Deep.LoopGhost
namespace Go.Proofs.YtbojodgeknjpjaaDoor
open Go.RowKit

/-- the text of some groups, as cells -/
def charCells (es : List Nat) : List Value := Lib.byteCells (es.map B64.alpha)

/-- THE WORD OF AN ENCODING UNDER WAY: the builder in block B, the four boxes behind it -/
def JE (w : World) (B : Nat) (es : List Nat) (h c : Nat) (W : World) : Prop :=
  Lib.IsBuilderF 66 5 B B (charCells es) W ∧ W.heap[B + 1]? = some (.cells #[.int .i64 6] 3 (0, 0)) ∧ W.heap[B + 2]? = some (.cells #[.func (.func 42) #[] #[.pointer (some ⟨B, 0, none⟩)]] 58 (0, 0)) ∧
  W.heap[B + 3]? = some (.cells #[.int .i64 h] 3 (0, 0)) ∧ W.heap[B + 4]? = some (.cells #[.int .i64 c] 3 (0, 0)) ∧ Below B w W

theorem charCells_snoc (es : List Nat) (g : Nat) : charCells (es ++ [g]) = charCells es ++ [.int .u8 (B64.alpha g).toNat] := by
  simp [charCells, Lib.byteCells]

theorem charCells_length (es : List Nat) : (charCells es).length = es.length := by simp [charCells, Lib.byteCells]

/-- one character is written -/
theorem emit_any (w : World) (B : Nat) (es : List Nat) (h c g : Nat) (W : World) (hT : Tab w) (hB : 0 < B) (hJ : JE w B es h c W) (hg : g < 64) (hN : es.length < 10000000) :
    Calls Tryd.prog 42 #[.int .i64 g, .pointer (some ⟨B, 0, none⟩)] W fun e W' => e = .returned (.tuple #[]) ∧ JE w B (es ++ [g]) h c W' := by
  obtain ⟨j1, j2, j3, j4, j5, j6⟩ := hJ
  have hTW := hT.below j6 hB
  have hcell := hTW.cell g hg
  have hlt : B + 1 < W.heap.size := lt_of_block j2
  have hg2 : (0 : Int) ≤ (g : Int) := by omega
  have hg3 : (g : Int) < 64 := by omega
  go_enter Tryd.func42, Tryd.ntmps42
  go_wp2_with (go_at_call 37; refine (Tryd.Builder_WriteByte_k B B (charCells es) _ _ j1 (by rw [charCells_length]; omega) (by omega)).mono ?_)
  rintro e W' ⟨rfl, k1, k2, k3⟩
  go_wp2
  go_end0
  refine ⟨rfl, ?_⟩
  have up : ∀ j, ∀ o, W.heap[j]? = some o → j ≠ B → (∀ cs fz, o ≠ .cells cs 5 fz) → W'.heap[j]? = some o := fun j o hj hb ho => k3 j o hj (by simpa using hb) ho
  refine ⟨?_, up _ _ j2 (by omega) ?_, up _ _ j3 (by omega) ?_, up _ _ j4 (by omega) ?_, up _ _ j5 (by omega) ?_, j6.trans k2⟩
  · rw [charCells_snoc]
    exact .inr k1
  all_goals (intro cs fz e; simp at e)

theorem collE (w : World) (B : Nat) (hT : Tab w) (hB : 0 < B) : Coll (B + 3) (B + 4) (B + 1) (B + 2) 42 #[.pointer (some ⟨B, 0, none⟩)] 6 10000000 (JE w B) where
  n1 := by omega
  n2 := by omega
  n3 := by omega
  n4 := by omega
  n5 := by omega
  ch := fun _ _ _ _ hJ => cell_of_one hJ.2.2.2.1
  cc := fun _ _ _ _ hJ => cell_of_one hJ.2.2.2.2.1
  cs := fun _ _ _ _ hJ => cell_of_one hJ.2.1
  ce := fun _ _ _ _ hJ => cell_of_one hJ.2.2.1
  fh := fun _ _ _ _ hJ => free_of_one hJ.2.2.2.1
  fc := fun _ _ _ _ hJ => free_of_one hJ.2.2.2.2.1
  drew := fun _ _ _ _ hJ => ⟨hJ.1, hJ.2.1, hJ.2.2.1, hJ.2.2.2.1, hJ.2.2.2.2.1, hJ.2.2.2.2.2.drew⟩
  seth := fun _ _ _ W h' ⟨j1, j2, j3, j4, j5, j6⟩ => ⟨builder_setCell j1 j4 (by decide) (by omega) 0 _, by rw [Below.heap_setCell _ _ _ _ (by simp)]; exact j2, by rw [Below.heap_setCell _ _ _ _ (by simp)]; exact j3, one_setCell j4,
    by rw [Below.heap_setCell _ _ _ _ (by simp)]; exact j5, j6.setCell (by simp) _⟩
  setc := fun _ _ _ W c' ⟨j1, j2, j3, j4, j5, j6⟩ => ⟨builder_setCell j1 j5 (by decide) (by omega) 0 _, by rw [Below.heap_setCell _ _ _ _ (by simp)]; exact j2, by rw [Below.heap_setCell _ _ _ _ (by simp)]; exact j3,
    by rw [Below.heap_setCell _ _ _ _ (by simp)]; exact j4, one_setCell j5, j6.setCell (by simp) _⟩
  ent := enters_of Tryd.func42 (by kernel_rfl) rfl
  emit := fun es h c W g hJ hg hN => emit_any w B es h c g W hT hB hJ hg hN

theorem len_any {B n : Nat} {bs : List Value} {w : World} (hn : bs.length = n) (h : Lib.IsBuilderF 66 5 B B bs w) :
    Calls Tryd.prog 41 #[.pointer (some ⟨B, 0, none⟩)] w fun e w' => e = .returned (.int .i64 n) ∧ w = w' := by
  refine (Tryd.Builder_Len_f B B bs w h).mono ?_
  rintro e w' ⟨rfl, rfl⟩
  exact ⟨by rw [hn], rfl⟩

theorem regroup_any (size : Int) (F : Nat) (caps : Array Value) (w : World) :
    Calls Tryd.prog 30 #[.int .i64 size, .func (.func F) #[] caps] w fun e w' => e = .returned (.func (.func 43) #[] #[.pointer (some ⟨w.heap.size + 2, 0, none⟩), .pointer (some ⟨w.heap.size + 3, 0, none⟩), .pointer (some ⟨w.heap.size, 0, none⟩), .pointer (some ⟨w.heap.size + 1, 0, none⟩)]) ∧
      (((w.alloc (.cells #[.int .i64 size] 3)).alloc (.cells #[.func (.func F) #[] caps] 58)).alloc (.cells #[.int .i64 0] 3)).alloc (.cells #[.int .i64 0] 3) = w' := by
  go_enter Tryd.func30, Tryd.ntmps30
  go_wp2
  go_ret
  exact ⟨rfl, rfl⟩

/-- what lies behind the boxes' making -/
theorem JE_start (w : World) : JE w w.heap.size [] 0 0 (((((w.alloc (.cells #[.pointer none, .slice none 0 0] 66)).alloc (.cells #[.int .i64 6] 3)).alloc (.cells #[.func (.func 42) #[] #[.pointer (some ⟨w.heap.size, 0, none⟩)]] 58)).alloc
    (.cells #[.int .i64 0] 3)).alloc (.cells #[.int .i64 0] 3)) := by
  have hb := Lib.IsBuilderF.of (Lib.fresh_isBuilder 66 5 w)
  refine ⟨(((hb.alloc _).alloc _).alloc _).alloc _, ?_, ?_, ?_, ?_, ?_⟩
  · rw [Lib.alloc_old _ _ _ (by simp), Lib.alloc_old _ _ _ (by simp), Lib.alloc_old _ _ _ (by simp)]
    simpa using heap_alloc_new (w.alloc (.cells #[.pointer none, .slice none 0 0] 66)) (.cells #[.int .i64 6] 3)
  · rw [Lib.alloc_old _ _ _ (by simp), Lib.alloc_old _ _ _ (by simp)]
    simpa using heap_alloc_new ((w.alloc (.cells #[.pointer none, .slice none 0 0] 66)).alloc (.cells #[.int .i64 6] 3)) (.cells #[.func (.func 42) #[] #[.pointer (some ⟨w.heap.size, 0, none⟩)]] 58)
  · rw [Lib.alloc_old _ _ _ (by simp)]
    simpa using heap_alloc_new (((w.alloc (.cells #[.pointer none, .slice none 0 0] 66)).alloc (.cells #[.int .i64 6] 3)).alloc (.cells #[.func (.func 42) #[] #[.pointer (some ⟨w.heap.size, 0, none⟩)]] 58)) (.cells #[.int .i64 0] 3)
  · simpa using heap_alloc_new ((((w.alloc (.cells #[.pointer none, .slice none 0 0] 66)).alloc (.cells #[.int .i64 6] 3)).alloc (.cells #[.func (.func 42) #[] #[.pointer (some ⟨w.heap.size, 0, none⟩)]] 58)).alloc (.cells #[.int .i64 0] 3)) (.cells #[.int .i64 0] 3)
  · exact (((((Below.refl _ w).alloc (Nat.le_refl _) _).alloc (by simp) _).alloc (by simp; omega) _).alloc (by simp; omega) _).alloc (by simp; omega) _

set_option maxHeartbeats 400000 in
theorem encode_any (v : Value) (l : List Nat) (w : World) (hT : Tab w) (hv : Bytes w v l) (hl : l.length ≤ 1000000) :
    Calls Tryd.prog 28 #[v] w fun e w' => e = .returned (.string ⟨(B64.encT l).toArray⟩) ∧ Below w.heap.size w w' := by
  have hC := collE w w.heap.size hT hT.1
  obtain ⟨hby, x, cap, rfl, hcap, _, hcells⟩ := hv
  have hent := enters_of Tryd.func43 (by kernel_rfl) rfl
  have hstart := JE_start w
  have hlI : (l.length : Int) ≤ 1000000 := by omega
  go_enter Tryd.func28, Tryd.ntmps28
  go_wp2_with (go_at_call 30; refine (regroup_any _ _ _ _).mono ?_; rintro e w1 ⟨rfl, rfl⟩)
  go_loopw [12] (fun i wr => ∃ k : Nat, k ≤ l.length ∧ i = .int .i64 k ∧ JE w w.heap.size (B64.feed 6 8 (l.take k)).1 (B64.feed 6 8 (l.take k)).2.1 (B64.feed 6 8 (l.take k)).2.2 wr) (fun i _ => l.length - (intOf i).toNat)
  case atStart => exact ⟨0, Nat.zero_le _, rfl, hstart⟩
  case round =>
    clear hstart
    obtain ⟨k, hk, rfl, hJ⟩ := hrel
    by_cases hlt : k < l.length
    · obtain ⟨b, off, rfl, hc⟩ := hcells k hlt
      have hb : b < w.heap.size := World.block_lt_of_cell? w _ hc
      have hcr : wr.cell? ⟨b, off + k, none⟩ = some (.int .u8 (l.getD k 0)) := (hJ.2.2.2.2.2.cell (p := ⟨b, off + k, none⟩) hb).trans hc
      have hts := B64.take_snoc l k hlt
      obtain ⟨y, hy⟩ : ∃ y, y = l.getD k 0 := ⟨_, rfl⟩
      have hy2 : y < 256 := by
        rw [hy, List.getD_eq_getElem?_getD, List.getElem?_eq_getElem hlt]
        exact hby _ (List.getElem_mem hlt)
      rw [← hy] at hcr hts
      have HTS := Lib.hid hts
      clear hc hcells hy hts
      have hsp := B64.feed_spec 6 8 (by omega) (l.take k) (fun z hz => hby z (List.mem_of_mem_take hz))
      have hct := B64.feed_count 6 8 (by omega) (l.take (k + 1)) (fun z hz => hby z (List.mem_of_mem_take hz))
      have hlen2 : (l.take (k + 1)).length ≤ 1000000 := by simp; omega
      have HSP := Lib.hid hsp; have HCT := Lib.hid hct; have HLEN := Lib.hid hlen2
      clear hsp hct hlen2
      go_wp2_with fail
      have hput : (B64.put 6 ((B64.feed 6 8 (l.take k)).1, (B64.feed 6 8 (l.take k)).2.1, (B64.feed 6 8 (l.take k)).2.2) y 8) = B64.feed 6 8 (l.take (k + 1)) := by
        rw [HTS.out, B64.feed_snoc]
      refine (add_any hC _ _ _ y 8 wr (by omega) (by omega) (by omega) (by have := HSP.out.2.1; omega) HSP.out.2.2.1 (by omega) hJ (by rw [hput]; have := HCT.out.2; have := HLEN.out; omega)).mono ?_
      rw [hput]
      rintro e w2 ⟨rfl, hJ2⟩
      go_wp2
      go_roundw
      case rel => exact ⟨k + 1, by omega, by go_num, hJ2⟩
      case measure => simp [intOf]; omega
    · have hkl : k = l.length := by omega
      subst hkl
      rw [List.take_length] at hJ
      clear hcells hlt hk
      obtain ⟨z, hz1, hz2, _, _⟩ := B64.groups_spec l hby
      have hct := B64.feed_count 6 8 (by omega) l hby
      have hsp := B64.feed_spec 6 8 (by omega) l hby
      have HG : Hid (6 * (B64.groups l).length = 8 * l.length + z) := Lib.hid hz2
      have HSP := Lib.hid hsp
      have HCT := Lib.hid hct
      have hgl : (B64.groups l).length ≤ 2000000 := by omega
      clear hz2 hct hsp
      by_cases h0 : l.length * 8 % 6 = 0
      · have hb0 : ¬ (0 : Int) < (l.length : Int) * 8 % 6 := by omega
        have hJ2 : ∃ h c, JE w w.heap.size (B64.groups l) h c wr := by
          refine ⟨(B64.feed 6 8 l).2.1, (B64.feed 6 8 l).2.2, ?_⟩
          unfold B64.groups
          rw [if_pos (by omega)]
          exact hJ
        clear hJ
        obtain ⟨h, c, hJ2⟩ := hJ2
        go_wp2_with fail
        go_loopg [31] ((4 - (B64.groups l).length % 4) % 4) (fun g _ wr => ∃ m, g + m = (4 - (B64.groups l).length % 4) % 4 ∧ Lib.IsBuilderF 66 5 w.heap.size w.heap.size (charCells (B64.groups l) ++ List.replicate m (.int .u8 61)) wr ∧ Below w.heap.size w wr)
        case atStart => exact ⟨0, by omega, by simpa using hJ2.1, hJ2.2.2.2.2.2⟩
        case round =>
          clear hJ2
          obtain ⟨m, hm, hI, hbel⟩ := hrel
          have hsz : w.heap.size ≤ wr.heap.size := hbel.size
          obtain ⟨n, hn⟩ : ∃ n, n = (B64.groups l).length + m := ⟨_, rfl⟩
          have hlen := len_any (w := wr) (n := n) (by simp [charCells_length, hn]) hI
          have hn2 : n ≤ 3000000 := by omega
          have hcap2 : (charCells (B64.groups l) ++ List.replicate m (Value.int .u8 61)).length + 1 ≤ 140737488355328 := by simp [charCells_length]; omega
          have HL := Lib.hid hlen
          have HC := Lib.hid hcap2
          have HM := Lib.hid hm
          have HN := Lib.hid hn
          clear hlen hm hn hcap2
          by_cases hg : gk = 0
          · subst hg
            have hne : ((n : Int) % 4 != 0) = false := by
              have h1 := HM.out
              have h2 := HN.out
              have h3 : n % 4 = 0 := by omega
              simp
              omega
            have hI2 : Lib.IsBuilderF 66 5 w.heap.size w.heap.size (Lib.byteCells (B64.encT l)) wr := by
              have h1 := HM.out
              have e : m = (4 - (B64.groups l).length % 4) % 4 := by omega
              have e2 : Lib.byteCells (B64.encT l) = charCells (B64.groups l) ++ List.replicate m (.int .u8 61) := by
                rw [B64.encT, ← e]
                simp [Lib.byteCells, charCells]
              rw [e2]
              exact hI
            go_wp2_with (first | (go_at_call 41; refine HL.out.mono ?_; rintro e w' ⟨rfl, rfl⟩) | (go_at_call 38; refine (Tryd.Builder_String_any_f _ _ _ _ hI2 hsz).mono ?_; rintro e w' ⟨rfl, _, hb2⟩))
            go_ret
            exact ⟨rfl, hbel.trans hb2⟩
          · have hne : ((n : Int) % 4 != 0) = true := by
              have h1 := HM.out
              have h2 := HN.out
              have h3 : n % 4 ≠ 0 := by omega
              simp
              omega
            go_wp2_with (first | (go_at_call 41; refine HL.out.mono ?_; rintro e w' ⟨rfl, rfl⟩) | (go_at_call 37; refine (Tryd.Builder_WriteByte_k _ _ _ _ _ hI HC.out hsz).mono ?_; rintro e w' ⟨rfl, hI2, hb2, _⟩))
            go_roundg (gk - 1)
            case rel => exact ⟨m + 1, by have := HM.out; omega, by rw [List.replicate_succ', ← List.append_assoc]; exact .inr hI2, hbel.trans hb2⟩
            case measure => omega
      · have hb0 : (0 : Int) < (l.length : Int) * 8 % 6 := by omega
        have hnum : ((6 : Int) - (l.length : Int) * 8 % 6) = ((6 - 8 * l.length % 6 : Nat) : Int) := by omega
        have HNUM := Lib.hid hnum
        clear hnum
        go_wp2_with fail
        rw [HNUM.out]
        have hgr : (B64.put 6 ((B64.feed 6 8 l).1, (B64.feed 6 8 l).2.1, (B64.feed 6 8 l).2.2) 0 (6 - 8 * l.length % 6)).1 = B64.groups l := by
          unfold B64.groups
          rw [if_neg (by omega)]
        refine (add_any hC _ _ _ 0 (6 - 8 * l.length % 6) wr (by omega) (by omega) (by omega) (by have := HSP.out.2.1; omega) HSP.out.2.2.1 (Nat.two_pow_pos _) hJ (by rw [hgr]; omega)).mono ?_
        rw [hgr]
        rintro e w2 ⟨rfl, hJ2⟩
        clear hJ hgr
        go_wp2_with fail
        go_loopg [31] ((4 - (B64.groups l).length % 4) % 4) (fun g _ wr => ∃ m, g + m = (4 - (B64.groups l).length % 4) % 4 ∧ Lib.IsBuilderF 66 5 w.heap.size w.heap.size (charCells (B64.groups l) ++ List.replicate m (.int .u8 61)) wr ∧ Below w.heap.size w wr)
        case atStart => exact ⟨0, by omega, by simpa using hJ2.1, hJ2.2.2.2.2.2⟩
        case round =>
          clear hJ2
          obtain ⟨m, hm, hI, hbel⟩ := hrel
          have hsz : w.heap.size ≤ wr.heap.size := hbel.size
          obtain ⟨n, hn⟩ : ∃ n, n = (B64.groups l).length + m := ⟨_, rfl⟩
          have hlen := len_any (w := wr) (n := n) (by simp [charCells_length, hn]) hI
          have hn2 : n ≤ 3000000 := by omega
          have hcap2 : (charCells (B64.groups l) ++ List.replicate m (Value.int .u8 61)).length + 1 ≤ 140737488355328 := by simp [charCells_length]; omega
          have HL := Lib.hid hlen
          have HC := Lib.hid hcap2
          have HM := Lib.hid hm
          have HN := Lib.hid hn
          clear hlen hm hn hcap2
          by_cases hg : gk = 0
          · subst hg
            have hne : ((n : Int) % 4 != 0) = false := by
              have h1 := HM.out
              have h2 := HN.out
              have h3 : n % 4 = 0 := by omega
              simp
              omega
            have hI2 : Lib.IsBuilderF 66 5 w.heap.size w.heap.size (Lib.byteCells (B64.encT l)) wr := by
              have h1 := HM.out
              have e : m = (4 - (B64.groups l).length % 4) % 4 := by omega
              have e2 : Lib.byteCells (B64.encT l) = charCells (B64.groups l) ++ List.replicate m (.int .u8 61) := by
                rw [B64.encT, ← e]
                simp [Lib.byteCells, charCells]
              rw [e2]
              exact hI
            go_wp2_with (first | (go_at_call 41; refine HL.out.mono ?_; rintro e w' ⟨rfl, rfl⟩) | (go_at_call 38; refine (Tryd.Builder_String_any_f _ _ _ _ hI2 hsz).mono ?_; rintro e w' ⟨rfl, _, hb2⟩))
            go_ret
            exact ⟨rfl, hbel.trans hb2⟩
          · have hne : ((n : Int) % 4 != 0) = true := by
              have h1 := HM.out
              have h2 := HN.out
              have h3 : n % 4 ≠ 0 := by omega
              simp
              omega
            go_wp2_with (first | (go_at_call 41; refine HL.out.mono ?_; rintro e w' ⟨rfl, rfl⟩) | (go_at_call 37; refine (Tryd.Builder_WriteByte_k _ _ _ _ _ hI HC.out hsz).mono ?_; rintro e w' ⟨rfl, hI2, hb2, _⟩))
            go_roundg (gk - 1)
            case rel => exact ⟨m + 1, by have := HM.out; omega, by rw [List.replicate_succ', ← List.append_assoc]; exact .inr hI2, hbel.trans hb2⟩
            case measure => omega
end Go.Proofs.YtbojodgeknjpjaaDoor
