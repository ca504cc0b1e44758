/- The program's Split: the function that collects digits. -/
import Derived.Test.YtgfolgmheinbiaaDoorRRRMid7
import Derived.Test.YtgfolgmheinbiaaDoorRRRSevPlain
import Derived.StillTailTactics
import Derived.BigQuiet
namespace Go.Proofs.YtgfolgmheinbiaaDoorRRR
open Go.RowKit

/-- of two blocks a call may write, and no other -/
def Two (g k : Nat) (w w' : World) : Prop := (∀ i, i ≠ g → i ≠ k → w'.heap[i]? = w.heap[i]?) ∧ ∀ B w0, Below B w0 w → B ≤ g → B ≤ k → Below B w0 w'
theorem Two.refl (g k : Nat) (w : World) : Two g k w w := ⟨fun _ _ _ => rfl, fun _ _ h _ _ => h⟩
theorem Two.trans {g k : Nat} {a b c : World} (h : Two g k a b) (h2 : Two g k b c) : Two g k a c :=
  ⟨fun i h1 h3 => (h2.1 i h1 h3).trans (h.1 i h1 h3), fun B w0 hb h1 h3 => h2.2 B w0 (h.2 B w0 hb h1 h3) h1 h3⟩
theorem Two.put1 {g k : Nat} {a b : World} (h : Two g k a b) (j : Nat) (u : Value) : Two g k a (b.setCell ⟨g, j, none⟩ u) :=
  ⟨fun i h1 h3 => (heap_setCell_other b ⟨g, j, none⟩ i u h1).trans (h.1 i h1 h3), fun B w0 hb h1 h3 => below_put (h.2 B w0 hb h1 h3) g j h1 u⟩
theorem Two.put2 {g k : Nat} {a b : World} (h : Two g k a b) (j : Nat) (u : Value) : Two g k a (b.setCell ⟨k, j, none⟩ u) :=
  ⟨fun i h1 h3 => (heap_setCell_other b ⟨k, j, none⟩ i u h3).trans (h.1 i h1 h3), fun B w0 hb h1 h3 => below_put (h.2 B w0 hb h1 h3) k j h3 u⟩
theorem Two.draw {g k : Nat} {a b : World} (h : Two g k a b) : Two g k a b.drew := ⟨h.1, fun B w0 hb h1 h3 => (h.2 B w0 hb h1 h3).drew⟩

/-- the last digits of a number to the base 16, the highest first -/
def dgs (x : Nat) : Nat → List Int
  | 0 => []
  | c + 1 => ((x / 16 ^ c % 16 : Nat) : Int) :: dgs x c
theorem dgs_len (x : Nat) : ∀ c, (dgs x c).length = c
  | 0 => rfl
  | c + 1 => by rw [dgs, List.length_cons, dgs_len x c]

theorem i64_and_15 (a : Nat) (ha : a < 9223372036854775808) : bits .and .i64 (a : Int) 15 = ((a % 16 : Nat) : Int) := by
  have hx : a &&& 15 < 2 ^ 63 := Nat.and_lt_two_pow _ (by omega)
  have ho : ∀ a : Nat, a < 9223372036854775808 → (BitVec.ofInt 64 (a : Int)).toNat = a := fun a ha => by
    rw [BitVec.ofInt_natCast, BitVec.toNat_ofNat]; exact Nat.mod_eq_of_lt (by omega)
  show IntKind.i64.wrap ((BitVec.ofInt 64 (a : Int) &&& BitVec.ofInt 64 ((15 : Nat) : Int)).toNat : Int) = _
  have e : a &&& 15 = a % 16 := Nat.and_two_pow_sub_one_eq_mod a 4
  rw [BitVec.toNat_and, ho a ha, ho 15 (by omega), IntKind.wrap_i64, e]
  omega

theorem hand0 (x : Nat) (h : x ≤ 1000) : bits .and .i64 (x : Int) 15 = ((x / 16 ^ 0 % 16 : Nat) : Int) := by
  rw [Nat.pow_zero, Nat.div_one]
  exact i64_and_15 x (by omega)
theorem hand1 (x : Nat) (h : x ≤ 1000) : bits .and .i64 ((x : Int) / 16) 15 = ((x / 16 ^ 1 % 16 : Nat) : Int) := by
  have h1 := i64_and_15 (x / 16) (by omega)
  rw [Int.natCast_ediv] at h1
  exact h1
theorem hand2 (x : Nat) (h : x ≤ 1000) : bits .and .i64 ((x : Int) / 256) 15 = ((x / 16 ^ 2 % 16 : Nat) : Int) := by
  have h1 := i64_and_15 (x / 256) (by omega)
  rw [Int.natCast_ediv] at h1
  exact h1

set_option maxRecDepth 100000 in
set_option maxHeartbeats 1000000 in
theorem collect_any (gd gn : Nat) (hne : gd ≠ gn) (x count n : Nat) (L : List Int) (w : World) (hL : L.length = 35) (hd : Blk w gd 27 (ksC .i64 L)) (hn : Blk w gn 3 #[.int .i64 n]) (hc : count ≤ 3) (hfit : n + count ≤ 35) (hx : x ≤ 1000) :
    Calls Tryd.prog 36 #[.int .i64 x, .int .i64 count, .pointer (some ⟨gd, 0, none⟩), .pointer (some ⟨gn, 0, none⟩)] w fun e w' => e = .returned (.tuple #[]) ∧ Blk w' gd 27 (ksC .i64 (L.take n ++ dgs x count ++ L.drop (n + count))) ∧ Blk w' gn 3 #[.int .i64 (n + count : Nat)] ∧ Two gd gn w w' := by
  have hspl : L.take n ++ dgs x count ++ L.drop (n + count) = splice L n (dgs x count) := by unfold splice; rw [dgs_len]
  rw [hspl]
  have HD := Lib.hid hd; have HN := Lib.hid hn; have HL := Lib.hid hL; have HF := Lib.hid hfit; have HC := Lib.hid hc
  have hcI : (count : Int) ≤ 3 := by omega
  clear hd hn hL hfit hspl hc
  go_enter Tryd.func36, Tryd.ntmps36
  go_wp2_with fail
  go_loopw [6] (fun zv wr => ∃ (c m : Nat) (L' : List Int), zv = .int .i64 ((c : Int) - 1) ∧ c ≤ 3 ∧ m + c = n + count ∧ Hid (L'.length = 35) ∧ Blk wr gd 27 (ksC .i64 L') ∧ Blk wr gn 3 #[.int .i64 m] ∧ Hid (splice L' m (dgs x c) = splice L n (dgs x count)) ∧ Two gd gn w wr) (fun zv _ => (intOf zv + 1).toNat)
  case atStart => exact ⟨count, n, L, rfl, HC.out, rfl, HL, HD.out, HN.out, Lib.hid rfl, Two.refl _ _ _⟩
  case round =>
    obtain ⟨c, m, L', rfl, hc, hm, HL', hD, hN, HS, hT⟩ := hrel
    have T := Lib.hid hT; have D := Lib.hid hD; have N := Lib.hid hN
    clear hT hD hN
    by_cases h0 : c = 0
    · subst h0
      go_wp2_with fail
      go_end0
      have hm2 : n + count = m := by omega
      rw [hm2]
      have hs := HS.out
      rw [dgs, splice_nil] at hs
      exact ⟨rfl, by rw [← hs]; exact D.out, N.out, T.out⟩
    · have hm35 : (m : Int) < 35 := by have := HF.out; omega
      have hm0 : (0 : Int) ≤ (m : Int) := by omega
      have cN : wr.drew.cell? ⟨gn, 0, none⟩ = some (.int .i64 m) := N.out.draw.cell 0
      have fN : wr.drew.frozen? ⟨gn, 0, none⟩ = false := N.out.draw.free 0
      have hmL : m < L'.length := by have := HF.out; have := HL'.out; omega
      have cD := D.out.draw.cell m
      rw [ksC_get .i64 L' m hmL] at cD
      have fD := D.out.draw.free m
      have HML := Lib.hid hmL
      have cN2 : ∀ u, (wr.setCell ⟨gd, m, none⟩ u).drew.cell? ⟨gn, 0, none⟩ = some (.int .i64 m) := fun u => (N.out.away (Ne.symm hne) m u).draw.cell 0
      have fN2 : ∀ u, (wr.setCell ⟨gd, m, none⟩ u).drew.frozen? ⟨gn, 0, none⟩ = false := fun u => (N.out.away (Ne.symm hne) m u).draw.free 0
      clear hmL
      have q0 : IntKind.i64.wrap 0 = 0 := by decide
      have q1 : IntKind.i64.wrap 4 = 4 := by decide
      have q2 : IntKind.i64.wrap 8 = 8 := by decide
      have hcs : c = 1 ∨ c = 2 ∨ c = 3 := by omega
      have HX := Lib.hid hx
      clear h0
      rcases hcs with rfl | rfl | rfl
      · skip
        obtain ⟨d, hd⟩ : ∃ d : Nat, d = x / 16 ^ 0 % 16 := ⟨_, rfl⟩
        have hand : bits .and .i64 (x : Int) 15 = (d : Int) := by rw [hd]; exact hand0 x HX.out
        have HDD := Lib.hid hd
        clear hd
        go_wp2_with fail
        refine wp_region_still_tail 7 (by kernel_rfl) (by kernel_rfl) ?_
        simp only [List.take_succ_cons, List.take_zero, List.drop_succ_cons, List.drop_zero]
        change wpStill _ _ wr.drew (fun a' => wpList _ _ _ _ a' wr.drew) _ _
        repeat still_step
        refine wpStill_nil ?_
        go_wp2_with fail
        go_roundw
        case rel =>
          refine ⟨0, m + 1, L'.set m d, by go_num, by omega, by omega, Lib.hid (by rw [List.length_set]; exact HL'.out), ?_, ?_, Lib.hid ?_, ?_⟩
          · rw [← ksC_set]
            exact ((D.out.put m _).draw).away hne 0 _
          · exact ((N.out.away (Ne.symm hne) m _).draw).put 0 _
          · rw [splice_cons L' m d (dgs x 0) HML.out, HDD.out]
            exact HS.out
          · exact ((T.out.put1 m _).draw).put2 0 _
        case measure => simp [intOf]
      
      · skip
        obtain ⟨d, hd⟩ : ∃ d : Nat, d = x / 16 ^ 1 % 16 := ⟨_, rfl⟩
        have hand : bits .and .i64 ((x : Int) / 16) 15 = (d : Int) := by rw [hd]; exact hand1 x HX.out
        have HDD := Lib.hid hd
        clear hd
        go_wp2_with fail
        refine wp_region_still_tail 7 (by kernel_rfl) (by kernel_rfl) ?_
        simp only [List.take_succ_cons, List.take_zero, List.drop_succ_cons, List.drop_zero]
        change wpStill _ _ wr.drew (fun a' => wpList _ _ _ _ a' wr.drew) _ _
        repeat still_step
        refine wpStill_nil ?_
        go_wp2_with fail
        go_roundw
        case rel =>
          refine ⟨1, m + 1, L'.set m d, by go_num, by omega, by omega, Lib.hid (by rw [List.length_set]; exact HL'.out), ?_, ?_, Lib.hid ?_, ?_⟩
          · rw [← ksC_set]
            exact ((D.out.put m _).draw).away hne 0 _
          · exact ((N.out.away (Ne.symm hne) m _).draw).put 0 _
          · rw [splice_cons L' m d (dgs x 1) HML.out, HDD.out]
            exact HS.out
          · exact ((T.out.put1 m _).draw).put2 0 _
        case measure => simp [intOf]
      
      · skip
        obtain ⟨d, hd⟩ : ∃ d : Nat, d = x / 16 ^ 2 % 16 := ⟨_, rfl⟩
        have hand : bits .and .i64 ((x : Int) / 256) 15 = (d : Int) := by rw [hd]; exact hand2 x HX.out
        have HDD := Lib.hid hd
        clear hd
        go_wp2_with fail
        refine wp_region_still_tail 7 (by kernel_rfl) (by kernel_rfl) ?_
        simp only [List.take_succ_cons, List.take_zero, List.drop_succ_cons, List.drop_zero]
        change wpStill _ _ wr.drew (fun a' => wpList _ _ _ _ a' wr.drew) _ _
        repeat still_step
        refine wpStill_nil ?_
        go_wp2_with fail
        go_roundw
        case rel =>
          refine ⟨2, m + 1, L'.set m d, by go_num, by omega, by omega, Lib.hid (by rw [List.length_set]; exact HL'.out), ?_, ?_, Lib.hid ?_, ?_⟩
          · rw [← ksC_set]
            exact ((D.out.put m _).draw).away hne 0 _
          · exact ((N.out.away (Ne.symm hne) m _).draw).put 0 _
          · rw [splice_cons L' m d (dgs x 2) HML.out, HDD.out]
            exact HS.out
          · exact ((T.out.put1 m _).draw).put2 0 _
        case measure => simp [intOf]
end Go.Proofs.YtgfolgmheinbiaaDoorRRR
