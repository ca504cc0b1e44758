/- Scalar, Size and Encode of the reference: what each answers; each writes nothing that was there. -/
import Derived.Test.YtbjhomihmlijiaaDoorDecPlain
import Derived.Test.YtbjhomihmlijiaaDoorRef
import Derived.Laws.AppendOwnNone
namespace Go.Proofs.YtbjhomihmlijiaaDoor
open Go.RowKit

theorem scalar_yes (r : Nat) (w : World) (hr : U8.ok r) : Calls Tryd.prog 22 #[.int .i64 r] w fun e w' => e = .returned (.bool true) ∧ w = w' := by
  obtain ⟨h1, h2⟩ := hr
  have g0 : (0 : Int) ≤ (r : Int) := by omega
  have g1 : (r : Int) ≤ 1114111 := by omega
  rcases h2 with h | h
  · have g2 : (r : Int) < 55296 := by omega
    clear h1 h
    go_enter Tryd.func22, Tryd.ntmps22
    go_wp2_with fail
    go_ret
    exact ⟨rfl, rfl⟩
  · have g2 : ¬ (r : Int) < 55296 := by omega
    have g3 : (57343 : Int) < (r : Int) := by omega
    clear h1 h
    go_enter Tryd.func22, Tryd.ntmps22
    go_wp2_with fail
    go_ret
    exact ⟨rfl, rfl⟩

theorem scalar_no (r : Int) (w : World) (hr : r < 0 ∨ 1114111 < r ∨ (55296 ≤ r ∧ r ≤ 57343)) : Calls Tryd.prog 22 #[.int .i64 r] w fun e w' => e = .returned (.bool false) ∧ w = w' := by
  by_cases h1 : 0 ≤ r
  · by_cases h2 : r ≤ 1114111
    · have h3 : ¬ r < 55296 := by omega
      have h4 : ¬ 57343 < r := by omega
      clear hr
      go_enter Tryd.func22, Tryd.ntmps22
      go_wp2_with fail
      go_ret
      exact ⟨rfl, rfl⟩
    · clear hr
      go_enter Tryd.func22, Tryd.ntmps22
      go_wp2_with fail
      go_ret
      exact ⟨rfl, rfl⟩
  · clear hr
    go_enter Tryd.func22, Tryd.ntmps22
    go_wp2_with fail
    go_ret
    exact ⟨rfl, rfl⟩

theorem most_steps (r k : Nat) (hr : r ≤ 1114111) (hk1 : 1 ≤ k) (hk : k ≤ U8.esize r) : (k < U8.esize r → U8.most k < r) ∧ (k = U8.esize r → ¬ U8.most k < r) := by
  have hc := U8.esize_cases r
  have h4 : k = 1 ∨ k = 2 ∨ k = 3 ∨ k = 4 := by omega
  rcases h4 with rfl | rfl | rfl | rfl <;> simp [U8.most] <;> omega

set_option maxHeartbeats 1000000 in
theorem size_any (r : Nat) (hr : r ≤ 1114111) (w : World) (n : Nat) (hn : n = U8.esize r) :
    Calls Tryd.prog 39 #[.int .i64 r] w fun e w' => e = .returned (.int .i64 n) ∧ Below w.heap.size w w' := by
  have hs := most_steps r
  have hn4 : 1 ≤ n ∧ n ≤ 4 := by rcases U8.esize_cases r with h | h | h | h <;> omega
  have HS := Lib.hid (fun k h1 h2 => hs k hr h1 h2)
  have HN := Lib.hid hn
  clear hs hr hn
  go_enter Tryd.func39, Tryd.ntmps39
  go_wp2_with fail
  go_loopw [3] (fun nn wr => ∃ k : Nat, nn = .int .i64 k ∧ 1 ≤ k ∧ k ≤ n ∧ Below w.heap.size w wr) (fun nn _ => n - (intOf nn).toNat)
  case atStart => exact ⟨1, rfl, Nat.le_refl _, hn4.1, Below.refl _ _⟩
  case round =>
    obtain ⟨k, rfl, hk1, hkn, hb⟩ := hrel
    obtain ⟨m, hm⟩ : ∃ m, U8.most k = m := ⟨_, rfl⟩
    have hmo := most_any k wr (by omega) m hm
    obtain ⟨s1, s2⟩ := HS.out k hk1 (by rw [← HN.out]; exact hkn)
    rw [hm, ← HN.out] at s1 s2
    have HMO := Lib.hid hmo
    have hsz := hb.size
    by_cases hlt : k < n
    · have g : (m : Int) < (r : Int) := by have := s1 hlt; omega
      clear hmo hm s1 s2
      go_wp2_with fail
      refine HMO.out.mono ?_
      rintro e w1 ⟨rfl, hb1⟩
      go_wp2_with fail
      go_roundw
      case rel => exact ⟨k + 1, by go_num, by omega, hlt, hb.trans (hb1.mono hsz)⟩
      case measure => simp [intOf]; omega
    · obtain rfl : k = n := by omega
      have g : ¬ (m : Int) < (r : Int) := by have := s2 rfl; omega
      clear hmo hm s1 s2
      go_wp2_with fail
      refine HMO.out.mono ?_
      rintro e w1 ⟨rfl, hb1⟩
      go_wp2_with fail
      go_ret
      exact ⟨rfl, hb.trans (hb1.mono hsz)⟩

def nbCells (xs : List Nat) : List Value := xs.map fun n : Nat => Value.int .u8 n

theorem nb_bytes (xs : List Nat) (h : ∀ x ∈ xs, x < 256) : nbCells xs = Lib.byteCells (xs.map UInt8.ofNat) := by
  unfold nbCells Lib.byteCells
  rw [List.map_map]
  refine List.map_congr_left fun x hx => ?_
  have := h x hx
  simp
  omega

theorem wpList_push (w : World) {ops : Array Oper} {rest : List Oper} {o : Oper} {a : Act} {Q : Exit → Act → World → Prop} (hgd : o.guard = none) (s x : Operand)
    (ho : o.op = .call { callee := .builtin .append, args := #[s, x], argTypes := #[38, 38] })
    (base B z : Nat) (v : Value) (xs : List Nat) (hs : a.eval s = .slice (some ⟨B, 0, none⟩) 1 1) (hblk : w.heap[B]? = some (.cells #[.int .u8 z] 5 (0, 0))) (hB : base ≤ B)
    (hx : a.eval x = v) (hown : w.ownsRow base 5 1 v xs.length (nbCells xs)) (hn : xs.length ≤ 100)
    (h : ∀ v' w', Hid (w'.ownsRow base 5 1 v' (z :: xs).length (nbCells (z :: xs))) → Hid (w.grownBy w' (some B)) → wpList Tryd.prog ops Q rest (a.put o.dst v') w') : wpList Tryd.prog ops Q (o :: rest) a w := by
  obtain ⟨i0, hi, hz0, hz1, hz2⟩ := info_parts infoB
  have hbl : B < w.heap.size := (Array.getElem?_eq_some_iff.1 hblk).1
  have hone : w.ownsRow base 5 1 (.slice (some ⟨B, 0, none⟩) 1 1) 1 [.int .u8 z] := ⟨rfl, .inr ⟨B, 1, _, rfl, hB, hblk, by omega, by unfold maxLen; omega, rfl, rfl⟩⟩
  rcases hown.2 with ⟨rfl, h0⟩ | ⟨g, cap, cur, rfl, hg, hh, hnc, hm, hsz, ht⟩
  · have : xs = [] := List.length_eq_zero_iff.1 h0
    subst this
    exact wpList_append_own_none hgd s x 38 ho base 5 i0 1 Tryd.underlying38 hi _ 1 _ hs hone hx (h _ _ (Lib.hid hone) (Lib.hid (World.grownBy.refl w _)))
  · refine wpList_append_own _ hgd s x 38 ho base 5 i0 (.int .u8 0) 1 1 Tryd.underlying38 hi hz0 hz1 hz2 rfl (by decide) _ 1 _ hs hone ⟨g, 0, none⟩ xs.length cap (nbCells xs) hx (by simp [nbCells]) (fun j u hj => hown.cells (g := g) rfl j u hj) ?_ (by unfold maxLen; omega) (by omega) (by omega)
      (fun v' w' h2 h3 _ => h v' w' (Lib.hid (by rw [List.length_cons, Nat.add_comm]; exact h2)) (Lib.hid h3))
    intro u hu
    simp only [nbCells, List.mem_map] at hu
    obtain ⟨y, _, rfl⟩ := hu
    rfl
end Go.Proofs.YtbjhomihmlijiaaDoor
