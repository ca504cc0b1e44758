/- Small contracts of layer 3: the length that a first byte tells, what continues, what begins. -/
import Derived.Test.YtbjhomihmlijiaaDoorPlain
import Derived.Test.YtbjhomihmlijiaaDoorChecked
import Derived.WalkKit
import Derived.WalkSpells
import Derived.WalkLawsBesides
import Derived.Laws.BitsAllLaws
import Derived.Lib.Hide
import Derived.Lib.IndexLaws
import Derived.OneCell
import Derived.Below
import Derived.Lib.LaidTab
namespace Go.Proofs.YtbjhomihmlijiaaDoor
open Go.RowKit

def Tab (w : World) : Prop := 0 < w.heap.size ∧ ∃ t fr, w.heap[0]? = some (.cells #[.int .i32 0, .int .i32 128, .int .i32 2048, .int .i32 65536, .int .i32 1114112] t fr)

theorem Tab.cell {w : World} (h : Tab w) (i : Nat) (hi : i < 5) : w.cell? ⟨0, i, none⟩ = some (.int .i32 (U8.bnd i)) := by
  obtain ⟨_, t, fr, hb⟩ := h
  rw [Lib.cell_of_heap hb]
  match i, hi with
  | 0, _ => rfl
  | 1, _ => rfl
  | 2, _ => rfl
  | 3, _ => rfl
  | 4, _ => rfl

theorem Tab.below {w w' : World} {B : Nat} (h : Tab w) (hb : Below B w w') (hB : 0 < B) : Tab w' := by
  obtain ⟨h1, t, fr, h2⟩ := h
  exact ⟨Nat.lt_of_lt_of_le h1 hb.size, t, fr, by rw [hb.block 0 hB]; exact h2⟩

theorem length_any (c : Nat) (w : World) (m : Nat) (hm : U8.len c = m) : Calls Tryd.prog 46 #[.int .u8 c] w fun e w' => e = .returned (.int .i64 m) ∧ w = w' := by
  subst hm
  unfold U8.len
  by_cases h1 : 248 ≤ c
  · have g1 : (248 : Int) ≤ (c : Int) := by omega
    rw [if_pos h1]
    go_enter Tryd.func46, Tryd.ntmps46
    go_wp2
    go_ret
    exact ⟨rfl, rfl⟩
  · have g1 : ¬ (248 : Int) ≤ (c : Int) := by omega
    rw [if_neg h1]
    by_cases h2 : 240 ≤ c
    · have g2 : (240 : Int) ≤ (c : Int) := by omega
      rw [if_pos h2]
      go_enter Tryd.func46, Tryd.ntmps46
      go_wp2
      go_ret
      exact ⟨rfl, rfl⟩
    · have g2 : ¬ (240 : Int) ≤ (c : Int) := by omega
      rw [if_neg h2]
      by_cases h3 : 224 ≤ c
      · have g3 : (224 : Int) ≤ (c : Int) := by omega
        rw [if_pos h3]
        go_enter Tryd.func46, Tryd.ntmps46
        go_wp2
        go_ret
        exact ⟨rfl, rfl⟩
      · have g3 : ¬ (224 : Int) ≤ (c : Int) := by omega
        rw [if_neg h3]
        by_cases h4 : 192 ≤ c
        · have g4 : (192 : Int) ≤ (c : Int) := by omega
          rw [if_pos h4]
          go_enter Tryd.func46, Tryd.ntmps46
          go_wp2
          go_ret
          exact ⟨rfl, rfl⟩
        · have g4 : ¬ (192 : Int) ≤ (c : Int) := by omega
          rw [if_neg h4]
          by_cases h5 : c < 128
          · have g5 : (c : Int) < 128 := by omega
            rw [if_pos h5]
            go_enter Tryd.func46, Tryd.ntmps46
            go_wp2
            go_ret
            exact ⟨rfl, rfl⟩
          · have g5 : ¬ (c : Int) < 128 := by omega
            rw [if_neg h5]
            go_enter Tryd.func46, Tryd.ntmps46
            go_wp2
            go_ret
            exact ⟨rfl, rfl⟩

set_option maxRecDepth 100000 in
theorem cont_bits : ∀ c : Fin 256, (bits .and .u8 ((c : Nat) : Int) 192 == 128) = U8.cont c := by decide

theorem cont_any (c : Nat) (hc : c < 256) (w : World) (b : Bool) (hb : U8.cont c = b) : Calls Tryd.prog 40 #[.int .u8 c] w fun e w' => e = .returned (.bool b) ∧ w = w' := by
  have h1 := cont_bits ⟨c, hc⟩
  simp only at h1
  go_enter Tryd.func40, Tryd.ntmps40
  go_wp2
  go_ret
  refine ⟨?_, rfl⟩
  rw [← hb, ← h1]
  rfl

theorem i32_or_nat (a b : Nat) (ha : a < 2147483648) (hb : b < 2147483648) : bits .or .i32 (a : Int) (b : Int) = ((a ||| b : Nat) : Int) := by
  have hx : a ||| b < 2 ^ 31 := Nat.or_lt_two_pow (by omega) (by omega)
  show IntKind.i32.wrap ((BitVec.ofInt 32 (a : Int) ||| BitVec.ofInt 32 (b : Int)).toNat : Int) = _
  rw [BitVec.toNat_or, ofInt_u32 a (by omega), ofInt_u32 b (by omega)]
  simp [IntKind.wrap, IntKind.bits, IntKind.signed]
  omega

/-- the lower bits are free: an or is a sum -/
theorem i32_low (u k : Nat) (p : Nat) (hp : p = 2 ^ k) (h : u * p < 2097152) (hk : p ≤ 2097152) (h0 : 0 < p) : bits .or .i32 ((u * p : Nat) : Int) ((p - 1 : Nat) : Int) = ((u * p + (p - 1) : Nat) : Int) := by
  rw [i32_or_nat _ _ (by omega) (by omega), nat_join k _ _ (by rw [hp, Nat.mul_mod_left]) (by omega)]

set_option maxRecDepth 100000 in
theorem begins_any (u n left : Nat) (w : World) (hT : Tab w) (hn : n = 2 ∨ n = 3 ∨ n = 4) (hl : left ≤ 3) (hu : u * 64 ^ left < 2097152) (b : Bool) (hb : U8.beg u n left = b) :
    Calls Tryd.prog 47 #[.int .i32 u, .int .i64 n, .int .i64 left] w fun e w' => e = .returned (.bool b) ∧ w = w' := by
  have c1 := hT.cell n (by omega)
  have c0 := hT.cell (n - 1) (by omega)
  have hl2 : left = 0 ∨ left = 1 ∨ left = 2 ∨ left = 3 := by omega
  rcases hl2 with rfl | rfl | rfl | rfl
  · have hu' : u < 2097152 := by simpa using hu
    have hor : bits .or .i32 (u : Int) 0 = (u : Int) := by
      have := i32_low u 0 1 rfl (by omega) (by omega) (by omega)
      simpa using this
    have HB := Lib.hid hb
    clear hu hb
    go_enter Tryd.func47, Tryd.ntmps47
    go_wp2_with fail
    all_goals
      go_ret
      refine ⟨?_, rfl⟩
      rw [← HB.out]
      refine congrArg (fun b => Ending.returned (Value.bool b)) ?_
      rw [Bool.eq_iff_iff]
      unfold U8.beg
      simp
      try omega
  · have hu' : u * 64 < 2097152 := by simpa using hu
    have hb' : U8.beg u n 1 = (!(decide (55296 ≤ u * 64) && decide (u * 64 + 63 ≤ 57343)) && (decide (U8.bnd (n - 1) ≤ u * 64 + 63) && decide (u * 64 < U8.bnd n))) := rfl
    obtain ⟨x, hx⟩ : ∃ x : Nat, x = u * 64 := ⟨_, rfl⟩
    rw [hb, ← hx] at hb'
    have HB := Lib.hid hb'
    have hx2 : x < 2097152 := by omega
    have hs : Op.shift .shl .i32 (u : Int) .i64 6 = pure (.int .i32 (x : Int)) := by
      rw [shift_shl_any _ _ _ _ (by decide)]
      have : IntKind.i32.wrap ((u : Int) * 2 ^ min (6 : Int).toNat IntKind.i32.bits) = (x : Int) := by
        show IntKind.i32.wrap ((u : Int) * 64) = _
        simp [IntKind.wrap, IntKind.bits, IntKind.signed]
        omega
      rw [this]
    have hs1 : Op.shift .shl .i32 1 .i64 6 = pure (.int .i32 64) := by
      rw [shift_shl_any _ _ _ _ (by decide)]
      rfl
    have hor : bits .or .i32 (x : Int) 63 = (x : Int) + 63 := by
      have := i32_low u 6 64 rfl (by omega) (by omega) (by omega)
      rw [← hx] at this
      simpa using this
    have HOR := Lib.hid hor
    clear hu hb hx hu' hb' hor
    show Calls Tryd.prog 47 #[.int .i32 u, .int .i64 n, .int .i64 1] w _
    go_enter Tryd.func47, Tryd.ntmps47
    go_wp2_with fail
    all_goals
      go_ret
      refine ⟨?_, rfl⟩
      rw [HB.out]
      refine congrArg (fun b => Ending.returned (Value.bool b)) ?_
      have hor := HOR.out
      rw [Bool.eq_iff_iff]
      simp
      omega
  · have hu' : u * 4096 < 2097152 := by simpa using hu
    have hb' : U8.beg u n 2 = (!(decide (55296 ≤ u * 4096) && decide (u * 4096 + 4095 ≤ 57343)) && (decide (U8.bnd (n - 1) ≤ u * 4096 + 4095) && decide (u * 4096 < U8.bnd n))) := rfl
    obtain ⟨x, hx⟩ : ∃ x : Nat, x = u * 4096 := ⟨_, rfl⟩
    rw [hb, ← hx] at hb'
    have HB := Lib.hid hb'
    have hx2 : x < 2097152 := by omega
    have hs : Op.shift .shl .i32 (u : Int) .i64 12 = pure (.int .i32 (x : Int)) := by
      rw [shift_shl_any _ _ _ _ (by decide)]
      have : IntKind.i32.wrap ((u : Int) * 2 ^ min (12 : Int).toNat IntKind.i32.bits) = (x : Int) := by
        show IntKind.i32.wrap ((u : Int) * 4096) = _
        simp [IntKind.wrap, IntKind.bits, IntKind.signed]
        omega
      rw [this]
    have hs1 : Op.shift .shl .i32 1 .i64 12 = pure (.int .i32 4096) := by
      rw [shift_shl_any _ _ _ _ (by decide)]
      rfl
    have hor : bits .or .i32 (x : Int) 4095 = (x : Int) + 4095 := by
      have := i32_low u 12 4096 rfl (by omega) (by omega) (by omega)
      rw [← hx] at this
      simpa using this
    have HOR := Lib.hid hor
    clear hu hb hx hu' hb' hor
    show Calls Tryd.prog 47 #[.int .i32 u, .int .i64 n, .int .i64 2] w _
    go_enter Tryd.func47, Tryd.ntmps47
    go_wp2_with fail
    all_goals
      go_ret
      refine ⟨?_, rfl⟩
      rw [HB.out]
      refine congrArg (fun b => Ending.returned (Value.bool b)) ?_
      have hor := HOR.out
      rw [Bool.eq_iff_iff]
      simp
      omega
  · have hu' : u * 262144 < 2097152 := by simpa using hu
    have hb' : U8.beg u n 3 = (!(decide (55296 ≤ u * 262144) && decide (u * 262144 + 262143 ≤ 57343)) && (decide (U8.bnd (n - 1) ≤ u * 262144 + 262143) && decide (u * 262144 < U8.bnd n))) := rfl
    obtain ⟨x, hx⟩ : ∃ x : Nat, x = u * 262144 := ⟨_, rfl⟩
    rw [hb, ← hx] at hb'
    have HB := Lib.hid hb'
    have hx2 : x < 2097152 := by omega
    have hs : Op.shift .shl .i32 (u : Int) .i64 18 = pure (.int .i32 (x : Int)) := by
      rw [shift_shl_any _ _ _ _ (by decide)]
      have : IntKind.i32.wrap ((u : Int) * 2 ^ min (18 : Int).toNat IntKind.i32.bits) = (x : Int) := by
        show IntKind.i32.wrap ((u : Int) * 262144) = _
        simp [IntKind.wrap, IntKind.bits, IntKind.signed]
        omega
      rw [this]
    have hs1 : Op.shift .shl .i32 1 .i64 18 = pure (.int .i32 262144) := by
      rw [shift_shl_any _ _ _ _ (by decide)]
      rfl
    have hor : bits .or .i32 (x : Int) 262143 = (x : Int) + 262143 := by
      have := i32_low u 18 262144 rfl (by omega) (by omega) (by omega)
      rw [← hx] at this
      simpa using this
    have HOR := Lib.hid hor
    clear hu hb hx hu' hb' hor
    show Calls Tryd.prog 47 #[.int .i32 u, .int .i64 n, .int .i64 3] w _
    go_enter Tryd.func47, Tryd.ntmps47
    go_wp2_with fail
    all_goals
      go_ret
      refine ⟨?_, rfl⟩
      rw [HB.out]
      refine congrArg (fun b => Ending.returned (Value.bool b)) ?_
      have hor := HOR.out
      rw [Bool.eq_iff_iff]
      simp
      omega
end Go.Proofs.YtbjhomihmlijiaaDoor
