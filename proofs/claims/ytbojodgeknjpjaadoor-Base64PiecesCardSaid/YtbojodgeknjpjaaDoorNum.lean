/- Small laws on and, or, shifts at 64 bits for numbers that are not negative; no program is named here. -/
import Derived.Laws.BitsAllLaws
import Derived.WalkKit
namespace Go.Proofs.YtbojodgeknjpjaaDoor
open Go.RowKit

theorem i64_and_nat (a b : Nat) (ha : a < 9223372036854775808) (hb : b < 9223372036854775808) : bits .and .i64 (a : Int) (b : Int) = ((a &&& b : Nat) : Int) := by
  have hx : a &&& b < 2 ^ 63 := Nat.and_lt_two_pow _ (by omega)
  show IntKind.i64.wrap ((BitVec.ofInt 64 (a : Int) &&& BitVec.ofInt 64 (b : Int)).toNat : Int) = _
  rw [BitVec.toNat_and, ofInt_u64 a (by omega), ofInt_u64 b (by omega), IntKind.wrap_i64]
  omega

theorem i64_or_nat (a b : Nat) (ha : a < 9223372036854775808) (hb : b < 9223372036854775808) : bits .or .i64 (a : Int) (b : Int) = ((a ||| b : Nat) : Int) := by
  have hx : a ||| b < 2 ^ 63 := Nat.or_lt_two_pow (by omega) (by omega)
  show IntKind.i64.wrap ((BitVec.ofInt 64 (a : Int) ||| BitVec.ofInt 64 (b : Int)).toNat : Int) = _
  rw [BitVec.toNat_or, ofInt_u64 a (by omega), ofInt_u64 b (by omega), IntKind.wrap_i64]
  omega

theorem pow_bound {n k : Nat} (h : n ≤ k) : 2 ^ n ≤ 2 ^ k := Nat.pow_le_pow_right (by omega) h

/-- held<<k | v -/
theorem shl_or (h c v k : Nat) (hh : h < 2 ^ c) (hv : v < 2 ^ k) (hc : c + k ≤ 60) : bits .or .i64 (wrap64 ((h : Int) * 2 ^ k)) (v : Int) = ((h * 2 ^ k + v : Nat) : Int) := by
  have hb : (h + 1) * 2 ^ k ≤ 2 ^ (c + k) := by rw [Nat.pow_add]; exact Nat.mul_le_mul_right _ hh
  have h60 : 2 ^ (c + k) ≤ 2 ^ 60 := pow_bound hc
  rw [Nat.add_mul] at hb
  have e : ((h : Int) * 2 ^ k) = ((h * 2 ^ k : Nat) : Int) := by push_cast; rfl
  rw [e, IntWalk.wrap64_in _ (by omega), i64_or_nat _ _ (by omega) (by omega), nat_join k _ _ (Nat.mul_mod_left _ _) hv]

/-- 1<<c - 1, and the low bits -/
theorem low_bits (h c : Nat) (hh : h < 2 ^ 60) (hc : c ≤ 60) : bits .and .i64 (h : Int) (((2 ^ c : Nat) : Int) - 1) = ((h % 2 ^ c : Nat) : Int) := by
  have h60 : 2 ^ c ≤ 2 ^ 60 := pow_bound hc
  have hp := Nat.two_pow_pos c
  have e : (((2 ^ c : Nat) : Int) - 1) = ((2 ^ c - 1 : Nat) : Int) := by omega
  rw [e, i64_and_nat _ _ (by omega) (by omega), Nat.and_two_pow_sub_one_eq_mod]

theorem low_mask (h c : Nat) (hh : h < 2 ^ 60) (hc : c ≤ 60) : bits .and .i64 (h : Int) (wrap64 (wrap64 (2 ^ c) - 1)) = ((h % 2 ^ c : Nat) : Int) := by
  have h60 : 2 ^ c ≤ 2 ^ 60 := pow_bound hc
  have hp := Nat.two_pow_pos c
  have e : (2 : Int) ^ c = ((2 ^ c : Nat) : Int) := by push_cast; rfl
  rw [e, IntWalk.wrap64_in ((2 ^ c : Nat) : Int) (by omega), IntWalk.wrap64_in _ (by omega), low_bits h c hh hc]

end Go.Proofs.YtbojodgeknjpjaaDoor
