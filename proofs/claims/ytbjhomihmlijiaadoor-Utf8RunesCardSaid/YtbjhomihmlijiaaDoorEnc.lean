/- The program's Encode: the bytes of a code point, and the error of every other number. -/
import Derived.Test.YtbjhomihmlijiaaDoorBytes
import Derived.Deep.Cut
namespace U8
def ok (r : Nat) : Prop := r ≤ 1114111 ∧ (r < 55296 ∨ 57343 < r)
def esize (r : Nat) : Nat := if r < 128 then 1 else if r < 2048 then 2 else if r < 65536 then 3 else 4
def mark (n : Nat) : Nat := if n = 2 then 192 else if n = 3 then 224 else 240

/-- the last j bytes of an encoding -/
def conts (r : Nat) : Nat → List Nat
  | 0 => []
  | j + 1 => (128 + r / 64 ^ j % 64) :: conts r j

def enc (r : Nat) : List Nat := if esize r = 1 then [r] else (mark (esize r) + r / 64 ^ (esize r - 1)) :: conts r (esize r - 1)

theorem conts_len (r j : Nat) : (conts r j).length = j := by
  induction j with
  | zero => rfl
  | succ j ih => simp [conts, ih]

theorem conts_lt (r j : Nat) : ∀ x ∈ conts r j, x < 256 := by
  induction j with
  | zero => simp [conts]
  | succ j ih =>
    intro x hx
    simp only [conts, List.mem_cons] at hx
    rcases hx with rfl | hx
    · omega
    · exact ih x hx

theorem esize_cases (r : Nat) : (esize r = 1 ∧ r < 128) ∨ (esize r = 2 ∧ 128 ≤ r ∧ r < 2048) ∨ (esize r = 3 ∧ 2048 ≤ r ∧ r < 65536) ∨ (esize r = 4 ∧ 65536 ≤ r) := by
  unfold esize
  by_cases h1 : r < 128
  · simp [h1]
  · by_cases h2 : r < 2048
    · simp [h1, h2]; omega
    · by_cases h3 : r < 65536
      · simp [h1, h2, h3]; omega
      · simp [h1, h2, h3]; omega

theorem enc_len (r : Nat) : (enc r).length = esize r := by
  unfold enc
  split
  · simp_all
  · rw [List.length_cons, conts_len]
    rcases esize_cases r with h | h | h | h <;> omega

theorem top_lt (r n : Nat) (hn : n = 2 ∧ r < 2048 ∨ n = 3 ∧ r < 65536 ∨ n = 4 ∧ r ≤ 1114111) : r / 64 ^ (n - 1) < 256 - mark n ∧ r / 64 ^ (n - 1) < 64 := by
  rcases hn with ⟨rfl, h⟩ | ⟨rfl, h⟩ | ⟨rfl, h⟩
  · show r / 64 < 256 - 192 ∧ r / 64 < 64; omega
  · show r / 4096 < 256 - 224 ∧ r / 4096 < 64; omega
  · show r / 262144 < 256 - 240 ∧ r / 262144 < 64; omega

theorem enc_lt (r : Nat) (h : ok r) : ∀ x ∈ enc r, x < 256 := by
  unfold enc
  obtain ⟨h1, _⟩ := h
  split
  · rename_i he
    intro x hx
    simp at hx
    rcases esize_cases r with h | h | h | h <;> omega
  · rename_i he
    intro x hx
    simp only [List.mem_cons] at hx
    rcases hx with rfl | hx
    · have hs := esize_cases r
      have := (top_lt r (esize r) (by omega)).1
      unfold mark at this ⊢
      repeat' split
      all_goals simp_all
      all_goals omega
    · exact conts_lt _ _ x hx

theorem fill_set (r n j : Nat) (h : j + 1 < n) : (List.replicate (n - j) 0 ++ conts r j).set (n - 1 - j) (128 + r / 64 ^ j % 64) = List.replicate (n - (j + 1)) 0 ++ conts r (j + 1) := by
  rw [List.set_append_left _ _ (by simp; omega)]
  have e : n - j = (n - (j + 1)) + 1 := by omega
  rw [e, List.replicate_succ', List.set_append_right _ _ (by simp; omega), List.length_replicate, show n - 1 - j - (n - (j + 1)) = 0 by omega]
  simp [conts]
end U8
namespace Go.Proofs.YtbjhomihmlijiaaDoor
open Go.RowKit

theorem encode_bad (r : Int) (w : World) (hr : r < 0 ∨ 1114111 < r ∨ (55296 ≤ r ∧ r ≤ 57343)) :
    Calls Tryd.prog 21 #[.int .i32 r] w fun e w' => e = .returned (.tuple #[.string ⟨#[]⟩, .int .i64 2]) ∧ w = w' := by
  by_cases h1 : r < 0
  · clear hr
    go_enter Tryd.func21, Tryd.ntmps21
    go_wp2_with fail
    go_ret2
    exact ⟨rfl, rfl⟩
  · by_cases h2 : 1114111 < r
    · clear hr
      go_enter Tryd.func21, Tryd.ntmps21
      go_wp2_with fail
      go_ret2
      exact ⟨rfl, rfl⟩
    · have h3 : 55296 ≤ r := by omega
      have h4 : r ≤ 57343 := by omega
      clear hr
      go_enter Tryd.func21, Tryd.ntmps21
      go_wp2_with fail
      go_ret2
      exact ⟨rfl, rfl⟩

theorem bnd_steps (r k n : Nat) (hk1 : 1 ≤ k) (hk : k < n) (hn : n ≤ 4) (h : n = 1 ∨ U8.bnd (n - 1) ≤ r) : U8.bnd k ≤ r := by
  have h := h.resolve_left (by omega)
  have hc : (n = 2 ∧ k = 1) ∨ (n = 3 ∧ k = 1) ∨ (n = 3 ∧ k = 2) ∨ (n = 4 ∧ k = 1) ∨ (n = 4 ∧ k = 2) ∨ (n = 4 ∧ k = 3) := by omega
  rcases hc with ⟨rfl, rfl⟩ | ⟨rfl, rfl⟩ | ⟨rfl, rfl⟩ | ⟨rfl, rfl⟩ | ⟨rfl, rfl⟩ | ⟨rfl, rfl⟩ <;> simp [U8.bnd] at h ⊢ <;> omega

theorem size_bnd (r : Nat) (hr : U8.ok r) : 1 ≤ U8.esize r ∧ U8.esize r ≤ 4 ∧ (U8.esize r = 1 ∨ U8.bnd (U8.esize r - 1) ≤ r) ∧ r < U8.bnd (U8.esize r) := by
  have h1 := hr.1
  rcases U8.esize_cases r with ⟨h, g⟩ | ⟨h, g⟩ | ⟨h, g⟩ | ⟨h, g⟩ <;> rw [h] <;> simp [U8.bnd] <;> omega

theorem xor_mark (n : Nat) (hn : n = 2 ∨ n = 3 ∨ n = 4) : bits .xor .u8 IntKind.u8.max ((255 : Int) / 2 ^ n) = (U8.mark n : Int) := by
  rcases hn with rfl | rfl | rfl <;> rfl

def rowL (r n j : Nat) : List UInt8 := (List.replicate (n - j) 0 ++ U8.conts r j).map UInt8.ofNat

theorem rowL_len (r n j : Nat) (h : j < n) : (rowL r n j).length = n := by
  simp [rowL, U8.conts_len]; omega

theorem rowL_set (r n j : Nat) (h : j + 1 < n) (z : UInt8) (hz : z = UInt8.ofNat (128 + r / 64 ^ j % 64)) : (rowL r n j).set (n - 1 - j) z = rowL r n (j + 1) := by
  subst hz
  unfold rowL
  rw [← U8.fill_set r n j h, List.map_set]

theorem rowL_last (r n : Nat) (hn : 2 ≤ n) (z : Nat) : (rowL r n (n - 1)).set 0 (UInt8.ofNat z) = (z :: U8.conts r (n - 1)).map UInt8.ofNat := by
  unfold rowL
  rw [show n - (n - 1) = 1 by omega]
  rfl

theorem RowAt.at {W : World} {B : Nat} {l : List UInt8} (h : RowAt W B l) (k : Nat) (hk : k < l.length) : ∃ u, W.cell? ⟨B, k, none⟩ = some u := ⟨_, (h.2 k hk).1⟩

theorem ret_enc {a b : ByteArray} (h : a = b) : Ending.returned (.tuple #[.string a, .int .i64 0]) = .returned (.tuple #[.string b, .int .i64 0]) := by rw [h]

set_option maxRecDepth 100000 in
set_option maxHeartbeats 1000000 in
theorem encode_ok (r : Nat) (w : World) (hT : Tab w) (hr : U8.ok r) (t : ByteArray) (ht : t = baOf (U8.enc r)) :
    Calls Tryd.prog 21 #[.int .i32 r] w fun e w' => e = .returned (.tuple #[.string t, .int .i64 0]) ∧ Below w.heap.size w w' := by
  obtain ⟨hs1, hs4, hlow, hhigh⟩ := size_bnd r hr
  obtain ⟨hmax, hsur⟩ := hr
  obtain ⟨n, hn⟩ : ∃ n, U8.esize r = n := ⟨_, rfl⟩
  rw [hn] at hs1 hs4 hlow hhigh
  have hg0 : ¬ (r : Int) < 0 := by omega
  have hg1 : ¬ (1114111 : Int) < (r : Int) := by omega
  have hcells := fun k (h : k < 5) => hT.cell k h
  have HC := Lib.hid hcells
  have HT := Lib.hid ht
  have HN := Lib.hid hn
  have HLOW := Lib.hid hlow; have HHIGH := Lib.hid hhigh
  clear hcells ht hn hlow hhigh
  have hsur2 : (¬ (55296 : Int) ≤ (r : Int) ∧ True) ∨ ((55296 : Int) ≤ (r : Int) ∧ ¬ (r : Int) ≤ 57343) := by
    rcases hsur with h | h
    · exact .inl ⟨by omega, trivial⟩
    · exact .inr ⟨by omega, by omega⟩
  clear hsur
  rcases hsur2 with ⟨hg2, hg3⟩ | ⟨hg2, hg3⟩
  all_goals
    go_enter Tryd.func21, Tryd.ntmps21
    go_wp2_with fail
    clear hg0 hg1 hg2 hg3
    go_loop [4] (fun nn => ∃ k : Nat, nn = .int .i64 k ∧ 1 ≤ k ∧ k ≤ n) (fun nn => n - (intOf nn).toNat)
    case atStart => exact ⟨1, rfl, Nat.le_refl _, hs1⟩
    case round =>
      obtain ⟨k, rfl, hk1, hkn⟩ := hrel
      have hck := HC.out k (by omega)
      obtain ⟨b, hb⟩ : ∃ b, U8.bnd k = b := ⟨_, rfl⟩
      rw [hb] at hck
      by_cases hlt : k < n
      · have hbr := bnd_steps r k n hk1 hlt hs4 HLOW.out
        rw [hb] at hbr
        have hbI : (b : Int) ≤ (r : Int) := by omega
        clear hb hbr
        go_wp2_with fail
        go_round
        case rel => exact ⟨k + 1, by go_num, by omega, by omega⟩
        case measure => simp [intOf]; omega
      · obtain rfl : k = n := by omega
        have hbI : ¬ (b : Int) ≤ (r : Int) := by have := HHIGH.out; omega
        clear hb
        by_cases h1 : k = 1
        · have h1b : ((k : Int) == 1) = true := by simp; omega
          have hsmall : r < 128 := by
            rcases U8.esize_cases r with h | h | h | h <;> (have := HN.out; omega)
          have hwr : IntKind.u8.wrap (r : Int) = (r : Int) := by simp [IntKind.wrap, IntKind.bits, IntKind.signed]; omega
          have hres : t = ⟨#[UInt8.ofNat r]⟩ := by
            rw [HT.out, U8.enc, if_pos (by rw [HN.out, h1])]
            rfl
          have kc := conv_one (w.alloc (.cells #[.int .u8 (r : Int)] 5)) w.heap.size 1 (UInt8.ofNat r) (by simp; omega)
          have HRES := Lib.hid hres
          clear h1 hres hsmall
          go_wp2_with fail
          go_ret2
          exact ⟨ret_enc HRES.out.symm, (Below.refl _ w).alloc (Nat.le_refl _) _⟩
        · have h1b : ((k : Int) == 1) = false := by simp; omega
          have hk2 : k = 2 ∨ k = 3 ∨ k = 4 := by omega
          obtain ⟨W2, hmk, hrow, hbel⟩ := make_row w k (by omega)
          have hmk1 := hmk .i64
          have HMK := Lib.hid hmk; have HROW := Lib.hid hrow; have HBEL := Lib.hid hbel
          have h255 := xor_mark k hk2
          have hsg : IntKind.u8.signed = false := rfl
          have htop := U8.top_lt r k (by rcases U8.esize_cases r with h | h | h | h <;> (have := HN.out; omega))
          clear hmk hrow hbel h1
          go_wp2_with fail
          go_loopw [0, 6] (fun rr kk wr => ∃ (j x : Nat), rr = .int .i32 x ∧ x = r / 64 ^ j ∧ j < k ∧ kk = .int .i64 (k - 1 - j : Nat) ∧ RowAt wr w.heap.size (rowL r k j) ∧ Below w.heap.size w wr) (fun _ kk _ => (intOf kk).toNat)
          case atStart => exact ⟨0, r, rfl, by simp, by omega, by go_num, by simpa [rowL, U8.conts] using HROW.out, HBEL.out⟩
          case round =>
            clear hmk1
            obtain ⟨j, x, rfl, hx, hj, rfl, hrow, hb⟩ := hrel
            have hxr : x ≤ r := by rw [hx]; exact Nat.div_le_self _ _
            have HX := Lib.hid hx
            have hlen := rowL_len r k j hj
            have HR := Lib.hid hrow
            clear hx hrow
            obtain ⟨i, hi⟩ : ∃ i, i = k - 1 - j := ⟨_, rfl⟩
            rw [← hi]
            have HI := Lib.hid hi
            by_cases hj2 : j + 1 < k
            · have hi0 : (0 : Int) < (i : Int) := by omega
              have hik : (i : Int) < (k : Int) := by omega
              obtain ⟨y, hy⟩ : ∃ y, y = x % 64 := ⟨_, rfl⟩
              obtain ⟨x2, hx2⟩ : ∃ x2, x2 = x / 64 := ⟨_, rfl⟩
              obtain ⟨z, hz⟩ : ∃ z, z = 128 + y := ⟨_, rfl⟩
              have hand : bits .and .i32 (x : Int) 63 = (y : Int) := by
                have := i32_and_nat x 63 (by omega) (by omega)
                rw [show ((63 : Nat) : Int) = 63 from rfl] at this
                rw [this, Nat.and_two_pow_sub_one_eq_mod x 6, hy]
              have hwy : IntKind.u8.wrap (y : Int) = (y : Int) := by simp [IntKind.wrap, IntKind.bits, IntKind.signed]; omega
              have hor : bits .or .u8 128 (y : Int) = (z : Int) := by
                have := u8_or_nat' 128 y (by omega) (by omega)
                rw [nat_join 6 128 y (by decide) (by omega)] at this
                rw [hz]; exact this
              have hsh : Op.shift .shr .i32 (x : Int) .u64 6 = pure (.int .i32 (x2 : Int)) := by
                rw [shift_shr_any _ _ _ _ (by decide)]
                have : (x : Int) / 2 ^ min (6 : Int).toNat IntKind.i32.bits = (x2 : Int) := by
                  show (x : Int) / 64 = _
                  omega
                rw [this]
              have hset := HR.out.set i (by rw [hlen]; omega) (UInt8.ofNat z)
              have hzt : ((UInt8.ofNat z).toNat : Int) = (z : Int) := by rw [UInt8.toNat_ofNat']; omega
              rw [hzt, hi, rowL_set r k j hj2 _ (by rw [hz, hy, HX.out]), ← hi] at hset
              have hf := (HR.out.2 i (by rw [hlen]; omega)).2
              obtain ⟨cc, hcc⟩ := HR.out.at i (by rw [hlen]; omega)
              have hx2e : x2 = r / 64 ^ (j + 1) := by rw [hx2, HX.out, Nat.div_div_eq_div_mul, Nat.pow_succ]
              have HSET := Lib.hid hset; have HX2 := Lib.hid hx2e
              clear hset hx2e hzt hz hy hx2 hi hlen hmax hxr
              go_upto_region 12 with fail
              go_upto_region 13 with fail
              go_upto_region 11 with fail
              go_wp2_with fail
              go_roundw
              case rel => exact ⟨j + 1, x2, rfl, HX2.out, hj2, by have := HI.out; go_num, HSET.out, hb.setCell (Nat.le_refl _) _⟩
              case measure => simp [intOf]; omega
            · obtain rfl : j = k - 1 := by omega
              have hi0 : decide (0 < i) = false := by simp; omega
              have hi0N : ¬ 0 < i := by omega
              have hxm : x < 256 - U8.mark k ∧ x < 64 := by rw [HX.out]; exact htop
              obtain ⟨q, hq⟩ : ∃ q, q = U8.mark k := ⟨_, rfl⟩
              rw [← hq] at hxm h255
              have hqm : q % 2 ^ 3 = 0 ∧ (q = 192 ∧ x < 64 ∨ q = 224 ∧ x < 32 ∨ q = 240 ∧ x < 16) := by
                rcases hk2 with rfl | rfl | rfl <;> simp [U8.mark] at hq <;> omega
              obtain ⟨z, hz⟩ : ∃ z, z = q + x := ⟨_, rfl⟩
              have hwx : IntKind.u8.wrap (x : Int) = (x : Int) := by simp [IntKind.wrap, IntKind.bits, IntKind.signed]; omega
              have hor : bits .or .u8 (q : Int) (x : Int) = (z : Int) := by
                rw [u8_or_nat' q x (by omega) (by omega), hz]
                rcases hqm.2 with ⟨h, g⟩ | ⟨h, g⟩ | ⟨h, g⟩
                · rw [nat_join 6 q x (by rw [h]) (by omega)]
                · rw [nat_join 5 q x (by rw [h]) (by omega)]
                · rw [nat_join 4 q x (by rw [h]) (by omega)]
              have hset := HR.out.set 0 (by rw [hlen]; omega) (UInt8.ofNat z)
              have hzt : ((UInt8.ofNat z).toNat : Int) = (z : Int) := by rw [UInt8.toNat_ofNat']; omega
              rw [hzt, rowL_last r k (by omega) z] at hset
              have hf := (HR.out.2 0 (by rw [hlen]; omega)).2
              obtain ⟨cc, hcc⟩ := HR.out.at 0 (by rw [hlen]; omega)
              have hres : t = ⟨((z :: U8.conts r (k - 1)).map UInt8.ofNat).toArray⟩ := by
                rw [HT.out, U8.enc, if_neg (by rw [HN.out]; omega), HN.out, hz, HX.out, hq]; rfl
              have hcv := conv_out _ _ k _ hset
              rw [show ((z :: U8.conts r (k - 1)).map UInt8.ofNat).length = k by simp [U8.conts_len]; omega, ← hres] at hcv
              have hkI : (0 : Int) < (k : Int) := by omega
              clear hset hzt hz hq hxm hqm hi hlen hres hj2 htop hmax hxr
              go_upto_region 14 with fail
              go_upto_region 15 with fail
              go_wp2_with fail
              go_ret2
              exact ⟨rfl, hb.setCell (Nat.le_refl _) _⟩
end Go.Proofs.YtbjhomihmlijiaaDoor
