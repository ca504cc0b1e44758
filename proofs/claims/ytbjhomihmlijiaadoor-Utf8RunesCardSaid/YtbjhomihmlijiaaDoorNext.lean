/- The program's next: called with a text that is not empty it answers U8.next of its bytes and leaves the world alone. -/
import Derived.Test.YtbjhomihmlijiaaDoorNum
import Derived.LoopTactic
import Derived.Deep.DeepMust
namespace U8
theorem room_step (u d n k : Nat) (hk : k < n) (hd : d < 64) (h : (u + 1) * 64 ^ (n - k) ≤ 2097152) : (u * 64 + d + 1) * 64 ^ (n - (k + 1)) ≤ 2097152 := by
  have e : 64 ^ (n - k) = 64 * 64 ^ (n - (k + 1)) := by rw [show n - k = (n - (k + 1)) + 1 by omega, Nat.pow_succ, Nat.mul_comm]
  rw [e, ← Nat.mul_assoc] at h
  exact Nat.le_trans (Nat.mul_le_mul_right _ (by omega)) h

theorem room_use (u n k : Nat) (h : (u + 1) * 64 ^ (n - k) ≤ 2097152) : u * 64 ^ (n - k) < 2097152 := by
  have hp : 0 < 64 ^ (n - k) := Nat.pow_pos (by omega)
  rw [Nat.add_mul] at h
  omega

theorem room_small (u n k : Nat) (h : (u + 1) * 64 ^ (n - k) ≤ 2097152) : u < 2097152 := by
  have hp : 0 < 64 ^ (n - k) := Nat.pow_pos (by omega)
  have := Nat.le_mul_of_pos_right (u + 1) hp
  omega

theorem room_start (c n : Nat) (hn : n = 2 ∨ n = 3 ∨ n = 4) : (c % 2 ^ (7 - n) + 1) * 64 ^ (n - 1) ≤ 2097152 := by
  rcases hn with rfl | rfl | rfl
  · show (c % 32 + 1) * 64 ≤ 2097152; omega
  · show (c % 16 + 1) * 4096 ≤ 2097152; omega
  · show (c % 8 + 1) * 262144 ≤ 2097152; omega
end U8
namespace Go.Proofs.YtbjhomihmlijiaaDoor
open Go.RowKit

def bytesOf (s : ByteArray) : List Nat := s.data.toList.map UInt8.toNat

theorem bytesOf_length (s : ByteArray) : (bytesOf s).length = s.size := by simp [bytesOf]
theorem bytesOf_get (s : ByteArray) (j : Nat) (h : j < s.size) : (bytesOf s).getD j 0 = s[j].toNat := by
  rw [List.getD_eq_getElem?_getD]
  simp [bytesOf, ByteArray.getElem_eq_getElem_data, h]
theorem bytesOf_lt (s : ByteArray) : ∀ x ∈ bytesOf s, x < 256 := by
  intro x hx
  simp only [bytesOf, List.mem_map] at hx
  obtain ⟨y, _, rfl⟩ := hx
  exact y.toNat_lt

theorem mask_bits : ∀ c : Fin 256, ∀ n : Fin 5, n.val = 1 ∨ bits .and .u8 ((c : Nat) : Int) (127 / 2 ^ n.val : Nat) = ((c.val % 2 ^ (7 - n.val) : Nat) : Int) := by
  intro c n
  by_cases h : n.val = 1
  · exact Or.inl h
  right
  have hc := c.isLt
  rw [u8_and_nat _ _ hc (by have := n.isLt; have : 127 / 2 ^ n.val ≤ 127 := Nat.div_le_self _ _; omega)]
  congr 1
  have hn := n.isLt
  rcases (show n.val = 0 ∨ n.val = 2 ∨ n.val = 3 ∨ n.val = 4 by omega) with h | h | h | h <;> rw [h]
  · exact Nat.and_two_pow_sub_one_eq_mod c.val 7
  · exact Nat.and_two_pow_sub_one_eq_mod c.val 5
  · exact Nat.and_two_pow_sub_one_eq_mod c.val 4
  · exact Nat.and_two_pow_sub_one_eq_mod c.val 3

theorem low6 (c : Nat) (h : c < 256) : bits .and .u8 (c : Int) 63 = ((c % 64 : Nat) : Int) := by
  have := u8_and_nat c 63 h (by omega)
  rw [show ((63 : Nat) : Int) = 63 from rfl] at this
  rw [this, Nat.and_two_pow_sub_one_eq_mod c 6]

set_option maxHeartbeats 1000000 in
theorem next_any (s : ByteArray) (w : World) (hT : Tab w) (hs : 0 < s.size) (hmax : s.size ≤ 9223372036854775807) (r z e : Nat) (hr : U8.next (bytesOf s) = (r, z, e)) :
    Calls Tryd.prog 37 #[.string s] w fun x w' => x = .returned (.tuple #[.int .i32 r, .int .i64 z, .int .i64 e]) ∧ Below w.heap.size w w' := by
  have hTd : Tab w.drew := hT
  have hbd : Below w.heap.size w w.drew := (Below.refl _ w).drew
  obtain ⟨c, hc⟩ : ∃ c, s[0] = c := ⟨_, rfl⟩
  have hc0 : (bytesOf s).getD 0 0 = c.toNat := by rw [bytesOf_get s 0 hs, hc]
  have hcl : c.toNat < 256 := c.toNat_lt
  obtain ⟨n, hn⟩ : ∃ n, U8.len c.toNat = n := ⟨_, rfl⟩
  have hlen := fun w => length_any c.toNat w n hn
  have hcase := U8.len_cases c.toNat
  rw [hn] at hcase
  unfold U8.next at hr
  simp only [hc0, hn] at hr
  by_cases h1 : n = 1
  · subst h1
    simp only [if_true, Prod.mk.injEq] at hr
    obtain ⟨rfl, rfl, rfl⟩ := hr
    have HL := Lib.hid hlen
    clear hlen hcase hn hc0
    go_enter Tryd.func37, Tryd.ntmps37
    go_wp2_with (go_at_call 46; refine (HL.out _).mono ?_; rintro e w' ⟨rfl, rfl⟩)
    go_ret3
    exact ⟨rfl, Below.refl _ _⟩
  · rw [if_neg h1] at hr
    have HR := Lib.hid hr
    have HL := Lib.hid hlen
    have hn4 : n ≤ 4 := by omega
    have hmask := (mask_bits ⟨c.toNat, hcl⟩ ⟨n, by omega⟩).resolve_left h1
    simp only at hmask
    obtain ⟨u, hu⟩ : ∃ u, u = c.toNat % 2 ^ (7 - n) := ⟨_, rfl⟩
    rw [← hu, Int.natCast_ediv, Int.natCast_pow] at hmask
    have hmask : bits .and .u8 (c.toNat : Int) (127 / 2 ^ n) = (u : Int) := hmask
    rw [← hu] at hr
    have HR := Lib.hid hr
    have HU := Lib.hid hu
    have hu3 : u < 128 := by
      rw [hu]
      exact Nat.lt_of_lt_of_le (Nat.mod_lt _ (Nat.pow_pos (by omega))) (Nat.pow_le_pow_right (by omega) (by omega) : 2 ^ (7 - n) ≤ 2 ^ 7)
    have hn1 : ((n : Int) == 1) = false := by simp; omega
    have hu3I : (u : Int) < 128 := by omega
    clear hr hlen hn hc0 hu
    by_cases h0 : n = 0
    · have hn0 : ((n : Int) == 0) = true := by simp; omega
      have hres : (0, 0, 6) = (r, z, e) := by rw [← HR.out, h0]; rfl
      simp only [Prod.mk.injEq] at hres
      obtain ⟨rfl, rfl, rfl⟩ := hres
      clear h0 hcase
      go_enter Tryd.func37, Tryd.ntmps37
      go_wp2_with (go_at_call 46; refine (HL.out _).mono ?_; rintro e w' ⟨rfl, rfl⟩)
      go_region
      go_wp2_with fail
      go_ret3
      exact ⟨rfl, hbd⟩
    · have hn0 : ((n : Int) == 0) = false := by simp; omega
      have hn234 : n = 2 ∨ n = 3 ∨ n = 4 := by omega
      have hroom := U8.room_start c.toNat n hn234
      rw [← HU.out] at hroom
      have hl1 : (n : Int) - 1 = ((n - 1 : Nat) : Int) := by omega
      obtain ⟨b0, hb0⟩ : ∃ b, U8.beg u n (n - 1) = b := ⟨_, rfl⟩
      have hbeg := fun w hT => begins_any u n (n - 1) w hT hn234 (by omega) (U8.room_use u n 1 hroom) b0 hb0
      have HBEG := Lib.hid hbeg
      have hr := HR.out
      rw [hb0, show (decide (n = 0)) = false by simpa using h0, Bool.false_or] at hr
      have HR2 := Lib.hid hr
      obtain ⟨n1, hn1'⟩ : ∃ k, k = n - 1 := ⟨_, rfl⟩
      rw [← hn1'] at hl1 HBEG
      have HN1 := Lib.hid hn1'
      clear hbeg hb0 hr HR hcase hn1'
      cases b0 with
      | false =>
        have hres := HR2.out
        simp only [Bool.not_false, if_true, Prod.mk.injEq] at hres
        obtain ⟨rfl, rfl, rfl⟩ := hres
        go_enter Tryd.func37, Tryd.ntmps37
        go_wp2_with (go_at_call 46; refine (HL.out _).mono ?_; rintro e w' ⟨rfl, rfl⟩)
        go_region
        go_wp2_with (go_at_call 47; go_must (refine (HBEG.out _ hTd).mono ?_; rintro e w' ⟨rfl, rfl⟩))
        go_ret3
        exact ⟨rfl, hbd⟩
      | true =>
        have hres := HR2.out
        simp only [Bool.not_true, Bool.false_eq_true, if_false] at hres
        have HRES := Lib.hid hres
        clear HR2 hres
        go_enter Tryd.func37, Tryd.ntmps37
        go_wp2_with (go_at_call 46; refine (HL.out _).mono ?_; rintro e w' ⟨rfl, rfl⟩)
        go_region
        go_wp2_with (go_at_call 47; go_must (refine (HBEG.out _ hTd).mono ?_; rintro e w' ⟨rfl, rfl⟩))
        go_loop [6, 7] (fun uu kk => ∃ (v k g : Nat), uu = .int .i32 v ∧ kk = .int .i64 k ∧ g + k = n ∧ 1 ≤ k ∧ k ≤ s.size ∧ (v + 1) * 64 ^ (n - k) ≤ 2097152 ∧ U8.more (bytesOf s) n g k v = (r, z, e)) (fun _ kk => n - (intOf kk).toNat)
        case atStart => exact ⟨u, 1, n - 1, rfl, rfl, by omega, Nat.le_refl _, hs, hroom, HRES.out⟩
        case round =>
          obtain ⟨v, k, g, rfl, rfl, hg, hk1, hks, hroomv, hmore⟩ := hrel
          have HM := Lib.hid hmore
          have HRV := Lib.hid hroomv
          clear hmore hroomv
          by_cases hkn : k < n
          · by_cases hke : k = s.size
            · obtain ⟨g', rfl⟩ : ∃ g', g = g' + 1 := ⟨g - 1, by omega⟩
              have hres := HM.out
              rw [U8.more, if_pos (by rw [bytesOf_length]; exact hke)] at hres
              simp only [Prod.mk.injEq] at hres
              obtain ⟨rfl, rfl, rfl⟩ := hres
              have hq : ((k : Int) == (s.size : Int)) = true := by simp; omega
              clear hke HM HRV
              go_wp2_with fail
              go_ret3
              exact ⟨rfl, hbd⟩
            · obtain ⟨g', rfl⟩ : ∃ g', g = g' + 1 := ⟨g - 1, by omega⟩
              have hkl : k < s.size := by omega
              obtain ⟨d, hd⟩ : ∃ d, s[k] = d := ⟨_, rfl⟩
              have hdl : d.toNat < 256 := d.toNat_lt
              have hres := HM.out
              rw [U8.more, if_neg (by rw [bytesOf_length]; exact hke), bytesOf_get s k hkl, hd] at hres
              have hb6 := low6 d.toNat hdl
              obtain ⟨d6, hd6⟩ : ∃ x, x = d.toNat % 64 := ⟨_, rfl⟩
              rw [← hd6] at hb6 hres
              have hd6l : d6 < 64 := by omega
              have hd6I : (d6 : Int) < 64 := by omega
              obtain ⟨b1, hb1⟩ : ∃ b, U8.cont d.toNat = b := ⟨_, rfl⟩
              have hcont := fun w => cont_any d.toNat hdl w b1 hb1
              have hroom2 := U8.room_step v d6 n k hkn hd6l HRV.out
              have hvs := U8.room_small v n k HRV.out
              have hv2 := U8.room_small _ n (k + 1) hroom2
              obtain ⟨x, hx⟩ : ∃ x, x = v * 64 := ⟨_, rfl⟩
              obtain ⟨y, hy⟩ : ∃ y, y = v * 64 + d6 := ⟨_, rfl⟩
              rw [← hy] at hroom2 hv2 hres
              have hsh : Op.shift .shl .i32 (v : Int) .u64 6 = pure (.int .i32 (x : Int)) := by
                rw [shift_shl_any _ _ _ _ (by decide)]
                have : IntKind.i32.wrap ((v : Int) * 2 ^ min (6 : Int).toNat IntKind.i32.bits) = (x : Int) := by
                  show IntKind.i32.wrap ((v : Int) * 64) = _
                  simp [IntKind.wrap, IntKind.bits, IntKind.signed]
                  omega
                rw [this]
              have hor : bits .or .i32 (x : Int) (d6 : Int) = (y : Int) := by
                rw [i32_or_nat _ _ (by omega) (by omega), nat_join 6 _ _ (by rw [hx]; exact Nat.mul_mod_left _ _) (by omega), hx, hy]
              have hleft : (n1 : Int) - (k : Int) = ((n - (k + 1) : Nat) : Int) := by have := HN1.out; omega
              obtain ⟨left, hlf⟩ : ∃ m, m = n - (k + 1) := ⟨_, rfl⟩
              obtain ⟨b2, hb2⟩ : ∃ b, U8.beg y n left = b := ⟨_, rfl⟩
              have hbeg2 := fun w hT => begins_any y n left w hT hn234 (by omega) (by rw [hlf]; exact U8.room_use y n (k + 1) hroom2) b2 hb2
              rw [show n - 1 - k = left by omega, hb1, hb2] at hres
              rw [← hlf] at hleft
              have hq : ((k : Int) == (s.size : Int)) = false := by simp; omega
              have HBEG2 := Lib.hid hbeg2; have HCONT := Lib.hid hcont; have HRES2 := Lib.hid hres; have HROOM2 := Lib.hid hroom2; have HKE := Lib.hid hke
              clear hbeg2 hcont hres hroom2 hb1 hb2 hlf hx hy hd6 hke HM HRV HBEG HL
              cases b1 with
              | false =>
                have hres := HRES2.out
                simp only [Bool.not_false, Bool.true_or, if_true, Prod.mk.injEq] at hres
                obtain ⟨rfl, rfl, rfl⟩ := hres
                go_wp2_with (first | (go_at_call 40; go_must (refine (HCONT.out _).mono ?_; rintro e w' ⟨rfl, rfl⟩)) | (go_at_call 47; go_must (refine (HBEG2.out _ hTd).mono ?_; rintro e w' ⟨rfl, rfl⟩)))
                go_ret3
                exact ⟨rfl, hbd⟩
              | true =>
                cases b2 with
                | false =>
                  have hres := HRES2.out
                  simp only [Bool.not_false, Bool.or_true, if_true, Prod.mk.injEq] at hres
                  obtain ⟨rfl, rfl, rfl⟩ := hres
                  go_wp2_with (first | (go_at_call 40; go_must (refine (HCONT.out _).mono ?_; rintro e w' ⟨rfl, rfl⟩)) | (go_at_call 47; go_must (refine (HBEG2.out _ hTd).mono ?_; rintro e w' ⟨rfl, rfl⟩)))
                  go_ret3
                  exact ⟨rfl, hbd⟩
                | true =>
                  have hres := HRES2.out
                  simp only [Bool.not_true, Bool.or_self, Bool.false_eq_true, if_false] at hres
                  have HM2 := Lib.hid hres
                  clear hres HRES2
                  go_wp2_with (first | (go_at_call 40; go_must (refine (HCONT.out _).mono ?_; rintro e w' ⟨rfl, rfl⟩)) | (go_at_call 47; go_must (refine (HBEG2.out _ hTd).mono ?_; rintro e w' ⟨rfl, rfl⟩)))
                  go_round
                  case rel => exact ⟨y, k + 1, g', rfl, by go_num, by omega, by omega, hkl, HROOM2.out, HM2.out⟩
                  case measure => simp [intOf]; omega
          · obtain rfl : k = n := by omega
            obtain rfl : g = 0 := by omega
            have hres := HM.out
            simp only [U8.more, Prod.mk.injEq] at hres
            obtain ⟨rfl, rfl, rfl⟩ := hres
            go_wp2_with fail
            go_ret3
            exact ⟨rfl, hbd⟩
end Go.Proofs.YtbjhomihmlijiaaDoor
