/- The reference encoding: called with a slice of at most 1,000,000 bytes it returns the text B64.encT of these bytes, and leaves the world alone. -/
import Derived.Test.YtbojodgeknjpjaaDoorRefPlain
import Derived.Test.YtbojodgeknjpjaaDoorMem
import Derived.Deep.LoopGhost
import Derived.LoopTactic
import Derived.WalkSpells
import Derived.WalkLawsBesides
import Derived.Lib.Hide
namespace Go.Proofs.YtbojodgeknjpjaaDoor
open Go.RowKit

/-- the text of some groups, then some equals signs -/
def outB (E : List Nat) (m : Nat) : ByteArray := ⟨(E.map B64.alpha ++ List.replicate m 61).toArray⟩

def alphaS : ByteArray := ⟨B64.alphaL.toArray⟩

theorem outB_snoc (E : List Nat) (v : Nat) (hv : v < 64) : outB E 0 ++ alphaS.extract v (v + 1) = outB (E ++ [v]) 0 := by
  apply ByteArray.ext
  apply Array.toList_inj.1
  have h1 : (alphaS.extract v (v + 1)).data.toList = [B64.alpha v] := by
    rw [Lib.extract_data]
    have hl : v < B64.alphaL.length := hv
    simp only [alphaS, show v + 1 - v = 1 by omega]
    rw [List.drop_eq_getElem_cons hl]
    simp only [List.take_succ_cons, List.take_zero]
    simp [B64.alpha, List.getElem?_eq_getElem hl]
  rw [ByteArray.data_append, Array.toList_append, h1]
  simp [outB]

theorem outB_pad (E : List Nat) (m : Nat) : outB E m ++ ⟨#[61]⟩ = outB E (m + 1) := by
  apply ByteArray.ext
  apply Array.toList_inj.1
  rw [ByteArray.data_append, Array.toList_append]
  simp [outB, List.replicate_succ']

theorem outB_size (E : List Nat) (m : Nat) : (outB E m).size = E.length + m := by
  simp [outB, ByteArray.size]

set_option maxHeartbeats 1000000 in
theorem refEnc_any (v : Value) (l : List Nat) (w : World) (hv : Bytes w v l) (hl : l.length ≤ 1000000) :
    Calls Tryd.prog 14 #[v] w fun e w' => e = .returned (.string ⟨(B64.encT l).toArray⟩) ∧ w = w' := by
  obtain ⟨hby, x, cap, rfl, hcap, _, hcells⟩ := hv
  have hlI : (l.length : Int) ≤ 1000000 := by omega
  go_enter Tryd.func14, Tryd.ntmps14
  go_wp2_with fail
  go_loop [3, 4, 5, 6] (fun out val hav i => ∃ k : Nat, k ≤ l.length ∧ i = .int .i64 k ∧ out = .string (outB (B64.feed 6 1 (B64.bitsOf (l.take k))).1 0) ∧ val = .int .i64 ((B64.feed 6 1 (B64.bitsOf (l.take k))).2.1 : Nat) ∧ hav = .int .i64 ((B64.feed 6 1 (B64.bitsOf (l.take k))).2.2 : Nat))
    (fun _ _ _ i => l.length - (intOf i).toNat)
  case atStart => exact ⟨0, Nat.zero_le _, rfl, rfl, rfl, rfl⟩
  case round =>
    obtain ⟨k, hk, rfl, rfl, rfl, rfl⟩ := hrel
    by_cases hlt : k < l.length
    · obtain ⟨b, off, rfl, hc⟩ := hcells k hlt
      have hts := B64.take_snoc l k hlt
      obtain ⟨y, hy⟩ : ∃ y, y = l.getD k 0 := ⟨_, rfl⟩
      have hy2 : y < 256 := by
        rw [hy, List.getD_eq_getElem?_getD, List.getElem?_eq_getElem hlt]
        exact hby _ (List.getElem_mem hlt)
      rw [← hy] at hc hts
      have HTS := Lib.hid hts
      clear hcells hy hts
      go_wp2_with fail
      go_loop [3, 4, 5, 7] (fun out val hav kk => ∃ j : Nat, j ≤ 8 ∧ kk = .int .i64 (7 - (j : Int)) ∧ out = .string (outB (B64.feed 6 1 (B64.bitsOf (l.take k) ++ (B64.bitL y).take j)).1 0) ∧ val = .int .i64 ((B64.feed 6 1 (B64.bitsOf (l.take k) ++ (B64.bitL y).take j)).2.1 : Nat) ∧ hav = .int .i64 ((B64.feed 6 1 (B64.bitsOf (l.take k) ++ (B64.bitL y).take j)).2.2 : Nat))
        (fun _ _ _ kk => (1 + intOf kk).toNat)
      case atStart => exact ⟨0, by omega, rfl, by simp, by simp, by simp⟩
      case round =>
        obtain ⟨j, hj, rfl, rfl, rfl, rfl⟩ := hrel
        by_cases hj8 : j < 8
        · obtain ⟨q, hq⟩ : ∃ q : Nat, (7 - (j : Int)) = q := ⟨7 - j, by omega⟩
          rw [hq]
          have hq7 : q ≤ 7 := by omega
          have hsp := B64.feed_spec 6 1 (by omega) (B64.bitsOf (l.take k) ++ (B64.bitL y).take j) (fun z hz => by
            simp only [List.mem_append] at hz
            rcases hz with hz | hz
            · exact B64.bitsOf_lt _ z hz
            · exact B64.bitL_lt y z (List.mem_of_mem_take hz))
          obtain ⟨b1, hb1⟩ : ∃ b1, b1 = y / 2 ^ q % 2 := ⟨_, rfl⟩
          have hstep : (B64.bitL y).take (j + 1) = (B64.bitL y).take j ++ [b1] := by
            have : q = 7 - j := by omega
            subst this
            rw [hb1]
            rcases (show j = 0 ∨ j = 1 ∨ j = 2 ∨ j = 3 ∨ j = 4 ∨ j = 5 ∨ j = 6 ∨ j = 7 by omega) with rfl | rfl | rfl | rfl | rfl | rfl | rfl | rfl <;> simp [B64.bitL]
          have hfc := B64.feed_count 6 1 (by omega) (B64.bitsOf (l.take k) ++ (B64.bitL y).take j) (fun z hz => by
            simp only [List.mem_append] at hz
            rcases hz with hz | hz
            · exact B64.bitsOf_lt _ z hz
            · exact B64.bitL_lt y z (List.mem_of_mem_take hz))
          have hbl : (B64.bitsOf (l.take k) ++ (B64.bitL y).take j).length ≤ 8 * k + 8 := by
            rw [List.length_append, B64.bitsOf_length]
            have h1 : (l.take k).length ≤ k := List.length_take_le _ _
            have h2 : ((B64.bitL y).take j).length ≤ j := List.length_take_le _ _
            omega
          generalize hst : B64.feed 6 1 (B64.bitsOf (l.take k) ++ (B64.bitL y).take j) = st at *
          obtain ⟨E, h, c⟩ := st
          obtain ⟨_, g1, g2, g3⟩ := hsp
          simp only at g1 g2 g3 hfc
          have hsz : (outB E 0).size ≤ 3000000 := by rw [outB_size]; omega
          clear hfc hbl
          have hbit : bits .and .u8 ((y : Int) / 2 ^ q) 1 = (b1 : Int) := by
            have hle : y / 2 ^ q ≤ y := Nat.div_le_self _ _
            have h1 := u8_and_nat (y / 2 ^ q) 1 (by omega) (by omega)
            rw [nat_mask1] at h1
            rw [hb1, ← h1]
            push_cast
            rfl
          have hb2 : b1 ≤ 1 := by omega
          have hc6 : c ≤ 5 := by omega
          have hh : h ≤ 31 := by
            have : 2 ^ c ≤ 2 ^ 5 := Nat.pow_le_pow_right (by omega) hc6
            omega
          have HSTEP := Lib.hid hstep; have HST := Lib.hid hst
          clear hb1 hstep hst g1 g2 g3
          by_cases h5 : c = 5
          · subst h5
            go_wp2_with fail
            refine ⟨⟨j + 1, by omega, by congr 1; omega, ?_, ?_, ?_⟩, by simp [intOf]; omega⟩
            all_goals rw [HSTEP.out, ← List.append_assoc, B64.feed_snoc, HST.out, B64.put_bit_full]
            · exact congrArg Value.string (outB_snoc E (2 * h + b1) (by omega))
            · rfl
            · rfl
          · have h6 : ((c : Int) + 1 == 6) = false := by simp; omega
            go_wp2_with fail
            refine ⟨⟨j + 1, by omega, by congr 1; omega, ?_, ?_, ?_⟩, by simp [intOf]; omega⟩
            all_goals rw [HSTEP.out, ← List.append_assoc, B64.feed_snoc, HST.out, B64.put_bit_more _ _ _ _ (by omega)]
            · go_num
            · go_num
        · have hj9 : j = 8 := by omega
          subst hj9
          have htk : (B64.bitL y).take 8 = B64.bitL y := rfl
          rw [htk, ← B64.bitsOf_snoc, ← HTS.out]
          go_wp2_with fail
          exact ⟨⟨k + 1, by omega, by go_num, rfl, rfl, rfl⟩, by simp [intOf]; omega⟩
    · have hkl : k = l.length := by omega
      subst hkl
      rw [List.take_length]
      clear hcells hlt hk
      have hG := B64.refG_eq l hby
      unfold B64.refG at hG
      have hsp := B64.feed_spec 6 1 (by omega) (B64.bitsOf l) (B64.bitsOf_lt l)
      have hfc := B64.feed_count 6 1 (by omega) (B64.bitsOf l) (B64.bitsOf_lt l)
      rw [B64.bitsOf_length] at hfc
      generalize B64.feed 6 1 (B64.bitsOf l) = st at *
      obtain ⟨E, h, c⟩ := st
      obtain ⟨_, g1, g2, g3⟩ := hsp
      simp only at g1 g2 hG hfc
      have hEl : E.length ≤ 2000000 := by omega
      have hsz : (outB E 0).size ≤ 2000000 := by rw [outB_size]; omega
      clear g3 hfc hby
      by_cases h0 : c = 0
      · subst h0
        rw [if_pos rfl] at hG
        subst hG
        go_wp2_with fail
        go_loopg [3] ((4 - (B64.groups l).length % 4) % 4) (fun g out wr => w = wr ∧ ∃ m, g + m = (4 - (B64.groups l).length % 4) % 4 ∧ out = .string (outB (B64.groups l) m))
        case atStart => exact ⟨rfl, 0, by omega, rfl⟩
        case round =>
          obtain ⟨rfl, m, hm, rfl⟩ := hrel
          have hsz2 : (outB (B64.groups l) m).size = (B64.groups l).length + m := outB_size _ _
          have hle2 : (outB (B64.groups l) m).size ≤ 3000000 := by omega
          have HM := Lib.hid hm
          have HSZ := Lib.hid hsz2
          clear hm hsz2
          by_cases hg : gk = 0
          · subst hg
            have hne : (((outB (B64.groups l) m).size : Int) % 4 != 0) = false := by
              have h1 := HM.out
              have h2 := HSZ.out
              simp
              omega
            go_wp2_with fail
            go_ret
            have e : m = (4 - (B64.groups l).length % 4) % 4 := by have := HM.out; omega
            refine ⟨?_, rfl⟩
            rw [B64.encT, ← e]
            rfl
          · have hne : (((outB (B64.groups l) m).size : Int) % 4 != 0) = true := by
              have h1 := HM.out
              have h2 := HSZ.out
              simp
              omega
            go_wp2_with fail
            go_roundg (gk - 1)
            case rel => exact ⟨rfl, m + 1, by have := HM.out; omega, congrArg Value.string (outB_pad _ _)⟩
            case measure => omega
      · rw [if_neg h0] at hG
        have hGl : (B64.groups l).length ≤ 2000001 := by rw [← hG]; simp; omega
        have HG := Lib.hid hG
        clear hG
        have hc0 : (0 : Int) < (c : Int) := by omega
        have hc6 : c ≤ 5 := by omega
        have hh : h ≤ 31 := by
          have : 2 ^ c ≤ 2 ^ 5 := Nat.pow_le_pow_right (by omega) hc6
          omega
        go_wp2_with fail
        go_loop [4, 5] (fun val hav => ∃ m : Nat, c + m ≤ 6 ∧ hav = .int .i64 ((c + m : Nat) : Int) ∧ val = .int .i64 ((h * 2 ^ m : Nat) : Int)) (fun _ hav => 6 - (intOf hav).toNat)
        case atStart => exact ⟨0, by omega, rfl, by simp⟩
        case round =>
          obtain ⟨m, hm, rfl, rfl⟩ := hrel
          have hpm : 2 ^ c * 2 ^ m ≤ 64 := by
            rw [← Nat.pow_add]
            have : 2 ^ (c + m) ≤ 2 ^ 6 := Nat.pow_le_pow_right (by omega) hm
            omega
          have hval : h * 2 ^ m < 64 := by
            have h1 : (h + 1) * 2 ^ m ≤ 2 ^ c * 2 ^ m := Nat.mul_le_mul_right _ g2
            have hp := Nat.two_pow_pos m
            rw [Nat.add_mul] at h1
            omega
          have hps : h * 2 ^ (m + 1) = 2 * (h * 2 ^ m) := by rw [Nat.pow_succ, ← Nat.mul_assoc, Nat.mul_comm]
          generalize hvq : h * 2 ^ m = vq at *
          have HPS := Lib.hid hps; have HVQ := Lib.hid hvq
          clear hps hvq hpm
          by_cases hm6 : c + m < 6
          · go_wp2_with fail
            exact ⟨⟨m + 1, by omega, by go_num, by rw [HPS.out]; go_num⟩, by simp [intOf]; omega⟩
          · have he6 : m = 6 - c := by omega
            have HGE : Hid (E ++ [vq] = B64.groups l) := Lib.hid (by rw [← HG.out, ← HVQ.out, he6])
            have hst : outB E 0 ++ (⟨B64.alphaL.toArray⟩ : ByteArray).extract vq (vq + 1) = outB (B64.groups l) 0 := by
              rw [← HGE.out]
              exact outB_snoc E vq hval
            have HST := Lib.hid hst
            clear hst he6
            go_wp2_with fail
            go_loopg [3] ((4 - (B64.groups l).length % 4) % 4) (fun g out wr => w = wr ∧ ∃ m, g + m = (4 - (B64.groups l).length % 4) % 4 ∧ out = .string (outB (B64.groups l) m))
            case atStart => exact ⟨rfl, 0, by omega, congrArg Value.string HST.out⟩
            case round =>
              obtain ⟨rfl, m, hm, rfl⟩ := hrel
              have hsz2 : (outB (B64.groups l) m).size = (B64.groups l).length + m := outB_size _ _
              have hle2 : (outB (B64.groups l) m).size ≤ 3000000 := by omega
              have HM := Lib.hid hm
              have HSZ := Lib.hid hsz2
              clear hm hsz2
              by_cases hg : gk = 0
              · subst hg
                have hne : (((outB (B64.groups l) m).size : Int) % 4 != 0) = false := by
                  have h1 := HM.out
                  have h2 := HSZ.out
                  simp
                  omega
                go_wp2_with fail
                go_ret
                have e : m = (4 - (B64.groups l).length % 4) % 4 := by have := HM.out; omega
                refine ⟨?_, rfl⟩
                rw [B64.encT, ← e]
                rfl
              · have hne : (((outB (B64.groups l) m).size : Int) % 4 != 0) = true := by
                  have h1 := HM.out
                  have h2 := HSZ.out
                  simp
                  omega
                go_wp2_with fail
                go_roundg (gk - 1)
                case rel => exact ⟨rfl, m + 1, by have := HM.out; omega, congrArg Value.string (outB_pad _ _)⟩
                case measure => omega
end Go.Proofs.YtbojodgeknjpjaaDoor
