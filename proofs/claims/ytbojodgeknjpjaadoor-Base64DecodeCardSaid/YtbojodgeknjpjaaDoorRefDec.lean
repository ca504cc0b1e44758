/- The reference decoding: called with a text of at most 1000 bytes it answers B64.decT of it in memory of its own, and writes nothing that was there. -/
import Derived.Test.YtbojodgeknjpjaaDoorRefPlain2
import Derived.Test.YtbojodgeknjpjaaDoorDec
import Derived.LoopTactic
namespace Go.Proofs.YtbojodgeknjpjaaDoor
open Go.RowKit

def alphaS2 : ByteArray := ⟨B64.alphaL.toArray⟩

theorem alphaS2_get (k : Nat) (hk : k < 64) : alphaS2[k]'hk = B64.alpha k := by
  have hl : k < B64.alphaL.length := hk
  simp [alphaS2, B64.alpha, ByteArray.getElem_eq_getElem_data, List.getElem?_eq_getElem hl]

def valI (c : UInt8) : Int := match B64.val c with | some v => v | none => -1

set_option maxHeartbeats 400000 in
theorem value_any (c : UInt8) (w : World) : Calls Tryd.prog 33 #[.int .u8 c.toNat] w fun e w' => e = .returned (.int .i64 (valI c)) ∧ w = w' := by
  go_enter Tryd.func33, Tryd.ntmps33
  go_wp2_with fail
  go_loop [3] (fun i => ∃ k : Nat, k ≤ 64 ∧ i = .int .i64 k ∧ ∀ j, j < k → B64.alpha j ≠ c) (fun i => 64 - (intOf i).toNat)
  case atStart => exact ⟨0, by omega, rfl, fun j hj => by omega⟩
  case round =>
    obtain ⟨k, hk, rfl, hne⟩ := hrel
    have HNE := Lib.hid hne
    clear hne
    by_cases hlt : k < 64
    · have hks : k < alphaS2.size := hlt
      have hak : alphaS2[k] = B64.alpha k := alphaS2_get k hlt
      go_wp2_with fail
      · have hq : ((alphaS2[k].toNat : Int) == (c.toNat : Int)) = true := by assumption
        rw [hak] at hq
        have he : B64.alpha k = c := UInt8.toNat_inj.1 (by simp at hq; omega)
        go_ret
        refine ⟨?_, rfl⟩
        rw [valI, ← he, B64.val_alpha k hlt]
        rfl
      · have hq : ((alphaS2[k].toNat : Int) == (c.toNat : Int)) = false := by assumption
        rw [hak] at hq
        have he : B64.alpha k ≠ c := by
          intro e
          rw [e] at hq
          simp at hq
        refine ⟨⟨k + 1, by omega, by go_num, fun j hj => ?_⟩, by simp [intOf]; omega⟩
        by_cases hjk : j = k
        · rw [hjk]; exact he
        · exact HNE.out j (by omega)
    · have hv : B64.val c = none := by
        cases hv : B64.val c with
        | none => rfl
        | some v =>
          have := B64.val_some c v hv
          exact absurd this.2 (HNE.out v (by omega))
      have hvi : valI c = -1 := by rw [valI, hv]
      have HVI := Lib.hid hvi
      clear hvi hv
      go_wp2
      go_ret
      exact ⟨by rw [HVI.out]; rfl, rfl⟩

/-- is the place one of the padding? -/
theorem place_any (s : ByteArray) (i : Nat) (w : World) (hi : i < s.size) (hs : s.size ≤ 1000000) (b : Bool) (hb : b = B64.placeB s.data.toList i) :
    Calls Tryd.prog 34 #[.string s, .int .i64 i] w fun e w' => e = .returned (.bool b) ∧ w = w' := by
  unfold B64.placeB at hb
  rw [size_toList] at hb
  have hget : ∀ j (hj : j < s.size), s.data.toList[j]? = some s[j] := fun j hj => by
    simp [ByteArray.getElem_eq_getElem_data, hj]
  obtain ⟨c, hc⟩ : ∃ c, s[i] = c := ⟨_, rfl⟩
  have hgi := hget i hi
  rw [hc] at hgi
  rw [hgi] at hb
  have hsI : (s.size : Int) ≤ 1000000 := by omega
  by_cases h4 : s.size % 4 = 0
  · have g4 : ((s.size : Int) % 4 != 0) = false := by simp; omega
    by_cases hc61 : c = 61
    · subst hc61
      have HB := Lib.hid hb
      clear hb hgi
      by_cases h1 : i + 1 = s.size
      · have g1 : ((i : Int) == (s.size : Int) - 1) = true := by simp; omega
        have hbt : b = true := by have := HB.out; simp [h4, h1] at this; exact this
        subst hbt
        clear HB hget
        go_enter Tryd.func34, Tryd.ntmps34
        go_wp2
        go_ret
        exact ⟨rfl, rfl⟩
      · have g1 : ((i : Int) == (s.size : Int) - 1) = false := by simp; omega
        by_cases h2 : i + 2 = s.size
        · have g2 : ((i : Int) == (s.size : Int) - 2) = true := by simp; omega
          have hi2 : i + 1 < s.size := by omega
          obtain ⟨d, hd⟩ : ∃ d, s[i + 1] = d := ⟨_, rfl⟩
          have hgd := hget (i + 1) hi2
          rw [hd] at hgd
          have hlast : s.size - 1 = i + 1 := by omega
          have hbt : b = (d == 61) := by
            have := HB.out
            rw [hgd] at this
            simp [h4, h1, h2] at this
            exact this
          have hdq : ((d.toNat : Int) == 61) = (d == 61) := by
            rw [Bool.eq_iff_iff]
            simp only [beq_iff_eq]
            constructor
            · intro h; exact UInt8.toNat_inj.1 (by show d.toNat = 61; omega)
            · rintro rfl; rfl
          rw [hbt, ← hdq]
          clear HB hget hbt hdq
          have hi3 : s.size - 1 < s.size := by omega
          have hdd : s[s.size - 1] = d := by
            rw [← hd]
            congr 1
          go_enter Tryd.func34, Tryd.ntmps34
          go_wp2
          go_ret
          exact ⟨rfl, rfl⟩
        · have g2 : ((i : Int) == (s.size : Int) - 2) = false := by simp; omega
          have hbt : b = false := by
            have := HB.out
            simp [h1, h2] at this
            exact this
          subst hbt
          clear HB hget
          go_enter Tryd.func34, Tryd.ntmps34
          go_wp2
          go_ret
          exact ⟨rfl, rfl⟩
    · have hbt : b = false := by
        rw [hb]
        simp [hc61]
      have hcq : ((c.toNat : Int) != 61) = true := by
        simp
        intro h
        exact hc61 (UInt8.toNat_inj.1 (by show c.toNat = 61; omega))
      subst hbt
      clear hb hget hgi
      go_enter Tryd.func34, Tryd.ntmps34
      go_wp2
      go_ret
      exact ⟨rfl, rfl⟩
  · have g4 : ((s.size : Int) % 4 != 0) = true := by simp; omega
    have hbt : b = false := by rw [hb]; simp [h4]
    subst hbt
    clear hb hget hgi
    go_enter Tryd.func34, Tryd.ntmps34
    go_wp2
    go_ret
    exact ⟨rfl, rfl⟩

/-- the word of the reference's decoding -/
def RD (w : World) (st : B64.St) (v : Value) (W : World) : Prop := W.ownsRow w.heap.size 5 1 v st.1.length (byteVals st.1) ∧ Below w.heap.size w W

set_option maxHeartbeats 1000000 in
theorem refDec_any (s : ByteArray) (w : World) (hs : s.size ≤ 1000) :
    Calls Tryd.prog 18 #[.string s] w (DecPost (B64.decT s.data.toList) w) := by
  have hsI : (s.size : Int) ≤ 1000 := by omega
  obtain ⟨n, hn⟩ : ∃ n, n = (B64.data s.data.toList).length := ⟨_, rfl⟩
  have hns : n ≤ s.size := by
    have := congrArg List.length (B64.data_pads s.data.toList)
    rw [size_toList] at this
    simp at this
    omega
  have HNN := Lib.hid hn
  clear hn
  obtain ⟨i0, hi, hz0, hz1, hz2⟩ := info_parts Tryd.info5
  go_enter Tryd.func18, Tryd.ntmps18
  go_wp2_with fail
  go_loopw [5, 6, 7, 8, 9] (fun out val hav last i wr => ∃ k : Nat, k ≤ s.size ∧ i = .int .i64 k ∧ last = .int .i64 ((min k n - 1 : Nat) : Int) ∧ (∀ j c, j < k → j < n → (B64.data s.data.toList)[j]? = some c → B64.val c ≠ none) ∧
      val = .int .i64 ((B64.feed 8 1 (B64.bits6 (B64.vals ((B64.data s.data.toList).take k)))).2.1 : Nat) ∧ hav = .int .i64 ((B64.feed 8 1 (B64.bits6 (B64.vals ((B64.data s.data.toList).take k)))).2.2 : Nat) ∧ RD w (B64.feed 8 1 (B64.bits6 (B64.vals ((B64.data s.data.toList).take k)))) out wr)
    (fun _ _ _ _ i _ => s.size - (intOf i).toNat)
  case atStart => exact ⟨0, Nat.zero_le _, rfl, by simp, fun j c hj => by omega, rfl, rfl, World.ownsRow_nil _ _ _ _, Below.refl _ _⟩
  case round =>
    obtain ⟨k, hk, rfl, rfl, hok, rfl, rfl, hRD⟩ := hrel
    have HOK := Lib.hid hok
    clear hok
    by_cases hlt : k < s.size
    · obtain ⟨c, hc⟩ : ∃ c, s[k] = c := ⟨_, rfl⟩
      have hgs : s.data.toList[k]? = some c := by
        rw [← hc]
        simp [ByteArray.getElem_eq_getElem_data, hlt]
      have HGS := Lib.hid hgs
      clear hgs
      by_cases hkn : k < n
      · have hgd : (B64.data s.data.toList)[k]? = some c := by rw [B64.data_get _ _ (by rw [← HNN.out]; exact hkn)]; exact HGS.out
        cases hv : B64.val c with
        | none =>
          have hvi : valI c = -1 := by rw [valI, hv]
          have hpl := B64.place_data s.data.toList k (by rw [← HNN.out]; exact hkn)
          have hva := value_any c
          rw [hvi] at hva
          have HVA := Lib.hid hva
          have HGD := Lib.hid hgd
          clear hva hvi hgd
          go_wp2_with (first | (go_at_call 33; refine (HVA.out _).mono ?_; rintro e w' ⟨rfl, rfl⟩) | (go_at_call 34; refine (place_any s k _ hlt (by omega) false hpl.symm).mono ?_; rintro e w' ⟨rfl, rfl⟩))
          go_ret3
          have hdt := B64.decT_byte s.data.toList (by rw [size_toList]; omega) k c HGD.out hv (fun j c' hj hj' => HOK.out j c' hj (by omega) hj')
          rw [hdt]
          exact ⟨_, rfl, Bytes.nil _, hRD.2⟩
        | some v =>
          have hvi : valI c = (v : Int) := by rw [valI, hv]
          have hv64 := (B64.val_some c v hv).1
          have hva := value_any c
          rw [hvi] at hva
          have hsn := B64.vals_snoc (B64.data s.data.toList) k c v hgd hv
          have HVA := Lib.hid hva
          have HSN := Lib.hid hsn
          have HGD := Lib.hid hgd
          have HV := Lib.hid hv
          have hv0 : ¬ (v : Int) < 0 := by omega
          clear hva hvi hsn hgd hv
          go_wp2_with (go_at_call 33; refine (HVA.out _).mono ?_; rintro e w' ⟨rfl, rfl⟩)
          have hal : (B64.bits6 (B64.vals ((B64.data s.data.toList).take k))).length ≤ 6000 := by
            rw [B64.bits6_length]
            simp [B64.vals]
            omega
          have haf : ∀ x ∈ B64.bits6 (B64.vals ((B64.data s.data.toList).take k)), x < 2 ^ 1 := B64.bits6_lt _
          generalize hA : B64.bits6 (B64.vals ((B64.data s.data.toList).take k)) = A at *
          have HA := Lib.hid hA
          have HAF := Lib.hid haf
          clear hA haf
          go_loopw [5, 6, 7, 11] (fun out val hav kk wr => ∃ j : Nat, j ≤ 6 ∧ kk = .int .i64 (5 - (j : Int)) ∧ val = .int .i64 ((B64.feed 8 1 (A ++ (B64.bit6 v).take j)).2.1 : Nat) ∧ hav = .int .i64 ((B64.feed 8 1 (A ++ (B64.bit6 v).take j)).2.2 : Nat) ∧ RD w (B64.feed 8 1 (A ++ (B64.bit6 v).take j)) out wr)
            (fun _ _ _ kk _ => (1 + intOf kk).toNat)
          case atStart => exact ⟨0, by omega, rfl, by simp, by simp, by simpa using hRD⟩
          case round =>
            clear hRD
            obtain ⟨j, hj, rfl, rfl, rfl, hRD⟩ := hrel
            by_cases hj6 : j < 6
            · obtain ⟨q, hq⟩ : ∃ q : Nat, (5 - (j : Int)) = q := ⟨5 - j, by omega⟩
              rw [hq]
              have hq5 : q ≤ 5 := by omega
              have hlt1 : ∀ z ∈ A ++ (B64.bit6 v).take j, z < 2 ^ 1 := fun z hz => by
                simp only [List.mem_append] at hz
                rcases hz with hz | hz
                · exact HAF.out z hz
                · exact B64.bit6_lt v z (List.mem_of_mem_take hz)
              have hsp := B64.feed_spec 8 1 (by omega) _ hlt1
              have hfc := B64.feed_count 8 1 (by omega) _ hlt1
              obtain ⟨b1, hb1⟩ : ∃ b1, b1 = v / 2 ^ q % 2 := ⟨_, rfl⟩
              have hstep : (B64.bit6 v).take (j + 1) = (B64.bit6 v).take j ++ [b1] := by
                have : q = 5 - j := by omega
                subst this
                rw [hb1]
                rcases (show j = 0 ∨ j = 1 ∨ j = 2 ∨ j = 3 ∨ j = 4 ∨ j = 5 by omega) with rfl | rfl | rfl | rfl | rfl | rfl <;> simp [B64.bit6]
              have hbl : (A ++ (B64.bit6 v).take j).length ≤ 6006 := by
                rw [List.length_append]
                have h2 : ((B64.bit6 v).take j).length ≤ j := List.length_take_le _ _
                omega
              generalize hst : B64.feed 8 1 (A ++ (B64.bit6 v).take j) = st at *
              obtain ⟨E, h, c'⟩ := st
              obtain ⟨_, g1, g2, _⟩ := hsp
              obtain ⟨hown, hbel⟩ := hRD
              simp only at g1 g2 hfc hown
              have hEl : E.length ≤ 1000 := by omega
              have hbit : bits .and .i64 ((v : Int) / 2 ^ q) 1 = (b1 : Int) := by
                have hle : v / 2 ^ q ≤ v := Nat.div_le_self _ _
                have h1 := i64_and_nat (v / 2 ^ q) 1 (by omega) (by omega)
                rw [nat_mask1] at h1
                rw [hb1, ← h1]
                push_cast
                rfl
              have hb2 : b1 ≤ 1 := by omega
              have hc8 : c' ≤ 7 := by omega
              have hh : h ≤ 127 := by
                have : 2 ^ c' ≤ 2 ^ 7 := Nat.pow_le_pow_right (by omega) hc8
                omega
              have HSTEP := Lib.hid hstep; have HST := Lib.hid hst; have HBEL := Lib.hid hbel; have HOWN := Lib.hid hown
              clear hb1 hstep hst g1 g2 hfc hlt1 hbel hown
              by_cases h7 : c' = 7
              · subst h7
                go_wp2_with (at_builtin; refine wpList_append_own _ rfl _ _ 22 rfl w.heap.size 5 i0 (.int .u8 0) 1 1 Tryd.underlying22 hi hz0 hz1 hz2 rfl (by decide) _ _ _ rfl (HOWN.out.alloc _) ⟨wr.heap.size, 0, none⟩ 1 1 [.int .u8 ((2 * h + b1 : Nat) : Int)] rfl rfl ?c1 ?c2 ?c3 ?c4 ?c5 ?_)
                case c2 => first | rfl | (intro u hu; simp at hu; subst hu; rfl)
                case c3 => unfold maxLen; omega
                case c4 => omega
                case c5 => have := HBEL.out.size; simp; omega
                intro v' w1 hown' hgrow _
                have hRD2 : RD w (E ++ [2 * h + b1], 0, 0) v' w1 := ⟨by simpa [byteVals] using hown', (HBEL.out.alloc HBEL.out.size _).grown hgrow (by have := HBEL.out.size; simp; omega) (fun k hk => (HOWN.out.lt k hk).1)⟩
                have HRD := Lib.hid hRD2
                clear hown' hgrow hRD2
                go_wp2
                refine ⟨⟨j + 1, by omega, by congr 1; omega, ?_, ?_, ?_⟩, by simp [intOf]; omega⟩
                all_goals rw [HSTEP.out, ← List.append_assoc, B64.feed_snoc, HST.out, B64.put8_full]
                · rfl
                · rfl
                · exact HRD.out
              · have h8 : ((c' : Int) + 1 == 8) = false := by simp; omega
                go_wp2_with fail
                refine ⟨⟨j + 1, by omega, by congr 1; omega, ?_, ?_, ?_⟩, by simp [intOf]; omega⟩
                all_goals rw [HSTEP.out, ← List.append_assoc, B64.feed_snoc, HST.out, B64.put8_more _ _ _ _ (by omega)]
                · go_num
                · go_num
                · exact ⟨HOWN.out, HBEL.out⟩
            · have hj7 : j = 6 := by omega
              subst hj7
              have htk : (B64.bit6 v).take 6 = B64.bit6 v := rfl
              rw [htk] at hRD ⊢
              have hAA : A ++ B64.bit6 v = B64.bits6 (B64.vals ((B64.data s.data.toList).take (k + 1))) := by
                rw [HSN.out, B64.bits6_snoc, HA.out]
              rw [hAA] at hRD ⊢
              clear hAA
              go_wp2_with fail
              refine ⟨⟨k + 1, by omega, by go_num, ?_, ?_, rfl, rfl, hRD⟩, by simp [intOf]; omega⟩
              · congr 1; omega
              · intro j c' hj hjn hc'
                by_cases hjk : j = k
                · subst hjk
                  have : some c = some c' := HGD.out.symm.trans hc'
                  obtain rfl := Option.some.inj this
                  rw [HV.out]
                  simp
                · exact HOK.out j c' (by omega) hjn hc'
      · have hpp := B64.place_pad s.data.toList k (by rw [← HNN.out]; omega) (by rw [size_toList]; exact hlt)
        have hc61 : c = 61 := by
          have := HGS.out.symm.trans hpp.2
          exact Option.some.inj this
        subst hc61
        have hvi : valI 61 = -1 := by rw [valI, B64.val_pad]
        have hva := value_any 61
        rw [hvi] at hva
        have HVA := Lib.hid hva
        have hpl := hpp.1
        clear hva hvi hpp
        have htk : (B64.data s.data.toList).take (k + 1) = (B64.data s.data.toList).take k := by
          rw [List.take_of_length_le (by rw [← HNN.out]; omega), List.take_of_length_le (by rw [← HNN.out]; omega)]
        have HTK := Lib.hid htk
        clear htk
        go_wp2_with (first | (go_at_call 33; refine (HVA.out _).mono ?_; rintro e w' ⟨rfl, rfl⟩) | (go_at_call 34; refine (place_any s k _ hlt (by omega) true hpl.symm).mono ?_; rintro e w' ⟨rfl, rfl⟩))
        refine ⟨⟨k + 1, by omega, by go_num, ?_, ?_, ?_, ?_, ?_⟩, by simp [intOf]; omega⟩
        · congr 1; omega
        · intro j c' hj hjn hc'
          exact HOK.out j c' (by omega) hjn hc'
        · rw [HTK.out]
        · rw [HTK.out]
        · rw [HTK.out]; exact hRD
    · have hke : k = s.size := by omega
      subst hke
      have htk : (B64.data s.data.toList).take s.size = B64.data s.data.toList := List.take_of_length_le (by rw [← HNN.out]; exact hns)
      rw [htk, B64.feed_bits6 _ (B64.vals_lt _)] at hRD ⊢
      have hrest := B64.decT_rest s.data.toList (by rw [size_toList]; omega) (fun j c hj hc => HOK.out j c (by rw [HNN.out] at hns; omega) (by rw [HNN.out]; exact hj) hc)
      rw [size_toList, ← HNN.out] at hrest
      have HR := Lib.hid hrest
      obtain ⟨hown, hbel⟩ := hRD
      have hby := bytes_of_own hown (B64.feed_spec 8 6 (by omega) _ (B64.vals_lt _)).2.2.2
      have hhz := fun h4 => B64.held_zero s.data.toList (by rw [size_toList]; exact h4)
      have HHZ := Lib.hid hhz
      have HBY := Lib.hid hby
      clear hrest hown htk hhz hby
      by_cases h4 : s.size % 4 = 0
      · have g4 : ((s.size : Int) % 4 != 0) = false := by simp; omega
        have hr2 := HR.out
        rw [if_neg (by omega)] at hr2
        by_cases hz : (B64.feed 8 6 (B64.vals (B64.data s.data.toList))).2.1 = 0
        · rw [if_neg (by rw [Classical.not_not]; exact (HHZ.out h4).1 hz)] at hr2
          have HR2 := Lib.hid hr2
          rw [hz]
          clear hr2 hz
          go_wp2
          go_ret3
          rw [HR2.out]
          exact ⟨_, rfl, HBY.out, hbel⟩
        · rw [if_pos (fun h => hz ((HHZ.out h4).2 h))] at hr2
          have HR2 := Lib.hid hr2
          have hq : (((B64.feed 8 6 (B64.vals (B64.data s.data.toList))).2.1 : Nat) : Int) ≠ 0 := by omega
          have hq2 : ((((B64.feed 8 6 (B64.vals (B64.data s.data.toList))).2.1 : Nat) : Int) != 0) = true := by simpa using hq
          have hmin : min s.size n = n := by omega
          rw [hmin]
          clear hr2 hz hq hmin
          go_wp2
          go_ret3
          rw [HR2.out]
          exact ⟨_, rfl, Bytes.nil _, hbel⟩
      · have g4 : ((s.size : Int) % 4 != 0) = true := by simp; omega
        have hr2 := HR.out
        rw [if_pos h4] at hr2
        have HR2 := Lib.hid hr2
        clear hr2
        go_wp2
        go_ret3
        rw [HR2.out]
        exact ⟨_, rfl, Bytes.nil _, hbel⟩
end Go.Proofs.YtbojodgeknjpjaaDoor
