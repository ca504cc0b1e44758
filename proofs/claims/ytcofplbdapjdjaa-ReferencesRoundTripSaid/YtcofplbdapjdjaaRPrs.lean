/- The reference's Parse. -/
import Derived.Test.YtcofplbdapjdjaaRIdt2
import Derived.Test.YtcofplbdapjdjaaTokIt
import Derived.Test.YtcofplbdapjdjaaTrim
import Derived.Test.YtcofplbdapjdjaaRefHas
namespace Go.Proofs.Ytcofplbdapjdjaa
open Go.RowKit

theorem blank_any (c : UInt8) (w : World) : Calls Try.prog 39 #[.int .u8 c.toNat] w fun e w' => e = .returned (.bool (Mid.bl c)) ∧ w = w' := by
  have e : Mid.bl c = (decide ((c.toNat : Int) = 32) || decide ((c.toNat : Int) = 9)) := by
    unfold Mid.bl
    rw [Mid.u8_eq, Mid.u8_eq]; rfl
  rw [e]
  generalize (c.toNat : Int) = z
  by_cases h1 : z = 32
  · subst h1
    go_enter Try.func39, Try.ntmps39
    go_wp2_with fail
    go_ret
    exact ⟨rfl, rfl⟩
  · by_cases h2 : z = 9
    · subst h2
      go_enter Try.func39, Try.ntmps39
      go_wp2_with fail
      go_ret
      exact ⟨rfl, rfl⟩
    · have b1 : (z == 32) = false := by simpa using h1
      have b2 : (z == 9) = false := by simpa using h2
      rw [decide_eq_false h1, decide_eq_false h2]
      go_enter Try.func39, Try.ntmps39
      go_wp2_with fail
      go_ret
      exact ⟨rfl, rfl⟩

theorem results_t3 {P : Program} {fn : Func} {p q r : Tmp} (h : fn.results = #[.tmp p, .tmp q, .tmp r]) (tmps : Array Value) (w : World) :
    (results fn tmps).run P w = .ok (.tuple #[tmps.getD p undef, tmps.getD q undef, tmps.getD r undef]) w := by
  simp [results, h]
/-- what both Parses give -/
def PPost (R0 : List (Nat × List UInt8)) (w : World) (e : Ending) (w' : World) : Prop :=
  ∃ v l at' q, e = .returned (.tuple #[v, .int .i64 (at' : Nat), .int .i64 (q : Nat)]) ∧ Mid.prs R0 [] = (l, at', q) ∧ Ids w' v l ∧ Below w.heap.size w w'

set_option maxRecDepth 100000 in
set_option maxHeartbeats 4000000 in
theorem refParseL_any (s : ByteArray) (hs : s.size ≤ 100000) (R0 : List (Nat × List UInt8)) (hR0 : Mid.Toks s.data.toList 0 R0) (w : World) :
    Calls Try.prog 18 #[.string s] w (PPost R0 w) := by
  have hsI : (s.size : Int) ≤ 100000 := by omega
  have HBL := Lib.hid (fun c w => blank_any c w)
  have HID := Lib.hid (fun p k w => identity_any (s.extract p k) (by rw [ByteArray.size_extract]; omega) w)
  have HHA := Lib.hid (fun v L y W h1 h2 => refHas_any v L y W h1 h2)
  have hu : Try.prog.underlying 48 = some (.array 32 5) := Try.underlying48
  have HSL := Lib.hid (size_toList s)
  have T0 := Lib.hid hR0
  clear hR0 hs
  go_enter Try.func18, Try.ntmps18
  go_wp2_with fail
  go_loopw [5, 6] (fun o i wr => ∃ (p : Nat) (v : Value) (R : List (Nat × List UInt8)) (L : List Mid.Id), v = o ∧ i = .int .i64 p ∧ p ≤ s.size ∧ Hid (Mid.Toks s.data.toList p R) ∧ Hid (Mid.prs R0 [] = Mid.prs R L) ∧ L.length ≤ 20 ∧ Hid (OwnI 48 w.heap.size wr v L) ∧ Hid (Below w.heap.size w wr)) (fun _ i _ => s.size - (intOf i).toNat)
  case atStart => exact ⟨0, _, R0, [], rfl, rfl, Nat.zero_le _, T0, Lib.hid rfl, by simp, Lib.hid (World.ownsRow_nil _ _ _ _), Lib.hid (Below.refl _ _)⟩
  case round =>
    clear T0
    obtain ⟨p, v, R, L, rfl, rfl, hp, TK, PR, hL20, OW, BB⟩ := hrel
    by_cases hlt : p < s.size
    · obtain ⟨c, hc⟩ : ∃ c, s[p]'hlt = c := ⟨_, rfl⟩
      have i1 := fun w => run_at s p hlt c hc w
      have hgc : s.data.toList.getD p 0 = c := by rw [getD_toList s p hlt]; exact hc
      have hltI : (p : Int) < (s.size : Int) := by omega
      have HB1 := Lib.hid (HBL.out c)
      cases hb : Mid.bl c
      · rw [hb] at HB1
        have HG := Lib.hid hgc; have HBC := Lib.hid hb
        clear hc hgc hb
        go_wp2_with fail
        refine (HB1.out _).mono ?_
        rintro e w1 ⟨rfl, rfl⟩
        go_wp2_with fail
        clear i1
        go_loopw [7] (fun i wx => ∃ k : Nat, i = .int .i64 k ∧ p ≤ k ∧ k ≤ s.size ∧ wx = wr ∧ Hid (∀ j, p ≤ j → j < k → Mid.bl (s.data.toList.getD j 0) = false)) (fun i _ => s.size - (intOf i).toNat)
        case atStart => exact ⟨p, rfl, Nat.le_refl _, hp, rfl, Lib.hid (fun j h1 h2 => by omega)⟩
        case round =>
          obtain ⟨k, rfl, hpk, hk, rfl, NB⟩ := hrel
          by_cases hk2 : k < s.size
          · obtain ⟨d, hd⟩ : ∃ d, s[k]'hk2 = d := ⟨_, rfl⟩
            have i2 := fun w => run_at s k hk2 d hd w
            have hgd : s.data.toList.getD k 0 = d := by rw [getD_toList s k hk2]; exact hd
            have hkI : (k : Int) < (s.size : Int) := by omega
            have HB2 := Lib.hid (HBL.out d)
            cases hbd : Mid.bl d
            · rw [hbd] at HB2
              have NB2 := Lib.hid (show ∀ j, p ≤ j → j < k + 1 → Mid.bl (s.data.toList.getD j 0) = false from fun j h1 h2 => by
                by_cases e : j = k
                · subst e; rw [hgd]; exact hbd
                · exact NB.out j h1 (by omega))
              clear hd hgd hbd NB
              go_wp2_with fail
              refine (HB2.out _).mono ?_
              rintro e w2 ⟨rfl, rfl⟩
              go_wp2_with fail
              go_roundw
              case rel => exact ⟨k + 1, by go_num, by omega, by omega, by trivial, NB2⟩
              case measure => simp [intOf]; omega
            · rw [hbd] at HB2
              have HE := Lib.hid (show Mid.bl (s.data.toList.getD k 0) = true by rw [hgd]; exact hbd)
              clear hd hgd hbd
              go_wp2_with fail
              refine (HB2.out _).mono ?_
              rintro e w2 ⟨rfl, rfl⟩
              have HEND := Lib.hid (Or.inr (a := k = s.data.toList.length) HE.out)
              clear HE
              have hpk2 : p < k := by
                rcases Nat.lt_or_ge p k with h | h
                · exact h
                · obtain rfl : k = p := by omega
                  rcases HEND.out with h1 | h1
                  · rw [HSL.out] at h1; omega
                  · rw [HG.out, HBC.out] at h1; cases h1
              obtain ⟨R', rfl, T2⟩ := TK.out.inv_tok hpk2 (by rw [HSL.out]; exact hk) NB.out HEND.out
              have HI := Lib.hid (HID.out p k)
              rw [ext_list s p k hk] at HI
              generalize (s.data.toList.drop p).take (k - p) = t at *
              have T2 := Lib.hid T2
              have hkI2 : (k : Int) ≤ (s.size : Int) := by omega
              have hpkI : (p : Int) ≤ (k : Int) := by omega
              obtain ⟨ad, cap, rfl, _, _, _, _⟩ := OW.out.ids
              have HP := Lib.hid hpk2; have HK := Lib.hid hk; have HL := Lib.hid hL20
              clear TK NB HEND HG HBC hpk hL20 hp
              by_cases h20 : L.length = 20
              · have h20I : (L.length : Int) = 20 := by omega
                go_wp2_with fail
                exact bodyPost_ret (results_t3 rfl _ _) rfl ⟨.slice none 0 0, [], p, 9, rfl, by rw [PR.out, Mid.prs, if_pos h20], Ids.nil _, BB.out⟩
              have h20I : ¬ (L.length : Int) = 20 := by omega
              have hb20 : ((L.length : Int) == 20) = false := by simpa using h20I
              have H20 := Lib.hid h20
              clear h20
              go_wp2_with fail
              refine (HI.out _).mono ?_
              rintro e w3 ⟨rfl, hb3⟩
              have B3 := Lib.hid (BB.out.trans (hb3.mono BB.out.size)); have O3 := Lib.hid (show OwnI 48 w.heap.size w3 (.slice ad L.length cap) L from row_keep OW.out hb3)
              clear hb3 HI OW BB
              cases hok : Mid.okT t
              · have HOK := Lib.hid hok
                clear hok
                simp only [Bool.false_eq_true, if_false]
                go_wp2_with (refine sto_id infoRid w3.heap.size default _ (Blk.fresh w3 _ _) (by rfl) (by rfl) _ _ (by rfl) (by rfl) (by rfl) ?_; intro w4 hw4; have B4 := Lib.hid (show Below w.heap.size w w4 by rw [hw4.out]; exact below_row (B3.out.alloc B3.out.size _) _ B3.out.size _); clear hw4)
                exact bodyPost_ret (results_t3 rfl _ _) rfl ⟨.slice none 0 0, [], p, 3, rfl, by rw [PR.out, Mid.prs, if_neg H20.out, if_pos HOK.out], Ids.nil _, B4.out⟩
              have HOK := Lib.hid hok
              clear hok
              simp only [if_true]
              have PR2 := Lib.hid (show Mid.prs R0 [] = if Mid.idT t = default then ([], p, 1) else if Mid.idT t ∈ L then ([], p, 7) else Mid.prs R' (L ++ [Mid.idT t]) by rw [PR.out, Mid.prs, if_neg H20.out, if_neg (by rw [HOK.out]; simp)])
              generalize Mid.idT t = y at *
              have hiy := info_enc infoRid y
              have hle := encI_len y
              have heq := fun w => eq_enc (t := 48) hu y default w
              clear PR
              by_cases hd : y = default
              · rw [decide_eq_true hd] at heq
                have HD := Lib.hid hd
                clear hd
                go_wp2_with (first
                  | (refine sto_id infoRid w3.heap.size y _ (Blk.fresh w3 _ _) (by rfl) (by rfl) _ _ (by rfl) (by rfl) (by rfl) ?_; intro w4 hw4; have X4 := Lib.hid (show Blk w4 w3.heap.size 48 (encI y).toArray by rw [hw4.out]; exact (Blk.fresh w3 _ _).row _); have B4 := Lib.hid (show Below w.heap.size w w4 by rw [hw4.out]; exact below_row (B3.out.alloc B3.out.size _) _ B3.out.size _); clear hw4)
                  | (refine wpList_load_mid rfl _ _ rfl w3.heap.size 0 (by rfl) (encI y) _ (encBlk X4.out) hu rfl hiy ?_)
                  | (refine wp_build_R rfl rfl ?_))
                exact bodyPost_ret (results_t3 rfl _ _) rfl ⟨.slice none 0 0, [], p, 1, rfl, by rw [PR2.out, if_pos HD.out], Ids.nil _, B4.out⟩
              rw [decide_eq_false hd] at heq
              have HD := Lib.hid hd
              clear hd
              go_wp2_with (first
                | (refine sto_id infoRid w3.heap.size y _ (Blk.fresh w3 _ _) (by rfl) (by rfl) _ _ (by rfl) (by rfl) (by rfl) ?_; intro w4 hw4; have X4 := Lib.hid (show Blk w4 w3.heap.size 48 (encI y).toArray by rw [hw4.out]; exact (Blk.fresh w3 _ _).row _); have B4 := Lib.hid (show Below w3.heap.size w3 w4 by rw [hw4.out]; exact below_row ((Below.refl _ w3).alloc (Nat.le_refl _) _) _ (Nat.le_refl _) _); clear hw4)
                | (refine wpList_load_mid rfl _ _ rfl w3.heap.size 0 (by rfl) (encI y) _ (encBlk X4.out) hu rfl hiy ?_)
                | (refine wp_build_R rfl rfl ?_))
              have O4 := Lib.hid (show OwnI 48 w.heap.size w4 (.slice ad L.length cap) L from row_keep O3.out B4.out)
              have B5 := Lib.hid (B3.out.trans (B4.out.mono B3.out.size))
              refine (HHA.out _ L y _ (by have := HL.out; omega) O4.out.ids).mono ?_
              rintro e w5 ⟨rfl, hb5⟩
              have O5 := Lib.hid (show OwnI 48 w.heap.size w5 (.slice ad L.length cap) L from row_keep O4.out hb5)
              have B6 := Lib.hid (B5.out.trans (hb5.mono B5.out.size)); have X5 := Lib.hid (X4.out.keep hb5 X4.out.lt)
              clear hb5 heq O3 O4 B3 B4 B5 X4
              by_cases hm : y ∈ L
              · rw [decide_eq_true hm]
                have HM := Lib.hid hm
                clear hm
                go_wp2_with fail
                exact bodyPost_ret (results_t3 rfl _ _) rfl ⟨.slice none 0 0, [], p, 7, rfl, by rw [PR2.out, if_neg HD.out, if_pos HM.out], Ids.nil _, B6.out⟩
              rw [decide_eq_false hm]
              have PR3 := Lib.hid (show Mid.prs R0 [] = Mid.prs R' (L ++ [y]) by rw [PR2.out, if_neg HD.out, if_neg hm])
              clear hm PR2
              have HC := Lib.hid (show ∀ C, C = (encI y).toArray → Ids (w5.alloc (.cells C 48)) (.slice (some ⟨w5.heap.size, 0, none⟩) 1 1) [y] from fun C hC => by rw [hC]; exact (own_one (base := 0) (Blk.fresh w5 _ _) (Nat.zero_le _)).ids)
              have HSZ := Lib.hid (show ∀ o, w.heap.size ≤ (w5.alloc o).heap.size from fun o => by have := B6.out.size; simp; omega)
              go_wp2_with (first
                | (refine wpList_load_mid rfl _ _ rfl w3.heap.size 0 (by rfl) (encI y) _ (encBlk X5.out) hu rfl hiy ?_)
                | (refine wpList_appR rfl _ _ rfl w.heap.size (.slice ad L.length cap) L (by rfl) (O5.out.alloc _) _ [y] (by rfl) (HC.out _ (fold_enc y)) (by have := HL.out; simp; omega) (HSZ.out _) ?_; intro v7 w7 O7 G7; have B7 := Lib.hid ((B6.out.alloc B6.out.size _).grown G7.out (HSZ.out _) (fun j hj => (O5.out.lt j hj).1))))
              go_roundw
              case rel => exact ⟨k, _, R', L ++ [y], rfl, rfl, HK.out, T2, PR3, by have := HL.out; have := H20.out; simp; omega, O7, B7⟩
              case measure => have := HP.out; have := HK.out; simp [intOf]; omega
          · have HEND := Lib.hid (Or.inl (b := Mid.bl (s.data.toList.getD k 0) = true) (show k = s.data.toList.length by rw [HSL.out]; omega))
            have hkn : ¬ (k : Int) < (s.size : Int) := by omega
            have hpk2 : p < k := by
              rcases Nat.lt_or_ge p k with h | h
              · exact h
              · obtain rfl : k = p := by omega
                rcases HEND.out with h1 | h1
                · rw [HSL.out] at h1; omega
                · rw [HG.out, HBC.out] at h1; cases h1
            obtain ⟨R', rfl, T2⟩ := TK.out.inv_tok hpk2 (by rw [HSL.out]; exact hk) NB.out HEND.out
            have HI := Lib.hid (HID.out p k)
            rw [ext_list s p k hk] at HI
            generalize (s.data.toList.drop p).take (k - p) = t at *
            have T2 := Lib.hid T2
            have hkI2 : (k : Int) ≤ (s.size : Int) := by omega
            have hpkI : (p : Int) ≤ (k : Int) := by omega
            obtain ⟨ad, cap, rfl, _, _, _, _⟩ := OW.out.ids
            have HP := Lib.hid hpk2; have HK := Lib.hid hk; have HL := Lib.hid hL20
            clear TK NB HEND HG HBC hpk hL20 hp
            by_cases h20 : L.length = 20
            · have h20I : (L.length : Int) = 20 := by omega
              go_wp2_with fail
              exact bodyPost_ret (results_t3 rfl _ _) rfl ⟨.slice none 0 0, [], p, 9, rfl, by rw [PR.out, Mid.prs, if_pos h20], Ids.nil _, BB.out⟩
            have h20I : ¬ (L.length : Int) = 20 := by omega
            have hb20 : ((L.length : Int) == 20) = false := by simpa using h20I
            have H20 := Lib.hid h20
            clear h20
            go_wp2_with fail
            refine (HI.out _).mono ?_
            rintro e w3 ⟨rfl, hb3⟩
            have B3 := Lib.hid (BB.out.trans (hb3.mono BB.out.size)); have O3 := Lib.hid (show OwnI 48 w.heap.size w3 (.slice ad L.length cap) L from row_keep OW.out hb3)
            clear hb3 HI OW BB
            cases hok : Mid.okT t
            · have HOK := Lib.hid hok
              clear hok
              simp only [Bool.false_eq_true, if_false]
              go_wp2_with (refine sto_id infoRid w3.heap.size default _ (Blk.fresh w3 _ _) (by rfl) (by rfl) _ _ (by rfl) (by rfl) (by rfl) ?_; intro w4 hw4; have B4 := Lib.hid (show Below w.heap.size w w4 by rw [hw4.out]; exact below_row (B3.out.alloc B3.out.size _) _ B3.out.size _); clear hw4)
              exact bodyPost_ret (results_t3 rfl _ _) rfl ⟨.slice none 0 0, [], p, 3, rfl, by rw [PR.out, Mid.prs, if_neg H20.out, if_pos HOK.out], Ids.nil _, B4.out⟩
            have HOK := Lib.hid hok
            clear hok
            simp only [if_true]
            have PR2 := Lib.hid (show Mid.prs R0 [] = if Mid.idT t = default then ([], p, 1) else if Mid.idT t ∈ L then ([], p, 7) else Mid.prs R' (L ++ [Mid.idT t]) by rw [PR.out, Mid.prs, if_neg H20.out, if_neg (by rw [HOK.out]; simp)])
            generalize Mid.idT t = y at *
            have hiy := info_enc infoRid y
            have hle := encI_len y
            have heq := fun w => eq_enc (t := 48) hu y default w
            clear PR
            by_cases hd : y = default
            · rw [decide_eq_true hd] at heq
              have HD := Lib.hid hd
              clear hd
              go_wp2_with (first
                | (refine sto_id infoRid w3.heap.size y _ (Blk.fresh w3 _ _) (by rfl) (by rfl) _ _ (by rfl) (by rfl) (by rfl) ?_; intro w4 hw4; have X4 := Lib.hid (show Blk w4 w3.heap.size 48 (encI y).toArray by rw [hw4.out]; exact (Blk.fresh w3 _ _).row _); have B4 := Lib.hid (show Below w.heap.size w w4 by rw [hw4.out]; exact below_row (B3.out.alloc B3.out.size _) _ B3.out.size _); clear hw4)
                | (refine wpList_load_mid rfl _ _ rfl w3.heap.size 0 (by rfl) (encI y) _ (encBlk X4.out) hu rfl hiy ?_)
                | (refine wp_build_R rfl rfl ?_))
              exact bodyPost_ret (results_t3 rfl _ _) rfl ⟨.slice none 0 0, [], p, 1, rfl, by rw [PR2.out, if_pos HD.out], Ids.nil _, B4.out⟩
            rw [decide_eq_false hd] at heq
            have HD := Lib.hid hd
            clear hd
            go_wp2_with (first
              | (refine sto_id infoRid w3.heap.size y _ (Blk.fresh w3 _ _) (by rfl) (by rfl) _ _ (by rfl) (by rfl) (by rfl) ?_; intro w4 hw4; have X4 := Lib.hid (show Blk w4 w3.heap.size 48 (encI y).toArray by rw [hw4.out]; exact (Blk.fresh w3 _ _).row _); have B4 := Lib.hid (show Below w3.heap.size w3 w4 by rw [hw4.out]; exact below_row ((Below.refl _ w3).alloc (Nat.le_refl _) _) _ (Nat.le_refl _) _); clear hw4)
              | (refine wpList_load_mid rfl _ _ rfl w3.heap.size 0 (by rfl) (encI y) _ (encBlk X4.out) hu rfl hiy ?_)
              | (refine wp_build_R rfl rfl ?_))
            have O4 := Lib.hid (show OwnI 48 w.heap.size w4 (.slice ad L.length cap) L from row_keep O3.out B4.out)
            have B5 := Lib.hid (B3.out.trans (B4.out.mono B3.out.size))
            refine (HHA.out _ L y _ (by have := HL.out; omega) O4.out.ids).mono ?_
            rintro e w5 ⟨rfl, hb5⟩
            have O5 := Lib.hid (show OwnI 48 w.heap.size w5 (.slice ad L.length cap) L from row_keep O4.out hb5)
            have B6 := Lib.hid (B5.out.trans (hb5.mono B5.out.size)); have X5 := Lib.hid (X4.out.keep hb5 X4.out.lt)
            clear hb5 heq O3 O4 B3 B4 B5 X4
            by_cases hm : y ∈ L
            · rw [decide_eq_true hm]
              have HM := Lib.hid hm
              clear hm
              go_wp2_with fail
              exact bodyPost_ret (results_t3 rfl _ _) rfl ⟨.slice none 0 0, [], p, 7, rfl, by rw [PR2.out, if_neg HD.out, if_pos HM.out], Ids.nil _, B6.out⟩
            rw [decide_eq_false hm]
            have PR3 := Lib.hid (show Mid.prs R0 [] = Mid.prs R' (L ++ [y]) by rw [PR2.out, if_neg HD.out, if_neg hm])
            clear hm PR2
            have HC := Lib.hid (show ∀ C, C = (encI y).toArray → Ids (w5.alloc (.cells C 48)) (.slice (some ⟨w5.heap.size, 0, none⟩) 1 1) [y] from fun C hC => by rw [hC]; exact (own_one (base := 0) (Blk.fresh w5 _ _) (Nat.zero_le _)).ids)
            have HSZ := Lib.hid (show ∀ o, w.heap.size ≤ (w5.alloc o).heap.size from fun o => by have := B6.out.size; simp; omega)
            go_wp2_with (first
              | (refine wpList_load_mid rfl _ _ rfl w3.heap.size 0 (by rfl) (encI y) _ (encBlk X5.out) hu rfl hiy ?_)
              | (refine wpList_appR rfl _ _ rfl w.heap.size (.slice ad L.length cap) L (by rfl) (O5.out.alloc _) _ [y] (by rfl) (HC.out _ (fold_enc y)) (by have := HL.out; simp; omega) (HSZ.out _) ?_; intro v7 w7 O7 G7; have B7 := Lib.hid ((B6.out.alloc B6.out.size _).grown G7.out (HSZ.out _) (fun j hj => (O5.out.lt j hj).1))))
            go_roundw
            case rel => exact ⟨k, _, R', L ++ [y], rfl, rfl, HK.out, T2, PR3, by have := HL.out; have := H20.out; simp; omega, O7, B7⟩
            case measure => have := HP.out; have := HK.out; simp [intOf]; omega
      · rw [hb] at HB1
        have HT2 := Lib.hid (TK.out.inv_skip (by rw [HSL.out]; exact hlt) (by rw [hgc]; exact hb))
        clear hc hgc hb TK
        go_wp2_with fail
        refine (HB1.out _).mono ?_
        rintro e w1 ⟨rfl, rfl⟩
        go_wp2_with fail
        go_roundw
        case rel => exact ⟨p + 1, v, R, L, rfl, by go_num, by omega, HT2, PR, hL20, OW, BB⟩
        case measure => simp [intOf]; omega
    · have hR := TK.out.inv_done (by rw [HSL.out]; omega)
      have hpr := PR.out
      rw [hR] at hpr
      have HPR := Lib.hid (show Mid.prs R0 [] = (L, 0, 0) from hpr)
      have HI := Lib.hid OW.out.ids
      clear hR hpr TK PR OW
      go_wp2_with fail
      exact bodyPost_ret (results_t3 rfl _ _) rfl ⟨v, L, 0, 0, rfl, HPR.out, HI.out, BB.out⟩
end Go.Proofs.Ytcofplbdapjdjaa
