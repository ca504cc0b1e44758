/- Utf8Order: whatever texts come in, the law's call returns true and its arguments read as before; the table of bounds reads as the program's text lays it (the card ties it).
   Conditions: none beyond the row's own. -/
import Derived.Test.YtbjhomihmlijiaaDoorFrame
import Derived.Test.YtbjhomihmlijiaaDoorCount
import Derived.Test.YtbjhomihmlijiaaDoorInts
import Derived.Test.YtbjhomihmlijiaaDoorRefRep
namespace Go.Proofs.YtbjhomihmlijiaaDoor.utf8OrderLaw
open Go.ChangeShapes Go.WideShapes Go.ChangeAt Go.RowKit
open Go.ChangeMaps (open_string shut_string)

theorem less_map : ∀ (x y : List UInt8), Op.bytesLess x y = U8.lessN (x.map UInt8.toNat) (y.map UInt8.toNat)
  | [], [] => rfl
  | _ :: _, [] => rfl
  | [], _ :: _ => rfl
  | a :: x, b :: y => by
    rw [Op.bytesLess, less_map x y, List.map_cons, List.map_cons, U8.lessN]
    have h1 : decide (a < b) = decide (a.toNat < b.toNat) := by simp [UInt8.lt_iff_toNat_lt]
    have h2 : (a == b) = decide (a.toNat = b.toNat) := by
      by_cases h : a = b
      · subst h; simp
      · have hn : a.toNat ≠ b.toNat := fun e => h (UInt8.toNat_inj.1 e)
        simp [h, hn]
    rw [h1, h2]

theorem text_less (x y : ByteArray) : Op.bytesLess x.toList y.toList = U8.lessN (bytesOf x) (bytesOf y) := by
  rw [less_map, ByteArray.toList_eq, ByteArray.toList_eq]
  rfl

theorem its_encs (l rs : List Nat) (hok : ∀ r ∈ rs, U8.ok r) (h : l = U8.encs rs) : (U8.its l l.length 0).length = rs.length := by
  have hb : ∀ x ∈ l, x < 256 := by rw [h]; exact U8.encs_lt rs hok
  have h1 := (U8.its_all l hb l.length 0).1
  rw [U8.all_encs rs l l.length 0 hok (by rw [List.drop_zero]; exact h) (by omega)] at h1
  have := congrArg List.length h1
  rw [List.length_map] at this
  exact this

set_option maxRecDepth 20000 in
set_option maxHeartbeats 4000000 in
theorem walk (a a' : ByteArray) (ha : a.size ≤ maxLen) (ha' : a'.size ≤ maxLen) (w : World) (hT : Tab w) :
    Calls Tryd.prog 13 #[.string a, .string a'] w fun e w' => e = .returned (.bool true) ∧ Below w.heap.size w w' := by
  have hp := hT.1
  obtain ⟨c, hc⟩ : ∃ c, c = cutS a 100 := ⟨_, rfl⟩
  have hcs : c.size ≤ 100 := by rw [hc]; exact cutS_size a 100
  obtain ⟨d, hd⟩ : ∃ d, d = cutS a' 100 := ⟨_, rfl⟩
  have hds : d.size ≤ 100 := by rw [hd]; exact cutS_size a' 100
  obtain ⟨b, hb⟩ : ∃ b : Bool, b = ((((U8.check (bytesOf c) c.size 0).2 : Nat) : Int) == 0) := ⟨_, rfl⟩
  obtain ⟨b', hb'⟩ : ∃ b : Bool, b = ((((U8.check (bytesOf d) d.size 0).2 : Nat) : Int) == 0) := ⟨_, rfl⟩
  have H1 := Lib.hid (fun w => short_any a 100 w ha c hc)
  have H2 := Lib.hid (fun w => short_any a' 100 w ha' d hd)
  have HK := Lib.hid (fun w hT => known_any w hT)
  have HVC := Lib.hid (fun w hT => valid_any c w hT (by omega) b hb)
  have HVD := Lib.hid (fun w hT => valid_any d w hT (by omega) b' hb')
  clear hc hd ha ha'
  cases b with
  | false =>
    clear hb hb' HVD
    go_enter Tryd.func13, Tryd.ntmps13
    go_wp2_with fail
    refine (H1.out _).mono ?_
    rintro y w0' ⟨rfl, rfl⟩
    go_wp2_with fail
    refine (H2.out _).mono ?_
    rintro y w0' ⟨rfl, rfl⟩
    go_wp2_with fail
    refine (HK.out _ hT).mono ?_
    rintro y w1 ⟨rfl, hb1⟩
    have HB1 := Lib.hid hb1
    clear hb1
    go_wp2_with fail
    refine (HVC.out _ (hT.below HB1.out hp)).mono ?_
    rintro y w2 ⟨rfl, hb2⟩
    have HB2 := Lib.hid (HB1.out.trans (hb2.mono HB1.out.size))
    clear hb2 HB1
    go_wp2_with fail
    refine (HK.out _ (hT.below HB2.out hp)).mono ?_
    rintro y w3 ⟨rfl, hb3⟩
    have HB3 := Lib.hid (HB2.out.trans (hb3.mono HB2.out.size))
    clear hb3 HB2
    go_wp2_with fail
    go_ret
    exact ⟨rfl, HB3.out⟩
  | true =>
    cases b' with
    | false =>
      clear hb hb'
      go_enter Tryd.func13, Tryd.ntmps13
      go_wp2_with fail
      refine (H1.out _).mono ?_
      rintro y w0' ⟨rfl, rfl⟩
      go_wp2_with fail
      refine (H2.out _).mono ?_
      rintro y w0' ⟨rfl, rfl⟩
      go_wp2_with fail
      refine (HK.out _ hT).mono ?_
      rintro y w1 ⟨rfl, hb1⟩
      have HB1 := Lib.hid hb1
      clear hb1
      go_wp2_with fail
      refine (HVC.out _ (hT.below HB1.out hp)).mono ?_
      rintro y w2 ⟨rfl, hb2⟩
      have HB2 := Lib.hid (HB1.out.trans (hb2.mono HB1.out.size))
      clear hb2 HB1
      go_wp2_with fail
      refine (HVD.out _ (hT.below HB2.out hp)).mono ?_
      rintro y w3 ⟨rfl, hb3⟩
      have HB3 := Lib.hid (HB2.out.trans (hb3.mono HB2.out.size))
      clear hb3 HB2
      go_wp2_with fail
      refine (HK.out _ (hT.below HB3.out hp)).mono ?_
      rintro y w4 ⟨rfl, hb4⟩
      have HB4 := Lib.hid (HB3.out.trans (hb4.mono HB3.out.size))
      clear hb4 HB3
      go_wp2_with fail
      go_ret
      exact ⟨rfl, HB4.out⟩
    | true =>
      have hz : (U8.check (bytesOf c) (bytesOf c).length 0).2 = 0 := by
        rw [bytesOf_length]
        have := hb.symm
        simp at this
        omega
      have hz' : (U8.check (bytesOf d) (bytesOf d).length 0).2 = 0 := by
        rw [bytesOf_length]
        have := hb'.symm
        simp at this
        omega
      obtain ⟨rs, hok, hrs⟩ := U8.valid_encs (bytesOf c) (bytesOf_lt c) hz
      obtain ⟨ss, hok', hss⟩ := U8.valid_encs (bytesOf d) (bytesOf_lt d) hz'
      obtain ⟨x, hx⟩ : ∃ x, x = c ++ d := ⟨_, rfl⟩
      have hxs : x.size = c.size + d.size := by rw [hx, ByteArray.size_append]
      have hokx : ∀ r ∈ rs ++ ss, U8.ok r := fun r hr => (List.mem_append.1 hr).elim (hok r) (hok' r)
      have hxb : bytesOf x = U8.encs (rs ++ ss) := by rw [hx, bytesOf_append, U8.encs_append, hrs, hss]
      have hal : U8.allF (bytesOf c) c.size 0 = (rs, U8.offsOf 0 rs, 0, 0) := U8.all_encs rs (bytesOf c) c.size 0 hok (by rw [List.drop_zero]; exact hrs) (by rw [bytesOf_length]; omega)
      have hal' : U8.allF (bytesOf d) d.size 0 = (ss, U8.offsOf 0 ss, 0, 0) := U8.all_encs ss (bytesOf d) d.size 0 hok' (by rw [List.drop_zero]; exact hss) (by rw [bytesOf_length]; omega)
      have hcc : U8.check (bytesOf c) c.size 0 = (0, 0) := by have := U8.check_encs rs hok; rw [← hrs, bytesOf_length] at this; exact this
      have hcd : U8.check (bytesOf d) d.size 0 = (0, 0) := by have := U8.check_encs ss hok'; rw [← hss, bytesOf_length] at this; exact this
      have hcx : U8.check (bytesOf x) x.size 0 = (0, 0) := by have := U8.check_encs (rs ++ ss) hokx; rw [← hxb, bytesOf_length] at this; exact this
      have hic : rs.length = (U8.its (bytesOf c) c.size 0).length := by have := its_encs (bytesOf c) rs hok hrs; rw [bytesOf_length] at this; exact this.symm
      have hid : ss.length = (U8.its (bytesOf d) d.size 0).length := by have := its_encs (bytesOf d) ss hok' hss; rw [bytesOf_length] at this; exact this.symm
      have hix : rs.length + ss.length = (U8.its (bytesOf x) x.size 0).length := by have := its_encs (bytesOf x) (rs ++ ss) hokx hxb; rw [bytesOf_length, List.length_append] at this; exact this.symm
      obtain ⟨L, hL⟩ : ∃ L, L = U8.lessN rs ss := ⟨_, rfl⟩
      have hless : Op.bytesLess c.toList d.toList = L := by rw [text_less, hrs, hss, U8.order_encs rs ss hok hok', hL]
      have hrl : rs.length ≤ 100 := by have := U8.its_len (bytesOf c) c.size 0; omega
      have hsl : ss.length ≤ 100 := by have := U8.its_len (bytesOf d) d.size 0; omega
      obtain ⟨n, hn⟩ : ∃ n, n = rs.length := ⟨_, rfl⟩
      obtain ⟨n', hn'⟩ : ∃ n', n' = ss.length := ⟨_, rfl⟩
      have HAC := Lib.hid (fun w => refAll_any c w (by omega) rs _ 0 0 hal)
      have HAD := Lib.hid (fun w => refAll_any d w (by omega) ss _ 0 0 hal')
      have HNC := Lib.hid (fun w hT => count_ok c w hT (by omega) 0 hcc n (by rw [hn]; exact hic))
      have HND := Lib.hid (fun w hT => count_ok d w hT (by omega) 0 hcd n' (by rw [hn']; exact hid))
      have HNX := Lib.hid (fun w hT => count_ok x w hT (by omega) 0 hcx (n + n') (by rw [hn, hn']; exact hix))
      have HVX := Lib.hid (fun w hT => valid_any x w hT (by omega) true (by rw [hcx]; rfl))
      obtain ⟨z0, hz0⟩ : ∃ z0 : Bool, z0 = decide (n < n') := ⟨_, rfl⟩
      have hz02 : decide (n < n') = z0 := hz0.symm
      have hroom : (c.size : Int) + (d.size : Int) ≤ 140737488355328 := by omega
      have hx2 : c ++ d = x := hx.symm
      have hnI : (n : Int) ≤ 100 := by omega
      have hnI' : (n' : Int) ≤ 100 := by omega
      have HN := Lib.hid hn; have HN' := Lib.hid hn'; have HL := Lib.hid hL; have HZ := Lib.hid hz0
      clear hb hb' hz hz' hok hok' hrs hss hx hxs hokx hxb hal hal' hcc hcd hcx hic hid hix hL hrl hsl hn hn' hz0
      go_enter Tryd.func13, Tryd.ntmps13
      go_wp2_with fail
      refine (H1.out _).mono ?_
      rintro y w0' ⟨rfl, rfl⟩
      go_wp2_with fail
      refine (H2.out _).mono ?_
      rintro y w0' ⟨rfl, rfl⟩
      go_wp2_with fail
      refine (HK.out _ hT).mono ?_
      rintro y w1 ⟨rfl, hb1⟩
      have HB1 := Lib.hid hb1
      clear hb1
      go_wp2_with fail
      refine (HVC.out _ (hT.below HB1.out hp)).mono ?_
      rintro y w2 ⟨rfl, hb2⟩
      have HB2 := Lib.hid (HB1.out.trans (hb2.mono HB1.out.size))
      clear hb2 HB1
      go_wp2_with fail
      refine (HVD.out _ (hT.below HB2.out hp)).mono ?_
      rintro y w3 ⟨rfl, hb3⟩
      have HB3 := Lib.hid (HB2.out.trans (hb3.mono HB2.out.size))
      clear hb3 HB2
      go_wp2_with fail
      refine (HAC.out _).mono ?_
      rintro y w4 ⟨v1, v2, rfl, ho1, _, _, hb4⟩
      obtain ⟨x1, m1, cap1, rfl, hm1, hI1⟩ := ints_of ho1
      have HB4 := Lib.hid (HB3.out.trans (hb4.mono HB3.out.size))
      clear ho1 hb4 HB3
      go_wp2_with fail
      refine (HAD.out _).mono ?_
      rintro y w5 ⟨v3, v4, rfl, ho2, _, _, hb5⟩
      obtain ⟨x2, m2, cap2, rfl, hm2, hI2⟩ := ints_of ho2
      have HB5 := Lib.hid (HB4.out.trans (hb5.mono HB4.out.size))
      have HI1 := Lib.hid (hI1.out.below hb5)
      clear ho2 hb5 HB4 hI1
      obtain rfl : m1 = n := by rw [hm1.out, HN.out]
      obtain rfl : m2 = n' := by rw [hm2.out, HN'.out]
      clear hm1 hm2
      go_wp2_with fail
      go_loopw [14] (fun ii wr => ∃ k : Nat, ii = .int .i64 k ∧ k ≤ m1 ∧ k ≤ m2 ∧ Hid (∀ j, j < k → rs.getD j 0 = ss.getD j 0) ∧ Hid (Below w.heap.size w wr) ∧ Hid (IntsAt wr x1 rs) ∧ Hid (IntsAt wr x2 ss)) (fun ii _ => m1 - (intOf ii).toNat)
      case atStart => exact ⟨0, rfl, Nat.zero_le _, Nat.zero_le _, Lib.hid (fun j hj => by omega), HB5, HI1, hI2⟩
      case round =>
        clear HB5 HI1 hI2
        obtain ⟨k, rfl, hk1, hk2, heq, HB5, HI1, HI2⟩ := hrel
        have hk100 : (k : Int) ≤ 100 := by omega
        by_cases h1 : k < m1
        · by_cases h2 : k < m2
          · obtain ⟨g1, rfl, hg1, hc1⟩ := HI1.out k (by rw [← HN.out]; exact h1)
            obtain ⟨g2, rfl, hg2, hc2⟩ := HI2.out k (by rw [← HN'.out]; exact h2)
            obtain ⟨p, hp1⟩ : ∃ p, p = rs.getD k 0 := ⟨_, rfl⟩
            obtain ⟨q, hq1⟩ : ∃ q, q = ss.getD k 0 := ⟨_, rfl⟩
            rw [← hp1] at hc1
            rw [← hq1] at hc2
            have HP := Lib.hid hp1; have HQ := Lib.hid hq1
            clear hp1 hq1
            by_cases hpq : p = q
            · subst hpq
              go_wp2_with fail
              go_region
              go_wp2_with fail
              go_roundw
              case rel => exact ⟨k + 1, by go_num, by omega, by omega, Lib.hid (fun j hj => by
                rcases Nat.lt_or_eq_of_le (Nat.le_of_lt_succ hj) with h | h
                · exact heq.out j h
                · rw [h, ← HP.out, ← HQ.out]), Lib.hid HB5.out.drew, HI1, HI2⟩
              case measure => simp [intOf]; omega
            · have hpqI : ((p : Int) == (q : Int)) = false := by simp; omega
              have hres : L = decide (p < q) := by
                rw [HL.out, U8.lessN_first rs ss k (by rw [← HN.out]; exact hk1) (by rw [← HN'.out]; exact hk2) heq.out (fun _ _ => by rw [← HP.out, ← HQ.out]; exact hpq), if_pos ⟨by rw [← HN.out]; exact h1, by rw [← HN'.out]; exact h2⟩, ← HP.out, ← HQ.out]
              have hres2 : decide (p < q) = L := hres.symm
              have hc1d : wr.drew.cell? ⟨g1, k, none⟩ = some (.int .i64 (p : Int)) := hc1
              have hc2d : wr.drew.cell? ⟨g2, k, none⟩ = some (.int .i64 (q : Int)) := hc2
              clear hres
              go_wp2_with fail
              go_region
              have HB5 := Lib.hid HB5.out.drew
              go_wp2_with fail
              go_region
              have HB5 := Lib.hid HB5.out.drew
              go_wp2_with fail
              refine (HNC.out _ (hT.below HB5.out hp)).mono ?_
              rintro y w6 ⟨rfl, hb6⟩
              have HB6 := Lib.hid (HB5.out.trans (hb6.mono HB5.out.size))
              clear hb6 HB5
              go_wp2_with fail
              refine (HND.out _ (hT.below HB6.out hp)).mono ?_
              rintro y w7 ⟨rfl, hb7⟩
              have HB7 := Lib.hid (HB6.out.trans (hb7.mono HB6.out.size))
              clear hb7 HB6
              go_wp2_with fail
              refine (HNX.out _ (hT.below HB7.out hp)).mono ?_
              rintro y w8 ⟨rfl, hb8⟩
              have HB8 := Lib.hid (HB7.out.trans (hb8.mono HB7.out.size))
              clear hb8 HB7
              go_wp2_with fail
              refine (HVX.out _ (hT.below HB8.out hp)).mono ?_
              rintro y w9 ⟨rfl, hb9⟩
              have HB9 := Lib.hid (HB8.out.trans (hb9.mono HB8.out.size))
              clear hb9 HB8
              go_wp2_with fail
              go_ret
              exact ⟨rfl, HB9.out⟩
          · obtain rfl : k = m2 := by omega
            have hres : L = z0 := by
              rw [HL.out, U8.lessN_first rs ss k (by rw [← HN.out]; exact hk1) (by rw [← HN'.out]; exact hk2) heq.out (fun _ h => by rw [← HN'.out] at h; omega), if_neg (by rw [← HN'.out]; omega), HZ.out, HN.out, HN'.out]
            subst hres
            go_wp2_with fail
            go_region
            have HB5 := Lib.hid HB5.out.drew
            go_wp2_with fail
            refine (HNC.out _ (hT.below HB5.out hp)).mono ?_
            rintro y w6 ⟨rfl, hb6⟩
            have HB6 := Lib.hid (HB5.out.trans (hb6.mono HB5.out.size))
            clear hb6 HB5
            go_wp2_with fail
            refine (HND.out _ (hT.below HB6.out hp)).mono ?_
            rintro y w7 ⟨rfl, hb7⟩
            have HB7 := Lib.hid (HB6.out.trans (hb7.mono HB6.out.size))
            clear hb7 HB6
            go_wp2_with fail
            refine (HNX.out _ (hT.below HB7.out hp)).mono ?_
            rintro y w8 ⟨rfl, hb8⟩
            have HB8 := Lib.hid (HB7.out.trans (hb8.mono HB7.out.size))
            clear hb8 HB7
            go_wp2_with fail
            refine (HVX.out _ (hT.below HB8.out hp)).mono ?_
            rintro y w9 ⟨rfl, hb9⟩
            have HB9 := Lib.hid (HB8.out.trans (hb9.mono HB8.out.size))
            clear hb9 HB8
            go_wp2_with fail
            go_ret
            exact ⟨rfl, HB9.out⟩
        · obtain rfl : k = m1 := by omega
          have hres : L = z0 := by
            rw [HL.out, U8.lessN_first rs ss k (by rw [← HN.out]; exact hk1) (by rw [← HN'.out]; exact hk2) heq.out (fun h _ => by rw [← HN.out] at h; omega), if_neg (by rw [← HN.out]; omega), HZ.out, HN.out, HN'.out]
          subst hres
          go_wp2_with fail
          go_region
          have HB5 := Lib.hid HB5.out.drew
          go_wp2_with fail
          refine (HNC.out _ (hT.below HB5.out hp)).mono ?_
          rintro y w6 ⟨rfl, hb6⟩
          have HB6 := Lib.hid (HB5.out.trans (hb6.mono HB5.out.size))
          clear hb6 HB5
          go_wp2_with fail
          refine (HND.out _ (hT.below HB6.out hp)).mono ?_
          rintro y w7 ⟨rfl, hb7⟩
          have HB7 := Lib.hid (HB6.out.trans (hb7.mono HB6.out.size))
          clear hb7 HB6
          go_wp2_with fail
          refine (HNX.out _ (hT.below HB7.out hp)).mono ?_
          rintro y w8 ⟨rfl, hb8⟩
          have HB8 := Lib.hid (HB7.out.trans (hb8.mono HB7.out.size))
          clear hb8 HB7
          go_wp2_with fail
          refine (HVX.out _ (hT.below HB8.out hp)).mono ?_
          rintro y w9 ⟨rfl, hb9⟩
          have HB9 := Lib.hid (HB8.out.trans (hb9.mono HB8.out.size))
          clear hb9 HB8
          go_wp2_with fail
          go_ret
          exact ⟨rfl, HB9.out⟩

theorem contract (H : Type) (enc : TypeId × Value → H) (W : World) (base : Nat) (args : Array Value) (ds gs : List (DataW H)) (before : List MemPlace)
    (hval : ∀ (j : Nat) t v, Tryd.f13.params[j]? = some t → args[j]? = some v → Value.okWide Tryd.prog W .any base t v)
    (hW : DataW.Whole enc Tryd.prog Tryd.f13.params.toList Rows.utf8OrderSpec.vars false W args.toList ds gs before) (hL : laidMetH Tryd.prog Rows.utf8OrderRow.laid W) (_hs : W.ShapedOpen Tryd.prog) :
    Calls Tryd.prog 13 args W fun e W' => ∃ v, e = .returned v ∧ Rows.utf8OrderSpec.post enc Tryd.prog Tryd.f13 false true false false W args v W' := by
  have hW' := hW
  obtain ⟨p, q, hA0, hV, rfl, hfz, hnd⟩ := hW
  have hA : DataW.TrodAll enc Tryd.prog W 0 (fun _ => true) true Tryd.f13.params.toList args.toList ds p := hA0
  rw [Tryd.params13] at hA hval
  obtain ⟨v0, vs0, d0, ds0, p0, q0, hargs, rfl, rfl, h0, r0⟩ := trodAll_cons hA
  obtain ⟨v1, vs1, d1, ds1, p1, q1, rfl, rfl, rfl, h1, r1⟩ := trodAll_cons r0
  obtain ⟨rfl, rfl, rfl⟩ := trodAll_nil r1
  obtain rfl : args = #[v0, v1] := by cases args; simp_all
  obtain ⟨rfl, rfl⟩ := trodVars_none hV
  obtain ⟨a0, rfl, rfl, rfl, w0⟩ := open_string Tryd.underlying9 (hval 0 9 v0 rfl rfl) h0
  obtain ⟨a1, rfl, rfl, rfl, w1⟩ := open_string Tryd.underlying9 (hval 1 9 v1 rfl rfl) h1
  clear hA0
  simp only [List.append_nil] at hW'
  refine (walk a0 a1 w0 w1 W (tab hL)).mono fun e W' ⟨he, bel⟩ => ?_
  subst he
  exact ⟨_, rfl, _, _, _, [], [], [], hW', trodAll_mk1 (shut_bool Tryd.underlying4 _), (trodAll_cons_mk (shut_string Tryd.underlying9 w0) (trodAll_cons_mk (shut_string Tryd.underlying9 w1) trodAll_mk0)), rfl, bel.frame _, fun h => by cases h⟩

theorem laid_met (os : Os) : laidMet Tryd.prog Rows.utf8OrderRow.laid ((laidWorld os).forCall (fun _ _ => 0) ⟨#[], #[.string ByteArray.empty, .string ByteArray.empty], []⟩).memory :=
  laidMet_of_run' 8 (by kernel_rfl) (by kernel_rfl)
theorem reads (os : Os) {H : Type} (enc : TypeId × Value → H) : ∃ places, DataW.whole enc Tryd.prog ((laidWorld os).forCall (fun _ _ => 0) ⟨#[], #[.string ByteArray.empty, .string ByteArray.empty], []⟩).memory Tryd.f13.params.toList Rows.utf8OrderSpec.vars false (#[.string ByteArray.empty, .string ByteArray.empty] : Array Value).toList 8 = some ([.lit (.string []), .lit (.string [])], [], places) :=
  ⟨[], by kernel_rfl⟩

set_option maxRecDepth 100000 in
theorem lifted (os : Os) (started : os.Started) (H : Type) (enc : TypeId × Value → H) (F : Stop.Interp) :
    ReturnsInHanded {} Tryd.checked os 13 .any ((OpenSpec.ofChange Rows.utf8OrderSpec).preRow enc Tryd.prog Tryd.f13 Rows.utf8OrderRow.domain false Rows.utf8OrderRow.laid) (((OpenSpec.ofChange Rows.utf8OrderSpec).at F).post enc Tryd.prog Tryd.f13 false true false false) := by
  obtain ⟨places, hx⟩ := reads os enc
  refine returnsInHanded_of_row (C := Tryd.checked) (s := OpenSpec.ofChange Rows.utf8OrderSpec) own started (by kernel_rfl) Tryd.func13
    (witness_row_at (enc := enc) (C := Tryd.checked) false (laidWorld os) #[.string ByteArray.empty, .string ByteArray.empty] rfl (by kernel_rfl) (by kernel_rfl) (by kernel_rfl)
      (OpenSpec.preRow_of_cond 8 hx (by kernel_rfl) (fun k hk => by cases hk) (by kernel_rfl) (laid_met os))) ?_
  intro W base args ds gs before hval hW _ _ _ hL hs _
  exact contract H enc W base args ds gs before hval hW hL hs

theorem said : Rows.Utf8OrderSaid :=
  OpenClaim.holds_of_cond 13 Tryd.f13 rfl rfl rfl rfl rfl rfl rfl ⟨rfl, rfl, rfl, rfl, rfl⟩ rfl rfl rfl rfl rfl (by kernel_rfl) Tryd.func13 (by kernel_rfl)
    (of_decide_eq_true (by kernel_rfl)) (by unfold Func.isWrapper; first | (rw [if_pos (by decide +kernel)]; kernel_rfl) | (rw [if_neg (by decide +kernel)]; exact ⟨rfl, rfl⟩))
    (fun os started H enc _ F => by rw [OpenClaim.pre_eq_preRow]; exact lifted os started H enc F)

theorem plain (f : FuncId) (fn : Func) (hf : Tryd.pinned.checked.prog.funcNamed "bulletin/bulletinlaw03.Utf8Order" = some f) (hfn : Tryd.pinned.checked.prog.funcs[f]? = some fn) :
    false = Tryd.pinned.checked.prog.looks [] ∧ ∀ (j : Nat) t, fn.params[j]? = some t → Tryd.pinned.checked.prog.wantsStandIn t = false := by
  obtain rfl : f = 13 := Option.some.inj ((show Tryd.prog.funcNamed "bulletin/bulletinlaw03.Utf8Order" = some 13 by kernel_rfl).symm.trans hf) |>.symm
  obtain rfl : fn = Tryd.f13 := (Option.some.inj (Tryd.func13.symm.trans hfn)).symm
  refine ⟨by kernel_rfl, fun j t ht => ?_⟩
  rw [Tryd.params13] at ht
  obtain rfl : t = 9 := by simpa using Array.mem_of_getElem? ht
  exact (show Tryd.prog.wantsStandIn 9 = false by kernel_rfl)

end Go.Proofs.YtbjhomihmlijiaaDoor.utf8OrderLaw
namespace Go.Proofs.YtbjhomihmlijiaaDoor

/-- THE CARD OF Utf8Order -/
theorem utf8Order_card : Rows.Utf8OrderCardSaid :=
  Claim7.holds_tied_plain_at .later [] _ _ _ _ utf8OrderLaw.said (fun _ h => by cases h) (by kernel_rfl) (fun _ h => by cases h) utf8Order_row_tie rfl ⟨rfl, rfl⟩ (by kernel_rfl) rfl utf8OrderLaw.plain (by kernel_rfl)
#print axioms utf8Order_card
end Go.Proofs.YtbjhomihmlijiaaDoor
