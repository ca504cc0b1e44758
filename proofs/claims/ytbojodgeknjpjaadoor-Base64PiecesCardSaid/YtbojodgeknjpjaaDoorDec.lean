/- Decoding: called with any text, the program's Decode answers B64.decT of it (bytes, offset, number of the error) in memory of its own, and writes nothing that was there. Condition: the alphabet's table reads as laid. -/
import Derived.Test.YtbojodgeknjpjaaDoorEnc
import Derived.Test.YtbojodgeknjpjaaDoorMap
import Derived.Test.YtbojodgeknjpjaaDoorPad
namespace Go.Proofs.YtbojodgeknjpjaaDoor
open Go.RowKit Go.Maps

def byteVals (es : List Nat) : List Value := es.map fun (x : Nat) => Value.int .u8 x

/-- THE WORD OF A DECODING UNDER WAY: the result's slice in block B + 1, the four boxes, the map -/
def JD (w : World) (b0 B : Nat) (D : DataW Unit) (es : List Nat) (h c : Nat) (W : World) : Prop :=
  (∃ v, W.heap[B]? = some (.cells #[v] 22 (0, 0)) ∧ W.ownsRow b0 5 1 v es.length (byteVals es)) ∧ W.heap[B + 1]? = some (.cells #[.int .i64 8] 3 (0, 0)) ∧
  W.heap[B + 2]? = some (.cells #[.func (.func 31) #[] #[.pointer (some ⟨B, 0, none⟩)]] 58 (0, 0)) ∧
  W.heap[B + 3]? = some (.cells #[.int .i64 h] 3 (0, 0)) ∧ W.heap[B + 4]? = some (.cells #[.int .i64 c] 3 (0, 0)) ∧ W.ownsMap Tryd.prog 5 (plainElem Tryd.prog 3) (B + 5) 64 D ∧ b0 ≤ B ∧ Below b0 w W

theorem Tryd.info5 : (Tryd.prog.info? 5).map (fun i => (i.zero, i.size, i.bytes)) = some (some (.int .u8 0), 1, 1) := by kernel_rfl

set_option maxHeartbeats 400000 in
theorem emitD_any (w : World) (b0 B : Nat) (D : DataW Unit) (es : List Nat) (h c g : Nat) (W : World) (hJ : JD w b0 B D es h c W) (hg : g < 256) (hN : es.length < 10000000) :
    Calls Tryd.prog 31 #[.int .i64 g, .pointer (some ⟨B, 0, none⟩)] W fun e W' => e = .returned (.tuple #[]) ∧ JD w b0 B D (es ++ [g]) h c W' := by
  obtain ⟨⟨v, j1, j2⟩, j3, j4, j5, j6, j7, j0, j8⟩ := hJ
  have cv := cell_of_one j1
  have fv := free_of_one j1
  have hlt : B < W.heap.size := lt_of_block j1
  have hg0 : (0 : Int) ≤ (g : Int) := by omega
  have hg1 : (g : Int) ≤ 255 := by omega
  obtain ⟨i0, hi, hz0, hz1, hz2⟩ := info_parts Tryd.info5
  go_enter Tryd.func31, Tryd.ntmps31
  go_wp2_with (at_builtin; refine wpList_append_own _ rfl _ _ 22 rfl b0 5 i0 (.int .u8 0) 1 1 Tryd.underlying22 hi hz0 hz1 hz2 rfl (by decide) _ _ _ rfl (j2.alloc _) ⟨W.heap.size, 0, none⟩ 1 1 [.int .u8 g] rfl rfl ?c1 ?c2 ?c3 ?c4 ?c5 ?_)
  case c1 =>
    intro j u hj
    match j, hj with
    | 0, hj => simp at hj; subst hj; simp [Addr.add]
  case c2 => intro u hu; simp at hu; subst hu; rfl
  case c3 => unfold maxLen; omega
  case c4 => omega
  case c5 => simp; omega
  intro v' w1 hown' hgrow _
  obtain ⟨g', cap', rfl⟩ : ∃ g' cap', v' = .slice (some ⟨g', 0, none⟩) (es.length + 1) cap' := by
    rcases hown'.2 with ⟨_, h0⟩ | ⟨g', cap', cur, hv, _⟩
    · omega
    · exact ⟨g', cap', hv⟩
  have hne : ∀ (k : Nat) (cs : Array Value) (t : TypeId) (fr : Nat × Nat), t ≠ 5 → W.heap[k]? = some (.cells cs t fr) → some k ≠ v.ownBlock :=
    fun k cs t fr ht hk => (Lib.ownBlock_ne j2 hk ht).symm
  have up : ∀ (k : Nat) (cs : Array Value) (t : TypeId) (fr : Nat × Nat), t ≠ 5 → W.heap[k]? = some (.cells cs t fr) → w1.heap[k]? = some (.cells cs t fr) := by
    intro k cs t fr ht hk
    rw [hgrow.block k (by have := lt_of_block hk; simp; omega) (hne k cs t fr ht hk), Lib.alloc_old _ _ _ (lt_of_block hk)]
    exact hk
  have k1 := up _ _ _ _ (by decide) j1
  have k3 := up _ _ _ _ (by decide) j3
  have k4 := up _ _ _ _ (by decide) j4
  have k5 := up _ _ _ _ (by decide) j5
  have k6 := up _ _ _ _ (by decide) j6
  have hmapne : v.ownBlock ≠ some (B + 5) := by
    intro e
    obtain ⟨es0, cl, hm, _⟩ := j7
    rcases j2.2 with ⟨hv, _⟩ | ⟨q, cap, cur, hv, _, hq, _⟩
    · rw [hv] at e; simp [Value.ownBlock] at e
    · rw [hv] at e
      simp [Value.ownBlock] at e
      subst e
      rw [hm] at hq
      simp at hq
  have k7 : w1.ownsMap Tryd.prog 5 (plainElem Tryd.prog 3) (B + 5) 64 D := (j7.alloc _).kept hgrow (fun e => hmapne e.symm)
  have k8 : Below b0 w w1 := (j8.alloc (by omega) _).grown hgrow (by simp; omega) (fun k hk => (j2.lt k hk).1)
  have cv1 := cell_of_one k1
  have fv1 := free_of_one k1
  clear cv fv
  go_wp2
  go_end0
  refine ⟨rfl, ⟨_, one_setCell k1, ?_⟩, ?_, ?_, ?_, ?_, ?_, j0, ?_⟩
  · simp only [byteVals, List.map_append, List.length_append, List.map_cons, List.map_nil, List.length_cons, List.length_nil]
    refine ownsRow_setCell_other hown' ?_ _
    intro e
    have hk := Lib.ownBlock_ne hown' k1 (by decide)
    exact hk e
  · rw [Below.heap_setCell _ _ _ _ (by simp)]; exact k3
  · rw [Below.heap_setCell _ _ _ _ (by simp)]; exact k4
  · rw [Below.heap_setCell _ _ _ _ (by simp)]; exact k5
  · rw [Below.heap_setCell _ _ _ _ (by simp)]; exact k6
  · exact k7.setCell (by simp) _
  · exact k8.setCell (by simpa using j0) _

theorem collD (w : World) (b0 B : Nat) (D : DataW Unit) : Coll (B + 3) (B + 4) (B + 1) (B + 2) 31 #[.pointer (some ⟨B, 0, none⟩)] 8 10000000 (JD w b0 B D) where
  n1 := by omega
  n2 := by omega
  n3 := by omega
  n4 := by omega
  n5 := by omega
  ch := fun _ _ _ _ hJ => cell_of_one hJ.2.2.2.1
  cc := fun _ _ _ _ hJ => cell_of_one hJ.2.2.2.2.1
  cs := fun _ _ _ _ hJ => cell_of_one hJ.2.1
  ce := fun _ _ _ _ hJ => cell_of_one hJ.2.2.1
  fh := fun _ _ _ _ hJ => free_of_one hJ.2.2.2.1
  fc := fun _ _ _ _ hJ => free_of_one hJ.2.2.2.2.1
  drew := fun _ _ _ _ hJ => ⟨hJ.1, hJ.2.1, hJ.2.2.1, hJ.2.2.2.1, hJ.2.2.2.2.1, hJ.2.2.2.2.2.1, hJ.2.2.2.2.2.2.1, hJ.2.2.2.2.2.2.2.drew⟩
  seth := fun _ _ _ W h' ⟨⟨v, j1, j2⟩, j3, j4, j5, j6, j7, j0, j8⟩ => ⟨⟨v, by rw [Below.heap_setCell _ _ _ _ (by simp)]; exact j1, ownsRow_setCell_other j2 (fun e => Lib.ownBlock_ne j2 j5 (by decide) e) _⟩, by rw [Below.heap_setCell _ _ _ _ (by simp)]; exact j3,
    by rw [Below.heap_setCell _ _ _ _ (by simp)]; exact j4, one_setCell j5, by rw [Below.heap_setCell _ _ _ _ (by simp)]; exact j6, j7.setCell (by simp) _, j0, j8.setCell (by simp; omega) _⟩
  setc := fun _ _ _ W c' ⟨⟨v, j1, j2⟩, j3, j4, j5, j6, j7, j0, j8⟩ => ⟨⟨v, by rw [Below.heap_setCell _ _ _ _ (by simp)]; exact j1, ownsRow_setCell_other j2 (fun e => Lib.ownBlock_ne j2 j6 (by decide) e) _⟩, by rw [Below.heap_setCell _ _ _ _ (by simp)]; exact j3,
    by rw [Below.heap_setCell _ _ _ _ (by simp)]; exact j4, by rw [Below.heap_setCell _ _ _ _ (by simp)]; exact j5, one_setCell j6, j7.setCell (by simp) _, j0, j8.setCell (by simp; omega) _⟩
  ent := enters_of Tryd.func31 (by kernel_rfl) rfl
  emit := fun es h c W g hJ hg hN => emitD_any w b0 B D es h c g W hJ (by simpa using hg) hN

/-- the world in which the map is made -/
def decStart (w1 : World) (v : Value) : World :=
  ((((w1.alloc (.cells #[v] 22)).alloc (.cells #[.int .i64 8] 3)).alloc (.cells #[.func (.func 31) #[] #[.pointer (some ⟨w1.heap.size, 0, none⟩)]] 58)).alloc (.cells #[.int .i64 0] 3)).alloc (.cells #[.int .i64 0] 3)

theorem decStart_size (w1 : World) (v : Value) : (decStart w1 v).heap.size = w1.heap.size + 5 := by simp [decStart]

theorem JD_start (w w1 W3 : World) (v : Value) (D : DataW Unit) (hown : w1.ownsRow w.heap.size 5 1 v 0 []) (hb : Below w.heap.size w w1) (hW : Below (w1.heap.size + 5) (decStart w1 v) W3)
    (hm : W3.ownsMap Tryd.prog 5 (plainElem Tryd.prog 3) (w1.heap.size + 5) 64 D) : JD w w.heap.size w1.heap.size D [] 0 0 W3 := by
  have hbw := hb.size
  have hown0 : (decStart w1 v).ownsRow w.heap.size 5 1 v 0 [] := ((((hown.alloc _).alloc _).alloc _).alloc _).alloc _
  have g := fun k (h : k < w1.heap.size + 5) => hW.block k h
  refine ⟨⟨v, ?_, ?_⟩, ?_, ?_, ?_, ?_, hm, hbw, ?_⟩
  · rw [g _ (by omega)]
    unfold decStart
    rw [Lib.alloc_old _ _ _ (by simp; omega), Lib.alloc_old _ _ _ (by simp; omega), Lib.alloc_old _ _ _ (by simp; omega), Lib.alloc_old _ _ _ (by simp)]
    exact heap_alloc_new _ _
  · refine ⟨rfl, ?_⟩
    rcases hown0.2 with h | ⟨q, cap, cur, hv, hq, hh, r⟩
    · exact .inl h
    · refine .inr ⟨q, cap, cur, hv, hq, ?_, r⟩
      rw [hW.block q]
      · exact hh
      · have := lt_of_block hh
        rw [decStart_size] at this
        exact this
  · rw [g _ (by omega)]
    unfold decStart
    rw [Lib.alloc_old _ _ _ (by simp), Lib.alloc_old _ _ _ (by simp), Lib.alloc_old _ _ _ (by simp)]
    simpa using heap_alloc_new (w1.alloc (.cells #[v] 22)) (.cells #[.int .i64 8] 3)
  · rw [g _ (by omega)]
    unfold decStart
    rw [Lib.alloc_old _ _ _ (by simp), Lib.alloc_old _ _ _ (by simp)]
    simpa using heap_alloc_new ((w1.alloc (.cells #[v] 22)).alloc (.cells #[.int .i64 8] 3)) (.cells #[.func (.func 31) #[] #[.pointer (some ⟨w1.heap.size, 0, none⟩)]] 58)
  · rw [g _ (by omega)]
    unfold decStart
    rw [Lib.alloc_old _ _ _ (by simp)]
    simpa using heap_alloc_new (((w1.alloc (.cells #[v] 22)).alloc (.cells #[.int .i64 8] 3)).alloc (.cells #[.func (.func 31) #[] #[.pointer (some ⟨w1.heap.size, 0, none⟩)]] 58)) (.cells #[.int .i64 0] 3)
  · rw [g _ (by omega)]
    unfold decStart
    simpa using heap_alloc_new ((((w1.alloc (.cells #[v] 22)).alloc (.cells #[.int .i64 8] 3)).alloc (.cells #[.func (.func 31) #[] #[.pointer (some ⟨w1.heap.size, 0, none⟩)]] 58)).alloc (.cells #[.int .i64 0] 3)) (.cells #[.int .i64 0] 3)
  · refine Below.trans ?_ (hW.mono (by omega))
    exact ((((hb.alloc hbw _).alloc (by simp; omega) _).alloc (by simp; omega) _).alloc (by simp; omega) _).alloc (by simp; omega) _

/-- WHAT Decode ANSWERS -/
def DecPost (r : List Nat × Nat × Nat) (w : World) (e : Ending) (w' : World) : Prop :=
  ∃ v, e = .returned (.tuple #[v, .int .i64 r.2.1, .int .i64 r.2.2]) ∧ Bytes w' v r.1 ∧ Below w.heap.size w w'

set_option maxHeartbeats 400000 in
theorem decode_long (s : ByteArray) (w : World) (hs : s.size ≤ maxLen) (hl : 174764 < s.size) :
    Calls Tryd.prog 17 #[.string s] w (DecPost (B64.decT s.data.toList) w) := by
  have hd : B64.decT s.data.toList = ([], 0, 5) := by
    unfold B64.decT
    rw [size_toList, if_pos hl]
  rw [hd]
  unfold maxLen at hs
  have hl2 : (174764 : Int) < (s.size : Int) := by omega
  go_enter Tryd.func17, Tryd.ntmps17
  go_wp2_with (go_at_call 15; refine (size_ok _ _ (by decide) (by decide)).mono ?_; rintro e w' ⟨rfl, rfl⟩)
  go_ret3
  exact ⟨_, rfl, Bytes.nil _, Below.refl _ _⟩

theorem bytes_of_own {W : World} {b0 : Nat} {v : Value} {es : List Nat} (h : W.ownsRow b0 5 1 v es.length (byteVals es)) (hb : ∀ x ∈ es, x < 256) : Bytes W v es := by
  refine ⟨hb, ?_⟩
  rcases h.2 with ⟨hv, h0⟩ | ⟨g, cap, cur, hv, hg, hh, hn, hm, hc, ht⟩
  · refine ⟨none, 0, by rw [hv, h0], by omega, by unfold maxLen; omega, fun i hi => by omega⟩
  · refine ⟨some ⟨g, 0, none⟩, cap, hv, hn, hm, fun i hi => ⟨g, 0, rfl, ?_⟩⟩
    have hget : (byteVals es)[i]? = some (.int .u8 (es.getD i 0)) := by
      simp [byteVals, List.getElem?_eq_getElem hi]
    rw [Nat.zero_add, Lib.cell_of_heap hh, ← hget, ← ht]
    simp
    rw [List.getElem?_take_of_lt (by omega)]
    simp

set_option maxHeartbeats 800000 in
theorem decode_short (s : ByteArray) (w : World) (hT : Tab w) (hl : s.size ≤ 174764) :
    Calls Tryd.prog 17 #[.string s] w (DecPost (B64.decT s.data.toList) w) := by
  have hpd := padding_any s
  have hple := B64.pads_le s.data.toList
  rw [size_toList] at hple
  obtain ⟨p, hp⟩ : ∃ p, p = B64.pads s.data.toList := ⟨_, rfl⟩
  rw [← hp] at hpd hple
  obtain ⟨hp1, hp2⟩ := hple
  have HPD := Lib.hid hpd
  have HP := Lib.hid hp
  clear hpd hp
  have hl2 : (s.size : Int) ≤ 174764 := by omega
  obtain ⟨i0, hi, hz0, hz1, hz2⟩ := info_parts Tryd.info5
  go_enter Tryd.func17, Tryd.ntmps17
  go_wp2_with (first | (go_at_call 15; refine (size_ok _ _ (by decide) (by decide)).mono ?_; rintro e w' ⟨rfl, rfl⟩) | (go_at_call 29; refine (HPD.out _ (by unfold maxLen; omega)).mono ?_; rintro e w' ⟨rfl, rfl⟩) | (at_make; refine wpList_make_own _ rfl _ _ 22 rfl w.heap.size 5 i0 (.int .u8 0) 1 Tryd.underlying22 hi hz0 hz1 .i64 .i64 _ (s.size / 4 * 3) rfl rfl (by push_cast; rfl) (by rw [hz2]; omega) (by unfold maxLen; omega) (Nat.le_refl _) ?_; intro w1 hown hgrow) | (go_at_call 30; refine (regroup_any _ _ _ _).mono ?_; rintro e w' ⟨rfl, rfl⟩))
  have hb1 : Below w.heap.size w w1 := (Below.refl _ w).grown hgrow (Nat.le_refl _) (fun k hk => by cases hk)
  have hb2 : Below w.heap.size w (decStart w1 (.slice (some ⟨w.heap.size, 0, none⟩) 0 (s.size / 4 * 3))) := by
    have := hb1.size
    exact ((((hb1.alloc this _).alloc (by simp; omega) _).alloc (by simp; omega) _).alloc (by simp; omega) _).alloc (by simp; omega) _
  have hval := values_any _ (hT.below hb2 hT.1)
  rw [decStart_size] at hval
  refine hval.mono ?_
  rintro e w3 ⟨rfl, ⟨D, hD, hm⟩, hb3⟩
  have hJ := JD_start w w1 w3 _ D hown hb1 hb3 hm
  clear hval hb1 hb2 hb3 hm hown hgrow
  have hC := collD w w.heap.size w1.heap.size D
  obtain ⟨B, hB⟩ : ∃ B, B = w1.heap.size := ⟨_, rfl⟩
  rw [← hB] at hJ hC ⊢
  clear hB
  go_wp2_with fail
  generalize hn : s.size - p = n
  generalize hd : s.extract 0 n = d
  have hdl : d.data.toList = B64.data s.data.toList := by
    rw [← hd, Lib.extract_data, B64.data, ← HP.out, size_toList, hn]
    simp
  have hds : d.size = n := by rw [← hd]; simp; omega
  have hn2 : n ≤ 174764 := by omega
  have HDL := Lib.hid hdl
  have HN := Lib.hid hn
  have HDS := Lib.hid hds
  clear hdl hn hd hds
  go_loopw [10, 37] (fun last i wr => ∃ k : Nat, k ≤ n ∧ i = .int .i64 k ∧ last = .int .i64 ((B64.vals (d.data.toList.take k)).getLastD 0 : Nat) ∧ (∀ j c, j < k → d.data.toList[j]? = some c → B64.val c ≠ none) ∧
      JD w w.heap.size B D (B64.feed 8 6 (B64.vals (d.data.toList.take k))).1 (B64.feed 8 6 (B64.vals (d.data.toList.take k))).2.1 (B64.feed 8 6 (B64.vals (d.data.toList.take k))).2.2 wr) (fun _ i _ => n - (intOf i).toNat)
  case atStart => exact ⟨0, Nat.zero_le _, rfl, rfl, fun j c hj => by omega, hJ⟩
  case round =>
    clear hJ
    obtain ⟨k, hk, rfl, rfl, hok, hJ⟩ := hrel
    have HOK := Lib.hid hok
    clear hok
    by_cases hlt : k < n
    · have hkd : k < d.size := by rw [HDS.out]; exact hlt
      obtain ⟨c, hc⟩ : ∃ c, d[k] = c := ⟨_, rfl⟩
      have hget : d.data.toList[k]? = some c := by rw [← hc]; simp [ByteArray.getElem_eq_getElem_data]
      have HGET := Lib.hid hget
      clear hget
      have hkey : keyOf Tryd.prog 5 (.int .u8 c.toNat) = some (keyL c) := keyOf_int_mk Tryd.underlying5 (wf_byte _)
      have hmap := hJ.2.2.2.2.2.1
      cases hv : B64.val c with
      | none =>
        have hhas : has D (Lit.int .u8 c.toNat) = false := by
          have := hD.has_val c
          rw [hv] at this
          exact this
        go_wp2_with (at_lookup; refine wpList_lookup_own_ok_int _ rfl _ _ 59 rfl 5 3 .i64 law5 Tryd.underlying59 Tryd.underlying3 (zero3 _) (B + 5) 64 D rfl hmap _ _ rfl hkey ?_; intro cv hat hwc)
        go_ret3
        have hdt := B64.decT_byte s.data.toList (by rw [size_toList]; omega) k c (by rw [← HDL.out]; exact HGET.out) hv (by rw [← HDL.out]; exact HOK.out)
        rw [hdt]
        exact ⟨_, rfl, Bytes.nil _, hJ.2.2.2.2.2.2.2⟩
      | some v =>
        have hhas : has D (Lit.int .u8 c.toNat) = true := by
          have := hD.has_val c
          rw [hv] at this
          exact this
        have hval := hD.at_val c v hv
        have hv64 := (B64.val_some c v hv).1
        have hsn := B64.vals_snoc d.data.toList k c v HGET.out hv
        have hsp := B64.feed_spec 8 6 (by omega) (B64.vals (d.data.toList.take k)) (B64.vals_lt _)
        have hct := B64.feed_count 8 6 (by omega) (B64.vals (d.data.toList.take (k + 1))) (B64.vals_lt _)
        have hlen2 : (B64.vals (d.data.toList.take (k + 1))).length ≤ 200000 := by
          have : (d.data.toList.take (k + 1)).length ≤ k + 1 := List.length_take_le _ _
          simp only [B64.vals, List.length_map]
          omega
        have HSN := Lib.hid hsn; have HSP := Lib.hid hsp; have HCT := Lib.hid hct; have HLEN := Lib.hid hlen2; have HVAL := Lib.hid hval; have HV := Lib.hid hv
        clear hsn hsp hct hlen2 hval hv
        go_wp2_with (first | (at_lookup; refine wpList_lookup_own_ok_int _ rfl _ _ 59 rfl 5 3 .i64 law5 Tryd.underlying59 Tryd.underlying3 (zero3 _) (B + 5) 64 D rfl hmap _ _ rfl hkey ?_; intro cv hat hwc; obtain rfl : cv = (v : Int) := (by have := HVAL.out.symm.trans hat; simpa using this.symm)) | fail)
        have hput : (B64.put 8 ((B64.feed 8 6 (B64.vals (d.data.toList.take k))).1, (B64.feed 8 6 (B64.vals (d.data.toList.take k))).2.1, (B64.feed 8 6 (B64.vals (d.data.toList.take k))).2.2) v 6) = B64.feed 8 6 (B64.vals (d.data.toList.take (k + 1))) := by
          rw [HSN.out, B64.feed_snoc]
        refine (add_any hC _ _ _ v 6 wr (by omega) (by omega) (by omega) (by have := HSP.out.2.1; omega) HSP.out.2.2.1 (by omega) hJ (by rw [hput]; have := HCT.out.2; have := HLEN.out; omega)).mono ?_
        rw [hput]
        rintro e w2 ⟨rfl, hJ2⟩
        go_wp2
        go_roundw
        case rel =>
          refine ⟨k + 1, by omega, by go_num, ?_, ?_, hJ2⟩
          · rw [HSN.out, B64.getLastD_snoc]
          · intro j c' hj hc'
            by_cases hjk : j = k
            · subst hjk
              have : some c = some c' := HGET.out.symm.trans hc'
              obtain rfl := Option.some.inj this
              rw [HV.out]
              simp
            · exact HOK.out j c' (by omega) hc'
        case measure => simp [intOf]; omega
    · have hkn : k = n := by omega
      subst hkn
      have htk : d.data.toList.take k = B64.data s.data.toList := by
        rw [← HDL.out]
        exact List.take_of_length_le (by rw [size_toList, HDS.out]; exact Nat.le_refl _)
      rw [htk] at hJ
      have hdlen : (B64.data s.data.toList).length = k := by rw [← HDL.out, size_toList, HDS.out]
      have hrest := B64.decT_rest s.data.toList (by rw [size_toList]; omega) (fun j c hj hc => HOK.out j c (by omega) (by rw [HDL.out]; exact hc))
      rw [size_toList, hdlen, ← HP.out] at hrest
      have HR := Lib.hid hrest
      have HTK := Lib.hid htk
      clear hrest htk
      obtain ⟨last, hlast⟩ : ∃ x, x = (B64.vals (d.data.toList.take k)).getLastD 0 := ⟨_, rfl⟩
      have hl64 : last < 64 := by
        rw [hlast]
        rcases List.eq_nil_or_concat (B64.vals (d.data.toList.take k)) with h | ⟨u, x, h⟩
        · rw [h]; decide
        · have := B64.vals_lt (d.data.toList.take k) x (by rw [h]; simp)
          rw [h, List.concat_eq_append, B64.getLastD_snoc]
          exact this
      rw [← hlast]
      have HL := Lib.hid hlast
      clear hlast hdlen
      by_cases h4 : s.size % 4 = 0
      · have g4 : ((s.size : Int) % 4 != 0) = false := by simp; omega
        have hr2 := HR.out
        rw [if_neg (by omega), ← HTK.out, ← HL.out] at hr2
        have HR2 := Lib.hid hr2
        clear hr2
        have hk1 : last ≠ 0 → 1 ≤ k := by
          intro h0
          rcases Nat.eq_zero_or_pos k with h | h
          · exfalso; apply h0; rw [HL.out, h]; rfl
          · exact h
        obtain ⟨⟨v, hv1, hv2⟩, _, _, _, _, _, _, hbel⟩ := hJ
        have cv := cell_of_one hv1
        have hby := bytes_of_own hv2 (by rw [← HTK.out]; exact (B64.feed_spec 8 6 (by omega) _ (B64.vals_lt _)).2.2.2)
        rw [← HTK.out] at hby
        clear hv1 hv2
        rcases (show p = 0 ∨ p = 1 ∨ p = 2 by omega) with rfl | rfl | rfl
        · have hb : bits .and .i64 (last : Int) 0 = 0 := by
            have := i64_and_nat last 0 (by omega) (by omega)
            simpa using this
          go_wp2
          go_ret3
          rw [HR2.out, if_neg (by simp [Nat.mod_one])]
          exact ⟨_, rfl, hby, hbel⟩
        · have hb : bits .and .i64 (last : Int) 3 = ((last % 4 : Nat) : Int) := by
            have := i64_and_nat last 3 (by omega) (by omega)
            rw [nat_mask2] at this
            exact this
          by_cases hz : last % 4 = 0
          · have hq : (((last % 4 : Nat) : Int) != 0) = false := by simp; omega
            go_wp2
            go_ret3
            rw [HR2.out, if_neg (by simpa using hz)]
            exact ⟨_, rfl, hby, hbel⟩
          · have hq : (((last % 4 : Nat) : Int) != 0) = true := by simp; omega
            go_wp2
            go_ret3
            rw [HR2.out, if_pos (by simpa using hz)]
            have hk2 := hk1 (by omega)
            have e : wrap64 ((d.size : Int) - 1) = ((k - 1 : Nat) : Int) := by rw [HDS.out, IntWalk.wrap64_in _ (by omega)]; omega
            exact ⟨_, congrArg (fun z => Ending.returned (.tuple #[.slice none 0 0, .int .i64 z, .int .i64 3])) e, Bytes.nil _, hbel⟩
        · have hb : bits .and .i64 (last : Int) 15 = ((last % 16 : Nat) : Int) := by
            have := i64_and_nat last 15 (by omega) (by omega)
            rw [nat_mask4] at this
            exact this
          by_cases hz : last % 16 = 0
          · have hq : (((last % 16 : Nat) : Int) != 0) = false := by simp; omega
            go_wp2
            go_ret3
            rw [HR2.out, if_neg (by simpa using hz)]
            exact ⟨_, rfl, hby, hbel⟩
          · have hq : (((last % 16 : Nat) : Int) != 0) = true := by simp; omega
            go_wp2
            go_ret3
            rw [HR2.out, if_pos (by simpa using hz)]
            have hk2 := hk1 (by omega)
            have e : wrap64 ((d.size : Int) - 1) = ((k - 1 : Nat) : Int) := by rw [HDS.out, IntWalk.wrap64_in _ (by omega)]; omega
            exact ⟨_, congrArg (fun z => Ending.returned (.tuple #[.slice none 0 0, .int .i64 z, .int .i64 3])) e, Bytes.nil _, hbel⟩
      · have g4 : ((s.size : Int) % 4 != 0) = true := by simp; omega
        go_wp2
        go_ret3
        rw [HR.out, if_pos h4]
        exact ⟨_, rfl, Bytes.nil _, hJ.2.2.2.2.2.2.2⟩
end Go.Proofs.YtbojodgeknjpjaaDoor
