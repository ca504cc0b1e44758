/- tokens: what it hands its loop. -/
import Derived.Test.YtcofplbdapjdjaaTok
import Derived.Test.YtcofplbdapjdjaaIdx3
import Derived.Test.YtcofplbdapjdjaaBk
namespace Mid
theorem idx_cases : ∀ l : List UInt8, (Go.Lib.indexAny l [32, 9] = -1 ∧ ∀ j, j < l.length → bl (l.getD j 0) = false) ∨ ∃ j : Nat, Go.Lib.indexAny l [32, 9] = (j : Int) ∧ j < l.length ∧ bl (l.getD j 0) = true ∧ ∀ i, i < j → bl (l.getD i 0) = false
  | [] => .inl ⟨rfl, fun j h => by simp at h⟩
  | c :: l => by
    have hb : ([32, 9] : List UInt8).contains c = bl c := by
      have e : ∀ k : UInt8, decide (c = k) = (c == k) := fun k => by by_cases h : c = k <;> simp [h]
      simp [bl, e]
    unfold Go.Lib.indexAny
    rw [hb]
    cases h : bl c
    · rcases idx_cases l with ⟨h1, h2⟩ | ⟨j, h1, h2, h3, h4⟩
      · refine .inl ⟨by rw [h1]; rfl, fun j hj => ?_⟩
        cases j with
        | zero => simpa using h
        | succ j => simpa using h2 j (by simpa using hj)
      · refine .inr ⟨j + 1, ?_, by simpa using h2, by simpa using h3, fun i hi => ?_⟩
        · rw [h1]
          have : ((j : Int) == -1) = false := by simp
          simp [this]
        · cases i with
          | zero => simpa using h
          | succ i => simpa using h4 i (by omega)
    · exact .inr ⟨0, by simp, by simp, by simpa using h, fun i hi => by omega⟩
end Mid
namespace Go.Proofs.Ytcofplbdapjdjaa
open Go.RowKit Go.Shelf

abbrev Tk := { x : Nat × ByteArray // x.2.size ≤ 100000 }
abbrev encTk (x : Tk) : Array Value := #[.int .i64 (x.1.1 : Int), .string x.1.2]
theorem take_size (t : List UInt8) : (⟨(t.take 100000).toArray⟩ : ByteArray).size ≤ 100000 := by
  show (t.take 100000).toArray.size ≤ 100000
  rw [List.size_toArray, List.length_take]; omega
def toV (R : List (Nat × List UInt8)) : List Tk := R.map fun x => ⟨(x.1, ⟨(x.2.take 100000).toArray⟩), take_size x.2⟩
def fromV (x : Tk) : Nat × List UInt8 := (x.1.1, x.1.2.data.toList)
theorem from_to (R : List (Nat × List UInt8)) (h : ∀ x ∈ R, x.2.length ≤ 100000) : (toV R).map fromV = R := by
  unfold toV
  rw [List.map_map]
  conv => rhs; rw [← List.map_id R]
  apply List.map_congr_left
  intro x hx
  have := h x hx
  show (x.1, ((x.2.take 100000).toArray).toList) = x
  rw [List.take_of_length_le this]
theorem toks_len {s : List UInt8} {i : Nat} {R} (h : Mid.Toks s i R) : ∀ x ∈ R, x.2.length ≤ s.length := by
  induction h with
  | done => intro x hx; cases hx
  | skip _ _ _ _ _ ih => exact ih
  | tok i k L h1 h2 _ _ _ ih =>
    intro x hx
    rcases List.mem_cons.1 hx with rfl | hx
    · simp; omega
    · exact ih x hx
theorem ext_list (s : ByteArray) (p k : Nat) (_hk : k ≤ s.size) : (s.extract p k).data.toList = (s.data.toList.drop p).take (k - p) := by
  rw [ByteArray.data_extract, Array.toList_extract]
theorem ext_tok (s : ByteArray) (p k : Nat) (hk : k ≤ s.size) (hs : s.size ≤ 100000) : (⟨(((s.data.toList.drop p).take (k - p)).take 100000).toArray⟩ : ByteArray) = s.extract p k := by
  rw [List.take_of_length_le (by rw [List.length_take, List.length_drop, size_toList]; omega)]
  apply ByteArray.ext
  apply Array.toList_inj.1
  rw [ext_list s p k hk]
theorem grown_of_below {w w' : World} (h : Below w.heap.size w w') : w.grownBy w' none := bl_grownBy h none

/-- what one step of tokens finds -/
theorem ext_size (s : ByteArray) (p k : Nat) (hs : s.size ≤ 100000) : (s.extract p k).size ≤ 100000 := by rw [ByteArray.size_extract]; omega
theorem tok_step (s : ByteArray) (hs : s.size ≤ 100000) (p : Nat) (R : List (Nat × List UInt8)) (hp : p < s.size) (hR : Mid.Toks s.data.toList p R) :
    (Go.Lib.indexAny (s.extract p s.size).data.toList [32, 9] = 0 ∧ Mid.Toks s.data.toList (p + 1) R) ∨
    ∃ (j : Nat) (R' : List (Nat × List UInt8)), 0 < j ∧ p + j ≤ s.size ∧ toV R = ⟨(p, s.extract p (p + j)), ext_size s p (p + j) hs⟩ :: toV R' ∧ Mid.Toks s.data.toList (p + j + 1) R' ∧
      ((Go.Lib.indexAny (s.extract p s.size).data.toList [32, 9] = -1 ∧ p + j = s.size) ∨ Go.Lib.indexAny (s.extract p s.size).data.toList [32, 9] = (j : Int)) := by
  have hl : s.data.toList.length = s.size := size_toList s
  rw [ext_list s p s.size (Nat.le_refl _), List.take_of_length_le (by rw [List.length_drop, hl]; exact Nat.le_refl _)]
  have gd : ∀ j, (s.data.toList.drop p).getD j 0 = s.data.toList.getD (p + j) 0 := fun j => by rw [List.getD_eq_getElem?_getD, List.getElem?_drop, List.getD_eq_getElem?_getD]
  have next : ∀ k R', Mid.Toks s.data.toList k R' → (k = s.size ∨ (k < s.size ∧ Mid.bl (s.data.toList.getD k 0) = true)) → Mid.Toks s.data.toList (k + 1) R' := by
    rintro k R' h (rfl | ⟨h1, h2⟩)
    · rw [h.inv_done (by omega)]; exact .done _ (by omega)
    · exact h.inv_skip (by omega) h2
  have tk : ∀ k, p < k → k ≤ s.size → (∀ i, p ≤ i → i < k → Mid.bl (s.data.toList.getD i 0) = false) → (k = s.size ∨ (k < s.size ∧ Mid.bl (s.data.toList.getD k 0) = true)) → ∃ R', toV R = ⟨(p, s.extract p k), ext_size s p k hs⟩ :: toV R' ∧ Mid.Toks s.data.toList (k + 1) R' := by
    intro k h1 h2 h3 h4
    obtain ⟨R', rfl, hR'⟩ := hR.inv_tok h1 (by omega) h3 (h4.imp (by omega) (·.2))
    refine ⟨R', ?_, next k R' hR' h4⟩
    unfold toV
    rw [List.map_cons]
    congr 1
    apply Subtype.ext
    show (p, (⟨(((s.data.toList.drop p).take (k - p)).take 100000).toArray⟩ : ByteArray)) = (p, s.extract p k)
    rw [ext_tok s p k h2 hs]
  rcases Mid.idx_cases (s.data.toList.drop p) with ⟨h1, h2⟩ | ⟨j, h1, h2, h3, h4⟩
  · obtain ⟨R', e1, e2⟩ := tk s.size hp (Nat.le_refl _) (fun i a b => by have := h2 (i - p) (by rw [List.length_drop]; omega); rwa [gd, show p + (i - p) = i by omega] at this) (.inl rfl)
    refine .inr ⟨s.size - p, R', by omega, by omega, ?_, ?_, .inl ⟨h1, by omega⟩⟩
    · simp only [show p + (s.size - p) = s.size by omega]; exact e1
    · rw [show p + (s.size - p) = s.size by omega]; exact e2
  · rw [List.length_drop, hl] at h2
    rw [gd] at h3
    by_cases h0 : j = 0
    · subst h0
      exact .inl ⟨h1, hR.inv_skip (by omega) h3⟩
    · obtain ⟨R', e1, e2⟩ := tk (p + j) (by omega) (by omega) (fun i a b => by have := h4 (i - p) (by omega); rwa [gd, show p + (i - p) = i by omega] at this) (.inr ⟨by omega, h3⟩)
      exact .inr ⟨j, R', by omega, by omega, e1, e2, .inr h1⟩

set_option maxRecDepth 100000 in
set_option maxHeartbeats 2000000 in
theorem tokens1_in (n : Nat) (hn : 3 ≤ n) (l Bn n₀ : Nat) (s : ByteArray) (hs : s.size ≤ 100000) (R0 : List (Nat × List UInt8)) (hR0 : Mid.Toks s.data.toList 0 R0) (J Jx : List Tk → World → Prop)
    (W : World) (hJ : AbidesFrom W.heap.size J)
    (hY : ∀ pre x W1, J pre W1 → pre.length < s.size → YieldAt Fence.wide (n - 1) Try.prog l (encTk x) W1 fun e W' =>
      (e = .returned (.bool true) ∧ J (pre ++ [x]) W' ∧ KeepsB n₀ Bn W1 W') ∨ (e = .returned (.bool false) ∧ Jx (pre ++ [x]) W'))
    (hBn : Bn < W.heap.size) (hnW : n₀ ≤ W.heap.size) (hc : W.cell? ⟨Bn, 0, none⟩ = some (.string s)) (h0 : J [] W) :
    CallsIn Fence.wide n Try.prog 56 #[.func (.yield l) #[] #[], .pointer (some ⟨Bn, 0, none⟩)] W fun e W' => (∃ v, e = .returned v) ∧
      ((∃ ys, ys = toV R0 ∧ J ys W') ∨ (∃ pre, pre <+: toV R0 ∧ Jx pre W')) := by
  have hsI : (s.size : Int) ≤ 100000 := by omega
  obtain ⟨xs, hxs⟩ : ∃ xs, xs = toV R0 := ⟨_, rfl⟩
  rw [← hxs]
  have HXS := Lib.hid hxs; have HY := Lib.hid hY; have HJ := Lib.hid hJ; have HB := Lib.hid hBn; have HT := Lib.hid hR0; have HS := Lib.hid hs
  have HZ := Lib.hid (fun p k => ext_size s p k hs)
  have HIX := Lib.hid (fun p W => idxAny_any (s.extract p s.size) (by rw [ByteArray.size_extract]; omega) W)
  have HST := Lib.hid (fun p R h1 h2 => tok_step s hs p R h1 h2)
  have HNW := Lib.hid hnW
  clear hxs hY hJ hBn hR0 hnW
  refine callsIn_of_wp Try.func56 rfl trivial ?_ rfl
  simp only [Try.ntmps56, List.size_toArray, List.length_cons, List.length_nil, Nat.reduceAdd, Nat.reduceSub, Array.replicate_succ, Array.replicate_zero, List.push_toArray, List.append_toArray, List.nil_append, List.cons_append]
  gi_wp2
  gi_loopw [3] (fun i wr => ∃ (pre : List Tk) (p : Nat) (R : List (Nat × List UInt8)), i = .int .i64 p ∧ p ≤ s.size + 1 ∧ pre.length ≤ p ∧ Hid (xs = pre ++ toV R) ∧ Hid (Mid.Toks s.data.toList p R) ∧ Hid (J pre wr) ∧ Hid (KeepsB n₀ Bn W wr) ∧ W.heap.size ≤ wr.heap.size) (fun i _ => s.size + 1 - (intOf i).toNat)
  case atStart => exact ⟨[], 0, R0, rfl, Nat.zero_le _, Nat.le_refl _, Lib.hid HXS.out, HT, Lib.hid h0, Lib.hid (KeepsB.refl _ _ _), Nat.le_refl _⟩
  case round =>
    clear HXS h0 HT
    obtain ⟨pre, p, R, rfl, hp, hpl, HX, HTK, HJs, HK, hsz⟩ := hrel
    have hcr : wr.cell? ⟨Bn, 0, none⟩ = some (.string s) := (HK.out.cell 0).trans hc
    by_cases hlt : p < s.size
    · have hstep := HST.out p R hlt HTK.out
      have HXI := Lib.hid (HIX.out p wr)
      have hltI : (p : Int) < (s.size : Int) := by omega
      have hpI : (p : Int) ≤ (s.size : Int) := by omega
      generalize hq : Lib.indexAny (s.extract p s.size).data.toList [32, 9] = q at *
      have HSP := Lib.hid hstep
      clear hq hstep
      gi_wp2
      refine ⟨trivial, fun _ => by omega, ?_⟩
      refine (callsIn_wide.2 HXI.out).mono ?_
      rintro e w1 ⟨rfl, hb1⟩
      have HJ1 := Lib.hid (HJ.out pre wr w1 none HJs.out (grown_of_below hb1) (fun r e => by cases e))
      have HK1 := Lib.hid (keepsB_t HK.out (keepsB_below hb1 (Nat.le_trans HNW.out hsz) (Nat.lt_of_lt_of_le HB.out hsz)))
      have hs1 := Nat.le_trans hsz hb1.size
      have hcr1 : w1.cell? ⟨Bn, 0, none⟩ = some (.string s) := (HK1.out.cell 0).trans hc
      clear hb1 HXI
      rcases HSP.out with ⟨h1, hT1⟩ | ⟨j, R', hj, hjs, hv, hT', ⟨h1, h2⟩ | h1⟩
      · subst h1
        have HT1 := Lib.hid hT1
        clear HJs HK HTK hT1 hcr HSP
        gi_wp2
        refine ⟨fun _ h => (by cases h), ?_⟩
        gi_wp2
        go_roundw
        case rel => exact ⟨pre, p + 1, R, by go_num, by omega, by omega, HX, HT1, HJ1, HK1, hs1⟩
        case measure => simp [intOf]; omega
      · clear HSP
        subst h1
        have hsub : (s.size : Int) - (p : Int) = (j : Int) := by omega
        obtain ⟨k, hk⟩ : ∃ k, k = p + j := ⟨_, rfl⟩
        have hadd : (p : Int) + (j : Int) = (k : Int) := by omega
        have hadd2 : (p : Int) + ((j : Int) + 1) = ((k + 1 : Nat) : Int) := by omega
        have hkI : (k : Int) ≤ (s.size : Int) := by omega
        have hpk : (p : Int) ≤ (k : Int) := by omega
        have hjI : (0 : Int) < (j : Int) := by omega
        rw [← hk] at hv hT' hjs
        have hx := HX.out
        rw [hv] at hx
        have HX2 := Lib.hid hx; have HT2 := Lib.hid hT'
        have hk1 : p < k := by omega
        obtain ⟨fn, tmps, assign, body, hy, hR⟩ := HY.out pre ⟨(p, s.extract p k), HZ.out p k⟩ w1 HJ1.out (by omega)
        dsimp only [encTk] at hy
        clear HX HTK HJs HK hx hv hT' hcr hk hj
        gi_wp2
        refine ⟨fun _ => by omega, hR.mono ?_⟩
        rintro e W3 (⟨rfl, hJ3, hk3⟩ | ⟨rfl, hJx3⟩)
        · have hs3 := Nat.le_trans hs1 hk3.1.size
          have HJ3 := Lib.hid hJ3; have HK3 := Lib.hid (keepsB_t HK1.out hk3)
          clear hJ3 hk3
          gi_wp2
          go_roundw
          case rel => exact ⟨pre ++ [⟨(p, s.extract p k), HZ.out p k⟩], k + 1, R', by go_num, by omega, by simp; omega, Lib.hid (by rw [HX2.out]; simp), HT2, HJ3, HK3, hs3⟩
          case measure => simp [intOf]; omega
        · have HJX := Lib.hid hJx3
          clear hJx3
          gi_wp2
          refine bodyPost_ret (results_none rfl _ _ _) rfl ?_
          exact ⟨⟨_, rfl⟩, .inr ⟨pre ++ [⟨(p, s.extract p k), HZ.out p k⟩], ⟨toV R', by rw [HX2.out]; simp⟩, HJX.out⟩⟩
      · clear HSP
        subst h1
        obtain ⟨k, hk⟩ : ∃ k, k = p + j := ⟨_, rfl⟩
        have hadd : (p : Int) + (j : Int) = (k : Int) := by omega
        have hadd2 : (p : Int) + ((j : Int) + 1) = ((k + 1 : Nat) : Int) := by omega
        have hkI : (k : Int) ≤ (s.size : Int) := by omega
        have hpk : (p : Int) ≤ (k : Int) := by omega
        have hjI : (0 : Int) < (j : Int) := by omega
        rw [← hk] at hv hT' hjs
        have hx := HX.out
        rw [hv] at hx
        have HX2 := Lib.hid hx; have HT2 := Lib.hid hT'
        have hk1 : p < k := by omega
        obtain ⟨fn, tmps, assign, body, hy, hR⟩ := HY.out pre ⟨(p, s.extract p k), HZ.out p k⟩ w1 HJ1.out (by omega)
        dsimp only [encTk] at hy
        clear HX HTK HJs HK hx hv hT' hcr hk hj
        gi_wp2
        refine ⟨fun _ => by omega, hR.mono ?_⟩
        rintro e W3 (⟨rfl, hJ3, hk3⟩ | ⟨rfl, hJx3⟩)
        · have hs3 := Nat.le_trans hs1 hk3.1.size
          have HJ3 := Lib.hid hJ3; have HK3 := Lib.hid (keepsB_t HK1.out hk3)
          clear hJ3 hk3
          gi_wp2
          go_roundw
          case rel => exact ⟨pre ++ [⟨(p, s.extract p k), HZ.out p k⟩], k + 1, R', by go_num, by omega, by simp; omega, Lib.hid (by rw [HX2.out]; simp), HT2, HJ3, HK3, hs3⟩
          case measure => simp [intOf]; omega
        · have HJX := Lib.hid hJx3
          clear hJx3
          gi_wp2
          refine bodyPost_ret (results_none rfl _ _ _) rfl ?_
          exact ⟨⟨_, rfl⟩, .inr ⟨pre ++ [⟨(p, s.extract p k), HZ.out p k⟩], ⟨toV R', by rw [HX2.out]; simp⟩, HJX.out⟩⟩
    · have hR := HTK.out.inv_done (by rw [size_toList]; omega)
      have hx := HX.out
      rw [hR, show toV [] = [] from rfl, List.append_nil] at hx
      have HX2 := Lib.hid hx
      clear hR hx HX HTK
      gi_wp2
      go_end0
      exact ⟨⟨_, rfl⟩, .inl ⟨pre, HX2.out.symm, HJs.out⟩⟩
end Go.Proofs.Ytcofplbdapjdjaa
