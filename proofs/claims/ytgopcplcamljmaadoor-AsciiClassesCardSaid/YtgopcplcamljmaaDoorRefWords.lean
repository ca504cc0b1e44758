/- Words, Squeeze and Same of the reference; Squeeze of the program: what each answers; each writes nothing that was there. -/
import Derived.Test.YtgopcplcamljmaaDoorWords
namespace Go.Proofs.YtgopcplcamljmaaDoor
open Go.RowKit

theorem wpList_append_str (w : World) {ops : Array Oper} {rest : List Oper} {o : Oper} {a : Act} {Q : Exit → Act → World → Prop} (hgd : o.guard = none) (s x : Operand)
    (ho : o.op = .call { callee := .builtin .append, args := #[s, x], argTypes := #[30, 30] })
    (base : Nat) (v : Value) (xs : List ByteArray) (hs : a.eval s = v) (hown : w.ownsRow base 9 1 v xs.length (strCells xs)) (B c : Nat) (t : ByteArray) (hx : a.eval x = .slice (some ⟨B, 0, none⟩) 1 c) (hc : w.cell? ⟨B, 0, none⟩ = some (.string t))
    (hn : xs.length ≤ 1000000000) (hbase : base ≤ w.heap.size)
    (h : ∀ v' w', Hid (w'.ownsRow base 9 1 v' (xs ++ [t]).length (strCells (xs ++ [t]))) → Hid (w.grownBy w' v.ownBlock) → wpList Tryd.prog ops Q rest (a.put o.dst v') w') : wpList Tryd.prog ops Q (o :: rest) a w := by
  obtain ⟨i0, hi, hz0, hz1, hz2⟩ := info_parts infoS
  refine wpList_append_own _ hgd s x 30 ho base 9 i0 (.string ⟨#[]⟩) 1 16 Tryd.underlying30 hi hz0 hz1 hz2 rfl (by decide) v xs.length (strCells xs) hs hown ⟨B, 0, none⟩ 1 c [.string t] hx rfl ?_ ?_ (by unfold maxLen; omega) (by omega) hbase
    (fun v' w' h2 h3 _ => h v' w' (Lib.hid (by simpa [strCells] using h2)) (Lib.hid h3))
  · intro j u hj
    obtain ⟨hj1, hj2⟩ := List.getElem?_eq_some_iff.1 hj
    have : j = 0 := by simp at hj1; omega
    subst this
    rw [show (⟨B, 0, none⟩ : Addr).add 0 = ⟨B, 0, none⟩ by simp [Addr.add], hc]
    simp at hj2
    rw [hj2]
  · intro u hu
    simp at hu
    subst hu
    rfl

theorem cell_str (w : World) (t : ByteArray) : (w.alloc (.cells #[.string t] 9)).cell? ⟨w.heap.size, 0, none⟩ = some (.string t) := by simp

/-- what the reference's 'from' says of the word under way -/
def Under (s : ByteArray) (k : Nat) (fr : Int) (cur : List UInt8) : Prop :=
  (fr = -1 ∧ cur = []) ∨ ∃ a : Nat, fr = (a : Int) ∧ a < k ∧ k ≤ s.size ∧ cur = (s.data.toList.drop a).take (k - a)

def toB (l : List UInt8) : ByteArray := ⟨l.toArray⟩

theorem wordsS_start (s : ByteArray) : wordsS s = [] ++ (Asc.wordsF [] (s.data.toList.drop 0)).map toB := by rw [List.nil_append, List.drop_zero]; rfl

theorem wordsS_len (s : ByteArray) : (wordsS s).length ≤ s.size + 1 := by
  have := words_count s.data.toList []
  rw [size_toList] at this
  simpa [wordsS, Asc.wordsL] using this

set_option maxRecDepth 100000 in
set_option maxHeartbeats 1000000 in
theorem refWords_any (s : ByteArray) (w : World) (hs : s.size ≤ 1000) :
    Calls Tryd.prog 37 #[.string s] w fun e w' => ∃ v, e = .returned v ∧ w'.ownsRow w.heap.size 9 1 v (wordsS s).length (strCells (wordsS s)) ∧ Below w.heap.size w w' := by
  have hsI : (s.size : Int) ≤ 1000 := by omega
  have hstart := wordsS_start s
  have hlen := wordsS_len s
  have HST := Lib.hid hstart
  clear hstart
  go_enter Tryd.func37, Tryd.ntmps37
  go_wp2_with fail
  go_loopw [3, 4, 5] (fun o f i wr => ∃ (k : Nat) (xs : List ByteArray) (v : Value) (fr : Int) (cur : List UInt8), v = o ∧ f = .int .i64 fr ∧ i = .int .i64 k ∧ k ≤ s.size + 1 ∧ Under s k fr cur ∧ (k = s.size + 1 → cur = []) ∧ wordsS s = xs ++ (Asc.wordsF cur (s.data.toList.drop k)).map toB ∧ wr.ownsRow w.heap.size 9 1 v xs.length (strCells xs) ∧ Below w.heap.size w wr) (fun _ _ i _ => s.size + 1 - (intOf i).toNat)
  case atStart => exact ⟨0, [], _, -1, [], rfl, rfl, rfl, Nat.zero_le _, .inl ⟨rfl, rfl⟩, fun _ => rfl, HST.out, World.ownsRow_nil _ _ _ _, Below.refl _ _⟩
  case round =>
    obtain ⟨k, xs, v, fr, cur, rfl, rfl, rfl, hk, hu, hend, hw, hown, hbel⟩ := hrel
    have hxs : xs.length ≤ 2000 := by
      have := congrArg List.length hw
      simp at this; omega
    have HW := Lib.hid hw
    have HU := Lib.hid hu
    have HEND := Lib.hid hend
    have HOWN := Lib.hid hown
    clear hw hu hend hown
    by_cases hle : k ≤ s.size
    · by_cases hnb : k < s.size ∧ ∀ h : k < s.size, Asc.blank s[k] = false
      · obtain ⟨hlt, hb⟩ := hnb
        have hb := hb hlt
        obtain ⟨c, hc⟩ : ∃ c, s[k] = c := ⟨_, rfl⟩
        rw [hc] at hb
        have hv := fun w => refBlank_any c w
        simp only [blB_eq, hb] at hv
        have hsome := Asc.wordsF_some cur s.data.toList k (by rw [size_toList]; exact hlt) (by rw [get_toList s k hlt, hc]; exact hb)
        have hw2 := HW.out
        rw [hsome, get_toList s k hlt, hc] at hw2
        have HV := Lib.hid hv
        have HW2 := Lib.hid hw2
        clear hv hw2 hsome hb
        rcases HU.out with ⟨rfl, rfl⟩ | ⟨a, rfl, hak, _, hcur⟩
        · have hpiece : [] ++ [c] = (s.data.toList.drop k).take (k + 1 - k) := by
            have := Asc.piece_snoc s.data.toList k k (Nat.le_refl _) (by rw [size_toList]; exact hlt)
            rw [get_toList s k hlt, hc] at this
            simpa using this
          have HP := Lib.hid hpiece
          clear hpiece
          go_wp2_with (go_at_call 22; refine (HV.out _).mono ?_; rintro e w' ⟨rfl, rfl⟩)
          go_roundw
          case rel => exact ⟨k + 1, xs, _, (k : Int), _, rfl, rfl, by go_num, by omega, .inr ⟨k, rfl, by omega, by omega, HP.out⟩, fun h => by omega, HW2.out, HOWN.out, hbel⟩
          case measure => simp [intOf]; omega
        · have hpiece : cur ++ [c] = (s.data.toList.drop a).take (k + 1 - a) := by
            have := Asc.piece_snoc s.data.toList a k (by omega) (by rw [size_toList]; exact hlt)
            rw [get_toList s k hlt, hc] at this
            rw [hcur]; exact this
          have HP := Lib.hid hpiece
          clear hpiece hcur
          go_wp2_with (go_at_call 22; refine (HV.out _).mono ?_; rintro e w' ⟨rfl, rfl⟩)
          go_roundw
          case rel => exact ⟨k + 1, xs, _, (a : Int), _, rfl, rfl, by go_num, by omega, .inr ⟨a, rfl, by omega, by omega, HP.out⟩, fun h => by omega, HW2.out, HOWN.out, hbel⟩
          case measure => simp [intOf]; omega
      · have hw2 : wordsS s = (if cur = [] then xs else xs ++ [toB cur]) ++ (Asc.wordsF [] (s.data.toList.drop (k + 1))).map toB := by
          have hw := HW.out
          by_cases hlt : k < s.size
          · have hb : Asc.blank s[k] = true := by
              cases hx : Asc.blank s[k] with
              | true => rfl
              | false => exact absurd ⟨hlt, fun _ => hx⟩ hnb
            rw [Asc.wordsF_gap cur s.data.toList k (by rw [size_toList]; exact hlt) (by rw [get_toList s k hlt]; exact hb)] at hw
            rw [hw]
            split <;> simp
          · rw [Asc.wordsF_end cur s.data.toList k (by rw [size_toList]; omega)] at hw
            rw [hw, Asc.wordsF_end [] s.data.toList (k + 1) (by rw [size_toList]; omega)]
            split <;> simp
        have HW2 := Lib.hid hw2
        have hcase : (k : Int) = (s.size : Int) ∨ ((k : Int) < (s.size : Int) ∧ ∃ h : k < s.size, Asc.blank s[k] = true) := by
          by_cases hlt : k < s.size
          · right
            refine ⟨by omega, hlt, ?_⟩
            cases hx : Asc.blank s[k] with
            | true => rfl
            | false => exact absurd ⟨hlt, fun _ => hx⟩ hnb
          · left; omega
        clear hw2 hnb
        have hblank : ∀ (h : k < s.size), Asc.blank s[k] = true → ∀ w, Calls Tryd.prog 22 #[.int .u8 s[k].toNat] w fun e w' => e = .returned (.bool true) ∧ w = w' := by
          intro h hb w
          have := refBlank_any s[k] w
          rw [blB_eq, hb] at this
          exact this
        have HB := Lib.hid hblank
        clear hblank
        rcases HU.out with ⟨rfl, rfl⟩ | ⟨a, rfl, hak, hks, hcur⟩
        · have hw3 := HW2.out
          rw [if_pos rfl] at hw3
          have HW3 := Lib.hid hw3
          clear hw3
          rcases hcase with h | ⟨h, hlt, hb⟩
          · have h' : ¬ (k : Int) < (s.size : Int) := by omega
            clear h
            go_wp2_with fail
            go_roundw
            case rel => exact ⟨k + 1, xs, _, -1, [], rfl, rfl, by go_num, by omega, .inl ⟨rfl, rfl⟩, fun _ => rfl, HW3.out, HOWN.out, hbel⟩
            case measure => simp [intOf]; omega
          · have HBB := Lib.hid (HB.out hlt hb)
            clear hb
            go_wp2_with (go_at_call 22; refine (HBB.out _).mono ?_; rintro e w' ⟨rfl, rfl⟩)
            go_roundw
            case rel => exact ⟨k + 1, xs, _, -1, [], rfl, rfl, by go_num, by omega, .inl ⟨rfl, rfl⟩, fun _ => rfl, HW3.out, HOWN.out, hbel⟩
            case measure => simp [intOf]; omega
        · have hne : cur ≠ [] := by rw [hcur]; exact Asc.piece_ne _ _ _ hak (by rw [size_toList]; exact hks)
          have hw3 := HW2.out
          have hex : toB cur = s.extract a k := by rw [extract_piece, hcur]; rfl
          rw [if_neg hne, hex] at hw3
          obtain ⟨t, ht⟩ : ∃ t, s.extract a k = t := ⟨_, rfl⟩
          rw [ht] at hw3
          have HW3 := Lib.hid hw3
          have b1 : (0 : Int) ≤ (a : Int) ∧ (a : Int) ≤ (k : Int) := by omega
          have b2 : (k : Int) ≤ (s.size : Int) := by omega
          have hsz : w.heap.size ≤ wr.heap.size := hbel.size
          have HROOM := Lib.hid (show ∀ o, w.heap.size ≤ (wr.alloc o).heap.size from fun o => by simp; omega)
          clear hw3 hne hex hcur
          rcases hcase with h | ⟨h, hlt, hb⟩
          · have h' : ¬ (k : Int) < (s.size : Int) := by omega
            clear h
            go_wp2_with (at_builtin; refine wpList_append_str _ rfl (.tmp 28) (.tmp 33) rfl w.heap.size v xs rfl (HOWN.out.alloc _) wr.heap.size 1 t rfl (cell_str _ _) (by omega) (HROOM.out _) ?_; intro v2 w2 ho2 hg2)
            go_roundw
            case rel => exact ⟨k + 1, xs ++ [t], _, -1, [], rfl, rfl, by go_num, by omega, .inl ⟨rfl, rfl⟩, fun _ => rfl, HW3.out, ho2.out, (hbel.alloc hsz _).grown hg2.out (by simp; omega) (fun j hj => (HOWN.out.lt j hj).1)⟩
            case measure => simp [intOf]; omega
          · have HBB := Lib.hid (HB.out hlt hb)
            clear hb
            go_wp2_with (first | (go_at_call 22; refine (HBB.out _).mono ?_; rintro e w' ⟨rfl, rfl⟩) | (at_builtin; refine wpList_append_str _ rfl (.tmp 28) (.tmp 33) rfl w.heap.size v xs rfl (HOWN.out.alloc _) wr.heap.size 1 t rfl (cell_str _ _) (by omega) (HROOM.out _) ?_; intro v2 w2 ho2 hg2))
            go_roundw
            case rel => exact ⟨k + 1, xs ++ [t], _, -1, [], rfl, rfl, by go_num, by omega, .inl ⟨rfl, rfl⟩, fun _ => rfl, HW3.out, ho2.out, (hbel.alloc hsz _).grown hg2.out (by simp; omega) (fun j hj => (HOWN.out.lt j hj).1)⟩
            case measure => simp [intOf]; omega
    · have hkn : k = s.size + 1 := by omega
      have hw := HW.out
      rw [HEND.out hkn, Asc.wordsF_end [] s.data.toList k (by rw [size_toList]; omega)] at hw
      simp only [if_true, List.map_nil, List.append_nil] at hw
      have HW3 := Lib.hid hw
      clear hw hkn
      go_wp2_with fail
      go_ret
      exact ⟨_, rfl, by rw [HW3.out]; exact HOWN.out, hbel⟩

/-- a slice of strings reads as a list -/
def Strs (w : World) (v : Value) (xs : List ByteArray) : Prop :=
  ∃ x cap, v = .slice x xs.length cap ∧ xs.length ≤ cap ∧ ∀ j (h : j < xs.length), ∃ b, x = some ⟨b, 0, none⟩ ∧ b < w.heap.size ∧ w.cell? ⟨b, j, none⟩ = some (.string xs[j])

theorem Strs.below {w w' : World} {v : Value} {xs : List ByteArray} (h : Strs w v xs) (hb : Below w.heap.size w w') : Strs w' v xs := by
  obtain ⟨x, cap, rfl, hc, hg⟩ := h
  refine ⟨x, cap, rfl, hc, fun j hj => ?_⟩
  obtain ⟨b, hx, hlt, hcell⟩ := hg j hj
  exact ⟨b, hx, Nat.lt_of_lt_of_le hlt hb.size, (hb.cell (p := ⟨b, j, none⟩) hlt).trans hcell⟩

theorem Strs.of_row {w : World} {base : Nat} {v : Value} {xs : List ByteArray} (h : w.ownsRow base 9 1 v xs.length (strCells xs)) : Strs w v xs := by
  rcases h.2 with ⟨rfl, h0⟩ | ⟨g, cap, cur, rfl, hg, hh, hn, hm, hs, ht⟩
  · exact ⟨none, 0, by rw [h0], by omega, fun j hj => absurd hj (by omega)⟩
  · refine ⟨some ⟨g, 0, none⟩, cap, rfl, hn, fun j hj => ⟨g, rfl, (Array.getElem?_eq_some_iff.1 hh).1, ?_⟩⟩
    have hc := h.cells (g := g) rfl j (.string xs[j]) (by simp [strCells, List.getElem?_eq_getElem hj])
    have : (⟨g, 0, none⟩ : Addr).add j = ⟨g, j, none⟩ := by unfold Addr.add; split <;> simp_all
    rwa [this] at hc

theorem words_strs (s : ByteArray) (w : World) (hs : s.size ≤ 100000) :
    Calls Tryd.prog 34 #[.string s] w fun e w' => ∃ v, e = .returned v ∧ Strs w' v (wordsS s) ∧ Below w.heap.size w w' :=
  (words_any s w hs).mono fun _ _ ⟨v, he, hr, hb⟩ => ⟨v, he, Strs.of_row hr, hb⟩

theorem refWords_strs (s : ByteArray) (w : World) (hs : s.size ≤ 1000) :
    Calls Tryd.prog 37 #[.string s] w fun e w' => ∃ v, e = .returned v ∧ Strs w' v (wordsS s) ∧ Below w.heap.size w w' :=
  (refWords_any s w hs).mono fun _ _ ⟨v, he, hr, hb⟩ => ⟨v, he, Strs.of_row hr, hb⟩

theorem join_any (v : Value) (xs : List ByteArray) (w : World) (hv : Strs w v xs) (hn : xs.length ≤ 1000000) (t : ByteArray) (ht : t = ⟨(Lib.join (xs.map (·.data.toList)) [32]).toArray⟩) (hl : t.size ≤ 1000000) :
    Calls Tryd.prog 56 #[v, .string ⟨#[32]⟩] w fun e w' => e = .returned (.string t) ∧ Below w.heap.size w w' := by
  obtain ⟨x, cap, rfl, hc, hg⟩ := hv
  by_cases h0 : xs = []
  · subst h0
    refine (Tryd.strings_Join_none x cap ⟨#[32]⟩ w).mono ?_
    rintro e w' ⟨rfl, rfl⟩
    exact ⟨by rw [ht]; rfl, Below.refl _ _⟩
  · have hpos : 0 < xs.length := by
      cases xs with
      | nil => exact absurd rfl h0
      | cons _ _ => simp
    obtain ⟨b, rfl, hlt, _⟩ := hg 0 hpos
    refine (Tryd.strings_Join b 0 cap xs ⟨#[32]⟩ w (fun j y hj => ?_) hlt (by omega) hc ?_).mono ?_
    · obtain ⟨hj1, rfl⟩ := List.getElem?_eq_some_iff.1 hj
      obtain ⟨b', e, _, hcell⟩ := hg j hj1
      simp only [Option.some.injEq, Addr.mk.injEq, and_true] at e
      subst e
      rw [Nat.zero_add]; exact hcell
    · rw [show (Lib.join (xs.map (·.data.toList)) (⟨#[32]⟩ : ByteArray).data.toList) = t.data.toList by rw [ht], size_toList]; omega
    · rintro e w' ⟨rfl, hb⟩
      exact ⟨by rw [ht], hb⟩

/-- the squeezed text -/
def squS (s : ByteArray) : ByteArray := ⟨(Asc.squeeze s.data.toList).toArray⟩

theorem squS_join (s : ByteArray) : squS s = ⟨(Lib.join ((wordsS s).map (·.data.toList)) [32]).toArray⟩ := by
  unfold squS Asc.squeeze wordsS
  rw [List.map_map]
  congr 3
  induction Asc.wordsL s.data.toList with
  | nil => rfl
  | cons x r ih => rw [List.map_cons, ← ih]; rfl

theorem squeeze_any (s : ByteArray) (w : World) (hs : s.size ≤ 100000) (hq : (squS s).size ≤ 1000000) (t : ByteArray) (ht : t = squS s) :
    Calls Tryd.prog 35 #[.string s] w fun e w' => e = .returned (.string t) ∧ Below w.heap.size w w' := by
  have hw := words_strs s w hs
  have hl := wordsS_len s
  rw [← ht] at hq
  have hj := fun v w hv => join_any v (wordsS s) w hv (by omega) t (by rw [ht, squS_join]) hq
  have HW := Lib.hid hw; have HJ := Lib.hid hj
  clear hw hj ht hl hq
  go_enter Tryd.func35, Tryd.ntmps35
  go_wp2_with fail
  refine HW.out.mono ?_
  rintro e w1 ⟨v, rfl, hv, hb1⟩
  have HV := Lib.hid hv
  clear hv
  go_wp2_with fail
  refine (HJ.out v w1 HV.out).mono ?_
  rintro e w2 ⟨rfl, hb2⟩
  go_wp2_with fail
  go_ret
  exact ⟨rfl, hb1.trans (hb2.mono hb1.size)⟩
end Go.Proofs.YtgopcplcamljmaaDoor
