/- slices.Clone and slices.SortFunc over identities. -/
import Derived.Test.YteoknmdoghemmaaGen
import Derived.Test.YteoknmdoghemmaaComp
import Derived.Test.YteoknmdoghemmaaHeld
namespace Mid
theorem cmpL_trans_lt : ∀ a b c : List Nat, cmpL a b < 0 → cmpL b c < 0 → cmpL a c < 0
  | [], [], _, h, _ => by simp [cmpL] at h
  | _ :: _, [], _, h, _ => by simp [cmpL] at h
  | [], _ :: _, [], _, h => by simp [cmpL] at h
  | [], _ :: _, _ :: _, _, _ => by simp [cmpL]
  | _ :: _, _ :: _, [], _, h => by simp [cmpL] at h
  | x :: a, y :: b, z :: c, h1, h2 => by
    rw [cmpL] at h1 h2 ⊢
    by_cases e1 : x < y
    · by_cases e2 : y < z
      · rw [if_pos (by omega)]; decide
      · rw [if_neg e2] at h2
        by_cases e3 : z < y
        · rw [if_pos e3] at h2; exact absurd h2 (by decide)
        · rw [if_pos (by omega)]; decide
    · rw [if_neg e1] at h1
      by_cases e4 : y < x
      · rw [if_pos e4] at h1; exact absurd h1 (by decide)
      · rw [if_neg e4] at h1
        by_cases e2 : y < z
        · rw [if_pos (by omega)]; decide
        · rw [if_neg e2] at h2
          by_cases e3 : z < y
          · rw [if_pos e3] at h2; exact absurd h2 (by decide)
          · rw [if_neg e3] at h2
            rw [if_neg (by omega), if_neg (by omega)]
            exact cmpL_trans_lt a b c h1 h2
def cfI (x y : Id) : Int := cmpL x.1 y.1
theorem cfI_eq (x y : Id) (h1 : ¬ cfI x y < 0) (h2 : ¬ cfI y x < 0) : x = y := by
  unfold cfI at h1 h2
  apply Subtype.ext
  apply cmpL_zero
  rw [cmpL_neg] at h2
  omega
theorem swoI : Go.Sort.SWO (Go.Proofs.ltOf cfI) where
  irrefl x := by simp [Go.Proofs.ltOf, cfI, cmpL_self]
  trans x y z h1 h2 := by
    simp only [Go.Proofs.ltOf, decide_eq_true_eq] at h1 h2 ⊢
    exact cmpL_trans_lt _ _ _ h1 h2
  ntrans x y z h1 h2 := by
    simp only [Go.Proofs.ltOf, decide_eq_false_iff_not] at h1 h2 ⊢
    intro h3
    by_cases e1 : cfI y x < 0
    · by_cases e2 : cfI z y < 0
      · have := cmpL_trans_lt _ _ _ e2 e1
        have h5 := cmpL_neg x.1 z.1
        unfold cfI at h3
        omega
      · have e := cfI_eq y z h2 e2
        subst e
        exact h1 h3
    · have e := cfI_eq x y h1 e1
      subst e
      exact h2 h3
end Mid
namespace Go.Proofs.Yteoknmdoghemmaa
open Go.RowKit Go.Sort

theorem aggId (w : World) : (isAgg 23).run Try.prog w = .ok true w := by kernel_rfl
theorem sizeId (w : World) : (Go.sizeOf 23).run Try.prog w = .ok 32 w := by kernel_rfl

set_option maxRecDepth 100000 in
set_option maxHeartbeats 1000000 in
/-- Compare, with the world told to the block -/
theorem compare_lays (x y : Mid.Id) (W : World) :
    Calls Try.prog 19 #[.agg (encI x).toArray, .agg (encI y).toArray] W fun e w' => e = .returned (.int .i64 (Mid.cfI x y)) ∧ ∃ q os', w' = grow (W.drewN q) os' := by
  have HC := Lib.hid (fun (W : World) g k t u (h1 : Blk W g t (bsC (nI x.1))) (h2 : Blk W k u (bsC (nI y.1))) a b => bytesCompare_any W g k t u x.1 y.1 x.2.2 y.2.2 h1 h2 32 x.2.1 y.2.1 a b)
  rw [encI_arr, encI_arr]
  unfold Mid.cfI
  obtain ⟨A, hA⟩ : ∃ A, A = nI x.1 := ⟨_, rfl⟩
  obtain ⟨B, hB⟩ : ∃ B, B = nI y.1 := ⟨_, rfl⟩
  rw [← hA, ← hB] at HC ⊢
  clear hA hB
  go_enter Try.func19, Try.ntmps19
  go_upto_region 1 with (fail)
  have hb := Blk.fresh (W.alloc (.cells (bsC A) 23)) 23 (bsC B)
  have ha := (Blk.fresh W 23 (bsC A)).more (.cells (bsC B) 23)
  have hs : (W.alloc (.cells (bsC A) 23)).heap.size = W.heap.size + 1 := by simp
  rw [hs] at hb
  have hg : (W.alloc (.cells (bsC A) 23)).alloc (.cells (bsC B) 23) = grow W [.cells (bsC A) 23, .cells (bsC B) 23].toArray := by
    rw [alloc_eq_grow, alloc_eq_grow, grow_grow]; rfl
  generalize (W.alloc (.cells (bsC A) 23)).alloc (.cells (bsC B) 23) = W0 at *
  have HA := Lib.hid ha; have HB := Lib.hid hb; have HG := Lib.hid hg
  clear ha hb hg hs
  go_wp2_with fail
  go_region_law (go_simp; go_at_call 42; refine (HC.out _ _ _ _ _ HA.out.draw HB.out.draw _ _).mono ?_; rintro e w1 ⟨rfl, rfl⟩)
  all_goals
    go_wp2_with fail
    go_ret
    exact ⟨rfl, 1, _, by rw [HG.out]; rfl⟩

set_option maxRecDepth 100000 in
set_option maxHeartbeats 1000000 in
theorem clone_empty (a : Addr) (cap : Nat) (w : World) :
    Calls Try.prog 43 #[.slice (some a) 0 cap] w fun e w' => ∃ v', e = .returned v' ∧ w'.ownsRow w.heap.size 23 32 v' 0 [] ∧ Below w.heap.size w w' := by
  obtain ⟨i0, hi, hz0, hz1, hz2⟩ := info_partsM infoI
  have q22 := fun (w : World) (a : Option Addr) (n c n' c' : Nat) => Lib.run_eql_slice_nil (P := Try.prog) w _ _ a n c n' c' Try.underlying41
  have HZ := Lib.hid hz0
  clear hz0
  go_enter Try.func43, Try.ntmps43
  go_wp2_with (at_builtin; refine wpList_append_own _ rfl _ _ 41 rfl w.heap.size 23 i0 (.agg (bsC zD)) 32 32 Try.underlying41 hi HZ.out hz1 hz2 rfl (by decide) _ _ _ rfl (World.ownsRow_made w #[] 0 (Nat.le_refl _) (Nat.zero_le _) (by simp)) a 0 cap [] rfl (by simp) (by simp) (by simp) (by simp) (by simp) (by simp) ?_; intro v' w1 hown hgrow _)
  go_ret
  exact ⟨v', rfl, by simpa using hown, ((Below.refl _ w).alloc (Nat.le_refl _) _).grown hgrow (by simp) (fun k hk => by cases hk; exact Nat.le_refl _)⟩

/-- what Clone gives: nil of nil, else a row of its own -/
def ClonePost (ls : List Mid.Id) (w : World) (e : Ending) (w' : World) : Prop :=
  ∃ v', e = .returned v' ∧ OwnI 23 w.heap.size w' v' ls ∧ Below w.heap.size w w'

theorem clone_any (v : Value) (ls : List Mid.Id) (w : World) (hn : ls.length ≤ 1000000) (hv : Ids w v ls) :
    Calls Try.prog 43 #[v] w (ClonePost ls w) := by
  obtain ⟨ad, cap, rfl, hlc, hcm, hnil, hcells⟩ := hv
  cases ad with
  | none =>
    have h0 := hnil rfl
    obtain rfl : ls = [] := List.eq_nil_of_length_eq_zero (by omega)
    refine (AnyE.slices_Clone_nil Try.cloneL 0 cap w).mono ?_
    rintro e w' ⟨rfl, rfl⟩
    exact ⟨_, rfl, World.ownsRow_nil _ _ _ _, Below.refl _ _⟩
  | some a =>
    obtain ⟨i0, hi, hz0, hz1, hz2⟩ := info_partsM infoI
    have key : ∀ (b off : Nat), (∀ j u, (flatI ls)[j]? = some u → w.cell? ⟨b, off + j, none⟩ = some u) →
        Calls Try.prog 43 #[.slice (some ⟨b, off, none⟩) ls.length cap] w (ClonePost ls w) := by
      intro b off hc
      have h := AnyE.slices_Clone Try.cloneL i0 (.agg (bsC zD)) 32 32 hi hz0 hz1 hz2 rfl (by decide) sizeId b off ls.length cap (flatI ls) w (flatI_len ls) (by omega) (by omega) hc (flatI_one ls)
      refine h.mono ?_
      rintro e w' ⟨v', rfl, ho, _, hb⟩
      exact ⟨v', rfl, ho, hb⟩
    rcases hcells with rfl | ⟨b, off, hx, hc⟩
    · refine (clone_empty a cap w).mono ?_
      rintro e w' ⟨v', rfl, ho, hb⟩
      exact ⟨v', rfl, ho, hb⟩
    · cases hx
      refine key b off (fun j u hj => ?_)
      have hjl : j < ls.length * 32 := by
        have := (List.getElem?_eq_some_iff.1 hj).1
        rwa [flatI_len] at this
      have e : j = j / 32 * 32 + j % 32 := by omega
      rw [e] at hj
      rw [flatI_get ls (j / 32) (j % 32) (by omega) (by omega)] at hj
      have := hc (j / 32) (by omega) (j % 32) u hj
      rwa [Nat.add_assoc, ← e] at this

/-- a sorted row: a permutation, no later one before an earlier one -/
def SortedPerm (ls ms : List Mid.Id) : Prop := ms.Perm ls ∧ ∀ i j, i < j → j < ms.length → ¬ Mid.cfI ms[j]! ms[i]! < 0

theorem arr_get (d : Array Mid.Id) (i : Nat) : d.toList[i]! = d[i]! := by
  simp [getElem!_def]
theorem enc_get (x : Mid.Id) (i : Nat) (h : i < 32) : (encI x)[i]? = some (encI x)[i]! := by
  rw [getElem!_pos (encI x) i (by rw [encI_len]; exact h)]
  exact List.getElem?_eq_getElem _

theorem holds_of (g : Nat) (ls : List Mid.Id) (w : World) (hc : IdsC w g 0 ls) (ht : w.there g 0 (ls.length * 32)) : HoldsK encI 32 w g 0 ls.toArray := by
  intro t ht'
  rw [size_flatK] at ht'
  have hs : ls.toArray.size = ls.length := by simp
  rw [hs] at ht'
  refine ⟨?_, (ht t ht').2⟩
  rw [get_flatK _ _ _ _ (by rw [hs]; exact ht')]
  have e : t = t / 32 * 32 + t % 32 := by omega
  have h1 := hc (t / 32) (by omega) (t % 32) _ (enc_get _ _ (by omega))
  rw [Nat.add_assoc, ← e] at h1
  have h2 : ls.toArray[t / 32]! = ls[t / 32]! := by simp [getElem!_def]
  rw [h2]
  exact h1

theorem of_holds (g : Nat) (d : Array Mid.Id) (w : World) (h : HoldsK encI 32 w g 0 d) : IdsC w g 0 d.toList ∧ w.there g 0 (d.toList.length * 32) := by
  have hs : d.toList.length = d.size := by simp
  have key : ∀ t, t < d.size * 32 → w.cell? ⟨g, 0 + t, none⟩ = some (encI d[t / 32]!)[t % 32]! ∧ w.frozen? ⟨g, 0 + t, none⟩ = false := by
    intro t ht
    have h1 := h t (by rw [size_flatK]; exact ht)
    rw [get_flatK _ _ _ _ ht] at h1
    exact h1
  constructor
  · intro j hj i v hv
    rw [hs] at hj
    have hi : i < 32 := by
      have := (List.getElem?_eq_some_iff.1 hv).1
      rwa [encI_len] at this
    have h1 := (key (j * 32 + i) (by omega)).1
    rw [show (j * 32 + i) / 32 = j by omega, show (j * 32 + i) % 32 = i by omega] at h1
    rw [arr_get, enc_get _ _ hi] at hv
    rw [Nat.add_assoc, h1]
    exact hv
  · intro t ht
    rw [hs] at ht
    have h1 := key t ht
    exact ⟨by rw [h1.1]; rfl, h1.2⟩

theorem below_sort {base : Nat} {w0 w : World} (h : Below base w0 w) (g n : Nat) (hg : base ≤ g) (hgw : g < w.heap.size) (d : Array Mid.Id) (os : Array Obj) : Below base w0 (sortWorldK encI 32 w g 0 n d os) := by
  have hsz : (putRowK encI 32 (Sort.ahead w n) g 0 d).heap.size = w.heap.size := by rw [size_putRowK]; rfl
  refine ⟨h.os, h.tape, h.output, ?_, fun k hk => ?_⟩
  · unfold sortWorldK
    rw [size_grow, hsz]
    have := h.size
    omega
  · have hkw : k < w.heap.size := by omega
    unfold sortWorldK
    rw [heap_grow_old _ _ (by rw [hsz]; exact hkw), ← h.block k hk]
    unfold putRowK putRow mapBlock
    simp only [heap_ahead]
    rw [Array.getElem?_modify]
    rw [if_neg (by omega)]

theorem sort_any (g cap : Nat) (ls : List Mid.Id) (w : World) (base : Nat) (w0 : World) (hn : ls.length ≤ 1000000) (hM : Mrow base w0 w g 0 ls) :
    Calls Try.prog 44 #[.slice (some ⟨g, 0, none⟩) ls.length cap, .func (.func 19) #[] #[]] w fun e w' => e = .returned (.tuple #[]) ∧ ∃ ms, ms.length = ls.length ∧ SortedPerm ls ms ∧ Mrow base w0 w' g 0 ms := by
  have eg : ∀ args w, (callFunc 19 args).run Try.prog w = .ok (.enter 19 args) w := enters_of Try.func19 (by kernel_rfl) rfl
  have hcmp : CmpLays Try.prog 19 #[] encI 32 Mid.cfI g 0 ls.toArray.size w := fun _ _ _ _ x y => compare_lays x y _
  have hH : HoldsK encI 32 w g 0 ls.toArray := holds_of g ls w hM.2.2.1 hM.2.2.2.1
  have hs : ls.toArray.size = ls.length := by simp
  have h := AnyQ.slices_SortFunc Try.sortL 32 aggId sizeId encI encI_len encI_one Mid.cfI Mid.swoI 19 #[] g 0 cap ls.toArray w eg hcmp hH hM.2.1 (by rw [hs]; omega)
  rw [hs] at h
  refine h.mono ?_
  rintro e w' ⟨rfl, d', n, os, hp, hso, rfl⟩
  have hd : d'.size = ls.length := by rw [hp.1, hs]
  have hH2 := holdsK_sortWorldK_c encI 32 w g 0 ls.toArray d' n os hH hM.2.1 hp.1
  have hof := of_holds g d' _ hH2
  refine ⟨rfl, d'.toList, by simp [hd], ⟨?_, ?_⟩, ?_⟩
  · have h3 := hp.2.2
    rw [Array.extract_eq_self_of_le (by omega), Array.extract_eq_self_of_le (by omega)] at h3
    simpa using h3
  · intro i j hij hj
    rw [arr_get, arr_get]
    have h4 := hso i j (Nat.zero_le _) hij (by simpa [hd] using hj)
    unfold ltOf at h4
    simpa using h4
  · refine ⟨hM.1, ?_, hof.1, hof.2, below_sort hM.2.2.2.2 g n hM.1 hM.2.1 d' os⟩
    have := size_sortWorldK_c encI 32 w g 0 n d' os
    have := hM.2.1
    omega
end Go.Proofs.Yteoknmdoghemmaa
