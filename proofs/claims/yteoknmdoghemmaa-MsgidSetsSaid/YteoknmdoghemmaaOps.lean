/- Union, Minus and Both; the law's equal. -/
import Derived.Test.YteoknmdoghemmaaMgGo
namespace Mid
theorem mg_left (kf : Bool → Bool → Bool) (hk : kf false true = false) : ∀ (n : Nat) (p q : List Id), p.length + q.length ≤ n → (mg kf p q).length ≤ p.length := by
  have hi : ∀ (b : Bool) (x : Id), (if b = true then [x] else []).length ≤ 1 := fun b x => by cases b <;> simp
  intro n
  induction n with
  | zero =>
    intro p q h
    obtain rfl : p = [] := List.eq_nil_of_length_eq_zero (by omega)
    obtain rfl : q = [] := List.eq_nil_of_length_eq_zero (by omega)
    simp [mg]
  | succ n ih =>
    intro p q h
    match p, q with
    | [], [] => simp [mg]
    | x :: p, [] =>
      have := ih p [] (by simp at h ⊢; omega)
      have := hi (kf true false) x
      rw [mg, List.length_append]; simp only [List.length_cons] at *; omega
    | [], y :: q =>
      have := ih [] q (by simp at h ⊢; omega)
      rw [mg, hk]; simpa using this
    | x :: p, y :: q =>
      have h1 := ih p (y :: q) (by simp at h ⊢; omega)
      have h2 := ih (x :: p) q (by simp at h ⊢; omega)
      have h3 := ih p q (by simp at h ⊢; omega)
      have i1 := hi (kf true false) x
      have i3 := hi (kf true true) y
      rw [mg]
      split
      · rw [List.length_append]; simp only [List.length_cons] at *; omega
      · split
        · rw [hk]; simpa using h2
        · rw [List.length_append]; simp only [List.length_cons] at *; omega
end Mid
namespace Go.Proofs.Yteoknmdoghemmaa
open Go.RowKit Go.Shelf

/-- what an operation on sets gives -/
def OpPost (kf : Bool → Bool → Bool) (a b : List Mid.Id) (w : World) (e : Ending) (w' : World) : Prop :=
  ∃ v' D, e = .returned v' ∧ Ids w' v' D ∧ Mid.Asc' D ∧ (∀ u, u ∈ D ↔ (u ∈ a ∨ u ∈ b) ∧ kf (decide (u ∈ a)) (decide (u ∈ b)) = true) ∧ D.length ≤ a.length + b.length ∧ (kf false true = false → D.length ≤ a.length) ∧ Below w.heap.size w w'

theorem set2_any (v : Value) (ls : List Mid.Id) (w : World) (hn : ls.length ≤ 1000000) (hv : Ids w v ls) :
    Calls Try.prog 23 #[v] w fun e w' => ∃ v' D, e = .returned v' ∧ Ids w' v' D ∧ Mid.Asc' D ∧ (∀ u, u ∈ D ↔ u ∈ ls) ∧ D.length ≤ ls.length ∧ Below w.heap.size w w' := by
  refine (set_any v ls w hn hv).mono ?_
  rintro e w' ⟨v', ms, rfl, hml, hsp, hI, hb⟩
  refine ⟨v', _, rfl, hI, Mid.dd_asc ms hsp.2 _ (Nat.le_refl _), fun u => ?_, by have := Mid.dd_len ms ms.length; omega, hb⟩
  rw [Mid.dd_mem ms u _ (Nat.le_refl _), List.take_of_length_le (Nat.le_refl _)]
  exact hsp.1.mem_iff

set_option maxRecDepth 100000 in
set_option maxHeartbeats 1000000 in
theorem keepUnion (p q : Bool) (W : World) : Calls Try.prog 47 #[.bool p, .bool q] W fun e w' => e = .returned (.bool ((fun p q => p || q) p q)) ∧ W = w' := by
  cases p <;> cases q
  all_goals
    go_enter Try.func47, Try.ntmps47
    go_wp2_with fail
    go_ret
    exact ⟨rfl, rfl⟩

set_option maxRecDepth 100000 in
set_option maxHeartbeats 1000000 in
theorem opUnion_any (v1 v2 : Value) (a b : List Mid.Id) (w : World) (ha : a.length ≤ 400000) (hb : b.length ≤ 400000) (h1 : Ids w v1 a) (h2 : Ids w v2 b) :
    Calls Try.prog 25 #[v1, v2] w (OpPost (fun p q => p || q) a b w) := by
  have S1 := Lib.hid (set2_any v1 a w (by omega) h1)
  have S2 := Lib.hid (fun W h => set2_any v2 b W (by omega) h)
  have eg : ∀ args w, (callFunc 47 args).run Try.prog w = .ok (.enter 47 args) w := enters_of Try.func47 (by kernel_rfl) rfl
  have HMG := Lib.hid (fun u1 u2 P Q W hl h1 h2 => merge_any 47 (fun p q => p || q) eg keepUnion u1 u2 P Q W hl h1 h2)
  have H2 := Lib.hid h2
  have HLL := Lib.hid (And.intro ha hb)
  obtain ⟨kf, hkf⟩ : ∃ kf : Bool → Bool → Bool, kf = (fun p q => p || q) := ⟨_, rfl⟩
  rw [← hkf] at HMG ⊢
  unfold OpPost
  clear h1 h2 eg ha hb hkf
  go_enter Try.func25, Try.ntmps25
  go_wp2_with fail
  refine S1.out.mono ?_
  rintro e w1 ⟨u1, P, rfl, hI1, hA1, hm1, hl1, hb1⟩
  have HI1 := Lib.hid hI1; have HA1 := Lib.hid hA1; have HM1 := Lib.hid hm1; have HL1 := Lib.hid hl1; have B1 := Lib.hid hb1
  clear hI1 hA1 hm1 hl1 hb1
  go_wp2_with fail
  refine (S2.out _ (H2.out.below B1.out)).mono ?_
  rintro e w2 ⟨u2, Q, rfl, hI2, hA2, hm2, hl2, hb2⟩
  have HI2 := Lib.hid hI2; have HA2 := Lib.hid hA2; have HM2 := Lib.hid hm2; have HL2 := Lib.hid hl2; have HI1' := Lib.hid (HI1.out.below hb2); have B2 := Lib.hid (B1.out.trans (hb2.mono B1.out.size))
  clear hI2 hA2 hm2 hl2 hb2
  go_wp2_with fail
  refine (HMG.out _ _ P Q _ (by have := HL1.out; have := HL2.out; have := HLL.out; omega) HI1'.out HI2.out).mono ?_
  rintro e w3 ⟨u3, rfl, ho3, hb3⟩
  have HO3 := Lib.hid ho3; have B3 := Lib.hid (B2.out.trans (hb3.mono B2.out.size))
  clear ho3 hb3
  go_wp2_with fail
  go_ret
  refine ⟨_, _, rfl, HO3.out.ids, Mid.mg_asc kf _ P Q (Nat.le_refl _) HA1.out HA2.out, fun u => ?_, ?_, fun hk => ?_, B3.out⟩
  · rw [Mid.mg_mem kf _ P Q (Nat.le_refl _) HA1.out HA2.out]
    have d1 : decide (u ∈ P) = decide (u ∈ a) := by rw [decide_eq_decide]; exact HM1.out u
    have d2 : decide (u ∈ Q) = decide (u ∈ b) := by rw [decide_eq_decide]; exact HM2.out u
    rw [d1, d2]
    exact and_congr (or_congr (HM1.out u) (HM2.out u)) Iff.rfl
  · have := Mid.mg_len kf _ P Q (Nat.le_refl _); have := HL1.out; have := HL2.out; omega
  · have := Mid.mg_left kf hk _ P Q (Nat.le_refl _); have := HL1.out; omega

set_option maxRecDepth 100000 in
set_option maxHeartbeats 1000000 in
theorem keepMinus (p q : Bool) (W : World) : Calls Try.prog 48 #[.bool p, .bool q] W fun e w' => e = .returned (.bool ((fun p q => p && !q) p q)) ∧ W = w' := by
  cases p <;> cases q
  all_goals
    go_enter Try.func48, Try.ntmps48
    go_wp2_with fail
    go_ret
    exact ⟨rfl, rfl⟩

set_option maxRecDepth 100000 in
set_option maxHeartbeats 1000000 in
theorem opMinus_any (v1 v2 : Value) (a b : List Mid.Id) (w : World) (ha : a.length ≤ 400000) (hb : b.length ≤ 400000) (h1 : Ids w v1 a) (h2 : Ids w v2 b) :
    Calls Try.prog 26 #[v1, v2] w (OpPost (fun p q => p && !q) a b w) := by
  have S1 := Lib.hid (set2_any v1 a w (by omega) h1)
  have S2 := Lib.hid (fun W h => set2_any v2 b W (by omega) h)
  have eg : ∀ args w, (callFunc 48 args).run Try.prog w = .ok (.enter 48 args) w := enters_of Try.func48 (by kernel_rfl) rfl
  have HMG := Lib.hid (fun u1 u2 P Q W hl h1 h2 => merge_any 48 (fun p q => p && !q) eg keepMinus u1 u2 P Q W hl h1 h2)
  have H2 := Lib.hid h2
  have HLL := Lib.hid (And.intro ha hb)
  obtain ⟨kf, hkf⟩ : ∃ kf : Bool → Bool → Bool, kf = (fun p q => p && !q) := ⟨_, rfl⟩
  rw [← hkf] at HMG ⊢
  unfold OpPost
  clear h1 h2 eg ha hb hkf
  go_enter Try.func26, Try.ntmps26
  go_wp2_with fail
  refine S1.out.mono ?_
  rintro e w1 ⟨u1, P, rfl, hI1, hA1, hm1, hl1, hb1⟩
  have HI1 := Lib.hid hI1; have HA1 := Lib.hid hA1; have HM1 := Lib.hid hm1; have HL1 := Lib.hid hl1; have B1 := Lib.hid hb1
  clear hI1 hA1 hm1 hl1 hb1
  go_wp2_with fail
  refine (S2.out _ (H2.out.below B1.out)).mono ?_
  rintro e w2 ⟨u2, Q, rfl, hI2, hA2, hm2, hl2, hb2⟩
  have HI2 := Lib.hid hI2; have HA2 := Lib.hid hA2; have HM2 := Lib.hid hm2; have HL2 := Lib.hid hl2; have HI1' := Lib.hid (HI1.out.below hb2); have B2 := Lib.hid (B1.out.trans (hb2.mono B1.out.size))
  clear hI2 hA2 hm2 hl2 hb2
  go_wp2_with fail
  refine (HMG.out _ _ P Q _ (by have := HL1.out; have := HL2.out; have := HLL.out; omega) HI1'.out HI2.out).mono ?_
  rintro e w3 ⟨u3, rfl, ho3, hb3⟩
  have HO3 := Lib.hid ho3; have B3 := Lib.hid (B2.out.trans (hb3.mono B2.out.size))
  clear ho3 hb3
  go_wp2_with fail
  go_ret
  refine ⟨_, _, rfl, HO3.out.ids, Mid.mg_asc kf _ P Q (Nat.le_refl _) HA1.out HA2.out, fun u => ?_, ?_, fun hk => ?_, B3.out⟩
  · rw [Mid.mg_mem kf _ P Q (Nat.le_refl _) HA1.out HA2.out]
    have d1 : decide (u ∈ P) = decide (u ∈ a) := by rw [decide_eq_decide]; exact HM1.out u
    have d2 : decide (u ∈ Q) = decide (u ∈ b) := by rw [decide_eq_decide]; exact HM2.out u
    rw [d1, d2]
    exact and_congr (or_congr (HM1.out u) (HM2.out u)) Iff.rfl
  · have := Mid.mg_len kf _ P Q (Nat.le_refl _); have := HL1.out; have := HL2.out; omega
  · have := Mid.mg_left kf hk _ P Q (Nat.le_refl _); have := HL1.out; omega

set_option maxRecDepth 100000 in
set_option maxHeartbeats 1000000 in
theorem keepBoth (p q : Bool) (W : World) : Calls Try.prog 49 #[.bool p, .bool q] W fun e w' => e = .returned (.bool ((fun p q => p && q) p q)) ∧ W = w' := by
  cases p <;> cases q
  all_goals
    go_enter Try.func49, Try.ntmps49
    go_wp2_with fail
    go_ret
    exact ⟨rfl, rfl⟩

set_option maxRecDepth 100000 in
set_option maxHeartbeats 1000000 in
theorem opBoth_any (v1 v2 : Value) (a b : List Mid.Id) (w : World) (ha : a.length ≤ 400000) (hb : b.length ≤ 400000) (h1 : Ids w v1 a) (h2 : Ids w v2 b) :
    Calls Try.prog 28 #[v1, v2] w (OpPost (fun p q => p && q) a b w) := by
  have S1 := Lib.hid (set2_any v1 a w (by omega) h1)
  have S2 := Lib.hid (fun W h => set2_any v2 b W (by omega) h)
  have eg : ∀ args w, (callFunc 49 args).run Try.prog w = .ok (.enter 49 args) w := enters_of Try.func49 (by kernel_rfl) rfl
  have HMG := Lib.hid (fun u1 u2 P Q W hl h1 h2 => merge_any 49 (fun p q => p && q) eg keepBoth u1 u2 P Q W hl h1 h2)
  have H2 := Lib.hid h2
  have HLL := Lib.hid (And.intro ha hb)
  obtain ⟨kf, hkf⟩ : ∃ kf : Bool → Bool → Bool, kf = (fun p q => p && q) := ⟨_, rfl⟩
  rw [← hkf] at HMG ⊢
  unfold OpPost
  clear h1 h2 eg ha hb hkf
  go_enter Try.func28, Try.ntmps28
  go_wp2_with fail
  refine S1.out.mono ?_
  rintro e w1 ⟨u1, P, rfl, hI1, hA1, hm1, hl1, hb1⟩
  have HI1 := Lib.hid hI1; have HA1 := Lib.hid hA1; have HM1 := Lib.hid hm1; have HL1 := Lib.hid hl1; have B1 := Lib.hid hb1
  clear hI1 hA1 hm1 hl1 hb1
  go_wp2_with fail
  refine (S2.out _ (H2.out.below B1.out)).mono ?_
  rintro e w2 ⟨u2, Q, rfl, hI2, hA2, hm2, hl2, hb2⟩
  have HI2 := Lib.hid hI2; have HA2 := Lib.hid hA2; have HM2 := Lib.hid hm2; have HL2 := Lib.hid hl2; have HI1' := Lib.hid (HI1.out.below hb2); have B2 := Lib.hid (B1.out.trans (hb2.mono B1.out.size))
  clear hI2 hA2 hm2 hl2 hb2
  go_wp2_with fail
  refine (HMG.out _ _ P Q _ (by have := HL1.out; have := HL2.out; have := HLL.out; omega) HI1'.out HI2.out).mono ?_
  rintro e w3 ⟨u3, rfl, ho3, hb3⟩
  have HO3 := Lib.hid ho3; have B3 := Lib.hid (B2.out.trans (hb3.mono B2.out.size))
  clear ho3 hb3
  go_wp2_with fail
  go_ret
  refine ⟨_, _, rfl, HO3.out.ids, Mid.mg_asc kf _ P Q (Nat.le_refl _) HA1.out HA2.out, fun u => ?_, ?_, fun hk => ?_, B3.out⟩
  · rw [Mid.mg_mem kf _ P Q (Nat.le_refl _) HA1.out HA2.out]
    have d1 : decide (u ∈ P) = decide (u ∈ a) := by rw [decide_eq_decide]; exact HM1.out u
    have d2 : decide (u ∈ Q) = decide (u ∈ b) := by rw [decide_eq_decide]; exact HM2.out u
    rw [d1, d2]
    exact and_congr (or_congr (HM1.out u) (HM2.out u)) Iff.rfl
  · have := Mid.mg_len kf _ P Q (Nat.le_refl _); have := HL1.out; have := HL2.out; omega
  · have := Mid.mg_left kf hk _ P Q (Nat.le_refl _); have := HL1.out; omega

set_option maxRecDepth 100000 in
set_option maxHeartbeats 1000000 in
/-- equal, of a list with itself -/
theorem equal_any (v1 v2 : Value) (ls : List Mid.Id) (w : World) (hn : ls.length ≤ 1000000) (h1 : Ids w v1 ls) (h2 : Ids w v2 ls) :
    Calls Try.prog 22 #[v1, v2] w fun e w' => e = .returned (.bool true) ∧ Below w.heap.size w w' := by
  obtain ⟨a1, c1, rfl, _, _, _, hc1⟩ := h1
  obtain ⟨a2, c2, rfl, _, _, _, hc2⟩ := h2
  obtain ⟨n, hnn⟩ : ∃ n, n = ls.length := ⟨_, rfl⟩
  rw [← hnn] at hn ⊢
  have hnI : (n : Int) ≤ 1000000 := by omega
  have HN := Lib.hid hnn; have HC1 := Lib.hid hc1; have HC2 := Lib.hid hc2
  have hu30 : Try.prog.underlying 30 = some (.array 32 5) := Try.underlying30
  have hu23 : Try.prog.underlying 23 = some (.array 32 5) := Try.underlying23
  have HEQ := Lib.hid (fun x w => eq_enc (t := 30) hu30 x x w)
  clear hnn hc1 hc2 hn
  go_enter Try.func22, Try.ntmps22
  go_wp2_with fail
  go_loopw [5] (fun i wr => ∃ k : Nat, i = .int .i64 k ∧ k ≤ n ∧ Hid (Below w.heap.size w wr)) (fun i _ => n - (intOf i).toNat)
  case atStart => exact ⟨0, rfl, Nat.zero_le _, Lib.hid (Below.refl _ _)⟩
  case round =>
    obtain ⟨k, rfl, hk, hbl⟩ := hrel
    by_cases hlt : k < n
    · have hkl : k < ls.length := by rw [← HN.out]; exact hlt
      have hne : ls ≠ [] := by intro h; rw [h] at hkl; exact absurd hkl (by simp)
      rcases HC1.out with h0 | ⟨b1, o1, rfl, k1⟩
      · exact absurd h0 hne
      rcases HC2.out with h0 | ⟨b2, o2, rfl, k2⟩
      · exact absurd h0 hne
      have hr1 := (k1.keep hbl.out.drew (k1.lt hne)).range k hkl
      have hr2 := (k2.keep hbl.out.drew (k2.lt hne)).range k hkl
      generalize ls[k]! = x at *
      have HR := Lib.hid (And.intro hr1 hr2)
      have hi1 := info_enc infoId x
      have hi2 := info_enc infoRid x
      have heq := HEQ.out x
      simp only [decide_true] at heq
      have hltI : (k : Int) < (n : Int) := by omega
      clear hr1 hr2 k1 k2 hkl hne
      go_wp2_with fail
      refine wp_region_held_drew (S := (fun w' => w'.rangeAt b1 (o1 + k * 32) (encI x) ∧ w'.rangeAt b2 (o2 + k * 32) (encI x))) (by kernel_rfl) ?_ (fun hHeld => ?_)
      · exact HR.out
      refine wpAnyH_take (i := 0) (v := ?_) rfl (by kernel_rfl) (by kernel_rfl) (by kernel_rfl) (fun _ _ _ h => h) (Or.inl ⟨by rfl, ?_⟩) (by assumption) ?_
      rotate_left
      · (intro w9 _; go_simp; try with_reducible rfl)
      simp only [Act.put, List.getElem_toArray, List.getElem_cons_zero, List.setIfInBounds_toArray, List.set_cons_succ, List.set_cons_zero]
      refine wpAnyH_take (i := 1) (v := ?_) rfl (by kernel_rfl) (by kernel_rfl) (by kernel_rfl) (fun _ _ _ h => h) (Or.inl ⟨by rfl, ?_⟩) (by assumption) ?_
      rotate_left
      · (intro w9 _; go_simp; try with_reducible rfl)
      simp only [Act.put, List.getElem_toArray, List.getElem_cons_succ, List.getElem_cons_zero, List.setIfInBounds_toArray, List.set_cons_succ, List.set_cons_zero]
      refine wpAnyH_take (i := 2) (v := ?_) rfl (by kernel_rfl) (by kernel_rfl) (by kernel_rfl) (fun _ _ _ h => h) (Or.inl ⟨by rfl, ?_⟩) (by assumption) ?_
      rotate_left
      · (intro w9 _; go_simp; try with_reducible rfl)
      simp only [Act.put, List.getElem_toArray, List.getElem_cons_succ, List.getElem_cons_zero, List.setIfInBounds_toArray, List.set_cons_succ, List.set_cons_zero]
      refine wpAnyH_take (i := 3) (v := .agg (encI x).toArray) rfl (by kernel_rfl) (by kernel_rfl) (by kernel_rfl) (fun _ _ _ h => h) (yieldsIf_load_mid (by rfl) _ _ rfl _ _ rfl (encI x) _ (fun _ h => h.1) hu23 rfl hi1) (by assumption) ?_
      simp only [Act.put, List.getElem_toArray, List.getElem_cons_succ, List.getElem_cons_zero, List.setIfInBounds_toArray, List.set_cons_succ, List.set_cons_zero]
      refine wpAnyH_take (i := 4) (v := ?_) rfl (by kernel_rfl) (by kernel_rfl) (by kernel_rfl) (fun _ _ _ h => h) (Or.inl ⟨by rfl, ?_⟩) (by assumption) ?_
      rotate_left
      · (intro w9 _; go_simp; try with_reducible rfl)
      simp only [Act.put, List.getElem_toArray, List.getElem_cons_succ, List.getElem_cons_zero, List.setIfInBounds_toArray, List.set_cons_succ, List.set_cons_zero]
      refine wpAnyH_take (i := 5) (v := ?_) rfl (by kernel_rfl) (by kernel_rfl) (by kernel_rfl) (fun _ _ _ h => h) (Or.inl ⟨by rfl, ?_⟩) (by assumption) ?_
      rotate_left
      · (intro w9 _; go_simp; try with_reducible rfl)
      simp only [Act.put, List.getElem_toArray, List.getElem_cons_succ, List.getElem_cons_zero, List.setIfInBounds_toArray, List.set_cons_succ, List.set_cons_zero]
      refine wpAnyH_take (i := 6) (v := ?_) rfl (by kernel_rfl) (by kernel_rfl) (by kernel_rfl) (fun _ _ _ h => h) (Or.inl ⟨by rfl, ?_⟩) (by assumption) ?_
      rotate_left
      · (intro w9 _; go_simp; try with_reducible rfl)
      simp only [Act.put, List.getElem_toArray, List.getElem_cons_succ, List.getElem_cons_zero, List.setIfInBounds_toArray, List.set_cons_succ, List.set_cons_zero]
      refine wpAnyH_take (i := 7) (v := .agg (encI x).toArray) rfl (by kernel_rfl) (by kernel_rfl) (by kernel_rfl) (fun _ _ _ h => h) (yieldsIf_load_mid (by rfl) _ _ rfl _ _ rfl (encI x) _ (fun _ h => h.2) hu30 rfl hi2) (by assumption) ?_
      simp only [Act.put, List.getElem_toArray, List.getElem_cons_succ, List.getElem_cons_zero, List.setIfInBounds_toArray, List.set_cons_succ, List.set_cons_zero]
      refine wpAnyH_take (i := 8) (v := ?_) rfl (by kernel_rfl) (by kernel_rfl) (by kernel_rfl) (fun _ _ _ h => h) (Or.inl ⟨by rfl, ?_⟩) (by assumption) ?_
      rotate_left
      · (intro w9 _; go_simp; try with_reducible rfl)
      simp only [Act.put, List.getElem_toArray, List.getElem_cons_succ, List.getElem_cons_zero, List.setIfInBounds_toArray, List.set_cons_succ, List.set_cons_zero]
      refine wpAnyH_done (by kernel_rfl) ?_ _
      clear hHeld
      go_wp2_with fail
      go_roundw
      case rel => exact ⟨k + 1, by go_num, hlt, Lib.hid hbl.out.drew⟩
      case measure => simp [intOf]; omega
    · have hltI : ¬ (k : Int) < (n : Int) := by omega
      go_wp2_with fail
      go_ret
      exact ⟨rfl, hbl.out⟩
end Go.Proofs.Yteoknmdoghemmaa
