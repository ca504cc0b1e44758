/- Merge, of the program and of the reference. -/
import Derived.Test.YtcofplbdapjdjaaRChk
namespace Mid
def merge (a b : List Id) : List Id × Nat :=
  if chk a ≠ 0 then ([], chk a) else if chk b ≠ 0 then ([], chk b) else if isTr a b = false ∧ isTr b a = false then ([], 31) else if a.length < b.length then (b, 0) else (a, 0)
theorem merge_a (a b : List Id) (h : chk a ≠ 0) : merge a b = ([], chk a) := by unfold merge; rw [if_pos h]
theorem merge_b (a b : List Id) (h1 : chk a = 0) (h : chk b ≠ 0) : merge a b = ([], chk b) := by unfold merge; rw [if_neg (by omega), if_pos h]
theorem merge_no (a b : List Id) (h1 : chk a = 0) (h2 : chk b = 0) (h3 : isTr a b = false) (h4 : isTr b a = false) : merge a b = ([], 31) := by unfold merge; rw [if_neg (by omega), if_neg (by omega), if_pos ⟨h3, h4⟩]
theorem merge_lt (a b : List Id) (h1 : chk a = 0) (h2 : chk b = 0) (h3 : isTr a b = true ∨ isTr b a = true) (h : a.length < b.length) : merge a b = (b, 0) := by
  unfold merge; rw [if_neg (by omega), if_neg (by omega), if_neg (by rintro ⟨h4, h5⟩; rw [h4, h5] at h3; simp at h3), if_pos h]
theorem merge_ge (a b : List Id) (h1 : chk a = 0) (h2 : chk b = 0) (h3 : isTr a b = true ∨ isTr b a = true) (h : ¬ a.length < b.length) : merge a b = (a, 0) := by
  unfold merge; rw [if_neg (by omega), if_neg (by omega), if_neg (by rintro ⟨h4, h5⟩; rw [h4, h5] at h3; simp at h3), if_neg h]
theorem chk_len {l : List Id} (h : chk l = 0) : l.length ≤ 20 := by
  unfold chk at h
  split at h
  · cases h
  · omega
theorem merge_short (a b l : List Id) (q : Nat) (h : merge a b = (l, q)) : l.length ≤ 20 := by
  unfold merge at h
  split at h
  · cases h; simp
  · rename_i h1
    split at h
    · cases h; simp
    · rename_i h2
      split at h
      · cases h; simp
      · split at h
        · cases h; exact chk_len (by omega)
        · cases h; exact chk_len (by omega)
/-- the order does not matter -/
theorem isTr_same (a b : List Id) (h : isTr a b = true) (hl : a.length = b.length) : a = b := by
  unfold isTr at h
  split at h
  · rename_i h0
    rw [h0, of_decide_eq_true h]
  · have := of_decide_eq_true h
    rwa [cutL_short b _ (by omega)] at this
theorem merge_comm (a b : List Id) : ((merge a b).2 = 0 ↔ (merge b a).2 = 0) ∧ ((merge a b).2 = 0 → (merge b a).1 = (merge a b).1) := by
  by_cases h1 : chk a = 0
  · by_cases h2 : chk b = 0
    · by_cases h3 : isTr a b = true ∨ isTr b a = true
      · rcases Nat.lt_trichotomy a.length b.length with h | h | h
        · rw [merge_lt a b h1 h2 h3 h, merge_ge b a h2 h1 (h3.symm) (by omega)]; simp
        · have e : a = b := h3.elim (fun h3 => isTr_same a b h3 h) (fun h3 => (isTr_same b a h3 h.symm).symm)
          subst e; simp
        · rw [merge_ge a b h1 h2 h3 (by omega), merge_lt b a h2 h1 (h3.symm) h]; simp
      · have h4 : isTr a b = false := by cases h : isTr a b with | true => exact absurd (.inl h) h3 | false => rfl
        have h5 : isTr b a = false := by cases h : isTr b a with | true => exact absurd (.inr h) h3 | false => rfl
        rw [merge_no a b h1 h2 h4 h5, merge_no b a h2 h1 h5 h4]; simp
    · rw [merge_b a b h1 h2, merge_a b a h2]
      simp [h2]
  · by_cases h2 : chk b = 0
    · rw [merge_a a b h1, merge_b b a h2 h1]; simp [h1]
    · rw [merge_a a b h1, merge_a b a h2]; simp [h1, h2]
theorem isTr_cut (l : List Id) (m : Nat) (hm : 1 ≤ m) : isTr (cutL l m) l = true := by
  unfold isTr
  have hl := cutL_len l m hm
  by_cases h : cutL l m = []
  · rw [if_pos h, decide_eq_true_iff]
    rw [h] at hl
    exact List.eq_nil_of_length_eq_zero (by simp at hl; omega)
  · rw [if_neg h, decide_eq_true_iff, hl]
    by_cases h1 : l.length ≤ m
    · rw [cutL_short l m h1, cutL_short l _ (by omega)]
    · rw [Nat.min_eq_left (by omega)]
theorem chkAt_all (l : List Id) : ∀ (r : List Id) (k : Nat), (l.take k ++ r = l) → k + r.length = l.length → (chkAt l k r = 0 ↔ (∀ x ∈ r, x ≠ default) ∧ ∀ i, k ≤ i → i < l.length → l[i]! ∉ l.take i)
  | [], k, _, h2 => by simp at h2; simp [chkAt]; intro i h3 h4; omega
  | x :: r, k, h1, h2 => by
    have hk : k < l.length := by simp at h2; omega
    have hx : l[k]! = x := by
      rw [getElem!_pos l k hk]
      have : l[k]? = some x := by rw [← h1, List.getElem?_append_right (by simp; omega)]; simp; rw [show k - min k l.length = 0 by omega]; rfl
      rw [List.getElem?_eq_getElem hk] at this
      exact Option.some.inj this
    have ih := chkAt_all l r (k + 1) (by rw [List.take_succ_eq_append_getElem hk, ← getElem!_pos l k hk, hx, List.append_assoc]; exact h1) (by simp at h2; omega)
    rw [chkAt]
    by_cases hz : x = default
    · rw [if_pos hz]; simp [hz]
    · rw [if_neg hz]
      by_cases hm : x ∈ l.take k
      · rw [if_pos hm]
        simp only [show ((7 : Nat) = 0) = False by simp, false_iff]
        rintro ⟨_, h⟩
        exact h k (Nat.le_refl _) hk (by rw [hx]; exact hm)
      · rw [if_neg hm, ih]
        constructor
        · rintro ⟨h3, h4⟩
          refine ⟨fun y hy => ?_, fun i hi hl => ?_⟩
          · rcases List.mem_cons.1 hy with rfl | hy
            · exact hz
            · exact h3 y hy
          · by_cases e : i = k
            · subst e; rw [hx]; exact hm
            · exact h4 i (by omega) hl
        · rintro ⟨h3, h4⟩
          exact ⟨fun y hy => h3 y (List.mem_cons_of_mem _ hy), fun i hi hl => h4 i (by omega) hl⟩
theorem chk_zero (l : List Id) : chk l = 0 ↔ l.length ≤ 20 ∧ default ∉ l ∧ l.Nodup := by
  unfold chk
  by_cases h : 20 < l.length
  · rw [if_pos h]; simp; intro h1; omega
  · rw [if_neg h, chkAt_all l l 0 (by simp) (by simp)]
    constructor
    · rintro ⟨h1, h2⟩
      refine ⟨by omega, fun h3 => h1 _ h3 rfl, ?_⟩
      rw [List.nodup_iff_pairwise_ne, List.pairwise_iff_getElem]
      intro i j hi hj hij e
      refine h2 j (Nat.zero_le _) hj ?_
      rw [getElem!_pos l j hj, ← e]
      exact List.mem_take_iff_getElem.2 ⟨i, by omega, rfl⟩
    · rintro ⟨h1, h2, h3⟩
      refine ⟨fun x hx e => h2 (e ▸ hx), fun i _ hi hm => ?_⟩
      rw [List.nodup_iff_pairwise_ne, List.pairwise_iff_getElem] at h3
      obtain ⟨j, hj, e⟩ := List.mem_take_iff_getElem.1 hm
      rw [getElem!_pos l i hi] at e
      exact h3 j i (by omega) hi (by omega) e
theorem cutL_sub (l : List Id) (m : Nat) : (cutL l m).Sublist l := by
  unfold cutL
  split
  · exact List.Sublist.refl _
  · rename_i h
    split
    · rw [getElem!_pos l _ (by omega)]
      exact List.singleton_sublist.2 (List.getElem_mem _)
    · cases l with
      | nil => simp at h
      | cons x r =>
        simp only [List.length_cons] at h ⊢
        rw [show (x :: r)[0]! = x from rfl, show r.length + 1 - m + 1 = (r.length + 1 - m) + 1 by omega, List.drop_succ_cons]
        exact List.Sublist.cons_cons _ (List.drop_sublist _ _)
theorem chk_sub (l r : List Id) (h : r.Sublist l) (hl : chk l = 0) : chk r = 0 := by
  rw [chk_zero] at hl ⊢
  exact ⟨Nat.le_trans h.length_le hl.1, fun h1 => hl.2.1 (h.subset h1), hl.2.2.sublist h⟩
theorem merge_cut (l : List Id) (m : Nat) (hm : 1 ≤ m) (hl : chk l = 0) : merge (cutL l m) l = (l, 0) := by
  have hc := chk_sub l _ (cutL_sub l m) hl
  have ht := isTr_cut l m hm
  have hlen := cutL_len l m hm
  by_cases h : l.length ≤ m
  · rw [cutL_short l m h] at hc ht ⊢
    exact merge_ge l l hc hl (.inl ht) (by omega)
  · exact merge_lt _ l hc hl (.inl ht) (by omega)
end Mid
namespace Go.Proofs.Ytcofplbdapjdjaa
open Go.RowKit

def MergePost (a b : List Mid.Id) (w : World) (e : Ending) (w' : World) : Prop :=
  ∃ v' l q, e = .returned (.tuple #[v', .int .i64 (q : Nat)]) ∧ Mid.merge a b = (l, q) ∧ Ids w' v' l ∧ Below w.heap.size w w'

theorem run_bs_two (w : World) (v u : Value) (x y : Option Addr) (n c m d : Nat) (hv : v = .slice x n c) (hu : u = .slice y m d) : (Instr.buildSlice 85 2 #[(0, v), (1, u)]).run Try.prog w = .ok (.slice (some ⟨w.heap.size, 0, none⟩) 2 2) (w.alloc (.cells #[v, u] 27)) := by
  subst hv hu
  kernel_rfl

set_option maxRecDepth 100000 in
set_option maxHeartbeats 2000000 in
theorem refMerge_any (v u : Value) (a b : List Mid.Id) (w : World) (hv : Ids w v a) (hu : Ids w u b) :
    Calls Try.prog 29 #[v, u] w (MergePost a b w) := by
  have HC := Lib.hid (fun W v l h => refCheck_any v l W h)
  have HI := Lib.hid (fun W v u l m h1 h2 h3 h4 => refIsTrimmed_any v u l m W h1 h2 h3 h4)
  have V := Lib.hid hv; have U := Lib.hid hu
  obtain ⟨p, cap, rfl, hlc, hcm, _, _⟩ := hv
  obtain ⟨p2, cap2, rfl, hlc2, hcm2, _, _⟩ := hu
  generalize hna : a.length = na at *
  generalize hnb : b.length = nb at *
  have HNA := Lib.hid hna; have HNB := Lib.hid hnb
  clear hlc hcm hlc2 hcm2 hna hnb
  go_enter Try.func29, Try.ntmps29
  have B_0 := Lib.hid (Below.refl w.heap.size w)
  go_wp2_with fail
  refine (HC.out _ _ _ V.out).mono ?_
  rintro e w1 ⟨rfl, hb1⟩
  have B_1 := Lib.hid (B_0.out.trans (hb1.mono B_0.out.size))
  have V_1 := Lib.hid (V.out.below hb1)
  have U_1 := Lib.hid (U.out.below hb1)
  clear hb1 
  generalize hqa : Mid.chk a = qa at *
  by_cases h1 : qa = 0
  rotate_left
  · have hI : ¬ (qa : Int) = 0 := by omega
    have HR := Lib.hid (show Mid.merge a b = ([], qa) by rw [Mid.merge_a a b (by rw [hqa]; exact h1), hqa])
    clear h1 hqa
    go_wp2_with fail
    go_ret2
    exact ⟨_, [], qa, rfl, HR.out, Ids.nil _, B_1.out⟩
  subst h1
  have HQA := Lib.hid hqa
  clear hqa
  go_wp2_with fail
  refine (HC.out _ _ _ U_1.out).mono ?_
  rintro e w2 ⟨rfl, hb2⟩
  have B_2 := Lib.hid (B_1.out.trans (hb2.mono B_1.out.size))
  have V_2 := Lib.hid (V_1.out.below hb2)
  have U_2 := Lib.hid (U_1.out.below hb2)
  clear hb2 
  generalize hqb : Mid.chk b = qb at *
  by_cases h2 : qb = 0
  rotate_left
  · have hI : ¬ (qb : Int) = 0 := by omega
    have HR := Lib.hid (show Mid.merge a b = ([], qb) by rw [Mid.merge_b a b HQA.out (by rw [hqb]; exact h2), hqb])
    clear h2 hqb
    go_wp2_with fail
    go_ret2
    exact ⟨_, [], qb, rfl, HR.out, Ids.nil _, B_2.out⟩
  subst h2
  have HQB := Lib.hid hqb
  clear hqb
  have HLA := Lib.hid (Mid.chk_len HQA.out); have HLB := Lib.hid (Mid.chk_len HQB.out)
  go_wp2_with fail
  refine (HI.out _ _ _ _ _ (by have := HLA.out; omega) (by have := HLB.out; omega) V_2.out U_2.out).mono ?_
  rintro e w3 ⟨rfl, hb3⟩
  have B_3 := Lib.hid (B_2.out.trans (hb3.mono B_2.out.size))
  have V_3 := Lib.hid (V_2.out.below hb3)
  have U_3 := Lib.hid (U_2.out.below hb3)
  clear hb3 
  generalize hta : Mid.isTr a b = ta at *
  have HTA := Lib.hid hta
  clear hta
  cases ta with
  | true =>
    by_cases hl : na < nb
    · have HR := Lib.hid (Mid.merge_lt a b HQA.out HQB.out (.inl HTA.out) (by rw [HNA.out, HNB.out]; exact hl))
      have hlI : (na : Int) < (nb : Int) := by omega
      clear hl
      go_wp2_with (refine wpList_appR rfl _ _ rfl w3.heap.size _ [] (by rfl) (own_zero w3 _ (Nat.le_refl _)) _ b (by rfl) (U_3.out.below ((Below.refl _ w3).alloc (Nat.le_refl _) _)) (by have := HLA.out; have := HLB.out; simp; omega) (by simp) ?_; intro v9 w9 O9 G9)
      go_ret2
      exact ⟨_, _, 0, rfl, HR.out, O9.out.ids, (B_3.out.alloc B_3.out.size _).grown G9.out (by simp; have := B_3.out.size; omega) (fun j hj => by cases hj; exact B_3.out.size)⟩
    · have HR := Lib.hid (Mid.merge_ge a b HQA.out HQB.out (.inl HTA.out) (by rw [HNA.out, HNB.out]; exact hl))
      have hlI : ¬ (na : Int) < (nb : Int) := by omega
      clear hl
      go_wp2_with (refine wpList_appR rfl _ _ rfl w3.heap.size _ [] (by rfl) (own_zero w3 _ (Nat.le_refl _)) _ a (by rfl) (V_3.out.below ((Below.refl _ w3).alloc (Nat.le_refl _) _)) (by have := HLA.out; have := HLB.out; simp; omega) (by simp) ?_; intro v9 w9 O9 G9)
      go_ret2
      exact ⟨_, _, 0, rfl, HR.out, O9.out.ids, (B_3.out.alloc B_3.out.size _).grown G9.out (by simp; have := B_3.out.size; omega) (fun j hj => by cases hj; exact B_3.out.size)⟩
  | false =>
    go_wp2_with fail
    refine (HI.out _ _ _ _ _ (by have := HLB.out; omega) (by have := HLA.out; omega) U_3.out V_3.out).mono ?_
    rintro e w4 ⟨rfl, hb4⟩
    have B_4 := Lib.hid (B_3.out.trans (hb4.mono B_3.out.size))
    have V_4 := Lib.hid (V_3.out.below hb4)
    have U_4 := Lib.hid (U_3.out.below hb4)
    clear hb4 
    generalize htb : Mid.isTr b a = tb at *
    have HTB := Lib.hid htb
    clear htb
    cases tb with
    | true =>
      by_cases hl : na < nb
      · have HR := Lib.hid (Mid.merge_lt a b HQA.out HQB.out (.inr HTB.out) (by rw [HNA.out, HNB.out]; exact hl))
        have hlI : (na : Int) < (nb : Int) := by omega
        clear hl
        go_wp2_with (refine wpList_appR rfl _ _ rfl w4.heap.size _ [] (by rfl) (own_zero w4 _ (Nat.le_refl _)) _ b (by rfl) (U_4.out.below ((Below.refl _ w4).alloc (Nat.le_refl _) _)) (by have := HLA.out; have := HLB.out; simp; omega) (by simp) ?_; intro v9 w9 O9 G9)
        go_ret2
        exact ⟨_, _, 0, rfl, HR.out, O9.out.ids, (B_4.out.alloc B_4.out.size _).grown G9.out (by simp; have := B_4.out.size; omega) (fun j hj => by cases hj; exact B_4.out.size)⟩
      · have HR := Lib.hid (Mid.merge_ge a b HQA.out HQB.out (.inr HTB.out) (by rw [HNA.out, HNB.out]; exact hl))
        have hlI : ¬ (na : Int) < (nb : Int) := by omega
        clear hl
        go_wp2_with (refine wpList_appR rfl _ _ rfl w4.heap.size _ [] (by rfl) (own_zero w4 _ (Nat.le_refl _)) _ a (by rfl) (V_4.out.below ((Below.refl _ w4).alloc (Nat.le_refl _) _)) (by have := HLA.out; have := HLB.out; simp; omega) (by simp) ?_; intro v9 w9 O9 G9)
        go_ret2
        exact ⟨_, _, 0, rfl, HR.out, O9.out.ids, (B_4.out.alloc B_4.out.size _).grown G9.out (by simp; have := B_4.out.size; omega) (fun j hj => by cases hj; exact B_4.out.size)⟩
    | false =>
      have HR := Lib.hid (Mid.merge_no a b HQA.out HQB.out HTA.out HTB.out)
      go_wp2_with fail
      go_ret2
      exact ⟨_, [], 31, rfl, HR.out, Ids.nil _, B_4.out⟩

set_option maxRecDepth 100000 in
set_option maxHeartbeats 2000000 in
theorem merge_any (v u : Value) (a b : List Mid.Id) (w : World) (hv : Ids w v a) (hu : Ids w u b) :
    Calls Try.prog 28 #[v, u] w (MergePost a b w) := by
  have HC := Lib.hid (fun W v l h => check_any v l W h)
  have HI := Lib.hid (fun W v u l m h1 h2 h3 h4 => isTrimmed_any v u l m W h1 h2 h3 h4)
  have V := Lib.hid hv; have U := Lib.hid hu
  have HCL := Lib.hid (fun W v l h1 h2 => clone_any v l W h1 h2)
  obtain ⟨p, cap, hve, hlc, hcm, _, _⟩ := hv
  obtain ⟨p2, cap2, hue, hlc2, hcm2, _, _⟩ := hu
  have HBS := Lib.hid (fun w => run_bs_two w v u _ _ _ _ _ _ hve hue)
  subst hve hue
  generalize hna : a.length = na at *
  generalize hnb : b.length = nb at *
  have HNA := Lib.hid hna; have HNB := Lib.hid hnb
  clear hlc hcm hlc2 hcm2 hna hnb
  have HB0 := Lib.hid ((Below.refl w.heap.size w).alloc (Nat.le_refl _) (.cells #[.slice p na cap, .slice p2 nb cap2] 27))
  have HK0 := Lib.hid (Blk.fresh w 27 #[.slice p na cap, .slice p2 nb cap2])
  go_enter Try.func28, Try.ntmps28
  go_wp2_with fail
  go_loopw [13] (fun i wr => ∃ k : Nat, i = .int .i64 k ∧ k ≤ 2 ∧ Hid (1 ≤ k → Mid.chk a = 0) ∧ Hid (2 ≤ k → Mid.chk b = 0) ∧ Hid (Blk wr w.heap.size 27 #[.slice p na cap, .slice p2 nb cap2]) ∧ Hid (Below w.heap.size w wr)) (fun i _ => 2 - (intOf i).toNat)
  case atStart => exact ⟨0, rfl, Nat.zero_le _, Lib.hid (fun h => absurd h (by omega)), Lib.hid (fun h => absurd h (by omega)), HK0, HB0⟩
  case round =>
    clear HK0 HB0 HBS
    obtain ⟨k, rfl, hk, hqa, hqb, hk0, hbl⟩ := hrel
    have V := Lib.hid (V.out.below hbl.out); have U := Lib.hid (U.out.below hbl.out)
    rcases (show k = 0 ∨ k = 1 ∨ k = 2 by omega) with rfl | rfl | rfl
    · have hc : wr.cell? ⟨w.heap.size, 0, none⟩ = some (.slice p na cap) := hk0.out.cell 0
      go_wp2_with fail
      refine (HC.out _ _ _ V.out).mono ?_
      rintro e w1 ⟨rfl, hb1⟩
      have B1 := Lib.hid (hbl.out.trans (hb1.mono hbl.out.size)); have K1 := Lib.hid (hk0.out.keep hb1 hk0.out.lt)
      clear hb1 hc
      generalize hq : Mid.chk a = q at *
      by_cases h1 : q = 0
      · subst h1
        have HQ := Lib.hid hq
        clear hq
        go_wp2_with fail
        go_roundw
        case rel => exact ⟨1, rfl, by omega, Lib.hid (fun _ => HQ.out), Lib.hid (fun h => absurd h (by omega)), K1, B1⟩
        case measure => simp [intOf]
      · have hI : ¬ (q : Int) = 0 := by omega
        have HR := Lib.hid (show Mid.merge a b = ([], q) by rw [Mid.merge_a a b (by rw [hq]; exact h1), hq])
        clear h1 hq
        go_wp2_with fail
        go_ret2
        exact ⟨_, [], q, rfl, HR.out, Ids.nil _, B1.out⟩
    · have hc : wr.cell? ⟨w.heap.size, 1, none⟩ = some (.slice p2 nb cap2) := hk0.out.cell 1
      go_wp2_with fail
      refine (HC.out _ _ _ U.out).mono ?_
      rintro e w1 ⟨rfl, hb1⟩
      have B1 := Lib.hid (hbl.out.trans (hb1.mono hbl.out.size)); have K1 := Lib.hid (hk0.out.keep hb1 hk0.out.lt)
      clear hb1 hc
      generalize hq : Mid.chk b = q at *
      by_cases h1 : q = 0
      · subst h1
        have HQ := Lib.hid hq
        clear hq
        go_wp2_with fail
        go_roundw
        case rel => exact ⟨2, rfl, by omega, Lib.hid (fun _ => hqa.out (by omega)), Lib.hid (fun _ => HQ.out), K1, B1⟩
        case measure => simp [intOf]
      · have hI : ¬ (q : Int) = 0 := by omega
        have HR := Lib.hid (show Mid.merge a b = ([], q) by rw [Mid.merge_b a b (hqa.out (by omega)) (by rw [hq]; exact h1), hq])
        clear h1 hq
        go_wp2_with fail
        go_ret2
        exact ⟨_, [], q, rfl, HR.out, Ids.nil _, B1.out⟩
    · have HQA := Lib.hid (hqa.out (by omega)); have HQB := Lib.hid (hqb.out (by omega))
      have HLA := Lib.hid (Mid.chk_len HQA.out); have HLB := Lib.hid (Mid.chk_len HQB.out)
      clear hqa hqb hk0
      go_wp2_with fail
      refine (HI.out _ _ _ _ _ (by have := HLA.out; omega) (by have := HLB.out; omega) V.out U.out).mono ?_
      rintro e w11 ⟨rfl, hb11⟩
      have B_11 := Lib.hid (hbl.out.trans (hb11.mono hbl.out.size))
      have V_11 := Lib.hid (V.out.below hb11)
      have U_11 := Lib.hid (U.out.below hb11)
      clear hb11 
      generalize hta : Mid.isTr a b = ta at *
      have HTA := Lib.hid hta
      clear hta
      cases ta with
      | true =>
        by_cases hl : na < nb
        · have HR := Lib.hid (Mid.merge_lt a b HQA.out HQB.out (.inl HTA.out) (by rw [HNA.out, HNB.out]; exact hl))
          have hlI : (na : Int) < (nb : Int) := by omega
          clear hl
          go_wp2_with fail
          refine (HCL.out _ _ b (by have := HLA.out; have := HLB.out; omega) U_11.out).mono ?_
          rintro e w9 ⟨v9, rfl, ho9, hb9⟩
          have HI9 := Lib.hid ho9.ids; have HB9 := Lib.hid (B_11.out.trans (hb9.mono B_11.out.size))
          clear ho9 hb9
          go_wp2_with fail
          go_ret2
          exact ⟨_, _, 0, rfl, HR.out, HI9.out, HB9.out⟩
        · have HR := Lib.hid (Mid.merge_ge a b HQA.out HQB.out (.inl HTA.out) (by rw [HNA.out, HNB.out]; exact hl))
          have hlI : ¬ (na : Int) < (nb : Int) := by omega
          clear hl
          go_wp2_with fail
          refine (HCL.out _ _ a (by have := HLA.out; have := HLB.out; omega) V_11.out).mono ?_
          rintro e w9 ⟨v9, rfl, ho9, hb9⟩
          have HI9 := Lib.hid ho9.ids; have HB9 := Lib.hid (B_11.out.trans (hb9.mono B_11.out.size))
          clear ho9 hb9
          go_wp2_with fail
          go_ret2
          exact ⟨_, _, 0, rfl, HR.out, HI9.out, HB9.out⟩
      | false =>
        go_wp2_with fail
        refine (HI.out _ _ _ _ _ (by have := HLB.out; omega) (by have := HLA.out; omega) U_11.out V_11.out).mono ?_
        rintro e w12 ⟨rfl, hb12⟩
        have B_12 := Lib.hid (B_11.out.trans (hb12.mono B_11.out.size))
        have V_12 := Lib.hid (V_11.out.below hb12)
        have U_12 := Lib.hid (U_11.out.below hb12)
        clear hb12 
        generalize htb : Mid.isTr b a = tb at *
        have HTB := Lib.hid htb
        clear htb
        cases tb with
        | true =>
          by_cases hl : na < nb
          · have HR := Lib.hid (Mid.merge_lt a b HQA.out HQB.out (.inr HTB.out) (by rw [HNA.out, HNB.out]; exact hl))
            have hlI : (na : Int) < (nb : Int) := by omega
            clear hl
            go_wp2_with fail
            refine (HCL.out _ _ b (by have := HLA.out; have := HLB.out; omega) U_12.out).mono ?_
            rintro e w9 ⟨v9, rfl, ho9, hb9⟩
            have HI9 := Lib.hid ho9.ids; have HB9 := Lib.hid (B_12.out.trans (hb9.mono B_12.out.size))
            clear ho9 hb9
            go_wp2_with fail
            go_ret2
            exact ⟨_, _, 0, rfl, HR.out, HI9.out, HB9.out⟩
          · have HR := Lib.hid (Mid.merge_ge a b HQA.out HQB.out (.inr HTB.out) (by rw [HNA.out, HNB.out]; exact hl))
            have hlI : ¬ (na : Int) < (nb : Int) := by omega
            clear hl
            go_wp2_with fail
            refine (HCL.out _ _ a (by have := HLA.out; have := HLB.out; omega) V_12.out).mono ?_
            rintro e w9 ⟨v9, rfl, ho9, hb9⟩
            have HI9 := Lib.hid ho9.ids; have HB9 := Lib.hid (B_12.out.trans (hb9.mono B_12.out.size))
            clear ho9 hb9
            go_wp2_with fail
            go_ret2
            exact ⟨_, _, 0, rfl, HR.out, HI9.out, HB9.out⟩
        | false =>
          have HR := Lib.hid (Mid.merge_no a b HQA.out HQB.out HTA.out HTB.out)
          go_wp2_with fail
          go_ret2
          exact ⟨_, [], 31, rfl, HR.out, Ids.nil _, B_12.out⟩
end Go.Proofs.Ytcofplbdapjdjaa
