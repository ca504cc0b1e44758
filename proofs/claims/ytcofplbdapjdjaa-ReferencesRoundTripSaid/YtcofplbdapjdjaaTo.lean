/- The law's conversion of lists. -/
import Derived.Test.YtcofplbdapjdjaaFlat
namespace Go.Proofs.Ytcofplbdapjdjaa
open Go.RowKit

theorem fold_set : ∀ (l : List Value) (k : Nat) (a : Array Value) (i : Nat), k + l.length ≤ a.size →
    ((l.zipIdx k).foldl (fun (cs : Array Value) x => cs.setIfInBounds x.snd x.fst) a)[i]? = if k ≤ i ∧ i < k + l.length then l[i - k]? else a[i]?
  | [], k, a, i, _ => by simp; intro h1 h2; omega
  | v :: l, k, a, i, h => by
    rw [List.zipIdx_cons, List.foldl_cons, fold_set l (k + 1) _ i (by simp at h ⊢; omega)]
    by_cases h1 : k + 1 ≤ i ∧ i < k + 1 + l.length
    · rw [if_pos h1, if_pos (by simp; omega), show i - k = (i - (k + 1)) + 1 by omega, List.getElem?_cons_succ]
    · rw [if_neg h1, Array.getElem?_setIfInBounds]
      by_cases h2 : k = i
      · subst h2
        simp at h
        rw [if_pos rfl, if_pos (by simp; omega), if_pos (by simp)]
        simp
      · rw [if_neg h2, if_neg (by simp; omega)]
theorem fold_enc (y : Mid.Id) : List.foldl (fun (cs : Array Value) x => cs.setIfInBounds x.snd x.fst) #[.int .u8 0, .int .u8 0, .int .u8 0, .int .u8 0, .int .u8 0, .int .u8 0, .int .u8 0, .int .u8 0, .int .u8 0, .int .u8 0, .int .u8 0, .int .u8 0, .int .u8 0, .int .u8 0, .int .u8 0, .int .u8 0, .int .u8 0, .int .u8 0, .int .u8 0, .int .u8 0, .int .u8 0, .int .u8 0, .int .u8 0, .int .u8 0, .int .u8 0, .int .u8 0, .int .u8 0, .int .u8 0, .int .u8 0, .int .u8 0, .int .u8 0, .int .u8 0] (encI y).zipIdx = (encI y).toArray := by
  have hl := encI_len y
  apply Array.ext_getElem?
  intro i
  have h := fold_set (encI y) 0 #[.int .u8 0, .int .u8 0, .int .u8 0, .int .u8 0, .int .u8 0, .int .u8 0, .int .u8 0, .int .u8 0, .int .u8 0, .int .u8 0, .int .u8 0, .int .u8 0, .int .u8 0, .int .u8 0, .int .u8 0, .int .u8 0, .int .u8 0, .int .u8 0, .int .u8 0, .int .u8 0, .int .u8 0, .int .u8 0, .int .u8 0, .int .u8 0, .int .u8 0, .int .u8 0, .int .u8 0, .int .u8 0, .int .u8 0, .int .u8 0, .int .u8 0, .int .u8 0] i (by rw [hl]; decide)
  rw [h]
  by_cases hi : i < 32
  · rw [if_pos (by omega), Nat.sub_zero]; simp
  · rw [if_neg (by omega), Array.getElem?_eq_none (by show 32 ≤ i; omega), Array.getElem?_eq_none (by simp [hl]; omega)]

/-- append of one identity to a row of the call's own -/
theorem wpList_append_id {T S : TypeId} {i0 : TypeInfo} (hS : Try.prog.underlying S = some (.slice T)) (hi : Try.prog.info? T = some i0) (hz0 : i0.zero = some (.agg (bsC zD))) (hz1 : i0.size = 32) (hz2 : i0.bytes = 32)
    {ops : Array Oper} {rest : List Oper} {o : Oper} {a : Act} {w : World} {Q : Exit → Act → World → Prop} (hgd : o.guard = none) (s x : Operand)
    (ho : o.op = .call { callee := .builtin .append, args := #[s, x], argTypes := #[S, S] })
    (base : Nat) (v : Value) (ls : List Mid.Id) (hs : a.eval s = v) (hown : OwnI T base w v ls) (g f c : Nat) (y : Mid.Id) (hx : a.eval x = .slice (some ⟨g, f, none⟩) 1 c) (hc : w.rangeAt g f (encI y))
    (hn : ls.length * 32 + 32 ≤ 140737488355328) (hbase : base ≤ w.heap.size)
    (h : ∀ v' w', Hid (OwnI T base w' v' (ls ++ [y])) → Hid (w.grownBy w' v.ownBlock) → wpList Try.prog ops Q rest (a.put o.dst v') w') : wpList Try.prog ops Q (o :: rest) a w := by
  refine wpList_append_own _ hgd s x S ho base T i0 (.agg (bsC zD)) 32 32 hS hi hz0 hz1 hz2 rfl (by decide) v ls.length (flatI ls) hs hown ⟨g, f, none⟩ 1 c (encI y) hx (by rw [encI_len]) (fun j u hj => by rw [addr_add]; exact hc j u hj) (encI_one y) (by unfold maxLen; omega) (by omega) hbase (fun v' w' h1 h2 _ => h v' w' (Lib.hid ?_) (Lib.hid h2))
  unfold OwnI
  rw [flatI_snoc, List.length_append]
  exact h1

theorem OwnI.lt {T : TypeId} {base : Nat} {w : World} {v : Value} {ls : List Mid.Id} (h : OwnI T base w v ls) : ∀ j, v.ownBlock = some j → base ≤ j ∧ j < w.heap.size := by
  rintro j hj
  rcases h.2 with ⟨rfl, _⟩ | ⟨g, cap, cur, rfl, hg, hh, _⟩
  · cases hj
  · cases hj; exact ⟨hg, (Array.getElem?_eq_some_iff.1 hh).1⟩

set_option maxRecDepth 100000 in
set_option maxHeartbeats 1000000 in
theorem own_any (v : Value) (ls : List Mid.Id) (w : World) (hn : ls.length * 32 ≤ 140737488355328) (hv : Ids w v ls) :
    Calls Try.prog 14 #[v] w fun e w' => ∃ v', e = .returned v' ∧ Ids w' v' ls ∧ Below w.heap.size w w' := by
  obtain ⟨ad, cap, rfl, hlc, hcm, _, hcells⟩ := hv
  obtain ⟨n, hnn⟩ : ∃ n, n = ls.length := ⟨_, rfl⟩
  rw [← hnn]
  have hnI : (n : Int) * 32 ≤ 140737488355328 := by omega
  have HN := Lib.hid hnn; have HCL := Lib.hid hcells
  clear hnn hcells hlc hcm hn
  go_enter Try.func14, Try.ntmps14
  go_wp2_with fail
  go_loopw [3, 4] (fun o i wr => ∃ (k : Nat) (v : Value), v = o ∧ i = .int .i64 k ∧ k ≤ n ∧ Hid (OwnI 46 w.heap.size wr v (ls.take k)) ∧ Hid (Below w.heap.size w wr)) (fun _ i _ => n - (intOf i).toNat)
  case atStart => exact ⟨0, _, rfl, rfl, Nat.zero_le _, Lib.hid (World.ownsRow_nil _ _ _ _), Lib.hid (Below.refl _ _)⟩
  case round =>
    obtain ⟨k, v, rfl, rfl, hk, ho, hbl⟩ := hrel
    by_cases hlt : k < n
    · have hkl : k < ls.length := by rw [← HN.out]; exact hlt
      rcases HCL.out with h0 | ⟨b, off, rfl, hc⟩
      · rw [h0] at hkl; exact absurd hkl (by simp)
      · have hblt : b < w.heap.size := hc.lt (by intro h; rw [h] at hkl; exact absurd hkl (by simp))
        have hrg := (hc.keep hbl.out hblt).range k hkl
        have hts : ls.take (k + 1) = ls.take k ++ [ls[k]!] := by rw [List.take_succ_eq_append_getElem hkl, getE ls k hkl]
        generalize ls[k]! = y at *
        have HTS := Lib.hid hts; have HRG := Lib.hid hrg
        have hltI : (k : Int) < (n : Int) := by omega
        have hk40 : (k : Int) * 32 + 32 ≤ 140737488355328 := by omega
        have hiY := info_enc infoId y
        have hle := encI_len y
        clear hts hkl hc hrg
        obtain ⟨i0, hi0, hz0, hz1, hz2⟩ := info_partsM infoI
        have HI0 := Lib.hid (And.intro hi0 (And.intro hz0 (And.intro hz1 hz2)))
        have HC := Lib.hid (show ∀ C, C = (encI y).toArray → (wr.alloc (.cells C 46)).rangeAt wr.heap.size 0 (encI y) from fun C hC => by rw [hC]; exact encBlk (Blk.fresh wr _ _))
        have hsz := hbl.out.size
        have hlen : (ls.take k).length * 32 + 32 ≤ 140737488355328 := by rw [List.length_take]; omega
        have HLN := Lib.hid hlen
        have HSZ := Lib.hid (show ∀ o, w.heap.size ≤ (wr.alloc o).heap.size from fun o => by simp; omega)
        clear hi0 hz0 hz1 hz2 hlen
        go_wp2_with (first
          | (refine wpList_load_mid rfl _ _ rfl b (off + k * 32) (by rfl) (encI y) _ HRG.out Try.underlying48 rfl hiY ?_)
          | (refine wpList_append_id Try.underlying27 HI0.out.1 HI0.out.2.1 HI0.out.2.2.1 HI0.out.2.2.2 rfl _ _ rfl w.heap.size v (ls.take k) (by rfl) (ho.out.alloc _) wr.heap.size 0 1 y (by rfl) (HC.out _ (fold_enc y)) HLN.out (HSZ.out _) ?_; intro v2 w2 ho2 hg2))
        go_roundw
        case rel => exact ⟨k + 1, _, rfl, by go_num, hlt, by rw [HTS.out]; exact ho2, Lib.hid ((hbl.out.alloc hsz _).grown hg2.out (HSZ.out _) (fun j hj => (ho.out.lt j hj).1))⟩
        case measure => simp [intOf]; omega
    · have hfull : ls.take k = ls := List.take_of_length_le (by rw [← HN.out]; omega)
      have hids := ho.out.ids
      rw [hfull] at hids
      have HID := Lib.hid hids
      clear hfull hids
      go_wp2_with fail
      go_ret
      exact ⟨_, rfl, HID.out, hbl.out⟩
end Go.Proofs.Ytcofplbdapjdjaa
