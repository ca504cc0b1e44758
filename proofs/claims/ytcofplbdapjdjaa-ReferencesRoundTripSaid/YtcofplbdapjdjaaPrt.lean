/- Print, of the program and of the reference. -/
import Derived.Test.YtcofplbdapjdjaaRText
import Derived.Test.YtcofplbdapjdjaaMerge
import Derived.Deep.Strs
namespace Mid
/-- the text of a list -/
def textB (x : Id) : ByteArray := ⟨(printL x.1).toArray⟩
def joinS : List Id → List UInt8
  | [] => []
  | [x] => printL x.1
  | x :: y :: r => printL x.1 ++ 32 :: joinS (y :: r)
theorem joinS_snoc : ∀ (l : List Id) (x : Id), joinS (l ++ [x]) = if l = [] then printL x.1 else joinS l ++ 32 :: printL x.1
  | [], x => rfl
  | [a], x => rfl
  | a :: b :: r, x => by
    rw [if_neg (by simp)]
    show printL a.1 ++ 32 :: joinS (b :: (r ++ [x])) = _
    have ih := joinS_snoc (b :: r) x
    rw [if_neg (by simp)] at ih
    rw [List.cons_append] at ih
    rw [ih]
    simp [joinS]
def printE (l : List Id) : List UInt8 × Nat := if chk l ≠ 0 then ([], chk l) else (joinS l, 0)
theorem printL_71 (x : Id) : (printL x.1).length = 71 := printL_len x.1 x.2.1
theorem joinS_len : ∀ l : List Id, (joinS l).length ≤ 72 * l.length
  | [] => by simp [joinS]
  | [x] => by simp [joinS, printL_71]
  | x :: y :: r => by
    have ih := joinS_len (y :: r)
    simp only [joinS, List.length_append, List.length_cons, printL_71] at ih ⊢
    omega
theorem join_lib (l : List Id) : Go.Lib.join (l.map fun x => (textB x).data.toList) [32] = joinS l := by
  induction l with
  | nil => rfl
  | cons x l ih =>
    cases l with
    | nil => simp [Go.Lib.join_one, joinS, textB]
    | cons y r =>
      have e : ∀ (a b : List UInt8) (s : List (List UInt8)), Go.Lib.join (a :: b :: s) [32] = a ++ 32 :: Go.Lib.join (b :: s) [32] := fun a b s => by simp [Go.Lib.join, List.intercalate, List.intersperse]
      rw [List.map_cons, List.map_cons, e, ← List.map_cons (f := fun x => (textB x).data.toList), ih]
      simp [joinS, textB]
end Mid
namespace Go.Proofs.Ytcofplbdapjdjaa
open Go.RowKit

theorem print_id (x : Mid.Id) (w : World) : Calls Try.prog 32 #[.agg (encI x).toArray] w fun e w' => e = .returned (.string (Mid.textB x)) ∧ Below w.heap.size w w' := by
  rw [encI_arr]; exact print_any x.1 x.2.1 x.2.2 w _ rfl
theorem text_id (x : Mid.Id) (w : World) : Calls Try.prog 35 #[.agg (encI x).toArray] w fun e w' => e = .returned (.string (Mid.textB x)) ∧ Below w.heap.size w w' := by
  rw [encI_arr]; exact refText_any x.1 x.2.1 x.2.2 w _ rfl

theorem infoS : (Try.prog.info? 9).map (fun i => (i.zero, i.size, i.bytes)) = some (some (.string ByteArray.empty), 1, 16) := by kernel_rfl
/-- texts of one's own -/
def OwnT (base : Nat) (w : World) (v : Value) (ts : List ByteArray) : Prop := w.ownsRow base 9 1 v ts.length (ts.map Value.string)
theorem OwnT.alloc {base : Nat} {w : World} {v : Value} {ts : List ByteArray} (h : OwnT base w v ts) (o : Obj) : OwnT base (w.alloc o) v ts := World.ownsRow.alloc h o
theorem OwnT.lt {base : Nat} {w : World} {v : Value} {ts : List ByteArray} (h : OwnT base w v ts) : ∀ j, v.ownBlock = some j → base ≤ j ∧ j < w.heap.size := by
  rintro j hj
  rcases h.2 with ⟨rfl, _⟩ | ⟨g, cap, cur, rfl, hg, hh, _⟩
  · cases hj
  · cases hj; exact ⟨hg, (Array.getElem?_eq_some_iff.1 hh).1⟩
theorem wpList_append_str {ops : Array Oper} {rest : List Oper} {o : Oper} {a : Act} {w : World} {Q : Exit → Act → World → Prop} (hgd : o.guard = none) (s x : Operand)
    (ho : o.op = .call { callee := .builtin .append, args := #[s, x], argTypes := #[65, 65] })
    (base : Nat) (v : Value) (ts : List ByteArray) (hs : a.eval s = v) (hown : OwnT base w v ts) (g c : Nat) (t : ByteArray) (hx : a.eval x = .slice (some ⟨g, 0, none⟩) 1 c) (hc : w.cell? ⟨g, 0, none⟩ = some (.string t))
    (hn : ts.length ≤ 1000000) (hbase : base ≤ w.heap.size)
    (h : ∀ v' w', Hid (OwnT base w' v' (ts ++ [t])) → Hid (w.grownBy w' v.ownBlock) → wpList Try.prog ops Q rest (a.put o.dst v') w') : wpList Try.prog ops Q (o :: rest) a w := by
  obtain ⟨i0, hi, hz0, hz1, hz2⟩ := info_partsM infoS
  refine wpList_append_own _ hgd s x 65 ho base 9 i0 (.string ByteArray.empty) 1 16 Try.underlying65 hi hz0 hz1 hz2 rfl (by decide) v ts.length (ts.map Value.string) hs hown ⟨g, 0, none⟩ 1 c [.string t] hx rfl (fun j u hj => ?_) (by simp [Value.oneCell']) (by unfold maxLen; omega) (by omega) hbase (fun v' w' h1 h2 _ => h v' w' (Lib.hid ?_) (Lib.hid h2))
  · have hj0 : j = 0 := by
      have := (List.getElem?_eq_some_iff.1 hj).1
      simpa using this
    subst hj0
    simp at hj
    rw [addr_add, ← hj]; exact hc
  · unfold OwnT
    rw [List.map_append, List.length_append]
    exact h1

set_option maxRecDepth 100000 in
set_option maxHeartbeats 2000000 in
theorem refPrint_any (v : Value) (ls : List Mid.Id) (w : World) (hv : Ids w v ls) (q : Nat) (t : ByteArray) (hq : Mid.printE ls = (t.data.toList, q)) :
    Calls Try.prog 15 #[v] w fun e w' => e = .returned (.tuple #[.string t, .int .i64 q]) ∧ Below w.heap.size w w' := by
  have HC := Lib.hid (fun W h => refCheck_any v ls W h)
  have HT := Lib.hid (fun x W => text_id x W)
  have HV := Lib.hid hv
  obtain ⟨ad, cap, rfl, hlc, hcm, _, hcells⟩ := hv
  obtain ⟨n, hnn⟩ : ∃ n, n = ls.length := ⟨_, rfl⟩
  rw [← hnn] at HC HV ⊢
  have HN := Lib.hid hnn; have HCL := Lib.hid hcells
  have hu30 : Try.prog.underlying 48 = some (.array 32 5) := Try.underlying48
  unfold Mid.printE at hq
  have HQ := Lib.hid hq
  clear hcells hlc hcm hq hnn
  go_enter Try.func15, Try.ntmps15
  go_wp2_with fail
  refine (HC.out _ HV.out).mono ?_
  rintro e w1 ⟨rfl, hb1⟩
  have B1 := Lib.hid hb1
  clear hb1
  have hq := HQ.out
  have hnn := HN.out
  clear HQ
  generalize hc : Mid.chk ls = c at *
  by_cases h0 : c = 0
  rotate_left
  · rw [if_pos h0] at hq
    obtain ⟨h1, rfl⟩ := Prod.mk.inj hq
    have ht : t = ⟨#[]⟩ := by apply ByteArray.ext; apply Array.toList_inj.1; exact h1.symm
    subst ht
    have hI : ¬ (c : Int) = 0 := by omega
    clear hq h1 hc hnn
    go_wp2_with fail
    go_ret2
    exact ⟨rfl, B1.out⟩
  subst h0
  rw [if_neg (by omega)] at hq
  obtain ⟨h1, rfl⟩ := Prod.mk.inj hq
  have hn20 : n ≤ 20 := by rw [hnn]; exact Mid.chk_len hc
  have hnI : (n : Int) ≤ 20 := by omega
  have HT1 := Lib.hid h1
  clear hq h1 hc hnn
  go_wp2_with fail
  go_loopw [5, 6] (fun o i wr => ∃ (k : Nat) (s : ByteArray), o = .string s ∧ i = .int .i64 k ∧ k ≤ n ∧ Hid (s.data.toList = Mid.joinS (ls.take k)) ∧ Hid (Below w.heap.size w wr)) (fun _ i _ => n - (intOf i).toNat)
  case atStart => exact ⟨0, ⟨#[]⟩, rfl, rfl, Nat.zero_le _, Lib.hid rfl, B1⟩
  case round =>
    clear B1
    obtain ⟨k, s, rfl, rfl, hk, hs, hbl⟩ := hrel
    have hsz : s.size ≤ 2000 := by
      have h2 := Mid.joinS_len (ls.take k)
      rw [← hs.out] at h2
      have h3 : s.data.toList.length = s.size := by simp
      rw [List.length_take] at h2
      omega
    by_cases hlt : k < n
    · have hkl : k < ls.length := by rw [← HN.out]; exact hlt
      rcases HCL.out with h0 | ⟨b, off, rfl, hc⟩
      · rw [h0] at hkl; exact absurd hkl (by simp)
      have hblt : b < w.heap.size := hc.lt (by intro h; rw [h] at hkl; exact absurd hkl (by simp))
      have hrg := (hc.keep hbl.out hblt).range k hkl
      have htk : ls.take (k + 1) = ls.take k ++ [ls[k]!] := by rw [List.take_succ_eq_append_getElem hkl, getE ls k hkl]
      have hjs := Mid.joinS_snoc (ls.take k) ls[k]!
      rw [← htk] at hjs
      generalize ls[k]! = x at *
      have HRG := Lib.hid hrg
      have hix := info_enc infoRid x
      have hltI : (k : Int) < (n : Int) := by omega
      have htz : (Mid.textB x).size = 71 := by
        have := Mid.printL_71 x
        show (Mid.printL x.1).toArray.size = 71
        simpa using this
      have HTB := Lib.hid (show (Mid.textB x).data.toList = Mid.printL x.1 by simp [Mid.textB])
      have HX := Lib.hid (HT.out x)
      generalize Mid.textB x = tx at *
      by_cases h0 : k = 0
      · subst h0
        have h1 : s.data.toList ++ tx.data.toList = Mid.joinS (ls.take (0 + 1)) := by
          rw [hjs, if_pos (by simp), hs.out, HTB.out]; simp [Mid.joinS]
        have HJ := Lib.hid h1
        have g1 : ¬ 9223372036854775807 < s.size + tx.size := by omega
        have HRG := Lib.hid (show wr.rangeAt b off (encI x) by have := HRG.out; simpa using this)
        clear hjs htk hrg hc hblt hkl hs h1
        go_wp2_with (refine wpList_load_mid rfl _ _ rfl b off (by rfl) (encI x) _ HRG.out hu30 rfl hix ?_)
        refine (HX.out _).mono ?_
        rintro e w2 ⟨rfl, hb2⟩
        have B2 := Lib.hid (hbl.out.trans (hb2.mono hbl.out.size))
        clear hb2
        go_wp2_with fail
        go_roundw
        case rel => exact ⟨1, _, rfl, rfl, hlt, Lib.hid (by rw [← HJ.out]; simp), B2⟩
        case measure => simp [intOf]; omega
      · have hkp : (0 : Int) < (k : Int) := by omega
        have hkp2 : 0 < k := by omega
        have h1 : s.data.toList ++ 32 :: tx.data.toList = Mid.joinS (ls.take (k + 1)) := by
          rw [hjs, if_neg (by intro h; have h7 := congrArg List.length h; rw [List.length_take, List.length_nil] at h7; omega), hs.out, HTB.out]
        have HJ := Lib.hid h1
        have g1 : ¬ 9223372036854775807 < s.size + 1 := by omega
        have g2 : ¬ 9223372036854775807 < s.size + 1 + tx.size := by omega
        clear hjs htk hrg hc hblt hkl hs h1
        go_wp2_with (refine wpList_load_mid rfl _ _ rfl b (off + k * 32) (by rfl) (encI x) _ HRG.out hu30 rfl hix ?_)
        refine (HX.out _).mono ?_
        rintro e w2 ⟨rfl, hb2⟩
        have B2 := Lib.hid (hbl.out.trans (hb2.mono hbl.out.size))
        clear hb2
        go_wp2_with fail
        go_roundw
        case rel => exact ⟨k + 1, _, rfl, by go_num, hlt, Lib.hid (by rw [← HJ.out]; simp), B2⟩
        case measure => simp [intOf]; omega
    · have hst : s = t := by
        apply ByteArray.ext; apply Array.toList_inj.1
        rw [hs.out, HT1.out.symm, List.take_of_length_le (by rw [← HN.out]; omega)]
      subst hst
      clear hs
      go_wp2_with fail
      go_ret2
      exact ⟨rfl, hbl.out⟩
end Go.Proofs.Ytcofplbdapjdjaa
