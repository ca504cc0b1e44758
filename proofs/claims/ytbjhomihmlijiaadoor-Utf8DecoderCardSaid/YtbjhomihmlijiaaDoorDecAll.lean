/- A Decoder's Write and Close in all their cases; append of bytes inside a region that draws its order. -/
import Derived.Test.YtbjhomihmlijiaaDoorDecStep
import Derived.Test.YtbjhomihmlijiaaDoorPush
import Derived.Deep.RegionLaw
namespace Go.Proofs.YtbjhomihmlijiaaDoor
open Go.RowKit

theorem decWrite_any (w : World) (v : Value) (l : List Nat) (g : Nat) (p : ByteArray) (hT : Tab w) (h : DecAt w g p false) (hv : Bytes w v l) (x : ByteArray) (hx : p ++ strB l = x) (hmax : x.size ≤ 1000000) (a e : Nat) (hr : U8.check (bytesOf x) x.size 0 = (a, e)) (ha : a ≤ x.size)
    (t r : ByteArray) (e' : Nat) (ht : t = if e = 0 then x else if e = 23 then x.extract 0 a else ⟨#[]⟩) (hrr : r = if e = 0 then ⟨#[]⟩ else if e = 23 then x.extract a x.size else p) (he' : e' = if e = 0 then 0 else if e = 23 then 0 else e) :
    Calls Tryd.prog 32 #[.pointer (some ⟨g, 0, none⟩), v] w fun y w' => y = .returned (.tuple #[.string t, .int .i64 e']) ∧ DecAt w' g r false ∧ Kept g w w' := by
  by_cases h0 : e = 0
  · subst h0
    rw [if_pos rfl] at ht hrr he'
    subst ht hrr he'
    refine (decWrite_ok w v l g p hT h hv t hx hmax a 0 hr (.inl rfl) t.size (by rw [if_pos rfl]) (Nat.le_refl _) t ⟨#[]⟩ (by simp) (by simp; rfl)).mono ?_
    exact fun y w' hy => hy
  · rw [if_neg h0] at ht hrr he'
    by_cases h23 : e = 23
    · subst h23
      rw [if_pos rfl] at ht hrr he'
      subst he'
      exact decWrite_ok w v l g p hT h hv x hx hmax a 23 hr (.inr rfl) a (by rw [if_neg (by decide)]) ha t r ht hrr
    · rw [if_neg h23] at ht hrr he'
      subst ht hrr he'
      refine (decWrite_bad w v l g r hT h hv x hx hmax a e' hr h0 h23).mono ?_
      rintro y w' ⟨rfl, hb⟩
      exact ⟨rfl, h.below hb, Kept.of_below hb⟩

theorem empty_of_isEmpty (s : ByteArray) (h : s.size = 0) : s = ⟨#[]⟩ := by
  apply ByteArray.ext
  exact Array.eq_empty_of_size_eq_zero h
theorem some_of_size (s : ByteArray) (h : s.size ≠ 0) : s.toList.isEmpty = false := by
  cases hs : s.toList.isEmpty with
  | false => rfl
  | true =>
    exfalso
    apply h
    have : s.toList = [] := List.isEmpty_iff.1 hs
    have h2 : s.data.toList = [] := by rw [← ByteArray.toList_eq]; exact this
    have := congrArg List.length h2
    simpa using this

theorem Bytes.take {w : World} {x : Option Addr} {n c : Nat} {l : List Nat} (h : Bytes w (.slice x n c) l) (q : Nat) (hq : q ≤ l.length) : Bytes w (.slice x q c) (l.take q) := by
  obtain ⟨h1, y, cap, hv, hl, hm, hn, hc⟩ := h
  have hlen : (l.take q).length = q := by simp; omega
  cases hv
  refine ⟨fun z hz => h1 z (List.mem_of_mem_take hz), x, c, by rw [hlen], by omega, hm, hn, fun i hi => ?_⟩
  rw [hlen] at hi
  obtain ⟨b, off, e, h0⟩ := hc i (by omega)
  refine ⟨b, off, e, ?_⟩
  rw [h0]
  congr 3
  rw [List.getD_eq_getElem?_getD, List.getD_eq_getElem?_getD, List.getElem?_take_of_lt hi]

theorem step_append_bytes {ops : Array Oper} {o : Oper} {a : Act} {w : World} {K : Act → World → Prop} {Q : Exit → Act → World → Prop} {E : Prop} (hgd : o.guard = none) (s x : Operand)
    (ho : o.op = .call { callee := .builtin .append, args := #[s, x], argTypes := #[38, 38] })
    (base : Nat) (v : Value) (xs : List Nat) (hs : a.eval s = v) (hown : OwnL base w v xs) (src : Value) (l : List Nat) (hx : a.eval x = src) (hb : Bytes w src l)
    (hn : xs.length + l.length ≤ 1000000000) (hbase : base ≤ w.heap.size)
    (h : ∀ v' w', Hid (OwnL base w' v' (xs ++ l)) → Hid (w.grownBy w' v.ownBlock) → K (a.put o.dst v') w') : if Region.wanted o (yielded ops a.tmps) = true then Oper.wp Tryd.prog o a w K Q else E := by
  obtain ⟨i0, hi, hz0, hz1, hz2⟩ := info_partsM infoU8
  have hw : Region.wanted o (yielded ops a.tmps) = true := by simp [Region.wanted, hgd]
  rw [if_pos hw]
  have hb' := hb
  obtain ⟨_, y, cap, rfl, _, _, hnil, hc⟩ := hb
  cases y with
  | none =>
    have h0 : l = [] := by
      cases l with
      | nil => rfl
      | cons z l => obtain ⟨b, off, e, _⟩ := hc 0 (by simp); cases e
    subst h0
    obtain rfl := hnil rfl
    have hrun := run_append_owned_none (P := Tryd.prog) (w := w) base 38 o.type 5 i0 1 Tryd.underlying38 hi v xs.length (byteVals xs) hown
    have := h v w (Lib.hid (by simpa using hown)) (Lib.hid ⟨rfl, rfl, rfl, Nat.le_refl _, fun _ _ _ => rfl⟩)
    unfold Oper.wp
    simp [execOp, ho, resolve, invoke, builtin, hs, hx, hrun, Result.andThen]
    exact this
  | some ad =>
    refine wp_append_own w s x 38 ho base 5 i0 (.int .u8 0) 1 1 Tryd.underlying38 hi hz0 hz1 hz2 rfl (by decide) v xs.length (byteVals xs) hs hown ad l.length cap (byteVals l) hx (by simp [byteVals]) (bytes_vals hb') ?_ (by unfold maxLen; omega) (by omega) hbase (fun v' w' h1 h2 h3 => h v' w' (Lib.hid (by unfold OwnL; simpa [byteVals] using h1)) (Lib.hid h2))
    intro u hu
    simp only [byteVals, List.mem_map] at hu
    obtain ⟨z, _, rfl⟩ := hu
    rfl
end Go.Proofs.YtbjhomihmlijiaaDoor
