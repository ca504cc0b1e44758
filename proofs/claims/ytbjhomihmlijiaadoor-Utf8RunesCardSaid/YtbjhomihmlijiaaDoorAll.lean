/- The reference's All: called with a text it answers the code points up to the first error, their offsets, and the error; it writes nothing that was there. -/
import Derived.Test.YtbjhomihmlijiaaDoorFirst
import Derived.Maps.AppendAt
import Derived.Deep.RegionLaw
import Derived.RangeFuncBox
namespace U8
def allF (l : List Nat) : Nat → Nat → List Nat × List Nat × Nat × Nat
  | 0, _ => ([], [], 0, 0)
  | f + 1, p =>
    if p < l.length then
      (if (first (l.drop p)).2.2 = 0 then ((first (l.drop p)).1 :: (allF l f (p + (first (l.drop p)).2.1)).1, p :: (allF l f (p + (first (l.drop p)).2.1)).2.1, (allF l f (p + (first (l.drop p)).2.1)).2.2)
       else ([], [], p, (first (l.drop p)).2.2))
    else ([], [], 0, 0)

theorem first_size (l : List Nat) (hl : 0 < l.length) (hb : ∀ x ∈ l, x < 256) (r z : Nat) (h : first l = (r, z, 0)) : 1 ≤ z ∧ z ≤ l.length ∧ next l = (r, z, 0) := by
  have hne : l ≠ [] := by intro e; subst e; simp at hl
  obtain ⟨h1, h2, _⟩ := next_first l hne hb
  rw [h] at h1
  have h3 := h2 h1.symm
  rw [h] at h3
  have := next_size l hl r z h3.symm
  exact ⟨this.1, this.2, h3.symm⟩

theorem all_check (l : List Nat) (hb : ∀ x ∈ l, x < 256) : ∀ f p, (allF l f p).2.2 = check l f p
  | 0, p => rfl
  | f + 1, p => by
    rw [allF, check]
    by_cases h : p < l.length
    · rw [if_pos h, if_pos h]
      have hne : l.drop p ≠ [] := by
        intro e
        have := congrArg List.length e
        simp only [List.length_drop, List.length_nil] at this
        omega
      obtain ⟨h1, h2, _⟩ := next_first (l.drop p) hne (fun x hx => hb x (List.mem_of_mem_drop hx))
      rw [h1]
      split
      · rename_i h0
        rw [h2 h0]
        exact all_check l hb f _
      · rfl
    · rw [if_neg h, if_neg h]

theorem next_bound (l : List Nat) (n g k u r z : Nat) (h : more l n g k u = (r, z, 0)) (hg : g + k = n) (hr : (u + 1) * 64 ^ g ≤ 2097152) : r < 2097152 := by
  induction g generalizing k u with
  | zero =>
    simp only [more, Prod.mk.injEq] at h
    omega
  | succ g ih =>
    rw [more] at h
    split at h
    · simp at h
    · split at h
      · simp at h
      · refine ih (k + 1) _ h (by omega) ?_
        have e : 64 ^ (g + 1) = 64 * 64 ^ g := by rw [Nat.pow_succ, Nat.mul_comm]
        rw [e, ← Nat.mul_assoc] at hr
        exact Nat.le_trans (Nat.mul_le_mul_right _ (by omega)) hr
end U8
namespace Go.Proofs.YtbjhomihmlijiaaDoor
open Go.RowKit

theorem infoI : (Tryd.prog.info? 3).map (fun i => (i.zero, i.size, i.bytes)) = some (some (.int .i64 0), 1, 8) := by kernel_rfl

def intCells (xs : List Nat) : List Value := xs.map fun n : Nat => Value.int .i64 n

theorem info_parts {i : Option TypeInfo} {z : Value} {n b : Nat} (h : i.map (fun i => (i.zero, i.size, i.bytes)) = some (some z, n, b)) : ∃ j, i = some j ∧ j.zero = some z ∧ j.size = n ∧ j.bytes = b := by
  cases i with
  | none => simp at h
  | some j => simp at h; exact ⟨j, rfl, h.1, h.2.1, h.2.2⟩

/-- two slices whose rows are two blocks -/
def Apart (v1 v2 : Value) : Prop := v1.ownBlock = none ∨ v2.ownBlock = none ∨ v1.ownBlock ≠ v2.ownBlock

theorem Apart.left {v1 v2 : Value} (h : Apart v1 v2) : v1.ownBlock = none ∨ v1.ownBlock ≠ v2.ownBlock := by
  rcases h with h | h | h
  · exact .inl h
  · cases h1 : v1.ownBlock
    · exact .inl rfl
    · rw [h]; exact .inr (by simp)
  · exact .inr h
theorem Apart.symm {v1 v2 : Value} (h : Apart v1 v2) : Apart v2 v1 := by
  rcases h with h | h | h
  · exact .inr (.inl h)
  · exact .inl h
  · exact .inr (.inr (Ne.symm h))

theorem wpList_append_int (w : World) {ops : Array Oper} {rest : List Oper} {o : Oper} {a : Act} {Q : Exit → Act → World → Prop} (hgd : o.guard = none) (s x : Operand)
    (ho : o.op = .call { callee := .builtin .append, args := #[s, x], argTypes := #[23, 23] })
    (base : Nat) (v : Value) (xs : List Nat) (hs : a.eval s = v) (hown : w.ownsRow base 3 1 v xs.length (intCells xs)) (B c : Nat) (t : Nat) (hx : a.eval x = .slice (some ⟨B, 0, none⟩) 1 c) (hc : w.cell? ⟨B, 0, none⟩ = some (.int .i64 t))
    (hn : xs.length ≤ 1000000000) (hbase : base ≤ w.heap.size)
    (h : ∀ v' w', Hid (w'.ownsRow base 3 1 v' (xs ++ [t]).length (intCells (xs ++ [t]))) → Hid (w.grownBy w' v.ownBlock) → Hid (v'.ownBlock = v.ownBlock ∨ v'.ownBlock = some w.heap.size) → wpList Tryd.prog ops Q rest (a.put o.dst v') w') : wpList Tryd.prog ops Q (o :: rest) a w := by
  obtain ⟨i0, hi, hz0, hz1, hz2⟩ := info_parts infoI
  refine wpList_append_own_at _ hgd s x 23 ho base 3 i0 (.int .i64 0) 1 8 Tryd.underlying23 hi hz0 hz1 hz2 rfl (by decide) v xs.length (intCells xs) hs hown ⟨B, 0, none⟩ 1 c [.int .i64 t] hx rfl ?_ ?_ (by unfold maxLen; omega) (by omega) hbase
    (fun v' w' h2 h3 _ h5 => h v' w' (Lib.hid (by simpa [intCells] using h2)) (Lib.hid h3) (Lib.hid h5))
  · intro j u hj
    obtain ⟨hj1, hj2⟩ := List.getElem?_eq_some_iff.1 hj
    have : j = 0 := by simp at hj1; omega
    subst this
    rw [show (⟨B, 0, none⟩ : Addr).add 0 = ⟨B, 0, none⟩ by simp [Addr.add], hc]
    simp at hj2
    rw [hj2]
  · intro u hu
    simp at hu
    subst hu
    rfl

theorem row_below {W W1 : World} {base : Nat} {e : TypeId} {size n : Nat} {v : Value} {xs : List Value} (h : W.ownsRow base e size v n xs) (hb : Below W.heap.size W W1) : W1.ownsRow base e size v n xs :=
  h.kept (row := none) ⟨hb.os, hb.tape, hb.output, hb.size, fun k hk _ => hb.block k hk⟩ (by cases v.ownBlock <;> simp)

theorem Apart.grow {W : World} {B n : Nat} {e : TypeId} {xs : List Value} {v1 v2 v3 : Value} {m : Nat} (hap : Apart v1 v2) (h2 : W.ownsRow B e 1 v2 n xs) (hv : v3.ownBlock = v1.ownBlock ∨ v3.ownBlock = some m) (hm : W.heap.size ≤ m) : Apart v3 v2 := by
  rcases hv with hv | hv
  · unfold Apart; rw [hv]; exact hap
  · right
    cases h : v2.ownBlock with
    | none => exact .inl rfl
    | some j =>
      have := (h2.lt j h).2
      right
      rw [hv]
      intro e
      simp only [Option.some.injEq] at e
      omega

theorem icell (w : World) (t : Nat) : (w.alloc (.cells #[.int .i64 t] 3)).cell? ⟨w.heap.size, 0, none⟩ = some (.int .i64 t) := by simp

theorem results_tmp4 {fn : Func} {t u v x : Tmp} (h : fn.results = #[.tmp t, .tmp u, .tmp v, .tmp x]) (tmps : Array Value) (P : Program) (w : World) :
    (results fn tmps).run P w = .ok (.tuple #[tmps.getD t undef, tmps.getD u undef, tmps.getD v undef, tmps.getD x undef]) w := by
  simp [results, h]

/-- the two rows of All -/
def Rows2 (W : World) (B : Nat) (w : World) (v1 v2 : Value) (xs ys : List Nat) : Prop :=
  W.ownsRow B 3 1 v1 xs.length (intCells xs) ∧ W.ownsRow B 3 1 v2 ys.length (intCells ys) ∧ Apart v1 v2 ∧ Below B w W

set_option maxRecDepth 100000 in
set_option maxHeartbeats 1000000 in
theorem refAll_any (s : ByteArray) (w : World) (hmax : s.size ≤ 1000000) (rs os : List Nat) (at_ e : Nat) (hr : U8.allF (bytesOf s) s.size 0 = (rs, os, at_, e)) :
    Calls Tryd.prog 15 #[.string s] w fun x w' => ∃ v1 v2, x = .returned (.tuple #[v1, v2, .int .i64 at_, .int .i64 e]) ∧ Rows2 w' w.heap.size w v1 v2 rs os := by
  have hmaxI : (s.size : Int) ≤ 1000000 := by omega
  have HR := Lib.hid hr
  clear hr
  go_enter Tryd.func15, Tryd.ntmps15
  go_wp2_with fail
  go_loopw [6, 7, 8] (fun o1 o2 at0 wr => ∃ (k f : Nat) (xs ys : List Nat) (v1 v2 : Value), v1 = o1 ∧ v2 = o2 ∧ at0 = .int .i64 k ∧ k ≤ s.size ∧ s.size - k ≤ f ∧ xs.length ≤ k ∧ ys.length ≤ k ∧ rs = xs ++ (U8.allF (bytesOf s) f k).1 ∧ os = ys ++ (U8.allF (bytesOf s) f k).2.1 ∧ (U8.allF (bytesOf s) f k).2.2 = (at_, e) ∧ Rows2 wr w.heap.size w v1 v2 xs ys) (fun _ _ at0 _ => s.size - (intOf at0).toNat)
  case atStart => exact ⟨0, s.size, [], [], _, _, rfl, rfl, rfl, Nat.zero_le _, by omega, by simp, by simp, by rw [HR.out]; rfl, by rw [HR.out]; rfl, by rw [HR.out], World.ownsRow_nil _ _ _ _, World.ownsRow_nil _ _ _ _, .inl rfl, Below.refl _ _⟩
  case round =>
    obtain ⟨k, f, xs, ys, v1, v2, rfl, rfl, rfl, hk, hf, hxl, hyl, hrs, hos, hae, ho1, ho2, hap, hbel⟩ := hrel
    have O1 := Lib.hid ho1; have O2 := Lib.hid ho2; have AP := Lib.hid hap; have BEL := Lib.hid hbel
    have hsz := hbel.size
    by_cases hlt : k < s.size
    · obtain ⟨f', rfl⟩ : ∃ f', f = f' + 1 := ⟨f - 1, by omega⟩
      obtain ⟨⟨r, z, e2⟩, hnx⟩ : ∃ x, U8.first ((bytesOf s).drop k) = x := ⟨_, rfl⟩
      rw [U8.allF, if_pos (by rw [bytesOf_length]; exact hlt), hnx] at hrs hos hae
      simp only at hrs hos hae
      have hes : (s.extract k s.size).size = s.size - k := by simp
      have hn := refFirst_any (s.extract k s.size) wr (by omega) (by omega) r z e2 (by rw [bytesOf_extract, hnx])
      have HN := Lib.hid hn
      by_cases h0 : e2 = 0
      · subst h0
        rw [if_pos rfl] at hrs hos hae
        have hz := U8.first_size _ (by rw [List.length_drop, bytesOf_length]; omega) (fun x hx => bytesOf_lt s x (List.mem_of_mem_drop hx)) r z hnx
        rw [List.length_drop, bytesOf_length] at hz
        have hz1 := hz.1
        have hz2 := hz.2.1
        have HRS := Lib.hid hrs; have HOS := Lib.hid hos; have HAE := Lib.hid hae
        clear hrs hos hae hn hnx hes ho1 ho2 hap hbel hz
        go_wp2_with fail
        refine HN.out.mono ?_
        rintro e w1 ⟨rfl, hb1⟩
        have hg1 := Lib.hid (World.grownBy.mk hb1.os hb1.tape hb1.output hb1.size (fun k hk (_ : some k ≠ none) => hb1.block k hk))
        have hsz1 : ∀ o, w.heap.size ≤ (w1.alloc o).heap.size := by intro o; have := hb1.size; simp; omega
        have HSZ := Lib.hid hsz1
        have P1 := Lib.hid (row_below O1.out hb1); have P2 := Lib.hid (row_below O2.out hb1)
        have HB1 := Lib.hid hb1
        clear hsz1 hg1 hb1
        go_wp2_with (at_builtin; first | (refine wpList_append_int _ rfl (.tmp 30) (.tmp 32) rfl w.heap.size v1 xs rfl (P1.out.alloc _) w1.heap.size 1 r rfl (icell _ _) (by omega) (HSZ.out _) ?_; intro v3 w3 ho3 hg3 ha3; have P3 := Lib.hid ((P2.out.alloc _).kept hg3.out AP.out.symm.left); have hs3 := Lib.hid (show ∀ o, w.heap.size ≤ (w3.alloc o).heap.size by intro o; have := HSZ.out (.cells #[.int .i64 r] 3); have := hg3.out.size; simp; omega)) | (refine wpList_append_int _ rfl (.tmp 34) (.tmp 36) rfl w.heap.size v2 ys rfl (P3.out.alloc _) w3.heap.size 1 k rfl (icell _ _) (by omega) (hs3.out _) ?_; intro v4 w4 ho4 hg4 ha4))
        go_roundw
        case rel =>
          have ap3 : Apart v3 v2 := AP.out.grow (P2.out.alloc (.cells #[.int .i64 r] 3)) ha3.out (Nat.le_refl _)
          have ap4 : Apart v4 v3 := ap3.symm.grow (ho3.out.alloc (.cells #[.int .i64 k] 3)) ha4.out (Nat.le_refl _)
          refine ⟨k + z, f', xs ++ [r], ys ++ [k], v3, v4, rfl, rfl, by go_num, by omega, by omega, by simp; omega, by simp; omega, by rw [HRS.out]; simp, by rw [HOS.out]; simp, HAE.out, (ho3.out.alloc _).kept hg4.out ap3.left, ho4.out, ap4.symm, ?_⟩
          exact (((BEL.out.trans (HB1.out.mono hsz)).alloc (Nat.le_trans hsz HB1.out.size) _).grown hg3.out (HSZ.out _) (fun j hj => (P1.out.lt j hj).1)).alloc (by have := hs3.out (.cells #[.int .i64 k] 3); have := HSZ.out (.cells #[.int .i64 r] 3); have := hg3.out.size; omega) _ |>.grown hg4.out (hs3.out _) (fun j hj => (P2.out.lt j hj).1)
        case measure => simp [intOf]; omega
      · rw [if_neg h0] at hrs hos hae
        simp only [List.append_nil, Prod.mk.injEq] at hrs hos hae
        obtain ⟨rfl, rfl⟩ := hae
        subst hrs hos
        have hne : ((e2 : Int) != 0) = true := by simp; omega
        clear hn hnx hes ho1 ho2 hap hbel h0 HR
        go_wp2_with fail
        refine HN.out.mono ?_
        rintro e w1 ⟨rfl, hb1⟩
        go_wp2_with fail
        (try simp only [Exit.inBlock, Exit.then])
        refine bodyPost_ret (results_tmp4 rfl _ _ _) rfl ?_
        exact ⟨_, _, rfl, row_below O1.out hb1, row_below O2.out hb1, AP.out, BEL.out.trans (hb1.mono hsz)⟩
    · have hres : U8.allF (bytesOf s) f k = ([], [], 0, 0) := by
        cases f with
        | zero => rfl
        | succ f => rw [U8.allF, if_neg (by rw [bytesOf_length]; exact hlt)]
      rw [hres] at hrs hos hae
      simp only [List.append_nil, Prod.mk.injEq] at hrs hos hae
      obtain ⟨rfl, rfl⟩ := hae
      subst hrs hos
      clear hres ho1 ho2 hap hbel HR
      go_wp2_with fail
      (try simp only [Exit.inBlock, Exit.then])
      refine bodyPost_ret (results_tmp4 rfl _ _ _) rfl ?_
      exact ⟨_, _, rfl, O1.out, O2.out, AP.out, BEL.out⟩
end Go.Proofs.YtbjhomihmlijiaaDoor
