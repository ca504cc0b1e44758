/- Arrays of bytes by value: opened where they come in, loaded, stored, compared. -/
import Derived.Test.YtgfolgmheinbiaaDoorRRRDigest
import Derived.OpenShut
import Derived.ChangeKeysEq
import Derived.ChangeShapes
import Derived.WideShapes
namespace Go.Proofs.YtgfolgmheinbiaaDoorRRR
open Go.RowKit

theorem plainU8 : Tryd.prog.plainKey 5 = true := by kernel_rfl
theorem cellsU8' : Tryd.prog.cellsOf 5 = 1 := by kernel_rfl

theorem eqItems_bs (d : Nat) (xs ys : List Int) (n : Nat) (hx : xs.length = n) (hy : ys.length = n) (w : World) : ∀ (is : List Nat), (∀ i ∈ is, i < n) →
    (Op.eqItems (d + 1) 5 1 (bsC xs) (bsC ys) is).run Tryd.prog w = .ok (is.all fun i => xs.getD i 0 == ys.getD i 0) w
  | [], _ => by simp [Op.eqItems]
  | i :: is, h => by
    have hi := h i (by simp)
    have ih := eqItems_bs d xs ys n hx hy w is (fun j hj => h j (by simp [hj]))
    have p1 := run_part_plain (P := Tryd.prog) w plainU8 (bsC_get xs i (by omega))
    have p2 := run_part_plain (P := Tryd.prog) w plainU8 (bsC_get ys i (by omega))
    have p3 := run_equalIn_int (P := Tryd.prog) w d 5 .u8 .u8 (xs.getD i 0) (ys.getD i 0) Tryd.underlying5
    simp only [Op.eqItems, Sem.run_bind, Nat.mul_one, p1, p2, p3, Result.andThen_ok]
    cases hq : (xs.getD i 0 == ys.getD i 0) with
    | false =>
      have h2 : (List.all (i :: is) fun i => xs.getD i 0 == ys.getD i 0) = false := by rw [List.all_cons, hq]; rfl
      rw [h2]
      simp
    | true =>
      have h2 : (List.all (i :: is) fun i => xs.getD i 0 == ys.getD i 0) = is.all fun i => xs.getD i 0 == ys.getD i 0 := by rw [List.all_cons, hq]; rfl
      rw [h2]
      simpa using ih

theorem all_eq (xs ys : List Int) (n : Nat) (hx : xs.length = n) (hy : ys.length = n) : ((List.range n).all fun i => xs.getD i 0 == ys.getD i 0) = decide (xs = ys) := by
  rw [Bool.eq_iff_iff, List.all_eq_true, decide_eq_true_iff]
  constructor
  · intro h
    apply List.ext_getElem (by omega)
    intro i h1 h2
    have := h i (List.mem_range.2 (by omega))
    rw [beq_iff_eq, List.getD_eq_getElem?_getD, List.getD_eq_getElem?_getD, List.getElem?_eq_getElem h1, List.getElem?_eq_getElem h2] at this
    exact this
  · rintro rfl i _
    simp

theorem eq_arr {t : TypeId} {n : Nat} (hu : Tryd.prog.underlying t = some (.array n 5)) (xs ys : List Int) (hx : xs.length = n) (hy : ys.length = n) (d : Nat) (w : World) :
    (Op.equalIn (d + 2) t (.agg (bsC xs)) (.agg (bsC ys))).run Tryd.prog w = .ok (decide (xs = ys)) w := by
  obtain ⟨i, hi⟩ := info_of_underlying Tryd.underlying5
  rw [run_equalIn_array w (d + 1) _ _ hu hi, cellsU8', eqItems_bs d xs ys n hx hy w (List.range n) (fun i hi => List.mem_range.1 hi), all_eq xs ys n hx hy]

theorem eq_same {t : TypeId} {n : Nat} (hu : Tryd.prog.underlying t = some (.array n 5)) (xs : List Int) (hx : xs.length = n) (w : World) :
    (Op.equalIn 10000 t (.agg (bsC xs)) (.agg (bsC xs))).run Tryd.prog w = .ok true w := by
  rw [eq_arr hu xs xs hx hx 9998 w]
  simp

set_option maxRecDepth 100000 in
/-- an array of bytes that comes in -/
theorem arr_open {H : Type} {enc : TypeId × Value → H} {W : World} {base base' : Nat} {sp : Nat → Bool} {t : TypeId} {n : Nat} {v : Value} {d : DataW H} {p : List MemPlace}
    (ht : Tryd.prog.underlying t = some (.array n 5)) (hc : Tryd.prog.cellsOf t = n) (hv : Value.okWide Tryd.prog W .any base t v) (h : DataW.Trod enc Tryd.prog W base' sp true t v d p) :
    ∃ l : List Nat, v = .agg (bsC (l.map fun (x : Nat) => (x : Int))) ∧ l.length = n ∧ ∀ x ∈ l, x < 256 := by
  obtain ⟨cs, rfl, hsz, _⟩ : ∃ cs, v = .agg cs ∧ cs.size = Tryd.prog.cellsOf t ∧ Row.okWide Tryd.prog W .any base t cs := by
    simpa [Value.okWide, ht] using hv
  rw [hc] at hsz
  obtain ⟨fuel, hf⟩ := h
  obtain ⟨xs, m, _, _, _, hl, hel⟩ := DataW.trod_array ht hf
  simp only [Value.cells, cellsU8', Nat.mul_one] at hel
  have key : ∀ i, (hi : i < n) → ∃ z : Int, cs[i]? = some (.int .u8 z) ∧ 0 ≤ z ∧ z ≤ 255 := by
    intro i hi
    have h1 := hel i hi
    rw [List.getElem?_eq_getElem (by omega)] at h1
    obtain ⟨z, e, _, wf⟩ := DataW.trod_int Tryd.underlying5 h1
    have := bounds_u8 wf
    exact ⟨z, getElem?_of_chunk e, this.1, this.2⟩
  refine ⟨cs.toList.map fun v => match v with | .int _ z => z.toNat | _ => 0, ?_, by simp [hsz], ?_⟩
  · congr 1
    apply Array.toList_inj.1
    unfold bsC
    simp only [List.map_map]
    apply List.ext_getElem (by simp)
    intro i h1 h2
    have hi : i < n := by simpa [hsz] using h1
    obtain ⟨z, e, z0, _⟩ := key i hi
    have e2 : cs[i]'(by omega) = .int .u8 z := by
      rw [Array.getElem?_eq_getElem (by omega)] at e
      exact Option.some.inj e
    simp [e2]
    omega
  · intro x hx
    simp only [List.mem_map] at hx
    obtain ⟨v, hv, rfl⟩ := hx
    obtain ⟨i, hi, rfl⟩ := List.mem_iff_getElem.1 hv
    have hi' : i < n := by simpa [hsz] using hi
    obtain ⟨z, e, z0, z1⟩ := key i hi'
    have e2 : cs.toList[i] = .int .u8 z := by
      rw [Array.getElem?_eq_getElem (by omega)] at e
      simpa using Option.some.inj e
    rw [e2]
    simp only
    omega

theorem info32 (l : List Int) (h : l.length = 32) : (Tryd.prog.info? 31).map (·.size) = some (bsC l).size := by rw [bsC_size, h]; kernel_rfl
theorem ld_a32 {ops : Array Oper} {rest : List Oper} {o : Oper} {a : Act} {w : World} {Q : Exit → Act → World → Prop} (g : Nat) (l : List Int) (hl : l.length = 32) (h : Blk w g 31 (bsC l)) (hgd : o.guard = none) (x : Operand) (ho : o.op = .load 31 x)
    (hx : a.eval x = .pointer (some ⟨g, 0, none⟩)) (hk : wpList Tryd.prog ops Q rest (a.put o.dst (.agg (bsC l))) w) : wpList Tryd.prog ops Q (o :: rest) a w :=
  wpList_load_row hgd _ x ho g hx _ _ _ _ h Tryd.underlying31 rfl (info32 l hl) hk
theorem ld_a32_g {ops : Array Oper} {rest : List Oper} {o : Oper} {a : Act} {w : World} {Q : Exit → Act → World → Prop} (g : Nat) (l : List Int) (hl : l.length = 32) (h : Blk w g 31 (bsC l)) (hw : Region.wanted o (yielded ops a.tmps) = true) (x : Operand) (ho : o.op = .load 31 x)
    (hx : a.eval x = .pointer (some ⟨g, 0, none⟩)) (hk : wpList Tryd.prog ops Q rest (a.put o.dst (.agg (bsC l))) w) : wpList Tryd.prog ops Q (o :: rest) a w :=
  wpList_step fun K hK => by
    simp only [hw, if_true]
    exact wp_load_row _ x ho g hx _ _ _ _ h Tryd.underlying31 rfl (info32 l hl) (hK _ _ hk)
theorem sto_a32 {ops : Array Oper} {rest : List Oper} {o : Oper} {a : Act} {w : World} {Q : Exit → Act → World → Prop} (g : Nat) (l : List Int) (hl : l.length = 32) (old : Array Value) (h : Blk w g 31 old) (hold : old.size = 32) (hgd : o.guard = none) (x y : Operand) (ho : o.op = .store 31 x y)
    (hx : a.eval x = .pointer (some ⟨g, 0, none⟩)) (hy : a.eval y = .agg (bsC l)) (hk : ∀ w', Hid (w' = w.setRow g (bsC l)) → wpList Tryd.prog ops Q rest (a.put o.dst undef) w') : wpList Tryd.prog ops Q (o :: rest) a w :=
  wpList_store_row hgd _ x y ho g _ hx hy _ _ h (info32 l hl) (by rw [hold, bsC_size, hl]) (bsC_one l) (hk _ (Lib.hid rfl))
end Go.Proofs.YtgfolgmheinbiaaDoorRRR
