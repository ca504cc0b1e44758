/- slices.Backward over identities: what it hands its loop. -/
import Derived.RangeFuncNested
import Derived.RangeFuncBound
import Derived.RangeFuncCalls
import Derived.RangeFuncLeaves
import Derived.Shelf.Abstract
import Derived.Shelf.RegionOpen
import Derived.WalkKit
import Derived.OwnWalkIn
import Derived.TacticsInMore
import Derived.LoopNIn
import Derived.LoopIn
import Derived.Test.YtcofplbdapjdjaaChk
namespace Go.Proofs.Ytcofplbdapjdjaa
open Go.RowKit Go.Shelf

attribute [local go_sem] Oper.semAt_some

section
variable {F : Fence} {nF : Nat}
theorem wpListIn_load_mid {P : Program} {ops : Array Oper} {rest : List Oper} {op : Oper} {a : Act} {w : World} {Q : Exit → Act → World → Prop} (hgd : op.guard = none) (ty : TypeId) (x : Operand) (ho : op.op = .load ty x)
    (b o : Nat) (hx : a.eval x = .pointer (some ⟨b, o, none⟩)) (cs : List Value) (d : TypeDesc) (hc : w.rangeAt b o cs)
    (hu : P.underlying ty = some d) (hd : d.isRow = true) (hi : (P.info? ty).map (·.size) = some cs.length)
    (h : wpListIn F nF P ops Q rest (a.put op.dst (.agg cs.toArray)) w) : wpListIn F nF P ops Q (op :: rest) a w := by
  refine wpListIn_plain hgd fun K' hK' => ?_
  unfold Oper.wpIn
  refine ⟨by simp [Oper.about, ho], ?_⟩
  rw [Oper.semAt_plain F _ _ (by rw [ho]; intro c hc'; cases hc')]
  unfold execOp
  simp only [ho, hx, run_loadAt_mid w b o ty cs d hc hu hd hi, Sem.run_bind, Sem.run_pure, Result.andThen_ok]
  exact hK' _ _ h
end

/-- what lay below n₀ lies as it lay, and so does the block Bn -/
def KeepsB (n₀ Bn : Nat) (W W' : World) : Prop := Below n₀ W W' ∧ W'.heap[Bn]? = W.heap[Bn]?
theorem KeepsB.refl (n₀ Bn : Nat) (W : World) : KeepsB n₀ Bn W W := ⟨Below.refl _ _, rfl⟩
theorem keepsB_t {n₀ Bn : Nat} {A B C : World} (h : KeepsB n₀ Bn A B) (k : KeepsB n₀ Bn B C) : KeepsB n₀ Bn A C := ⟨h.1.trans k.1, k.2.trans h.2⟩
theorem keepsB_below {n₀ Bn m : Nat} {A B : World} (h : Below m A B) (h1 : n₀ ≤ m) (h2 : Bn < m) : KeepsB n₀ Bn A B := ⟨h.mono h1, h.block Bn h2⟩
theorem keepsB_b {n₀ Bn : Nat} {w : World} (h1 : n₀ ≤ w.heap.size) (h2 : Bn < w.heap.size) : ∀ (W : World) (l : Nat) (o o' : Obj), w.heap.size ≤ l → W.heap[l]? = some o → o.isCells = false → o.isWalk = false → KeepsB n₀ Bn W (W.putObj l o') :=
  fun W l o o' hl ho h3 h4 => ⟨belowK_b (w := w) h1 W l o o' hl ho h3 h4, World.putObj_heap_other (by omega)⟩
theorem KeepsB.cell {n₀ Bn : Nat} {W W' : World} (h : KeepsB n₀ Bn W W') (j : Nat) : W'.cell? ⟨Bn, j, none⟩ = W.cell? ⟨Bn, j, none⟩ := by
  unfold World.cell?
  rw [h.2]

/-- a place and an identity -/
abbrev It (n : Nat) := { x : Nat × Mid.Id // x.1 < n }
abbrev encs {n : Nat} (x : It n) : Array Value := #[.int .i64 (x.1.1 : Int), .agg (encI x.1.2).toArray]
def backs (ls : List Mid.Id) (n : Nat) : (m : Nat) → m ≤ n → List (It n)
  | 0, _ => []
  | m + 1, h => ⟨(m, ls[m]!), h⟩ :: backs ls n m (Nat.le_of_succ_le h)
theorem backs_len (ls : List Mid.Id) (n : Nat) : ∀ m h, (backs ls n m h).length = m
  | 0, _ => rfl
  | m + 1, h => by rw [backs, List.length_cons, backs_len]
theorem backs_get (ls : List Mid.Id) (n : Nat) : ∀ m h j, j < m → (backs ls n m h)[j]?.map (·.1) = some (m - 1 - j, ls[m - 1 - j]!)
  | 0, _, _, hj => by omega
  | m + 1, h, 0, _ => by rw [backs]; rfl
  | m + 1, h, j + 1, hj => by
    rw [backs, List.getElem?_cons_succ, backs_get ls n m _ j (by omega), show m + 1 - 1 - (j + 1) = m - 1 - j by omega]

set_option maxRecDepth 100000 in
set_option maxHeartbeats 2000000 in
theorem back1_in (n : Nat) (hn : 3 ≤ n) (l Bn n₀ : Nat) (p : Option Addr) (N cap : Nat) (hcp : N ≤ cap) (hcm : cap ≤ maxLen) (ls : List Mid.Id) (hN : N = ls.length) (J Jx : List (It N) → World → Prop)
    (W : World) (hcells : ls = [] ∨ ∃ b off, p = some ⟨b, off, none⟩ ∧ IdsC W b off ls ∧ b < n₀) (hJ : AbidesFrom W.heap.size J)
    (hY : ∀ pre x W1, J pre W1 → pre.length < N → YieldAt Fence.wide (n - 1) Try.prog l (encs x) W1 fun e W' =>
      (e = .returned (.bool true) ∧ J (pre ++ [x]) W' ∧ KeepsB n₀ Bn W1 W') ∨ (e = .returned (.bool false) ∧ Jx (pre ++ [x]) W'))
    (hBn : Bn < W.heap.size) (hc : W.cell? ⟨Bn, 0, none⟩ = some (.slice p N cap)) (h0 : J [] W) :
    CallsIn Fence.wide n Try.prog 61 #[.func (.yield l) #[] #[], .pointer (some ⟨Bn, 0, none⟩)] W fun e W' => (∃ v, e = .returned v) ∧
      ((∃ ys, ys = backs ls N N (Nat.le_refl _) ∧ J ys W') ∨ (∃ pre, pre <+: backs ls N N (Nat.le_refl _) ∧ Jx pre W')) := by
  unfold maxLen at hcm
  obtain ⟨xs, hxs⟩ : ∃ xs, xs = backs ls N N (Nat.le_refl _) := ⟨_, rfl⟩
  rw [← hxs]
  have hNI : (N : Int) ≤ 9223372036854775807 := by omega
  have hw0 : wrap64 ((N : Int) - 1) = (N : Int) - 1 := by unfold wrap64; omega
  have HXS := Lib.hid hxs; have HY := Lib.hid hY; have HJ := Lib.hid hJ; have HB := Lib.hid hBn; have HCL := Lib.hid hcells; have HN := Lib.hid hN
  have hu : Try.prog.underlying 46 = some (.array 32 5) := Try.underlying46
  clear hxs hY hJ hBn hcells hN hcp hcm
  refine callsIn_of_wp Try.func61 rfl trivial ?_ rfl
  simp only [Try.ntmps61, List.size_toArray, List.length_cons, List.length_nil, Nat.reduceAdd, Nat.reduceSub, Array.replicate_succ, Array.replicate_zero, List.push_toArray, List.append_toArray, List.nil_append, List.cons_append]
  gi_wp2
  gi_loopw [3] (fun i wr => ∃ (pre : List (It N)) (m : Nat) (hm : m ≤ N), i = .int .i64 ((m : Int) - 1) ∧ pre.length + m = N ∧ Hid (xs = pre ++ backs ls N m hm) ∧ Hid (J pre wr) ∧ Hid (KeepsB n₀ Bn W wr) ∧ W.heap.size ≤ wr.heap.size) (fun i _ => (intOf i + 1).toNat)
  case atStart => exact ⟨[], N, Nat.le_refl _, rfl, by simp, Lib.hid HXS.out, Lib.hid h0, Lib.hid (KeepsB.refl _ _ _), Nat.le_refl _⟩
  case round =>
    clear HXS h0
    obtain ⟨pre, m, hm, rfl, hpl, HX, HJs, HK, hsz⟩ := hrel
    have hcr : wr.cell? ⟨Bn, 0, none⟩ = some (.slice p N cap) := (HK.out.cell 0).trans hc
    cases m with
    | zero =>
      have hx := HX.out
      rw [backs, List.append_nil] at hx
      have HX2 := Lib.hid hx
      clear hx HX
      gi_wp2
      go_end0
      exact ⟨⟨_, rfl⟩, .inl ⟨pre, HX2.out.symm, HJs.out⟩⟩
    | succ m =>
      have hkl : m < ls.length := by rw [← HN.out]; omega
      rcases HCL.out with h9 | ⟨b, off, rfl, hcc, hbn⟩
      · rw [h9] at hkl; exact absurd hkl (by simp)
      have hx := HX.out
      rw [backs] at hx
      have hrg := (hcc.keep HK.out.1 hbn).range m hkl
      generalize ls[m]! = x at *
      have HRG := Lib.hid hrg; have HX2 := Lib.hid hx
      have hix := info_enc infoId x
      have hmI : (((m + 1 : Nat) : Int) - 1) = (m : Int) := by omega
      have hm1 : (m : Int) < (N : Int) := by omega
      have hw1 : wrap64 ((m : Int) - 1) = (m : Int) - 1 := by unfold wrap64; omega
      rw [hmI]
      obtain ⟨fn, tmps, assign, body, hy, hR⟩ := HY.out pre ⟨(m, x), hm⟩ wr HJs.out (by omega)
      dsimp only [encs] at hy
      clear hrg hx HX hcc hkl hbn
      gi_wp2_with (refine wpListIn_load_mid rfl _ _ rfl b (off + m * 32) (by rfl) (encI x) _ HRG.out hu rfl hix ?_)
      refine ⟨fun _ => by omega, hR.mono ?_⟩
      rintro e W3 (⟨rfl, hJ3, hk3⟩ | ⟨rfl, hJx3⟩)
      · have hs3 := Nat.le_trans hsz hk3.1.size
        have HJ3 := Lib.hid hJ3; have HK3 := Lib.hid (keepsB_t HK.out hk3)
        clear hJ3 hk3
        gi_wp2
        go_roundw
        case rel => exact ⟨pre ++ [⟨(m, x), hm⟩], m, by omega, rfl, by simp; omega, Lib.hid (by rw [HX2.out]; simp), HJ3, HK3, hs3⟩
        case measure => simp [intOf]
      · have HJX := Lib.hid hJx3
        clear hJx3
        gi_wp2
        refine bodyPost_ret (results_none rfl _ _ _) rfl ?_
        exact ⟨⟨_, rfl⟩, .inr ⟨pre ++ [⟨(m, x), hm⟩], ⟨backs ls N m (Nat.le_of_succ_le hm), by rw [HX2.out]; simp⟩, HJX.out⟩⟩

theorem back_stops (n : Nat) (hn : 3 ≤ n) (Bn n₀ : Nat) (p : Option Addr) (N cap : Nat) (hcp : N ≤ cap) (hcm : cap ≤ maxLen) (ls : List Mid.Id) (hN : N = ls.length) (w : World)
    (hcells : ls = [] ∨ ∃ b off, p = some ⟨b, off, none⟩ ∧ IdsC w b off ls ∧ b < n₀) (hBn : Bn < w.heap.size) (hnW : n₀ ≤ w.heap.size) (hc : w.cell? ⟨Bn, 0, none⟩ = some (.slice p N cap)) :
    SeqStopsK Fence.wide n Try.prog 61 #[.pointer (some ⟨Bn, 0, none⟩)] (encs (n := N)) (KeepsB n₀ Bn) (fun ys => ys = backs ls N N (Nat.le_refl _)) (fun pre => pre <+: backs ls N N (Nat.le_refl _)) N w := fun l J Jx W hW hJ _ hY h0 =>
  back1_in n hn l Bn n₀ p N cap hcp hcm ls hN J Jx W (hcells.imp id (fun ⟨b, off, h1, h2, h3⟩ => ⟨b, off, h1, h2.keep hW (Nat.lt_of_lt_of_le h3 hnW), h3⟩)) hJ hY (Nat.lt_of_lt_of_le hBn hW.size) ((hW.cell (p := ⟨Bn, 0, none⟩) hBn).trans hc) h0

theorem back_any (v : Value) (w : World) (p : Option Addr) (n c : Nat) (hv : v = .slice p n c) : Calls Try.prog 48 #[v] w fun e w' => e = .returned (.func (.func 61) #[] #[.pointer (some ⟨w.heap.size, 0, none⟩)]) ∧ w' = w.alloc (.cells #[v] 27) := by
  subst hv
  go_enter Try.func48, Try.ntmps48
  go_wp2_with fail
  go_ret
  exact ⟨rfl, rfl⟩
end Go.Proofs.Ytcofplbdapjdjaa
