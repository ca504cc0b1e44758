/- The program's secret. -/
import Derived.Test.YtgfolgmheinbiaaDoorRRRBegin
import Derived.Laws.MakeOwn
import Derived.Laws.Entries
namespace S7
theorem hd_lt (t leaf : Nat) (ht : t < 256) (hl : leaf ≤ 65535) : ∀ x ∈ hd t leaf, x < 256 := by
  intro x hx
  unfold hd at hx
  simp only [List.mem_cons, List.not_mem_nil, or_false] at hx
  rcases hx with rfl | rfl | rfl | rfl | rfl <;> omega
theorem app_lt {a b : List Nat} (ha : ∀ x ∈ a, x < 256) (hb : ∀ x ∈ b, x < 256) : ∀ x ∈ a ++ b, x < 256 := by
  intro x hx
  rcases List.mem_append.1 hx with h | h
  · exact ha x h
  · exact hb x h
theorem one_lt {c : Nat} (h : c < 256) : ∀ x ∈ [c], x < 256 := by
  intro x hx
  simp only [List.mem_cons, List.not_mem_nil, or_false] at hx
  omega
theorem two_lt {c d : Nat} (h : c < 256) (h2 : d < 256) : ∀ x ∈ [c, d], x < 256 := by
  intro x hx
  simp only [List.mem_cons, List.not_mem_nil, or_false] at hx
  omega
end S7
namespace Go.Proofs.YtgfolgmheinbiaaDoorRRR
open Go.RowKit

def mk0 (n : Nat) : Array Value := madeCells (Value.cells (.int .u8 0)) n
theorem OwnL.made {base : Nat} (W : World) (n : Nat) (hb : base ≤ W.heap.size) (hn : n ≤ maxLen) : OwnL base (W.alloc (.cells (mk0 n) 5)) (.slice (some ⟨W.heap.size, 0, none⟩) 0 n) [] :=
  ⟨rfl, .inr ⟨W.heap.size, n, mk0 n, rfl, hb, heap_alloc_new W _, Nat.zero_le _, hn, by rw [mk0, size_madeCells, Nat.mul_one], rfl⟩⟩

theorem wpList_appL {w : World} {ops : Array Oper} {rest : List Oper} {o : Oper} {a : Act} {Q : Exit → Act → World → Prop} (base : Nat) (v : Value) (xs : List Nat) (hown : OwnL base w v xs) (src : Value) (l : List Nat) (hb : Bytes w src l) (hn : xs.length + l.length ≤ 1000000) (hbase : base ≤ w.heap.size)
    (hgd : o.guard = none) (s x : Operand) (ho : o.op = .call { callee := .builtin .append, args := #[s, x], argTypes := #[78, 78] }) (hs : a.eval s = v) (hx : a.eval x = src)
    (h : ∀ v' w', Hid (OwnL base w' v' (xs ++ l)) → Hid (∀ B w0, Below B w0 w → B ≤ base → Below B w0 w') → wpList Tryd.prog ops Q rest (a.put o.dst v') w') : wpList Tryd.prog ops Q (o :: rest) a w := by
  refine wpList_append_bytes w hgd s x ho base v xs.length (byteVals xs) hs hown src l hx hb (by omega) hbase (fun v' w' h1 h2 _ => h v' w' (Lib.hid ?_) (Lib.hid fun B w0 hB hle => ?_))
  · have := h1.out
    unfold OwnL
    rw [List.length_append]
    unfold byteVals at this ⊢
    rw [List.map_append]
    exact this
  · exact OwnL.grown hown h2.out hB (Nat.le_trans hle hbase) hle

theorem mk_any (n : Nat) (hn : n ≤ 1000) (W : World) : (Instr.makeSlice 78 (.int .i64 0) (.int .i64 n)).run Tryd.prog W = .ok (.slice (some ⟨W.heap.size, 0, none⟩) 0 n) (W.alloc (.cells (mk0 n) 5)) := by
  obtain ⟨i0, hi, hz0, hz1, hz2⟩ := info_partsM infoU8
  have hr := run_make (P := Tryd.prog) W 78 5 i0 (.int .u8 0) Tryd.underlying78 hi hz0 .i64 .i64 0 n (by omega) (by omega) (by rw [hz2]; omega) (by omega)
  simp only [Int.toNat_natCast] at hr
  rw [hz1, Nat.mul_one] at hr
  exact hr
theorem mk38 (W : World) : (Instr.makeSlice 78 (.int .i64 0) (.int .i64 38)).run Tryd.prog W = .ok (.slice (some ⟨W.heap.size, 0, none⟩) 0 38) (W.alloc (.cells (mk0 38) 5)) := mk_any 38 (by omega) W
theorem mk23 (W : World) : (Instr.makeSlice 78 (.int .i64 0) (.int .i64 23)).run Tryd.prog W = .ok (.slice (some ⟨W.heap.size, 0, none⟩) 0 23) (W.alloc (.cells (mk0 23) 5)) := mk_any 23 (by omega) W
theorem mk565 (W : World) : (Instr.makeSlice 78 (.int .i64 0) (.int .i64 565)).run Tryd.prog W = .ok (.slice (some ⟨W.heap.size, 0, none⟩) 0 565) (W.alloc (.cells (mk0 565) 5)) := mk_any 565 (by omega) W

set_option maxRecDepth 100000 in
set_option maxHeartbeats 2000000 in
theorem secret_any (seed : List Nat) (hs : seed.length = 32) (hsb : ∀ x ∈ seed, x < 256) (leaf c : Nat) (hl : leaf ≤ 65535) (hc : c ≤ 34) (w : World) (hT : Tab w) :
    Calls Tryd.prog 39 #[.agg (bsC (nI seed)), .int .i64 leaf, .int .i64 c] w fun e w' => e = .returned (.agg (bsC (nI (S7.sec seed leaf c)))) ∧ Below w.heap.size w w' := by
  have hp := hT.1
  obtain ⟨D, hD⟩ : ∃ D, D = nI seed := ⟨_, rfl⟩
  have HD := Lib.hid hD
  have HSP := Lib.hid (S7.half_spec (S7.hd 2 leaf ++ [c] ++ seed))
  have HLT := Lib.hid (S7.app_lt (S7.app_lt (S7.hd_lt 2 leaf (by omega) hl) (S7.one_lt (show c < 256 by omega))) hsb)
  have hlen : (S7.hd 2 leaf ++ [c] ++ seed).length = 38 := by rw [List.length_append, List.length_append, hs]; rfl
  have HS := Lib.hid (fun W v hT hv => sumHalf_any v (S7.hd 2 leaf ++ [c] ++ seed) (by rw [hlen]; omega) W hT hv)
  obtain ⟨H, hH⟩ : ∃ H, H = (S5.sha S5.K (S7.hd 2 leaf ++ [c] ++ seed)).take 16 := ⟨_, rfl⟩
  rw [← hH] at HS HSP
  have HHL := Lib.hid (show H.length = 16 by rw [← HSP.out.1, nI_len]; exact HSP.out.2.1)
  have HHE := Lib.hid (show nI (S7.sec seed leaf c) = H from HSP.out.1)
  clear HSP hH
  have HBG := Lib.hid (fun base v W h1 h2 => begin_any base v [] 2 leaf (by omega) hl W h1 h2 (by simp))
  have hcI : (c : Int) ≤ 34 := by omega
  have q1 : IntKind.u8.wrap (c : Int) = (c : Int) := by simp [IntKind.wrap, IntKind.bits, IntKind.signed]; omega
  have HC := Lib.hid (fun W => bytes_new W [c] (0, 0) (S7.one_lt (show c < 256 by omega)) (by unfold maxLen; simp))
  have HSB := Lib.hid (fun (W : World) g t h => bytes_arr (w := W) (g := g) (t := t) seed hsb hs (by unfold maxLen; omega) h)
  have HSD := Lib.hid hs
  rw [← hD] at HSB ⊢
  clear hD hlen hs hsb
  have hmk := mk38
  go_enter Tryd.func39, Tryd.ntmps39
  go_upto_region 1 with (fail)
  change Code.wp Tryd.prog _ _ _ ((w.alloc (.cells (bsC D) 31)).alloc (.cells (bsC z16) 22))
  generalize hW0 : (w.alloc (.cells (bsC D) 31)).alloc (.cells (bsC z16) 22) = W0
  obtain ⟨hb1, hb2, hB0⟩ := boxes2 w hW0
  have K0 := Lib.hid hb1; have R0 := Lib.hid hb2; have B0 := Lib.hid hB0
  clear hW0 hb1 hb2 hB0
  go_wp2_with (first
    | (go_at_call 51; refine (HBG.out W0.heap.size _ _ (by simp) (OwnL.made W0 38 (Nat.le_refl _) (by unfold maxLen; omega))).mono ?_; rintro e w2 ⟨v2, rfl, ho, hb⟩; have O2 := Lib.hid ho; have B2 := Lib.hid (hb _ _ ((Below.refl _ W0).alloc (Nat.le_refl _) _) (Nat.le_refl _)); clear ho hb)
    | (refine wpList_appL W0.heap.size v2 _ (O2.out.more _) (.slice (some ⟨w2.heap.size, 0, none⟩) 1 1) [c] (HC.out w2) (by simp [S7.hd]) (by have := B2.out.size; simp; omega) (by rfl) _ _ (by rfl) (by rfl) (by rfl) ?_; intro v3 w3 O3 hb; have B3 := Lib.hid (hb.out _ _ (B2.out.alloc B2.out.size _) (Nat.le_refl _)); clear hb)
    | (refine wpList_appL W0.heap.size v3 _ O3.out (.slice (some ⟨w.heap.size, 0, none⟩) 32 32) seed (HSB.out _ _ _ (K0.out.keep B3.out K0.out.lt)) (by have := HSD.out; simp [S7.hd]; omega) B3.out.size (by rfl) _ _ (by rfl) (by rfl) (by rfl) ?_; intro v4 w4 O4 hb; have B4 := Lib.hid (hb.out _ _ B3.out (Nat.le_refl _)); have T4 := Lib.hid (B0.out.trans (B4.out.mono B0.out.size)); clear hb)
    | (go_at_call 52; refine (HS.out _ _ (hT.below T4.out hp) (O4.out.bytes HLT.out)).mono ?_; rintro e w5 ⟨rfl, hb5⟩; have R5 := Lib.hid ((R0.out.keep B4.out R0.out.lt).keep hb5 (R0.out.keep B4.out R0.out.lt).lt); have T5 := Lib.hid (T4.out.trans (hb5.mono T4.out.size)); clear hb5)
    | (refine sto_bs info16u _ H HHL.out _ R5.out (by rw [bsC_size]; exact z16_len) (by rfl) _ _ (by rfl) (by rfl) (by rfl) ?_; intro w6 hw6))
  have hf : Blk w6 (w.heap.size + 1) 22 (bsC H) := by rw [hw6.out]; exact R5.out.row _
  have hfB : Below w.heap.size w w6 := by rw [hw6.out]; exact below_row T5.out _ (by omega) _
  exact bodyPost_ret (results_cell_row rfl _ _ (w.heap.size + 1) _ _ _ _ rfl hf Tryd.underlying22 rfl (by rw [bsC_size, HHL.out]; exact info16u)) rfl ⟨by rw [HHE.out], hfB⟩
end Go.Proofs.YtgfolgmheinbiaaDoorRRR
