/- The program's calls that check their arguments: Secret, Advance, Step, Compress. (Written by mk_wrap7.py.) -/
import Derived.Test.YtgfolgmheinbiaaDoorRRRComp7
namespace Go.Proofs.YtgfolgmheinbiaaDoorRRR
open Go.RowKit

def lfB (n : Int) : Bool := decide (0 ≤ n ∧ n ≤ 65535)
def chB (n : Int) : Bool := decide (0 ≤ n ∧ n ≤ 34)
theorem lfB_nat {n : Int} (h : lfB n = true) : ∃ m : Nat, n = (m : Int) ∧ m ≤ 65535 := by
  unfold lfB at h
  have := of_decide_eq_true h
  exact ⟨n.toNat, by omega, by omega⟩
theorem chB_nat {n : Int} (h : chB n = true) : ∃ m : Nat, n = (m : Int) ∧ m ≤ 34 := by
  unfold chB at h
  have := of_decide_eq_true h
  exact ⟨n.toNat, by omega, by omega⟩
theorem lfB_of (m : Nat) (h : m ≤ 65535) : lfB (m : Int) = true := by unfold lfB; exact decide_eq_true (by omega)
theorem chB_of (m : Nat) (h : m ≤ 34) : chB (m : Int) = true := by unfold chB; exact decide_eq_true (by omega)
theorem chk_of {n m : Int} {b : Bool} (h : b = decide (0 ≤ n ∧ n ≤ m)) : b = true ∧ 0 ≤ n ∧ n ≤ m ∨ b = false ∧ (n < 0 ∨ m < n) := by
  by_cases hh : 0 ≤ n ∧ n ≤ m
  · exact .inl ⟨by rw [h]; exact decide_eq_true hh, hh.1, hh.2⟩
  · exact .inr ⟨by rw [h]; exact decide_eq_false hh, by omega⟩

theorem isLeaf_any (n : Int) (w : World) : Calls Tryd.prog 37 #[.int .i64 n] w fun e w' => e = .returned (.bool (lfB n)) ∧ w = w' := by
  have h : lfB n = decide (0 ≤ n ∧ n ≤ 65535) := rfl
  obtain ⟨b, hb⟩ : ∃ b, b = lfB n := ⟨_, rfl⟩
  rw [← hb] at h ⊢
  rcases chk_of h with ⟨rfl, h1, h2⟩ | ⟨rfl, h1⟩
  · clear h hb
    have h9 : n < 65536 := by omega
    go_enter Tryd.func37, Tryd.ntmps37
    go_wp2_with fail
    go_ret
    exact ⟨rfl, rfl⟩
  · clear h hb
    rcases h1 with h1 | h1
    · have h2 : ¬ 0 ≤ n := by omega
      go_enter Tryd.func37, Tryd.ntmps37
      go_wp2_with fail
      go_ret
      exact ⟨rfl, rfl⟩
    · have h2 : 0 ≤ n := by omega
      have h3 : ¬ n ≤ 65535 := by omega
      go_enter Tryd.func37, Tryd.ntmps37
      go_wp2_with fail
      go_ret
      exact ⟨rfl, rfl⟩

theorem isChain_any (n : Int) (w : World) : Calls Tryd.prog 38 #[.int .i64 n] w fun e w' => e = .returned (.bool (chB n)) ∧ w = w' := by
  have h : chB n = decide (0 ≤ n ∧ n ≤ 34) := rfl
  obtain ⟨b, hb⟩ : ∃ b, b = chB n := ⟨_, rfl⟩
  rw [← hb] at h ⊢
  rcases chk_of h with ⟨rfl, h1, h2⟩ | ⟨rfl, h1⟩
  · clear h hb
    have h9 : n < 35 := by omega
    go_enter Tryd.func38, Tryd.ntmps38
    go_wp2_with fail
    go_ret
    exact ⟨rfl, rfl⟩
  · clear h hb
    rcases h1 with h1 | h1
    · have h2 : ¬ 0 ≤ n := by omega
      go_enter Tryd.func38, Tryd.ntmps38
      go_wp2_with fail
      go_ret
      exact ⟨rfl, rfl⟩
    · have h2 : 0 ≤ n := by omega
      have h3 : ¬ n < 35 := by omega
      go_enter Tryd.func38, Tryd.ntmps38
      go_wp2_with fail
      go_ret
      exact ⟨rfl, rfl⟩

theorem results_cell_tmp {fn : Func} {p u : Tmp} {ty : TypeId} {P : Program} (h : fn.results = #[.cell p ty, .tmp u]) (tmps : Array Value) (w : World) (g : Nat) (t : TypeId) (cs : Array Value) (fr : Nat × Nat) (d : TypeDesc)
    (hp : tmps.getD p undef = .pointer (some ⟨g, 0, none⟩)) (hg : w.heap[g]? = some (.cells cs t fr))
    (hd : d.isRow = true) (hu : P.underlying ty = some d) (hi : (P.info? ty).map (·.size) = some cs.size) :
    (results fn tmps).run P w = .ok (.tuple #[.agg cs, tmps.getD u undef]) w := by
  have hp' : tmps[p]?.getD undef = .pointer (some ⟨g, 0, none⟩) := by simpa using hp
  have hr := run_loadVar_mid (P := P) w g 0 ty cs.toList d (fun j v hv => by rw [Nat.zero_add, cell_of_row w g j cs t fr hg]; simpa using hv) hu hd (by simpa using hi)
  simp only [Array.toArray_toList] at hr
  simp [results, h, hp', asAddr, hr]

set_option maxRecDepth 100000 in
set_option maxHeartbeats 4000000 in
theorem Secret_no (D : List Int) (leaf c : Int) (h : lfB leaf = false ∨ lfB leaf = true ∧ chB c = false) (w : World) : Calls Tryd.prog 17 #[.agg (bsC D), .int .i64 leaf, .int .i64 c] w fun e w' => e = .returned (.tuple #[.agg (bsC z16), .int .i64 2]) ∧ Below w.heap.size w w' := by
  have HLF := Lib.hid isLeaf_any; have HCH := Lib.hid isChain_any

  obtain ⟨Z, hZ⟩ : ∃ Z, Z = z16 := ⟨_, rfl⟩
  have HZL := Lib.hid (show Z.length = 16 by rw [hZ]; exact z16_len)
  have HZ := Lib.hid hZ
  clear hZ
  rcases h with h1 | ⟨h1, h2⟩
  · go_enter Tryd.func17, Tryd.ntmps17
    go_upto_region 1 with (fail)
    change Code.wp Tryd.prog _ _ _ ((w.alloc (.cells (bsC D) 31)).alloc (.cells (bsC z16) 22))
    generalize hW0 : (w.alloc (.cells (bsC D) 31)).alloc (.cells (bsC z16) 22) = W0
    obtain ⟨hb1, hb2, hB0⟩ := boxes2 w hW0
    have K0 := Lib.hid hb1; have R0 := Lib.hid hb2; have B0 := Lib.hid hB0
    clear hW0 hB0 hb1 hb2
    go_wp2_with (first
      | (go_at_call 37; refine (HLF.out _ _).mono ?_; rintro e w9 ⟨rfl, rfl⟩)
      | (go_at_call 38; refine (HCH.out _ _).mono ?_; rintro e w9 ⟨rfl, rfl⟩)
      | (refine sto_bs info16u _ z16 z16_len _ R0.out (by rw [bsC_size]; exact z16_len) (by rfl) _ _ (by rfl) (by rfl) (by rfl) ?_; intro w6 hw6))
    have hf : Blk w6 (w.heap.size + 1) 22 (bsC z16) := by rw [hw6.out]; exact R0.out.row _
    have hfB : Below w.heap.size w w6 := by rw [hw6.out]; exact below_row B0.out _ (by omega) _
    exact bodyPost_ret (results_cell_tmp rfl _ _ (w.heap.size + 1) _ _ _ _ rfl hf (by rfl) Tryd.underlying22 (by rw [bsC_size, z16_len]; exact info16u)) rfl ⟨rfl, hfB⟩
  · go_enter Tryd.func17, Tryd.ntmps17
    go_upto_region 1 with (fail)
    change Code.wp Tryd.prog _ _ _ ((w.alloc (.cells (bsC D) 31)).alloc (.cells (bsC z16) 22))
    generalize hW0 : (w.alloc (.cells (bsC D) 31)).alloc (.cells (bsC z16) 22) = W0
    obtain ⟨hb1, hb2, hB0⟩ := boxes2 w hW0
    have K0 := Lib.hid hb1; have R0 := Lib.hid hb2; have B0 := Lib.hid hB0
    clear hW0 hB0 hb1 hb2
    go_wp2_with (first
      | (go_at_call 37; refine (HLF.out _ _).mono ?_; rintro e w9 ⟨rfl, rfl⟩)
      | (go_at_call 38; refine (HCH.out _ _).mono ?_; rintro e w9 ⟨rfl, rfl⟩)
      | (refine sto_bs info16u _ z16 z16_len _ R0.out (by rw [bsC_size]; exact z16_len) (by rfl) _ _ (by rfl) (by rfl) (by rfl) ?_; intro w6 hw6))
    have hf : Blk w6 (w.heap.size + 1) 22 (bsC z16) := by rw [hw6.out]; exact R0.out.row _
    have hfB : Below w.heap.size w w6 := by rw [hw6.out]; exact below_row B0.out _ (by omega) _
    exact bodyPost_ret (results_cell_tmp rfl _ _ (w.heap.size + 1) _ _ _ _ rfl hf (by rfl) Tryd.underlying22 (by rw [bsC_size, z16_len]; exact info16u)) rfl ⟨rfl, hfB⟩

set_option maxRecDepth 100000 in
set_option maxHeartbeats 4000000 in
theorem Advance_no (D : List Int) (leaf c p q : Int) (h : lfB leaf = false ∨ lfB leaf = true ∧ chB c = false ∨ lfB leaf = true ∧ chB c = true ∧ p < 0 ∨ lfB leaf = true ∧ chB c = true ∧ ¬ p < 0 ∧ q < p ∨ lfB leaf = true ∧ chB c = true ∧ ¬ p < 0 ∧ ¬ q < p ∧ 15 < q) (w : World) : Calls Tryd.prog 21 #[.int .i64 leaf, .int .i64 c, .int .i64 p, .int .i64 q, .agg (bsC D)] w fun e w' => e = .returned (.tuple #[.agg (bsC z16), .int .i64 2]) ∧ Below w.heap.size w w' := by
  have HLF := Lib.hid isLeaf_any; have HCH := Lib.hid isChain_any

  obtain ⟨Z, hZ⟩ : ∃ Z, Z = z16 := ⟨_, rfl⟩
  have HZL := Lib.hid (show Z.length = 16 by rw [hZ]; exact z16_len)
  have HZ := Lib.hid hZ
  clear hZ
  rcases h with h1 | ⟨h1, h2⟩ | ⟨h1, h2, h3⟩ | ⟨h1, h2, h3, h4⟩ | ⟨h1, h2, h3, h4, h5⟩
  · go_enter Tryd.func21, Tryd.ntmps21
    go_upto_region 1 with (fail)
    change Code.wp Tryd.prog _ _ _ ((w.alloc (.cells (bsC D) 22)).alloc (.cells (bsC z16) 22))
    generalize hW0 : (w.alloc (.cells (bsC D) 22)).alloc (.cells (bsC z16) 22) = W0
    obtain ⟨hb1, hb2, hB0⟩ := boxes2 w hW0
    have K0 := Lib.hid hb1; have R0 := Lib.hid hb2; have B0 := Lib.hid hB0
    clear hW0 hB0 hb1 hb2
    go_wp2_with (first
      | (go_at_call 37; refine (HLF.out _ _).mono ?_; rintro e w9 ⟨rfl, rfl⟩)
      | (go_at_call 38; refine (HCH.out _ _).mono ?_; rintro e w9 ⟨rfl, rfl⟩)
      | (refine sto_bs info16u _ z16 z16_len _ R0.out (by rw [bsC_size]; exact z16_len) (by rfl) _ _ (by rfl) (by rfl) (by rfl) ?_; intro w6 hw6))
    have hf : Blk w6 (w.heap.size + 1) 22 (bsC z16) := by rw [hw6.out]; exact R0.out.row _
    have hfB : Below w.heap.size w w6 := by rw [hw6.out]; exact below_row B0.out _ (by omega) _
    exact bodyPost_ret (results_cell_tmp rfl _ _ (w.heap.size + 1) _ _ _ _ rfl hf (by rfl) Tryd.underlying22 (by rw [bsC_size, z16_len]; exact info16u)) rfl ⟨rfl, hfB⟩
  · go_enter Tryd.func21, Tryd.ntmps21
    go_upto_region 1 with (fail)
    change Code.wp Tryd.prog _ _ _ ((w.alloc (.cells (bsC D) 22)).alloc (.cells (bsC z16) 22))
    generalize hW0 : (w.alloc (.cells (bsC D) 22)).alloc (.cells (bsC z16) 22) = W0
    obtain ⟨hb1, hb2, hB0⟩ := boxes2 w hW0
    have K0 := Lib.hid hb1; have R0 := Lib.hid hb2; have B0 := Lib.hid hB0
    clear hW0 hB0 hb1 hb2
    go_wp2_with (first
      | (go_at_call 37; refine (HLF.out _ _).mono ?_; rintro e w9 ⟨rfl, rfl⟩)
      | (go_at_call 38; refine (HCH.out _ _).mono ?_; rintro e w9 ⟨rfl, rfl⟩)
      | (refine sto_bs info16u _ z16 z16_len _ R0.out (by rw [bsC_size]; exact z16_len) (by rfl) _ _ (by rfl) (by rfl) (by rfl) ?_; intro w6 hw6))
    have hf : Blk w6 (w.heap.size + 1) 22 (bsC z16) := by rw [hw6.out]; exact R0.out.row _
    have hfB : Below w.heap.size w w6 := by rw [hw6.out]; exact below_row B0.out _ (by omega) _
    exact bodyPost_ret (results_cell_tmp rfl _ _ (w.heap.size + 1) _ _ _ _ rfl hf (by rfl) Tryd.underlying22 (by rw [bsC_size, z16_len]; exact info16u)) rfl ⟨rfl, hfB⟩
  · go_enter Tryd.func21, Tryd.ntmps21
    go_upto_region 1 with (fail)
    change Code.wp Tryd.prog _ _ _ ((w.alloc (.cells (bsC D) 22)).alloc (.cells (bsC z16) 22))
    generalize hW0 : (w.alloc (.cells (bsC D) 22)).alloc (.cells (bsC z16) 22) = W0
    obtain ⟨hb1, hb2, hB0⟩ := boxes2 w hW0
    have K0 := Lib.hid hb1; have R0 := Lib.hid hb2; have B0 := Lib.hid hB0
    clear hW0 hB0 hb1 hb2
    go_wp2_with (first
      | (go_at_call 37; refine (HLF.out _ _).mono ?_; rintro e w9 ⟨rfl, rfl⟩)
      | (go_at_call 38; refine (HCH.out _ _).mono ?_; rintro e w9 ⟨rfl, rfl⟩)
      | (refine sto_bs info16u _ z16 z16_len _ R0.out (by rw [bsC_size]; exact z16_len) (by rfl) _ _ (by rfl) (by rfl) (by rfl) ?_; intro w6 hw6))
    have hf : Blk w6 (w.heap.size + 1) 22 (bsC z16) := by rw [hw6.out]; exact R0.out.row _
    have hfB : Below w.heap.size w w6 := by rw [hw6.out]; exact below_row B0.out _ (by omega) _
    exact bodyPost_ret (results_cell_tmp rfl _ _ (w.heap.size + 1) _ _ _ _ rfl hf (by rfl) Tryd.underlying22 (by rw [bsC_size, z16_len]; exact info16u)) rfl ⟨rfl, hfB⟩
  · go_enter Tryd.func21, Tryd.ntmps21
    go_upto_region 1 with (fail)
    change Code.wp Tryd.prog _ _ _ ((w.alloc (.cells (bsC D) 22)).alloc (.cells (bsC z16) 22))
    generalize hW0 : (w.alloc (.cells (bsC D) 22)).alloc (.cells (bsC z16) 22) = W0
    obtain ⟨hb1, hb2, hB0⟩ := boxes2 w hW0
    have K0 := Lib.hid hb1; have R0 := Lib.hid hb2; have B0 := Lib.hid hB0
    clear hW0 hB0 hb1 hb2
    go_wp2_with (first
      | (go_at_call 37; refine (HLF.out _ _).mono ?_; rintro e w9 ⟨rfl, rfl⟩)
      | (go_at_call 38; refine (HCH.out _ _).mono ?_; rintro e w9 ⟨rfl, rfl⟩)
      | (refine sto_bs info16u _ z16 z16_len _ R0.out (by rw [bsC_size]; exact z16_len) (by rfl) _ _ (by rfl) (by rfl) (by rfl) ?_; intro w6 hw6))
    have hf : Blk w6 (w.heap.size + 1) 22 (bsC z16) := by rw [hw6.out]; exact R0.out.row _
    have hfB : Below w.heap.size w w6 := by rw [hw6.out]; exact below_row B0.out _ (by omega) _
    exact bodyPost_ret (results_cell_tmp rfl _ _ (w.heap.size + 1) _ _ _ _ rfl hf (by rfl) Tryd.underlying22 (by rw [bsC_size, z16_len]; exact info16u)) rfl ⟨rfl, hfB⟩
  · go_enter Tryd.func21, Tryd.ntmps21
    go_upto_region 1 with (fail)
    change Code.wp Tryd.prog _ _ _ ((w.alloc (.cells (bsC D) 22)).alloc (.cells (bsC z16) 22))
    generalize hW0 : (w.alloc (.cells (bsC D) 22)).alloc (.cells (bsC z16) 22) = W0
    obtain ⟨hb1, hb2, hB0⟩ := boxes2 w hW0
    have K0 := Lib.hid hb1; have R0 := Lib.hid hb2; have B0 := Lib.hid hB0
    clear hW0 hB0 hb1 hb2
    go_wp2_with (first
      | (go_at_call 37; refine (HLF.out _ _).mono ?_; rintro e w9 ⟨rfl, rfl⟩)
      | (go_at_call 38; refine (HCH.out _ _).mono ?_; rintro e w9 ⟨rfl, rfl⟩)
      | (refine sto_bs info16u _ z16 z16_len _ R0.out (by rw [bsC_size]; exact z16_len) (by rfl) _ _ (by rfl) (by rfl) (by rfl) ?_; intro w6 hw6))
    have hf : Blk w6 (w.heap.size + 1) 22 (bsC z16) := by rw [hw6.out]; exact R0.out.row _
    have hfB : Below w.heap.size w w6 := by rw [hw6.out]; exact below_row B0.out _ (by omega) _
    exact bodyPost_ret (results_cell_tmp rfl _ _ (w.heap.size + 1) _ _ _ _ rfl hf (by rfl) Tryd.underlying22 (by rw [bsC_size, z16_len]; exact info16u)) rfl ⟨rfl, hfB⟩

set_option maxRecDepth 100000 in
set_option maxHeartbeats 4000000 in
theorem Compress_no (D : List Int) (leaf : Int) (h : lfB leaf = false) (w : World) : Calls Tryd.prog 25 #[.int .i64 leaf, .agg (bsC D)] w fun e w' => e = .returned (.tuple #[.agg (bsC z16), .int .i64 2]) ∧ Below w.heap.size w w' := by
  have HLF := Lib.hid isLeaf_any; have HCH := Lib.hid isChain_any
  have h : lfB leaf = false ∨ False := .inl h
  obtain ⟨Z, hZ⟩ : ∃ Z, Z = z16 := ⟨_, rfl⟩
  have HZL := Lib.hid (show Z.length = 16 by rw [hZ]; exact z16_len)
  have HZ := Lib.hid hZ
  clear hZ
  rcases h with h1 | h0
  rotate_left
  · exact absurd h0 id
  · go_enter Tryd.func25, Tryd.ntmps25
    go_upto_region 1 with (fail)
    change Code.wp Tryd.prog _ _ _ ((w.alloc (.cells (bsC D) 51)).alloc (.cells (bsC z16) 22))
    generalize hW0 : (w.alloc (.cells (bsC D) 51)).alloc (.cells (bsC z16) 22) = W0
    obtain ⟨hb1, hb2, hB0⟩ := boxes2 w hW0
    have K0 := Lib.hid hb1; have R0 := Lib.hid hb2; have B0 := Lib.hid hB0
    clear hW0 hB0 hb1 hb2
    go_wp2_with (first
      | (go_at_call 37; refine (HLF.out _ _).mono ?_; rintro e w9 ⟨rfl, rfl⟩)
      | (go_at_call 38; refine (HCH.out _ _).mono ?_; rintro e w9 ⟨rfl, rfl⟩)
      | (refine sto_bs info16u _ z16 z16_len _ R0.out (by rw [bsC_size]; exact z16_len) (by rfl) _ _ (by rfl) (by rfl) (by rfl) ?_; intro w6 hw6))
    have hf : Blk w6 (w.heap.size + 1) 22 (bsC z16) := by rw [hw6.out]; exact R0.out.row _
    have hfB : Below w.heap.size w w6 := by rw [hw6.out]; exact below_row B0.out _ (by omega) _
    exact bodyPost_ret (results_cell_tmp rfl _ _ (w.heap.size + 1) _ _ _ _ rfl hf (by rfl) Tryd.underlying22 (by rw [bsC_size, z16_len]; exact info16u)) rfl ⟨rfl, hfB⟩

set_option maxRecDepth 100000 in
set_option maxHeartbeats 4000000 in
theorem Secret_ok (seed : List Nat) (hs : seed.length = 32) (hsb : ∀ x ∈ seed, x < 256) (leaf c : Nat) (hl : leaf ≤ 65535) (hc : c ≤ 34) (w : World) (hT : Tab w) : Calls Tryd.prog 17 #[.agg (bsC (nI seed)), .int .i64 leaf, .int .i64 c] w fun e w' => e = .returned (.tuple #[.agg (bsC (nI (S7.sec seed leaf c))), .int .i64 0]) ∧ Below w.heap.size w w' := by
  have hp := hT.1
  have HLF := Lib.hid isLeaf_any; have HCH := Lib.hid isChain_any
  have h1 := lfB_of leaf hl
  have h2 := chB_of c hc
  have HS := Lib.hid (fun W hT => secret_any seed hs hsb leaf c hl hc W hT)
  obtain ⟨V, hV⟩ : ∃ V, V = nI (S7.sec seed leaf c) := ⟨_, rfl⟩
  obtain ⟨D, hD⟩ : ∃ D, D = nI seed := ⟨_, rfl⟩
  have HDL := Lib.hid (show D.length = 32 by rw [hD, nI_len, hs])
  have HVL := Lib.hid (show V.length = 16 by rw [hV, nI_len]; exact S7.half_len _)
  rw [← hV, ← hD] at HS
  rw [← hD]
  have HVE := Lib.hid hV
  clear hV hD hs hsb
  go_enter Tryd.func17, Tryd.ntmps17
  go_upto_region 1 with (fail)
  change Code.wp Tryd.prog _ _ _ ((w.alloc (.cells (bsC D) 31)).alloc (.cells (bsC z16) 22))
  generalize hW0 : (w.alloc (.cells (bsC D) 31)).alloc (.cells (bsC z16) 22) = W0
  obtain ⟨hb1, hb2, hB0⟩ := boxes2 w hW0
  have K0 := Lib.hid hb1; have R0 := Lib.hid hb2; have B0 := Lib.hid hB0
  clear hW0 hB0 hb1 hb2
  go_wp2_with (first
    | (go_at_call 37; refine (HLF.out _ _).mono ?_; rintro e w9 ⟨rfl, rfl⟩)
    | (go_at_call 38; refine (HCH.out _ _).mono ?_; rintro e w9 ⟨rfl, rfl⟩)
    | (refine ld_bs Tryd.underlying31 info32u _ D HDL.out K0.out (by rfl) _ (by rfl) (by rfl) ?_)
    | (go_at_call 39; refine (HS.out _ (hT.below B0.out hp)).mono ?_; rintro e w5 ⟨rfl, hb5⟩; have R5 := Lib.hid (R0.out.keep hb5 R0.out.lt); have T5 := Lib.hid (B0.out.trans (hb5.mono B0.out.size)); clear hb5)
    | (refine sto_bs info16u _ V HVL.out _ R5.out (by rw [bsC_size]; exact z16_len) (by rfl) _ _ (by rfl) (by rfl) (by rfl) ?_; intro w6 hw6))
  have hf : Blk w6 (w.heap.size + 1) 22 (bsC V) := by rw [hw6.out]; exact R5.out.row _
  have hfB : Below w.heap.size w w6 := by rw [hw6.out]; exact below_row T5.out _ (by omega) _
  exact bodyPost_ret (results_cell_tmp rfl _ _ (w.heap.size + 1) _ _ _ _ rfl hf (by rfl) Tryd.underlying22 (by rw [bsC_size, HVL.out]; exact info16u)) rfl ⟨by rw [HVE.out]; rfl, hfB⟩

set_option maxRecDepth 100000 in
set_option maxHeartbeats 4000000 in
theorem Advance_ok (leaf c p n : Nat) (v : List Nat) (hv : v.length = 16) (hvb : ∀ x ∈ v, x < 256) (hl : leaf ≤ 65535) (hc : c ≤ 34) (han : p + n ≤ 15) (w : World) (hT : Tab w) : Calls Tryd.prog 21 #[.int .i64 leaf, .int .i64 c, .int .i64 p, .int .i64 (p + n : Nat), .agg (bsC (nI v))] w fun e w' => e = .returned (.tuple #[.agg (bsC (nI (S7.adv leaf c p n v))), .int .i64 0]) ∧ Below w.heap.size w w' := by
  have hp := hT.1
  have HLF := Lib.hid isLeaf_any; have HCH := Lib.hid isChain_any
  have h1 := lfB_of leaf hl
  have h2 := chB_of c hc
  have HS := Lib.hid (fun W hT => advance_any leaf c p n v hv hvb hl hc han W hT)
  obtain ⟨V, hV⟩ : ∃ V, V = nI (S7.adv leaf c p n v) := ⟨_, rfl⟩
  obtain ⟨D, hD⟩ : ∃ D, D = nI v := ⟨_, rfl⟩
  have HDL := Lib.hid (show D.length = 16 by rw [hD, nI_len, hv])
  have HVL := Lib.hid (show V.length = 16 by rw [hV, nI_len]; exact S7.adv_len _ _ _ _ _ hv)
  rw [← hV, ← hD] at HS
  rw [← hD]
  have HVE := Lib.hid hV
  obtain ⟨q, hq⟩ : ∃ q, q = p + n := ⟨_, rfl⟩
  rw [← hq] at HS han ⊢
  have h3 : ¬ (p : Int) < 0 := by omega
  have h4 : ¬ (q : Int) < (p : Int) := by omega
  have h5 : ¬ (15 : Int) < (q : Int) := by omega
  have h6 : ¬ q < p := by omega
  clear hV hD hv hvb hq
  go_enter Tryd.func21, Tryd.ntmps21
  go_upto_region 1 with (fail)
  change Code.wp Tryd.prog _ _ _ ((w.alloc (.cells (bsC D) 22)).alloc (.cells (bsC z16) 22))
  generalize hW0 : (w.alloc (.cells (bsC D) 22)).alloc (.cells (bsC z16) 22) = W0
  obtain ⟨hb1, hb2, hB0⟩ := boxes2 w hW0
  have K0 := Lib.hid hb1; have R0 := Lib.hid hb2; have B0 := Lib.hid hB0
  clear hW0 hB0 hb1 hb2
  go_wp2_with (first
    | (go_at_call 37; refine (HLF.out _ _).mono ?_; rintro e w9 ⟨rfl, rfl⟩)
    | (go_at_call 38; refine (HCH.out _ _).mono ?_; rintro e w9 ⟨rfl, rfl⟩)
    | (refine ld_bs Tryd.underlying22 info16u _ D HDL.out K0.out (by rfl) _ (by rfl) (by rfl) ?_)
    | (go_at_call 42; refine (HS.out _ (hT.below B0.out hp)).mono ?_; rintro e w5 ⟨rfl, hb5⟩; have R5 := Lib.hid (R0.out.keep hb5 R0.out.lt); have T5 := Lib.hid (B0.out.trans (hb5.mono B0.out.size)); clear hb5)
    | (refine sto_bs info16u _ V HVL.out _ R5.out (by rw [bsC_size]; exact z16_len) (by rfl) _ _ (by rfl) (by rfl) (by rfl) ?_; intro w6 hw6))
  have hf : Blk w6 (w.heap.size + 1) 22 (bsC V) := by rw [hw6.out]; exact R5.out.row _
  have hfB : Below w.heap.size w w6 := by rw [hw6.out]; exact below_row T5.out _ (by omega) _
  exact bodyPost_ret (results_cell_tmp rfl _ _ (w.heap.size + 1) _ _ _ _ rfl hf (by rfl) Tryd.underlying22 (by rw [bsC_size, HVL.out]; exact info16u)) rfl ⟨by rw [HVE.out]; rfl, hfB⟩

set_option maxRecDepth 100000 in
set_option maxHeartbeats 4000000 in
theorem Compress_ok (leaf : Nat) (E : List Nat) (hE : E.length = 560) (hEb : ∀ x ∈ E, x < 256) (hl : leaf ≤ 65535) (w : World) (hT : Tab w) : Calls Tryd.prog 25 #[.int .i64 leaf, .agg (bsC (nI E))] w fun e w' => e = .returned (.tuple #[.agg (bsC (nI (S7.comp leaf E))), .int .i64 0]) ∧ Below w.heap.size w w' := by
  have hp := hT.1
  have HLF := Lib.hid isLeaf_any; have HCH := Lib.hid isChain_any
  have h1 := lfB_of leaf hl
  have HS := Lib.hid (fun W hT => compress_any leaf E hE hEb hl W hT)
  obtain ⟨V, hV⟩ : ∃ V, V = nI (S7.comp leaf E) := ⟨_, rfl⟩
  obtain ⟨D, hD⟩ : ∃ D, D = nI E := ⟨_, rfl⟩
  have HDL := Lib.hid (show D.length = 560 by rw [hD, nI_len, hE])
  have HVL := Lib.hid (show V.length = 16 by rw [hV, nI_len]; exact S7.half_len _)
  rw [← hV, ← hD] at HS
  rw [← hD]
  have HVE := Lib.hid hV
  clear hV hD hE hEb
  go_enter Tryd.func25, Tryd.ntmps25
  go_upto_region 1 with (fail)
  change Code.wp Tryd.prog _ _ _ ((w.alloc (.cells (bsC D) 51)).alloc (.cells (bsC z16) 22))
  generalize hW0 : (w.alloc (.cells (bsC D) 51)).alloc (.cells (bsC z16) 22) = W0
  obtain ⟨hb1, hb2, hB0⟩ := boxes2 w hW0
  have K0 := Lib.hid hb1; have R0 := Lib.hid hb2; have B0 := Lib.hid hB0
  clear hW0 hB0 hb1 hb2
  go_wp2_with (first
    | (go_at_call 37; refine (HLF.out _ _).mono ?_; rintro e w9 ⟨rfl, rfl⟩)
    | (go_at_call 38; refine (HCH.out _ _).mono ?_; rintro e w9 ⟨rfl, rfl⟩)
    | (refine ld_any Tryd.underlying51 infoVs _ D HDL.out K0.out (by rfl) _ (by rfl) (by rfl) ?_)
    | (go_at_call 43; refine (HS.out _ (hT.below B0.out hp)).mono ?_; rintro e w5 ⟨rfl, hb5⟩; have R5 := Lib.hid (R0.out.keep hb5 R0.out.lt); have T5 := Lib.hid (B0.out.trans (hb5.mono B0.out.size)); clear hb5)
    | (refine sto_bs info16u _ V HVL.out _ R5.out (by rw [bsC_size]; exact z16_len) (by rfl) _ _ (by rfl) (by rfl) (by rfl) ?_; intro w6 hw6))
  have hf : Blk w6 (w.heap.size + 1) 22 (bsC V) := by rw [hw6.out]; exact R5.out.row _
  have hfB : Below w.heap.size w w6 := by rw [hw6.out]; exact below_row T5.out _ (by omega) _
  exact bodyPost_ret (results_cell_tmp rfl _ _ (w.heap.size + 1) _ _ _ _ rfl hf (by rfl) Tryd.underlying22 (by rw [bsC_size, HVL.out]; exact info16u)) rfl ⟨by rw [HVE.out]; rfl, hfB⟩

end Go.Proofs.YtgfolgmheinbiaaDoorRRR
