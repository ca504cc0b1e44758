/- The program's Parse. -/
import Derived.Test.YtcofplbdapjdjaaCmp
import Derived.Test.YtcofplbdapjdjaaBelongs
import Derived.Test.YtcofplbdapjdjaaUnhex
import Derived.Test.YtcofplbdapjdjaaCopy
namespace Mid
/-- the answer of Parse -/
def parse (s : List UInt8) : List Nat × Nat × Nat :=
  match bad 0 s with
  | some i => (zN, i, 6)
  | none => if s.length < 71 then (zN, s.length, 4) else if 71 < s.length then (zN, 71, 5) else (idL s, 0, 0)
theorem parse_bad (s : List UInt8) (i : Nat) (h : bad 0 s = some i) : parse s = (zN, i, 6) := by unfold parse; rw [h]
theorem parse_short (s : List UInt8) (h : bad 0 s = none) (h2 : s.length < 71) : parse s = (zN, s.length, 4) := by unfold parse; rw [h]; simp only; rw [if_pos h2]
theorem parse_long (s : List UInt8) (h : bad 0 s = none) (h2 : 71 < s.length) : parse s = (zN, 71, 5) := by unfold parse; rw [h]; simp only; rw [if_neg (by omega), if_pos h2]
theorem parse_ok (s : List UInt8) (h : bad 0 s = none) (h2 : s.length = 71) : parse s = (idL s, 0, 0) := by unfold parse; rw [h]; simp only; rw [if_neg (by omega), if_neg (by omega)]
theorem bad_end (s : List UInt8) (k : Nat) (h : k = min s.length 71) : bad k (s.drop k) = none := by
  by_cases h7 : k < 71
  · rw [List.drop_eq_nil_of_le (by omega)]; rfl
  · cases s.drop k with
    | nil => rfl
    | cons c r => rw [bad, if_neg h7]
theorem parse_len (s : List UInt8) (v : List Nat) (a b : Nat) (h : parse s = (v, a, b)) : v.length = 32 ∧ ∀ x ∈ v, x < 256 := by
  have hz : zN.length = 32 ∧ ∀ x ∈ zN, x < 256 := ⟨by decide, by decide⟩
  unfold parse at h
  split at h
  · obtain ⟨rfl, _⟩ := Prod.mk.inj h; exact hz
  · split at h
    · obtain ⟨rfl, _⟩ := Prod.mk.inj h; exact hz
    · split at h
      · obtain ⟨rfl, _⟩ := Prod.mk.inj h; exact hz
      · obtain ⟨rfl, _⟩ := Prod.mk.inj h; exact ⟨idL_len s, idL_lt s⟩
end Mid
namespace Go.Proofs.Ytcofplbdapjdjaa
open Go.RowKit

theorem results_cell_tmp2 {fn : Func} {p u v : Tmp} {ty : TypeId} {P : Program} (h : fn.results = #[.cell p ty, .tmp u, .tmp v]) (tmps : Array Value) (w : World) (g : Nat) (t : TypeId) (cs : Array Value) (fr : Nat × Nat) (d : TypeDesc)
    (hp : tmps.getD p undef = .pointer (some ⟨g, 0, none⟩)) (hg : w.heap[g]? = some (.cells cs t fr))
    (hd : d.isRow = true) (hu : P.underlying ty = some d) (hi : (P.info? ty).map (·.size) = some cs.size) :
    (results fn tmps).run P w = .ok (.tuple #[.agg cs, tmps.getD u undef, tmps.getD v undef]) w := by
  have hp' : tmps[p]?.getD undef = .pointer (some ⟨g, 0, none⟩) := by simpa using hp
  have hr := run_loadVar_mid (P := P) w g 0 ty cs.toList d (fun j v hv => by rw [Nat.zero_add, cell_of_row w g j cs t fr hg]; simpa using hv) hu hd (by simpa using hi)
  simp only [Array.toArray_toList] at hr
  simp [results, h, hp', asAddr, hr]

theorem triple_inj {α β γ : Type} {a a' : α} {b b' : β} {c c' : γ} (h : (a, b, c) = (a', b', c')) : a = a' ∧ b = b' ∧ c = c' := by
  injection h with h1 h2
  injection h2 with h2 h3
  exact ⟨h1, h2, h3⟩

theorem nI_zN : nI Mid.zN = zD := rfl

theorem cop32 {w1 : World} {g : Nat} {t : TypeId} (l : List Nat) (hl : l.length = 32) (h : Blk w1 g t ((bsC zD).toList.take 0 ++ (byteVals (l.take 32) ++ (bsC zD).toList.drop (0 + 32))).toArray) : Blk w1 g t (bsC (nI l)) := by
  have e : ((bsC zD).toList.take 0 ++ (byteVals (l.take 32) ++ (bsC zD).toList.drop (0 + 32))).toArray = bsC (nI l) := by
    have h2 : (bsC zD).toList.drop (0 + 32) = [] := by
      apply List.drop_eq_nil_of_le
      show (bsC zD).size ≤ 32
      rw [bsC_size, zD_len]
      exact Nat.le_refl _
    rw [h2, List.take_zero, List.nil_append, List.append_nil, List.take_of_length_le (by omega)]
    unfold byteVals bsC nI
    rw [List.map_map]
    rfl
  rwa [e] at h

set_option maxRecDepth 100000 in
set_option maxHeartbeats 2000000 in
theorem parse_any (s : ByteArray) (hm : s.size ≤ 100000) (v : List Nat) (a b : Nat) (hp : Mid.parse s.data.toList = (v, a, b)) (w : World) :
    Calls Try.prog 38 #[.string s] w fun e w' => e = .returned (.tuple #[.agg (bsC (nI v)), .int .i64 a, .int .i64 b]) ∧ Below w.heap.size w w' := by
  obtain ⟨m, hmin⟩ : ∃ m, m = min s.size 71 := ⟨_, rfl⟩
  have hminI : min (s.size : Int) 71 = (m : Int) := by omega
  have HM := Lib.hid hmin; have HP := Lib.hid hp; have HS := Lib.hid hm
  have HV := Lib.hid (Mid.parse_len _ _ _ _ hp)
  clear hp hm hmin
  go_enter Try.func38, Try.ntmps38
  go_upto_region 1 with (fail)
  change Code.wp Try.prog _ _ _ (w.alloc (.cells (bsC zD) 46))
  have k0 := Blk.fresh w 46 (bsC zD)
  have hB : Below w.heap.size w (w.alloc (.cells (bsC zD) 46)) := (Below.refl _ w).alloc (Nat.le_refl _) _
  generalize w.alloc (.cells (bsC zD) 46) = W0 at *
  have K0 := Lib.hid k0; have B0 := Lib.hid hB
  clear k0 hB
  go_wp2_with fail
  have hm71 : (m : Int) ≤ 71 := by have := HM.out; omega
  clear hminI
  go_loopw [11] (fun i wr => ∃ k : Nat, i = .int .i64 k ∧ k ≤ m ∧ W0 = wr ∧ Hid (Mid.bad 0 s.data.toList = Mid.bad k (s.data.toList.drop k))) (fun i _ => m - (intOf i).toNat)
  case atStart => exact ⟨0, rfl, Nat.zero_le _, rfl, Lib.hid rfl⟩
  case round =>
    obtain ⟨k, rfl, hk, rfl, hf⟩ := hrel
    by_cases hlt : k < m
    · have hks : k < s.size := by have := HM.out; omega
      have hk7 : k < 71 := by have := HM.out; omega
      have hst := Mid.bad_step s.data.toList k (by rw [size_toList]; exact hks) hk7
      rw [← hf.out, get_toList s k hks] at hst
      obtain ⟨x, hx⟩ : ∃ x, s[k] = x := ⟨_, rfl⟩
      have i1 := fun w => run_at s k hks x hx w
      rw [hx] at hst
      have h1 := fun w => belongs_any x k hk7 w
      generalize Mid.good x k = q at *
      have H1 := Lib.hid h1; have HST := Lib.hid hst
      clear h1 hst hf hx hk7
      have hksI : (k : Int) < (s.size : Int) := by omega
      have hltI : (k : Int) < (m : Int) := by omega
      cases q with
      | true =>
        go_wp2_with fail
        refine (H1.out _).mono ?_
        rintro e w' ⟨rfl, rfl⟩
        go_wp2_with fail
        go_roundw
        case rel => exact ⟨k + 1, by go_num, hlt, by first | rfl | trivial, Lib.hid (by rw [HST.out]; rfl)⟩
        case measure => simp [intOf]; omega
      | false =>
        have hres := HP.out
        rw [Mid.parse_bad _ k HST.out] at hres
        obtain ⟨e1, e2, e3⟩ := triple_inj hres
        subst e1 e2 e3
        clear hres
        go_wp2_with fail
        refine (H1.out _).mono ?_
        rintro e w' ⟨rfl, rfl⟩
        go_wp2_with (first
          | (refine wp_build_id (by rfl) (by rfl) ?_)
          | (refine sto_bs infoId _ zD zD_len _ K0.out (by rw [bsC_size]; exact zD_len) (by rfl) _ _ (by rfl) (by rfl) (by rfl) ?_; intro w5 hw5))
        have hfin : Blk w5 w.heap.size 46 (bsC zD) := by rw [hw5.out]; exact K0.out.row _
        have hfB : Below w.heap.size w w5 := by rw [hw5.out]; exact below_row B0.out _ (Nat.le_refl _) _
        exact bodyPost_ret (results_cell_tmp2 rfl _ _ w.heap.size _ _ _ _ rfl hfin (by rfl) Try.underlying46 (by rw [bsC_size, zD_len]; exact infoId)) rfl ⟨rfl, hfB⟩
    · have hkm : k = m := by omega
      have hnone : Mid.bad 0 s.data.toList = none := by rw [hf.out]; exact Mid.bad_end _ k (by rw [size_toList, hkm]; exact HM.out)
      have HN := Lib.hid hnone
      clear hnone hkm hf
      by_cases h1 : s.size < 71
      · have h1I : (s.size : Int) < 71 := by omega
        have hres := HP.out
        rw [Mid.parse_short _ HN.out (by rw [size_toList]; exact h1), size_toList] at hres
        obtain ⟨e1, e2, e3⟩ := triple_inj hres
        subst e1 e2 e3
        clear hres h1
        go_wp2_with (first
          | (refine wp_build_id (by rfl) (by rfl) ?_)
          | (refine sto_bs infoId _ zD zD_len _ K0.out (by rw [bsC_size]; exact zD_len) (by rfl) _ _ (by rfl) (by rfl) (by rfl) ?_; intro w5 hw5))
        have hfin : Blk w5 w.heap.size 46 (bsC zD) := by rw [hw5.out]; exact K0.out.row _
        have hfB : Below w.heap.size w w5 := by rw [hw5.out]; exact below_row B0.out _ (Nat.le_refl _) _
        exact bodyPost_ret (results_cell_tmp2 rfl _ _ w.heap.size _ _ _ _ rfl hfin (by rfl) Try.underlying46 (by rw [bsC_size, zD_len]; exact infoId)) rfl ⟨rfl, hfB⟩
      · have h1I : ¬ (s.size : Int) < 71 := by omega
        by_cases h2 : 71 < s.size
        · have h2I : (71 : Int) < (s.size : Int) := by omega
          have hres := HP.out
          rw [Mid.parse_long _ HN.out (by rw [size_toList]; exact h2)] at hres
          obtain ⟨e1, e2, e3⟩ := triple_inj hres
          subst e1 e2 e3
          clear hres h1 h2
          go_wp2_with (first
            | (refine wp_build_id (by rfl) (by rfl) ?_)
            | (refine sto_bs infoId _ zD zD_len _ K0.out (by rw [bsC_size]; exact zD_len) (by rfl) _ _ (by rfl) (by rfl) (by rfl) ?_; intro w5 hw5))
          have hfin : Blk w5 w.heap.size 46 (bsC zD) := by rw [hw5.out]; exact K0.out.row _
          have hfB : Below w.heap.size w w5 := by rw [hw5.out]; exact below_row B0.out _ (Nat.le_refl _) _
          exact bodyPost_ret (results_cell_tmp2 rfl _ _ w.heap.size _ _ _ _ rfl hfin (by rfl) Try.underlying46 (by rw [bsC_size, zD_len]; exact infoId)) rfl ⟨rfl, hfB⟩
        · have h2I : ¬ (71 : Int) < (s.size : Int) := by omega
          have h71 : s.data.toList.length = 71 := by rw [size_toList]; omega
          have hres := HP.out
          rw [Mid.parse_ok _ HN.out h71] at hres
          obtain ⟨hv, e2, e3⟩ := triple_inj hres
          subst e2 e3
          have hu := Mid.unhex_mid _ h71 HN.out
          have hex : (s.extract 1 65).data.toList = (s.data.toList.drop 1).take 64 := by rw [Lib.extract_data]
          have hsz : (s.extract 1 65).size ≤ 100000 := by rw [← size_toList, hex]; simp; omega
          have HU := Lib.hid (fun w => unhex_any (s.extract 1 65) w hsz)
          rw [hex, hu, hv] at HU
          have h65 : (65 : Int) ≤ (s.size : Int) := by omega
          have HVL := Lib.hid HV.out.1
          clear hres h1 h2 h71 hu hex hsz hv
          go_wp2_with fail
          refine (HU.out _).mono ?_
          rintro e w4 ⟨y, rfl, hby, hb4⟩
          have K4 := Lib.hid (K0.out.keep hb4 K0.out.lt)
          have B4 := Lib.hid (B0.out.trans (hb4.mono B0.out.size))
          have HBY := Lib.hid hby
          have HVN := Lib.hid (show (nI v).length = 32 by rw [nI_len]; exact HVL.out)
          clear hby hb4
          go_wp2_with (first
            | (refine wpList_copy_at w.heap.size 0 32 32 46 _ K4.out y v HBY.out 32 (by have := HVL.out; omega) (by rw [bsC_size, zD_len]; exact Nat.le_refl _) (by rfl) _ _ (by rfl) (by rfl) (by rfl) ?_; intro w5 hc5 _ hb5; have K5 := Lib.hid (cop32 v HVL.out hc5.out); have B5 := Lib.hid (hb5.out _ _ B4.out (Nat.le_refl _)); clear hc5 hb5)
            | (refine ld_bs Try.underlying46 infoId _ (nI v) HVN.out K5.out (by rfl) _ (by rfl) (by rfl) ?_)
            | (refine sto_bs infoId _ (nI v) HVN.out _ K5.out (by rw [bsC_size]; exact HVN.out) (by rfl) _ _ (by rfl) (by rfl) (by rfl) ?_; intro w6 hw6))
          have hfin : Blk w6 w.heap.size 46 (bsC (nI v)) := by rw [hw6.out]; exact K5.out.row _
          have hfB : Below w.heap.size w w6 := by rw [hw6.out]; exact below_row B5.out _ (Nat.le_refl _) _
          exact bodyPost_ret (results_cell_tmp2 rfl _ _ w.heap.size _ _ _ _ rfl hfin (by rfl) Try.underlying46 (by rw [bsC_size, HVN.out]; exact infoId)) rfl ⟨rfl, hfB⟩
end Go.Proofs.Ytcofplbdapjdjaa
