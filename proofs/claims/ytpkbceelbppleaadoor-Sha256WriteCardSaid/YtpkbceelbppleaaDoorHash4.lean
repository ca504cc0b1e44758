/- Hash: Write of a piece that does not fill the block. -/
import Derived.Test.YtpkbceelbppleaaDoorHash3
namespace Go.Proofs.YtpkbceelbppleaaDoor
open Go.RowKit

theorem Bytes.putA {w : World} {x : Option Addr} {n c : Nat} {l : List Nat} (h : Bytes w (.slice x n c) l) (g j : Nat) (u : Value) (hg : 0 < l.length → ∀ a, x = some a → a.block ≠ g) : Bytes (w.setCell ⟨g, j, none⟩ u) (.slice x n c) l := by
  obtain ⟨h1, y, cap, hv, hl, hm, hn, hc⟩ := h
  refine ⟨h1, y, cap, hv, hl, hm, hn, fun i hi => ?_⟩
  obtain ⟨b', o', e, h0⟩ := hc i hi
  have e1 := (Value.slice.inj hv).1
  rw [e] at e1
  have hne := hg (by omega) _ e1
  refine ⟨b', o', e, ?_⟩
  rw [World.cell?_setCell_other (h := by intro hh; exact hne (congrArg Addr.block hh).symm), h0]

theorem front_len {w : World} {g : Nat} {s : S5.St} {r : List Nat} {n n' : Nat} (hr : r.length = 64) (h : Blk w g 66 (hashC s r n)) : Blk (w.setCell ⟨g, 72, none⟩ (.int .i64 n')) g 66 (hashC s r n') := by
  have := h.put 72 (.int .i64 n')
  rwa [hashC_set_n s r n n' hr] at this

theorem But.copy {g : Nat} {w w1 w2 : World} (h : But g w w1) (ho : ∀ k, k ≠ g → w2.heap[k]? = w1.heap[k]?) (hb : ∀ B w0, Below B w0 w1 → B ≤ g → Below B w0 w2) : But g w w2 := by
  obtain ⟨a1, a2, a3, a4, a5⟩ := h
  have h0 := hb 0 w1 (Below.refl 0 w1) (Nat.zero_le _)
  exact ⟨h0.os.trans a1, h0.tape.trans a2, h0.output.trans a3, Nat.le_trans a4 h0.size, fun k hk hn => (ho k (by intro e; exact hn (congrArg some e))).trans (a5 k hk hn)⟩
theorem copy_hash {w : World} {g : Nat} {s : S5.St} {r x : List Nat} {n h k : Nat} (hr : r.length = 64) (hx : x.length = k) (hk : h + k ≤ 64) (hB : Blk w g 66 ((hashC s r n).toList.take (8 + h) ++ (byteVals x ++ (hashC s r n).toList.drop (8 + h + k))).toArray) :
    Blk w g 66 (hashC s (r.take h ++ (x ++ r.drop (h + x.length))) n) := by
  have := hashC_copy s r x n h hr (by omega)
  rw [← this, hx]
  exact hB

set_option maxRecDepth 100000 in
set_option maxHeartbeats 2000000 in
theorem write_small (w : World) (g : Nat) (l : List Nat) (h : HashIs w g l) (x : Option Addr) (kb c : Nat) (b : List Nat) (hkb : b.length = kb) (hv : Bytes w (.slice x kb c) b) (hvg : 0 < b.length → ∀ a, x = some a → a.block ≠ g) (hsm : l.length % 64 + kb < 64) (hmax2 : l.length + kb ≤ 900000000) :
    Calls Tryd.prog 20 #[.pointer (some ⟨g, 0, none⟩), .slice x kb c] w fun e w' => e = .returned (.int .i64 0) ∧ Hid (HashIs w' g (l ++ b)) ∧ Hid (But g w w') := by
  obtain ⟨r, hr, hrb, htl, hmax, hB⟩ := h
  obtain ⟨s, hs⟩ : ∃ s, s = S5.runAll S5.K S5.init l := ⟨_, rfl⟩
  obtain ⟨n, hn⟩ : ∃ n, n = l.length := ⟨_, rfl⟩
  obtain ⟨n2, hn2⟩ : ∃ n2, n2 = n + kb := ⟨_, rfl⟩
  obtain ⟨m, hm⟩ : ∃ m, m = n % 64 := ⟨_, rfl⟩
  rw [← hs, ← hn] at hB
  have hms := S5.more_small S5.K S5.init l b (by omega)
  have HFIN := Lib.hid (show ∀ W, Blk W g 66 (hashC s (r.take m ++ (b.take kb ++ r.drop (m + (b.take kb).length))) n2) → HashIs W g (l ++ b) from fun W hW => by
    have hbk : b.take kb = b := List.take_of_length_le (by omega)
    rw [hbk] at hW
    refine ⟨_, ?_, ?_, ?_, ?_, by rw [hms.1, ← hs, List.length_append, ← hn, hkb, ← hn2]; exact hW⟩
    · simp; omega
    · intro z hz
      rcases List.mem_append.1 hz with hz | hz
      · exact hrb z (List.mem_of_mem_take hz)
      · rcases List.mem_append.1 hz with hz | hz
        · exact hv.1 z hz
        · exact hrb z (List.mem_of_mem_drop hz)
    · rw [hms.2, List.length_append, ← hn, hkb, show (n + kb) % 64 = m + kb by omega, ← htl, ← hn, ← hm]
      have e1 : (r.take m).length = m := by rw [List.length_take]; omega
      rw [← List.append_assoc, List.take_append, List.length_append, e1, hkb, Nat.sub_self, List.take_zero, List.append_nil, List.take_of_length_le (by rw [List.length_append, e1, hkb]; exact Nat.le_refl _)]
    · rw [List.length_append]; omega)
  have K := Lib.hid hB
  have cn : w.cell? ⟨g, 72, none⟩ = some (.int .i64 n) := by rw [hB.cell, hashC_n hr]
  have fn : w.frozen? ⟨g, 72, none⟩ = false := hB.free 72
  have hrem : (n : Int).tmod 64 = (m : Int) := by rw [Int.tmod_eq_emod_of_nonneg (by omega)]; omega
  have hsum : (n : Int) + (kb : Int) = (n2 : Int) := by omega
  have hmI : (m : Int) ≤ 64 := by omega
  have hlt : (m : Int) + (kb : Int) < 64 := by omega
  have hn2I : (n2 : Int) ≤ 1000000000 := by omega
  have HV := Lib.hid hv; have HVG := Lib.hid hvg; have HR := Lib.hid hr
  have HMK := Lib.hid (show kb = min b.length (64 - m) by omega)
  have HM := Lib.hid (show m + kb ≤ 64 by omega)
  have HKB := Lib.hid hkb
  clear hs hn hn2 hm hms htl hrb hmax hB hr hv hvg hsm hmax2 hkb
  go_enter Tryd.func20, Tryd.ntmps20
  go_upto_region 5 with (fail)
  generalize hw1 : w.setCell ⟨g, 72, none⟩ (.int .i64 (n2 : Int)) = w1
  have K1 := Lib.hid (show Blk w1 g 66 (hashC s r n2) by rw [← hw1]; exact front_len HR.out K.out)
  have V1 := Lib.hid (show Bytes w1 (.slice x kb c) b by rw [← hw1]; exact HV.out.putA g 72 _ HVG.out)
  have U1 := Lib.hid (show But g w w1 by rw [← hw1]; exact (But.refl g w).put 72 _)
  clear hw1 cn fn
  go_wp2_with (refine wpList_copy_at g (8 + m) (64 - m) (64 - m) _ _ K1.out _ b V1.out kb HMK.out (by rw [hashC_size _ _ _ HR.out]; have := HM.out; omega) (by rfl) _ _ (by rfl) (by rfl) (by rfl) ?_; intro w2 hw2 hw2o hw2b; have K2 := Lib.hid (copy_hash HR.out (by rw [List.length_take, HKB.out]; exact Nat.min_self _) HM.out hw2.out); have U2 := Lib.hid (U1.out.copy hw2o.out hw2b.out); clear hw2 hw2o hw2b)
  go_ret
  exact ⟨rfl, Lib.hid (HFIN.out _ K2.out), U2⟩
end Go.Proofs.YtpkbceelbppleaaDoor
