/- The reference's Hex, as it is cut here. -/
import Derived.Test.YtpkbceelbppleaaDoorHex
import Derived.Deep.RegionLaw
namespace Go.Proofs.YtpkbceelbppleaaDoor
open Go.RowKit

theorem news_ok (w : World) (cs : List Value) (t : TypeId) : ∀ j u, cs[j]? = some u → (w.alloc (.cells cs.toArray t)).cell? ((⟨w.heap.size, 0, none⟩ : Addr).add j) = some u := by
  intro j u hj
  have : (⟨w.heap.size, 0, none⟩ : Addr).add j = ⟨w.heap.size, j, none⟩ := by unfold Addr.add; split <;> simp_all
  rw [this]
  simpa using hj

theorem step_append_byte {ops : Array Oper} {o : Oper} {a : Act} {w : World} {K : Act → World → Prop} {Q : Exit → Act → World → Prop} {E : Prop} (hgd : o.guard = none) (s x : Operand)
    (ho : o.op = .call { callee := .builtin .append, args := #[s, x], argTypes := #[22, 22] })
    (base : Nat) (v : Value) (xs : List UInt8) (hs : a.eval s = v) (hown : w.ownsRow base 5 1 v xs.length (Lib.byteCells xs)) (ad : Addr) (m c : Nat) (ys : List UInt8) (hm : ys.length = m) (hx : a.eval x = .slice (some ad) m c) (hc : ∀ j u, (Lib.byteCells ys)[j]? = some u → w.cell? (ad.add j) = some u)
    (hn : xs.length + m ≤ 1000000000) (hbase : base ≤ w.heap.size)
    (h : ∀ v' w', Hid (w'.ownsRow base 5 1 v' (xs ++ ys).length (Lib.byteCells (xs ++ ys))) → Hid (w.grownBy w' v.ownBlock) → K (a.put o.dst v') w') : if Region.wanted o (yielded ops a.tmps) = true then Oper.wp Tryd.prog o a w K Q else E := by
  obtain ⟨i0, hi, hz0, hz1, hz2⟩ := info_partsM infoU8
  have hw : Region.wanted o (yielded ops a.tmps) = true := by simp [Region.wanted, hgd]
  rw [if_pos hw]
  refine wp_append_own w s x 22 ho base 5 i0 (.int .u8 0) 1 1 Tryd.underlying22 hi hz0 hz1 hz2 rfl (by decide) v xs.length (Lib.byteCells xs) hs hown ad m c (Lib.byteCells ys) hx (by rw [Lib.byteCells_length]; omega) hc (fun u hu => ?_) (by unfold maxLen; omega) (by omega) hbase
    (fun v' w' h2 h3 _ => h v' w' (Lib.hid (by rw [List.length_append, Lib.byteCells_append, hm]; exact h2)) (Lib.hid h3))
  simp only [Lib.byteCells, List.mem_map] at hu
  obtain ⟨z, _, rfl⟩ := hu
  rfl

theorem conv_row {W : World} {base n : Nat} {v : Value} {l : List UInt8} (h : W.ownsRow base 5 1 v n (Lib.byteCells l)) : (convert 22 9 v).run Tryd.prog W = .ok (.string ⟨l.toArray⟩) W := by
  have hlen := h.1
  rw [Lib.byteCells_length, Nat.mul_one] at hlen
  rcases h.2 with ⟨rfl, h0⟩ | ⟨g, cap, cur, rfl, hg, hh, hn, hm, hs, ht⟩
  · have : l = [] := List.length_eq_zero_iff.1 (by omega)
    subst this
    exact run_convert_bytes_nil W 22 5 Tryd.underlying22 Tryd.underlying5 _ _ 9 Tryd.underlying9
  · subst hlen
    refine run_convert_bytes_back (P := Tryd.prog) W 22 9 5 ⟨g, 0, none⟩ cap l Tryd.underlying22 Tryd.underlying5 Tryd.underlying9 (fun j hj => ?_)
    exact h.cells (g := g) rfl j _ (by simp [Lib.byteCells, List.getElem?_eq_getElem hj])

set_option maxHeartbeats 1000000 in
theorem refHex_any (v : Value) (l : List Nat) (w : World) (hv : Bytes w v l) (hl : l.length ≤ 1000) (t : ByteArray) (ht : t = ⟨(Asc.hexL l).toArray⟩) :
    Calls Tryd.prog 24 #[v] w fun e w' => e = .returned (.string t) ∧ Below w.heap.size w w' := by
  obtain ⟨hby, x, cap, rfl, hcap, _, _, hcells⟩ := hv
  have hlI : (l.length : Int) ≤ 1000 := by omega
  have HT := Lib.hid ht
  clear ht
  go_enter Tryd.func24, Tryd.ntmps24
  go_wp2_with fail
  go_loopw [3, 4] (fun o i wr => ∃ (k : Nat) (v : Value), v = o ∧ i = .int .i64 k ∧ k ≤ l.length ∧ wr.ownsRow w.heap.size 5 1 v (Asc.hexL (l.take k)).length (Lib.byteCells (Asc.hexL (l.take k))) ∧ Below w.heap.size w wr) (fun _ i _ => l.length - (intOf i).toNat)
  case atStart => exact ⟨0, _, rfl, rfl, Nat.zero_le _, World.ownsRow_nil _ _ _ _, Below.refl _ _⟩
  case round =>
    obtain ⟨k, v, rfl, rfl, hk, hI, hbel⟩ := hrel
    have hsz : w.heap.size ≤ wr.heap.size := hbel.size
    by_cases hlt : k < l.length
    · obtain ⟨b, off, rfl, hc⟩ := hcells k hlt
      have hbl : b < w.heap.size := World.block_lt_of_cell? w _ hc
      have hcr : wr.cell? ⟨b, off + k, none⟩ = some (.int .u8 (l.getD k 0)) := (hbel.cell (p := ⟨b, off + k, none⟩) hbl).trans hc
      have hts := take_snoc l k hlt
      obtain ⟨y, hy⟩ : ∃ y, y = l.getD k 0 := ⟨_, rfl⟩
      have hy2 : y < 256 := by
        rw [hy, List.getD_eq_getElem?_getD, List.getElem?_eq_getElem hlt]
        exact hby _ (List.getElem_mem hlt)
      rw [← hy] at hcr hts
      obtain ⟨q, hq⟩ : ∃ q, q = y / 16 := ⟨_, rfl⟩
      obtain ⟨r, hr⟩ : ∃ r, r = y % 16 := ⟨_, rfl⟩
      have e1 : IntKind.u8.wrap ((y : Int) / 16) = (q : Int) := by
        rw [hq]; simp [IntKind.wrap, IntKind.bits, IntKind.signed]; omega
      have e2 : (y : Int).tmod 16 = (r : Int) := by
        rw [hr, Int.tmod_eq_emod_of_nonneg (by omega)]; omega
      have hi1 := fun w => run_hex q (by omega) w .u8
      have hi2 := fun w => run_hex r (by omega) w .u8
      have hb1 := hexL_len (l.take k)
      have hb2 : (l.take k).length ≤ k := List.length_take_le _ _
      obtain ⟨hs, hhs⟩ : ∃ hs, hs = Asc.hexL (l.take k) := ⟨_, rfl⟩
      have hnext : Asc.hexL (l.take (k + 1)) = hs ++ [Asc.hc q, Asc.hc r] := by rw [hts, hexL_snoc, ← hq, ← hr, hhs]
      rw [← hhs] at hI hb1
      have hroom : hs.length + 2 ≤ 1000000000 := by omega
      have hbase : ∀ o, w.heap.size ≤ (wr.drew.alloc o).heap.size := fun o => by simp; omega
      have hltI : (k : Int) < (l.length : Int) := by omega
      have hnews := news_ok wr.drew (Lib.byteCells [Asc.hc q, Asc.hc r]) 5
      have HN := Lib.hid hnext; have HRM := Lib.hid hroom; have HB := Lib.hid hbase; have HI := Lib.hid hI; have HNW := Lib.hid hnews
      clear hnext hroom hbase hts hy hq hr hb1 hb2 hc hcells hI hnews hhs
      go_wp2_with fail
      go_region_law (refine step_append_byte rfl (.tmp 11) (.tmp 24) rfl w.heap.size v hs (by simp [Act.eval]) (HI.out.alloc _) ⟨wr.heap.size, 0, none⟩ 2 2 [Asc.hc q, Asc.hc r] rfl (by simp [Act.eval]) HNW.out HRM.out (HB.out _) ?_; intro v2 w2 ho2 hg2)
      all_goals
        go_wp2_with fail
        go_roundw
        case rel => exact ⟨k + 1, _, rfl, by go_num, hlt, by rw [HN.out]; exact ho2.out, ((hbel.drew).alloc hsz _).grown hg2.out (HB.out _) (fun j hj => (HI.out.lt j hj).1)⟩
        case measure => simp [intOf]; omega
    · have hfull : l.take k = l := List.take_of_length_le (by omega)
      rw [hfull] at hI
      have hcv := conv_row hI
      rw [← HT.out] at hcv
      clear hI hfull
      go_wp2_with fail
      go_ret
      exact ⟨rfl, hbel⟩
end Go.Proofs.YtpkbceelbppleaaDoor
