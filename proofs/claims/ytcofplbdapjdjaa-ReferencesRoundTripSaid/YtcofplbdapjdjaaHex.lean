/- ascii.Hex, as it is cut here. -/
import Derived.Test.YtcofplbdapjdjaaShelf
import Derived.Test.YtcofplbdapjdjaaRow8
import Derived.Test.YtcofplbdapjdjaaHexPlain
import Derived.Laws.BitsAllLaws
import Derived.Laws.BytesArg
namespace Go.Proofs.Ytcofplbdapjdjaa
open Go.RowKit

theorem ret_str {a b : ByteArray} (h : a = b) : Ending.returned (.string a) = .returned (.string b) := by rw [h]

theorem hexL_snoc (l : List Nat) (y : Nat) : Asc.hexL (l ++ [y]) = Asc.hexL l ++ [Asc.hc (y / 16), Asc.hc (y % 16)] := by simp [Asc.hexL]
theorem hexL_len (l : List Nat) : (Asc.hexL l).length = 2 * l.length := by
  induction l with
  | nil => rfl
  | cons x l ih =>
    have e : Asc.hexL (x :: l) = Asc.hc (x / 16) :: Asc.hc (x % 16) :: Asc.hexL l := by simp [Asc.hexL]
    rw [e]; simp [ih]; omega

theorem take_snoc (l : List Nat) (k : Nat) (hk : k < l.length) : l.take (k + 1) = l.take k ++ [l.getD k 0] := by
  rw [List.take_succ_eq_append_getElem hk, List.getD_eq_getElem?_getD, List.getElem?_eq_getElem hk]; rfl

theorem hexS_get : ∀ q : Fin 16, ((⟨#[48, 49, 50, 51, 52, 53, 54, 55, 56, 57, 97, 98, 99, 100, 101, 102]⟩ : ByteArray)[q.val]'(by have := q.isLt; show q.val < 16; exact this)).toNat = (Asc.hc q.val).toNat := by decide +kernel

theorem run_hex (q : Nat) (hq : q < 16) (w : World) (k : IntKind) : (Instr.index 9 (.string ⟨#[48, 49, 50, 51, 52, 53, 54, 55, 56, 57, 97, 98, 99, 100, 101, 102]⟩) (.int k (q : Int))).run Try.prog w = .ok (.int .u8 ((Asc.hc q).toNat : Int)) w := by
  have h := hexS_get ⟨q, hq⟩
  have hs : (⟨#[48, 49, 50, 51, 52, 53, 54, 55, 56, 57, 97, 98, 99, 100, 101, 102]⟩ : ByteArray).size = 16 := rfl
  have hn : (0 : Int) ≤ (q : Int) ∧ (q : Int) < ((16 : Nat) : Int) := by omega
  simp only at h
  simp [Instr.index, run_underlying Try.underlying9, asIntOf, hs, hn, go_sem]
  rw [getElem?_pos (⟨#[48, 49, 50, 51, 52, 53, 54, 55, 56, 57, 97, 98, 99, 100, 101, 102]⟩ : ByteArray) q hq]
  simp [h]

set_option maxHeartbeats 1000000 in
theorem hex_any (v : Value) (l : List Nat) (w : World) (hv : Bytes w v l) (hl : l.length ≤ 1000000) (t : ByteArray) (ht : t = ⟨(Asc.hexL l).toArray⟩) :
    Calls Try.prog 62 #[v] w fun e w' => e = .returned (.string t) ∧ Below w.heap.size w w' := by
  obtain ⟨hby, x, cap, rfl, hcap, _, _, hcells⟩ := hv
  have hlI : (l.length : Int) ≤ 1000000 := by omega
  have HT := Lib.hid ht
  have hb0 := Lib.IsBuilderF.of (Lib.fresh_isBuilder 92 5 w)
  have hbw : Below w.heap.size w (w.alloc (.cells #[.pointer none, .slice none 0 0] 92)) := (Below.refl _ w).alloc (Nat.le_refl _) _
  clear ht
  go_enter Try.func62, Try.ntmps62
  go_wp2_with fail
  go_loopw [8] (fun i wr => ∃ k : Nat, i = .int .i64 k ∧ k ≤ l.length ∧ Lib.IsBuilderF 92 5 w.heap.size w.heap.size (Lib.byteCells (Asc.hexL (l.take k))) wr ∧ Below w.heap.size w wr) (fun i _ => l.length - (intOf i).toNat)
  case atStart => exact ⟨0, rfl, Nat.zero_le _, hb0, hbw⟩
  case round =>
    clear hb0 hbw
    obtain ⟨k, rfl, hk, hI, hbel⟩ := hrel
    have hsz : w.heap.size ≤ wr.heap.size := hbel.size
    by_cases hlt : k < l.length
    · obtain ⟨b, off, rfl, hc⟩ := hcells k hlt
      have hbl : b < w.heap.size := World.block_lt_of_cell? w _ hc
      have hcr : wr.cell? ⟨b, off + k, none⟩ = some (.int .u8 (l.getD k 0)) := (hbel.cell (p := ⟨b, off + k, none⟩) hbl).trans hc
      have hts := take_snoc l k hlt
      obtain ⟨y, hy⟩ : ∃ y, y = l.getD k 0 := ⟨_, rfl⟩
      have hy2 : y < 256 := by
        rw [hy, List.getD_eq_getElem?_getD, List.getElem?_eq_getElem hlt]
        exact hby _ (List.getElem_mem hlt)
      rw [← hy] at hcr hts
      obtain ⟨q, hq⟩ : ∃ q, q = y / 16 := ⟨_, rfl⟩
      obtain ⟨r, hr⟩ : ∃ r, r = y % 16 := ⟨_, rfl⟩
      have hsh : Op.shift .shr .u8 (y : Int) .u64 4 = pure (.int .u8 (q : Int)) := by
        rw [shift_shr_u8 _ _ _ (by decide) (by decide), hq]; rfl
      have hand : bits .and .u8 (y : Int) 15 = (r : Int) := by
        have := u8_and_nat y 15 hy2 (by omega)
        rw [show ((15 : Nat) : Int) = 15 from rfl] at this
        rw [this, hr, Nat.and_two_pow_sub_one_eq_mod y 4]
      have hi1 := fun w => run_hex q (by omega) w .u8
      have hi2 := fun w => run_hex r (by omega) w .u8
      have hb1 := hexL_len (l.take k)
      have hb2 : (l.take k).length ≤ k := List.length_take_le _ _
      have hroom : (Lib.byteCells (Asc.hexL (l.take k))).length + 1 ≤ 140737488355328 := by rw [Lib.byteCells_length]; omega
      have hroom2 : (Lib.byteCells (Asc.hexL (l.take k)) ++ [Value.int .u8 ((Asc.hc q).toNat : Int)]).length + 1 ≤ 140737488355328 := by rw [List.length_append, Lib.byteCells_length]; simp; omega
      have hnext : Lib.byteCells (Asc.hexL (l.take (k + 1))) = Lib.byteCells (Asc.hexL (l.take k)) ++ [Value.int .u8 ((Asc.hc q).toNat : Int)] ++ [Value.int .u8 ((Asc.hc r).toNat : Int)] := by
        rw [hts, hexL_snoc, ← hq, ← hr]; simp [Lib.byteCells]
      have HN := Lib.hid hnext; have HR1 := Lib.hid hroom; have HR2 := Lib.hid hroom2; have HI := Lib.hid hI
      clear hnext hroom hroom2 hts hy hq hr hb1 hb2 hc hcells hI
      go_wp2_with fail
      refine (Try.Builder_WriteByte_k _ _ _ _ _ HI.out HR1.out hsz).mono ?_
      rintro e w2 ⟨rfl, hI2, hbel2, _⟩
      have HI2 := Lib.hid hI2
      have hb12 := hbel.trans hbel2
      have hsz2 : w.heap.size ≤ w2.heap.size := hb12.size
      clear hI2 hbel2
      go_wp2_with fail
      refine (Try.Builder_WriteByte_k _ _ _ _ _ (.inr HI2.out) HR2.out hsz2).mono ?_
      rintro e w3 ⟨rfl, hI3, hbel3, _⟩
      have HI3 := Lib.hid hI3
      clear hI3
      go_wp2_with fail
      go_roundw
      case rel => exact ⟨k + 1, by go_num, hlt, by rw [HN.out]; exact .inr HI3.out, hb12.trans hbel3⟩
      case measure => simp [intOf]; omega
    · have hfull : l.take k = l := List.take_of_length_le (by omega)
      rw [hfull] at hI
      have HI := Lib.hid hI
      clear hI hfull
      go_wp2_with fail
      refine (Try.Builder_String_any_f _ _ _ _ HI.out hsz).mono ?_
      rintro e w2 ⟨rfl, _, hb2⟩
      go_wp2_with fail
      go_ret
      exact ⟨ret_str HT.out.symm, hbel.trans hb2⟩

end Go.Proofs.Ytcofplbdapjdjaa
