/- The program's digitsOf and Print. -/
import Derived.Test.YtcofplbdapjdjaaCmp
import Derived.Test.YtcofplbdapjdjaaMidPlain
import Derived.Test.YtcofplbdapjdjaaHex
import Derived.Lib.BufferWrite
namespace Mid
/-- the digits of an identity, as numbers and as integers -/
def hxN (l : List Nat) : List Nat := (Asc.hexL l).map fun c => c.toNat
theorem hxN_len (l : List Nat) (h : l.length = 32) : (hxN l).length = 64 := by simp [hxN, hexL_length, h]
theorem hxN_lt (l : List Nat) : ∀ x ∈ hxN l, x < 256 := by
  intro x hx
  simp only [hxN, List.mem_map] at hx
  obtain ⟨c, _, rfl⟩ := hx
  exact c.toNat_lt
theorem hxN_back (l : List Nat) : (hxN l).map UInt8.ofNat = Asc.hexL l := by
  unfold hxN
  rw [List.map_map]
  conv => rhs; rw [← List.map_id (Asc.hexL l)]
  apply List.map_congr_left
  intro c _
  simp
end Mid
namespace Go.Proofs.Ytcofplbdapjdjaa
open Go.RowKit

theorem info64 : (Try.prog.info? 87).map (·.size) = some 64 := by kernel_rfl
def z64 : List Int := List.replicate 64 0
theorem z64_len : z64.length = 64 := by decide

theorem string_row (tx : ByteArray) (cur : Array Value) (n : Nat) (h1 : cur.size = n) (h2 : tx.size = n) (hx : List Nat) (hh : tx.data.toList = hx.map UInt8.ofNat) (hlt : ∀ x ∈ hx, x < 256) :
    (cur.toList.take 0 ++ Lib.byteCells tx.data.toList ++ cur.toList.drop (0 + tx.size)).toArray = bsC (nI hx) := by
  rw [List.take_zero, List.nil_append, List.drop_eq_nil_of_le (by simp; omega), List.append_nil, hh]
  unfold Lib.byteCells bsC nI
  rw [List.map_map, List.map_map]
  congr 1
  apply List.map_congr_left
  intro x hx
  have := hlt x hx
  simp
  omega

theorem step_copy_str {ops : Array Oper} {o : Oper} {a : Act} {w : World} {K : Act → World → Prop} {Q : Exit → Act → World → Prop} {E : Prop} (hgd : o.guard = none) (d s : Operand)
    (ho : o.op = .call { callee := .builtin .copy, args := #[d, s], argTypes := #[89, 9] })
    (g n : Nat) (t : TypeId) (cur : Array Value) (hB : Blk w g t cur) (hc : cur.size = n) (tx : ByteArray) (htx : tx.size = n) (hx : List Nat) (hh : tx.data.toList = hx.map UInt8.ofNat) (hlt : ∀ x ∈ hx, x < 256)
    (hd : a.eval d = .slice (some ⟨g, 0, none⟩) n n) (hs : a.eval s = .string tx)
    (hk : ∀ w', Hid (w' = w.setRow g (bsC (nI hx))) → K (a.put o.dst (goInt n)) w') : if Region.wanted o (yielded ops a.tmps) = true then Oper.wp Try.prog o a w K Q else E := by
  have hw : Region.wanted o (yielded ops a.tmps) = true := by simp [Region.wanted, hgd]
  rw [if_pos hw]
  have hrun := Lib.run_copy_row_string (P := Try.prog) w 89 9 o.type 5 g 0 n n tx cur t Try.underlying89 (by kernel_rfl) hB (by omega) (by omega)
  rw [string_row tx cur n hc htx hx hh hlt, htx] at hrun
  unfold Oper.wp
  simp [execOp, ho, resolve, invoke, builtin, hd, hs, hrun, Result.andThen]
  exact hk _ (Lib.hid rfl)

set_option maxRecDepth 100000 in
set_option maxHeartbeats 1000000 in
theorem digits_any (l : List Nat) (hl : l.length = 32) (hb : ∀ x ∈ l, x < 256) (w : World) :
    Calls Try.prog 52 #[.agg (bsC (nI l))] w fun e w' => e = .returned (.agg (bsC (nI (Mid.hxN l)))) ∧ Below w.heap.size w w' := by
  obtain ⟨tx, htx⟩ : ∃ t : ByteArray, t = ⟨(Asc.hexL l).toArray⟩ := ⟨_, rfl⟩
  have hts : tx.data.toList = (Mid.hxN l).map UInt8.ofNat := by rw [htx, Mid.hxN_back]
  have hsz : tx.size = 64 := by rw [htx]; show (Asc.hexL l).toArray.size = 64; simp [Mid.hexL_length, hl]
  have HH := Lib.hid (fun v w hv => hex_any v l w hv (by omega) tx htx)
  have HBY := Lib.hid (fun (W : World) g t h => bytes_arr (w := W) (g := g) (t := t) l hb hl (by unfold maxLen; omega) h)
  have HX := Lib.hid (Mid.hxN_len l hl); have HXL := Lib.hid (Mid.hxN_lt l); have HTS := Lib.hid hts; have HSZ := Lib.hid hsz
  generalize Mid.hxN l = hx at *
  obtain ⟨A, hA⟩ : ∃ A, A = nI l := ⟨_, rfl⟩
  rw [← hA] at HBY ⊢
  clear hA htx hts hsz hb
  go_enter Try.func52, Try.ntmps52
  go_upto_region 2 with (fail)
  change Code.wp Try.prog _ _ _ (((w.alloc (.cells (bsC A) 46)).alloc (.cells (bsC z64) 87)).alloc (.cells (bsC z64) 87))
  have k0 := ((Blk.fresh w 46 (bsC A)).more (.cells (bsC z64) 87)).more (.cells (bsC z64) 87)
  have k1 := (Blk.fresh (w.alloc (.cells (bsC A) 46)) 87 (bsC z64)).more (.cells (bsC z64) 87)
  have k2 := Blk.fresh ((w.alloc (.cells (bsC A) 46)).alloc (.cells (bsC z64) 87)) 87 (bsC z64)
  have hB : Below w.heap.size w (((w.alloc (.cells (bsC A) 46)).alloc (.cells (bsC z64) 87)).alloc (.cells (bsC z64) 87)) := (((Below.refl _ w).alloc (Nat.le_refl _) _).alloc (by simp) _).alloc (by simp; omega) _
  rw [show (w.alloc (.cells (bsC A) 46)).heap.size = w.heap.size + 1 by simp] at k1
  rw [show ((w.alloc (.cells (bsC A) 46)).alloc (.cells (bsC z64) 87)).heap.size = w.heap.size + 1 + 1 by simp] at k2
  generalize ((w.alloc (.cells (bsC A) 46)).alloc (.cells (bsC z64) 87)).alloc (.cells (bsC z64) 87) = W0 at *
  have K0 := Lib.hid k0; have K1 := Lib.hid k1; have K2 := Lib.hid k2; have B0 := Lib.hid hB
  clear k0 k1 k2 hB
  go_region_law (first
    | (go_simp; go_at_call 62; refine (HH.out _ _ (HBY.out _ _ _ K0.out.draw)).mono ?_; rintro e w1 ⟨rfl, hb1⟩; have L1 := Lib.hid (K1.out.draw.keep hb1 K1.out.lt); have L2 := Lib.hid (K2.out.draw.keep hb1 K2.out.lt); have B1 := Lib.hid (B0.out.drew.trans (hb1.mono B0.out.drew.size)); clear hb1)
    | (refine step_copy_str rfl (.tmp 4) (.tmp 6) rfl _ 64 _ _ L2.out (by rw [bsC_size]; exact z64_len) tx HSZ.out hx HTS.out HXL.out (by rfl) (by rfl) ?_; intro w5 hw5))
  have M2 := Lib.hid (show Blk w5 (w.heap.size + 1 + 1) 87 (bsC (nI hx)) by rw [hw5.out]; exact L2.out.row _)
  have M1 := Lib.hid (show Blk w5 (w.heap.size + 1) 87 (bsC z64) by rw [hw5.out]; exact L1.out.far (by omega) _)
  have B5 := Lib.hid (show Below w.heap.size w w5 by rw [hw5.out]; exact below_row B1.out _ (by omega) _)
  have HXN := Lib.hid (show (nI hx).length = 64 by rw [nI_len]; exact HX.out)
  clear hw5
  go_wp2_with (first
    | (refine ld_bs Try.underlying87 info64 _ (nI hx) HXN.out M2.out (by rfl) _ (by rfl) (by rfl) ?_)
    | (refine sto_bs info64 _ (nI hx) HXN.out _ M1.out (by rw [bsC_size]; exact z64_len) (by rfl) _ _ (by rfl) (by rfl) (by rfl) ?_; intro w6 hw6))
  have hf : Blk w6 (w.heap.size + 1) 87 (bsC (nI hx)) := by rw [hw6.out]; exact M1.out.row _
  have hfB : Below w.heap.size w w6 := by rw [hw6.out]; exact below_row B5.out _ (by omega) _
  exact bodyPost_ret (results_cell_row rfl _ _ (w.heap.size + 1) _ _ _ _ rfl hf Try.underlying87 rfl (by rw [bsC_size, HXN.out]; exact info64)) rfl ⟨rfl, hfB⟩

set_option maxRecDepth 100000 in
set_option maxHeartbeats 1000000 in
theorem print_any (l : List Nat) (hl : l.length = 32) (hb : ∀ x ∈ l, x < 256) (w : World) (t : ByteArray) (ht : t = ⟨(Mid.printL l).toArray⟩) :
    Calls Try.prog 32 #[.agg (bsC (nI l))] w fun e w' => e = .returned (.string t) ∧ Below w.heap.size w w' := by
  have HD := Lib.hid (fun w => digits_any l hl hb w)
  have HBY := Lib.hid (fun (W : World) g t h => bytes_arr (w := W) (g := g) (t := t) (n := 64) (Mid.hxN l) (Mid.hxN_lt l) (Mid.hxN_len l hl) (by unfold maxLen; omega) h)
  have hst : strB (Mid.hxN l) = ⟨(Asc.hexL l).toArray⟩ := by unfold strB; rw [Mid.hxN_back]
  have HCV := Lib.hid (fun (W : World) g t h => conv_bytes (HBY.out W g t h))
  rw [hst] at HCV
  have HX := Lib.hid (show (nI (Mid.hxN l)).length = 64 by rw [nI_len]; exact Mid.hxN_len l hl)
  have HT := Lib.hid (show (⟨#[60]⟩ : ByteArray) ++ ⟨(Asc.hexL l).toArray⟩ ++ ⟨#[64, 104, 97, 115, 104, 62]⟩ = t by
    rw [ht]; apply ByteArray.ext; simp [Mid.printL, Mid.tail6])
  have HA := Lib.hid (show (nI l).length = 32 by rw [nI_len]; exact hl)
  have HZ := Lib.hid (show (⟨(Asc.hexL l).toArray⟩ : ByteArray).size = 64 by show (Asc.hexL l).toArray.size = 64; simp [Mid.hexL_length, hl])
  generalize (⟨(Asc.hexL l).toArray⟩ : ByteArray) = tx at *
  generalize nI (Mid.hxN l) = H at *
  generalize nI l = A at *
  clear hst ht HBY hb hl
  go_enter Try.func32, Try.ntmps32
  go_upto_region 1 with (fail)
  have ha := Blk.fresh w 46 (bsC A)
  have hB : Below w.heap.size w (w.alloc (.cells (bsC A) 46)) := (Below.refl _ w).alloc (Nat.le_refl _) _
  generalize w.alloc (.cells (bsC A) 46) = W0 at *
  have HK := Lib.hid ha; have HBL := Lib.hid hB
  clear ha hB
  go_upto_region 2 with (first
    | (refine ld_bs Try.underlying46 infoId _ A HA.out HK.out (by rfl) _ (by rfl) (by rfl) ?_)
    | (go_at_call 52; refine (HD.out _).mono ?_; rintro e w1 ⟨rfl, hb1⟩; have B1 := Lib.hid (HBL.out.trans (hb1.mono HBL.out.size)); clear hb1)
    | (refine sto_bs info64 _ H HX.out _ (Blk.fresh w1 _ _) rfl (by rfl) _ _ (by rfl) (by rfl) (by rfl) ?_; intro w3 hw3))
  have K3 := Lib.hid (show Blk w3 w1.heap.size 87 (bsC H) by rw [hw3.out]; exact (Blk.fresh w1 _ _).row _)
  have B3 := Lib.hid (show Below w.heap.size w w3 by rw [hw3.out]; exact below_row (B1.out.alloc B1.out.size _) _ B1.out.size _)
  clear hw3
  have hcv := HCV.out _ _ _ K3.out
  have g1 : ¬ 9223372036854775807 < 1 + tx.size := by have := HZ.out; omega
  have g2 : ¬ 9223372036854775807 < 1 + tx.size + 6 := by have := HZ.out; omega
  go_wp2_with fail
  go_ret
  exact ⟨by rw [HT.out]; rfl, B3.out⟩
end Go.Proofs.Ytcofplbdapjdjaa
