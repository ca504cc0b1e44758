/- The order of identities: Compare and IsZero of the program. -/
import Derived.Test.YteoknmdoghemmaaCls
import Derived.Test.YteoknmdoghemmaaRow8
import Derived.Lib.BytesEntry
import Derived.Lib.Bytealg
namespace Mid
theorem cmp_bytes : ∀ (l m : List Nat), (∀ x ∈ l, x < 256) → (∀ x ∈ m, x < 256) → Go.Lib.compareBytes (l.map UInt8.ofNat) (m.map UInt8.ofNat) = cmpL l m
  | [], [], _, _ => rfl
  | [], _ :: _, _, _ => rfl
  | _ :: _, [], _, _ => rfl
  | x :: l, y :: m, hx, hy => by
    have ih := cmp_bytes l m (fun z hz => hx z (by simp [hz])) (fun z hz => hy z (by simp [hz]))
    have x2 := hx x (by simp)
    have y2 := hy y (by simp)
    rw [List.map_cons, List.map_cons, Go.Lib.compareBytes, cmpL, ih]
    have e1 : (UInt8.ofNat x < UInt8.ofNat y) = (x < y) := by
      rw [UInt8.lt_iff_toNat_lt, UInt8.toNat_ofNat', UInt8.toNat_ofNat', Nat.mod_eq_of_lt x2, Nat.mod_eq_of_lt y2]
    have e2 : (UInt8.ofNat y < UInt8.ofNat x) = (y < x) := by
      rw [UInt8.lt_iff_toNat_lt, UInt8.toNat_ofNat', UInt8.toNat_ofNat', Nat.mod_eq_of_lt x2, Nat.mod_eq_of_lt y2]
    simp only [e1, e2]
theorem bytesOf_nI (l : List Nat) : Go.Lib.bytesOf (l.map fun (x : Nat) => (x : Int)) = l.map UInt8.ofNat := by
  unfold Go.Lib.bytesOf
  rw [List.map_map]
  apply List.map_congr_left
  intro x _
  simp
end Mid
namespace Go.Proofs.Yteoknmdoghemmaa
open Go.RowKit

theorem loads_row {w : World} {g : Nat} {t : TypeId} (l : List Nat) (h : Blk w g t (bsC (nI l))) : (Extern.Bytes.loadBytes ⟨g, 0, none⟩ l.length .empty).run Try.prog w = .ok ⟨(l.map UInt8.ofNat).toArray⟩ w := by
  have hl := Lib.run_loadBytesX (P := Try.prog) w (nI l) ⟨g, 0, none⟩ .empty (fun j x hj => by
    rw [addr_add, Nat.zero_add, h.cell]
    simp only [nI, List.getElem?_map] at hj
    simp only [bsC, nI, List.getElem?_toArray, List.getElem?_map]
    rw [hj]; rfl)
  rw [nI_len] at hl
  rw [hl, Mid.bytesOf_nI]
  simp

set_option maxRecDepth 100000 in
theorem bytesCompare_any (w : World) (g k : Nat) (t u : TypeId) (l m : List Nat) (hl : ∀ x ∈ l, x < 256) (hm : ∀ x ∈ m, x < 256) (h1 : Blk w g t (bsC (nI l))) (h2 : Blk w k u (bsC (nI m))) (n : Nat) (hn : l.length = n) (hn2 : m.length = n) (a b : Nat) :
    Calls Try.prog 42 #[.slice (some ⟨g, 0, none⟩) n a, .slice (some ⟨k, 0, none⟩) n b] w fun e w' => e = .returned (.int .i64 (Mid.cmpL l m)) ∧ w = w' := by
  have r1 := loads_row l h1
  have r2 := loads_row m h2
  rw [hn] at r1
  rw [hn2] at r2
  go_enter Try.func42, Try.ntmps42
  go_wp2_with fail
  rw [run_callFunc_extern Try.func59 (by kernel_rfl) (by kernel_rfl) (by kernel_rfl) (e := Extern.BytealgCompare.compare) (by kernel_rfl)]
  have hrun : (Extern.BytealgCompare.compare #[.slice (some ⟨g, 0, none⟩) n a, .slice (some ⟨k, 0, none⟩) n b]).run Try.prog w = .ok (.int .i64 (Mid.cmpL l m)) w := by
    change Sem.run Try.prog (do pure (goInt (Extern.BytealgCompare.cmp (← Extern.Bytes.bytesOf (.slice (some ⟨g, 0, none⟩) n a)) (← Extern.Bytes.bytesOf (.slice (some ⟨k, 0, none⟩) n b))))) w = _
    simp only [Extern.Bytes.bytesOf, Sem.run_bind, Sem.run_pure, r1, r2, Result.andThen]
    rw [Lib.cmp_eq, ← Mid.cmp_bytes l m hl hm]
    rfl
  rw [hrun]
  simp only [Result.andThen]
  rw [Oper.upon_value]
  go_wp2
  go_ret
  exact ⟨rfl, rfl⟩

theorem alloc_two (w : World) (a b : Obj) : ((w.alloc a).alloc b).heap.size = w.heap.size + 2 := by simp

theorem infoId : (Try.prog.info? 23).map (·.size) = some 32 := by kernel_rfl
theorem infoRid : (Try.prog.info? 30).map (·.size) = some 32 := by kernel_rfl

set_option maxRecDepth 100000 in
set_option maxHeartbeats 1000000 in
theorem compare_any (l m : List Nat) (hl : l.length = 32) (hm : m.length = 32) (bl : ∀ x ∈ l, x < 256) (bm : ∀ x ∈ m, x < 256) (w : World) :
    Calls Try.prog 19 #[.agg (bsC (nI l)), .agg (bsC (nI m))] w fun e w' => e = .returned (.int .i64 (Mid.cmpL l m)) ∧ Below w.heap.size w w' := by
  have HC := Lib.hid (fun (W : World) g k t u (h1 : Blk W g t (bsC (nI l))) (h2 : Blk W k u (bsC (nI m))) a b => bytesCompare_any W g k t u l m bl bm h1 h2 32 hl hm a b)
  obtain ⟨A, hA⟩ : ∃ A, A = nI l := ⟨_, rfl⟩
  obtain ⟨B, hB⟩ : ∃ B, B = nI m := ⟨_, rfl⟩
  rw [← hA, ← hB] at HC ⊢
  clear hA hB hl hm bl bm
  go_enter Try.func19, Try.ntmps19
  go_upto_region 1 with (fail)
  have hb := Blk.fresh (w.alloc (.cells (bsC A) 23)) 23 (bsC B)
  have ha := (Blk.fresh w 23 (bsC A)).more (.cells (bsC B) 23)
  have hB : Below w.heap.size w ((w.alloc (.cells (bsC A) 23)).alloc (.cells (bsC B) 23)) := ((Below.refl _ w).alloc (Nat.le_refl _) _).alloc (by simp) _
  have hs : (w.alloc (.cells (bsC A) 23)).heap.size = w.heap.size + 1 := by simp
  rw [hs] at hb
  generalize (w.alloc (.cells (bsC A) 23)).alloc (.cells (bsC B) 23) = W0 at *
  have HA := Lib.hid ha; have HB := Lib.hid hb; have HBL := Lib.hid hB
  clear ha hb hB hs
  go_wp2_with fail
  go_region_law (go_simp; go_at_call 42; refine (HC.out _ _ _ _ _ HA.out.draw HB.out.draw _ _).mono ?_; rintro e w1 ⟨rfl, rfl⟩)
  all_goals
    go_wp2_with fail
    go_ret
    exact ⟨rfl, HBL.out.drew⟩

def zD : List Int := nI (List.replicate 32 0)
theorem zD_len : zD.length = 32 := by decide
theorem run_build_id (w : World) : (Instr.build 23 #[]).run Try.prog w = .ok (.agg (bsC zD)) w := by kernel_rfl
theorem wp_build_id {ops : Array Oper} {rest : List Oper} {o : Oper} {a : Act} {w : World} {Q : Exit → Act → World → Prop} (hgd : o.guard = none) (ho : o.op = .build 23 #[])
    (hk : wpList Try.prog ops Q rest (a.put o.dst (.agg (bsC zD))) w) : wpList Try.prog ops Q (o :: rest) a w := by
  have hrun := run_build_id w
  refine wpList_plain hgd fun K hK => ?_
  unfold Oper.wp
  simp [execOp, ho, hrun, Result.andThen]
  exact hK _ _ hk

set_option maxRecDepth 100000 in
set_option maxHeartbeats 1000000 in
theorem isZero_any (l : List Nat) (hl : l.length = 32) (w : World) :
    Calls Try.prog 18 #[.agg (bsC (nI l))] w fun e w' => e = .returned (.bool (decide (l = List.replicate 32 0))) ∧ Below w.heap.size w w' := by
  have heq := fun w => eq_arr (t := 23) Try.underlying23 (nI l) (nI (List.replicate 32 0)) (by rw [nI_len, hl]) (by rw [nI_len]; rfl) 9998 w
  have hA : (nI l).length = 32 := by rw [nI_len, hl]
  have hd : decide (nI l = nI (List.replicate 32 0)) = decide (l = List.replicate 32 0) := by
    rw [decide_eq_decide]
    exact ⟨fun h => (List.map_inj_right (f := fun (x : Nat) => (x : Int)) (fun x y h => Int.ofNat.inj h)).1 h, fun h => by rw [h]⟩
  rw [hd] at heq
  generalize decide (l = List.replicate 32 0) = q at *
  generalize nI l = A at *
  have HA := Lib.hid hA; have HEQ := Lib.hid heq
  clear hA heq hd
  go_enter Try.func18, Try.ntmps18
  go_upto_region 1 with (fail)
  have ha := Blk.fresh w 23 (bsC A)
  have hB : Below w.heap.size w (w.alloc (.cells (bsC A) 23)) := (Below.refl _ w).alloc (Nat.le_refl _) _
  generalize w.alloc (.cells (bsC A) 23) = W0 at *
  have HK := Lib.hid ha; have HBL := Lib.hid hB
  clear ha hB
  have heq2 : ∀ w, (Op.equalIn 10000 23 (.agg (bsC A)) (.agg (bsC zD))).run Try.prog w = .ok q w := HEQ.out
  go_wp2_with (first
    | (refine ld_bs Try.underlying23 infoId _ A HA.out HK.out (by rfl) _ (by rfl) (by rfl) ?_)
    | (refine wp_build_id (by rfl) (by rfl) ?_))
  go_ret
  exact ⟨rfl, HBL.out⟩
end Go.Proofs.Yteoknmdoghemmaa
