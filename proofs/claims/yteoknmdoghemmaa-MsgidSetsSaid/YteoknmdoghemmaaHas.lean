/- Has of a list of identities. -/
import Derived.Test.YteoknmdoghemmaaCpt
namespace Go.Proofs.Yteoknmdoghemmaa
open Go.RowKit Go.Shelf

set_option maxRecDepth 100000 in
set_option maxHeartbeats 1000000 in
theorem index_none (p : Option Addr) (cap : Nat) (x : Mid.Id) (w : World) :
    Calls Try.prog 62 #[.slice p 0 cap, .agg (encI x).toArray] w fun e w' => e = .returned (.int .i64 (-1)) ∧ Below w.heap.size w w' := by
  go_enter Try.func62, Try.ntmps62
  go_wp2_with fail
  go_loopw [8] (fun i wr => i = .int .i64 0 ∧ Hid (Below w.heap.size w wr)) (fun _ _ => 0)
  case atStart => exact ⟨rfl, Lib.hid ((Below.refl _ w).alloc (Nat.le_refl _) _)⟩
  case round =>
    obtain ⟨rfl, hb⟩ := hrel
    go_wp2_with fail
    go_ret
    exact ⟨rfl, hb.out⟩

set_option maxRecDepth 100000 in
set_option maxHeartbeats 1000000 in
theorem contains_none (p : Option Addr) (cap : Nat) (x : Mid.Id) (w : World) :
    Calls Try.prog 50 #[.slice p 0 cap, .agg (encI x).toArray] w fun e w' => e = .returned (.bool false) ∧ Below w.heap.size w w' := by
  have HI := Lib.hid (fun W => index_none p cap x W)
  have hB : Below w.heap.size w (w.alloc (.cells (encI x).toArray 23)) := (Below.refl _ w).alloc (Nat.le_refl _) _
  have hA := encBlk (Blk.fresh w 23 (encI x).toArray)
  have hix := info_enc infoId x
  have hu := Try.underlying23
  go_enter Try.func50, Try.ntmps50
  go_upto_region 1 with (fail)
  generalize w.alloc (.cells (encI x).toArray 23) = W0 at *
  have HA := Lib.hid hA; have HB := Lib.hid hB
  clear hA hB
  go_wp2_with (refine wpList_load_mid rfl _ _ rfl w.heap.size 0 (by rfl) (encI x) _ HA.out hu rfl hix ?_)
  refine (HI.out _).mono ?_
  rintro e w' ⟨rfl, hb⟩
  have HB2 := Lib.hid (HB.out.trans (hb.mono HB.out.size))
  clear hb
  go_wp2_with fail
  go_ret
  exact ⟨rfl, HB2.out⟩

theorem eqlId : EqlAt Try.prog 23 (fun x => .agg (encI x).toArray) (fun x y => decide (x = y)) :=
  ⟨fun x y w => by
    have h : (Op.equalIn Op.maxDepth 23 (.agg (encI x).toArray) (.agg (encI y).toArray)).run Try.prog w = .ok (decide (x = y)) w := eq_enc Try.underlying23 x y w
    simp only [binOp]
    simp [Op.equal, h, Result.andThen], GuardAt.agg (fun x => (encI x).toArray) (by kernel_rfl)⟩

theorem contains_any (v : Value) (ls : List Mid.Id) (x : Mid.Id) (w : World) (hn : ls.length ≤ 1000000) (hv : Ids w v ls) :
    Calls Try.prog 50 #[v, .agg (encI x).toArray] w fun e w' => e = .returned (.bool (decide (x ∈ ls))) ∧ Below w.heap.size w w' := by
  obtain ⟨ad, cap, rfl, hlc, hcm, _, hcells⟩ := hv
  rcases hcells with rfl | ⟨b, off, rfl, hc⟩
  · refine (contains_none ad cap x w).mono ?_
    rintro e w' ⟨rfl, hb⟩
    exact ⟨by simp, hb⟩
  · have h := AnyQ.slices_Contains Try.containsL 32 aggId sizeId encI encI_len (fun x y => decide (x = y)) eqlId b off ls.length cap ls x w (Nat.le_refl _) (by omega) hc
    refine h.mono ?_
    rintro e w' ⟨rfl, hb⟩
    refine ⟨?_, hb⟩
    congr 2
    rw [List.take_of_length_le (Nat.le_refl _), List.any_eq]
    rw [decide_eq_decide]
    constructor
    · rintro ⟨y, hy, e⟩
      rw [of_decide_eq_true e]; exact hy
    · intro h; exact ⟨x, h, by simp⟩

set_option maxRecDepth 100000 in
set_option maxHeartbeats 1000000 in
theorem has_any (v : Value) (ls : List Mid.Id) (x : Mid.Id) (w : World) (hn : ls.length ≤ 1000000) (hv : Ids w v ls) :
    Calls Try.prog 30 #[v, .agg (encI x).toArray] w fun e w' => e = .returned (.bool (decide (x ∈ ls))) ∧ Below w.heap.size w w' := by
  have HC := Lib.hid (fun W h => contains_any v ls x W hn h)
  have HV := Lib.hid hv
  obtain ⟨q, hq⟩ : ∃ q, q = decide (x ∈ ls) := ⟨_, rfl⟩
  rw [← hq] at HC ⊢
  have hB : Below w.heap.size w (w.alloc (.cells (encI x).toArray 23)) := (Below.refl _ w).alloc (Nat.le_refl _) _
  have hA := encBlk (Blk.fresh w 23 (encI x).toArray)
  have hix := info_enc infoId x
  have hu := Try.underlying23
  clear hq hv
  go_enter Try.func30, Try.ntmps30
  go_upto_region 1 with (fail)
  generalize w.alloc (.cells (encI x).toArray 23) = W0 at *
  have HA := Lib.hid hA; have HB := Lib.hid hB
  clear hA hB
  go_wp2_with (refine wpList_load_mid rfl _ _ rfl w.heap.size 0 (by rfl) (encI x) _ HA.out hu rfl hix ?_)
  refine (HC.out _ (HV.out.below HB.out)).mono ?_
  rintro e w' ⟨rfl, hb⟩
  have HB2 := Lib.hid (HB.out.trans (hb.mono HB.out.size))
  clear hb
  go_wp2_with fail
  go_ret
  exact ⟨rfl, HB2.out⟩
end Go.Proofs.Yteoknmdoghemmaa
