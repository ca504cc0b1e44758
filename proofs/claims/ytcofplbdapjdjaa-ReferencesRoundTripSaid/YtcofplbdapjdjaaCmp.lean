/- Zero identities, IsZero. -/
import Derived.Test.YtcofplbdapjdjaaRow8
import Derived.WalkSpells
import Derived.WalkLawsBesides
import Derived.Outline
import Derived.LoopTactic
import Derived.Deep.LoopGhost
import Derived.Deep.DeepMust
namespace Mid
def zN : List Nat := List.replicate 32 0
theorem zN_len : zN.length = 32 := by decide
theorem zN_lt : ∀ x ∈ zN, x < 256 := by decide
end Mid
namespace Go.Proofs.Ytcofplbdapjdjaa
open Go.RowKit

theorem infoId : (Try.prog.info? 46).map (·.size) = some 32 := by kernel_rfl
theorem infoRid : (Try.prog.info? 48).map (·.size) = some 32 := by kernel_rfl

def zD : List Int := nI (List.replicate 32 0)
theorem zD_len : zD.length = 32 := by decide
theorem run_build_id (w : World) : (Instr.build 46 #[]).run Try.prog w = .ok (.agg (bsC zD)) w := by kernel_rfl
theorem wp_build_id {ops : Array Oper} {rest : List Oper} {o : Oper} {a : Act} {w : World} {Q : Exit → Act → World → Prop} (hgd : o.guard = none) (ho : o.op = .build 46 #[])
    (hk : wpList Try.prog ops Q rest (a.put o.dst (.agg (bsC zD))) w) : wpList Try.prog ops Q (o :: rest) a w := by
  have hrun := run_build_id w
  refine wpList_plain hgd fun K hK => ?_
  unfold Oper.wp
  simp [execOp, ho, hrun, Result.andThen]
  exact hK _ _ hk

set_option maxRecDepth 100000 in
set_option maxHeartbeats 1000000 in
theorem isZero_any (l : List Nat) (hl : l.length = 32) (w : World) :
    Calls Try.prog 44 #[.agg (bsC (nI l))] w fun e w' => e = .returned (.bool (decide (l = List.replicate 32 0))) ∧ Below w.heap.size w w' := by
  have heq := fun w => eq_arr (t := 46) Try.underlying46 (nI l) (nI (List.replicate 32 0)) (by rw [nI_len, hl]) (by rw [nI_len]; rfl) 9998 w
  have hA : (nI l).length = 32 := by rw [nI_len, hl]
  have hd : decide (nI l = nI (List.replicate 32 0)) = decide (l = List.replicate 32 0) := by
    rw [decide_eq_decide]
    exact ⟨fun h => (List.map_inj_right (f := fun (x : Nat) => (x : Int)) (fun x y h => Int.ofNat.inj h)).1 h, fun h => by rw [h]⟩
  rw [hd] at heq
  generalize decide (l = List.replicate 32 0) = q at *
  generalize nI l = A at *
  have HA := Lib.hid hA; have HEQ := Lib.hid heq
  clear hA heq hd
  go_enter Try.func44, Try.ntmps44
  go_upto_region 1 with (fail)
  have ha := Blk.fresh w 46 (bsC A)
  have hB : Below w.heap.size w (w.alloc (.cells (bsC A) 46)) := (Below.refl _ w).alloc (Nat.le_refl _) _
  generalize w.alloc (.cells (bsC A) 46) = W0 at *
  have HK := Lib.hid ha; have HBL := Lib.hid hB
  clear ha hB
  have heq2 : ∀ w, (Op.equalIn 10000 46 (.agg (bsC A)) (.agg (bsC zD))).run Try.prog w = .ok q w := HEQ.out
  go_wp2_with (first
    | (refine ld_bs Try.underlying46 infoId _ A HA.out HK.out (by rfl) _ (by rfl) (by rfl) ?_)
    | (refine wp_build_id (by rfl) (by rfl) ?_))
  go_ret
  exact ⟨rfl, HBL.out⟩
end Go.Proofs.Ytcofplbdapjdjaa
