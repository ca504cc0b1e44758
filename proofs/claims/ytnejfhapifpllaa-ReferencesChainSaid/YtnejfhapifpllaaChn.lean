/- The chain of answers: its lists in numbers. -/
import Derived.Test.YtnejfhapifpllaaRep
namespace Mid
theorem num_ok (m : Nat) (h : m < 256) : (m :: List.replicate 31 0).length = 32 ∧ ∀ x ∈ m :: List.replicate 31 0, x < 256 := by
  refine ⟨by simp, ?_⟩
  intro x hx
  rcases List.mem_cons.1 hx with rfl | hx
  · exact h
  · rw [(List.mem_replicate.1 hx).2]; decide
def num (m : Nat) : Id := if h : m < 256 then ⟨m :: List.replicate 31 0, num_ok m h⟩ else default
def natN (k : Nat) : List Nat := if k ≤ 20 then List.range' 1 k else 1 :: List.range' (k - 18) 19
def chain (k : Nat) : List Id := (natN k).map num
theorem chain_zero : chain 0 = [] := by decide +kernel
theorem chain_reply : ∀ k : Fin 60, replyE (chain k.val) (num (k.val + 1)) = (chain (k.val + 1), 0) := by decide +kernel
theorem chain_chk : ∀ k : Fin 60, chk (chain (k.val + 1)) = 0 := by decide +kernel
theorem chain_last : ∀ k : Fin 60, lastE (chain (k.val + 1)) = (num (k.val + 1), true) := by decide +kernel
theorem chain_head : ∀ k : Fin 60, (chain (k.val + 1))[0]! = num 1 := by decide +kernel
theorem chain_len : ∀ k : Fin 60, (chain (k.val + 1)).length = min (k.val + 1) 20 := by decide +kernel
theorem chain_at : ∀ k : Fin 60, ∀ j : Fin 20, 1 ≤ j.val → j.val < min (k.val + 1) 20 → (chain (k.val + 1))[min (k.val + 1) 20 - j.val]! = num (k.val + 2 - j.val) := by decide +kernel
end Mid
namespace Go.Proofs.Ytnejfhapifpllaa
open Go.RowKit
theorem run_build_num (m : Nat) (h : m < 256) (w : World) : (Instr.build 46 #[(0, .int .u8 (m : Int))]).run Try.prog w = .ok (.agg (encI (Mid.num m)).toArray) w := by
  have e0 : Mid.num m = (⟨m :: List.replicate 31 0, Mid.num_ok m h⟩ : Mid.Id) := dif_pos h
  have e : encI (Mid.num m) = Value.int .u8 (m : Int) :: (List.replicate 31 0).map (fun (n : Nat) => Value.int .u8 n) := by
    rw [e0]
    rfl
  rw [e]
  clear e e0
  have hz : (Instr.build 46 #[(0, .int .u8 (m : Int))]).run Try.prog w = .ok (.agg (Value.int .u8 (m : Int) :: (List.replicate 31 0).map (fun (n : Nat) => Value.int .u8 n)).toArray) w := by kernel_rfl
  exact hz
/-- a load with a guard -/
theorem load_g {ops : Array Oper} {rest : List Oper} {op : Oper} {a : Act} {w : World} {Q : Exit → Act → World → Prop} (hw : Region.wanted op (yielded ops a.tmps) = true) (ty : TypeId) (x : Operand) (ho : op.op = .load ty x)
    (b o : Nat) (hx : a.eval x = .pointer (some ⟨b, o, none⟩)) (cs : List Value) (d : TypeDesc) (hc : w.rangeAt b o cs)
    (hu : Try.prog.underlying ty = some d) (hd : d.isRow = true) (hi : (Try.prog.info? ty).map (·.size) = some cs.length)
    (h : wpList Try.prog ops Q rest (a.put op.dst (.agg cs.toArray)) w) : wpList Try.prog ops Q (op :: rest) a w :=
  wpList_step fun K hK => by
    rw [if_pos hw]
    exact wp_load_mid ty x ho b o hx cs d hc hu hd hi (hK _ _ h)
end Go.Proofs.Ytnejfhapifpllaa
