/- What every input of the hash begins with: the program's begin, the reference's head. -/
import Derived.Test.YtgfolgmheinbiaaDoorRRRMid7
import Derived.Test.YtgfolgmheinbiaaDoorRRRSevPlain
import Derived.Test.YtgfolgmheinbiaaDoorRRRPush
import Derived.Deep.CutRange
namespace Go.Proofs.YtgfolgmheinbiaaDoorRRR
open Go.RowKit

set_option maxRecDepth 100000 in
set_option maxHeartbeats 1000000 in
theorem begin_any (base : Nat) (v : Value) (l0 : List Nat) (t leaf : Nat) (ht : t < 256) (hl : leaf ≤ 65535) (w : World) (hbase : base ≤ w.heap.size) (hown : OwnL base w v l0) (hn : l0.length ≤ 1000) :
    Calls Tryd.prog 51 #[v, .int .u8 t, .int .i64 leaf] w fun e w' => ∃ v', e = .returned v' ∧ OwnL base w' v' (l0 ++ S7.hd t leaf) ∧ ∀ B w0, Below B w0 w → B ≤ base → Below B w0 w' := by
  obtain ⟨h, hh⟩ : ∃ h, h = leaf / 256 := ⟨_, rfl⟩
  obtain ⟨m, hm⟩ : ∃ m, m = leaf % 256 := ⟨_, rfl⟩
  have e0 : S7.hd t leaf = [t, 0, 0, h, m] := by rw [hh, hm]; rfl
  have q1 : (leaf : Int) / 16777216 = 0 := by omega
  have q2 : (leaf : Int) / 65536 = 0 := by omega
  have q3 : (leaf : Int) / 256 = (h : Int) := by omega
  have q4 : IntKind.u8.wrap (h : Int) = (h : Int) := by simp [IntKind.wrap, IntKind.bits, IntKind.signed]; omega
  have q5 : IntKind.u8.wrap (leaf : Int) = (m : Int) := by simp [IntKind.wrap, IntKind.bits, IntKind.signed]; omega
  have q6 : (h : Int) % 256 = (h : Int) := by omega
  have q7 : (leaf : Int) % 256 = (m : Int) := by omega
  have hlI : (leaf : Int) ≤ 65535 := by omega
  have HBY := Lib.hid (show Bytes (w.alloc (.cells #[.int .u8 t, .int .u8 0, .int .u8 0, .int .u8 h, .int .u8 m] 5)) (.slice (some ⟨w.heap.size, 0, none⟩) 5 5) [t, 0, 0, h, m] from bytes_new w [t, 0, 0, h, m] (0, 0) (by
    intro x hx
    simp only [List.mem_cons, List.not_mem_nil, or_false] at hx
    rcases hx with rfl | rfl | rfl | rfl | rfl <;> omega) (by unfold maxLen; simp))
  rw [e0]
  have HO := Lib.hid hown; have HN := Lib.hid hn; have HB := Lib.hid hbase
  clear hh hm e0 hown hn hbase ht
  go_enter Tryd.func51, Tryd.ntmps51
  go_wp2_with (refine wpList_append_bytes _ (by rfl) _ _ (by rfl) base v l0.length (byteVals l0) (by rfl) (HO.out.more _) (.slice (some ⟨w.heap.size, 0, none⟩) 5 5) [t, 0, 0, h, m] (by rfl) HBY.out (by have := HN.out; simp; omega) (by have := HB.out; simp; omega) ?_; intro v' w' ho hg _)
  go_ret
  refine ⟨_, rfl, ?_, fun B w0 hb hB => ?_⟩
  · have := ho.out
    unfold OwnL
    rw [List.length_append]
    unfold byteVals at this ⊢
    rw [List.map_append]
    exact this
  · exact OwnL.grown (HO.out.more _) hg.out (hb.alloc (by have := HB.out; omega) _) (by have := HB.out; simp; omega) hB

set_option maxRecDepth 100000 in
set_option maxHeartbeats 1000000 in
theorem head_any (t leaf : Nat) (hl : leaf ≤ 65535) (w : World) :
    Calls Tryd.prog 41 #[.int .u8 t, .int .i64 leaf] w fun e w' => ∃ v', e = .returned v' ∧ OwnL w.heap.size w' v' (S7.hd t leaf) ∧ Below w.heap.size w w' := by
  obtain ⟨h, hh⟩ : ∃ h, h = leaf / 256 := ⟨_, rfl⟩
  obtain ⟨m, hm⟩ : ∃ m, m = leaf % 256 := ⟨_, rfl⟩
  have e0 : S7.hd t leaf = [t, 0, 0, h, m] := by rw [hh, hm]; rfl
  have q1 : (leaf : Int) / 16777216 = 0 := by omega
  have q2 : (leaf : Int) / 65536 = 0 := by omega
  have q3 : (leaf : Int) / 256 = (h : Int) := by omega
  have q4 : IntKind.u8.wrap (h : Int) = (h : Int) := by simp [IntKind.wrap, IntKind.bits, IntKind.signed]; omega
  have q5 : IntKind.u8.wrap (leaf : Int) = (m : Int) := by simp [IntKind.wrap, IntKind.bits, IntKind.signed]; omega
  have q6 : (h : Int) % 256 = (h : Int) := by omega
  have q7 : (leaf : Int) % 256 = (m : Int) := by omega
  have q8 : IntKind.u8.wrap (m : Int) = (m : Int) := by simp [IntKind.wrap, IntKind.bits, IntKind.signed]; omega
  have hlI : (leaf : Int) ≤ 65535 := by omega
  rw [e0]
  clear hh hm e0
  go_enter Tryd.func41, Tryd.ntmps41
  go_wp2_with fail
  go_ret
  refine ⟨_, rfl, ?_, ?_⟩
  · exact ⟨rfl, .inr ⟨w.heap.size, 5, #[.int .u8 t, .int .u8 0, .int .u8 0, .int .u8 h, .int .u8 m], rfl, Nat.le_refl _, heap_alloc_new w _, Nat.le_refl _, by unfold maxLen; omega, rfl, rfl⟩⟩
  · exact (Below.refl _ w).alloc (Nat.le_refl _) _
end Go.Proofs.YtgfolgmheinbiaaDoorRRR
