/- The collector of bits: called with a value of at most eight bits, it hands on the groups of bits that are complete, and holds the rest. Conditions: its four boxes are apart, and what it calls with each group keeps the word J (structure Coll). -/
import Derived.Test.YtbojodgeknjpjaaDoorProg
import Derived.Test.YtbojodgeknjpjaaDoorPlain
import Derived.Test.YtbojodgeknjpjaaDoorNum
import Derived.WalkKit
import Derived.WalkSpells
import Derived.WalkLawsBesides
import Derived.OneCell
import Derived.RegionTactic
import Derived.BigRegion
import Derived.ChangeAlike
import Derived.StillTailTactics
import Derived.Deep.RegionWith
import Derived.Lib.Hide
namespace Go.Proofs.YtbojodgeknjpjaaDoor
open Go.RowKit

/-- what a collector's memory owes: its four boxes are apart, they read as the state says, and a step of any kind keeps the word J -/
structure Coll (bh bc bs be F : Nat) (caps : Array Value) (size N : Nat) (J : List Nat → Nat → Nat → World → Prop) : Prop where
  n1 : bh ≠ bc
  n2 : bh ≠ bs
  n3 : bh ≠ be
  n4 : bc ≠ bs
  n5 : bc ≠ be
  ch : ∀ es h c W, J es h c W → W.cell? ⟨bh, 0, none⟩ = some (.int .i64 h)
  cc : ∀ es h c W, J es h c W → W.cell? ⟨bc, 0, none⟩ = some (.int .i64 c)
  cs : ∀ es h c W, J es h c W → W.cell? ⟨bs, 0, none⟩ = some (.int .i64 size)
  ce : ∀ es h c W, J es h c W → W.cell? ⟨be, 0, none⟩ = some (.func (.func F) #[] caps)
  fh : ∀ es h c W, J es h c W → W.frozen? ⟨bh, 0, none⟩ = false
  fc : ∀ es h c W, J es h c W → W.frozen? ⟨bc, 0, none⟩ = false
  drew : ∀ es h c W, J es h c W → J es h c W.drew
  seth : ∀ es h c W (h' : Nat), J es h c W → J es h' c (W.setCell ⟨bh, 0, none⟩ (.int .i64 h'))
  setc : ∀ es h c W (c' : Nat), J es h c W → J es h c' (W.setCell ⟨bc, 0, none⟩ (.int .i64 c'))
  ent : ∀ args w, (callFunc F args).run Tryd.prog w = .ok (.enter F args) w
  emit : ∀ es h c W (g : Nat), J es h c W → g < 2 ^ size → es.length < N → Calls Tryd.prog F (#[.int .i64 g] ++ caps) W fun e W' => e = .returned (.tuple #[]) ∧ J (es ++ [g]) h c W'

set_option maxHeartbeats 400000 in
theorem add_any {bh bc bs be F : Nat} {caps : Array Value} {size N : Nat} {J : List Nat → Nat → Nat → World → Prop} (C : Coll bh bc bs be F caps size N J)
    (es : List Nat) (h c v k : Nat) (W : World) (hs : 0 < size) (hs2 : size ≤ 8) (hk2 : k ≤ 8) (hc : c ≤ 8) (hh : h < 2 ^ c) (hv : v < 2 ^ k) (hJ : J es h c W) (hN : (B64.put size (es, h, c) v k).1.length ≤ N) :
    Calls Tryd.prog 43 #[.int .i64 v, .int .i64 k, .pointer (some ⟨bh, 0, none⟩), .pointer (some ⟨bc, 0, none⟩), .pointer (some ⟨bs, 0, none⟩), .pointer (some ⟨be, 0, none⟩)] W fun e w' => e = .returned (.tuple #[]) ∧
      J (B64.put size (es, h, c) v k).1 (B64.put size (es, h, c) v k).2.1 (B64.put size (es, h, c) v k).2.2 w' := by
  have n1 := C.n1; have n2 := C.n2; have n3 := C.n3; have n4 := C.n4; have n5 := C.n5
  have m1 := C.n1.symm; have m2 := C.n2.symm; have m3 := C.n3.symm; have m4 := C.n4.symm; have m5 := C.n5.symm
  have ch := C.ch _ _ _ _ hJ; have cc := C.cc _ _ _ _ hJ; have cs := C.cs _ _ _ _ hJ; have ce := C.ce _ _ _ _ hJ
  have fh := C.fh _ _ _ _ hJ; have fc := C.fc _ _ _ _ hJ
  go_enter Tryd.func43, Tryd.ntmps43
  go_wp2
  go_region
  go_wp2
  go_loopw [16] (fun _ wr => ∃ es' h' c', J es' h' c' wr ∧ h' < 2 ^ c' ∧ c' ≤ 16 ∧ (es' ++ (B64.drain size c' h' c').1, (B64.drain size c' h' c').2) = B64.put size (es, h, c) v k)
    (fun _ wr => (intOf ((wr.cell? ⟨bc, 0, none⟩).getD undef)).toNat)
  case atStart =>
    rw [shl_or h c v k hh hv (by omega)]
    refine ⟨es, h * 2 ^ k + v, c + k, ?_, ?_, by omega, rfl⟩
    · exact C.drew _ _ _ _ (C.setc _ _ _ _ (c + k) (C.seth _ _ _ _ _ hJ))
    · rw [Nat.pow_add]
      have : (h + 1) * 2 ^ k ≤ 2 ^ c * 2 ^ k := Nat.mul_le_mul_right _ hh
      rw [Nat.add_mul] at this
      omega
  case round =>
    clear ch cc cs ce fh fc
    obtain ⟨es', h', c', hJ', hh', hc', he⟩ := hrel
    have ch := C.ch _ _ _ _ hJ'; have cc := C.cc _ _ _ _ hJ'; have cs := C.cs _ _ _ _ hJ'; have ce := C.ce _ _ _ _ hJ'
    have fh := C.fh _ _ _ _ hJ'; have fc := C.fc _ _ _ _ hJ'
    have HE := Lib.hid he; clear he
    by_cases hle : size ≤ c'
    · have hJ2 : J es' h' (c' - size) (wr.setCell ⟨bc, 0, none⟩ (.int .i64 (((c' : Int) - (size : Int))))).drew := by
        have e : ((c' : Int) - (size : Int)) = ((c' - size : Nat) : Int) := by omega
        rw [e]
        exact C.drew _ _ _ _ (C.setc _ _ _ _ _ hJ')
      have hst := B64.drain_step size hs h' c' hle
      have hg : h' / 2 ^ (c' - size) < 2 ^ size := by
        apply (Nat.div_lt_iff_lt_mul (Nat.two_pow_pos _)).2
        rw [← Nat.pow_add, show size + (c' - size) = c' from by omega]
        exact hh'
      have HST := Lib.hid hst; clear hst
      have HG := Lib.hid hg; clear hg
      go_wp2
      refine wp_region_still_tail 4 (by kernel_rfl) (by kernel_rfl) ?_
      simp only [List.take_succ_cons, List.take_zero, List.drop_succ_cons, List.drop_zero]
      change wpStill _ _ (World.drew (World.setCell _ _ _)) (fun a' => wpList _ _ _ _ a' (World.drew (World.setCell _ _ _))) _ _
      generalize hw2 : (World.drew (wr.setCell ⟨bc, 0, none⟩ (Value.int IntKind.i64 ((c' : Int) - (size : Int))))) = w2
      rw [hw2] at hJ2
      clear hw2 ch cc cs ce fh fc
      have ch := C.ch _ _ _ _ hJ2; have cc := C.cc _ _ _ _ hJ2; have cs := C.cs _ _ _ _ hJ2; have ce := C.ce _ _ _ _ hJ2
      repeat still_step
      refine wpStill_nil ?_
      have ent := C.ent
      go_wp2_with fail
      rw [show ((h' : Int) / 2 ^ (c' - size)) = ((h' / 2 ^ (c' - size) : Nat) : Int) from by push_cast; rfl]
      have hlen : es'.length < N := by
        have := congrArg (fun t : B64.St => t.1.length) HE.out
        rw [HST.out] at this
        simp at this
        omega
      refine (C.emit es' h' (c' - size) w2 _ hJ2 HG.out hlen).mono ?_
      rintro e w3 ⟨rfl, hJ3⟩
      clear ch cc cs ce
      have ch := C.ch _ _ _ _ hJ3; have cc := C.cc _ _ _ _ hJ3; have cs := C.cs _ _ _ _ hJ3; have ce := C.ce _ _ _ _ hJ3
      have fh := C.fh _ _ _ _ hJ3; have fc := C.fc _ _ _ _ hJ3
      go_wp2
      go_region
      go_wp2
      have h16 : h' < 2 ^ 60 := Nat.lt_of_lt_of_le hh' (pow_bound (by omega))
      rw [low_mask h' (c' - size) h16 (by omega)]
      refine ⟨⟨es' ++ [h' / 2 ^ (c' - size)], h' % 2 ^ (c' - size), c' - size, C.drew _ _ _ _ (C.seth _ _ _ _ _ hJ3), Nat.mod_lt _ (Nat.two_pow_pos _), by omega, ?_⟩, ?_⟩
      · rw [← HE.out, HST.out]
        simp
      · have cc0 := C.cc _ _ _ _ hJ'
        have c4 := C.cc _ _ _ _ (C.drew _ _ _ _ (C.seth _ _ _ _ (h' % 2 ^ (c' - size)) hJ3))
        rw [c4, cc0]
        simp [intOf]
        omega
    · go_wp2
      go_end0
      refine ⟨rfl, ?_⟩
      have he := HE.out
      rw [B64.drain_done size h' c' (by omega)] at he
      rw [← he]
      simpa using hJ'
end Go.Proofs.YtbojodgeknjpjaaDoor
