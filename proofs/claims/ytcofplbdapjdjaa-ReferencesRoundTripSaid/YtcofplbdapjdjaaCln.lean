/- slices.Clone over identities. -/
import Derived.Test.YtcofplbdapjdjaaGen
import Derived.Test.YtcofplbdapjdjaaTo
import Derived.Test.YtcofplbdapjdjaaComp
namespace Go.Proofs.Ytcofplbdapjdjaa
open Go.RowKit

theorem aggId (w : World) : (isAgg 46).run Try.prog w = .ok true w := by kernel_rfl
theorem sizeId (w : World) : (Go.sizeOf 46).run Try.prog w = .ok 32 w := by kernel_rfl

set_option maxRecDepth 100000 in
set_option maxHeartbeats 1000000 in
theorem clone_empty (a : Addr) (cap : Nat) (w : World) :
    Calls Try.prog 46 #[.slice (some a) 0 cap] w fun e w' => ∃ v', e = .returned v' ∧ w'.ownsRow w.heap.size 46 32 v' 0 [] ∧ Below w.heap.size w w' := by
  obtain ⟨i0, hi, hz0, hz1, hz2⟩ := info_partsM infoI
  have q22 := fun (w : World) (a : Option Addr) (n c n' c' : Nat) => Lib.run_eql_slice_nil (P := Try.prog) w _ _ a n c n' c' Try.underlying27
  have HZ := Lib.hid hz0
  clear hz0
  go_enter Try.func46, Try.ntmps46
  go_wp2_with (at_builtin; refine wpList_append_own _ rfl _ _ 27 rfl w.heap.size 46 i0 (.agg (bsC zD)) 32 32 Try.underlying27 hi HZ.out hz1 hz2 rfl (by decide) _ _ _ rfl (World.ownsRow_made w #[] 0 (Nat.le_refl _) (Nat.zero_le _) (by simp)) a 0 cap [] rfl (by simp) (by simp) (by simp) (by simp) (by simp) (by simp) ?_; intro v' w1 hown hgrow _)
  go_ret
  exact ⟨v', rfl, by simpa using hown, ((Below.refl _ w).alloc (Nat.le_refl _) _).grown hgrow (by simp) (fun k hk => by cases hk; exact Nat.le_refl _)⟩

/-- what Clone gives: nil of nil, else a row of its own -/
def ClonePost (ls : List Mid.Id) (w : World) (e : Ending) (w' : World) : Prop :=
  ∃ v', e = .returned v' ∧ OwnI 46 w.heap.size w' v' ls ∧ Below w.heap.size w w'

theorem clone_any (v : Value) (ls : List Mid.Id) (w : World) (hn : ls.length * 32 + 64 ≤ 140737488355328) (hv : Ids w v ls) :
    Calls Try.prog 46 #[v] w (ClonePost ls w) := by
  obtain ⟨ad, cap, rfl, hlc, hcm, hnil, hcells⟩ := hv
  cases ad with
  | none =>
    have h0 := hnil rfl
    obtain rfl : ls = [] := List.eq_nil_of_length_eq_zero (by omega)
    refine (AnyE.slices_Clone_nil Try.cloneL 0 cap w).mono ?_
    rintro e w' ⟨rfl, rfl⟩
    exact ⟨_, rfl, World.ownsRow_nil _ _ _ _, Below.refl _ _⟩
  | some a =>
    obtain ⟨i0, hi, hz0, hz1, hz2⟩ := info_partsM infoI
    have key : ∀ (b off : Nat), (∀ j u, (flatI ls)[j]? = some u → w.cell? ⟨b, off + j, none⟩ = some u) →
        Calls Try.prog 46 #[.slice (some ⟨b, off, none⟩) ls.length cap] w (ClonePost ls w) := by
      intro b off hc
      have h := AnyE.slices_Clone Try.cloneL i0 (.agg (bsC zD)) 32 32 hi hz0 hz1 hz2 rfl (by decide) sizeId b off ls.length cap (flatI ls) w (flatI_len ls) (by omega) (by omega) hc (flatI_one ls)
      refine h.mono ?_
      rintro e w' ⟨v', rfl, ho, _, hb⟩
      exact ⟨v', rfl, ho, hb⟩
    rcases hcells with rfl | ⟨b, off, hx, hc⟩
    · refine (clone_empty a cap w).mono ?_
      rintro e w' ⟨v', rfl, ho, hb⟩
      exact ⟨v', rfl, ho, hb⟩
    · cases hx
      refine key b off (fun j u hj => ?_)
      have hjl : j < ls.length * 32 := by
        have := (List.getElem?_eq_some_iff.1 hj).1
        rwa [flatI_len] at this
      have e : j = j / 32 * 32 + j % 32 := by omega
      rw [e] at hj
      rw [flatI_get ls (j / 32) (j % 32) (by omega) (by omega)] at hj
      have := hc (j / 32) (by omega) (j % 32) u hj
      rwa [Nat.add_assoc, ← e] at this


end Go.Proofs.Ytcofplbdapjdjaa
