/- Set of a list of identities. -/
import Derived.Test.YteoknmdoghemmaaHas
import Derived.Shelf.SlSortCmp.NoneTotal
namespace Go.Proofs.Yteoknmdoghemmaa
open Go.RowKit Go.Shelf

/-- what Set gives -/
def SetPost (ls : List Mid.Id) (w : World) (e : Ending) (w' : World) : Prop :=
  ∃ v' ms, e = .returned v' ∧ ms.length = ls.length ∧ SortedPerm ls ms ∧ Ids w' v' (Mid.dd ms ms.length) ∧ Below w.heap.size w w'

set_option maxRecDepth 100000 in
set_option maxHeartbeats 1000000 in
theorem compact_none (p : Option Addr) (cap : Nat) (w : World) :
    Calls Try.prog 45 #[.slice p 0 cap] w fun e w' => e = .returned (.slice p 0 cap) ∧ w' = w := by
  go_enter Try.func45, Try.ntmps45
  go_wp2_with fail
  go_ret
  exact ⟨rfl, rfl⟩

set_option maxRecDepth 100000 in
set_option maxHeartbeats 1000000 in
theorem set_any (v : Value) (ls : List Mid.Id) (w : World) (hn : ls.length ≤ 1000000) (hv : Ids w v ls) :
    Calls Try.prog 23 #[v] w (SetPost ls w) := by
  have HC := Lib.hid (clone_any v ls w hn hv)
  have HN := Lib.hid hn
  unfold SetPost
  clear hv hn
  go_enter Try.func23, Try.ntmps23
  go_wp2_with fail
  refine HC.out.mono ?_
  rintro e w1 ⟨v1, rfl, ho, hb1⟩
  rcases ho.2 with ⟨rfl, h0⟩ | ⟨g, cp, cur, rfl, hg, hh, hcp, hcm, hcs, htk⟩
  · obtain rfl : ls = [] := List.eq_nil_of_length_eq_zero h0
    have HS := Lib.hid (fun p cap fv w => AnyF.slices_SortFunc_none Try.sortL p cap fv w)
    have HK := Lib.hid (fun p cap w => compact_none p cap w)
    have HB := Lib.hid hb1
    clear ho hb1 h0
    go_wp2_with fail
    refine (HS.out _ _ _ _).mono ?_
    rintro e w2 ⟨rfl, rfl⟩
    go_wp2_with fail
    refine (HK.out _ _ _).mono ?_
    rintro e w3 ⟨rfl, rfl⟩
    go_wp2_with fail
    go_ret
    exact ⟨_, [], rfl, rfl, ⟨List.Perm.nil, fun i j _ h => by simp at h⟩, Ids.nil _, HB.out⟩
  · have hM : Mrow w.heap.size w w1 g 0 ls := by
      have hids := ho.ids
      refine ⟨hg, (Array.getElem?_eq_some_iff.1 hh).1, ?_, ?_, hb1⟩
      · obtain ⟨x, c2, hv, _, _, _, h4⟩ := hids
        cases hv
        rcases h4 with h4 | ⟨b, off, hx, hc⟩
        · rw [h4]; intro j hj; simp at hj
        · cases hx; exact hc
      · intro j hj
        have e := cell_of_row w1 g j cur 23 (0, 0) hh
        refine ⟨?_, ?_⟩
        · rw [Nat.zero_add, e, Array.getElem?_eq_getElem (by rw [hcs]; omega)]; rfl
        · rw [Nat.zero_add]; exact frozen_of_row w1 g j cur 23 hh
    have HS := Lib.hid (fun cap => sort_any g cap ls w1 w.heap.size w HN.out hM)
    have HK := Lib.hid (fun cap ms w2 => compact_any g cap ms w2 w.heap.size w)
    have hcl : ls.length ≤ cp := hcp
    generalize hnn : ls.length = n at *
    have HNN := Lib.hid hnn
    have HCM := Lib.hid hcm
    have HCL := Lib.hid hcl
    clear ho hb1 hh hcs htk hM hcm hcl hcp
    go_wp2_with fail
    refine (HS.out _).mono ?_
    rintro e w2 ⟨rfl, ms, hml, hsp, hM2⟩
    rw [← hml]
    have HML := Lib.hid hml; have HSP := Lib.hid hsp; have HM2 := Lib.hid hM2
    clear hml hsp hM2
    go_wp2_with fail
    refine (HK.out _ _ _ (by rw [HML.out]; exact HN.out) (by rw [HML.out]; exact HCL.out) HCM.out HM2.out).mono ?_
    rintro e w3 ⟨rfl, hI, hB⟩
    have HI := Lib.hid hI; have HB := Lib.hid hB
    clear hI hB
    go_wp2_with fail
    go_ret
    have hdl := Mid.dd_len ms ms.length
    exact ⟨_, ms, rfl, HML.out.trans HNN.out.symm, HSP.out, ⟨some ⟨g, 0, none⟩, _, rfl, by have := HML.out; have := HCL.out; omega, HCM.out, (fun h => by cases h), .inr ⟨g, 0, rfl, HI.out⟩⟩, HB.out⟩
end Go.Proofs.Yteoknmdoghemmaa
