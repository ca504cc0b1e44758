/- Rows of identities that a call made itself. -/
import Derived.Test.YtcofplbdapjdjaaRefHas
namespace Go.Proofs.Ytcofplbdapjdjaa
open Go.RowKit

/-- the cells of identities, one behind the other -/
def flatI (ls : List Mid.Id) : List Value := ls.flatMap encI
theorem flatI_len (ls : List Mid.Id) : (flatI ls).length = ls.length * 32 := by
  induction ls with
  | nil => rfl
  | cons x ls ih =>
    have e : flatI (x :: ls) = encI x ++ flatI ls := by simp [flatI]
    rw [e, List.length_append, encI_len, ih, List.length_cons]; omega
theorem flatI_snoc (ls : List Mid.Id) (x : Mid.Id) : flatI (ls ++ [x]) = flatI ls ++ encI x := by simp [flatI]
theorem flatI_get : ∀ (ls : List Mid.Id) (j i : Nat), j < ls.length → i < 32 → (flatI ls)[j * 32 + i]? = (encI ls[j]!)[i]?
  | [], j, i, h, _ => by simp at h
  | x :: ls, 0, i, _, hi => by
    have e : flatI (x :: ls) = encI x ++ flatI ls := by simp [flatI]
    rw [e, List.getElem?_append_left (by rw [encI_len]; omega)]
    simp
  | x :: ls, j + 1, i, h, hi => by
    have e : flatI (x :: ls) = encI x ++ flatI ls := by simp [flatI]
    rw [e, List.getElem?_append_right (by rw [encI_len]; omega), encI_len, show (j + 1) * 32 + i - 32 = j * 32 + i by omega, flatI_get ls j i (by simpa using h) hi]
    simp
theorem flatI_one (ls : List Mid.Id) : ∀ v ∈ flatI ls, v.oneCell' = true := by
  intro v hv
  obtain ⟨x, _, hx⟩ := List.mem_flatMap.1 hv
  exact encI_one x v hx

/-- a row of identities of the call's own -/
def OwnI (T : TypeId) (base : Nat) (w : World) (v : Value) (ls : List Mid.Id) : Prop := w.ownsRow base T 32 v ls.length (flatI ls)

theorem OwnI.ids {T : TypeId} {base : Nat} {w : World} {v : Value} {ls : List Mid.Id} (h : OwnI T base w v ls) : Ids w v ls := by
  rcases h.2 with ⟨rfl, h0⟩ | ⟨g, cap, cur, rfl, hg, hh, hn, hm, hs, ht⟩
  · obtain rfl : ls = [] := List.eq_nil_of_length_eq_zero h0
    exact Ids.nil w
  · refine ⟨some ⟨g, 0, none⟩, cap, rfl, hn, hm, (fun h => by cases h), .inr ⟨g, 0, rfl, fun j hj i v hv => ?_⟩⟩
    have hi : i < 32 := by
      have := (List.getElem?_eq_some_iff.1 hv).1
      rwa [encI_len] at this
    rw [Nat.zero_add, cell_of_row w g (j * 32 + i) cur T (0, 0) hh]
    have h1 : (cur.toList.take (ls.length * 32))[j * 32 + i]? = cur.toList[j * 32 + i]? := by rw [List.getElem?_take, if_pos (by omega)]
    rw [ht, flatI_get ls j i hj hi, hv] at h1
    rw [← Array.getElem?_toList, ← h1]

theorem infoI : (Try.prog.info? 46).map (fun i => (i.zero, i.size, i.bytes)) = some (some (.agg (bsC zD)), 32, 32) := by kernel_rfl
theorem infoRI : (Try.prog.info? 48).map (fun i => (i.zero, i.size, i.bytes)) = some (some (.agg (bsC zD)), 32, 32) := by kernel_rfl

end Go.Proofs.Ytcofplbdapjdjaa
