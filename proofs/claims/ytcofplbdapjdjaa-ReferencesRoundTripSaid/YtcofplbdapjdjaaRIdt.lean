/- The reference's Identity. -/
import Derived.Test.YtcofplbdapjdjaaTok
import Derived.Test.YtcofplbdapjdjaaRChk
import Derived.Test.YtcofplbdapjdjaaRText
import Derived.Test.YtcofplbdapjdjaaRep
namespace Mid
def stI (s : List UInt8) (k : Nat) : List Nat := (List.range 32).map fun j => if j < k then 16 * dg s (2 * j) + dg s (2 * j + 1) else 0
theorem stI_len (s : List UInt8) (k : Nat) : (stI s k).length = 32 := by simp [stI]
theorem stI_zero (s : List UInt8) : stI s 0 = zN := by
  unfold stI zN
  apply List.ext_getElem (by simp)
  intro i h1 h2
  simp only [List.getElem_map, List.getElem_replicate]
  rw [if_neg (by omega)]
theorem stI_top (s : List UInt8) : stI s 32 = idL s := by
  unfold stI idL
  apply List.map_congr_left
  intro j hj
  rw [if_pos (List.mem_range.1 hj)]
theorem stI_step (s : List UInt8) (k : Nat) (_hk : k < 32) : (stI s k).set k (16 * dg s (2 * k) + dg s (2 * k + 1)) = stI s (k + 1) := by
  apply List.ext_getElem (by simp [stI])
  intro i h1 h2
  have hi : i < 32 := by simpa [stI] using h2
  rw [List.getElem_set]
  simp only [stI, List.getElem_map, List.getElem_range]
  by_cases e : k = i
  · subst e; rw [if_pos rfl, if_pos (by omega)]
  · rw [if_neg e]
    by_cases h : i < k
    · rw [if_pos h, if_pos (by omega)]
    · rw [if_neg h, if_neg (by omega)]
/-- what makes a token an identity -/
theorem okT_iff (t : List UInt8) : okT t = true ↔ t.length = 71 ∧ ∀ j, j < 71 → good (t.getD j 0) j = true := by
  have hb : bad 0 t = none ↔ ∀ j, j < t.length → j < 71 → good (t.getD j 0) j = true := by
    rw [bad_none]
    constructor
    · intro h j h1 h2
      have := h j h1 (by omega)
      rw [List.getD_eq_getElem?_getD, List.getElem?_eq_getElem h1]
      simpa using this
    · intro h j h1 h2
      have := h j h1 (by omega)
      rw [List.getD_eq_getElem?_getD, List.getElem?_eq_getElem h1] at this
      simpa using this
  unfold okT
  rw [decide_eq_true_eq]
  constructor
  · intro h
    cases hc : bad 0 t with
    | some i => rw [parse_bad t i hc] at h; cases h
    | none =>
      by_cases h1 : t.length < 71
      · rw [parse_short t hc h1] at h; cases h
      · by_cases h2 : 71 < t.length
        · rw [parse_long t hc h2] at h; cases h
        · exact ⟨by omega, fun j hj => (hb.1 hc) j (by omega) hj⟩
  · rintro ⟨h1, h2⟩
    rw [parse_ok t (hb.2 (fun j a b => h2 j b)) h1]
theorem idT_ok (t : List UInt8) (h : okT t = true) : (idT t).1 = idL t := by
  obtain ⟨h1, h2⟩ := (okT_iff t).1 h
  have hb : bad 0 t = none := by
    rw [bad_none]
    intro j a b
    have := h2 j (by omega)
    rw [List.getD_eq_getElem?_getD, List.getElem?_eq_getElem a] at this
    simpa using this
  unfold idT
  simp only [parse_ok t hb h1]
theorem good_hex (t : List UInt8) (j : Nat) (h1 : 1 ≤ j) (h2 : j < 65) (h : good (t.getD j 0) j = true) : 0 ≤ Asc.nib (t.getD j 0) := by
  unfold good at h
  rw [if_neg (by omega), if_pos h2] at h
  simpa using h
end Mid
namespace Go.Proofs.Ytcofplbdapjdjaa
open Go.RowKit

theorem refvalue_any (c : UInt8) (w : World) : Calls Try.prog 60 #[.int .u8 c.toNat] w fun e w' => e = .returned (.int .i64 (Asc.nib c)) ∧ w = w' := by
  have hc := c.toNat_lt
  obtain ⟨a, ha⟩ : ∃ a, Asc.nib c = a := ⟨_, rfl⟩
  rw [ha]
  unfold Asc.nib at ha
  by_cases h1 : 48 ≤ c.toNat ∧ c.toNat ≤ 57
  · rw [if_pos h1] at ha
    have b1 : (48 : Int) ≤ (c.toNat : Int) := by omega
    have b2 : (c.toNat : Int) ≤ 57 := by omega
    have HA := Lib.hid ha
    clear ha h1 hc
    go_enter Try.func60, Try.ntmps60
    go_wp2_with fail
    go_ret
    exact ⟨ret_int HA.out, rfl⟩
  · rw [if_neg h1] at ha
    by_cases h2 : 97 ≤ c.toNat ∧ c.toNat ≤ 102
    · rw [if_pos h2] at ha
      have b1 : (97 : Int) ≤ (c.toNat : Int) := by omega
      have b2 : (c.toNat : Int) ≤ 102 := by omega
      have b3 : ¬ (c.toNat : Int) ≤ 57 := by omega
      have b4 : (48 : Int) ≤ (c.toNat : Int) := by omega
      have HA := Lib.hid (show (c.toNat : Int) - 97 + 10 = a by omega)
      clear ha h1 h2 hc
      go_enter Try.func60, Try.ntmps60
      go_wp2_with fail
      go_ret
      exact ⟨ret_int HA.out, rfl⟩
    · rw [if_neg h2] at ha
      have HA := Lib.hid ha
      by_cases b1 : (48 : Int) ≤ (c.toNat : Int)
      · have b2 : ¬ (c.toNat : Int) ≤ 57 := by omega
        by_cases b3 : (97 : Int) ≤ (c.toNat : Int)
        · have b4 : ¬ (c.toNat : Int) ≤ 102 := by omega
          clear ha h1 h2 hc
          go_enter Try.func60, Try.ntmps60
          go_wp2_with fail
          go_ret
          exact ⟨ret_int HA.out, rfl⟩
        · clear ha h1 h2 hc
          go_enter Try.func60, Try.ntmps60
          go_wp2_with fail
          go_ret
          exact ⟨ret_int HA.out, rfl⟩
      · have b3 : ¬ (97 : Int) ≤ (c.toNat : Int) := by omega
        clear ha h1 h2 hc
        go_enter Try.func60, Try.ntmps60
        go_wp2_with fail
        go_ret
        exact ⟨ret_int HA.out, rfl⟩

theorem results_R {tmps : Array Value} {w : World} {g : Nat} {cs : Array Value} (hp : tmps.getD 2 undef = .pointer (some ⟨g, 0, none⟩)) (hg : Blk w g 48 cs) (hs : cs.size = 32) (b : Value) (h3 : tmps.getD 3 undef = b) :
    (results Try.f40 tmps).run Try.prog w = .ok (.tuple #[.agg cs, b]) w := by
  rw [← h3]
  exact results_cell_tmp1 rfl tmps w g _ cs _ _ hp hg rfl Try.underlying48 (by rw [hs]; exact infoRid)
end Go.Proofs.Ytcofplbdapjdjaa
