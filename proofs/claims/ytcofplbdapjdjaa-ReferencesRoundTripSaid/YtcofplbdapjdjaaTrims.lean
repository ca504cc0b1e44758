/- Trim and IsTrimmed, of the program and of the reference. -/
import Derived.Test.YtcofplbdapjdjaaCut
namespace Go.Proofs.Ytcofplbdapjdjaa
open Go.RowKit

/-- what both Trims give -/
def TrimPost (ls : List Mid.Id) (m : Int) (w : World) (e : Ending) (w' : World) : Prop :=
  ∃ v' l q, e = .returned (.tuple #[v', .int .i64 (q : Nat)]) ∧ Mid.trimE ls m = (l, q) ∧ Ids w' v' l ∧ Below w.heap.size w w'
theorem ret_pair {v : Value} {a b : Int} (h : a = b) : Ending.returned (.tuple #[v, .int .i64 a]) = .returned (.tuple #[v, .int .i64 b]) := by rw [h]

set_option maxRecDepth 100000 in
set_option maxHeartbeats 1000000 in
theorem trimE_any (v : Value) (ls : List Mid.Id) (m : Int) (w : World) (hn : ls.length * 32 + 64 ≤ 140737488355328) (hv : Ids w v ls) :
    Calls Try.prog 20 #[v, .int .i64 m] w (TrimPost ls m w) := by
  by_cases h1 : m < 1
  · have HR := Lib.hid (Mid.trimE_out ls m (.inl h1))
    go_enter Try.func20, Try.ntmps20
    go_wp2_with fail
    go_ret2
    exact ⟨_, [], 2, rfl, HR.out, Ids.nil _, Below.refl _ _⟩
  by_cases h2 : 20 < m
  · have HR := Lib.hid (Mid.trimE_out ls m (.inr h2))
    go_enter Try.func20, Try.ntmps20
    go_wp2_with fail
    go_ret2
    exact ⟨_, [], 2, rfl, HR.out, Ids.nil _, Below.refl _ _⟩
  obtain ⟨k, rfl⟩ : ∃ k : Nat, m = k := ⟨m.toNat, by omega⟩
  have hk1 : 1 ≤ k := by omega
  have hk2 : k ≤ 20 := by omega
  have HG := Lib.hid (trim_any v ls k w hk1 (by omega) hn hv)
  obtain ⟨p, cap, rfl, hlc, hcm, _, _⟩ := hv
  by_cases h3 : 1000 < ls.length
  · have HR := Lib.hid (Mid.trimE_long ls k hk1 hk2 h3)
    have h3I : (1000 : Int) < (ls.length : Int) := by omega
    generalize hnn : ls.length = n at *
    clear HG hlc hcm hn h3 hk1 hk2 hnn
    go_enter Try.func20, Try.ntmps20
    go_wp2_with fail
    go_ret2
    exact ⟨_, [], 9, rfl, HR.out, Ids.nil _, Below.refl _ _⟩
  · have HR := Lib.hid (Mid.trimE_ok ls k hk1 hk2 h3)
    have h3I : ¬ (1000 : Int) < (ls.length : Int) := by omega
    generalize hnn : ls.length = n at *
    clear hlc hcm hn h3 hk1 hk2 hnn
    go_enter Try.func20, Try.ntmps20
    go_wp2_with fail
    refine HG.out.mono ?_
    rintro e w1 ⟨v1, rfl, hi, hb⟩
    have HI := Lib.hid hi; have HB := Lib.hid hb
    clear hi hb
    go_wp2_with fail
    go_ret2
    exact ⟨_, _, 0, rfl, HR.out, HI.out, HB.out⟩

set_option maxRecDepth 100000 in
set_option maxHeartbeats 1000000 in
theorem refTrim_any (v : Value) (ls : List Mid.Id) (m : Int) (w : World) (hn : ls.length * 32 + 64 ≤ 140737488355328) (hv : Ids w v ls) :
    Calls Try.prog 21 #[v, .int .i64 m] w (TrimPost ls m w) := by
  by_cases h1 : m < 1
  · have HR := Lib.hid (Mid.trimE_out ls m (.inl h1))
    go_enter Try.func21, Try.ntmps21
    go_wp2_with fail
    go_ret2
    exact ⟨_, [], 2, rfl, HR.out, Ids.nil _, Below.refl _ _⟩
  by_cases h2 : 20 < m
  · have HR := Lib.hid (Mid.trimE_out ls m (.inr h2))
    go_enter Try.func21, Try.ntmps21
    go_wp2_with fail
    go_ret2
    exact ⟨_, [], 2, rfl, HR.out, Ids.nil _, Below.refl _ _⟩
  obtain ⟨k, rfl⟩ : ∃ k : Nat, m = k := ⟨m.toNat, by omega⟩
  have hk1 : 1 ≤ k := by omega
  have hk2 : k ≤ 20 := by omega
  have HG := Lib.hid (refCut_any v ls k w hk1 (by omega) hn hv)
  obtain ⟨p, cap, rfl, hlc, hcm, _, _⟩ := hv
  by_cases h3 : 1000 < ls.length
  · have HR := Lib.hid (Mid.trimE_long ls k hk1 hk2 h3)
    have h3I : (1000 : Int) < (ls.length : Int) := by omega
    generalize hnn : ls.length = n at *
    clear HG hlc hcm hn h3 hk1 hk2 hnn
    go_enter Try.func21, Try.ntmps21
    go_wp2_with fail
    go_ret2
    exact ⟨_, [], 9, rfl, HR.out, Ids.nil _, Below.refl _ _⟩
  · have HR := Lib.hid (Mid.trimE_ok ls k hk1 hk2 h3)
    have h3I : ¬ (1000 : Int) < (ls.length : Int) := by omega
    generalize hnn : ls.length = n at *
    clear hlc hcm hn h3 hk1 hk2 hnn
    go_enter Try.func21, Try.ntmps21
    go_wp2_with fail
    refine HG.out.mono ?_
    rintro e w1 ⟨v1, rfl, hi, hb⟩
    have HI := Lib.hid hi; have HB := Lib.hid hb
    clear hi hb
    go_wp2_with fail
    go_ret2
    exact ⟨_, _, 0, rfl, HR.out, HI.out, HB.out⟩

theorem dec_nil (ls : List Mid.Id) : decide ((ls.length : Int) = 0) = decide (ls = []) := by
  rw [decide_eq_decide]
  constructor
  · intro h; exact List.eq_nil_of_length_eq_zero (by omega)
  · rintro rfl; rfl

set_option maxRecDepth 100000 in
set_option maxHeartbeats 1000000 in
theorem isTrimmed_any (v u : Value) (ls ms : List Mid.Id) (w : World) (hn : ls.length * 32 + 64 ≤ 140737488355328) (hm : ms.length * 32 + 64 ≤ 140737488355328) (hv : Ids w v ls) (hu : Ids w u ms) :
    Calls Try.prog 30 #[v, u] w fun e w' => e = .returned (.bool (Mid.isTr ls ms)) ∧ Below w.heap.size w w' := by
  have HV := Lib.hid hv
  have HT := Lib.hid (fun h1 => trim_any u ms ls.length w h1 (by omega) hm hu)
  have HE := Lib.hid (fun W x l h1 h2 => equal_any v x ls l W h1 h2)
  have HM := Lib.hid (dec_nil ms)
  obtain ⟨p, cap, rfl, hlc, hcm, _, _⟩ := hv
  obtain ⟨p2, cap2, rfl, hlc2, hcm2, _, _⟩ := hu
  by_cases h0 : ls = []
  · have HR := Lib.hid (show decide (ms = []) = Mid.isTr ls ms by unfold Mid.isTr; rw [if_pos h0])
    have hl : (ls.length : Int) = 0 := by rw [h0]; rfl
    generalize hnn : ls.length = n at *
    generalize hmm : ms.length = m at *
    clear hlc hcm hlc2 hcm2 hn hm hnn hmm h0
    go_enter Try.func30, Try.ntmps30
    go_wp2_with fail
    go_ret
    exact ⟨ret_bool (HM.out.trans HR.out), Below.refl _ _⟩
  · have HR := Lib.hid (show decide (ls = Mid.cutL ms ls.length) = Mid.isTr ls ms by unfold Mid.isTr; rw [if_neg h0])
    have hp : 0 < ls.length := List.length_pos_iff.2 h0
    have hl : ¬ (ls.length : Int) = 0 := by omega
    have HP := Lib.hid hp
    generalize hnn : ls.length = n at *
    generalize hmm : ms.length = m at *
    clear hlc hcm hlc2 hcm2 hn hm hnn hmm h0 hp
    go_enter Try.func30, Try.ntmps30
    go_wp2_with fail
    refine (HT.out HP.out).mono ?_
    rintro e w1 ⟨v1, rfl, hi, hb⟩
    have HI := Lib.hid hi; have HB := Lib.hid hb
    clear hi hb
    go_wp2_with fail
    refine (HE.out _ _ _ (HV.out.below HB.out) HI.out).mono ?_
    rintro e w2 ⟨rfl, hb2⟩
    have HB2 := Lib.hid (HB.out.trans (hb2.mono HB.out.size))
    clear hb2
    go_wp2_with fail
    go_ret
    exact ⟨ret_bool HR.out, HB2.out⟩

set_option maxRecDepth 100000 in
set_option maxHeartbeats 1000000 in
theorem refIsTrimmed_any (v u : Value) (ls ms : List Mid.Id) (w : World) (hn : ls.length * 32 + 64 ≤ 140737488355328) (hm : ms.length * 32 + 64 ≤ 140737488355328) (hv : Ids w v ls) (hu : Ids w u ms) :
    Calls Try.prog 31 #[v, u] w fun e w' => e = .returned (.bool (Mid.isTr ls ms)) ∧ Below w.heap.size w w' := by
  have HV := Lib.hid hv
  have HT := Lib.hid (fun W h1 h => refCut_any u ms ls.length W h1 (by omega) hm h)
  have HS := Lib.hid (refSame_any v u ls ms w hv hu)
  have HE := Lib.hid (fun W x l h1 h2 => refSame_any v x ls l W h1 h2)
  have HU := Lib.hid hu
  have HR0 := Lib.hid (Mid.isTr_ref ls ms)
  obtain ⟨p, cap, rfl, hlc, hcm, _, _⟩ := hv
  obtain ⟨p2, cap2, rfl, hlc2, hcm2, _, _⟩ := hu
  by_cases h0 : ls = ms
  · have HR := Lib.hid (show true = Mid.isTr ls ms by have := HR0.out; rw [decide_eq_true h0, Bool.true_or] at this; exact this)
    rw [decide_eq_true h0] at HS
    generalize hnn : ls.length = n at *
    generalize hmm : ms.length = m at *
    clear hlc hcm hlc2 hcm2 hn hm hnn hmm h0
    go_enter Try.func31, Try.ntmps31
    go_wp2_with fail
    refine HS.out.mono ?_
    rintro e w1 ⟨rfl, hb⟩
    have HB := Lib.hid hb
    clear hb
    go_wp2_with fail
    go_ret
    exact ⟨ret_bool HR.out, HB.out⟩
  rw [decide_eq_false h0] at HS
  by_cases hp : 0 < ls.length
  · have HR := Lib.hid (show decide (ls = Mid.cutL ms ls.length) = Mid.isTr ls ms by have := HR0.out; rw [decide_eq_false h0, Bool.false_or, decide_eq_true hp, Bool.true_and] at this; exact this)
    have hpI : (0 : Int) < (ls.length : Int) := by omega
    have HP := Lib.hid (show 1 ≤ ls.length from hp)
    generalize hnn : ls.length = n at *
    generalize hmm : ms.length = m at *
    clear hlc hcm hlc2 hcm2 hn hm hnn hmm h0
    go_enter Try.func31, Try.ntmps31
    go_wp2_with fail
    refine HS.out.mono ?_
    rintro e w1 ⟨rfl, hb⟩
    have HB := Lib.hid hb
    clear hb
    go_wp2_with fail
    refine (HT.out _ HP.out (HU.out.below HB.out)).mono ?_
    rintro e w2 ⟨v2, rfl, hi, hb2⟩
    have HI := Lib.hid hi; have HB2 := Lib.hid (HB.out.trans (hb2.mono HB.out.size))
    clear hi hb2
    go_wp2_with fail
    refine (HE.out _ _ _ (HV.out.below HB2.out) HI.out).mono ?_
    rintro e w3 ⟨rfl, hb3⟩
    have HB3 := Lib.hid (HB2.out.trans (hb3.mono HB2.out.size))
    clear hb3
    generalize decide (ls = Mid.cutL ms n) = q at *
    go_wp2_with fail
    go_ret
    exact ⟨ret_bool HR.out, HB3.out⟩
  · have HR := Lib.hid (show false = Mid.isTr ls ms by have := HR0.out; rw [decide_eq_false h0, Bool.false_or, decide_eq_false hp, Bool.false_and] at this; exact this)
    have hpI : ¬ (0 : Int) < (ls.length : Int) := by omega
    generalize hnn : ls.length = n at *
    generalize hmm : ms.length = m at *
    clear hlc hcm hlc2 hcm2 hn hm hnn hmm h0
    go_enter Try.func31, Try.ntmps31
    go_wp2_with fail
    refine HS.out.mono ?_
    rintro e w1 ⟨rfl, hb⟩
    have HB := Lib.hid hb
    clear hb
    go_wp2_with fail
    go_ret
    exact ⟨ret_bool HR.out, HB.out⟩
end Go.Proofs.Ytcofplbdapjdjaa
