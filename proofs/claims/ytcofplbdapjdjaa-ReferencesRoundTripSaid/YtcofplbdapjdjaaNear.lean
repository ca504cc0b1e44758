/- Nearest, at the predicates that are handed to it. -/
import Derived.Test.YtcofplbdapjdjaaRnd
import Derived.Test.YtcofplbdapjdjaaRChk
import Derived.Sort.CutIn
namespace Go.Proofs.Ytcofplbdapjdjaa
open Go.RowKit Go.Shelf

attribute [local go_sem] Oper.semAt_some

theorem Blk.own {W W' : World} {g : Nat} {t : TypeId} {cs : Array Value} {row : Option Nat} (h : Blk W g t cs) (hg : W.grownBy W' row) (hr : ∀ r, row = some r → ∃ o : Obj, W.heap[r]? = some o ∧ o.isCells = false) : Blk W' g t cs :=
  (hg.block g h.lt (by intro e; obtain ⟨o, ho, h2⟩ := hr g e.symm; rw [show W.heap[g]? = _ from h] at ho; cases ho; cases h2)).trans h

/-- the five boxes that Nearest lays -/
def boxes5 (w : World) (v f : Value) : World := ((((w.alloc (.cells #[v] 27)).alloc (.cells #[f] 57)).alloc (.cells #[.int .u8 0, .int .u8 0, .int .u8 0, .int .u8 0, .int .u8 0, .int .u8 0, .int .u8 0, .int .u8 0, .int .u8 0, .int .u8 0, .int .u8 0, .int .u8 0, .int .u8 0, .int .u8 0, .int .u8 0, .int .u8 0, .int .u8 0, .int .u8 0, .int .u8 0, .int .u8 0, .int .u8 0, .int .u8 0, .int .u8 0, .int .u8 0, .int .u8 0, .int .u8 0, .int .u8 0, .int .u8 0, .int .u8 0, .int .u8 0, .int .u8 0, .int .u8 0] 46)).alloc (.cells #[.int .i64 0] 3)).alloc (.cells #[.bool false] 4)
theorem boxes5_ok (w : World) (v f : Value) (B : Nat) (hB : B = w.heap.size) : Blk (boxes5 w v f) B 27 #[v] ∧ Blk (boxes5 w v f) (B + 1) 57 #[f] ∧ Blk (boxes5 w v f) (B + 1 + 1) 46 #[.int .u8 0, .int .u8 0, .int .u8 0, .int .u8 0, .int .u8 0, .int .u8 0, .int .u8 0, .int .u8 0, .int .u8 0, .int .u8 0, .int .u8 0, .int .u8 0, .int .u8 0, .int .u8 0, .int .u8 0, .int .u8 0, .int .u8 0, .int .u8 0, .int .u8 0, .int .u8 0, .int .u8 0, .int .u8 0, .int .u8 0, .int .u8 0, .int .u8 0, .int .u8 0, .int .u8 0, .int .u8 0, .int .u8 0, .int .u8 0, .int .u8 0, .int .u8 0] ∧ Blk (boxes5 w v f) (B + 1 + 1 + 1) 3 #[.int .i64 0] ∧
    Blk (boxes5 w v f) (B + 1 + 1 + 1 + 1) 4 #[.bool false] ∧ Below w.heap.size w (boxes5 w v f) ∧ (boxes5 w v f).heap.size = B + 5 := by
  unfold boxes5
  have n1 : ∀ (W : World) (b : Nat) (t : TypeId) (cs : Array Value), b = W.heap.size → Blk (W.alloc (.cells cs t)) b t cs := fun W b t cs h => by subst h; exact Blk.fresh W t cs
  refine ⟨((((n1 _ _ _ _ hB).more _).more _).more _).more _, (((n1 _ _ _ _ (by simp [hB])).more _).more _).more _, ((n1 _ _ _ _ (by simp [hB])).more _).more _, (n1 _ _ _ _ (by simp [hB])).more _, n1 _ _ _ _ (by simp [hB]), ?_, by simp [hB]⟩
  exact (((((Below.refl w.heap.size w).alloc (Nat.le_refl _) _).alloc (by simp) _).alloc (by simp; omega) _).alloc (by simp; omega) _).alloc (by simp; omega) _

def NearPost (p : Mid.Id → Bool) (ls : List Mid.Id) (w : World) (e : Ending) (w' : World) : Prop :=
  ∃ (x : Mid.Id) (i : Nat) (ok : Bool), e = .returned (.tuple #[.agg (encI x).toArray, .int .i64 i, .bool ok]) ∧ Below w.heap.size w w' ∧
    ((ok = true ∧ ∃ k, k < ls.length ∧ ls[k]! = x ∧ p x = true ∧ i = ls.length - 1 - k ∧ ∀ j, k < j → j < ls.length → p ls[j]! = false) ∨ (ok = false ∧ x = default ∧ i = ls.length ∧ ∀ x ∈ ls, p x = false))

theorem near_results (tmps : Array Value) (w : World) (a b c : Nat) (cs : Array Value) (u v : Value) (h4 : tmps.getD 4 undef = .pointer (some ⟨a, 0, none⟩)) (h5 : tmps.getD 5 undef = .pointer (some ⟨b, 0, none⟩)) (h6 : tmps.getD 6 undef = .pointer (some ⟨c, 0, none⟩))
    (ra : Blk w a 46 cs) (rb : Blk w b 3 #[u]) (rc : Blk w c 4 #[v]) (hs : cs.size = 32 := by simp [encI_len]) : (results Try.f25 tmps).run Try.prog w = .ok (.tuple #[.agg cs, u, v]) w := by
  have h4' : tmps[4]?.getD undef = .pointer (some ⟨a, 0, none⟩) := by simpa using h4
  have h5' : tmps[5]?.getD undef = .pointer (some ⟨b, 0, none⟩) := by simpa using h5
  have h6' : tmps[6]?.getD undef = .pointer (some ⟨c, 0, none⟩) := by simpa using h6
  have hr := run_loadVar_mid (P := Try.prog) w a 0 46 cs.toList _ (fun j x hx => by rw [Nat.zero_add, cell_of_row w a j cs 46 (0, 0) ra]; simpa using hx) Try.underlying46 rfl (by rw [infoId, Array.length_toList, hs])
  simp only [Array.toArray_toList] at hr
  have cb : w.cell? ⟨b, 0, none⟩ = some u := rb.cell 0
  have cc : w.cell? ⟨c, 0, none⟩ = some v := rc.cell 0
  have hb : (loadVar 3 ⟨b, 0, none⟩).run Try.prog w = .ok u w := by simp [go_sem, cb]
  have hc : (loadVar 4 ⟨c, 0, none⟩).run Try.prog w = .ok v w := by simp [go_sem, cc]
  simp [results, Try.f25, h4', h5', h6', asAddr, hr, hb, hc]

theorem near_stop (p : Mid.Id → Bool) (ls : List Mid.Id) (N : Nat) (hN : N = ls.length) (pre pre' : List (It N)) (x : It N) (h : pre <+: backs ls N N (Nat.le_refl _)) (hx : pre = pre' ++ [x]) (hno : ∀ y ∈ pre', p y.1.2 = false) (hyes : p x.1.2 = true) :
    ∃ k, k < ls.length ∧ ls[k]! = x.1.2 ∧ p x.1.2 = true ∧ N - 1 - x.1.1 = ls.length - 1 - k ∧ ∀ j, k < j → j < ls.length → p ls[j]! = false := by
  subst hx
  obtain ⟨r, hr⟩ := h
  have hl := congrArg List.length hr
  rw [backs_len, List.length_append, List.length_append, List.length_singleton] at hl
  have hg : ∀ j, j < pre'.length + 1 → (pre' ++ [x])[j]?.map (·.1) = some (N - 1 - j, ls[N - 1 - j]!) := fun j hj => by
    have e : (pre' ++ [x] ++ r)[j]? = (pre' ++ [x])[j]? := List.getElem?_append_left (by rw [List.length_append, List.length_singleton]; omega)
    rw [← e, hr, backs_get ls N N (Nat.le_refl _) j (by omega)]
  have h1 := hg pre'.length (by omega)
  rw [List.getElem?_append_right (Nat.le_refl _), Nat.sub_self] at h1
  simp only [List.getElem?_cons_zero, Option.map_some, Option.some.injEq] at h1
  refine ⟨N - 1 - pre'.length, by omega, by rw [h1], hyes, by rw [h1]; omega, fun j hj1 hj2 => ?_⟩
  have h2 := hg (N - 1 - j) (by omega)
  rw [List.getElem?_append_left (by omega), show N - 1 - (N - 1 - j) = j by omega] at h2
  obtain ⟨z, hz, e2⟩ := Option.map_eq_some_iff.1 h2
  have h8 := hno z (List.mem_of_getElem? hz)
  rw [e2] at h8
  exact h8

set_option maxRecDepth 100000 in
set_option maxHeartbeats 4000000 in
theorem near_acc (p : Mid.Id → Bool) (q : Option Addr) (N cap : Nat) (ls : List Mid.Id) (w : World) (hv : Ids w (.slice q N cap) ls) (hN : N = ls.length)
    (HP : ∀ (x : Mid.Id) (W : World), Below w.heap.size w W → Calls Try.prog 26 #[.agg (encI x).toArray] W fun e W' => e = .returned (.bool (p x)) ∧ Below W.heap.size W W') :
    Calls Try.prog 25 #[.slice q N cap, .func (.func 26) #[] #[]] w (NearPost p ls w) := by
  obtain ⟨q', cap', hve, hcp, hcm, _, hcells⟩ := hv
  injection hve with e1 e2 e3
  subst e1 e3
  rw [← hN] at hcp
  have hcells' : ls = [] ∨ ∃ b off, q = some ⟨b, off, none⟩ ∧ IdsC w b off ls ∧ b < w.heap.size := hcells.elim .inl (fun ⟨b, off, h1, h2⟩ => by
    by_cases hne : ls = []
    · exact .inl hne
    · exact .inr ⟨b, off, h1, h2, h2.lt hne⟩)
  have HCL := Lib.hid hcells'; have HCP := Lib.hid hcp; have HCM := Lib.hid hcm; have HN := Lib.hid hN; have HPP := Lib.hid HP
  have hNI : (N : Int) ≤ 9223372036854775807 := by unfold maxLen at hcm; omega
  clear hcells hcells' hcp hcm hN HP e2
  obtain ⟨B, hB⟩ : ∃ B, B = w.heap.size := ⟨_, rfl⟩
  obtain ⟨b0, b1, b2, b3, b4, hB0, hsz⟩ := boxes5_ok w (.slice q N cap) (.func (.func 26) #[] #[]) B hB
  refine (callsIn_wide (n := 8)).1 ?_
  refine callsIn_of_wp_marks Try.func25 rfl trivial ?_ rfl
  simp only [Try.ntmps25, List.size_toArray, List.length_cons, List.length_nil, Nat.reduceAdd, Nat.reduceSub, Array.replicate_succ, Array.replicate_zero, List.push_toArray, List.append_toArray, List.nil_append, List.cons_append]
  have hB0' := hB0
  have c0 : (boxes5 w (.slice q N cap) (.func (.func 26) #[] #[])).cell? ⟨w.heap.size, 0, none⟩ = some (.slice q N cap) := by rw [← hB]; exact b0.cell 0
  have c1 : (boxes5 w (.slice q N cap) (.func (.func 26) #[] #[])).cell? ⟨w.heap.size + 1, 0, none⟩ = some (.func (.func 26) #[] #[]) := by rw [← hB]; exact b1.cell 0
  have hcall := callsIn_wide (n := 7).2 (back_any _ (boxes5 w (.slice q N cap) (.func (.func 26) #[] #[])) q N cap rfl)
  obtain ⟨W5, hW5⟩ : ∃ W5, W5 = boxes5 w (.slice q N cap) (.func (.func 26) #[] #[]) := ⟨_, rfl⟩
  have HW5 := Lib.hid hW5
  have D0 := Lib.hid b0; have D1 := Lib.hid b1; have D2 := Lib.hid b2; have D3 := Lib.hid b3; have D4 := Lib.hid b4; have HB0 := Lib.hid hB0; have HSZ := Lib.hid hsz; have HBE := Lib.hid hB
  have hsz' : (boxes5 w (.slice q N cap) (.func (.func 26) #[] #[])).heap.size = B + 5 := hsz
  clear b0 b1 b2 b3 b4 hB0 hB hB0' hW5 hsz
  rw [hsz'] at hcall
  clear hsz'
  have HCALL := Lib.hid hcall
  unfold boxes5 at c0 c1
  clear hcall
  gi_wp2
  rename_i K9 hK9
  refine hK9 _ _ ?_
  gi_wp2
  refine ⟨trivial, ?_⟩
  refine (show CallsIn _ _ _ _ _ _ _ from HCALL.out.mono ?_)
  rintro y w6 ⟨rfl, hw6⟩
  obtain ⟨R, hR⟩ : ∃ R, R = B + 5 := ⟨_, rfl⟩
  have e0 := D0.out.more (.cells #[.slice q N cap] 27); have e1 := D1.out.more (.cells #[.slice q N cap] 27); have e2 := D2.out.more (.cells #[.slice q N cap] 27); have e3 := D3.out.more (.cells #[.slice q N cap] 27); have e4 := D4.out.more (.cells #[.slice q N cap] 27)
  have hbx : Blk w6 R 27 #[.slice q N cap] := by rw [hw6, hR, ← HSZ.out]; exact Blk.fresh _ _ _
  have hB6 : Below w.heap.size w w6 := by rw [hw6]; exact HB0.out.alloc HB0.out.size _
  have hs6 : w6.heap.size = R + 1 := by rw [hw6, hR]; simp [HSZ.out]
  rw [← hw6] at e0 e1 e2 e3 e4
  rw [← hR, ← HBE.out]
  have E0 := Lib.hid e0; have E1 := Lib.hid e1; have E2 := Lib.hid e2; have E3 := Lib.hid e3; have E4 := Lib.hid e4; have HBX := Lib.hid hbx; have HB6 := Lib.hid hB6
  have hRB : R = B + 5 := hR
  clear hw6 hR e0 e1 e2 e3 e4 hbx hB6 D0 D1 D2 D3 D4 HB0 c0 c1 HSZ HW5
  have HRB := Lib.hid hRB
  clear hRB
  gi_wp2
  have hwB : w.heap.size ≤ B := by rw [HBE.out]; exact Nat.le_refl _
  have hRB2 : B + 5 = R := HRB.out.symm
  refine wpIn_rangeFunc_ownH rfl (by omega) (gf := 61) (lb := #[.pointer (some ⟨R, 0, none⟩)]) rfl trivial (enters_of Try.func61 (by kernel_rfl) rfl)
    (back_stops 7 (by omega) R w.heap.size q N cap HCP.out HCM.out ls HN.out w6 (HCL.out.imp id (fun ⟨b, off, h1, h2, h3⟩ => ⟨b, off, h1, h2.keep HB6.out h3, h3⟩)) (by omega) (by omega) (HBX.out.cell 0)) keepsB_t (keepsB_b (by omega) (by omega)) (Below.refl _ _) (fun _ => rfl)
    (fun pre W => (Blk W B 27 #[.slice q N cap] ∧ Blk W (B + 1) 57 #[.func (.func 26) #[] #[]] ∧ Blk W (B + 1 + 1) 46 #[.int .u8 0, .int .u8 0, .int .u8 0, .int .u8 0, .int .u8 0, .int .u8 0, .int .u8 0, .int .u8 0, .int .u8 0, .int .u8 0, .int .u8 0, .int .u8 0, .int .u8 0, .int .u8 0, .int .u8 0, .int .u8 0, .int .u8 0, .int .u8 0, .int .u8 0, .int .u8 0, .int .u8 0, .int .u8 0, .int .u8 0, .int .u8 0, .int .u8 0, .int .u8 0, .int .u8 0, .int .u8 0, .int .u8 0, .int .u8 0, .int .u8 0, .int .u8 0] ∧ Blk W (B + 1 + 1 + 1) 3 #[.int .i64 0] ∧ Blk W (B + 1 + 1 + 1 + 1) 4 #[.bool false] ∧ R < W.heap.size ∧ ∀ x ∈ pre, p x.1.2 = false) ∧ Below w.heap.size w W)
    (fun c pre W => (c = .ret ∧ ∃ pre' x, pre = pre' ++ [x] ∧ (∀ y ∈ pre', p y.1.2 = false) ∧ p x.1.2 = true ∧ Blk W (B + 1 + 1) 46 (encI x.1.2).toArray ∧ Blk W (B + 1 + 1 + 1) 3 #[.int .i64 ((N - 1 - x.1.1 : Nat) : Int)] ∧ Blk W (B + 1 + 1 + 1 + 1) 4 #[.bool true]) ∧ Below w.heap.size w W)
    (OwnFrom.and (Own.from (fun s A C row hs hg hr => ⟨hs.1.own hg hr, hs.2.1.own hg hr, hs.2.2.1.own hg hr, hs.2.2.2.1.own hg hr, hs.2.2.2.2.1.own hg hr, Nat.lt_of_lt_of_le hs.2.2.2.2.2.1 hg.size, hs.2.2.2.2.2.2⟩) _) (ownFrom_below (Nat.le_refl _) (by omega)))
    (fun c => OwnFrom.and (Own.from (fun s A C row hs hg hr => ⟨hs.1, by obtain ⟨pre', x, h1, h2, h3, h4, h5, h6⟩ := hs.2; exact ⟨pre', x, h1, h2, h3, h4.own hg hr, h5.own hg hr, h6.own hg hr⟩⟩) _) (ownFrom_below (Nat.le_refl _) (by omega)))
    ⟨⟨E0.out, E1.out, E2.out, E3.out, E4.out, by omega, fun x hx => by cases hx⟩, HB6.out⟩
    (fun x a' W => ∃ Bx, R < Bx ∧ Blk W Bx 46 (encI x.1.2).toArray ∧ a' = { tmps := #[.slice q N cap, .func (.func 26) #[] #[], .pointer (some ⟨B, 0, none⟩), .pointer (some ⟨B + 1, 0, none⟩), .pointer (some ⟨B + 1 + 1, 0, none⟩), .pointer (some ⟨B + 1 + 1 + 1, 0, none⟩), .pointer (some ⟨B + 1 + 1 + 1 + 1, 0, none⟩), .int .i64 (x.1.1 : Int), .pointer (some ⟨Bx, 0, none⟩), .func (.func 26) #[] #[], .bool false, undef, undef, undef, .slice q N cap, .func (.func 61) #[] #[.pointer (some ⟨R, 0, none⟩)], .int .i64 (x.1.1 : Int), .agg (encI x.1.2).toArray, undef, undef, undef, undef, undef, undef, undef, undef, undef, undef, undef, undef], defers := [] })
    (fun x a' _ X Y row hs hg hr => by obtain ⟨Bx, h1, h2, h3⟩ := hs; exact ⟨Bx, h1, h2.own hg (fun r e => (hr r e).2), h3⟩)
    ?assign ?body ?done ?stop
  case assign =>
    rintro l pre x W K ⟨⟨h0, h1, h2, h3, h4, hR, h5⟩, hB⟩ hK
    dsimp only [encs]
    have hsz := hB.size
    have B0 := Lib.hid (Blk.fresh W 46 #[.int .u8 0, .int .u8 0, .int .u8 0, .int .u8 0, .int .u8 0, .int .u8 0, .int .u8 0, .int .u8 0, .int .u8 0, .int .u8 0, .int .u8 0, .int .u8 0, .int .u8 0, .int .u8 0, .int .u8 0, .int .u8 0, .int .u8 0, .int .u8 0, .int .u8 0, .int .u8 0, .int .u8 0, .int .u8 0, .int .u8 0, .int .u8 0, .int .u8 0, .int .u8 0, .int .u8 0, .int .u8 0, .int .u8 0, .int .u8 0, .int .u8 0, .int .u8 0])
    clear E0 E1 E2 E3 E4 HBX HB6
    gi_wp2_with (refine stoIn_id infoId W.heap.size x.1.2 _ B0.out (by rfl) (by rfl) _ _ (by rfl) (by rfl) (by rfl) ?_; intro w2 hw2)
    have hKO : KeepsOthers W w2 := by rw [hw2.out]; exact (KeepsOthers.alloc _ _).trans (keepsOthers_row B0.out _)
    have hBW : Below W.heap.size W w2 := by rw [hw2.out]; exact below_row ((Below.refl _ W).alloc (Nat.le_refl _) _) _ (Nat.le_refl _) _
    refine hK _ _ (hKO.from _) (keepsB_below hBW (by omega) hR) ⟨⟨h0.keep hBW h0.lt, h1.keep hBW h1.lt, h2.keep hBW h2.lt, h3.keep hBW h3.lt, h4.keep hBW h4.lt, Nat.lt_of_lt_of_le hR hBW.size, h5⟩, hB.trans (hBW.mono (by omega))⟩ ⟨W.heap.size, hR, by rw [hw2.out]; exact B0.out.row _, rfl⟩
  case body =>
    rintro l pre x a' W hl ⟨r, hr⟩ ⟨⟨h0, h1, h2, h3, h4, hR, h5⟩, hB⟩ ⟨Bx, hBx, bX, rfl⟩ hlt
    have c0 : W.cell? ⟨B, 0, none⟩ = some (.slice q N cap) := h0.cell 0
    have c1 : W.cell? ⟨B + 1, 0, none⟩ = some (.func (.func 26) #[] #[]) := h1.cell 0
    have HX := Lib.hid (encBlk bX); have HBX2 := Lib.hid bX
    have hix := info_enc infoId x.1.2
    have hu : Try.prog.underlying 46 = some (.array 32 5) := Try.underlying46
    have H0 := Lib.hid h0; have H1 := Lib.hid h1; have H2 := Lib.hid h2; have H3 := Lib.hid h3; have H4 := Lib.hid h4; have H5 := Lib.hid h5; have HB := Lib.hid hB; have HL := Lib.hid hl; have HR := Lib.hid hr
    have HCA := Lib.hid (HPP.out x.1.2 W hB)
    clear h0 h1 h2 h3 h4 h5 hB hl hr bX E0 E1 E2 E3 E4 HBX HB6
    gi_wp2_with (refine wpListIn_load_mid rfl _ _ rfl Bx 0 (by rfl) (encI x.1.2) _ HX.out hu rfl hix ?_)
    refine ⟨trivial, ?_⟩
    refine (CallsIn.inRound l (callsIn_wide.2 HCA.out)).mono ?_
    rintro e W3 ⟨rfl, hb3⟩
    have K0 := Lib.hid (H0.out.keep hb3 H0.out.lt); have K1 := Lib.hid (H1.out.keep hb3 H1.out.lt); have K2 := Lib.hid (H2.out.keep hb3 H2.out.lt); have K3 := Lib.hid (H3.out.keep hb3 H3.out.lt); have K4 := Lib.hid (H4.out.keep hb3 H4.out.lt); have KX := Lib.hid (HBX2.out.keep hb3 HBX2.out.lt)
    have hszB := HB.out.size
    have KB := Lib.hid (HB.out.trans (hb3.mono hszB)); have KR := Lib.hid (Nat.lt_of_lt_of_le hR hb3.size)
    have KP := Lib.hid (keepsB_below hb3 hszB hR)
    have KK := Lib.hid (KeepsOthers.of_grownBy (bl_grownBy hb3 none) (fun j o h _ => by cases h))
    clear hb3 H0 H1 H2 H3 H4 HBX2 HB c0 c1 HX HCA
    generalize hp : p x.1.2 = tp at *
    have HP := Lib.hid hp
    clear hp
    cases tp with
    | false =>
      gi_wp2
      refine ⟨KK.out.from _, KP.out, ⟨K0.out, K1.out, K2.out, K3.out, K4.out, KR.out, fun y hy => ?_⟩, KB.out⟩
      rcases List.mem_append.1 hy with hy | hy
      · exact H5.out y hy
      · rw [List.mem_singleton.1 hy]; exact HP.out
    | true =>
      have c0 : W3.cell? ⟨B, 0, none⟩ = some (.slice q N cap) := K0.out.cell 0
      have hx1 := x.2
      have hw1 : IntKind.i64.wrap ((N : Int) - 1) = (N : Int) - 1 := by simp [IntKind.wrap, IntKind.bits, IntKind.signed]; omega
      have hw2 : IntKind.i64.wrap ((N : Int) - 1 - (x.1.1 : Int)) = ((N - 1 - x.1.1 : Nat) : Int) := by simp [IntKind.wrap, IntKind.bits, IntKind.signed]; omega
      gi_wp2
      · refine region_round (S := (fun w' => w'.rangeAt Bx 0 (encI x.1.2) ∧ w'.cell? ⟨B, 0, none⟩ = some (.slice q N cap))) (by kernel_rfl) (by kernel_rfl) (by rintro ⟨_, _, h⟩; exact h) ⟨encBlk KX.out.draw, K0.out.draw.cell 0⟩ (fun hHeld => ?_)
        have K0 := Lib.hid K0.out.draw; have K2 := Lib.hid K2.out.draw; have K3 := Lib.hid K3.out.draw; have K4 := Lib.hid K4.out.draw; have KX := Lib.hid KX.out.draw; have KB := Lib.hid KB.out.drew; have KK := Lib.hid (KK.out.trans (KeepsOthers.drew _))
        refine wpAnyH_take (i := 0) (v := .agg (encI x.1.2).toArray) rfl (by kernel_rfl) (by kernel_rfl) (by kernel_rfl) (fun _ _ _ h => h) (yieldsIf_load_mid (by rfl) _ _ rfl _ _ rfl (encI x.1.2) _ (fun _ h => h.1) hu rfl hix) (by assumption) ?_
        simp only [Act.put, List.getElem_toArray, List.getElem_cons_zero, List.setIfInBounds_toArray, List.set_cons_succ, List.set_cons_zero]
        refine wpAnyH_take (i := 1) (v := ?_) rfl (by kernel_rfl) (by kernel_rfl) (by kernel_rfl) (fun _ _ _ h => h) (Or.inl ⟨by rfl, ?_⟩) (by assumption) ?_
        rotate_left
        · (intro w9 h9; have h9c := h9.2; go_simp; try with_reducible rfl)
        simp only [Act.put, List.getElem_toArray, List.getElem_cons_succ, List.getElem_cons_zero, List.setIfInBounds_toArray, List.set_cons_succ, List.set_cons_zero]
        refine wpAnyH_take (i := 2) (v := ?_) rfl (by kernel_rfl) (by kernel_rfl) (by kernel_rfl) (fun _ _ _ h => h) (Or.inl ⟨by rfl, ?_⟩) (by assumption) ?_
        rotate_left
        · (intro w9 h9; go_simp; try with_reducible rfl)
        simp only [Act.put, List.getElem_toArray, List.getElem_cons_succ, List.getElem_cons_zero, List.setIfInBounds_toArray, List.set_cons_succ, List.set_cons_zero]
        refine wpAnyH_take (i := 3) (v := ?_) rfl (by kernel_rfl) (by kernel_rfl) (by kernel_rfl) (fun _ _ _ h => h) (Or.inl ⟨by rfl, ?_⟩) (by assumption) ?_
        rotate_left
        · (intro w9 h9; go_simp; try with_reducible rfl)
        simp only [Act.put, List.getElem_toArray, List.getElem_cons_succ, List.getElem_cons_zero, List.setIfInBounds_toArray, List.set_cons_succ, List.set_cons_zero]
        refine wpAnyH_take (i := 4) (v := ?_) rfl (by kernel_rfl) (by kernel_rfl) (by kernel_rfl) (fun _ _ _ h => h) (Or.inl ⟨by rfl, ?_⟩) (by assumption) ?_
        rotate_left
        · (intro w9 h9; go_simp; try with_reducible rfl)
        simp only [Act.put, List.getElem_toArray, List.getElem_cons_succ, List.getElem_cons_zero, List.setIfInBounds_toArray, List.set_cons_succ, List.set_cons_zero]
        refine wpAnyH_take (i := 5) (v := ?_) rfl (by kernel_rfl) (by kernel_rfl) (by kernel_rfl) (fun _ _ _ h => h) (Or.inl ⟨by rfl, ?_⟩) (by assumption) ?_
        rotate_left
        · (intro w9 h9; go_simp; try with_reducible rfl)
        simp only [Act.put, List.getElem_toArray, List.getElem_cons_succ, List.getElem_cons_zero, List.setIfInBounds_toArray, List.set_cons_succ, List.set_cons_zero]
        refine wpAnyH_ready (rs := [6]) (by kernel_rfl) (by simp) ?_
        refine AllReadyH.cons rfl (fun K hK => ?_) AllReadyH.nil
        refine step_sto_id infoId (B + 1 + 1) x.1.2 _ K2.out (by rfl) (by rfl) _ _ rfl (by rfl) (by rfl) ?_
        intro w6a hw6a
        have M0 := Lib.hid (show Blk w6a B 27 #[.slice q N cap] by rw [hw6a.out]; exact K0.out.far (by omega) _)
        have MX := Lib.hid (show Blk w6a Bx 46 (encI x.1.2).toArray by rw [hw6a.out]; exact KX.out.far (by omega) _)
        have M2 := Lib.hid (show Blk w6a (B + 1 + 1) 46 (encI x.1.2).toArray by rw [hw6a.out]; exact K2.out.row _)
        have M3 := Lib.hid (show Blk w6a (B + 1 + 1 + 1) 3 #[.int .i64 0] by rw [hw6a.out]; exact K3.out.far (by omega) _)
        have M4 := Lib.hid (show Blk w6a (B + 1 + 1 + 1 + 1) 4 #[.bool false] by rw [hw6a.out]; exact K4.out.far (by omega) _)
        have MB := Lib.hid (show Below w.heap.size w w6a by rw [hw6a.out]; exact below_row KB.out _ (by omega) _)
        have MK := Lib.hid (show KeepsOthers W w6a by rw [hw6a.out]; exact KK.out.trans (keepsOthers_row K2.out _))
        have c3 := M3.out.cell 0; have f3 := M3.out.free 0; have c4 := M4.out.cell 0; have f4 := M4.out.free 0
        simp at c3 c4
        clear hw6a
        refine hK.out _ _ ⟨encBlk MX.out, M0.out.cell 0⟩ (fun hHeld => ?_)
        clear hK K
        refine wpAnyH_ready (rs := [7]) (by kernel_rfl) (by simp) ?_
        refine AllReadyH.cons rfl (fun K hK => ?_) AllReadyH.nil
        go_simp
        refine hK.out _ _ ⟨encBlk (MX.out.away (by omega) _ _), (M0.out.away (by omega) _ _).cell 0⟩ (fun hHeld => ?_)
        clear hK K
        refine wpAnyH_ready (rs := [8]) (by kernel_rfl) (by simp) ?_
        refine AllReadyH.cons rfl (fun K hK => ?_) AllReadyH.nil
        go_simp
        refine hK.out _ _ ⟨encBlk ((MX.out.away (by omega) _ _).away (by omega) _ _), ((M0.out.away (by omega) _ _).away (by omega) _ _).cell 0⟩ (fun hHeld => ?_)
        clear hK K
        refine wpAnyH_done (by kernel_rfl) ?_ _
        gi_wp2
        refine ⟨(MK.out.trans ((KeepsOthers.setCell _ _ _).trans (KeepsOthers.setCell _ _ _))).from _, ⟨rfl, pre, x, rfl, H5.out, HP.out, ?_, ?_, ?_⟩, (MB.out.setCell (p := ⟨B + 1 + 1 + 1, 0, none⟩) (by simp; omega) _).setCell (p := ⟨B + 1 + 1 + 1 + 1, 0, none⟩) (by simp; omega) _⟩
        · exact (M2.out.away (by omega) _ _).away (by omega) _ _
        · exact (M3.out.put 0 _).away (by omega) _ _
        · exact (M4.out.away (by omega) _ _).put 0 _
  case done =>
    rintro D ys W hD rfl ⟨⟨h0, h1, h2, h3, h4, hR, h5⟩, hB⟩ hK
    have c0 : W.cell? ⟨B, 0, none⟩ = some (.slice q N cap) := h0.cell 0
    have H0 := Lib.hid h0; have H2 := Lib.hid h2; have H3 := Lib.hid h3; have H4 := Lib.hid h4; have H5 := Lib.hid h5; have HB := Lib.hid hB; have HD := Lib.hid hD; have HK := Lib.hid hK
    clear h0 h1 h2 h3 h4 h5 hB hD hK E0 E1 E2 E3 E4 HBX HB6
    gi_wp2
    refine wpIn_onlyN (wpIn_wide.2 (wp_region_held_drew (S := (fun w' => w'.cell? ⟨B, 0, none⟩ = some (.slice q N cap))) (by kernel_rfl) (H0.out.draw.cell 0) (fun hHeld => ?_)))
    have K0 := Lib.hid H0.out.draw; have K2 := Lib.hid H2.out.draw; have K3 := Lib.hid H3.out.draw; have K4 := Lib.hid H4.out.draw; have KB := Lib.hid HB.out.drew
    have HKD := Lib.hid (show W.drew.heap[D]? = some (.deferred (some [])) from HK.out)
    refine wpAnyH_take (i := 0) (v := .agg (encI default).toArray) rfl (by kernel_rfl) (by kernel_rfl) (by kernel_rfl) (fun _ _ _ h => h) (Or.inl ⟨by rfl, fun w9 _ => by kernel_rfl⟩) (by assumption) ?_
    simp only [Act.put, List.getElem_toArray, List.getElem_cons_zero, List.setIfInBounds_toArray, List.set_cons_succ, List.set_cons_zero]
    refine wpAnyH_take (i := 1) (v := ?_) rfl (by kernel_rfl) (by kernel_rfl) (by kernel_rfl) (fun _ _ _ h => h) (Or.inl ⟨by rfl, ?_⟩) (by assumption) ?_
    rotate_left
    · (intro w9 h9; have h9c := h9; go_simp; try with_reducible rfl)
    simp only [Act.put, List.getElem_toArray, List.getElem_cons_succ, List.getElem_cons_zero, List.setIfInBounds_toArray, List.set_cons_succ, List.set_cons_zero]
    refine wpAnyH_take (i := 2) (v := ?_) rfl (by kernel_rfl) (by kernel_rfl) (by kernel_rfl) (fun _ _ _ h => h) (Or.inl ⟨by rfl, ?_⟩) (by assumption) ?_
    rotate_left
    · (intro w9 h9; go_simp; try with_reducible rfl)
    simp only [Act.put, List.getElem_toArray, List.getElem_cons_succ, List.getElem_cons_zero, List.setIfInBounds_toArray, List.set_cons_succ, List.set_cons_zero]
    refine wpAnyH_ready (rs := [3]) (by kernel_rfl) (by simp) ?_
    refine AllReadyH.cons rfl (fun K hK => ?_) AllReadyH.nil
    refine step_sto_id infoId (B + 1 + 1) default _ K2.out (by rfl) (by rfl) _ _ rfl (by rfl) (by rfl) ?_
    intro w6a hw6a
    have M0 := Lib.hid (show Blk w6a B 27 #[.slice q N cap] by rw [hw6a.out]; exact K0.out.far (by omega) _)
    have M2 := Lib.hid (show Blk w6a (B + 1 + 1) 46 (encI default).toArray by rw [hw6a.out]; exact K2.out.row _)
    have M3 := Lib.hid (show Blk w6a (B + 1 + 1 + 1) 3 #[.int .i64 0] by rw [hw6a.out]; exact K3.out.far (by omega) _)
    have M4 := Lib.hid (show Blk w6a (B + 1 + 1 + 1 + 1) 4 #[.bool false] by rw [hw6a.out]; exact K4.out.far (by omega) _)
    have MB := Lib.hid (show Below w.heap.size w w6a by rw [hw6a.out]; exact below_row KB.out _ (by omega) _)
    have MD := Lib.hid (show w6a.heap[D]? = some (.deferred (some [])) by rw [hw6a.out]; exact (keepsOthers_row K2.out _).same D _ HKD.out rfl)
    have c3 := M3.out.cell 0; have f3 := M3.out.free 0; have c4 := M4.out.cell 0; have f4 := M4.out.free 0
    simp at c3 c4
    clear hw6a
    refine hK.out _ _ (M0.out.cell 0) (fun hHeld => ?_)
    clear hK K
    refine wpAnyH_ready (rs := [4]) (by kernel_rfl) (by simp) ?_
    refine AllReadyH.cons rfl (fun K hK => ?_) AllReadyH.nil
    go_simp
    refine hK.out _ _ ((M0.out.away (by omega) _ _).cell 0) (fun hHeld => ?_)
    clear hK K
    refine wpAnyH_ready (rs := [5]) (by kernel_rfl) (by simp) ?_
    refine AllReadyH.cons rfl (fun K hK => ?_) AllReadyH.nil
    go_simp
    refine hK.out _ _ (((M0.out.away (by omega) _ _).away (by omega) _ _).cell 0) (fun hHeld => ?_)
    clear hK K
    refine wpAnyH_done (by kernel_rfl) ?_ _
    dsimp only [OnlyN]
    gi_wp2
    have RD := Lib.hid (show ((w6a.setCell ⟨B + 1 + 1 + 1, 0, none⟩ (.int .i64 (N : Int))).setCell ⟨B + 1 + 1 + 1 + 1, 0, none⟩ (.bool false)).heap[D]? = some (.deferred (some [])) from ((KeepsOthers.setCell w6a ⟨B + 1 + 1 + 1, 0, none⟩ (.int .i64 (N : Int))).trans (KeepsOthers.setCell _ ⟨B + 1 + 1 + 1 + 1, 0, none⟩ (.bool false))).same D _ MD.out rfl)
    have S2 := Lib.hid (show Blk ((w6a.setCell ⟨B + 1 + 1 + 1, 0, none⟩ (.int .i64 (N : Int))).setCell ⟨B + 1 + 1 + 1 + 1, 0, none⟩ (.bool false)) (B + 1 + 1) 46 (encI default).toArray from (M2.out.away (by omega) _ _).away (by omega) _ _); have S3 := Lib.hid (show Blk ((w6a.setCell ⟨B + 1 + 1 + 1, 0, none⟩ (.int .i64 (N : Int))).setCell ⟨B + 1 + 1 + 1 + 1, 0, none⟩ (.bool false)) (B + 1 + 1 + 1) 3 #[.int .i64 (N : Int)] from (M3.out.put 0 _).away (by omega) _ _); have S4 := Lib.hid (show Blk ((w6a.setCell ⟨B + 1 + 1 + 1, 0, none⟩ (.int .i64 (N : Int))).setCell ⟨B + 1 + 1 + 1 + 1, 0, none⟩ (.bool false)) (B + 1 + 1 + 1 + 1) 4 #[.bool false] from (M4.out.away (by omega) _ _).put 0 _)
    have SB := Lib.hid (show Below w.heap.size w ((w6a.setCell ⟨B + 1 + 1 + 1, 0, none⟩ (.int .i64 (N : Int))).setCell ⟨B + 1 + 1 + 1 + 1, 0, none⟩ (.bool false)) from (MB.out.setCell (p := ⟨B + 1 + 1 + 1, 0, none⟩) (by simp; omega) _).setCell (p := ⟨B + 1 + 1 + 1 + 1, 0, none⟩) (by simp; omega) _)
    refine ⟨by simp, .inl ⟨_, _, rfl, run_takeDeferred RD.out, ?_⟩⟩
    have r2 := S2.out.own (grownBy_putObj' _ D (.deferred none)) (fun r e => by cases e; exact ⟨_, RD.out, rfl⟩)
    have r3 := S3.out.own (grownBy_putObj' _ D (.deferred none)) (fun r e => by cases e; exact ⟨_, RD.out, rfl⟩)
    have r4 := S4.out.own (grownBy_putObj' _ D (.deferred none)) (fun r e => by cases e; exact ⟨_, RD.out, rfl⟩)
    have hfin := SB.out.trans (belowK_b (w := w) (Nat.le_refl _) _ D _ (.deferred none) (by have := HD.out; omega) RD.out rfl rfl)
    refine ⟨.tuple #[.agg (encI default).toArray, .int .i64 (N : Int), .bool false], near_results _ _ (B + 1 + 1) (B + 1 + 1 + 1) (B + 1 + 1 + 1 + 1) _ _ _ rfl rfl rfl r2 r3 r4, ?_⟩
    exact ⟨default, N, false, rfl, hfin, Or.inr ⟨rfl, rfl, HN.out, fun y hy => by
      obtain ⟨k, hk, e⟩ := List.mem_iff_getElem.1 hy
      have h9 := backs_get ls N N (Nat.le_refl _) (N - 1 - k) (by have := HN.out; omega)
      rw [show N - 1 - (N - 1 - k) = k by have := HN.out; omega] at h9
      obtain ⟨z, hz, e2⟩ := Option.map_eq_some_iff.1 h9
      have h8 := H5.out z (List.mem_of_getElem? hz)
      rw [e2] at h8
      rw [← e, ← getE ls k hk]; exact h8⟩⟩
  case stop =>
    rintro D c pre W hD hpre ⟨⟨rfl, pre', x, hpx, hno, hyes, h2, h3, h4⟩, hB⟩ hK
    have H2 := Lib.hid h2; have H3 := Lib.hid h3; have H4 := Lib.hid h4; have HB := Lib.hid hB; have HD := Lib.hid hD; have HK := Lib.hid hK; have HPR := Lib.hid hpre; have HPX := Lib.hid hpx; have HNO := Lib.hid hno; have HYES := Lib.hid hyes
    clear h2 h3 h4 hB hD hK hpre hpx hno hyes E0 E1 E2 E3 E4 HBX HB6
    gi_wp2
    have RD := Lib.hid (show (W).heap[D]? = some (.deferred (some [])) from HK.out)
    have S2 := Lib.hid (show Blk (W) (B + 1 + 1) 46 (encI x.1.2).toArray from H2.out); have S3 := Lib.hid (show Blk (W) (B + 1 + 1 + 1) 3 #[.int .i64 ((N - 1 - x.1.1 : Nat) : Int)] from H3.out); have S4 := Lib.hid (show Blk (W) (B + 1 + 1 + 1 + 1) 4 #[.bool true] from H4.out)
    have SB := Lib.hid (show Below w.heap.size w (W) from HB.out)
    refine ⟨by simp, .inl ⟨_, _, rfl, run_takeDeferred RD.out, ?_⟩⟩
    have r2 := S2.out.own (grownBy_putObj' _ D (.deferred none)) (fun r e => by cases e; exact ⟨_, RD.out, rfl⟩)
    have r3 := S3.out.own (grownBy_putObj' _ D (.deferred none)) (fun r e => by cases e; exact ⟨_, RD.out, rfl⟩)
    have r4 := S4.out.own (grownBy_putObj' _ D (.deferred none)) (fun r e => by cases e; exact ⟨_, RD.out, rfl⟩)
    have hfin := SB.out.trans (belowK_b (w := w) (Nat.le_refl _) _ D _ (.deferred none) (by have := HD.out; omega) RD.out rfl rfl)
    refine ⟨.tuple #[.agg (encI x.1.2).toArray, .int .i64 ((N - 1 - x.1.1 : Nat) : Int), .bool true], near_results _ _ (B + 1 + 1) (B + 1 + 1 + 1) (B + 1 + 1 + 1 + 1) _ _ _ rfl rfl rfl r2 r3 r4, ?_⟩
    exact ⟨x.1.2, _, true, rfl, hfin, Or.inl ⟨rfl, near_stop p ls N HN.out pre pre' x HPR.out HPX.out HNO.out HYES.out⟩⟩

set_option maxRecDepth 100000 in
set_option maxHeartbeats 4000000 in
theorem near_all (p : Mid.Id → Bool) (q : Option Addr) (N cap : Nat) (ls : List Mid.Id) (w : World) (hv : Ids w (.slice q N cap) ls) (hN : N = ls.length)
    (HP : ∀ (x : Mid.Id) (W : World), Below w.heap.size w W → Calls Try.prog 47 #[.agg (encI x).toArray] W fun e W' => e = .returned (.bool (p x)) ∧ Below W.heap.size W W') :
    Calls Try.prog 25 #[.slice q N cap, .func (.func 47) #[] #[]] w (NearPost p ls w) := by
  obtain ⟨q', cap', hve, hcp, hcm, _, hcells⟩ := hv
  injection hve with e1 e2 e3
  subst e1 e3
  rw [← hN] at hcp
  have hcells' : ls = [] ∨ ∃ b off, q = some ⟨b, off, none⟩ ∧ IdsC w b off ls ∧ b < w.heap.size := hcells.elim .inl (fun ⟨b, off, h1, h2⟩ => by
    by_cases hne : ls = []
    · exact .inl hne
    · exact .inr ⟨b, off, h1, h2, h2.lt hne⟩)
  have HCL := Lib.hid hcells'; have HCP := Lib.hid hcp; have HCM := Lib.hid hcm; have HN := Lib.hid hN; have HPP := Lib.hid HP
  have hNI : (N : Int) ≤ 9223372036854775807 := by unfold maxLen at hcm; omega
  clear hcells hcells' hcp hcm hN HP e2
  obtain ⟨B, hB⟩ : ∃ B, B = w.heap.size := ⟨_, rfl⟩
  obtain ⟨b0, b1, b2, b3, b4, hB0, hsz⟩ := boxes5_ok w (.slice q N cap) (.func (.func 47) #[] #[]) B hB
  refine (callsIn_wide (n := 8)).1 ?_
  refine callsIn_of_wp_marks Try.func25 rfl trivial ?_ rfl
  simp only [Try.ntmps25, List.size_toArray, List.length_cons, List.length_nil, Nat.reduceAdd, Nat.reduceSub, Array.replicate_succ, Array.replicate_zero, List.push_toArray, List.append_toArray, List.nil_append, List.cons_append]
  have hB0' := hB0
  have c0 : (boxes5 w (.slice q N cap) (.func (.func 47) #[] #[])).cell? ⟨w.heap.size, 0, none⟩ = some (.slice q N cap) := by rw [← hB]; exact b0.cell 0
  have c1 : (boxes5 w (.slice q N cap) (.func (.func 47) #[] #[])).cell? ⟨w.heap.size + 1, 0, none⟩ = some (.func (.func 47) #[] #[]) := by rw [← hB]; exact b1.cell 0
  have hcall := callsIn_wide (n := 7).2 (back_any _ (boxes5 w (.slice q N cap) (.func (.func 47) #[] #[])) q N cap rfl)
  obtain ⟨W5, hW5⟩ : ∃ W5, W5 = boxes5 w (.slice q N cap) (.func (.func 47) #[] #[]) := ⟨_, rfl⟩
  have HW5 := Lib.hid hW5
  have D0 := Lib.hid b0; have D1 := Lib.hid b1; have D2 := Lib.hid b2; have D3 := Lib.hid b3; have D4 := Lib.hid b4; have HB0 := Lib.hid hB0; have HSZ := Lib.hid hsz; have HBE := Lib.hid hB
  have hsz' : (boxes5 w (.slice q N cap) (.func (.func 47) #[] #[])).heap.size = B + 5 := hsz
  clear b0 b1 b2 b3 b4 hB0 hB hB0' hW5 hsz
  rw [hsz'] at hcall
  clear hsz'
  have HCALL := Lib.hid hcall
  unfold boxes5 at c0 c1
  clear hcall
  gi_wp2
  rename_i K9 hK9
  refine hK9 _ _ ?_
  gi_wp2
  refine ⟨trivial, ?_⟩
  refine (show CallsIn _ _ _ _ _ _ _ from HCALL.out.mono ?_)
  rintro y w6 ⟨rfl, hw6⟩
  obtain ⟨R, hR⟩ : ∃ R, R = B + 5 := ⟨_, rfl⟩
  have e0 := D0.out.more (.cells #[.slice q N cap] 27); have e1 := D1.out.more (.cells #[.slice q N cap] 27); have e2 := D2.out.more (.cells #[.slice q N cap] 27); have e3 := D3.out.more (.cells #[.slice q N cap] 27); have e4 := D4.out.more (.cells #[.slice q N cap] 27)
  have hbx : Blk w6 R 27 #[.slice q N cap] := by rw [hw6, hR, ← HSZ.out]; exact Blk.fresh _ _ _
  have hB6 : Below w.heap.size w w6 := by rw [hw6]; exact HB0.out.alloc HB0.out.size _
  have hs6 : w6.heap.size = R + 1 := by rw [hw6, hR]; simp [HSZ.out]
  rw [← hw6] at e0 e1 e2 e3 e4
  rw [← hR, ← HBE.out]
  have E0 := Lib.hid e0; have E1 := Lib.hid e1; have E2 := Lib.hid e2; have E3 := Lib.hid e3; have E4 := Lib.hid e4; have HBX := Lib.hid hbx; have HB6 := Lib.hid hB6
  have hRB : R = B + 5 := hR
  clear hw6 hR e0 e1 e2 e3 e4 hbx hB6 D0 D1 D2 D3 D4 HB0 c0 c1 HSZ HW5
  have HRB := Lib.hid hRB
  clear hRB
  gi_wp2
  have hwB : w.heap.size ≤ B := by rw [HBE.out]; exact Nat.le_refl _
  have hRB2 : B + 5 = R := HRB.out.symm
  refine wpIn_rangeFunc_ownH rfl (by omega) (gf := 61) (lb := #[.pointer (some ⟨R, 0, none⟩)]) rfl trivial (enters_of Try.func61 (by kernel_rfl) rfl)
    (back_stops 7 (by omega) R w.heap.size q N cap HCP.out HCM.out ls HN.out w6 (HCL.out.imp id (fun ⟨b, off, h1, h2, h3⟩ => ⟨b, off, h1, h2.keep HB6.out h3, h3⟩)) (by omega) (by omega) (HBX.out.cell 0)) keepsB_t (keepsB_b (by omega) (by omega)) (Below.refl _ _) (fun _ => rfl)
    (fun pre W => (Blk W B 27 #[.slice q N cap] ∧ Blk W (B + 1) 57 #[.func (.func 47) #[] #[]] ∧ Blk W (B + 1 + 1) 46 #[.int .u8 0, .int .u8 0, .int .u8 0, .int .u8 0, .int .u8 0, .int .u8 0, .int .u8 0, .int .u8 0, .int .u8 0, .int .u8 0, .int .u8 0, .int .u8 0, .int .u8 0, .int .u8 0, .int .u8 0, .int .u8 0, .int .u8 0, .int .u8 0, .int .u8 0, .int .u8 0, .int .u8 0, .int .u8 0, .int .u8 0, .int .u8 0, .int .u8 0, .int .u8 0, .int .u8 0, .int .u8 0, .int .u8 0, .int .u8 0, .int .u8 0, .int .u8 0] ∧ Blk W (B + 1 + 1 + 1) 3 #[.int .i64 0] ∧ Blk W (B + 1 + 1 + 1 + 1) 4 #[.bool false] ∧ R < W.heap.size ∧ ∀ x ∈ pre, p x.1.2 = false) ∧ Below w.heap.size w W)
    (fun c pre W => (c = .ret ∧ ∃ pre' x, pre = pre' ++ [x] ∧ (∀ y ∈ pre', p y.1.2 = false) ∧ p x.1.2 = true ∧ Blk W (B + 1 + 1) 46 (encI x.1.2).toArray ∧ Blk W (B + 1 + 1 + 1) 3 #[.int .i64 ((N - 1 - x.1.1 : Nat) : Int)] ∧ Blk W (B + 1 + 1 + 1 + 1) 4 #[.bool true]) ∧ Below w.heap.size w W)
    (OwnFrom.and (Own.from (fun s A C row hs hg hr => ⟨hs.1.own hg hr, hs.2.1.own hg hr, hs.2.2.1.own hg hr, hs.2.2.2.1.own hg hr, hs.2.2.2.2.1.own hg hr, Nat.lt_of_lt_of_le hs.2.2.2.2.2.1 hg.size, hs.2.2.2.2.2.2⟩) _) (ownFrom_below (Nat.le_refl _) (by omega)))
    (fun c => OwnFrom.and (Own.from (fun s A C row hs hg hr => ⟨hs.1, by obtain ⟨pre', x, h1, h2, h3, h4, h5, h6⟩ := hs.2; exact ⟨pre', x, h1, h2, h3, h4.own hg hr, h5.own hg hr, h6.own hg hr⟩⟩) _) (ownFrom_below (Nat.le_refl _) (by omega)))
    ⟨⟨E0.out, E1.out, E2.out, E3.out, E4.out, by omega, fun x hx => by cases hx⟩, HB6.out⟩
    (fun x a' W => ∃ Bx, R < Bx ∧ Blk W Bx 46 (encI x.1.2).toArray ∧ a' = { tmps := #[.slice q N cap, .func (.func 47) #[] #[], .pointer (some ⟨B, 0, none⟩), .pointer (some ⟨B + 1, 0, none⟩), .pointer (some ⟨B + 1 + 1, 0, none⟩), .pointer (some ⟨B + 1 + 1 + 1, 0, none⟩), .pointer (some ⟨B + 1 + 1 + 1 + 1, 0, none⟩), .int .i64 (x.1.1 : Int), .pointer (some ⟨Bx, 0, none⟩), .func (.func 47) #[] #[], .bool false, undef, undef, undef, .slice q N cap, .func (.func 61) #[] #[.pointer (some ⟨R, 0, none⟩)], .int .i64 (x.1.1 : Int), .agg (encI x.1.2).toArray, undef, undef, undef, undef, undef, undef, undef, undef, undef, undef, undef, undef], defers := [] })
    (fun x a' _ X Y row hs hg hr => by obtain ⟨Bx, h1, h2, h3⟩ := hs; exact ⟨Bx, h1, h2.own hg (fun r e => (hr r e).2), h3⟩)
    ?assign ?body ?done ?stop
  case assign =>
    rintro l pre x W K ⟨⟨h0, h1, h2, h3, h4, hR, h5⟩, hB⟩ hK
    dsimp only [encs]
    have hsz := hB.size
    have B0 := Lib.hid (Blk.fresh W 46 #[.int .u8 0, .int .u8 0, .int .u8 0, .int .u8 0, .int .u8 0, .int .u8 0, .int .u8 0, .int .u8 0, .int .u8 0, .int .u8 0, .int .u8 0, .int .u8 0, .int .u8 0, .int .u8 0, .int .u8 0, .int .u8 0, .int .u8 0, .int .u8 0, .int .u8 0, .int .u8 0, .int .u8 0, .int .u8 0, .int .u8 0, .int .u8 0, .int .u8 0, .int .u8 0, .int .u8 0, .int .u8 0, .int .u8 0, .int .u8 0, .int .u8 0, .int .u8 0])
    clear E0 E1 E2 E3 E4 HBX HB6
    gi_wp2_with (refine stoIn_id infoId W.heap.size x.1.2 _ B0.out (by rfl) (by rfl) _ _ (by rfl) (by rfl) (by rfl) ?_; intro w2 hw2)
    have hKO : KeepsOthers W w2 := by rw [hw2.out]; exact (KeepsOthers.alloc _ _).trans (keepsOthers_row B0.out _)
    have hBW : Below W.heap.size W w2 := by rw [hw2.out]; exact below_row ((Below.refl _ W).alloc (Nat.le_refl _) _) _ (Nat.le_refl _) _
    refine hK _ _ (hKO.from _) (keepsB_below hBW (by omega) hR) ⟨⟨h0.keep hBW h0.lt, h1.keep hBW h1.lt, h2.keep hBW h2.lt, h3.keep hBW h3.lt, h4.keep hBW h4.lt, Nat.lt_of_lt_of_le hR hBW.size, h5⟩, hB.trans (hBW.mono (by omega))⟩ ⟨W.heap.size, hR, by rw [hw2.out]; exact B0.out.row _, rfl⟩
  case body =>
    rintro l pre x a' W hl ⟨r, hr⟩ ⟨⟨h0, h1, h2, h3, h4, hR, h5⟩, hB⟩ ⟨Bx, hBx, bX, rfl⟩ hlt
    have c0 : W.cell? ⟨B, 0, none⟩ = some (.slice q N cap) := h0.cell 0
    have c1 : W.cell? ⟨B + 1, 0, none⟩ = some (.func (.func 47) #[] #[]) := h1.cell 0
    have HX := Lib.hid (encBlk bX); have HBX2 := Lib.hid bX
    have hix := info_enc infoId x.1.2
    have hu : Try.prog.underlying 46 = some (.array 32 5) := Try.underlying46
    have H0 := Lib.hid h0; have H1 := Lib.hid h1; have H2 := Lib.hid h2; have H3 := Lib.hid h3; have H4 := Lib.hid h4; have H5 := Lib.hid h5; have HB := Lib.hid hB; have HL := Lib.hid hl; have HR := Lib.hid hr
    have HCA := Lib.hid (HPP.out x.1.2 W hB)
    clear h0 h1 h2 h3 h4 h5 hB hl hr bX E0 E1 E2 E3 E4 HBX HB6
    gi_wp2_with (refine wpListIn_load_mid rfl _ _ rfl Bx 0 (by rfl) (encI x.1.2) _ HX.out hu rfl hix ?_)
    refine ⟨trivial, ?_⟩
    refine (CallsIn.inRound l (callsIn_wide.2 HCA.out)).mono ?_
    rintro e W3 ⟨rfl, hb3⟩
    have K0 := Lib.hid (H0.out.keep hb3 H0.out.lt); have K1 := Lib.hid (H1.out.keep hb3 H1.out.lt); have K2 := Lib.hid (H2.out.keep hb3 H2.out.lt); have K3 := Lib.hid (H3.out.keep hb3 H3.out.lt); have K4 := Lib.hid (H4.out.keep hb3 H4.out.lt); have KX := Lib.hid (HBX2.out.keep hb3 HBX2.out.lt)
    have hszB := HB.out.size
    have KB := Lib.hid (HB.out.trans (hb3.mono hszB)); have KR := Lib.hid (Nat.lt_of_lt_of_le hR hb3.size)
    have KP := Lib.hid (keepsB_below hb3 hszB hR)
    have KK := Lib.hid (KeepsOthers.of_grownBy (bl_grownBy hb3 none) (fun j o h _ => by cases h))
    clear hb3 H0 H1 H2 H3 H4 HBX2 HB c0 c1 HX HCA
    generalize hp : p x.1.2 = tp at *
    have HP := Lib.hid hp
    clear hp
    cases tp with
    | false =>
      gi_wp2
      refine ⟨KK.out.from _, KP.out, ⟨K0.out, K1.out, K2.out, K3.out, K4.out, KR.out, fun y hy => ?_⟩, KB.out⟩
      rcases List.mem_append.1 hy with hy | hy
      · exact H5.out y hy
      · rw [List.mem_singleton.1 hy]; exact HP.out
    | true =>
      have c0 : W3.cell? ⟨B, 0, none⟩ = some (.slice q N cap) := K0.out.cell 0
      have hx1 := x.2
      have hw1 : IntKind.i64.wrap ((N : Int) - 1) = (N : Int) - 1 := by simp [IntKind.wrap, IntKind.bits, IntKind.signed]; omega
      have hw2 : IntKind.i64.wrap ((N : Int) - 1 - (x.1.1 : Int)) = ((N - 1 - x.1.1 : Nat) : Int) := by simp [IntKind.wrap, IntKind.bits, IntKind.signed]; omega
      gi_wp2
      · refine region_round (S := (fun w' => w'.rangeAt Bx 0 (encI x.1.2) ∧ w'.cell? ⟨B, 0, none⟩ = some (.slice q N cap))) (by kernel_rfl) (by kernel_rfl) (by rintro ⟨_, _, h⟩; exact h) ⟨encBlk KX.out.draw, K0.out.draw.cell 0⟩ (fun hHeld => ?_)
        have K0 := Lib.hid K0.out.draw; have K2 := Lib.hid K2.out.draw; have K3 := Lib.hid K3.out.draw; have K4 := Lib.hid K4.out.draw; have KX := Lib.hid KX.out.draw; have KB := Lib.hid KB.out.drew; have KK := Lib.hid (KK.out.trans (KeepsOthers.drew _))
        refine wpAnyH_take (i := 0) (v := .agg (encI x.1.2).toArray) rfl (by kernel_rfl) (by kernel_rfl) (by kernel_rfl) (fun _ _ _ h => h) (yieldsIf_load_mid (by rfl) _ _ rfl _ _ rfl (encI x.1.2) _ (fun _ h => h.1) hu rfl hix) (by assumption) ?_
        simp only [Act.put, List.getElem_toArray, List.getElem_cons_zero, List.setIfInBounds_toArray, List.set_cons_succ, List.set_cons_zero]
        refine wpAnyH_take (i := 1) (v := ?_) rfl (by kernel_rfl) (by kernel_rfl) (by kernel_rfl) (fun _ _ _ h => h) (Or.inl ⟨by rfl, ?_⟩) (by assumption) ?_
        rotate_left
        · (intro w9 h9; have h9c := h9.2; go_simp; try with_reducible rfl)
        simp only [Act.put, List.getElem_toArray, List.getElem_cons_succ, List.getElem_cons_zero, List.setIfInBounds_toArray, List.set_cons_succ, List.set_cons_zero]
        refine wpAnyH_take (i := 2) (v := ?_) rfl (by kernel_rfl) (by kernel_rfl) (by kernel_rfl) (fun _ _ _ h => h) (Or.inl ⟨by rfl, ?_⟩) (by assumption) ?_
        rotate_left
        · (intro w9 h9; go_simp; try with_reducible rfl)
        simp only [Act.put, List.getElem_toArray, List.getElem_cons_succ, List.getElem_cons_zero, List.setIfInBounds_toArray, List.set_cons_succ, List.set_cons_zero]
        refine wpAnyH_take (i := 3) (v := ?_) rfl (by kernel_rfl) (by kernel_rfl) (by kernel_rfl) (fun _ _ _ h => h) (Or.inl ⟨by rfl, ?_⟩) (by assumption) ?_
        rotate_left
        · (intro w9 h9; go_simp; try with_reducible rfl)
        simp only [Act.put, List.getElem_toArray, List.getElem_cons_succ, List.getElem_cons_zero, List.setIfInBounds_toArray, List.set_cons_succ, List.set_cons_zero]
        refine wpAnyH_take (i := 4) (v := ?_) rfl (by kernel_rfl) (by kernel_rfl) (by kernel_rfl) (fun _ _ _ h => h) (Or.inl ⟨by rfl, ?_⟩) (by assumption) ?_
        rotate_left
        · (intro w9 h9; go_simp; try with_reducible rfl)
        simp only [Act.put, List.getElem_toArray, List.getElem_cons_succ, List.getElem_cons_zero, List.setIfInBounds_toArray, List.set_cons_succ, List.set_cons_zero]
        refine wpAnyH_take (i := 5) (v := ?_) rfl (by kernel_rfl) (by kernel_rfl) (by kernel_rfl) (fun _ _ _ h => h) (Or.inl ⟨by rfl, ?_⟩) (by assumption) ?_
        rotate_left
        · (intro w9 h9; go_simp; try with_reducible rfl)
        simp only [Act.put, List.getElem_toArray, List.getElem_cons_succ, List.getElem_cons_zero, List.setIfInBounds_toArray, List.set_cons_succ, List.set_cons_zero]
        refine wpAnyH_ready (rs := [6]) (by kernel_rfl) (by simp) ?_
        refine AllReadyH.cons rfl (fun K hK => ?_) AllReadyH.nil
        refine step_sto_id infoId (B + 1 + 1) x.1.2 _ K2.out (by rfl) (by rfl) _ _ rfl (by rfl) (by rfl) ?_
        intro w6a hw6a
        have M0 := Lib.hid (show Blk w6a B 27 #[.slice q N cap] by rw [hw6a.out]; exact K0.out.far (by omega) _)
        have MX := Lib.hid (show Blk w6a Bx 46 (encI x.1.2).toArray by rw [hw6a.out]; exact KX.out.far (by omega) _)
        have M2 := Lib.hid (show Blk w6a (B + 1 + 1) 46 (encI x.1.2).toArray by rw [hw6a.out]; exact K2.out.row _)
        have M3 := Lib.hid (show Blk w6a (B + 1 + 1 + 1) 3 #[.int .i64 0] by rw [hw6a.out]; exact K3.out.far (by omega) _)
        have M4 := Lib.hid (show Blk w6a (B + 1 + 1 + 1 + 1) 4 #[.bool false] by rw [hw6a.out]; exact K4.out.far (by omega) _)
        have MB := Lib.hid (show Below w.heap.size w w6a by rw [hw6a.out]; exact below_row KB.out _ (by omega) _)
        have MK := Lib.hid (show KeepsOthers W w6a by rw [hw6a.out]; exact KK.out.trans (keepsOthers_row K2.out _))
        have c3 := M3.out.cell 0; have f3 := M3.out.free 0; have c4 := M4.out.cell 0; have f4 := M4.out.free 0
        simp at c3 c4
        clear hw6a
        refine hK.out _ _ ⟨encBlk MX.out, M0.out.cell 0⟩ (fun hHeld => ?_)
        clear hK K
        refine wpAnyH_ready (rs := [7]) (by kernel_rfl) (by simp) ?_
        refine AllReadyH.cons rfl (fun K hK => ?_) AllReadyH.nil
        go_simp
        refine hK.out _ _ ⟨encBlk (MX.out.away (by omega) _ _), (M0.out.away (by omega) _ _).cell 0⟩ (fun hHeld => ?_)
        clear hK K
        refine wpAnyH_ready (rs := [8]) (by kernel_rfl) (by simp) ?_
        refine AllReadyH.cons rfl (fun K hK => ?_) AllReadyH.nil
        go_simp
        refine hK.out _ _ ⟨encBlk ((MX.out.away (by omega) _ _).away (by omega) _ _), ((M0.out.away (by omega) _ _).away (by omega) _ _).cell 0⟩ (fun hHeld => ?_)
        clear hK K
        refine wpAnyH_done (by kernel_rfl) ?_ _
        gi_wp2
        refine ⟨(MK.out.trans ((KeepsOthers.setCell _ _ _).trans (KeepsOthers.setCell _ _ _))).from _, ⟨rfl, pre, x, rfl, H5.out, HP.out, ?_, ?_, ?_⟩, (MB.out.setCell (p := ⟨B + 1 + 1 + 1, 0, none⟩) (by simp; omega) _).setCell (p := ⟨B + 1 + 1 + 1 + 1, 0, none⟩) (by simp; omega) _⟩
        · exact (M2.out.away (by omega) _ _).away (by omega) _ _
        · exact (M3.out.put 0 _).away (by omega) _ _
        · exact (M4.out.away (by omega) _ _).put 0 _
  case done =>
    rintro D ys W hD rfl ⟨⟨h0, h1, h2, h3, h4, hR, h5⟩, hB⟩ hK
    have c0 : W.cell? ⟨B, 0, none⟩ = some (.slice q N cap) := h0.cell 0
    have H0 := Lib.hid h0; have H2 := Lib.hid h2; have H3 := Lib.hid h3; have H4 := Lib.hid h4; have H5 := Lib.hid h5; have HB := Lib.hid hB; have HD := Lib.hid hD; have HK := Lib.hid hK
    clear h0 h1 h2 h3 h4 h5 hB hD hK E0 E1 E2 E3 E4 HBX HB6
    gi_wp2
    refine wpIn_onlyN (wpIn_wide.2 (wp_region_held_drew (S := (fun w' => w'.cell? ⟨B, 0, none⟩ = some (.slice q N cap))) (by kernel_rfl) (H0.out.draw.cell 0) (fun hHeld => ?_)))
    have K0 := Lib.hid H0.out.draw; have K2 := Lib.hid H2.out.draw; have K3 := Lib.hid H3.out.draw; have K4 := Lib.hid H4.out.draw; have KB := Lib.hid HB.out.drew
    have HKD := Lib.hid (show W.drew.heap[D]? = some (.deferred (some [])) from HK.out)
    refine wpAnyH_take (i := 0) (v := .agg (encI default).toArray) rfl (by kernel_rfl) (by kernel_rfl) (by kernel_rfl) (fun _ _ _ h => h) (Or.inl ⟨by rfl, fun w9 _ => by kernel_rfl⟩) (by assumption) ?_
    simp only [Act.put, List.getElem_toArray, List.getElem_cons_zero, List.setIfInBounds_toArray, List.set_cons_succ, List.set_cons_zero]
    refine wpAnyH_take (i := 1) (v := ?_) rfl (by kernel_rfl) (by kernel_rfl) (by kernel_rfl) (fun _ _ _ h => h) (Or.inl ⟨by rfl, ?_⟩) (by assumption) ?_
    rotate_left
    · (intro w9 h9; have h9c := h9; go_simp; try with_reducible rfl)
    simp only [Act.put, List.getElem_toArray, List.getElem_cons_succ, List.getElem_cons_zero, List.setIfInBounds_toArray, List.set_cons_succ, List.set_cons_zero]
    refine wpAnyH_take (i := 2) (v := ?_) rfl (by kernel_rfl) (by kernel_rfl) (by kernel_rfl) (fun _ _ _ h => h) (Or.inl ⟨by rfl, ?_⟩) (by assumption) ?_
    rotate_left
    · (intro w9 h9; go_simp; try with_reducible rfl)
    simp only [Act.put, List.getElem_toArray, List.getElem_cons_succ, List.getElem_cons_zero, List.setIfInBounds_toArray, List.set_cons_succ, List.set_cons_zero]
    refine wpAnyH_ready (rs := [3]) (by kernel_rfl) (by simp) ?_
    refine AllReadyH.cons rfl (fun K hK => ?_) AllReadyH.nil
    refine step_sto_id infoId (B + 1 + 1) default _ K2.out (by rfl) (by rfl) _ _ rfl (by rfl) (by rfl) ?_
    intro w6a hw6a
    have M0 := Lib.hid (show Blk w6a B 27 #[.slice q N cap] by rw [hw6a.out]; exact K0.out.far (by omega) _)
    have M2 := Lib.hid (show Blk w6a (B + 1 + 1) 46 (encI default).toArray by rw [hw6a.out]; exact K2.out.row _)
    have M3 := Lib.hid (show Blk w6a (B + 1 + 1 + 1) 3 #[.int .i64 0] by rw [hw6a.out]; exact K3.out.far (by omega) _)
    have M4 := Lib.hid (show Blk w6a (B + 1 + 1 + 1 + 1) 4 #[.bool false] by rw [hw6a.out]; exact K4.out.far (by omega) _)
    have MB := Lib.hid (show Below w.heap.size w w6a by rw [hw6a.out]; exact below_row KB.out _ (by omega) _)
    have MD := Lib.hid (show w6a.heap[D]? = some (.deferred (some [])) by rw [hw6a.out]; exact (keepsOthers_row K2.out _).same D _ HKD.out rfl)
    have c3 := M3.out.cell 0; have f3 := M3.out.free 0; have c4 := M4.out.cell 0; have f4 := M4.out.free 0
    simp at c3 c4
    clear hw6a
    refine hK.out _ _ (M0.out.cell 0) (fun hHeld => ?_)
    clear hK K
    refine wpAnyH_ready (rs := [4]) (by kernel_rfl) (by simp) ?_
    refine AllReadyH.cons rfl (fun K hK => ?_) AllReadyH.nil
    go_simp
    refine hK.out _ _ ((M0.out.away (by omega) _ _).cell 0) (fun hHeld => ?_)
    clear hK K
    refine wpAnyH_ready (rs := [5]) (by kernel_rfl) (by simp) ?_
    refine AllReadyH.cons rfl (fun K hK => ?_) AllReadyH.nil
    go_simp
    refine hK.out _ _ (((M0.out.away (by omega) _ _).away (by omega) _ _).cell 0) (fun hHeld => ?_)
    clear hK K
    refine wpAnyH_done (by kernel_rfl) ?_ _
    dsimp only [OnlyN]
    gi_wp2
    have RD := Lib.hid (show ((w6a.setCell ⟨B + 1 + 1 + 1, 0, none⟩ (.int .i64 (N : Int))).setCell ⟨B + 1 + 1 + 1 + 1, 0, none⟩ (.bool false)).heap[D]? = some (.deferred (some [])) from ((KeepsOthers.setCell w6a ⟨B + 1 + 1 + 1, 0, none⟩ (.int .i64 (N : Int))).trans (KeepsOthers.setCell _ ⟨B + 1 + 1 + 1 + 1, 0, none⟩ (.bool false))).same D _ MD.out rfl)
    have S2 := Lib.hid (show Blk ((w6a.setCell ⟨B + 1 + 1 + 1, 0, none⟩ (.int .i64 (N : Int))).setCell ⟨B + 1 + 1 + 1 + 1, 0, none⟩ (.bool false)) (B + 1 + 1) 46 (encI default).toArray from (M2.out.away (by omega) _ _).away (by omega) _ _); have S3 := Lib.hid (show Blk ((w6a.setCell ⟨B + 1 + 1 + 1, 0, none⟩ (.int .i64 (N : Int))).setCell ⟨B + 1 + 1 + 1 + 1, 0, none⟩ (.bool false)) (B + 1 + 1 + 1) 3 #[.int .i64 (N : Int)] from (M3.out.put 0 _).away (by omega) _ _); have S4 := Lib.hid (show Blk ((w6a.setCell ⟨B + 1 + 1 + 1, 0, none⟩ (.int .i64 (N : Int))).setCell ⟨B + 1 + 1 + 1 + 1, 0, none⟩ (.bool false)) (B + 1 + 1 + 1 + 1) 4 #[.bool false] from (M4.out.away (by omega) _ _).put 0 _)
    have SB := Lib.hid (show Below w.heap.size w ((w6a.setCell ⟨B + 1 + 1 + 1, 0, none⟩ (.int .i64 (N : Int))).setCell ⟨B + 1 + 1 + 1 + 1, 0, none⟩ (.bool false)) from (MB.out.setCell (p := ⟨B + 1 + 1 + 1, 0, none⟩) (by simp; omega) _).setCell (p := ⟨B + 1 + 1 + 1 + 1, 0, none⟩) (by simp; omega) _)
    refine ⟨by simp, .inl ⟨_, _, rfl, run_takeDeferred RD.out, ?_⟩⟩
    have r2 := S2.out.own (grownBy_putObj' _ D (.deferred none)) (fun r e => by cases e; exact ⟨_, RD.out, rfl⟩)
    have r3 := S3.out.own (grownBy_putObj' _ D (.deferred none)) (fun r e => by cases e; exact ⟨_, RD.out, rfl⟩)
    have r4 := S4.out.own (grownBy_putObj' _ D (.deferred none)) (fun r e => by cases e; exact ⟨_, RD.out, rfl⟩)
    have hfin := SB.out.trans (belowK_b (w := w) (Nat.le_refl _) _ D _ (.deferred none) (by have := HD.out; omega) RD.out rfl rfl)
    refine ⟨.tuple #[.agg (encI default).toArray, .int .i64 (N : Int), .bool false], near_results _ _ (B + 1 + 1) (B + 1 + 1 + 1) (B + 1 + 1 + 1 + 1) _ _ _ rfl rfl rfl r2 r3 r4, ?_⟩
    exact ⟨default, N, false, rfl, hfin, Or.inr ⟨rfl, rfl, HN.out, fun y hy => by
      obtain ⟨k, hk, e⟩ := List.mem_iff_getElem.1 hy
      have h9 := backs_get ls N N (Nat.le_refl _) (N - 1 - k) (by have := HN.out; omega)
      rw [show N - 1 - (N - 1 - k) = k by have := HN.out; omega] at h9
      obtain ⟨z, hz, e2⟩ := Option.map_eq_some_iff.1 h9
      have h8 := H5.out z (List.mem_of_getElem? hz)
      rw [e2] at h8
      rw [← e, ← getE ls k hk]; exact h8⟩⟩
  case stop =>
    rintro D c pre W hD hpre ⟨⟨rfl, pre', x, hpx, hno, hyes, h2, h3, h4⟩, hB⟩ hK
    have H2 := Lib.hid h2; have H3 := Lib.hid h3; have H4 := Lib.hid h4; have HB := Lib.hid hB; have HD := Lib.hid hD; have HK := Lib.hid hK; have HPR := Lib.hid hpre; have HPX := Lib.hid hpx; have HNO := Lib.hid hno; have HYES := Lib.hid hyes
    clear h2 h3 h4 hB hD hK hpre hpx hno hyes E0 E1 E2 E3 E4 HBX HB6
    gi_wp2
    have RD := Lib.hid (show (W).heap[D]? = some (.deferred (some [])) from HK.out)
    have S2 := Lib.hid (show Blk (W) (B + 1 + 1) 46 (encI x.1.2).toArray from H2.out); have S3 := Lib.hid (show Blk (W) (B + 1 + 1 + 1) 3 #[.int .i64 ((N - 1 - x.1.1 : Nat) : Int)] from H3.out); have S4 := Lib.hid (show Blk (W) (B + 1 + 1 + 1 + 1) 4 #[.bool true] from H4.out)
    have SB := Lib.hid (show Below w.heap.size w (W) from HB.out)
    refine ⟨by simp, .inl ⟨_, _, rfl, run_takeDeferred RD.out, ?_⟩⟩
    have r2 := S2.out.own (grownBy_putObj' _ D (.deferred none)) (fun r e => by cases e; exact ⟨_, RD.out, rfl⟩)
    have r3 := S3.out.own (grownBy_putObj' _ D (.deferred none)) (fun r e => by cases e; exact ⟨_, RD.out, rfl⟩)
    have r4 := S4.out.own (grownBy_putObj' _ D (.deferred none)) (fun r e => by cases e; exact ⟨_, RD.out, rfl⟩)
    have hfin := SB.out.trans (belowK_b (w := w) (Nat.le_refl _) _ D _ (.deferred none) (by have := HD.out; omega) RD.out rfl rfl)
    refine ⟨.tuple #[.agg (encI x.1.2).toArray, .int .i64 ((N - 1 - x.1.1 : Nat) : Int), .bool true], near_results _ _ (B + 1 + 1) (B + 1 + 1 + 1) (B + 1 + 1 + 1 + 1) _ _ _ rfl rfl rfl r2 r3 r4, ?_⟩
    exact ⟨x.1.2, _, true, rfl, hfin, Or.inl ⟨rfl, near_stop p ls N HN.out pre pre' x HPR.out HPX.out HNO.out HYES.out⟩⟩

set_option maxRecDepth 100000 in
set_option maxHeartbeats 4000000 in
theorem near_eq (P0 : Nat) (p : Mid.Id → Bool) (q : Option Addr) (N cap : Nat) (ls : List Mid.Id) (w : World) (hv : Ids w (.slice q N cap) ls) (hN : N = ls.length)
    (HP : ∀ (x : Mid.Id) (W : World), Below w.heap.size w W → Calls Try.prog 45 #[.agg (encI x).toArray, .pointer (some ⟨P0, 0, none⟩)] W fun e W' => e = .returned (.bool (p x)) ∧ Below W.heap.size W W') :
    Calls Try.prog 25 #[.slice q N cap, .func (.func 45) #[] #[.pointer (some ⟨P0, 0, none⟩)]] w (NearPost p ls w) := by
  obtain ⟨q', cap', hve, hcp, hcm, _, hcells⟩ := hv
  injection hve with e1 e2 e3
  subst e1 e3
  rw [← hN] at hcp
  have hcells' : ls = [] ∨ ∃ b off, q = some ⟨b, off, none⟩ ∧ IdsC w b off ls ∧ b < w.heap.size := hcells.elim .inl (fun ⟨b, off, h1, h2⟩ => by
    by_cases hne : ls = []
    · exact .inl hne
    · exact .inr ⟨b, off, h1, h2, h2.lt hne⟩)
  have HCL := Lib.hid hcells'; have HCP := Lib.hid hcp; have HCM := Lib.hid hcm; have HN := Lib.hid hN; have HPP := Lib.hid HP
  have hNI : (N : Int) ≤ 9223372036854775807 := by unfold maxLen at hcm; omega
  clear hcells hcells' hcp hcm hN HP e2
  obtain ⟨B, hB⟩ : ∃ B, B = w.heap.size := ⟨_, rfl⟩
  obtain ⟨b0, b1, b2, b3, b4, hB0, hsz⟩ := boxes5_ok w (.slice q N cap) (.func (.func 45) #[] #[.pointer (some ⟨P0, 0, none⟩)]) B hB
  refine (callsIn_wide (n := 8)).1 ?_
  refine callsIn_of_wp_marks Try.func25 rfl trivial ?_ rfl
  simp only [Try.ntmps25, List.size_toArray, List.length_cons, List.length_nil, Nat.reduceAdd, Nat.reduceSub, Array.replicate_succ, Array.replicate_zero, List.push_toArray, List.append_toArray, List.nil_append, List.cons_append]
  have hB0' := hB0
  have c0 : (boxes5 w (.slice q N cap) (.func (.func 45) #[] #[.pointer (some ⟨P0, 0, none⟩)])).cell? ⟨w.heap.size, 0, none⟩ = some (.slice q N cap) := by rw [← hB]; exact b0.cell 0
  have c1 : (boxes5 w (.slice q N cap) (.func (.func 45) #[] #[.pointer (some ⟨P0, 0, none⟩)])).cell? ⟨w.heap.size + 1, 0, none⟩ = some (.func (.func 45) #[] #[.pointer (some ⟨P0, 0, none⟩)]) := by rw [← hB]; exact b1.cell 0
  have hcall := callsIn_wide (n := 7).2 (back_any _ (boxes5 w (.slice q N cap) (.func (.func 45) #[] #[.pointer (some ⟨P0, 0, none⟩)])) q N cap rfl)
  obtain ⟨W5, hW5⟩ : ∃ W5, W5 = boxes5 w (.slice q N cap) (.func (.func 45) #[] #[.pointer (some ⟨P0, 0, none⟩)]) := ⟨_, rfl⟩
  have HW5 := Lib.hid hW5
  have D0 := Lib.hid b0; have D1 := Lib.hid b1; have D2 := Lib.hid b2; have D3 := Lib.hid b3; have D4 := Lib.hid b4; have HB0 := Lib.hid hB0; have HSZ := Lib.hid hsz; have HBE := Lib.hid hB
  have hsz' : (boxes5 w (.slice q N cap) (.func (.func 45) #[] #[.pointer (some ⟨P0, 0, none⟩)])).heap.size = B + 5 := hsz
  clear b0 b1 b2 b3 b4 hB0 hB hB0' hW5 hsz
  rw [hsz'] at hcall
  clear hsz'
  have HCALL := Lib.hid hcall
  unfold boxes5 at c0 c1
  clear hcall
  gi_wp2
  rename_i K9 hK9
  refine hK9 _ _ ?_
  gi_wp2
  refine ⟨trivial, ?_⟩
  refine (show CallsIn _ _ _ _ _ _ _ from HCALL.out.mono ?_)
  rintro y w6 ⟨rfl, hw6⟩
  obtain ⟨R, hR⟩ : ∃ R, R = B + 5 := ⟨_, rfl⟩
  have e0 := D0.out.more (.cells #[.slice q N cap] 27); have e1 := D1.out.more (.cells #[.slice q N cap] 27); have e2 := D2.out.more (.cells #[.slice q N cap] 27); have e3 := D3.out.more (.cells #[.slice q N cap] 27); have e4 := D4.out.more (.cells #[.slice q N cap] 27)
  have hbx : Blk w6 R 27 #[.slice q N cap] := by rw [hw6, hR, ← HSZ.out]; exact Blk.fresh _ _ _
  have hB6 : Below w.heap.size w w6 := by rw [hw6]; exact HB0.out.alloc HB0.out.size _
  have hs6 : w6.heap.size = R + 1 := by rw [hw6, hR]; simp [HSZ.out]
  rw [← hw6] at e0 e1 e2 e3 e4
  rw [← hR, ← HBE.out]
  have E0 := Lib.hid e0; have E1 := Lib.hid e1; have E2 := Lib.hid e2; have E3 := Lib.hid e3; have E4 := Lib.hid e4; have HBX := Lib.hid hbx; have HB6 := Lib.hid hB6
  have hRB : R = B + 5 := hR
  clear hw6 hR e0 e1 e2 e3 e4 hbx hB6 D0 D1 D2 D3 D4 HB0 c0 c1 HSZ HW5
  have HRB := Lib.hid hRB
  clear hRB
  gi_wp2
  have hwB : w.heap.size ≤ B := by rw [HBE.out]; exact Nat.le_refl _
  have hRB2 : B + 5 = R := HRB.out.symm
  refine wpIn_rangeFunc_ownH rfl (by omega) (gf := 61) (lb := #[.pointer (some ⟨R, 0, none⟩)]) rfl trivial (enters_of Try.func61 (by kernel_rfl) rfl)
    (back_stops 7 (by omega) R w.heap.size q N cap HCP.out HCM.out ls HN.out w6 (HCL.out.imp id (fun ⟨b, off, h1, h2, h3⟩ => ⟨b, off, h1, h2.keep HB6.out h3, h3⟩)) (by omega) (by omega) (HBX.out.cell 0)) keepsB_t (keepsB_b (by omega) (by omega)) (Below.refl _ _) (fun _ => rfl)
    (fun pre W => (Blk W B 27 #[.slice q N cap] ∧ Blk W (B + 1) 57 #[.func (.func 45) #[] #[.pointer (some ⟨P0, 0, none⟩)]] ∧ Blk W (B + 1 + 1) 46 #[.int .u8 0, .int .u8 0, .int .u8 0, .int .u8 0, .int .u8 0, .int .u8 0, .int .u8 0, .int .u8 0, .int .u8 0, .int .u8 0, .int .u8 0, .int .u8 0, .int .u8 0, .int .u8 0, .int .u8 0, .int .u8 0, .int .u8 0, .int .u8 0, .int .u8 0, .int .u8 0, .int .u8 0, .int .u8 0, .int .u8 0, .int .u8 0, .int .u8 0, .int .u8 0, .int .u8 0, .int .u8 0, .int .u8 0, .int .u8 0, .int .u8 0, .int .u8 0] ∧ Blk W (B + 1 + 1 + 1) 3 #[.int .i64 0] ∧ Blk W (B + 1 + 1 + 1 + 1) 4 #[.bool false] ∧ R < W.heap.size ∧ ∀ x ∈ pre, p x.1.2 = false) ∧ Below w.heap.size w W)
    (fun c pre W => (c = .ret ∧ ∃ pre' x, pre = pre' ++ [x] ∧ (∀ y ∈ pre', p y.1.2 = false) ∧ p x.1.2 = true ∧ Blk W (B + 1 + 1) 46 (encI x.1.2).toArray ∧ Blk W (B + 1 + 1 + 1) 3 #[.int .i64 ((N - 1 - x.1.1 : Nat) : Int)] ∧ Blk W (B + 1 + 1 + 1 + 1) 4 #[.bool true]) ∧ Below w.heap.size w W)
    (OwnFrom.and (Own.from (fun s A C row hs hg hr => ⟨hs.1.own hg hr, hs.2.1.own hg hr, hs.2.2.1.own hg hr, hs.2.2.2.1.own hg hr, hs.2.2.2.2.1.own hg hr, Nat.lt_of_lt_of_le hs.2.2.2.2.2.1 hg.size, hs.2.2.2.2.2.2⟩) _) (ownFrom_below (Nat.le_refl _) (by omega)))
    (fun c => OwnFrom.and (Own.from (fun s A C row hs hg hr => ⟨hs.1, by obtain ⟨pre', x, h1, h2, h3, h4, h5, h6⟩ := hs.2; exact ⟨pre', x, h1, h2, h3, h4.own hg hr, h5.own hg hr, h6.own hg hr⟩⟩) _) (ownFrom_below (Nat.le_refl _) (by omega)))
    ⟨⟨E0.out, E1.out, E2.out, E3.out, E4.out, by omega, fun x hx => by cases hx⟩, HB6.out⟩
    (fun x a' W => ∃ Bx, R < Bx ∧ Blk W Bx 46 (encI x.1.2).toArray ∧ a' = { tmps := #[.slice q N cap, .func (.func 45) #[] #[.pointer (some ⟨P0, 0, none⟩)], .pointer (some ⟨B, 0, none⟩), .pointer (some ⟨B + 1, 0, none⟩), .pointer (some ⟨B + 1 + 1, 0, none⟩), .pointer (some ⟨B + 1 + 1 + 1, 0, none⟩), .pointer (some ⟨B + 1 + 1 + 1 + 1, 0, none⟩), .int .i64 (x.1.1 : Int), .pointer (some ⟨Bx, 0, none⟩), .func (.func 45) #[] #[.pointer (some ⟨P0, 0, none⟩)], .bool false, undef, undef, undef, .slice q N cap, .func (.func 61) #[] #[.pointer (some ⟨R, 0, none⟩)], .int .i64 (x.1.1 : Int), .agg (encI x.1.2).toArray, undef, undef, undef, undef, undef, undef, undef, undef, undef, undef, undef, undef], defers := [] })
    (fun x a' _ X Y row hs hg hr => by obtain ⟨Bx, h1, h2, h3⟩ := hs; exact ⟨Bx, h1, h2.own hg (fun r e => (hr r e).2), h3⟩)
    ?assign ?body ?done ?stop
  case assign =>
    rintro l pre x W K ⟨⟨h0, h1, h2, h3, h4, hR, h5⟩, hB⟩ hK
    dsimp only [encs]
    have hsz := hB.size
    have B0 := Lib.hid (Blk.fresh W 46 #[.int .u8 0, .int .u8 0, .int .u8 0, .int .u8 0, .int .u8 0, .int .u8 0, .int .u8 0, .int .u8 0, .int .u8 0, .int .u8 0, .int .u8 0, .int .u8 0, .int .u8 0, .int .u8 0, .int .u8 0, .int .u8 0, .int .u8 0, .int .u8 0, .int .u8 0, .int .u8 0, .int .u8 0, .int .u8 0, .int .u8 0, .int .u8 0, .int .u8 0, .int .u8 0, .int .u8 0, .int .u8 0, .int .u8 0, .int .u8 0, .int .u8 0, .int .u8 0])
    clear E0 E1 E2 E3 E4 HBX HB6
    gi_wp2_with (refine stoIn_id infoId W.heap.size x.1.2 _ B0.out (by rfl) (by rfl) _ _ (by rfl) (by rfl) (by rfl) ?_; intro w2 hw2)
    have hKO : KeepsOthers W w2 := by rw [hw2.out]; exact (KeepsOthers.alloc _ _).trans (keepsOthers_row B0.out _)
    have hBW : Below W.heap.size W w2 := by rw [hw2.out]; exact below_row ((Below.refl _ W).alloc (Nat.le_refl _) _) _ (Nat.le_refl _) _
    refine hK _ _ (hKO.from _) (keepsB_below hBW (by omega) hR) ⟨⟨h0.keep hBW h0.lt, h1.keep hBW h1.lt, h2.keep hBW h2.lt, h3.keep hBW h3.lt, h4.keep hBW h4.lt, Nat.lt_of_lt_of_le hR hBW.size, h5⟩, hB.trans (hBW.mono (by omega))⟩ ⟨W.heap.size, hR, by rw [hw2.out]; exact B0.out.row _, rfl⟩
  case body =>
    rintro l pre x a' W hl ⟨r, hr⟩ ⟨⟨h0, h1, h2, h3, h4, hR, h5⟩, hB⟩ ⟨Bx, hBx, bX, rfl⟩ hlt
    have c0 : W.cell? ⟨B, 0, none⟩ = some (.slice q N cap) := h0.cell 0
    have c1 : W.cell? ⟨B + 1, 0, none⟩ = some (.func (.func 45) #[] #[.pointer (some ⟨P0, 0, none⟩)]) := h1.cell 0
    have HX := Lib.hid (encBlk bX); have HBX2 := Lib.hid bX
    have hix := info_enc infoId x.1.2
    have hu : Try.prog.underlying 46 = some (.array 32 5) := Try.underlying46
    have H0 := Lib.hid h0; have H1 := Lib.hid h1; have H2 := Lib.hid h2; have H3 := Lib.hid h3; have H4 := Lib.hid h4; have H5 := Lib.hid h5; have HB := Lib.hid hB; have HL := Lib.hid hl; have HR := Lib.hid hr
    have HCA := Lib.hid (HPP.out x.1.2 W hB)
    clear h0 h1 h2 h3 h4 h5 hB hl hr bX E0 E1 E2 E3 E4 HBX HB6
    gi_wp2_with (refine wpListIn_load_mid rfl _ _ rfl Bx 0 (by rfl) (encI x.1.2) _ HX.out hu rfl hix ?_)
    refine ⟨trivial, ?_⟩
    refine (CallsIn.inRound l (callsIn_wide.2 HCA.out)).mono ?_
    rintro e W3 ⟨rfl, hb3⟩
    have K0 := Lib.hid (H0.out.keep hb3 H0.out.lt); have K1 := Lib.hid (H1.out.keep hb3 H1.out.lt); have K2 := Lib.hid (H2.out.keep hb3 H2.out.lt); have K3 := Lib.hid (H3.out.keep hb3 H3.out.lt); have K4 := Lib.hid (H4.out.keep hb3 H4.out.lt); have KX := Lib.hid (HBX2.out.keep hb3 HBX2.out.lt)
    have hszB := HB.out.size
    have KB := Lib.hid (HB.out.trans (hb3.mono hszB)); have KR := Lib.hid (Nat.lt_of_lt_of_le hR hb3.size)
    have KP := Lib.hid (keepsB_below hb3 hszB hR)
    have KK := Lib.hid (KeepsOthers.of_grownBy (bl_grownBy hb3 none) (fun j o h _ => by cases h))
    clear hb3 H0 H1 H2 H3 H4 HBX2 HB c0 c1 HX HCA
    generalize hp : p x.1.2 = tp at *
    have HP := Lib.hid hp
    clear hp
    cases tp with
    | false =>
      gi_wp2
      refine ⟨KK.out.from _, KP.out, ⟨K0.out, K1.out, K2.out, K3.out, K4.out, KR.out, fun y hy => ?_⟩, KB.out⟩
      rcases List.mem_append.1 hy with hy | hy
      · exact H5.out y hy
      · rw [List.mem_singleton.1 hy]; exact HP.out
    | true =>
      have c0 : W3.cell? ⟨B, 0, none⟩ = some (.slice q N cap) := K0.out.cell 0
      have hx1 := x.2
      have hw1 : IntKind.i64.wrap ((N : Int) - 1) = (N : Int) - 1 := by simp [IntKind.wrap, IntKind.bits, IntKind.signed]; omega
      have hw2 : IntKind.i64.wrap ((N : Int) - 1 - (x.1.1 : Int)) = ((N - 1 - x.1.1 : Nat) : Int) := by simp [IntKind.wrap, IntKind.bits, IntKind.signed]; omega
      gi_wp2
      · refine region_round (S := (fun w' => w'.rangeAt Bx 0 (encI x.1.2) ∧ w'.cell? ⟨B, 0, none⟩ = some (.slice q N cap))) (by kernel_rfl) (by kernel_rfl) (by rintro ⟨_, _, h⟩; exact h) ⟨encBlk KX.out.draw, K0.out.draw.cell 0⟩ (fun hHeld => ?_)
        have K0 := Lib.hid K0.out.draw; have K2 := Lib.hid K2.out.draw; have K3 := Lib.hid K3.out.draw; have K4 := Lib.hid K4.out.draw; have KX := Lib.hid KX.out.draw; have KB := Lib.hid KB.out.drew; have KK := Lib.hid (KK.out.trans (KeepsOthers.drew _))
        refine wpAnyH_take (i := 0) (v := .agg (encI x.1.2).toArray) rfl (by kernel_rfl) (by kernel_rfl) (by kernel_rfl) (fun _ _ _ h => h) (yieldsIf_load_mid (by rfl) _ _ rfl _ _ rfl (encI x.1.2) _ (fun _ h => h.1) hu rfl hix) (by assumption) ?_
        simp only [Act.put, List.getElem_toArray, List.getElem_cons_zero, List.setIfInBounds_toArray, List.set_cons_succ, List.set_cons_zero]
        refine wpAnyH_take (i := 1) (v := ?_) rfl (by kernel_rfl) (by kernel_rfl) (by kernel_rfl) (fun _ _ _ h => h) (Or.inl ⟨by rfl, ?_⟩) (by assumption) ?_
        rotate_left
        · (intro w9 h9; have h9c := h9.2; go_simp; try with_reducible rfl)
        simp only [Act.put, List.getElem_toArray, List.getElem_cons_succ, List.getElem_cons_zero, List.setIfInBounds_toArray, List.set_cons_succ, List.set_cons_zero]
        refine wpAnyH_take (i := 2) (v := ?_) rfl (by kernel_rfl) (by kernel_rfl) (by kernel_rfl) (fun _ _ _ h => h) (Or.inl ⟨by rfl, ?_⟩) (by assumption) ?_
        rotate_left
        · (intro w9 h9; go_simp; try with_reducible rfl)
        simp only [Act.put, List.getElem_toArray, List.getElem_cons_succ, List.getElem_cons_zero, List.setIfInBounds_toArray, List.set_cons_succ, List.set_cons_zero]
        refine wpAnyH_take (i := 3) (v := ?_) rfl (by kernel_rfl) (by kernel_rfl) (by kernel_rfl) (fun _ _ _ h => h) (Or.inl ⟨by rfl, ?_⟩) (by assumption) ?_
        rotate_left
        · (intro w9 h9; go_simp; try with_reducible rfl)
        simp only [Act.put, List.getElem_toArray, List.getElem_cons_succ, List.getElem_cons_zero, List.setIfInBounds_toArray, List.set_cons_succ, List.set_cons_zero]
        refine wpAnyH_take (i := 4) (v := ?_) rfl (by kernel_rfl) (by kernel_rfl) (by kernel_rfl) (fun _ _ _ h => h) (Or.inl ⟨by rfl, ?_⟩) (by assumption) ?_
        rotate_left
        · (intro w9 h9; go_simp; try with_reducible rfl)
        simp only [Act.put, List.getElem_toArray, List.getElem_cons_succ, List.getElem_cons_zero, List.setIfInBounds_toArray, List.set_cons_succ, List.set_cons_zero]
        refine wpAnyH_take (i := 5) (v := ?_) rfl (by kernel_rfl) (by kernel_rfl) (by kernel_rfl) (fun _ _ _ h => h) (Or.inl ⟨by rfl, ?_⟩) (by assumption) ?_
        rotate_left
        · (intro w9 h9; go_simp; try with_reducible rfl)
        simp only [Act.put, List.getElem_toArray, List.getElem_cons_succ, List.getElem_cons_zero, List.setIfInBounds_toArray, List.set_cons_succ, List.set_cons_zero]
        refine wpAnyH_ready (rs := [6]) (by kernel_rfl) (by simp) ?_
        refine AllReadyH.cons rfl (fun K hK => ?_) AllReadyH.nil
        refine step_sto_id infoId (B + 1 + 1) x.1.2 _ K2.out (by rfl) (by rfl) _ _ rfl (by rfl) (by rfl) ?_
        intro w6a hw6a
        have M0 := Lib.hid (show Blk w6a B 27 #[.slice q N cap] by rw [hw6a.out]; exact K0.out.far (by omega) _)
        have MX := Lib.hid (show Blk w6a Bx 46 (encI x.1.2).toArray by rw [hw6a.out]; exact KX.out.far (by omega) _)
        have M2 := Lib.hid (show Blk w6a (B + 1 + 1) 46 (encI x.1.2).toArray by rw [hw6a.out]; exact K2.out.row _)
        have M3 := Lib.hid (show Blk w6a (B + 1 + 1 + 1) 3 #[.int .i64 0] by rw [hw6a.out]; exact K3.out.far (by omega) _)
        have M4 := Lib.hid (show Blk w6a (B + 1 + 1 + 1 + 1) 4 #[.bool false] by rw [hw6a.out]; exact K4.out.far (by omega) _)
        have MB := Lib.hid (show Below w.heap.size w w6a by rw [hw6a.out]; exact below_row KB.out _ (by omega) _)
        have MK := Lib.hid (show KeepsOthers W w6a by rw [hw6a.out]; exact KK.out.trans (keepsOthers_row K2.out _))
        have c3 := M3.out.cell 0; have f3 := M3.out.free 0; have c4 := M4.out.cell 0; have f4 := M4.out.free 0
        simp at c3 c4
        clear hw6a
        refine hK.out _ _ ⟨encBlk MX.out, M0.out.cell 0⟩ (fun hHeld => ?_)
        clear hK K
        refine wpAnyH_ready (rs := [7]) (by kernel_rfl) (by simp) ?_
        refine AllReadyH.cons rfl (fun K hK => ?_) AllReadyH.nil
        go_simp
        refine hK.out _ _ ⟨encBlk (MX.out.away (by omega) _ _), (M0.out.away (by omega) _ _).cell 0⟩ (fun hHeld => ?_)
        clear hK K
        refine wpAnyH_ready (rs := [8]) (by kernel_rfl) (by simp) ?_
        refine AllReadyH.cons rfl (fun K hK => ?_) AllReadyH.nil
        go_simp
        refine hK.out _ _ ⟨encBlk ((MX.out.away (by omega) _ _).away (by omega) _ _), ((M0.out.away (by omega) _ _).away (by omega) _ _).cell 0⟩ (fun hHeld => ?_)
        clear hK K
        refine wpAnyH_done (by kernel_rfl) ?_ _
        gi_wp2
        refine ⟨(MK.out.trans ((KeepsOthers.setCell _ _ _).trans (KeepsOthers.setCell _ _ _))).from _, ⟨rfl, pre, x, rfl, H5.out, HP.out, ?_, ?_, ?_⟩, (MB.out.setCell (p := ⟨B + 1 + 1 + 1, 0, none⟩) (by simp; omega) _).setCell (p := ⟨B + 1 + 1 + 1 + 1, 0, none⟩) (by simp; omega) _⟩
        · exact (M2.out.away (by omega) _ _).away (by omega) _ _
        · exact (M3.out.put 0 _).away (by omega) _ _
        · exact (M4.out.away (by omega) _ _).put 0 _
  case done =>
    rintro D ys W hD rfl ⟨⟨h0, h1, h2, h3, h4, hR, h5⟩, hB⟩ hK
    have c0 : W.cell? ⟨B, 0, none⟩ = some (.slice q N cap) := h0.cell 0
    have H0 := Lib.hid h0; have H2 := Lib.hid h2; have H3 := Lib.hid h3; have H4 := Lib.hid h4; have H5 := Lib.hid h5; have HB := Lib.hid hB; have HD := Lib.hid hD; have HK := Lib.hid hK
    clear h0 h1 h2 h3 h4 h5 hB hD hK E0 E1 E2 E3 E4 HBX HB6
    gi_wp2
    refine wpIn_onlyN (wpIn_wide.2 (wp_region_held_drew (S := (fun w' => w'.cell? ⟨B, 0, none⟩ = some (.slice q N cap))) (by kernel_rfl) (H0.out.draw.cell 0) (fun hHeld => ?_)))
    have K0 := Lib.hid H0.out.draw; have K2 := Lib.hid H2.out.draw; have K3 := Lib.hid H3.out.draw; have K4 := Lib.hid H4.out.draw; have KB := Lib.hid HB.out.drew
    have HKD := Lib.hid (show W.drew.heap[D]? = some (.deferred (some [])) from HK.out)
    refine wpAnyH_take (i := 0) (v := .agg (encI default).toArray) rfl (by kernel_rfl) (by kernel_rfl) (by kernel_rfl) (fun _ _ _ h => h) (Or.inl ⟨by rfl, fun w9 _ => by kernel_rfl⟩) (by assumption) ?_
    simp only [Act.put, List.getElem_toArray, List.getElem_cons_zero, List.setIfInBounds_toArray, List.set_cons_succ, List.set_cons_zero]
    refine wpAnyH_take (i := 1) (v := ?_) rfl (by kernel_rfl) (by kernel_rfl) (by kernel_rfl) (fun _ _ _ h => h) (Or.inl ⟨by rfl, ?_⟩) (by assumption) ?_
    rotate_left
    · (intro w9 h9; have h9c := h9; go_simp; try with_reducible rfl)
    simp only [Act.put, List.getElem_toArray, List.getElem_cons_succ, List.getElem_cons_zero, List.setIfInBounds_toArray, List.set_cons_succ, List.set_cons_zero]
    refine wpAnyH_take (i := 2) (v := ?_) rfl (by kernel_rfl) (by kernel_rfl) (by kernel_rfl) (fun _ _ _ h => h) (Or.inl ⟨by rfl, ?_⟩) (by assumption) ?_
    rotate_left
    · (intro w9 h9; go_simp; try with_reducible rfl)
    simp only [Act.put, List.getElem_toArray, List.getElem_cons_succ, List.getElem_cons_zero, List.setIfInBounds_toArray, List.set_cons_succ, List.set_cons_zero]
    refine wpAnyH_ready (rs := [3]) (by kernel_rfl) (by simp) ?_
    refine AllReadyH.cons rfl (fun K hK => ?_) AllReadyH.nil
    refine step_sto_id infoId (B + 1 + 1) default _ K2.out (by rfl) (by rfl) _ _ rfl (by rfl) (by rfl) ?_
    intro w6a hw6a
    have M0 := Lib.hid (show Blk w6a B 27 #[.slice q N cap] by rw [hw6a.out]; exact K0.out.far (by omega) _)
    have M2 := Lib.hid (show Blk w6a (B + 1 + 1) 46 (encI default).toArray by rw [hw6a.out]; exact K2.out.row _)
    have M3 := Lib.hid (show Blk w6a (B + 1 + 1 + 1) 3 #[.int .i64 0] by rw [hw6a.out]; exact K3.out.far (by omega) _)
    have M4 := Lib.hid (show Blk w6a (B + 1 + 1 + 1 + 1) 4 #[.bool false] by rw [hw6a.out]; exact K4.out.far (by omega) _)
    have MB := Lib.hid (show Below w.heap.size w w6a by rw [hw6a.out]; exact below_row KB.out _ (by omega) _)
    have MD := Lib.hid (show w6a.heap[D]? = some (.deferred (some [])) by rw [hw6a.out]; exact (keepsOthers_row K2.out _).same D _ HKD.out rfl)
    have c3 := M3.out.cell 0; have f3 := M3.out.free 0; have c4 := M4.out.cell 0; have f4 := M4.out.free 0
    simp at c3 c4
    clear hw6a
    refine hK.out _ _ (M0.out.cell 0) (fun hHeld => ?_)
    clear hK K
    refine wpAnyH_ready (rs := [4]) (by kernel_rfl) (by simp) ?_
    refine AllReadyH.cons rfl (fun K hK => ?_) AllReadyH.nil
    go_simp
    refine hK.out _ _ ((M0.out.away (by omega) _ _).cell 0) (fun hHeld => ?_)
    clear hK K
    refine wpAnyH_ready (rs := [5]) (by kernel_rfl) (by simp) ?_
    refine AllReadyH.cons rfl (fun K hK => ?_) AllReadyH.nil
    go_simp
    refine hK.out _ _ (((M0.out.away (by omega) _ _).away (by omega) _ _).cell 0) (fun hHeld => ?_)
    clear hK K
    refine wpAnyH_done (by kernel_rfl) ?_ _
    dsimp only [OnlyN]
    gi_wp2
    have RD := Lib.hid (show ((w6a.setCell ⟨B + 1 + 1 + 1, 0, none⟩ (.int .i64 (N : Int))).setCell ⟨B + 1 + 1 + 1 + 1, 0, none⟩ (.bool false)).heap[D]? = some (.deferred (some [])) from ((KeepsOthers.setCell w6a ⟨B + 1 + 1 + 1, 0, none⟩ (.int .i64 (N : Int))).trans (KeepsOthers.setCell _ ⟨B + 1 + 1 + 1 + 1, 0, none⟩ (.bool false))).same D _ MD.out rfl)
    have S2 := Lib.hid (show Blk ((w6a.setCell ⟨B + 1 + 1 + 1, 0, none⟩ (.int .i64 (N : Int))).setCell ⟨B + 1 + 1 + 1 + 1, 0, none⟩ (.bool false)) (B + 1 + 1) 46 (encI default).toArray from (M2.out.away (by omega) _ _).away (by omega) _ _); have S3 := Lib.hid (show Blk ((w6a.setCell ⟨B + 1 + 1 + 1, 0, none⟩ (.int .i64 (N : Int))).setCell ⟨B + 1 + 1 + 1 + 1, 0, none⟩ (.bool false)) (B + 1 + 1 + 1) 3 #[.int .i64 (N : Int)] from (M3.out.put 0 _).away (by omega) _ _); have S4 := Lib.hid (show Blk ((w6a.setCell ⟨B + 1 + 1 + 1, 0, none⟩ (.int .i64 (N : Int))).setCell ⟨B + 1 + 1 + 1 + 1, 0, none⟩ (.bool false)) (B + 1 + 1 + 1 + 1) 4 #[.bool false] from (M4.out.away (by omega) _ _).put 0 _)
    have SB := Lib.hid (show Below w.heap.size w ((w6a.setCell ⟨B + 1 + 1 + 1, 0, none⟩ (.int .i64 (N : Int))).setCell ⟨B + 1 + 1 + 1 + 1, 0, none⟩ (.bool false)) from (MB.out.setCell (p := ⟨B + 1 + 1 + 1, 0, none⟩) (by simp; omega) _).setCell (p := ⟨B + 1 + 1 + 1 + 1, 0, none⟩) (by simp; omega) _)
    refine ⟨by simp, .inl ⟨_, _, rfl, run_takeDeferred RD.out, ?_⟩⟩
    have r2 := S2.out.own (grownBy_putObj' _ D (.deferred none)) (fun r e => by cases e; exact ⟨_, RD.out, rfl⟩)
    have r3 := S3.out.own (grownBy_putObj' _ D (.deferred none)) (fun r e => by cases e; exact ⟨_, RD.out, rfl⟩)
    have r4 := S4.out.own (grownBy_putObj' _ D (.deferred none)) (fun r e => by cases e; exact ⟨_, RD.out, rfl⟩)
    have hfin := SB.out.trans (belowK_b (w := w) (Nat.le_refl _) _ D _ (.deferred none) (by have := HD.out; omega) RD.out rfl rfl)
    refine ⟨.tuple #[.agg (encI default).toArray, .int .i64 (N : Int), .bool false], near_results _ _ (B + 1 + 1) (B + 1 + 1 + 1) (B + 1 + 1 + 1 + 1) _ _ _ rfl rfl rfl r2 r3 r4, ?_⟩
    exact ⟨default, N, false, rfl, hfin, Or.inr ⟨rfl, rfl, HN.out, fun y hy => by
      obtain ⟨k, hk, e⟩ := List.mem_iff_getElem.1 hy
      have h9 := backs_get ls N N (Nat.le_refl _) (N - 1 - k) (by have := HN.out; omega)
      rw [show N - 1 - (N - 1 - k) = k by have := HN.out; omega] at h9
      obtain ⟨z, hz, e2⟩ := Option.map_eq_some_iff.1 h9
      have h8 := H5.out z (List.mem_of_getElem? hz)
      rw [e2] at h8
      rw [← e, ← getE ls k hk]; exact h8⟩⟩
  case stop =>
    rintro D c pre W hD hpre ⟨⟨rfl, pre', x, hpx, hno, hyes, h2, h3, h4⟩, hB⟩ hK
    have H2 := Lib.hid h2; have H3 := Lib.hid h3; have H4 := Lib.hid h4; have HB := Lib.hid hB; have HD := Lib.hid hD; have HK := Lib.hid hK; have HPR := Lib.hid hpre; have HPX := Lib.hid hpx; have HNO := Lib.hid hno; have HYES := Lib.hid hyes
    clear h2 h3 h4 hB hD hK hpre hpx hno hyes E0 E1 E2 E3 E4 HBX HB6
    gi_wp2
    have RD := Lib.hid (show (W).heap[D]? = some (.deferred (some [])) from HK.out)
    have S2 := Lib.hid (show Blk (W) (B + 1 + 1) 46 (encI x.1.2).toArray from H2.out); have S3 := Lib.hid (show Blk (W) (B + 1 + 1 + 1) 3 #[.int .i64 ((N - 1 - x.1.1 : Nat) : Int)] from H3.out); have S4 := Lib.hid (show Blk (W) (B + 1 + 1 + 1 + 1) 4 #[.bool true] from H4.out)
    have SB := Lib.hid (show Below w.heap.size w (W) from HB.out)
    refine ⟨by simp, .inl ⟨_, _, rfl, run_takeDeferred RD.out, ?_⟩⟩
    have r2 := S2.out.own (grownBy_putObj' _ D (.deferred none)) (fun r e => by cases e; exact ⟨_, RD.out, rfl⟩)
    have r3 := S3.out.own (grownBy_putObj' _ D (.deferred none)) (fun r e => by cases e; exact ⟨_, RD.out, rfl⟩)
    have r4 := S4.out.own (grownBy_putObj' _ D (.deferred none)) (fun r e => by cases e; exact ⟨_, RD.out, rfl⟩)
    have hfin := SB.out.trans (belowK_b (w := w) (Nat.le_refl _) _ D _ (.deferred none) (by have := HD.out; omega) RD.out rfl rfl)
    refine ⟨.tuple #[.agg (encI x.1.2).toArray, .int .i64 ((N - 1 - x.1.1 : Nat) : Int), .bool true], near_results _ _ (B + 1 + 1) (B + 1 + 1 + 1) (B + 1 + 1 + 1 + 1) _ _ _ rfl rfl rfl r2 r3 r4, ?_⟩
    exact ⟨x.1.2, _, true, rfl, hfin, Or.inl ⟨rfl, near_stop p ls N HN.out pre pre' x HPR.out HPX.out HNO.out HYES.out⟩⟩

end Go.Proofs.Ytcofplbdapjdjaa
