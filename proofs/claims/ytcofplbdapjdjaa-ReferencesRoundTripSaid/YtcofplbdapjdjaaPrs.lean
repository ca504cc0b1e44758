/- The program's Parse. -/
import Derived.Test.YtcofplbdapjdjaaTokIt
import Derived.Test.YtcofplbdapjdjaaNear
import Derived.Test.YtcofplbdapjdjaaTrim
import Derived.Test.YtcofplbdapjdjaaChk
namespace Go.Proofs.Ytcofplbdapjdjaa
open Go.RowKit Go.Shelf

attribute [local go_sem] Oper.semAt_some

theorem tokens_any (s : ByteArray) (w : World) : Calls Try.prog 37 #[.string s] w fun e w' => e = .returned (.func (.func 56) #[] #[.pointer (some ⟨w.heap.size, 0, none⟩)]) ∧ w' = w.alloc (.cells #[.string s] 9) := by
  go_enter Try.func37, Try.ntmps37
  go_wp2_with fail
  go_ret
  exact ⟨rfl, rfl⟩
theorem tokens_stops (n : Nat) (hn : 3 ≤ n) (Bn n₀ : Nat) (s : ByteArray) (hs : s.size ≤ 100000) (R0 : List (Nat × List UInt8)) (hR0 : Mid.Toks s.data.toList 0 R0) (w : World)
    (hBn : Bn < w.heap.size) (hnW : n₀ ≤ w.heap.size) (hc : w.cell? ⟨Bn, 0, none⟩ = some (.string s)) :
    SeqStopsK Fence.wide n Try.prog 56 #[.pointer (some ⟨Bn, 0, none⟩)] encTk (KeepsB n₀ Bn) (fun ys => ys = toV R0) (fun pre => pre <+: toV R0) s.size w := fun l J Jx W hW hJ _ hY h0 =>
  tokens1_in n hn l Bn n₀ s hs R0 hR0 J Jx W hJ hY (Nat.lt_of_lt_of_le hBn hW.size) (Nat.le_trans hnW hW.size) ((hW.cell (p := ⟨Bn, 0, none⟩) hBn).trans hc) h0

theorem wpListIn_appI {F : Fence} {nF : Nat} {ops : Array Oper} {rest : List Oper} {o : Oper} {a : Act} {w : World} {Q : Exit → Act → World → Prop} (hgd : o.guard = none) (s x : Operand)
    (ho : o.op = .call { callee := .builtin .append, args := #[s, x], argTypes := #[27, 27] }) (base : Nat) (v : Value) (ls : List Mid.Id) (hs : a.eval s = v) (hown : OwnI 46 base w v ls)
    (u : Value) (ms : List Mid.Id) (hx : a.eval x = u) (hu : Ids w u ms) (hn : (ls.length + ms.length) * 32 ≤ 140737488355328) (hbase : base ≤ w.heap.size)
    (h : ∀ v' w', Hid (OwnI 46 base w' v' (ls ++ ms)) → Hid (w.grownBy w' v.ownBlock) → wpListIn F nF Try.prog ops Q rest (a.put o.dst v') w') : wpListIn F nF Try.prog ops Q (o :: rest) a w := by
  obtain ⟨v', w', hr, h1, h2⟩ := run_appI w o.type base v ls hown u ms hu hn hbase
  refine wpListIn_plain hgd fun K' hK' => ?_
  unfold Oper.wpIn
  refine ⟨by simp [Oper.about, ho, resolve, Target.leads, Sem.run_pure], ?_⟩
  rw [Oper.semAt_plain F _ _ (by rw [ho]; intro c hc'; cases hc')]
  unfold execOp
  simp only [ho, resolve, invoke, builtin, Sem.run_bind, Sem.run_pure, Result.andThen_ok, List.map_toArray, List.map_cons, List.map_nil, hs, hx, hr]
  exact hK' _ _ (h v' w' (Lib.hid h1) (Lib.hid h2))

def pbox (w : World) : World := ((((w.alloc (.cells #[.slice none 0 0] 27)).alloc (.cells #[.int .i64 0] 3)).alloc (.cells #[.int .i64 0] 24)).alloc (.map #[] 0)).alloc (.cells #[.map (some (w.heap.size + 1 + 1 + 1))] 71)
/-- what the loop of Parse keeps -/
def PInv (B : Nat) (w : World) (L : List Mid.Id) (vl : Value) (W : World) : Prop :=
  Blk W B 27 #[vl] ∧ Blk W (B + 1) 3 #[.int .i64 0] ∧ Blk W (B + 1 + 1) 24 #[.int .i64 0] ∧ Blk W (B + 1 + 1 + 1 + 1) 71 #[.map (some (B + 1 + 1 + 1))] ∧
  OwnI 46 (B + 6) W vl L ∧ Occ W (B + 1 + 1 + 1) L.length L ∧ B + 5 < W.heap.size ∧ Below B w W
theorem PInv.below {B : Nat} {w W W' : World} {L : List Mid.Id} {vl : Value} (h : PInv B w L vl W) (hb : Below W.heap.size W W') : PInv B w L vl W' := by
  obtain ⟨h1, h2, h3, h4, h5, h6, h7, h8⟩ := h
  exact ⟨h1.keep hb h1.lt, h2.keep hb h2.lt, h3.keep hb h3.lt, h4.keep hb h4.lt, row_keep h5 hb, h6.below hb, Nat.lt_of_lt_of_le h7 hb.size, h8.trans (hb.mono (by omega))⟩
theorem PInv.own {B : Nat} {w W W' : World} {L : List Mid.Id} {vl : Value} {row : Option Nat} (h : PInv B w L vl W) (hg : W.grownBy W' row) (hr : ∀ r, row = some r → B + 6 ≤ r ∧ ∃ o : Obj, W.heap[r]? = some o ∧ o.isCells = false) : PInv B w L vl W' := by
  obtain ⟨h1, h2, h3, h4, h5, h6, h7, h8⟩ := h
  have hr2 := fun r e => (hr r e).2
  refine ⟨h1.own hg hr2, h2.own hg hr2, h3.own hg hr2, h4.own hg hr2, h5.kept hg ?_, h6.kept hg ?_, Nat.lt_of_lt_of_le h7 hg.size, h8.grown hg (by omega) (fun k e => by have := (hr k e).1; omega)⟩
  · cases hv : vl.ownBlock with
    | none => exact .inl rfl
    | some g =>
      refine .inr ?_
      intro e
      obtain ⟨_, o, ho, hc⟩ := hr g e.symm
      rcases h5.2 with ⟨rfl, _⟩ | ⟨g', cap, cur, rfl, _, hh, _⟩
      · cases hv
      · cases hv
        rw [hh] at ho; cases ho; cases hc
  · intro e
    have := (hr _ e.symm).1
    omega
theorem pbox_ok (w : World) (s : ByteArray) : PInv w.heap.size w [] (.slice none 0 0) ((pbox w).alloc (.cells #[.string s] 9)) ∧ (pbox w).heap.size = w.heap.size + 5 ∧ Blk ((pbox w).alloc (.cells #[.string s] 9)) (w.heap.size + 5) 9 #[.string s] := by
  obtain ⟨B, hB⟩ : ∃ B, B = w.heap.size := ⟨_, rfl⟩
  have n1 : ∀ (W : World) (b : Nat) (t : TypeId) (cs : Array Value), b = W.heap.size → Blk (W.alloc (.cells cs t)) b t cs := fun W b t cs h => by subst h; exact Blk.fresh W t cs
  have hz : (pbox w).heap.size = B + 5 := by unfold pbox; simp [hB]
  have hocc : Occ (((w.alloc (.cells #[.slice none 0 0] 27)).alloc (.cells #[.int .i64 0] 3)).alloc (.cells #[.int .i64 0] 24) |>.alloc (.map #[] 0)) (B + 1 + 1 + 1) 0 [] := by
    have := Occ.made (((w.alloc (.cells #[.slice none 0 0] 27)).alloc (.cells #[.int .i64 0] 3)).alloc (.cells #[.int .i64 0] 24))
    have e : (((w.alloc (.cells #[.slice none 0 0] 27)).alloc (.cells #[.int .i64 0] 3)).alloc (.cells #[.int .i64 0] 24)).heap.size = B + 1 + 1 + 1 := by simp [hB]
    rwa [e] at this
  rw [← hB]
  refine ⟨⟨?_, ?_, ?_, ?_, World.ownsRow_nil _ _ _ _, ?_, ?_, ?_⟩, hz, n1 _ _ _ _ (by rw [hz])⟩
  · exact (((((n1 _ _ _ _ hB).more _).more _).more _).more _).more _
  · exact ((((n1 _ _ _ _ (by simp [hB])).more _).more _).more _).more _
  · exact (((n1 _ _ _ _ (by simp [hB])).more _).more _).more _
  · rw [hB]; exact (n1 _ _ _ _ (by simp)).more _
  · have hb : Below B (pbox w) (pbox w) := Below.refl _ _
    exact (hocc.below ((Below.refl _ _).alloc (Nat.le_refl _) (.cells #[.map (some (w.heap.size + 1 + 1 + 1))] 71))).below ((Below.refl _ _).alloc (Nat.le_refl _) _)
  · simp [hz]
  · unfold pbox
    exact ((((((Below.refl B w).alloc (by omega) _).alloc (by simp; omega) _).alloc (by simp; omega) _).alloc (by simp; omega) _).alloc (by simp; omega) _).alloc (by simp; omega) _

/-- what a token does to the answer -/
theorem prs_tok (pre : List Tk) (x : Tk) (L : List Mid.Id) (h : ∀ rest, Mid.prs (pre.map fromV ++ rest) [] = Mid.prs rest L) (rest) :
    Mid.prs ((pre ++ [x]).map fromV ++ rest) [] = if L.length = 20 then ([], x.1.1, 9) else if Mid.okT x.1.2.data.toList = false then ([], x.1.1, 3) else if Mid.idT x.1.2.data.toList = default then ([], x.1.1, 1) else if Mid.idT x.1.2.data.toList ∈ L then ([], x.1.1, 7) else Mid.prs rest (L ++ [Mid.idT x.1.2.data.toList]) := by
  rw [List.map_append, List.append_assoc, h]
  rfl
theorem PInv.cells {B : Nat} {w W : World} {L : List Mid.Id} {vl : Value} (h : PInv B w L vl W) : W.cell? ⟨B, 0, none⟩ = some vl ∧ W.cell? ⟨B + 1, 0, none⟩ = some (.int .i64 0) ∧ W.cell? ⟨B + 1 + 1, 0, none⟩ = some (.int .i64 0) ∧ W.cell? ⟨B + 1 + 1 + 1 + 1, 0, none⟩ = some (.map (some (B + 1 + 1 + 1))) ∧
    W.frozen? ⟨B, 0, none⟩ = false ∧ W.frozen? ⟨B + 1, 0, none⟩ = false ∧ W.frozen? ⟨B + 1 + 1, 0, none⟩ = false :=
  ⟨h.1.cell 0, h.2.1.cell 0, h.2.2.1.cell 0, h.2.2.2.1.cell 0, h.1.free 0, h.2.1.free 0, h.2.2.1.free 0⟩
/-- an error's three stores -/
def PStop (B : Nat) (w : World) (at' q : Nat) (W : World) : Prop := Blk W B 27 #[.slice none 0 0] ∧ Blk W (B + 1) 3 #[.int .i64 (at' : Int)] ∧ Blk W (B + 1 + 1) 24 #[.int .i64 (q : Int)] ∧ Below B w W
theorem stop3 {B : Nat} {w X : World} {vl : Value} (h1 : Blk X B 27 #[vl]) (h2 : Blk X (B + 1) 3 #[.int .i64 0]) (h3 : Blk X (B + 1 + 1) 24 #[.int .i64 0]) (h8 : Below B w X) (at' q : Nat) :
    PStop B w at' q (((X.setCell ⟨B, 0, none⟩ (.slice none 0 0)).setCell ⟨B + 1, 0, none⟩ (.int .i64 at')).setCell ⟨B + 1 + 1, 0, none⟩ (.int .i64 q)) ∧ KeepsOthers X (((X.setCell ⟨B, 0, none⟩ (.slice none 0 0)).setCell ⟨B + 1, 0, none⟩ (.int .i64 at')).setCell ⟨B + 1 + 1, 0, none⟩ (.int .i64 q)) := by
  refine ⟨⟨((h1.put 0 _).away (by omega) _ _).away (by omega) _ _, ((h2.away (by omega) _ _).put 0 _).away (by omega) _ _, ((h3.away (by omega) _ _).away (by omega) _ _).put 0 _, ?_⟩, ?_⟩
  · exact ((h8.setCell (p := ⟨B, 0, none⟩) (Nat.le_refl _) _).setCell (p := ⟨B + 1, 0, none⟩) (by simp) _).setCell (p := ⟨B + 1 + 1, 0, none⟩) (by simp; omega) _
  · exact (KeepsOthers.setCell _ _ _).trans ((KeepsOthers.setCell _ _ _).trans (KeepsOthers.setCell _ _ _))
theorem PInv.stop {B : Nat} {w X : World} {L : List Mid.Id} {vl : Value} (h : PInv B w L vl X) (at' q : Nat) :
    PStop B w at' q (((X.setCell ⟨B, 0, none⟩ (.slice none 0 0)).setCell ⟨B + 1, 0, none⟩ (.int .i64 at')).setCell ⟨B + 1 + 1, 0, none⟩ (.int .i64 q)) ∧ KeepsOthers X (((X.setCell ⟨B, 0, none⟩ (.slice none 0 0)).setCell ⟨B + 1, 0, none⟩ (.int .i64 at')).setCell ⟨B + 1 + 1, 0, none⟩ (.int .i64 q)) :=
  stop3 h.1 h.2.1 h.2.2.1 h.2.2.2.2.2.2.2 at' q
theorem Blk.over {W W' : World} {g m : Nat} {t : TypeId} {cs : Array Value} (h : Blk W g t cs) (hg : W.grownBy W' (some m)) (hne : g ≠ m) : Blk W' g t cs := (hg.block g h.lt (fun e => hne (Option.some.inj e))).trans h
theorem Blk.overr {W W' : World} {g b : Nat} {t : TypeId} {cs : Array Value} {row : Option Nat} (h : Blk W g t cs) (hg : W.grownBy W' row) (hr : ∀ r, row = some r → b ≤ r) (hlt : g < b) : Blk W' g t cs := (hg.block g h.lt (fun e => by have := hr g e.symm; omega)).trans h
theorem OwnI.row_cells {T : TypeId} {b : Nat} {W : World} {v : Value} {ls : List Mid.Id} (h : OwnI T b W v ls) : ∀ (j : Nat) (o : Obj), v.ownBlock = some j → W.heap[j]? = some o → o.isCells = true := by
  intro j o hj ho
  rcases h.2 with ⟨rfl, _⟩ | ⟨g', cap, cur, rfl, _, hh, _⟩
  · cases hj
  · cases hj; rw [hh] at ho; cases ho; rfl
theorem own_ne {T : TypeId} {b m : Nat} {W : World} {v : Value} {ls : List Mid.Id} (h : OwnI T b W v ls) (hm : m < b) : v.ownBlock = none ∨ v.ownBlock ≠ some m := by
  cases hv : v.ownBlock with
  | none => exact .inl rfl
  | some g => exact .inr (fun e => by have h1 := (h.lt g hv).1; have h2 : g = m := Option.some.inj e; omega)

theorem p_results (tmps : Array Value) (w : World) (a b c : Nat) (u1 u2 u3 : Value) (h2 : tmps.getD 2 undef = .pointer (some ⟨a, 0, none⟩)) (h3 : tmps.getD 3 undef = .pointer (some ⟨b, 0, none⟩)) (h4 : tmps.getD 4 undef = .pointer (some ⟨c, 0, none⟩))
    (ra : Blk w a 27 #[u1]) (rb : Blk w b 3 #[u2]) (rc : Blk w c 24 #[u3]) : (results Try.f17 tmps).run Try.prog w = .ok (.tuple #[u1, u2, u3]) w := by
  have h2' : tmps[2]?.getD undef = .pointer (some ⟨a, 0, none⟩) := by simpa using h2
  have h3' : tmps[3]?.getD undef = .pointer (some ⟨b, 0, none⟩) := by simpa using h3
  have h4' : tmps[4]?.getD undef = .pointer (some ⟨c, 0, none⟩) := by simpa using h4
  have ca : w.cell? ⟨a, 0, none⟩ = some u1 := ra.cell 0
  have cb : w.cell? ⟨b, 0, none⟩ = some u2 := rb.cell 0
  have cc : w.cell? ⟨c, 0, none⟩ = some u3 := rc.cell 0
  have ha : (loadVar 27 ⟨a, 0, none⟩).run Try.prog w = .ok u1 w := by simp [go_sem, ca]
  have hb : (loadVar 3 ⟨b, 0, none⟩).run Try.prog w = .ok u2 w := by simp [go_sem, cb]
  have hc : (loadVar 24 ⟨c, 0, none⟩).run Try.prog w = .ok u3 w := by simp [go_sem, cc]
  simp [results, Try.f17, h2', h3', h4', asAddr, ha, hb, hc]
theorem parse_tok (x : Tk) (w : World) : Calls Try.prog 38 #[.string x.1.2] w fun e w' => ∃ a b : Nat, e = .returned (.tuple #[.agg (encI (Mid.idT x.1.2.data.toList)).toArray, .int .i64 a, .int .i64 b]) ∧ (Mid.okT x.1.2.data.toList = decide (b = 0)) ∧ Below w.heap.size w w' := by
  obtain ⟨v, a, b, h⟩ : ∃ v a b, Mid.parse x.1.2.data.toList = (v, a, b) := ⟨_, _, _, rfl⟩
  refine (parse_any x.1.2 x.2 v a b h w).mono ?_
  rintro e w' ⟨rfl, hb⟩
  refine ⟨a, b, ?_, by unfold Mid.okT; rw [h], hb⟩
  rw [encI_arr]
  have : (Mid.idT x.1.2.data.toList).1 = v := by unfold Mid.idT; simp only [h]
  rw [this]

set_option maxRecDepth 100000 in
set_option maxHeartbeats 4000000 in
theorem pParse_any (s : ByteArray) (hs : s.size ≤ 100000) (R0 : List (Nat × List UInt8)) (hR0 : Mid.Toks s.data.toList 0 R0) (w : World) :
    Calls Try.prog 17 #[.string s] w fun e w' => ∃ v l at' q, e = .returned (.tuple #[v, .int .i64 (at' : Nat), .int .i64 (q : Nat)]) ∧ Mid.prs R0 [] = (l, at', q) ∧ Ids w' v l ∧ Below w.heap.size w w' := by
  have hFR := from_to R0 (fun x hx => by have := toks_len hR0 x hx; rw [size_toList] at this; omega)
  obtain ⟨B, hB⟩ : ∃ B, B = w.heap.size := ⟨_, rfl⟩
  obtain ⟨hI, hz, hbx⟩ := pbox_ok w s
  have hcall := callsIn_wide (n := 7).2 (tokens_any s (pbox w))
  rw [hz] at hcall
  have HCALL := Lib.hid hcall; have HI := Lib.hid hI; have HBX := Lib.hid hbx; have HFR := Lib.hid hFR; have HR0 := Lib.hid hR0; have HS := Lib.hid hs; have HZ := Lib.hid hz
  clear hcall hI hbx hFR hR0 hs hz
  refine (callsIn_wide (n := 8)).1 ?_
  refine callsIn_of_wp_marks Try.func17 rfl trivial ?_ rfl
  simp only [Try.ntmps17, List.size_toArray, List.length_cons, List.length_nil, Nat.reduceAdd, Nat.reduceSub, Array.replicate_succ, Array.replicate_zero, List.push_toArray, List.append_toArray, List.nil_append, List.cons_append]
  have hmm := @run_makeMap Try.prog
  gi_wp2
  refine ⟨trivial, ?_⟩
  refine (show CallsIn _ _ _ _ _ _ _ from HCALL.out.mono ?_)
  rintro y w6 ⟨rfl, hw6⟩
  rw [← hw6] at HI HBX
  have hs6 : w6.heap.size = B + 6 := by rw [hw6]; simp [HZ.out, hB]
  rw [← hB] at HI HBX ⊢
  obtain ⟨R, hR⟩ : ∃ R, R = B + 5 := ⟨_, rfl⟩
  rw [← hR] at HBX ⊢
  have HRB := Lib.hid hR; have HBE := Lib.hid hB
  clear hw6 HCALL HZ hR hmm hB
  gi_wp2
  have hRB : B + 5 = R := HRB.out.symm
  have hwB : w.heap.size = B := HBE.out.symm
  refine wpIn_rangeFunc_ownH rfl (by omega) (gf := 56) (lb := #[.pointer (some ⟨R, 0, none⟩)]) rfl trivial (enters_of Try.func56 (by kernel_rfl) rfl)
    (tokens_stops 7 (by omega) R B s HS.out R0 HR0.out w6 (by omega) (by omega) (HBX.out.cell 0)) keepsB_t (keepsB_b (by omega) (by omega)) (Below.refl _ _) (fun _ => rfl)
    (fun pre W => ∃ (L : List Mid.Id) (vl : Value), (∀ rest, Mid.prs (pre.map fromV ++ rest) [] = Mid.prs rest L) ∧ L.length ≤ 20 ∧ PInv B w L vl W)
    (fun c pre W => c = .ret ∧ ∃ at' q, (∀ rest, Mid.prs (pre.map fromV ++ rest) [] = ([], at', q)) ∧ PStop B w at' q W)
    (fun s' X Y row hs hg hr => by obtain ⟨L, vl, h1, h2, h3⟩ := hs; exact ⟨L, vl, h1, h2, h3.own hg (fun r e => by have := hr r e; rw [hs6] at this; exact this)⟩)
    (fun c s' X Y row hs hg hr => by obtain ⟨h1, at', q, h2, b1, b2, b3, b4⟩ := hs; have hlt := b1.lt; rw [hs6] at hr; exact ⟨h1, at', q, h2, b1.own hg (fun r e => (hr r e).2), b2.own hg (fun r e => (hr r e).2), b3.own hg (fun r e => (hr r e).2), b4.grown hg (by omega) (fun k e => by have := (hr k e).1; omega)⟩)
    ⟨[], _, fun rest => rfl, by simp, HI.out⟩
    (fun x a' W => a' = { tmps := #[.string s, undef, .pointer (some ⟨B, 0, none⟩), .pointer (some ⟨B + 1, 0, none⟩), .pointer (some ⟨B + 1 + 1, 0, none⟩), .pointer (some ⟨B + 1 + 1 + 1 + 1, 0, none⟩), .int .i64 (x.1.1 : Int), .string x.1.2, undef, undef, undef, undef, .map (some (B + 1 + 1 + 1)), .string s, .func (.func 56) #[] #[.pointer (some ⟨R, 0, none⟩)], .int .i64 (x.1.1 : Int), .string x.1.2, undef, undef, undef, undef, undef, undef, undef, undef, undef, undef, undef, undef, undef, undef, undef, undef, undef, undef, undef, undef, undef, undef, undef, undef, undef], defers := [] })
    (fun x a' _ X Y row hs hg hr => hs)
    ?assign ?body ?done ?stop
  case assign =>
    rintro l pre x W K hI hK
    dsimp only [encTk]
    gi_wp2
    exact hK _ _ (KeepsFrom.refl _ _) (KeepsB.refl _ _ _) hI rfl
  case body =>
    rintro l pre x a' W hl ⟨r, hr⟩ ⟨L, vl, hpr, hL20, hI⟩ rfl hlt
    have P0 := Lib.hid hI; have PR := Lib.hid (prs_tok pre x L hpr)
    obtain ⟨i1, i2, i3, i4, i5, i6, i7, i8⟩ := hI
    obtain ⟨ad, cap, rfl, _, _, _, _⟩ := i5.ids
    have c2 : W.cell? ⟨B, 0, none⟩ = some (.slice ad L.length cap) := i1.cell 0
    have f2 := i1.free 0; have f3 := i2.free 0; have f4 := i3.free 0
    have c3 : W.cell? ⟨B + 1, 0, none⟩ = some (.int .i64 0) := i2.cell 0
    have c4 : W.cell? ⟨B + 1 + 1, 0, none⟩ = some (.int .i64 0) := i3.cell 0
    have HPT := Lib.hid (parse_tok x W)
    clear i1 i2 i3 i4 i5 i6 i8 hpr
    by_cases h20 : L.length = 20
    · have h20I : (L.length : Int) = 20 := by omega
      gi_wp2
      have hst := P0.out.stop x.1.1 9
      exact ⟨hst.2.from _, rfl, x.1.1, 9, fun rest => by rw [PR.out rest, if_pos h20], hst.1⟩
    · have h20I : ¬ (L.length : Int) = 20 := by omega
      clear c3 c4 f2 f3 f4
      gi_wp2
      refine ⟨trivial, ?_⟩
      refine (CallsIn.inRound l (callsIn_wide.2 HPT.out)).mono ?_
      rintro e W1 ⟨a1, b1, rfl, hok, hb1⟩
      have P1 := Lib.hid (P0.out.below hb1)
      have K1 := Lib.hid (KeepsOthers.of_grownBy (bl_grownBy hb1 none) (fun j o h _ => by cases h))
      have B1 := Lib.hid hb1
      generalize Mid.idT x.1.2.data.toList = y at *
      generalize Mid.okT x.1.2.data.toList = ok at *
      have HOK := Lib.hid hok
      have hiy := info_enc infoId y
      have hu : Try.prog.underlying 46 = some (.array 32 5) := Try.underlying46
      have H20 := Lib.hid h20; have HL20 := Lib.hid hL20
      clear hok hb1 P0 HPT h20I h20 hL20 c2
      by_cases hb0 : b1 = 0
      rotate_left
      · have hbI : ¬ (b1 : Int) = 0 := by omega
        gi_wp2_with (refine stoIn_id infoId W1.heap.size y _ (Blk.fresh W1 _ _) (by rfl) (by rfl) _ _ (by rfl) (by rfl) (by rfl) ?_; intro w2 hw2; have B2 := Lib.hid (show Below W1.heap.size W1 w2 by rw [hw2.out]; exact below_row ((Below.refl _ W1).alloc (Nat.le_refl _) _) _ (Nat.le_refl _) _); have P2 := Lib.hid (P1.out.below B2.out); obtain ⟨c2, c3, c4, c5, f2, f3, f4⟩ := P2.out.cells; clear hw2)
        have hst := P2.out.stop x.1.1 3
        have K2 : KeepsOthers W1 w2 := KeepsOthers.of_grownBy (bl_grownBy B2.out none) (fun j o h _ => by cases h)
        exact ⟨((K1.out.trans K2).trans hst.2).from _, rfl, x.1.1, 3, fun rest => by rw [PR.out rest, if_neg H20.out, if_pos (by rw [HOK.out, decide_eq_false hb0])], hst.1⟩
      subst hb0
      gi_wp2_with (first
        | (refine stoIn_id infoId W1.heap.size y _ (Blk.fresh W1 _ _) (by rfl) (by rfl) _ _ (by rfl) (by rfl) (by rfl) ?_; intro w2 hw2; have X2 := Lib.hid (show Blk w2 W1.heap.size 46 (encI y).toArray by rw [hw2.out]; exact (Blk.fresh W1 _ _).row _); have B2 := Lib.hid (show Below W1.heap.size W1 w2 by rw [hw2.out]; exact below_row ((Below.refl _ W1).alloc (Nat.le_refl _) _) _ (Nat.le_refl _) _); have P2 := Lib.hid (P1.out.below B2.out); obtain ⟨-, -, -, c5, -, -, -⟩ := P2.out.cells; clear hw2)
        | (refine wpListIn_load_mid rfl _ _ rfl W1.heap.size 0 (by rfl) (encI y) _ (encBlk X2.out) hu rfl hiy ?_))
      refine ⟨trivial, ?_⟩
      refine (CallsIn.inRound l (callsIn_wide.2 (add_any (B + 1 + 1 + 1) L.length L y w2 P2.out.2.2.2.2.2.1 (by have := HL20.out; omega)))).mono ?_
      rintro e W3 ⟨rfl, hoc, hg⟩
      obtain ⟨j1, j2, j3, j4, j5, j6, j7, j8⟩ := P2.out
      have hRW1 : B + 5 < W1.heap.size := P1.out.2.2.2.2.2.2.1
      have e1 := j1.over hg (by omega); have e2 := j2.over hg (by omega); have e3 := j3.over hg (by omega); have e4 := j4.over hg (by omega)
      have e5 : OwnI 46 (B + 6) W3 (.slice ad L.length cap) L := j5.kept hg (own_ne j5 (by omega))
      have e7 : B + 5 < W3.heap.size := Nat.lt_of_lt_of_le j7 hg.size
      have e8 : Below B w W3 := j8.grown hg (by omega) (fun k e => by cases e; omega)
      have ex := X2.out.over hg (by omega)
      have hKF : KeepsFrom w6.heap.size W W3 := ((K1.out.trans (KeepsOthers.of_grownBy (bl_grownBy B2.out none) (fun j o h _ => by cases h))).from _).trans (KeepsFrom.of_grownBy hg (fun j e => by cases e; omega))
      have hKB : KeepsB B R W W3 := by
        refine ⟨((B1.out.mono (by omega)).trans (B2.out.mono (by omega))).grown hg (by omega) (fun k e => by cases e; omega), ?_⟩
        rw [hg.block R (by omega) (by simp; omega), B2.out.block R (by omega), B1.out.block R (by omega)]
      have HE := Lib.hid (show addE L y = if y = default then 1 else if y ∈ L then 7 else 0 from rfl)
      obtain ⟨c2, c3, c4, -, f2, f3, f4⟩ : W3.cell? ⟨B, 0, none⟩ = some (.slice ad L.length cap) ∧ W3.cell? ⟨B + 1, 0, none⟩ = some (.int .i64 0) ∧ W3.cell? ⟨B + 1 + 1, 0, none⟩ = some (.int .i64 0) ∧ True ∧ W3.frozen? ⟨B, 0, none⟩ = false ∧ W3.frozen? ⟨B + 1, 0, none⟩ = false ∧ W3.frozen? ⟨B + 1 + 1, 0, none⟩ = false := ⟨e1.cell 0, e2.cell 0, e3.cell 0, trivial, e1.free 0, e2.free 0, e3.free 0⟩
      generalize addE L y = q at *
      have D1 := Lib.hid e1; have D2 := Lib.hid e2; have D3 := Lib.hid e3; have D4 := Lib.hid e4; have D5 := Lib.hid e5; have D7 := Lib.hid e7; have D8 := Lib.hid e8; have DX := Lib.hid ex; have HKF := Lib.hid hKF; have HKB := Lib.hid hKB; have HOC := Lib.hid hoc
      clear e1 e2 e3 e4 e5 e7 e8 ex hKF hKB hoc hg j1 j2 j3 j4 j5 j6 j7 j8 P2 P1 X2 B2 B1 K1 c5 hRW1
      by_cases hq : q = 0
      rotate_left
      · have hqI : ¬ (q : Int) = 0 := by omega
        gi_wp2
        have hst := stop3 D1.out D2.out D3.out D8.out x.1.1 q
        refine ⟨HKF.out.trans (hst.2.from _), rfl, x.1.1, q, fun rest => ?_, hst.1⟩
        rw [PR.out rest, if_neg H20.out, if_neg (by rw [HOK.out]; simp)]
        have := HE.out
        by_cases h1 : y = default
        · rw [if_pos h1] at this ⊢; rw [this]
        · rw [if_neg h1] at this ⊢
          by_cases h2 : y ∈ L
          · rw [if_pos h2] at this ⊢; rw [this]
          · rw [if_neg h2] at this; exact absurd this hq
      · subst hq
        have HO3 := Lib.hid (HOC.out rfl)
        have HQ := Lib.hid (show ¬ y = default ∧ ¬ y ∈ L from by
          have := HE.out
          by_cases h1 : y = default
          · rw [if_pos h1] at this; cases this
          · rw [if_neg h1] at this
            by_cases h2 : y ∈ L
            · rw [if_pos h2] at this; cases this
            · exact ⟨h1, h2⟩)
        have HC := Lib.hid (show ∀ C, C = (encI y).toArray → Ids (W3.alloc (.cells C 46)) (.slice (some ⟨W3.heap.size, 0, none⟩) 1 1) [y] from fun C hC => by rw [hC]; exact (own_one (base := 0) (Blk.fresh W3 _ _) (Nat.zero_le _)).ids)
        have HSZ := Lib.hid (show ∀ o, B + 6 ≤ (W3.alloc o).heap.size from fun o => by have := D7.out; simp; omega)
        have G6 := Lib.hid (fun r (e : (Value.slice ad L.length cap).ownBlock = some r) => (D5.out.lt r e).1)
        have hle := encI_len y
        clear c3 c4 f3 f4 HE HOC f2 HFR HR0 HI HBX
        gi_wp2_with (first
          | (refine wpListIn_load_mid rfl _ _ rfl W1.heap.size 0 (by rfl) (encI y) _ (encBlk DX.out) hu rfl hiy ?_)
          | (refine wpListIn_appI rfl _ _ rfl (B + 6) (.slice ad L.length cap) L (by rfl) (D5.out.alloc _) _ [y] (by rfl) (HC.out _ (fold_enc y)) (by have := HL20.out; simp; omega) (HSZ.out _) ?_; intro v5 w5 O5 G5; obtain ⟨ad5, cap5, rfl, -, -, -, -⟩ := O5.out.ids; have E1 := Lib.hid ((D1.out.more _).overr (b := B + 6) G5.out G6.out (by omega)); have c2b := E1.out.cell 0; have f2b := E1.out.free 0; simp at c2b))
        have hl1 : (L ++ [y]).length = L.length + 1 := by simp
        have O6 : OwnI 46 (B + 6) w5 (.slice ad5 (L.length + 1) cap5) (L ++ [y]) := by have h := O5.out; rwa [hl1] at h
        have hset := grownBy_setCell' w5 B (.slice ad5 (L.length + 1) cap5)
        have E2 := (D2.out.more _).overr (b := B + 6) G5.out G6.out (by omega)
        have E3 := (D3.out.more _).overr (b := B + 6) G5.out G6.out (by omega)
        have E4 := (D4.out.more _).overr (b := B + 6) G5.out G6.out (by omega)
        have E6 := ((HO3.out.below ((Below.refl W3.heap.size W3).alloc (Nat.le_refl _) _)).kept G5.out (by intro e; have := G6.out _ e.symm; omega)).kept hset (by simp; omega)
        have hd7 := D7.out
        have hB5 := ((Below.refl B W3).alloc (by omega) _).grown G5.out (by have := HSZ.out; exact Nat.le_trans (by omega) (this _)) (fun k e => by have := G6.out k e; omega)
        have hBf := hB5.setCell (p := ⟨B, 0, none⟩) (Nat.le_refl _) (.slice ad5 (L.length + 1) cap5)
        have hsz5 : B + 5 < w5.heap.size := Nat.lt_of_lt_of_le hd7 hB5.size
        refine ⟨HKF.out.trans (((KeepsOthers.alloc _ _).from _).trans (((KeepsOthers.of_grownBy G5.out (OwnI.row_cells (World.ownsRow.alloc D5.out _))).from _).trans ((KeepsOthers.setCell _ _ _).from _))), keepsB_t HKB.out ⟨hBf, ?_⟩, L ++ [y], .slice ad5 (L.length + 1) cap5, fun rest => ?_, by rw [hl1]; have := HL20.out; have := H20.out; omega, ?_⟩
        · rw [hset.block R (by omega) (by simp; omega), G5.out.block R (by rw [World.size_alloc]; omega) (by intro e; have := G6.out _ e.symm; omega)]
          exact ((Below.refl W3.heap.size W3).alloc (Nat.le_refl _) _).block R (by omega)
        · rw [PR.out rest, if_neg H20.out, if_neg (by rw [HOK.out]; simp), if_neg HQ.out.1, if_neg HQ.out.2]
        · refine ⟨E1.out.put 0 _, E2.away (by omega) _ _, E3.away (by omega) _ _, E4.away (by omega) _ _, World.ownsRow.kept O6 hset (own_ne O6 (by omega)), by rw [hl1]; exact E6, Nat.lt_of_lt_of_le hsz5 hset.size, D8.out.trans hBf⟩
  case done =>
    rintro D ys W hD rfl ⟨L, vl, hpr, hL20, hI⟩ hK
    have P0 := Lib.hid hI
    obtain ⟨i1, i2, i3, i4, i5, i6, i7, i8⟩ := hI
    obtain ⟨ad, cap, rfl, _, _, _, _⟩ := i5.ids
    have hres : Mid.prs R0 [] = (L, 0, 0) := by
      have := hpr []
      rw [HFR.out, List.append_nil] at this
      exact this
    have HR := Lib.hid hres
    obtain ⟨c2, c3, c4, -, f2, f3, f4⟩ := P0.out.cells
    have HD := Lib.hid hD; have HK := Lib.hid hK
    clear i1 i2 i3 i4 i5 i6 i7 i8 hpr hL20 hres hD hK HI HBX HFR HR0
    gi_wp2
    obtain ⟨i1, i2, i3, i4, i5, i6, i7, i8⟩ := P0.out
    obtain ⟨Wf, hWf⟩ : ∃ Wf, Wf = ((W.setCell ⟨B, 0, none⟩ (.slice ad L.length cap)).setCell ⟨B + 1, 0, none⟩ (.int .i64 0)).setCell ⟨B + 1 + 1, 0, none⟩ (.int .i64 0) := ⟨_, rfl⟩
    rw [← hWf]
    have s1 := grownBy_setCell' W B (.slice ad L.length cap)
    have s2 := grownBy_setCell' (W.setCell ⟨B, 0, none⟩ (.slice ad L.length cap)) (B + 1) (.int .i64 0)
    have s3 := grownBy_setCell' ((W.setCell ⟨B, 0, none⟩ (.slice ad L.length cap)).setCell ⟨B + 1, 0, none⟩ (.int .i64 0)) (B + 1 + 1) (.int .i64 0)
    have g1 : Blk Wf B 27 #[.slice ad L.length cap] := by rw [hWf]; exact ((i1.put 0 _).away (by omega) _ _).away (by omega) _ _
    have g2 : Blk Wf (B + 1) 3 #[.int .i64 0] := by rw [hWf]; exact ((i2.away (by omega) _ _).put 0 _).away (by omega) _ _
    have g3 : Blk Wf (B + 1 + 1) 24 #[.int .i64 0] := by rw [hWf]; exact ((i3.away (by omega) _ _).away (by omega) _ _).put 0 _
    have g5 : OwnI 46 (B + 6) Wf (.slice ad L.length cap) L := by
      rw [hWf]
      have o1 : OwnI 46 (B + 6) _ (.slice ad L.length cap) L := World.ownsRow.kept i5 s1 (own_ne i5 (by omega))
      have o2 : OwnI 46 (B + 6) _ (.slice ad L.length cap) L := World.ownsRow.kept o1 s2 (own_ne o1 (by omega))
      exact World.ownsRow.kept o2 s3 (own_ne o2 (by omega))
    have g8 : Below B w Wf := by rw [hWf]; exact ((i8.setCell (p := ⟨B, 0, none⟩) (Nat.le_refl _) _).setCell (p := ⟨B + 1, 0, none⟩) (by simp) _).setCell (p := ⟨B + 1 + 1, 0, none⟩) (by simp; omega) _
    have gD : Wf.heap[D]? = some (.deferred (some [])) := by
      rw [hWf]
      exact ((KeepsOthers.setCell _ _ _).trans ((KeepsOthers.setCell _ _ _).trans (KeepsOthers.setCell _ _ _))).same D _ HK.out rfl
    clear s1 s2 s3 hWf
    refine ⟨by simp, .inl ⟨_, _, rfl, run_takeDeferred gD, ?_⟩⟩
    have r1 := g1.own (grownBy_putObj' _ D (.deferred none)) (fun r e => by cases e; exact ⟨_, gD, rfl⟩)
    have r2 := g2.own (grownBy_putObj' _ D (.deferred none)) (fun r e => by cases e; exact ⟨_, gD, rfl⟩)
    have r3 := g3.own (grownBy_putObj' _ D (.deferred none)) (fun r e => by cases e; exact ⟨_, gD, rfl⟩)
    have r5 : OwnI 46 (B + 6) _ (.slice ad L.length cap) L := ownsRow_putObj g5 (.deferred none) gD rfl
    have hfin := g8.trans (belowK_b (w := w) (show B ≤ w.heap.size by omega) _ D _ (.deferred none) (by have := HD.out; omega) gD rfl rfl)
    refine ⟨.tuple #[.slice ad L.length cap, .int .i64 0, .int .i64 0], p_results _ _ B (B + 1) (B + 1 + 1) _ _ _ rfl rfl rfl r1 r2 r3, ?_⟩
    exact ⟨_, L, 0, 0, rfl, HR.out, r5.ids, by rw [hwB]; exact hfin⟩
  case stop =>
    rintro D c pre W hD ⟨rr, hpre⟩ ⟨rfl, at', q, hpr, b1, b2, b3, b4⟩ hK
    have hres : Mid.prs R0 [] = ([], at', q) := by
      rw [← HFR.out, ← hpre, List.map_append]
      exact hpr _
    have HR := Lib.hid hres
    have g1 := Lib.hid b1; have g2 := Lib.hid b2; have g3 := Lib.hid b3; have g8 := Lib.hid b4; have HD := Lib.hid hD; have gD := Lib.hid hK
    clear hpr hres hpre b1 b2 b3 b4 hD hK HI HBX HFR HR0
    gi_wp2
    refine ⟨by simp, .inl ⟨_, _, rfl, run_takeDeferred gD.out, ?_⟩⟩
    have r1 := g1.out.own (grownBy_putObj' _ D (.deferred none)) (fun r e => by cases e; exact ⟨_, gD.out, rfl⟩)
    have r2 := g2.out.own (grownBy_putObj' _ D (.deferred none)) (fun r e => by cases e; exact ⟨_, gD.out, rfl⟩)
    have r3 := g3.out.own (grownBy_putObj' _ D (.deferred none)) (fun r e => by cases e; exact ⟨_, gD.out, rfl⟩)
    have hfin := g8.out.trans (belowK_b (w := w) (show B ≤ w.heap.size by omega) _ D _ (.deferred none) (by have := HD.out; omega) gD.out rfl rfl)
    refine ⟨.tuple #[.slice none 0 0, .int .i64 (at' : Int), .int .i64 (q : Int)], p_results _ _ B (B + 1) (B + 1 + 1) _ _ _ rfl rfl rfl r1 r2 r3, ?_⟩
    exact ⟨_, [], at', q, rfl, HR.out, Ids.nil _, by rw [hwB]; exact hfin⟩
end Go.Proofs.Ytcofplbdapjdjaa
