/- Parent and Reply. -/
import Derived.Test.YtcofplbdapjdjaaNear
import Derived.Test.YtcofplbdapjdjaaMerge
namespace Mid
def replyE (l : List Id) (p : Id) : List Id × Nat := if chk l ≠ 0 then ([], chk l) else if p = default then ([], 1) else if p ∈ l then ([], 7) else (cutL (l ++ [p]) 20, 0)
def lastE (l : List Id) : Id × Bool := if l = [] then (default, false) else (l[l.length - 1]!, true)
end Mid
namespace Go.Proofs.Ytcofplbdapjdjaa
open Go.RowKit

theorem step_appI {ops : Array Oper} {o : Oper} {a : Act} {w : World} {K : Act → World → Prop} {Q : Exit → Act → World → Prop} {E : Prop} (hw : Region.wanted o (yielded ops a.tmps) = true) (s x : Operand)
    (ho : o.op = .call { callee := .builtin .append, args := #[s, x], argTypes := #[27, 27] })
    (base : Nat) (v : Value) (ls : List Mid.Id) (hs : a.eval s = v) (hown : OwnI 46 base w v ls) (u : Value) (ms : List Mid.Id) (hx : a.eval x = u) (hu : Ids w u ms)
    (hn : (ls.length + ms.length) * 32 ≤ 140737488355328) (hbase : base ≤ w.heap.size)
    (h : ∀ v' w', Hid (OwnI 46 base w' v' (ls ++ ms)) → Hid (w.grownBy w' v.ownBlock) → K (a.put o.dst v') w') : if Region.wanted o (yielded ops a.tmps) = true then Oper.wp Try.prog o a w K Q else E := by
  rw [if_pos hw]
  obtain ⟨v', w', hr, h1, h2⟩ := run_appI w o.type base v ls hown u ms hu hn hbase
  unfold Oper.wp execOp
  simp only [ho, resolve, invoke, builtin, Sem.run_bind, Sem.run_pure, Result.andThen_ok, List.map_toArray, List.map_cons, List.map_nil, hs, hx, hr]
  exact h v' w' (Lib.hid h1) (Lib.hid h2)

set_option maxRecDepth 100000 in
set_option maxHeartbeats 1000000 in
theorem all_any (x : Mid.Id) (w : World) : Calls Try.prog 47 #[.agg (encI x).toArray] w fun e w' => e = .returned (.bool true) ∧ Below w.heap.size w w' := by
  go_enter Try.func47, Try.ntmps47
  go_wp2_with fail
  go_ret
  exact ⟨rfl, (Below.refl _ w).alloc (Nat.le_refl _) _⟩

set_option maxRecDepth 100000 in
set_option maxHeartbeats 1000000 in
theorem eqp_any (P0 : Nat) (p x : Mid.Id) (w : World) (h : Blk w P0 46 (encI p).toArray) : Calls Try.prog 45 #[.agg (encI x).toArray, .pointer (some ⟨P0, 0, none⟩)] w fun e w' => e = .returned (.bool (decide (x = p))) ∧ Below w.heap.size w w' := by
  have hB : Below w.heap.size w (w.alloc (.cells (encI x).toArray 46)) := (Below.refl _ w).alloc (Nat.le_refl _) _
  have hA := encBlk (Blk.fresh w 46 (encI x).toArray)
  have hP := encBlk (h.more (.cells (encI x).toArray 46))
  have hix := info_enc infoId x; have hip := info_enc infoId p
  have hu := Try.underlying46
  have heq := fun w => eq_enc (t := 46) hu x p w
  generalize decide (x = p) = q at *
  go_enter Try.func45, Try.ntmps45
  go_upto_region 1 with (fail)
  generalize w.alloc (.cells (encI x).toArray 46) = W0 at *
  have HA := Lib.hid hA; have HB := Lib.hid hB; have HP := Lib.hid hP
  clear hA hB hP h
  go_wp2_with (first
    | (refine wpList_load_mid rfl _ _ rfl w.heap.size 0 (by rfl) (encI x) _ HA.out hu rfl hix ?_)
    | (refine wpList_load_mid rfl _ _ rfl P0 0 (by rfl) (encI p) _ HP.out hu rfl hip ?_))
  go_ret
  exact ⟨rfl, HB.out⟩

theorem results_cell_tmp1 {fn : Func} {p u : Tmp} {ty : TypeId} {P : Program} (h : fn.results = #[.cell p ty, .tmp u]) (tmps : Array Value) (w : World) (g : Nat) (t : TypeId) (cs : Array Value) (fr : Nat × Nat) (d : TypeDesc)
    (hp : tmps.getD p undef = .pointer (some ⟨g, 0, none⟩)) (hg : w.heap[g]? = some (.cells cs t fr))
    (hd : d.isRow = true) (hu : P.underlying ty = some d) (hi : (P.info? ty).map (·.size) = some cs.size) :
    (results fn tmps).run P w = .ok (.tuple #[.agg cs, tmps.getD u undef]) w := by
  have hp' : tmps[p]?.getD undef = .pointer (some ⟨g, 0, none⟩) := by simpa using hp
  have hr := run_loadVar_mid (P := P) w g 0 ty cs.toList d (fun j v hv => by rw [Nat.zero_add, cell_of_row w g j cs t fr hg]; simpa using hv) hu hd (by simpa using hi)
  simp only [Array.toArray_toList] at hr
  simp [results, h, hp', asAddr, hr]

set_option maxRecDepth 100000 in
set_option maxHeartbeats 2000000 in
theorem parent_any (v : Value) (ls : List Mid.Id) (w : World) (hv : Ids w v ls) :
    Calls Try.prog 24 #[v] w fun e w' => e = .returned (.tuple #[.agg (encI (Mid.lastE ls).1).toArray, .bool (Mid.lastE ls).2]) ∧ Below w.heap.size w w' := by
  have hN := Lib.hid (fun q N cap (he : v = .slice q N cap) (hl : N = ls.length) W (h : Ids W v ls) => near_all (fun _ => true) q N cap ls W (he ▸ h) hl (fun x W' _ => all_any x W'))
  have HV := Lib.hid hv
  obtain ⟨q, cap, rfl, hlc, hcm, _, _⟩ := hv
  have HN := Lib.hid (fun W h => hN.out q ls.length cap rfl rfl W h)
  have HB0 := Lib.hid ((Below.refl w.heap.size w).alloc (Nat.le_refl _) (.cells #[.int .u8 0, .int .u8 0, .int .u8 0, .int .u8 0, .int .u8 0, .int .u8 0, .int .u8 0, .int .u8 0, .int .u8 0, .int .u8 0, .int .u8 0, .int .u8 0, .int .u8 0, .int .u8 0, .int .u8 0, .int .u8 0, .int .u8 0, .int .u8 0, .int .u8 0, .int .u8 0, .int .u8 0, .int .u8 0, .int .u8 0, .int .u8 0, .int .u8 0, .int .u8 0, .int .u8 0, .int .u8 0, .int .u8 0, .int .u8 0, .int .u8 0, .int .u8 0] 46))
  have HK0 := Lib.hid (Blk.fresh w 46 #[.int .u8 0, .int .u8 0, .int .u8 0, .int .u8 0, .int .u8 0, .int .u8 0, .int .u8 0, .int .u8 0, .int .u8 0, .int .u8 0, .int .u8 0, .int .u8 0, .int .u8 0, .int .u8 0, .int .u8 0, .int .u8 0, .int .u8 0, .int .u8 0, .int .u8 0, .int .u8 0, .int .u8 0, .int .u8 0, .int .u8 0, .int .u8 0, .int .u8 0, .int .u8 0, .int .u8 0, .int .u8 0, .int .u8 0, .int .u8 0, .int .u8 0, .int .u8 0])
  obtain ⟨n, hn⟩ : ∃ n, n = ls.length := ⟨_, rfl⟩
  rw [← hn] at HN HV ⊢
  have HLN := Lib.hid hn
  clear hN hlc hcm hn
  go_enter Try.func24, Try.ntmps24
  go_wp2_with fail
  refine (HN.out _ (HV.out.below HB0.out)).mono ?_
  rintro e w2 ⟨x, i, ok, rfl, hb2, hd⟩
  have hxy : (x, ok) = Mid.lastE ls := by
    unfold Mid.lastE
    rcases hd with ⟨rfl, k, hk, hx, _, _, hno⟩ | ⟨rfl, hx, _, hno⟩
    · rw [if_neg (by rintro rfl; simp at hk)]
      have : k = ls.length - 1 := by
        by_cases h : k < ls.length - 1
        · have := hno (ls.length - 1) h (by omega); cases this
        · omega
      rw [← this, hx]
    · by_cases hl : ls = []
      · rw [if_pos hl, hx]
      · obtain ⟨y, hy⟩ := List.exists_mem_of_ne_nil ls hl
        have := hno y hy; cases this
  have HXY := Lib.hid hxy
  have HB2 := Lib.hid (HB0.out.trans (hb2.mono HB0.out.size)); have HK2 := Lib.hid (HK0.out.keep hb2 HK0.out.lt)
  have hix := info_enc infoId x
  have hu : Try.prog.underlying 46 = some (.array 32 5) := Try.underlying46
  clear hb2 hd hxy HN HV HB0 HK0
  go_wp2_with (first
    | (refine sto_id infoId w2.heap.size x _ (Blk.fresh w2 _ _) (by rfl) (by rfl) _ _ (by rfl) (by rfl) (by rfl) ?_; intro w3 hw3; have X3 := Lib.hid (show Blk w3 w2.heap.size 46 (encI x).toArray by rw [hw3.out]; exact (Blk.fresh w2 _ _).row _); have K3 := Lib.hid (show Blk w3 w.heap.size 46 #[.int .u8 0, .int .u8 0, .int .u8 0, .int .u8 0, .int .u8 0, .int .u8 0, .int .u8 0, .int .u8 0, .int .u8 0, .int .u8 0, .int .u8 0, .int .u8 0, .int .u8 0, .int .u8 0, .int .u8 0, .int .u8 0, .int .u8 0, .int .u8 0, .int .u8 0, .int .u8 0, .int .u8 0, .int .u8 0, .int .u8 0, .int .u8 0, .int .u8 0, .int .u8 0, .int .u8 0, .int .u8 0, .int .u8 0, .int .u8 0, .int .u8 0, .int .u8 0] by rw [hw3.out]; exact (HK2.out.more _).far (Nat.ne_of_lt HK2.out.lt) _); have B3 := Lib.hid (show Below w.heap.size w w3 by rw [hw3.out]; exact below_row (HB2.out.alloc HB2.out.size _) _ HB2.out.size _))
    | (refine wpList_load_mid rfl _ _ rfl w2.heap.size 0 (by rfl) (encI x) _ (encBlk X3.out) hu rfl hix ?_)
    | (refine sto_id infoId w.heap.size x _ K3.out (by rfl) (by rfl) _ _ (by rfl) (by rfl) (by rfl) ?_; intro w4 hw4))
  have K4 : Blk w4 w.heap.size 46 (encI x).toArray := by rw [hw4.out]; exact K3.out.row _
  have B4 : Below w.heap.size w w4 := by rw [hw4.out]; exact below_row B3.out _ (Nat.le_refl _) _
  exact bodyPost_ret (results_cell_tmp1 rfl _ _ w.heap.size _ _ _ _ rfl K4 rfl hu (by rw [List.size_toArray]; exact hix)) rfl ⟨by rw [← HXY.out]; rfl, B4⟩

/-- what both Replies give -/
def ReplyPost (ls : List Mid.Id) (p : Mid.Id) (w : World) (e : Ending) (w' : World) : Prop :=
  ∃ v' l q, e = .returned (.tuple #[v', .int .i64 (q : Nat)]) ∧ Mid.replyE ls p = (l, q) ∧ Ids w' v' l ∧ Below w.heap.size w w'

set_option maxRecDepth 100000 in
set_option maxHeartbeats 2000000 in
theorem reply_any (v : Value) (ls : List Mid.Id) (p : Mid.Id) (w : World) (hv : Ids w v ls) :
    Calls Try.prog 22 #[v, .agg (encI p).toArray] w (ReplyPost ls p w) := by
  have HC := Lib.hid (fun W h => check_any v ls W h)
  have HZ := Lib.hid (fun W => isZero_id p W)
  have HCL := Lib.hid (fun W h1 h => clone_any v ls W h1 h)
  have HTR := Lib.hid (fun W u l h1 h => trim_any u l 20 W (by omega) (by omega) h1 h)
  have hN := Lib.hid (fun q N cap (he : v = .slice q N cap) (hl : N = ls.length) W (hk : Blk W w.heap.size 46 (encI p).toArray) (h : Ids W v ls) => near_eq w.heap.size (fun x => decide (x = p)) q N cap ls W (he ▸ h) hl (fun x W' hb => eqp_any w.heap.size p x W' (hk.keep hb hk.lt)))
  have V := Lib.hid hv
  have HB0 := Lib.hid ((Below.refl w.heap.size w).alloc (Nat.le_refl _) (.cells (encI p).toArray 46))
  have HK0 := Lib.hid (Blk.fresh w 46 (encI p).toArray)
  have V0 := Lib.hid (hv.below HB0.out)
  obtain ⟨q, cap, rfl, hlc, hcm, _, _⟩ := hv
  have HN := Lib.hid (fun W h1 h => hN.out q ls.length cap rfl rfl W h1 h)
  have HR := Lib.hid (show Mid.replyE ls p = if Mid.chk ls ≠ 0 then ([], Mid.chk ls) else if p = default then ([], 1) else if p ∈ ls then ([], 7) else (Mid.cutL (ls ++ [p]) 20, 0) from rfl)
  have HCH := Lib.hid (fun h => Mid.chk_len (l := ls) h)
  obtain ⟨n, hn⟩ : ∃ n, n = ls.length := ⟨_, rfl⟩
  rw [← hn] at HN HC HCL V V0 ⊢
  have HLN := Lib.hid hn
  have hip := info_enc infoId p
  have hle := encI_len p
  have hu : Try.prog.underlying 46 = some (.array 32 5) := Try.underlying46
  generalize hch : Mid.chk ls = c at *
  clear hN hlc hcm hn V
  have HCQ := Lib.hid hch
  clear hch
  go_enter Try.func22, Try.ntmps22
  go_upto_region 1 with (fail)
  obtain ⟨W0, hW0⟩ : ∃ W0, W0 = w.alloc (.cells (encI p).toArray 46) := ⟨_, rfl⟩
  rw [← hW0] at HB0 HK0 V0 ⊢
  clear hW0
  go_wp2_with fail
  refine (HC.out _ V0.out).mono ?_
  rintro e w1 ⟨rfl, hb1⟩
  have B_1 := Lib.hid (HB0.out.trans (hb1.mono HB0.out.size))
  have V_1 := Lib.hid (V0.out.below hb1)
  have K_1 := Lib.hid (HK0.out.keep hb1 HK0.out.lt)
  clear hb1 
  by_cases h1 : c = 0
  rotate_left
  · have hI : ¬ (c : Int) = 0 := by omega
    have hr := HR.out
    rw [if_pos h1] at hr
    have HR2 := Lib.hid hr
    clear hr h1
    go_wp2_with fail
    go_ret2
    exact ⟨_, [], c, rfl, HR2.out, Ids.nil _, B_1.out⟩
  have hr := HR.out
  rw [if_neg (by omega)] at hr
  have HR := Lib.hid hr
  subst h1
  have HL := Lib.hid (HCH.out rfl)
  clear hr HCH HC
  go_wp2_with (refine wpList_load_mid rfl _ _ rfl w.heap.size 0 (by rfl) (encI p) _ (encBlk K_1.out) hu rfl hip ?_)
  refine (HZ.out _).mono ?_
  rintro e w2 ⟨rfl, hb2⟩
  have B_2 := Lib.hid (B_1.out.trans (hb2.mono B_1.out.size))
  have V_2 := Lib.hid (V_1.out.below hb2)
  have K_2 := Lib.hid (K_1.out.keep hb2 K_1.out.lt)
  clear hb2 
  by_cases h1 : p = default
  · rw [decide_eq_true h1]
    have hr := HR.out
    rw [if_pos h1] at hr
    have HR2 := Lib.hid hr
    clear hr h1
    go_wp2_with fail
    go_ret2
    exact ⟨_, [], 1, rfl, HR2.out, Ids.nil _, B_2.out⟩
  rw [decide_eq_false h1]
  have hr := HR.out
  rw [if_neg h1] at hr
  have HR := Lib.hid hr
  clear hr h1 HZ
  go_wp2_with fail
  refine (HN.out _ K_2.out V_2.out).mono ?_
  rintro e w3 ⟨x, i, ok, rfl, hb3, hd⟩
  have B_3 := Lib.hid (B_2.out.trans (hb3.mono B_2.out.size))
  have V_3 := Lib.hid (V_2.out.below hb3)
  have K_3 := Lib.hid (K_2.out.keep hb3 K_2.out.lt)
  clear hb3 
  have hok : ok = decide (p ∈ ls) := by
    rcases hd with ⟨rfl, k, hk, hx, hpx, _, _⟩ | ⟨rfl, hx, _, hno⟩
    · have h2 : x = p := of_decide_eq_true hpx
      rw [decide_eq_true]; rw [← h2, ← hx, getE ls k hk]; exact List.getElem_mem hk
    · rw [decide_eq_false]; intro hm; have := hno p hm; simp at this
  have hix := info_enc infoId x
  clear hd HN
  by_cases hm : p ∈ ls
  · rw [decide_eq_true hm] at hok
    subst hok
    have hr := HR.out
    rw [if_pos hm] at hr
    have HR2 := Lib.hid hr
    clear hr hm
    go_wp2_with (refine sto_id infoId w3.heap.size x _ (Blk.fresh w3 _ _) (by rfl) (by rfl) _ _ (by rfl) (by rfl) (by rfl) ?_; intro w9 hw9; have B9 := Lib.hid (show Below w.heap.size w w9 by rw [hw9.out]; exact below_row (B_3.out.alloc B_3.out.size _) _ B_3.out.size _))
    go_ret2
    exact ⟨_, [], 7, rfl, HR2.out, Ids.nil _, B9.out⟩
  rw [decide_eq_false hm] at hok
  subst hok
  have hr := HR.out
  rw [if_neg hm] at hr
  have HR := Lib.hid hr
  clear hr hm
  go_upto_region 10 with (refine sto_id infoId w3.heap.size x _ (Blk.fresh w3 _ _) (by rfl) (by rfl) _ _ (by rfl) (by rfl) (by rfl) ?_; intro w9 hw9)
  have BR := Lib.hid (show Below w3.heap.size w3 w9 by rw [hw9.out]; exact below_row ((Below.refl _ w3).alloc (Nat.le_refl _) _) _ (Nat.le_refl _) _)
  have B9 := Lib.hid (B_3.out.trans (BR.out.mono B_3.out.size)); have K9 := Lib.hid (K_3.out.keep BR.out K_3.out.lt); have V9 := Lib.hid (V_3.out.below BR.out)
  have HS := Lib.hid (fun W (hb : Below w9.heap.size w9 W) => encBlk (K9.out.keep hb K9.out.lt))
  clear hw9 BR
  go_wp2_with fail
  refine wp_region_held_drew (S := (fun w' => w'.rangeAt w.heap.size 0 (encI p))) (by kernel_rfl) ?_ (fun hHeld => ?_)
  · exact (HS.out _ (Below.refl _ w9).drew)
  refine wpAnyH_take (i := 0) (v := ?_) rfl (by kernel_rfl) (by kernel_rfl) (by kernel_rfl) (fun _ _ _ h => h) (Or.inl ⟨by rfl, ?_⟩) (by assumption) ?_
  rotate_left
  · (intro w9 _; go_simp; try with_reducible rfl)
  simp only [Act.put, List.getElem_toArray, List.getElem_cons_zero, List.setIfInBounds_toArray, List.set_cons_succ, List.set_cons_zero]
  refine wpAnyH_take (i := 2) (v := .agg (encI p).toArray) rfl (by kernel_rfl) (by kernel_rfl) (by kernel_rfl) (fun _ _ _ h => h) (yieldsIf_load_mid (by rfl) _ _ rfl _ _ rfl (encI p) _ (fun _ h => h) hu rfl hip) (by assumption) ?_
  simp only [Act.put, List.getElem_toArray, List.getElem_cons_succ, List.getElem_cons_zero, List.setIfInBounds_toArray, List.set_cons_succ, List.set_cons_zero]
  refine wpAnyH_ready (rs := [1, 3]) (by kernel_rfl) (by simp) ?_
  refine AllReadyH.cons rfl (fun K hK => ?_) (AllReadyH.cons rfl (fun K hK => ?_) AllReadyH.nil)
  · go_simp
    refine (HCL.out _ (by have := HLN.out; have := HL.out; omega) (V9.out.below (Below.refl _ w9).drew)).mono ?_
    rintro e w1 ⟨vc, rfl, ho, hbc⟩
    have F1 := Lib.hid (show Below w9.heap.size w9 w1 from ((Below.refl _ w9).drew).trans hbc)
    have OC1 := Lib.hid ho
    clear hbc ho
    refine hK.out _ _ (HS.out _ F1.out) (fun hHeld => ?_)
    clear hK K
    refine wpAnyH_ready (rs := [3]) (by kernel_rfl) (by simp) ?_
    refine AllReadyH.cons rfl (fun K hK => ?_) AllReadyH.nil
    go_simp
    rw [fold_enc p]
    have OC := Lib.hid (OC1.out.alloc (.cells (encI p).toArray 46)); have OX := Lib.hid (own_one (base := w1.heap.size) (Blk.fresh w1 46 (encI p).toArray) (Nat.le_refl _)); have F2 := Lib.hid (F1.out.alloc F1.out.size (.cells (encI p).toArray 46))
    obtain ⟨q0, hq0⟩ : ∃ q0, q0 = w9.drew.heap.size := ⟨_, rfl⟩
    have Q0 := Lib.hid (show q0 ≤ w9.heap.size by rw [hq0]; exact Nat.le_refl _); have Q9 := Lib.hid (show w9.heap.size ≤ q0 by rw [hq0]; exact Nat.le_refl _)
    rw [← hq0] at OC
    clear hq0 OC1
    refine hK.out _ _ (HS.out _ F2.out) (fun hHeld => ?_)
    clear hK K
    refine wpAnyH_ready (rs := [4]) (by kernel_rfl) (by simp) ?_
    refine AllReadyH.cons rfl (fun K hK => ?_) AllReadyH.nil
    refine step_appI (by rfl) _ _ rfl q0 vc ls (by rfl) OC.out _ [p] (by rfl) OX.out.ids (by have := HLN.out; have := HL.out; simp; omega) (Nat.le_trans Q0.out F2.out.size) ?_
    intro v3 w3 O3 G3
    have F3 := Lib.hid (F2.out.grown G3.out F2.out.size (fun j hj => Nat.le_trans Q9.out (OC.out.lt j hj).1))
    refine hK.out _ _ (HS.out _ F3.out) (fun hHeld => ?_)
    clear hK K
    refine wpAnyH_ready (rs := [5]) (by kernel_rfl) (by simp) ?_
    refine AllReadyH.cons rfl (fun K hK => ?_) AllReadyH.nil
    go_simp
    refine (HTR.out _ _ _ (by have := HLN.out; have := HL.out; simp; omega) O3.out.ids).mono ?_
    rintro e w4 ⟨v4, rfl, hi4, hb4⟩
    have I4 := Lib.hid hi4; have F4 := Lib.hid (F3.out.trans (hb4.mono F3.out.size))
    clear hi4 hb4
    refine hK.out _ _ (HS.out _ F4.out) (fun hHeld => ?_)
    clear hK K
    refine wpAnyH_take (i := 6) (v := ?_) rfl (by kernel_rfl) (by kernel_rfl) (by kernel_rfl) (fun _ _ _ h => h) (Or.inl ⟨by rfl, ?_⟩) (by assumption) ?_
    rotate_left
    · (intro w9 _; go_simp; try with_reducible rfl)
    simp only [Act.put, List.getElem_toArray, List.getElem_cons_succ, List.getElem_cons_zero, List.setIfInBounds_toArray, List.set_cons_succ, List.set_cons_zero]
    refine wpAnyH_take (i := 7) (v := ?_) rfl (by kernel_rfl) (by kernel_rfl) (by kernel_rfl) (fun _ _ _ h => h) (Or.inl ⟨by rfl, ?_⟩) (by assumption) ?_
    rotate_left
    · (intro w9 _; go_simp; try with_reducible rfl)
    simp only [Act.put, List.getElem_toArray, List.getElem_cons_succ, List.getElem_cons_zero, List.setIfInBounds_toArray, List.set_cons_succ, List.set_cons_zero]
    refine wpAnyH_done (by kernel_rfl) ?_ _
    clear hHeld
    go_wp2_with fail
    go_ret2
    exact ⟨_, _, 0, rfl, HR.out, I4.out, B9.out.trans (F4.out.mono B9.out.size)⟩
  · go_simp
    rw [fold_enc p]
    have OX0 := Lib.hid (show Blk (w9.alloc (.cells (encI p).toArray 46)).drew w9.heap.size 46 (encI p).toArray from Blk.fresh w9 46 (encI p).toArray); have F1 := Lib.hid (show Below w9.heap.size w9 (w9.alloc (.cells (encI p).toArray 46)).drew from ((Below.refl _ w9).alloc (Nat.le_refl _) _).drew)
    generalize (w9.alloc (.cells (encI p).toArray 46)).drew = w1 at *
    refine hK.out _ _ (HS.out _ F1.out) (fun hHeld => ?_)
    clear hK K
    refine wpAnyH_ready (rs := [1]) (by kernel_rfl) (by simp) ?_
    refine AllReadyH.cons rfl (fun K hK => ?_) AllReadyH.nil
    go_simp
    refine (HCL.out _ (by have := HLN.out; have := HL.out; omega) (V9.out.below F1.out)).mono ?_
    rintro e w2 ⟨vc, rfl, ho, hbc⟩
    have F2 := Lib.hid (F1.out.trans (hbc.mono F1.out.size)); have OX := Lib.hid (own_one (base := w9.heap.size) (OX0.out.keep hbc OX0.out.lt) (Nat.le_refl _)); have OC0 := Lib.hid ho
    obtain ⟨q0, hq0⟩ : ∃ q0, q0 = w1.heap.size := ⟨_, rfl⟩
    have Q0x := Lib.hid (show q0 ≤ w2.heap.size by rw [hq0]; exact hbc.size); have Q9 := Lib.hid (show w9.heap.size ≤ q0 by rw [hq0]; exact F1.out.size)
    have OC := Lib.hid (show OwnI 46 q0 w2 vc ls by rw [hq0]; exact OC0.out)
    clear hq0 OC0 hbc ho
    refine hK.out _ _ (HS.out _ F2.out) (fun hHeld => ?_)
    clear hK K
    refine wpAnyH_ready (rs := [4]) (by kernel_rfl) (by simp) ?_
    refine AllReadyH.cons rfl (fun K hK => ?_) AllReadyH.nil
    refine step_appI (by rfl) _ _ rfl q0 vc ls (by rfl) OC.out _ [p] (by rfl) OX.out.ids (by have := HLN.out; have := HL.out; simp; omega) Q0x.out ?_
    intro v3 w3 O3 G3
    have F3 := Lib.hid (F2.out.grown G3.out F2.out.size (fun j hj => Nat.le_trans Q9.out (OC.out.lt j hj).1))
    refine hK.out _ _ (HS.out _ F3.out) (fun hHeld => ?_)
    clear hK K
    refine wpAnyH_ready (rs := [5]) (by kernel_rfl) (by simp) ?_
    refine AllReadyH.cons rfl (fun K hK => ?_) AllReadyH.nil
    go_simp
    refine (HTR.out _ _ _ (by have := HLN.out; have := HL.out; simp; omega) O3.out.ids).mono ?_
    rintro e w4 ⟨v4, rfl, hi4, hb4⟩
    have I4 := Lib.hid hi4; have F4 := Lib.hid (F3.out.trans (hb4.mono F3.out.size))
    clear hi4 hb4
    refine hK.out _ _ (HS.out _ F4.out) (fun hHeld => ?_)
    clear hK K
    refine wpAnyH_take (i := 6) (v := ?_) rfl (by kernel_rfl) (by kernel_rfl) (by kernel_rfl) (fun _ _ _ h => h) (Or.inl ⟨by rfl, ?_⟩) (by assumption) ?_
    rotate_left
    · (intro w9 _; go_simp; try with_reducible rfl)
    simp only [Act.put, List.getElem_toArray, List.getElem_cons_succ, List.getElem_cons_zero, List.setIfInBounds_toArray, List.set_cons_succ, List.set_cons_zero]
    refine wpAnyH_take (i := 7) (v := ?_) rfl (by kernel_rfl) (by kernel_rfl) (by kernel_rfl) (fun _ _ _ h => h) (Or.inl ⟨by rfl, ?_⟩) (by assumption) ?_
    rotate_left
    · (intro w9 _; go_simp; try with_reducible rfl)
    simp only [Act.put, List.getElem_toArray, List.getElem_cons_succ, List.getElem_cons_zero, List.setIfInBounds_toArray, List.set_cons_succ, List.set_cons_zero]
    refine wpAnyH_done (by kernel_rfl) ?_ _
    clear hHeld
    go_wp2_with fail
    go_ret2
    exact ⟨_, _, 0, rfl, HR.out, I4.out, B9.out.trans (F4.out.mono B9.out.size)⟩

end Go.Proofs.Ytcofplbdapjdjaa
