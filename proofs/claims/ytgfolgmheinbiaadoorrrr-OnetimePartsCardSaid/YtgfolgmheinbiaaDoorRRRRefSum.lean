/- The reference's Sum. -/
import Derived.Test.YtgfolgmheinbiaaDoorRRRRefSumP
import Derived.Test.YtgfolgmheinbiaaDoorRRRNil
namespace Go.Proofs.YtgfolgmheinbiaaDoorRRR
open Go.RowKit

theorem zD_rep : zD = List.replicate 32 0 := by decide

end Go.Proofs.YtgfolgmheinbiaaDoorRRR
namespace S5
theorem pad_lt (l : List Nat) (h : ∀ x ∈ l, x < 256) : ∀ x ∈ pad l, x < 256 := by
  intro x hx
  unfold pad bitsOf at hx
  simp only [List.mem_append, List.mem_cons, List.mem_replicate, List.mem_map] at hx
  rcases hx with (h1 | h1 | h1) | ⟨i, _, rfl⟩
  · exact h x h1
  · omega
  · omega
  · exact Nat.mod_lt _ (by omega)
end S5
namespace Go.Proofs.YtgfolgmheinbiaaDoorRRR
open Go.RowKit

set_option maxRecDepth 100000 in
set_option maxHeartbeats 1000000 in
theorem refSum_any (v : Value) (l : List Nat) (hn : l.length ≤ 100000000) (w : World) (hv : Bytes w v l) :
    Calls Tryd.prog 53 #[v] w fun e w' => e = .returned (.agg (bsC (S5.sha S5.K l))) ∧ Below w.heap.size w w' := by
  have HV := Lib.hid hv
  obtain ⟨L, hL⟩ : ∃ L, L = S5.pad l := ⟨_, rfl⟩
  have hL64 : L.length % 64 = 0 := by rw [hL]; exact S5.pad_len l
  have hLlo : 64 ≤ L.length := by
    have : 1 ≤ L.length := by rw [hL]; unfold S5.pad; simp; omega
    omega
  have hLhi : L.length ≤ 200000000 := by rw [hL]; unfold S5.pad; simp [S5.bitsOf_len]; omega
  have HPAD := Lib.hid (fun w hv => padded_any v l hn w hv)
  rw [← hL] at HPAD
  obtain ⟨N, hN⟩ : ∃ N, L.length = 64 * N := ⟨L.length / 64, by omega⟩
  have hfin : S5.sha S5.K l = S5.digest (S5.run S5.K N S5.init L) := by
    unfold S5.sha S5.runAll
    rw [← hL, hN, show 64 * N / 64 = N by omega]
  have HFIN := Lib.hid hfin
  have HN := Lib.hid hN
  have hN1 : 1 ≤ N := by omega
  have hN2 : N ≤ 3200000 := by omega
  have HPB := Lib.hid (show ∀ x ∈ L, x < 256 by rw [hL]; exact S5.pad_lt l hv.1)
  have HZ := Lib.hid (show zD.length = 32 by rfl)
  clear hfin hN hL hL64 hLlo hLhi hn hv
  go_enter Tryd.func53, Tryd.ntmps53
  go_upto_region 1 with (fail)
  change Code.wp Tryd.prog _ _ _ (w.alloc (.cells (bsC zD) 31))
  generalize hW0 : w.alloc (.cells (bsC zD) 31) = W0
  have B0 := Lib.hid (show Below w.heap.size w W0 by rw [← hW0]; exact (Below.refl _ w).alloc (Nat.le_refl _) _)
  have R0 := Lib.hid (show Blk W0 w.heap.size 31 (bsC zD) by rw [← hW0]; exact Blk.fresh w _ _)
  clear hW0
  go_upto_region 4 with (first
    | (refine sto_s8 _ S5.init _ (Blk.fresh W0 _ _) (by rfl) (by rfl) _ _ (by rfl) (by rfl) (by rfl) ?_; intro w1 hw1; have H1 := Lib.hid (show Blk w1 W0.heap.size 93 (stC S5.init) by rw [hw1.out]; exact (Blk.fresh W0 _ _).row _); have R1 := Lib.hid (show Blk w1 w.heap.size 31 (bsC zD) by rw [hw1.out]; exact (R0.out.more _).far (by have := R0.out.lt; omega) _); have B1 := Lib.hid (show Below w.heap.size w w1 by rw [hw1.out]; exact below_row (B0.out.alloc B0.out.size _) _ B0.out.size _); clear hw1)
    | (go_at_call 58; refine (constants_any _).mono ?_; rintro e w2 ⟨rfl, hb2⟩; have H2 := Lib.hid (H1.out.keep hb2 H1.out.lt); have R2 := Lib.hid (R1.out.keep hb2 R1.out.lt); have B2 := Lib.hid (B1.out.trans (hb2.mono B1.out.size)); clear hb2)
    | (refine sto_w64 _ S5.kL k64_len _ (Blk.fresh w2 _ _) (by rfl) (by rfl) _ _ (by rfl) (by rfl) (by rfl) ?_; intro w3 hw3; have C3 := Lib.hid (show Blk w3 w2.heap.size 94 (wsC S5.kL) by rw [hw3.out]; exact (Blk.fresh w2 _ _).row _); have H3 := Lib.hid (show Blk w3 W0.heap.size 93 (stC S5.init) by rw [hw3.out]; exact (H2.out.more _).far (by have := H2.out.lt; omega) _); have R3 := Lib.hid (show Blk w3 w.heap.size 31 (bsC zD) by rw [hw3.out]; exact (R2.out.more _).far (by have := R2.out.lt; omega) _); have B3 := Lib.hid (show Below w.heap.size w w3 by rw [hw3.out]; exact below_row (B2.out.alloc B2.out.size _) _ B2.out.size _); clear hw3)
    | (go_at_call 59; refine (HPAD.out _ (HV.out.below B3.out)).mono ?_; rintro e w4 ⟨v', rfl, ho4, hb4⟩; have C4 := Lib.hid (C3.out.keep hb4 C3.out.lt); have H4 := Lib.hid (H3.out.keep hb4 H3.out.lt); have R4 := Lib.hid (R3.out.keep hb4 R3.out.lt); have B4 := Lib.hid (B3.out.trans (hb4.mono B3.out.size)); clear hb4))
  have hby := ho4.out.bytes HPB.out
  have hge := ownBlock_ge ho4.out
  have HBY := Lib.hid hby
  obtain ⟨_, x, cap, rfl, hcl, hcm, _, hc⟩ := hby
  obtain ⟨b, off, rfl, _⟩ := hc 0 (by rw [HN.out]; omega)
  have hb3 : w3.heap.size ≤ b := hge b rfl
  obtain ⟨m, hm⟩ : ∃ m, m = L.length := ⟨_, rfl⟩
  rw [← hm] at hcl HBY ⊢
  have hmN : m = 64 * N := by rw [hm, HN.out]
  have hmI : (m : Int) ≤ 300000000 := by omega
  have hmcI : (m : Int) ≤ (cap : Int) := by omega
  have HMN := Lib.hid hmN; have HM := Lib.hid hm
  have o1 : w.heap.size < W0.heap.size := R0.out.lt
  have o2 : W0.heap.size < w2.heap.size := H2.out.lt
  have o3 : w2.heap.size < b := by have := C3.out.lt; omega
  clear hm hmN hc hge ho4 hb3 HPAD HPB HV
  generalize W0.heap.size = g1 at *
  generalize w2.heap.size = g2 at *
  go_wp2_with fail
  go_loopw [6] (fun aa wr => ∃ n a : Nat, aa = .int .i64 a ∧ Hid (a = 64 * n) ∧ n ≤ N ∧ Blk wr w.heap.size 31 (bsC zD) ∧ Blk wr g1 93 (stC (S5.run S5.K n S5.init L)) ∧ Blk wr g2 94 (wsC S5.kL) ∧ Bytes wr (.slice (some ⟨b, off, none⟩) m cap) L ∧ Below w.heap.size w wr) (fun aa _ => 64 * N - (intOf aa).toNat)
  case atStart => exact ⟨0, 0, rfl, Lib.hid rfl, by omega, R4.out, H4.out, C4.out, HBY.out, B4.out⟩
  case round =>
    clear R0 B0 H1 R1 B1 H2 R2 B2 C3 H3 R3 B3 C4 H4 R4 B4 HBY
    obtain ⟨n, a, rfl, HA, hnN, hR, hH, hC, hP, hB⟩ := hrel
    have HR := Lib.hid hR; have HH := Lib.hid hH; have HC := Lib.hid hC; have HP := Lib.hid hP; have HB := Lib.hid hB
    clear hR hH hC hP hB
    by_cases hlt : n < N
    · have h1 : (a : Int) < (m : Int) := by have := HA.out; have := HMN.out; omega
      have h2 : (a : Int) + 64 ≤ (cap : Int) := by have := HA.out; have := HMN.out; omega
      obtain ⟨s, hs⟩ : ∃ s, s = S5.run S5.K n S5.init L := ⟨_, rfl⟩
      rw [← hs] at HH
      obtain ⟨bl, hbl⟩ : ∃ bl, bl = (L.drop a).take 64 := ⟨_, rfl⟩
      have hblen : bl.length = 64 := by rw [hbl]; have := HA.out; have := HMN.out; have := HM.out; simp; omega
      have HBL := Lib.hid (show Bytes wr (.slice (some ⟨b, off + a, none⟩) 64 (cap - a)) bl by rw [hbl]; exact HP.out.sub a 64 (by have := HA.out; have := HMN.out; have := HM.out; omega))
      have hnext : S5.run S5.K (n + 1) S5.init L = S5.blk S5.K s (S5.words bl) := by rw [S5.run_next, ← hs, hbl, HA.out]
      have HNX := Lib.hid hnext
      have HSC := Lib.hid (fun w hv => schedule_any (.slice (some ⟨b, off + a, none⟩) 64 (cap - a)) bl hblen w hv)
      obtain ⟨SC, hSC⟩ : ∃ SC, SC = schL (S5.words bl) 64 := ⟨_, rfl⟩
      rw [← hSC] at HSC
      have HSCl := Lib.hid (show SC.length = 64 by rw [hSC]; exact schL_len _ _)
      have HSCa := Lib.hid (show ∀ i, i < 64 → SC.getD i 0 = S5.W (S5.words bl) i from fun i hi => by rw [hSC, schL_at _ _ _ hi, if_pos hi])
      clear hs hbl hblen hnext hSC
      go_wp2_with fail
      refine (HSC.out _ HBL.out).mono ?_
      rintro e w5 ⟨rfl, hb5⟩
      have b5 := Lib.hid hb5
      have H5 := Lib.hid (HH.out.keep hb5 HH.out.lt)
      clear hb5 HSC HBL
      go_upto_region 9 with (first
        | (refine sto_w64 _ SC HSCl.out _ (Blk.fresh w5 _ _) (by rfl) (by rfl) _ _ (by rfl) (by rfl) (by rfl) ?_; intro w6 hw6; have S6 := Lib.hid (show Blk w6 w5.heap.size 94 (wsC SC) by rw [hw6.out]; exact (Blk.fresh w5 _ _).row _); have b6 := Lib.hid (show Below wr.heap.size wr w6 by rw [hw6.out]; exact below_row (b5.out.alloc b5.out.size _) _ b5.out.size _); have H6 := Lib.hid (HH.out.keep b6.out HH.out.lt); clear hw6)
        | (refine ld_s8 _ s H6.out (by rfl) _ (by rfl) (by rfl) ?_)
        | (refine sto_s8 _ s _ (Blk.fresh w6 _ _) (by rfl) (by rfl) _ _ (by rfl) (by rfl) (by rfl) ?_; intro w7 hw7; have V7 := Lib.hid (show Blk w7 w6.heap.size 93 (stC s) by rw [hw7.out]; exact (Blk.fresh w6 _ _).row _); have b7 := Lib.hid (show Below wr.heap.size wr w7 by rw [hw7.out]; exact below_row (b6.out.alloc b6.out.size _) _ b6.out.size _); have S7 := Lib.hid (show Blk w7 w5.heap.size 94 (wsC SC) by rw [hw7.out]; exact (S6.out.more _).far (by have := S6.out.lt; omega) _); clear hw7))
      have o5 : wr.heap.size ≤ w5.heap.size := b5.out.size
      have o6 : w5.heap.size < w6.heap.size := S6.out.lt
      have o7 : g2 < wr.heap.size := HC.out.lt
      have o8 : b < wr.heap.size := by
        obtain ⟨_, y, c, e, _, _, _, hc⟩ := HP.out
        obtain ⟨b', o', e', h'⟩ := hc 0 (by rw [HN.out]; omega)
        have e1 := (Value.slice.inj e).1
        rw [e'] at e1
        cases e1
        exact World.block_lt_of_cell? wr _ h'
      clear H5 H6 S6 b5 b6
      generalize w5.heap.size = g7 at *
      generalize w6.heap.size = g8 at *
      generalize wr = wA at *
      go_wp2_with fail
      go_loopw [9] (fun tt wr => ∃ k : Nat, tt = .int .i64 k ∧ k ≤ 64 ∧ Blk wr g8 93 (stC (S5.rnd S5.K (S5.W (S5.words bl)) s k)) ∧ Blk wr g7 94 (wsC SC) ∧ Below wA.heap.size wA wr) (fun tt _ => 64 - (intOf tt).toNat)
      case atStart => exact ⟨0, rfl, by omega, V7.out, S7.out, b7.out⟩
      case round =>
        clear V7 S7 b7
        obtain ⟨k, rfl, hk, hV, hS, hB⟩ := hrel
        have V := Lib.hid hV; have S := Lib.hid hS; have BA := Lib.hid hB
        clear hV hS hB
        by_cases hk64 : k < 64
        · have hkI : (k : Int) < 64 := by omega
          obtain ⟨st, hst⟩ : ∃ st, st = S5.rnd S5.K (S5.W (S5.words bl)) s k := ⟨_, rfl⟩
          rw [← hst] at V
          have HST := Lib.hid hst
          obtain ⟨kk, hkk⟩ : ∃ kk, kk = S5.K k := ⟨_, rfl⟩
          obtain ⟨wk, hwk⟩ : ∃ wk, wk = S5.W (S5.words bl) k := ⟨_, rfl⟩
          have HKW := Lib.hid (show S5.rnd S5.K (S5.W (S5.words bl)) s (k + 1) = S5.step st kk wk by rw [hst, hkk, hwk]; rfl)
          have cK : ∀ m, (wr.drewN m).cell? ⟨g2, k, none⟩ = some (.int .u32 kk) := fun m => by
            have := (HC.out.keep BA.out HC.out.lt).draws m
            rw [this.cell, hkk]
            exact wsC_get S5.kL k (by rw [k64_len]; exact hk64)
          have cW : ∀ m, (wr.drewN m).cell? ⟨g7, k, none⟩ = some (.int .u32 wk) := fun m => by
            rw [(S.out.draws m).cell, wsC_get SC k (by rw [HSCl.out]; exact hk64), HSCa.out k hk64, hwk]
          have c0 := fun m => (s8_cells (V.out.draws m)).1
          have c1 := fun m => (s8_cells (V.out.draws m)).2.1
          have c2 := fun m => (s8_cells (V.out.draws m)).2.2.1
          have c3 := fun m => (s8_cells (V.out.draws m)).2.2.2.1
          have c4 := fun m => (s8_cells (V.out.draws m)).2.2.2.2.1
          have c5 := fun m => (s8_cells (V.out.draws m)).2.2.2.2.2.1
          have c6 := fun m => (s8_cells (V.out.draws m)).2.2.2.2.2.2.1
          have c7 := fun m => (s8_cells (V.out.draws m)).2.2.2.2.2.2.2
          clear hst hkk hwk
          go_wp2_with fail
          go_quiet ((go_at_call 61; exact Calls.quiet_of (refRotate_lit _ _ (by unfold RotsI; omega) _)))
          generalize nq = n1
          go_wp2_with fail
          go_quiet ((go_at_call 61; exact quietD (fun W => refRotate_lit _ _ (by unfold RotsI; omega) W) _ _ _))
          clear cK cW c0 c1 c2 c3 c4 c5 c6 c7
          generalize h1 : ((st.h + bits .xor .u32 (bits .xor .u32 (S5.rot st.e 6) (S5.rot st.e 11)) (S5.rot st.e 25) + bits .xor .u32 (bits .and .u32 st.e st.f) (bits .and .u32 (bits .xor .u32 IntKind.u32.max st.e) st.g) + kk + wk) % 4294967296) = one
          generalize h2 : ((bits .xor .u32 (bits .xor .u32 (S5.rot st.a 2) (S5.rot st.a 13)) (S5.rot st.a 22) + bits .xor .u32 (bits .xor .u32 (bits .and .u32 st.a st.b) (bits .and .u32 st.a st.c)) (bits .and .u32 st.b st.c)) % 4294967296) = two
          have e1 : S5.tOne st kk wk = one := h1
          have e2 : S5.tTwo st = two := h2
          have HST2 := Lib.hid (show S5.step st kk wk = ⟨S5.w32 (one + two), st.a, st.b, st.c, S5.w32 (st.d + one), st.e, st.f, st.g⟩ by unfold S5.step; rw [e1, e2])
          rw [HST2.out] at HKW
          obtain ⟨st2, hst2⟩ : ∃ st2 : S5.St, st2 = ⟨S5.w32 (one + two), st.a, st.b, st.c, S5.w32 (st.d + one), st.e, st.f, st.g⟩ := ⟨_, rfl⟩
          have HST3 := Lib.hid hst2
          rw [← hst2] at HKW
          clear h1 h2 e1 e2 HST2 hst2
          generalize hw2 : (wr.drewN n1).drewN nq = w2
          have V2 := Lib.hid (show Blk w2 g8 93 (stC st) by rw [← hw2]; exact (V.out.draws n1).draws nq)
          have S2 := Lib.hid (show Blk w2 g7 94 (wsC SC) by rw [← hw2]; exact (S.out.draws n1).draws nq)
          have B2 := Lib.hid (show Below wA.heap.size wA w2 by rw [← hw2]; exact below_draws (below_draws BA.out n1) nq)
          clear hw2 V S BA
          obtain ⟨c0, c1, c2, c3, c4, c5, c6, c7⟩ := s8_cells V2.out
          obtain ⟨f0, f1, f2, f3, f4, f5, f6, f7⟩ := s8_free V2.out
          go_wp2_with fail
          go_roundw
          case rel =>
            refine ⟨k + 1, by go_num, hk64, ?_, ?_, ?_⟩
            · rw [HKW.out, HST3.out]
              exact chainW_blk ⟨S5.w32 (one + two), st.a, st.b, st.c, S5.w32 (st.d + one), st.e, st.f, st.g⟩ V2.out
            · exact chainW_far ⟨S5.w32 (one + two), st.a, st.b, st.c, S5.w32 (st.d + one), st.e, st.f, st.g⟩ S2.out (by omega)
            · exact chainW_below ⟨S5.w32 (one + two), st.a, st.b, st.c, S5.w32 (st.d + one), st.e, st.f, st.g⟩ B2.out (by omega)
          case measure => simp [intOf]; omega
        · obtain rfl : k = 64 := by omega
          obtain ⟨vv, hvv⟩ : ∃ vv, vv = S5.rnd S5.K (S5.W (S5.words bl)) s 64 := ⟨_, rfl⟩
          rw [← hvv] at V
          have HS2 := Lib.hid (show S5.run S5.K (n + 1) S5.init L = S5.plus s vv by rw [HNX.out, hvv]; rfl)
          have R1 := Lib.hid (HR.out.keep BA.out HR.out.lt)
          have H1 := Lib.hid (HH.out.keep BA.out HH.out.lt)
          have C1 := Lib.hid (HC.out.keep BA.out HC.out.lt)
          have P1 := Lib.hid (HP.out.below BA.out)
          have B1 := Lib.hid (HB.out.trans (BA.out.mono HB.out.size))
          have o9 : g1 ≠ g8 := by omega
          clear hvv HNX S BA
          generalize wr = wB at *
          go_wp2_with fail
          go_loopw [12] (fun ii wr => ∃ i : Nat, ii = .int .i64 i ∧ i ≤ 8 ∧ Blk wr w.heap.size 31 (bsC zD) ∧ Blk wr g1 93 (wsC (S5.plusL s vv i)) ∧ Blk wr g8 93 (wsC (S5.stL vv)) ∧ Blk wr g2 94 (wsC S5.kL) ∧ Bytes wr (.slice (some ⟨b, off, none⟩) m cap) L ∧ Below w.heap.size w wr) (fun ii _ => 8 - (intOf ii).toNat)
          case atStart => exact ⟨0, rfl, by omega, R1.out, H1.out, V.out, C1.out, P1.out, B1.out⟩
          case round =>
            clear R1 H1 V C1 P1 B1
            obtain ⟨i, rfl, hi, hR, hH, hV, hC, hP, hB⟩ := hrel
            have R := Lib.hid hR; have H := Lib.hid hH; have V := Lib.hid hV; have C := Lib.hid hC; have P := Lib.hid hP; have BB := Lib.hid hB
            clear hR hH hV hC hP hB
            by_cases hi8 : i < 8
            · have hiI : (i : Int) < 8 := by omega
              obtain ⟨x, hx⟩ : ∃ x, x = (S5.stL s).getD i 0 := ⟨_, rfl⟩
              obtain ⟨y, hy⟩ : ∃ y, y = (S5.stL vv).getD i 0 := ⟨_, rfl⟩
              have c1 : wr.drew.cell? ⟨g1, i, none⟩ = some (.int .u32 x) := by
                rw [H.out.draw.cell, wsC_get _ i (by rw [S5.plusL_len]; exact hi8), S5.plusL_at s vv i i hi8, if_neg (by omega), hx]
              have c8 : wr.drew.cell? ⟨g8, i, none⟩ = some (.int .u32 y) := by
                rw [V.out.draw.cell, wsC_get _ i (by show i < 8; exact hi8), hy]
              have f1 : wr.drew.frozen? ⟨g1, i, none⟩ = false := H.out.draw.free i
              have HXY := Lib.hid (show (x + y) % 4294967296 = S5.w32 ((S5.stL s).getD i 0 + (S5.stL vv).getD i 0) by rw [hx, hy]; rfl)
              clear hx hy
              go_wp2_with fail
              refine wp_region_still_tail 9 (by kernel_rfl) (by kernel_rfl) ?_
              simp only [List.take_succ_cons, List.take_zero, List.drop_succ_cons, List.drop_zero]
              change wpStill _ _ wr.drew (fun a' => wpList _ _ _ _ a' wr.drew) _ _
              repeat still_step
              refine wpStill_nil ?_
              go_wp2_with fail
              go_roundw
              case rel =>
                have hput := (H.out.put i (.int .u32 ((x + y) % 4294967296))).draw
                rw [wsC_set, S5.plusL_set s vv i _ HXY.out] at hput
                have r1 := (R.out.away (k := g1) (by omega) i (.int .u32 ((x + y) % 4294967296))).draw
                have r2 := (V.out.away (k := g1) (by omega) i (.int .u32 ((x + y) % 4294967296))).draw
                have r3 := (C.out.away (k := g1) (by omega) i (.int .u32 ((x + y) % 4294967296))).draw
                have r4 := (P.out.put g1 i (.int .u32 ((x + y) % 4294967296)) (by omega)).drew
                have r5 := (below_put BB.out g1 i (by omega) (.int .u32 ((x + y) % 4294967296))).drew
                (repeat apply Exists.intro)
                exact ⟨⟨i + 1, by go_num, hi8, r1, hput, r2, r3, r4, r5⟩, rfl⟩
              case measure => simp [intOf]; omega
            · obtain rfl : i = 8 := by omega
              rw [S5.plusL_eight] at H
              go_wp2_with fail
              go_roundw
              case rel => exact ⟨n + 1, a + 64, by go_num, Lib.hid (by have := HA.out; omega), by omega, R.out, by rw [HS2.out]; exact H.out, C.out, P.out, BB.out⟩
              case measure => have := HA.out; simp [intOf]; omega
    · obtain rfl : n = N := by omega
      have h1 : ¬ (a : Int) < (m : Int) := by have := HA.out; have := HMN.out; omega
      obtain ⟨s, hs⟩ : ∃ s, s = S5.run S5.K n S5.init L := ⟨_, rfl⟩
      rw [← hs] at HH HFIN
      clear hs HC HP
      go_upto_region 20 with (fail)
      change Code.wp Tryd.prog _ _ _ (wr.alloc (.cells (bsC zD) 31))
      generalize hW5 : wr.alloc (.cells (bsC zD) 31) = W5
      have O5 := Lib.hid (show Blk W5 wr.heap.size 31 (bsC zD) by rw [← hW5]; exact Blk.fresh wr _ _)
      have R5 := Lib.hid (show Blk W5 w.heap.size 31 (bsC zD) by rw [← hW5]; exact HR.out.more _)
      have H5 := Lib.hid (show Blk W5 g1 93 (stC s) by rw [← hW5]; exact HH.out.more _)
      have B5 := Lib.hid (show Below w.heap.size w W5 by rw [← hW5]; exact HB.out.alloc HB.out.size _)
      have o4 : g1 < wr.heap.size := HH.out.lt
      have o5 : w.heap.size < wr.heap.size := HR.out.lt
      clear hW5 HR HH HB
      generalize wr.heap.size = go at *
      go_wp2_with fail
      go_loopw [14] (fun ii wr => ∃ i : Nat, ii = .int .i64 i ∧ i ≤ 32 ∧ Blk wr w.heap.size 31 (bsC zD) ∧ Blk wr g1 93 (stC s) ∧ Blk wr go 31 (bsC (S5.outL s i)) ∧ Below w.heap.size w wr) (fun ii _ => 32 - (intOf ii).toNat)
      case atStart => exact ⟨0, rfl, by omega, R5.out, H5.out, by rw [S5.outL_zero, ← zD_rep]; exact O5.out, B5.out⟩
      case round =>
        clear R5 H5 O5 B5
        obtain ⟨i, rfl, hi, hR, hH, hO, hB⟩ := hrel
        have R := Lib.hid hR; have H := Lib.hid hH; have O := Lib.hid hO; have BB := Lib.hid hB
        clear hR hH hO hB
        by_cases hi32 : i < 32
        · have hiI : (i : Int) < 32 := by omega
          obtain ⟨q, hq⟩ : ∃ q, q = i / 4 := ⟨_, rfl⟩
          obtain ⟨r, hr⟩ : ∃ r, r = i % 4 := ⟨_, rfl⟩
          obtain ⟨sh, hsh⟩ : ∃ sh, sh = 24 - 8 * (i % 4) := ⟨_, rfl⟩
          have e1 : (i : Int).tdiv 4 = (q : Int) := by rw [Int.tdiv_eq_ediv_of_nonneg (by omega)]; omega
          have e2 : (i : Int).tmod 4 = (r : Int) := by rw [Int.tmod_eq_emod_of_nonneg (by omega)]; omega
          have e3 : (24 : Int) - 8 * (r : Int) = (sh : Int) := by omega
          have hq8 : (q : Int) < 8 := by omega
          obtain ⟨x, hx⟩ : ∃ x, x = (S5.stL s).getD q 0 := ⟨_, rfl⟩
          have c1 : wr.cell? ⟨g1, q, none⟩ = some (.int .u32 x) := by
            rw [H.out.cell, stC_wsC, wsC_get _ q (by show q < 8; omega), hx]
          have HV := Lib.hid (show x / 2 ^ sh % 256 = S5.digL s i by rw [hx, hsh, hq]; rfl)
          obtain ⟨u, cu⟩ : ∃ u, wr.cell? ⟨go, i, none⟩ = some u := ⟨_, by rw [O.out.cell, bsC_get _ i (by rw [S5.outL_len]; exact hi32)]⟩
          have fu : wr.frozen? ⟨go, i, none⟩ = false := O.out.free i
          have hshI : (sh : Int) < 32 := by omega
          clear hx hsh hr hq
          go_wp2_with fail
          go_roundw
          case rel =>
            have hput := O.out.put i (.int .u8 (x / 2 ^ sh % 256))
            rw [bsC_set, S5.outL_set s i _ HV.out] at hput
            exact ⟨i + 1, by go_num, hi32, R.out.away (by omega) i _, H.out.away (by omega) i _, hput, below_put BB.out go i (by omega) _⟩
          case measure => simp [intOf]; omega
        · obtain rfl : i = 32 := by omega
          obtain ⟨D, hD⟩ : ∃ D, D = S5.outL s 32 := ⟨_, rfl⟩
          have HDl := Lib.hid (show D.length = 32 by rw [hD]; exact S5.outL_len _ _)
          have HD := Lib.hid (show D = S5.sha S5.K l by rw [hD, S5.outL_full, HFIN.out])
          rw [← hD] at O
          clear hD
          go_wp2_with (first
            | (refine ld_a32 _ D HDl.out O.out (by rfl) _ (by rfl) (by rfl) ?_)
            | (refine sto_a32 _ D HDl.out _ R.out (by rfl) (by rfl) _ _ (by rfl) (by rfl) (by rfl) ?_; intro w9 hw9))
          have hf : Blk w9 w.heap.size 31 (bsC D) := by rw [hw9.out]; exact R.out.row _
          have hfB : Below w.heap.size w w9 := by rw [hw9.out]; exact below_row BB.out _ (Nat.le_refl _) _
          exact bodyPost_ret (results_cell_row rfl _ _ w.heap.size _ _ _ _ rfl hf Tryd.underlying31 rfl (info32 D HDl.out)) rfl ⟨by rw [HD.out], hfB⟩
end Go.Proofs.YtgfolgmheinbiaaDoorRRR
