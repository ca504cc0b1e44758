/- The examples of the chapter: known answers true, and writes nothing that was there. -/
import Derived.Test.YteoknmdoghemmaaRefParse
import Derived.Test.YteoknmdoghemmaaRefSite
import Derived.Test.YteoknmdoghemmaaRefDig
namespace Mid
def kK : List Nat := List.replicate 31 0 ++ [10]
def kO : List Nat := 1 :: List.replicate 31 0
theorem kK_len : kK.length = 32 := by decide
theorem kO_len : kO.length = 32 := by decide
theorem kK_lt : ∀ x ∈ kK, x < 256 := by decide
theorem kO_lt : ∀ x ∈ kO, x < 256 := by decide
theorem zN_len : zN.length = 32 := by decide
theorem zN_lt : ∀ x ∈ zN, x < 256 := by decide
theorem parse_print (l : List Nat) (hl : l.length = 32) (hb : ∀ x ∈ l, x < 256) : parse (printL l) = (l, 0, 0) := by
  rw [parse_ok _ (bad_print l hl hb) (printL_len l hl), id_print l hl hb]
end Mid
namespace Go.Proofs.Yteoknmdoghemmaa
open Go.RowKit

theorem wp_build_id_g {ops : Array Oper} {rest : List Oper} {o : Oper} {a : Act} {w : World} {Q : Exit → Act → World → Prop} (hw : Region.wanted o (yielded ops a.tmps) = true) (ho : o.op = .build 23 #[])
    (hk : wpList Try.prog ops Q rest (a.put o.dst (.agg (bsC zD))) w) : wpList Try.prog ops Q (o :: rest) a w :=
  wpList_step fun K hK => by
    have hrun := run_build_id w
    simp only [hw, if_true]
    unfold Oper.wp
    simp [execOp, ho, hrun, Result.andThen]
    exact hK _ _ hk
theorem run_build_k (w : World) : (Instr.build 23 #[(31, .int .u8 10)]).run Try.prog w = .ok (.agg (bsC (nI Mid.kK))) w := by kernel_rfl
theorem wp_build_k {ops : Array Oper} {rest : List Oper} {o : Oper} {a : Act} {w : World} {Q : Exit → Act → World → Prop} (hw : Region.wanted o (yielded ops a.tmps) = true) (x : Operand) (ho : o.op = .build 23 #[(31, x)]) (hx : a.eval x = .int .u8 10)
    (hk : wpList Try.prog ops Q rest (a.put o.dst (.agg (bsC (nI Mid.kK)))) w) : wpList Try.prog ops Q (o :: rest) a w :=
  wpList_step fun K hK => by
    have hrun := run_build_k w
    simp only [hw, if_true]
    unfold Oper.wp
    simp [execOp, ho, hx, hrun, Result.andThen]
    exact hK _ _ hk
theorem run_build_o (w : World) : (Instr.build 23 #[(0, .int .u8 1)]).run Try.prog w = .ok (.agg (bsC (nI Mid.kO))) w := by kernel_rfl
theorem wp_build_o {ops : Array Oper} {rest : List Oper} {o : Oper} {a : Act} {w : World} {Q : Exit → Act → World → Prop} (hw : Region.wanted o (yielded ops a.tmps) = true) (x : Operand) (ho : o.op = .build 23 #[(0, x)]) (hx : a.eval x = .int .u8 1)
    (hk : wpList Try.prog ops Q rest (a.put o.dst (.agg (bsC (nI Mid.kO)))) w) : wpList Try.prog ops Q (o :: rest) a w :=
  wpList_step fun K hK => by
    have hrun := run_build_o w
    simp only [hw, if_true]
    unfold Oper.wp
    simp [execOp, ho, hx, hrun, Result.andThen]
    exact hK _ _ hk

def tK : ByteArray := ⟨(Mid.printL Mid.kK).toArray⟩
theorem tK_cut : tK.extract 63 71 = ⟨#[48, 97, 64, 104, 97, 115, 104, 62]⟩ := by decide +kernel
theorem kSite1 (w : World) : Calls Try.prog 35 #[.string ⟨#[97, 46, 46, 98]⟩] w fun e w' => e = .returned (.tuple #[.int .i64 2, .int .i64 12]) ∧ w = w' :=
  site_any ⟨#[97, 46, 46, 98]⟩ (by show 4 ≤ 100000; omega) 2 12 (by decide +kernel) w
theorem kSite2 (w : World) : Calls Try.prog 35 #[.string ⟨#[110, 101, 119, 115, 46, 101, 120, 97, 109, 112, 108, 101, 45, 49]⟩] w fun e w' => e = .returned (.tuple #[.int .i64 0, .int .i64 0]) ∧ w = w' :=
  site_any ⟨#[110, 101, 119, 115, 46, 101, 120, 97, 109, 112, 108, 101, 45, 49]⟩ (by show 14 ≤ 100000; omega) 0 0 (by decide +kernel) w
theorem kZero (w : World) : Calls Try.prog 18 #[.agg (bsC zD)] w fun e w' => e = .returned (.bool true) ∧ Below w.heap.size w w' := by
  have h := isZero_any Mid.zN Mid.zN_len w
  rw [decide_eq_true (show Mid.zN = List.replicate 32 0 from rfl)] at h
  exact h
theorem kCmp (w : World) : Calls Try.prog 19 #[.agg (bsC zD), .agg (bsC (nI Mid.kO))] w fun e w' => e = .returned (.int .i64 (-1)) ∧ Below w.heap.size w w' := by
  have h := compare_any Mid.zN Mid.kO Mid.zN_len Mid.kO_len Mid.zN_lt Mid.kO_lt w
  rw [show Mid.cmpL Mid.zN Mid.kO = -1 from by decide +kernel] at h
  exact h
theorem tK_list : tK.data.toList = Mid.printL Mid.kK := rfl
theorem tK_size : tK.size = 71 := by rw [← size_toList, tK_list]; exact Mid.printL_len _ Mid.kK_len
theorem kPrint (w : World) : Calls Try.prog 13 #[.agg (bsC (nI Mid.kK))] w fun e w' => e = .returned (.string tK) ∧ Below w.heap.size w w' := print_any Mid.kK Mid.kK_len Mid.kK_lt w tK rfl
theorem kParse (w : World) : Calls Try.prog 14 #[.string tK] w fun e w' => e = .returned (.tuple #[.agg (bsC (nI Mid.kK)), .int .i64 0, .int .i64 0]) ∧ Below w.heap.size w w' :=
  parse_any tK (by rw [tK_size]; omega) Mid.kK 0 0 (by rw [tK_list]; exact Mid.parse_print _ Mid.kK_len Mid.kK_lt) w
theorem kA_len : (nI Mid.kK).length = 32 := by rw [nI_len]; exact Mid.kK_len

set_option maxRecDepth 100000 in
set_option maxHeartbeats 400000 in
theorem known_any (w : World) : Calls Try.prog 15 #[] w fun e w' => e = .returned (.bool true) ∧ Below w.heap.size w w' := by
  have H1 := Lib.hid kPrint; have H2 := Lib.hid kParse; have H3 := Lib.hid kSite1; have H4 := Lib.hid kSite2; have H5 := Lib.hid kZero; have H6 := Lib.hid kCmp
  have hsz := tK_size
  have hcut := tK_cut
  have heq := fun w => eq_same (t := 23) Try.underlying23 (nI Mid.kK) kA_len w
  have HKL := Lib.hid kA_len
  have HBK := Lib.hid (fun ops rest o a w Q hw x ho hx hk => wp_build_k (ops := ops) (rest := rest) (o := o) (a := a) (w := w) (Q := Q) hw x ho hx hk)
  generalize nI Mid.kK = A at *
  generalize tK = t at *
  have B0 := Lib.hid (Below.refl w.heap.size w)
  go_enter Try.func15, Try.ntmps15
  go_upto_region 2 with (first
    | (refine HBK.out _ _ _ _ _ _ (by rfl) _ (by rfl) (by rfl) ?_)
    | (go_at_call 13; refine (H1.out _).mono ?_; rintro e w1 ⟨rfl, hb1⟩; have B1 := Lib.hid (B0.out.trans (hb1.mono B0.out.size)); clear hb1))
  go_upto_region 3 with (first
    | (go_at_call 14; refine (H2.out _).mono ?_; rintro e w2 ⟨rfl, hb2⟩; have B2 := Lib.hid (B1.out.trans (hb2.mono B1.out.size)); clear hb2)
    | (refine sto_bs infoId _ A HKL.out _ (Blk.fresh w2 _ _) rfl (by rfl) _ _ (by rfl) (by rfl) (by rfl) ?_; intro w3 hw3))
  have K3 := Lib.hid (show Blk w3 w2.heap.size 23 (bsC A) by rw [hw3.out]; exact (Blk.fresh w2 _ _).row _)
  have B3 := Lib.hid (show Below w.heap.size w w3 by rw [hw3.out]; exact below_row (B2.out.alloc B2.out.size _) _ B2.out.size _)
  clear hw3
  go_wp2_with fail
  refine (H3.out _).mono ?_
  rintro e w4 ⟨rfl, rfl⟩
  go_wp2_with fail
  refine (H4.out _).mono ?_
  rintro e w4 ⟨rfl, rfl⟩
  go_upto_region 5 with (fail)
  have HBZ := Lib.hid (fun ops rest o a w Q hw ho hk => wp_build_id_g (ops := ops) (rest := rest) (o := o) (a := a) (w := w) (Q := Q) hw ho hk)
  have HBO := Lib.hid (fun ops rest o a w Q hw x ho hx hk => wp_build_o (ops := ops) (rest := rest) (o := o) (a := a) (w := w) (Q := Q) hw x ho hx hk)
  generalize nI Mid.kO = C at *
  generalize zD = Z at *
  go_wp2_with (first
    | (refine ld_bs_g Try.underlying23 infoId _ A HKL.out K3.out (by rfl) _ (by rfl) (by rfl) ?_)
    | (refine HBK.out _ _ _ _ _ _ (by rfl) _ (by rfl) (by rfl) ?_)
    | (refine HBZ.out _ _ _ _ _ _ (by rfl) (by rfl) ?_))
  refine (H5.out _).mono ?_
  rintro e w5 ⟨rfl, hb5⟩
  have B5 := Lib.hid (B3.out.trans (hb5.mono B3.out.size))
  clear hb5
  rename_i K9 hK9
  refine hK9 _ _ ?_
  go_wp2_with (first
    | (refine HBZ.out _ _ _ _ _ _ (by rfl) (by rfl) ?_)
    | (refine HBO.out _ _ _ _ _ _ (by rfl) _ (by rfl) (by rfl) ?_))
  refine (H6.out _).mono ?_
  rintro e w6 ⟨rfl, hb6⟩
  have B6 := Lib.hid (B5.out.trans (hb6.mono B5.out.size))
  clear hb6
  rename_i K10 hK10
  refine hK10 _ _ ?_
  go_wp2_with fail
  go_ret
  exact ⟨rfl, B6.out⟩
end Go.Proofs.Yteoknmdoghemmaa
