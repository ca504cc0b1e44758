/- Encode of the reference: it answers a slice of the call's own that holds the code point's encoding. -/
import Derived.Test.YtbjhomihmlijiaaDoorRefEnc
namespace Go.Proofs.YtbjhomihmlijiaaDoor
open Go.RowKit

/-- a slice of the call's own that holds these bytes -/
def Nb (w w' : World) (v : Value) (l : List Nat) : Prop := w'.ownsRow w.heap.size 5 1 v l.length (nbCells l)

theorem heap_new (w : World) (o : Obj) : (w.alloc o).heap[w.heap.size]? = some o := by
  show (w.heap.push o)[w.heap.size]? = some o
  simp

theorem heap_new2 (w : World) (o o2 : Obj) : ((w.alloc o).alloc o2).heap[w.heap.size + 1]? = some o2 := by
  have h := heap_new (w.alloc o) o2
  rw [show (w.alloc o).heap.size = w.heap.size + 1 by simp] at h
  exact h

theorem w64 (x : Nat) (h : x ≤ 2000000) : wrap64 (x : Int) = (x : Int) := by unfold wrap64; omega
theorem wu8 (x : Nat) (h : x < 256) : IntKind.u8.wrap (x : Int) = (x : Int) ∧ (x : Int) % 256 = (x : Int) := by
  constructor
  · simp [IntKind.wrap, IntKind.bits, IntKind.signed]; omega
  · omega

theorem enc_facts (x : Nat) (hx : x ≤ 1114111) : ∃ y x2 z : Nat, (x : Int).tmod 64 = (y : Int) ∧ (x : Int).tdiv 64 = (x2 : Int) ∧ (x : Int) / 64 = (x2 : Int) ∧ wrap64 (128 + (y : Int)) = (z : Int) ∧ (z : Int) % 256 = (z : Int) ∧ wrap64 (x2 : Int) = (x2 : Int) ∧ 128 + x % 64 = z ∧ x2 = x / 64 := by
  have h1 : (x : Int).tmod 64 = ((x % 64 : Nat) : Int) := by rw [Int.tmod_eq_emod_of_nonneg (Int.natCast_nonneg x)]; rfl
  have h2 : (x : Int).tdiv 64 = ((x / 64 : Nat) : Int) := by rw [Int.tdiv_eq_ediv_of_nonneg (Int.natCast_nonneg x)]; rfl
  have h3 : x / 64 ≤ 1114111 := Nat.le_trans (Nat.div_le_self _ _) hx
  have h4 : x % 64 < 64 := Nat.mod_lt _ (by decide)
  exact ⟨x % 64, x / 64, 128 + x % 64, h1, h2, rfl, w64 (128 + x % 64) (by omega), (wu8 (128 + x % 64) (by omega)).2, w64 _ (by omega), rfl, rfl⟩

theorem own_one (w : World) (base x : Nat) (hb : base ≤ w.heap.size) : (w.alloc (.cells #[.int .u8 (x : Int)] 5)).ownsRow base 5 1 (.slice (some ⟨w.heap.size, 0, none⟩) 1 1) 1 (nbCells [x]) :=
  ⟨rfl, .inr ⟨w.heap.size, 1, #[.int .u8 (x : Int)], rfl, hb, heap_new _ _, by omega, by unfold maxLen; omega, rfl, rfl⟩⟩

set_option maxRecDepth 20000 in
set_option maxHeartbeats 1000000 in
theorem refEncode_any (r : Nat) (hr : r ≤ 1114111) (w : World) (l : List Nat) (hl : l = U8.enc r) :
    Calls Tryd.prog 23 #[.int .i64 r] w fun e w' => ∃ v, e = .returned v ∧ Nb w w' v l ∧ Below w.heap.size w w' := by
  obtain ⟨n, hn⟩ : ∃ n, n = U8.esize r := ⟨_, rfl⟩
  have h1 := fun w => size_any r hr w n hn
  have hn4 : 1 ≤ n ∧ n ≤ 4 := by rcases U8.esize_cases r with h | h | h | h <;> omega
  have htop := U8.top_lt r n
  have HTOP := Lib.hid htop
  have H1 := Lib.hid h1; have HL := Lib.hid hl; have HN := Lib.hid hn; have HR := Lib.hid hr
  clear h1 hl hn hr htop
  by_cases h0 : n = 1
  · have h0b : ((n : Int) == 1) = true := by simp; omega
    have hwr : IntKind.u8.wrap (r : Int) = (r : Int) := by
      have : r < 128 := by rcases U8.esize_cases r with h | h | h | h <;> (have := HN.out; omega)
      simp [IntKind.wrap, IntKind.bits, IntKind.signed]; omega
    have hres : l = [r] := by rw [HL.out, U8.enc, ← HN.out, if_pos h0]
    have HRES := Lib.hid hres
    clear hres h0
    go_enter Tryd.func23, Tryd.ntmps23
    go_wp2_with fail
    refine (H1.out _).mono ?_
    rintro e w1 ⟨rfl, hb1⟩
    go_wp2_with fail
    go_ret
    refine ⟨_, rfl, ?_, hb1.alloc hb1.size _⟩
    rw [HRES.out]
    exact own_one w1 w.heap.size r hb1.size
  · have h0b : ((n : Int) == 1) = false := by simp; omega
    have hn2 : n = 2 ∨ n = 3 ∨ n = 4 := by omega
    go_enter Tryd.func23, Tryd.ntmps23
    go_wp2_with fail
    refine (H1.out _).mono ?_
    rintro e w1 ⟨rfl, hb1⟩
    go_wp2_with fail
    go_loopw [0, 4, 5] (fun rr oo ii wr => ∃ (j x : Nat) (v : Value), rr = .int .i64 x ∧ v = oo ∧ ii = .int .i64 (j + 1 : Nat) ∧ x = r / 64 ^ j ∧ j < n ∧ wr.ownsRow w.heap.size 5 1 v (U8.conts r j).length (nbCells (U8.conts r j)) ∧ Below w.heap.size w wr) (fun _ _ ii _ => n - (intOf ii).toNat)
    case atStart => exact ⟨0, r, _, rfl, rfl, rfl, by simp, by omega, World.ownsRow_nil _ _ _ _, hb1⟩
    case round =>
      obtain ⟨j, x, v, rfl, rfl, rfl, hx, hj, hown, hb⟩ := hrel
      have hxr : x ≤ 1114111 := by rw [hx]; exact Nat.le_trans (Nat.div_le_self _ _) HR.out
      have HX := Lib.hid hx; have HO := Lib.hid hown
      have hsz := hb.size
      have hlen := U8.conts_len r j
      have HSZ := Lib.hid (show ∀ o, w.heap.size ≤ (wr.alloc o).heap.size by intro o; simp; omega)
      clear hx hown
      by_cases hj2 : j + 1 < n
      · obtain ⟨y, x2, z, hrem, hquo, hquo2, hv1, hv2, hw64, hzy, hx2⟩ := enc_facts x hxr
        have hx2e : x2 = r / 64 ^ (j + 1) := by rw [hx2, HX.out, Nat.div_div_eq_div_mul, Nat.pow_succ]
        have hcons : U8.conts r (j + 1) = z :: U8.conts r j := by rw [U8.conts, ← HX.out, hzy]
        have HC := Lib.hid hcons; have HX2 := Lib.hid hx2e
        have hjI : (j : Int) + 1 < (n : Int) := by omega
        clear hcons hx2e hzy hx2 hxr
        go_wp2_with (at_builtin; refine wpList_push _ rfl (.tmp 22) (.tmp 23) rfl w.heap.size wr.heap.size z v (U8.conts r j) rfl (heap_new _ _) hsz rfl (HO.out.alloc _) (by omega) ?_; intro v2 w2 ho2 hg2)
        go_roundw
        case rel => exact ⟨j + 1, x2, v2, by rw [hw64], rfl, by go_num, HX2.out, hj2, by rw [HC.out]; exact ho2.out, (hb.alloc hsz _).grown hg2.out (HSZ.out _) (fun k hk => by cases hk; exact hsz)⟩
        case measure => simp [intOf]; omega
      · obtain rfl : j = n - 1 := by omega
        have hxm : x < 256 - U8.mark n ∧ x < 64 := by rw [HX.out]; exact HTOP.out (by rcases U8.esize_cases r with h | h | h | h <;> (have := HN.out; have := HR.out; omega))
        obtain ⟨q, hq⟩ : ∃ q, q = U8.mark n := ⟨_, rfl⟩
        rw [← hq] at hxm
        obtain ⟨z, hz⟩ : ∃ z, z = q + x := ⟨_, rfl⟩
        have hqz : z < 256 := by rcases hn2 with rfl | rfl | rfl <;> simp [U8.mark] at hq <;> omega
        have hv2 := (wu8 z hqz).2
        have hv1 : wrap64 ((q : Int) + (x : Int)) = (z : Int) := by rw [hz]; exact w64 (q + x) (by omega)
        have hcell : ∀ W : World, (W.alloc (.cells #[.int .i64 0, .int .i64 0, .int .i64 192, .int .i64 224, .int .i64 240] 3)).cell? ⟨W.heap.size, n, none⟩ = some (.int .i64 q) := by
          intro W
          rcases hn2 with rfl | rfl | rfl <;> (subst hq; simp [U8.mark])
        have hcell2 := hcell wr
        have hres : l = z :: U8.conts r (n - 1) := by rw [HL.out, U8.enc, ← HN.out, if_neg h0, ← HX.out, ← hq, ← hz]
        have HRES := Lib.hid hres
        have hn5 : (n : Int) < 5 := by omega
        have hjI : ¬ ((n - 1 : Nat) : Int) + 1 < (n : Int) := by omega
        have HSZ2 := Lib.hid (show ∀ o o2, w.heap.size ≤ ((wr.alloc o).alloc o2).heap.size by intro o o2; simp; omega)
        have HSZ3 := Lib.hid (show ∀ o, w.heap.size ≤ (wr.alloc o).heap.size by intro o; simp; omega)
        clear hq hres hz hxm hqz hcell hxr hj2 h0 hn2
        go_wp2_with (at_builtin; refine wpList_push _ rfl (.tmp 34) (.tmp 35) rfl w.heap.size (wr.heap.size + 1) z v (U8.conts r (n - 1)) rfl (heap_new2 _ _ _) (Nat.le_succ_of_le hsz) rfl ((HO.out.alloc _).alloc _) (by omega) ?_; intro v2 w2 ho2 hg2)
        go_ret
        refine ⟨v2, rfl, by rw [HRES.out]; exact ho2.out, ((hb.alloc hsz _).alloc (HSZ3.out _) _).grown hg2.out (HSZ2.out _ _) (fun k hk => by cases hk; exact Nat.le_succ_of_le hsz)⟩
end Go.Proofs.YtbjhomihmlijiaaDoor
