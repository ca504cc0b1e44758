/- The reference's Unhex, as it is cut here. -/
import Derived.Test.YtpkbceelbppleaaDoorUnhex
import Derived.Test.YtpkbceelbppleaaDoorRefHex
namespace Asc
def digB (c : UInt8) : Bool := decide (48 ≤ c.toNat) && decide (c.toNat ≤ 57)
end Asc
namespace Go.Proofs.YtpkbceelbppleaaDoor
open Go.RowKit

theorem ret_bool {a b : Bool} (h : a = b) : Ending.returned (.bool a) = .returned (.bool b) := by rw [h]
theorem ret_int {a b : Int} (h : a = b) : Ending.returned (.int .i64 a) = .returned (.int .i64 b) := by rw [h]
theorem digB_bd (c : UInt8) (h : Asc.digB c = true) : 48 ≤ c.toNat ∧ c.toNat ≤ 57 := by simpa [Asc.digB] using h
theorem refDigit_any (c : UInt8) (w : World) : Calls Tryd.prog 45 #[.int .u8 c.toNat] w fun e w' => e = .returned (.bool (Asc.digB c)) ∧ w = w' := by
  by_cases h1 : (48 : Int) ≤ (c.toNat : Int)
  all_goals
    go_enter Tryd.func45, Tryd.ntmps45
    go_wp2
    go_ret
    exact ⟨ret_bool (by unfold Asc.digB; rw [Bool.eq_iff_iff]; simp; omega), rfl⟩


theorem nibble_any (c : UInt8) (w : World) : Calls Tryd.prog 37 #[.int .u8 c.toNat] w fun e w' => e = .returned (.int .i64 (Asc.nib c)) ∧ w = w' := by
  have hd := fun w => refDigit_any c w
  have hc := c.toNat_lt
  obtain ⟨a, ha⟩ : ∃ a, Asc.nib c = a := ⟨_, rfl⟩
  rw [ha]
  unfold Asc.nib at ha
  cases hg : Asc.digB c with
  | true =>
    rw [hg] at hd
    have h1 := digB_bd c hg
    rw [if_pos h1] at ha
    have HD := Lib.hid hd; have HA := Lib.hid ha
    have b1 : (48 : Int) ≤ (c.toNat : Int) := by omega
    have b2 : (c.toNat : Int) ≤ 57 := by omega
    clear hd ha hg h1
    go_enter Tryd.func37, Tryd.ntmps37
    go_wp2_with (go_at_call 45; refine (HD.out _).mono ?_; rintro e w' ⟨rfl, rfl⟩)
    go_ret
    exact ⟨ret_int HA.out, rfl⟩
  | false =>
    rw [hg] at hd
    have h1 : ¬ (48 ≤ c.toNat ∧ c.toNat ≤ 57) := by intro h; have : Asc.digB c = true := by simpa [Asc.digB] using h
                                                    rw [hg] at this; cases this
    rw [if_neg h1] at ha
    have HD := Lib.hid hd
    by_cases h2 : 97 ≤ c.toNat
    · by_cases h3 : c.toNat ≤ 102
      · rw [if_pos ⟨h2, h3⟩] at ha
        have HA := Lib.hid ha
        have b1 : (97 : Int) ≤ (c.toNat : Int) := by omega
        have b2 : (c.toNat : Int) ≤ 102 := by omega
        clear hd ha hg h1
        go_enter Tryd.func37, Tryd.ntmps37
        go_wp2_with (go_at_call 45; refine (HD.out _).mono ?_; rintro e w' ⟨rfl, rfl⟩)
        go_ret
        exact ⟨ret_int HA.out, rfl⟩
      · rw [if_neg (fun h => h3 h.2)] at ha
        have HA := Lib.hid ha
        have b1 : (97 : Int) ≤ (c.toNat : Int) := by omega
        have b2 : ¬ (c.toNat : Int) ≤ 102 := by omega
        clear hd ha hg h1
        go_enter Tryd.func37, Tryd.ntmps37
        go_wp2_with (go_at_call 45; refine (HD.out _).mono ?_; rintro e w' ⟨rfl, rfl⟩)
        go_ret
        exact ⟨ret_int HA.out, rfl⟩
    · rw [if_neg (fun h => h2 h.1)] at ha
      have HA := Lib.hid ha
      have b1 : ¬ (97 : Int) ≤ (c.toNat : Int) := by omega
      clear hd ha hg h1
      go_enter Tryd.func37, Tryd.ntmps37
      go_wp2_with (go_at_call 45; refine (HD.out _).mono ?_; rintro e w' ⟨rfl, rfl⟩)
      go_ret
      exact ⟨ret_int HA.out, rfl⟩

theorem nibble_same (c : UInt8) (w : World) : Calls Tryd.prog 37 #[.int .u8 c.toNat] w fun e w' => e = .returned (.int .i64 (Asc.nib c)) ∧ w' = w :=
  (nibble_any c w).mono fun _ _ h => ⟨h.1, h.2.symm⟩

theorem wpList_append_byte (w : World) {ops : Array Oper} {rest : List Oper} {o : Oper} {a : Act} {Q : Exit → Act → World → Prop} (hgd : o.guard = none) (s x : Operand)
    (ho : o.op = .call { callee := .builtin .append, args := #[s, x], argTypes := #[22, 22] })
    (base : Nat) (v : Value) (xs : List UInt8) (hs : a.eval s = v) (hown : w.ownsRow base 5 1 v xs.length (Lib.byteCells xs)) (ad : Addr) (m c : Nat) (ys : List UInt8) (hm : ys.length = m) (hx : a.eval x = .slice (some ad) m c) (hc : ∀ j u, (Lib.byteCells ys)[j]? = some u → w.cell? (ad.add j) = some u)
    (hn : xs.length + m ≤ 1000000000) (hbase : base ≤ w.heap.size)
    (h : ∀ v' w', Hid (w'.ownsRow base 5 1 v' (xs ++ ys).length (Lib.byteCells (xs ++ ys))) → Hid (w.grownBy w' v.ownBlock) → wpList Tryd.prog ops Q rest (a.put o.dst v') w') : wpList Tryd.prog ops Q (o :: rest) a w := by
  obtain ⟨i0, hi, hz0, hz1, hz2⟩ := info_parts infoU8
  refine wpList_append_own _ hgd s x 22 ho base 5 i0 (.int .u8 0) 1 1 Tryd.underlying22 hi hz0 hz1 hz2 rfl (by decide) v xs.length (Lib.byteCells xs) hs hown ad m c (Lib.byteCells ys) hx (by rw [Lib.byteCells_length]; omega) hc (fun u hu => ?_) (by unfold maxLen; omega) (by omega) hbase
    (fun v' w' h2 h3 _ => h v' w' (Lib.hid (by rw [List.length_append, Lib.byteCells_append, hm]; exact h2)) (Lib.hid h3))
  simp only [Lib.byteCells, List.mem_map] at hu
  obtain ⟨z, _, rfl⟩ := hu
  rfl

theorem row_bytes8 {W : World} {base : Nat} {v : Value} {l : List Nat} (h : W.ownsRow base 5 1 v (l.map UInt8.ofNat).length (Lib.byteCells (l.map UInt8.ofNat))) (hp : ∀ x ∈ l, x < 256) : Bytes W v l := by
  rcases h.2 with ⟨rfl, h0⟩ | ⟨g, cap, cur, rfl, hg, hh, hn, hm, hs, ht⟩
  · have : l = [] := by simpa using h0
    subst this
    exact Bytes.nil W
  · have hlen : (l.map UInt8.ofNat).length = l.length := by simp
    refine ⟨hp, some ⟨g, 0, none⟩, cap, by rw [hlen], by omega, hm, (fun h => by cases h), fun i hi => ⟨g, 0, rfl, ?_⟩⟩
    have h2 : l[i] < 256 := hp _ (List.getElem_mem hi)
    have hc := h.cells (g := g) rfl i (.int .u8 (l[i] : Int)) (by
      simp [Lib.byteCells, List.getElem?_eq_getElem hi]; omega)
    have : (⟨g, 0, none⟩ : Addr).add i = ⟨g, i, none⟩ := by unfold Addr.add; split <;> simp_all
    rw [this] at hc
    rw [Nat.zero_add, hc, List.getD_eq_getElem?_getD, List.getElem?_eq_getElem hi]
    rfl

set_option maxRecDepth 20000 in
set_option maxHeartbeats 1000000 in
theorem refUnhex_any (s : ByteArray) (w : World) (hs : s.size ≤ 1000) :
    Calls Tryd.prog 25 #[.string s] w (UhPost .i64 (Asc.unhexL s.data.toList) w) := by
  have hsI : (s.size : Int) ≤ 1000 := by omega
  by_cases hodd : s.size % 2 = 1
  · have g : ((s.size : Int) % 2 == 1) = true := by simp; omega
    rw [unhex_odd _ (by rw [size_toList]; exact hodd)]
    clear hodd
    go_enter Tryd.func25, Tryd.ntmps25
    go_wp2_with fail
    go_ret2
    exact UhPost.none_mk rfl (Below.refl _ _)
  · have g : ((s.size : Int) % 2 == 1) = false := by simp; omega
    obtain ⟨n, hn⟩ : ∃ n, n = s.size / 2 := ⟨_, rfl⟩
    have hn2 : s.size = 2 * n := by omega
    have HN := Lib.hid hn2
    have hn3 : (n : Int) ≤ 1000 := by omega
    have hn4 : (s.size : Int) ≤ 2 * (n : Int) := by omega
    have hn5 : 2 * (n : Int) ≤ (s.size : Int) := by omega
    clear hodd hn hn2
    go_enter Tryd.func25, Tryd.ntmps25
    go_wp2_with fail
    go_loopw [4, 5] (fun o i wr => ∃ (k : Nat) (pre : List Nat) (v : Value), v = o ∧ i = .int .i64 (2 * (k : Int)) ∧ k ≤ n ∧ pre.length = k ∧ (∀ x ∈ pre, x < 256) ∧ Asc.unhexL s.data.toList = (Asc.unhexL (s.data.toList.drop (2 * k))).map (pre ++ ·) ∧ wr.ownsRow w.heap.size 5 1 v (pre.map UInt8.ofNat).length (Lib.byteCells (pre.map UInt8.ofNat)) ∧ Below w.heap.size w wr) (fun _ i _ => 2 * n - (intOf i).toNat)
    case atStart => exact ⟨0, [], _, rfl, rfl, Nat.zero_le _, rfl, by simp, by simp, World.ownsRow_nil _ _ _ _, Below.refl _ _⟩
    case round =>
      obtain ⟨k, pre, v, rfl, rfl, hk, hpl, hpb, huh, hr, hb⟩ := hrel
      have HUH := Lib.hid huh; have HPB := Lib.hid hpb; have HPL := Lib.hid hpl; have HR := Lib.hid hr
      clear huh hpb hpl hr
      by_cases hlt : k < n
      · have p1 : 2 * k < s.size := by have := HN.out; omega
        have p2 : 2 * k + 1 < s.size := by have := HN.out; omega
        obtain ⟨x, hx⟩ : ∃ x, s[2 * k] = x := ⟨_, rfl⟩
        obtain ⟨y, hy⟩ : ∃ y, s[2 * k + 1] = y := ⟨_, rfl⟩
        have hst := unhex_step s.data.toList k (by rw [size_toList]; exact p2)
        rw [get_toList s (2 * k) p1, get_toList s (2 * k + 1) p2, hx, hy] at hst
        have hw1 : IntKind.i64.wrap (2 * (k : Int) + 1) = 2 * (k : Int) + 1 := IntWalk.i64_in _ (by omega)
        have t1 : (2 * (k : Int) + 1).toNat = 2 * k + 1 := by omega
        have t2 : (2 * (k : Int)).toNat = 2 * k := by omega
        have i1 : 0 ≤ 2 * (k : Int) ∧ 2 * (k : Int) < (s.size : Int) := by omega
        have i2 : 0 ≤ 2 * (k : Int) + 1 ∧ 2 * (k : Int) + 1 < (s.size : Int) := by omega
        have ra := Asc.nib_range x
        have rb := Asc.nib_range y
        have HST := Lib.hid hst
        clear hst
        go_wp2_with fail
        go_quiet ((go_at_call 37; exact Calls.quiet_of_same (nibble_same _ _)))
        have hrd : Hid ((wr.drewN nq).ownsRow w.heap.size 5 1 v (pre.map UInt8.ofNat).length (Lib.byteCells (pre.map UInt8.ofNat))) := HR.out
        have hbd : Below w.heap.size w (wr.drewN nq) := ⟨hb.os, hb.tape, hb.output, hb.size, hb.block⟩
        generalize wr.drewN nq = W3 at hrd hbd ⊢
        generalize Asc.nib x = a at *
        generalize Asc.nib y = b at *
        clear hw1 t1 t2
        by_cases ha0 : a < 0
        · have hres : Asc.unhexL s.data.toList = none := by rw [HUH.out, HST.out, if_pos (.inl ha0)]; rfl
          have HRES := Lib.hid hres
          clear hres
          go_wp2_with fail
          go_ret2
          rw [HRES.out]
          exact UhPost.none_mk rfl hbd
        · have ha1 : 0 ≤ a := by omega
          by_cases hb0 : b < 0
          · have hres : Asc.unhexL s.data.toList = none := by rw [HUH.out, HST.out, if_pos (.inr hb0)]; rfl
            have HRES := Lib.hid hres
            clear hres ha0
            go_wp2_with fail
            go_ret2
            rw [HRES.out]
            exact UhPost.none_mk rfl hbd
          · have hb1 : 0 ≤ b := by omega
            obtain ⟨z, hz⟩ : ∃ z : Nat, z = 16 * a.toNat + b.toNat := ⟨_, rfl⟩
            have hst := HST.out
            rw [if_neg (by omega), ← hz] at hst
            have hres : Asc.unhexL s.data.toList = (Asc.unhexL (s.data.toList.drop (2 * (k + 1)))).map ((pre ++ [z]) ++ ·) := by
              rw [HUH.out, hst, Option.map_map]
              congr 1
              funext t
              simp
            have hzb := byte_of a b ⟨ha1, ra.2⟩ ⟨hb1, rb.2⟩
            rw [← hz] at hzb
            have hpb2 : ∀ x ∈ pre ++ [z], x < 256 := by
              intro x hx
              simp only [List.mem_append, List.mem_cons, List.not_mem_nil, or_false] at hx
              rcases hx with hx | rfl
              · exact HPB.out x hx
              · omega
            have hlen : (pre ++ [z]).length = k + 1 := by simp; exact HPL.out
            have hnews := news_ok W3 (Lib.byteCells [UInt8.ofNat z]) 5
            have hcl : Lib.byteCells [UInt8.ofNat z] = [Value.int .u8 (16 * a + b)] := by simp only [Lib.byteCells, List.map_cons, List.map_nil, hzb]
            have hnews2 : ∀ j u, (Lib.byteCells [UInt8.ofNat z])[j]? = some u → (W3.alloc (.cells #[.int .u8 (16 * a + b)] 5)).cell? ((⟨W3.heap.size, 0, none⟩ : Addr).add j) = some u := by
              rw [hcl] at hnews ⊢
              exact hnews
            have hroom : (pre.map UInt8.ofNat).length + 1 ≤ 1000000000 := by have := HPL.out; simp; omega
            have hbase : ∀ o, w.heap.size ≤ (W3.alloc o).heap.size := fun o => by have := hbd.size; simp; omega
            have hmap : (pre ++ [z]).map UInt8.ofNat = pre.map UInt8.ofNat ++ [UInt8.ofNat z] := by simp
            have HRES := Lib.hid hres; have HPB2 := Lib.hid hpb2; have HLEN := Lib.hid hlen; have HNW := Lib.hid hnews2; have HRM := Lib.hid hroom; have HB := Lib.hid hbase; have HMP := Lib.hid hmap
            clear hres ha0 hb0 hst hzb hpb2 hlen hz hnews hcl hnews2 hroom hbase hmap
            go_wp2_with (at_builtin; refine wpList_append_byte _ rfl (.tmp 33) (.tmp 39) rfl w.heap.size v (pre.map UInt8.ofNat) rfl (hrd.out.alloc _) ⟨W3.heap.size, 0, none⟩ 1 1 [UInt8.ofNat z] rfl rfl HNW.out HRM.out (HB.out _) ?_; intro v2 w2 ho2 hg2)
            go_roundw
            case rel => exact ⟨k + 1, pre ++ [z], _, rfl, by go_num, by omega, HLEN.out, HPB2.out, HRES.out, by rw [HMP.out]; exact ho2.out, (hbd.alloc hbd.size _).grown hg2.out (HB.out _) (fun j hj => (hrd.out.lt j hj).1)⟩
            case measure => simp [intOf]; omega
      · have hkn : k = n := by omega
        have huh := HUH.out
        rw [hkn, List.drop_eq_nil_of_le (by rw [size_toList]; have := HN.out; omega)] at huh
        have hres : Asc.unhexL s.data.toList = some pre := by rw [huh]; simp [Asc.unhexL]
        have hby := row_bytes8 HR.out HPB.out
        have HRES := Lib.hid hres; have HBY := Lib.hid hby
        have hge : ¬ 2 * (k : Int) < (s.size : Int) := by omega
        clear hres hby huh hkn
        go_wp2_with fail
        go_ret2
        rw [HRES.out]
        exact UhPost.some_mk _ rfl HBY.out hb
end Go.Proofs.YtpkbceelbppleaaDoor
