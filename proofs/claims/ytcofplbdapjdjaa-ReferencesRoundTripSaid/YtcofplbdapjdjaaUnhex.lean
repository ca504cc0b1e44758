/- ascii.Unhex, as it is cut here. -/
import Derived.Test.YtcofplbdapjdjaaHex
import Derived.Deep.OwnRows
namespace Go.Proofs.Ytcofplbdapjdjaa
open Go.RowKit

theorem size_toList (s : ByteArray) : s.data.toList.length = s.size := by simp
theorem get_toList (s : ByteArray) (k : Nat) (h : k < s.size) : s.data.toList[k]'(by rw [size_toList]; exact h) = s[k] := by rfl
/-- block B is a row of the call's own that begins with the bytes l -/
def RowAt (W : World) (B : Nat) (l : List UInt8) : Prop :=
  B < W.heap.size ∧ ∀ i (h : i < l.length), W.cell? ⟨B, i, none⟩ = some (.int .u8 (l[i].toNat : Int)) ∧ W.frozen? ⟨B, i, none⟩ = false

theorem RowAt.drew {W : World} {B : Nat} {l : List UInt8} (h : RowAt W B l) : RowAt W.drew B l := h

theorem RowAt.set {W : World} {B : Nat} {l : List UInt8} (h : RowAt W B l) (k : Nat) (hk : k < l.length) (c : UInt8) : RowAt (W.setCell ⟨B, k, none⟩ (.int .u8 (c.toNat : Int))) B (l.set k c) := by
  have hsz : (W.setCell ⟨B, k, none⟩ (.int .u8 (c.toNat : Int))).heap.size = W.heap.size := by simp
  refine ⟨by rw [hsz]; exact h.1, fun i hi => ?_⟩
  have hi2 : i < l.length := by simpa using hi
  refine ⟨?_, by rw [World.frozen?_setCell]; exact (h.2 i hi2).2⟩
  by_cases e : k = i
  · subst e
    rw [World.cell?_setCell_same _ _ _ (h.2 k hk).1]
    simp
  · rw [World.cell?_setCell_other _ _ _ _ (by intro x; injection x with _ x _; exact e x), (h.2 i hi2).1]
    rw [List.getElem_set_ne e]

theorem RowAt.below {W W' : World} {B n : Nat} {l : List UInt8} (h : RowAt W B l) (hb : Below n W W') (hB : B < n) : RowAt W' B l :=
  ⟨Nat.lt_of_lt_of_le h.1 hb.size, fun i hi => ⟨(hb.cell (p := ⟨B, i, none⟩) hB).trans (h.2 i hi).1, (hb.frozen (p := ⟨B, i, none⟩) hB).trans (h.2 i hi).2⟩⟩


/-- what a call of Unhex ends in -/
def UhPost (k : IntKind) (r : Option (List Nat)) (w : World) (e : Ending) (w' : World) : Prop :=
  match r with
  | none => e = .returned (.tuple #[.slice none 0 0, .int k 3]) ∧ Below w.heap.size w w'
  | some l => ∃ v, e = .returned (.tuple #[v, .int k 0]) ∧ Bytes w' v l ∧ Below w.heap.size w w'

theorem UhPost.none_mk {k : IntKind} {w w' : World} {e : Ending} (he : e = .returned (.tuple #[.slice none 0 0, .int k 3])) (hb : Below w.heap.size w w') : UhPost k none w e w' := ⟨he, hb⟩
theorem UhPost.some_mk {k : IntKind} {w w' : World} {e : Ending} {l : List Nat} (v : Value) (he : e = .returned (.tuple #[v, .int k 0])) (hv : Bytes w' v l) (hb : Below w.heap.size w w') : UhPost k (some l) w e w' := ⟨v, he, hv, hb⟩

theorem unhex_odd : ∀ l : List UInt8, l.length % 2 = 1 → Asc.unhexL l = none
  | [], h => by simp at h
  | [_], _ => rfl
  | a :: b :: r, h => by
    have := unhex_odd r (by simp at h; omega)
    rw [Asc.unhexL, this]; simp

theorem unhex_step (l : List UInt8) (k : Nat) (h : 2 * k + 1 < l.length) : Asc.unhexL (l.drop (2 * k)) = if Asc.nib l[2 * k] < 0 ∨ Asc.nib l[2 * k + 1] < 0 then none else (Asc.unhexL (l.drop (2 * (k + 1)))).map fun t => (16 * (Asc.nib l[2 * k]).toNat + (Asc.nib l[2 * k + 1]).toNat) :: t := by
  rw [List.drop_eq_getElem_cons (show 2 * k < l.length by omega), List.drop_eq_getElem_cons h, Asc.unhexL]
  rfl

theorem make_row (w : World) (n : Nat) (hn : n ≤ 1000000) : ∃ W2, (∀ k, (Instr.makeSlice 89 (.int k (n : Int)) (.int k (n : Int))).run Try.prog w = .ok (.slice (some ⟨w.heap.size, 0, none⟩) n n) W2) ∧ RowAt W2 w.heap.size (List.replicate n 0) ∧ Below w.heap.size w W2 := by
  refine ⟨_, fun k => run_make_row' (P := Try.prog) 89 5 (.int .u8 0) 1 Try.underlying89 infoU8 rfl k k n (by omega) (by omega) w, ⟨by simp, fun i hi => ?_⟩, (Below.refl _ w).alloc (Nat.le_refl _) _⟩
  have hi2 : i < n := by simpa using hi
  constructor
  · rw [World.cell?_alloc_new]
    simp [madeCells, hi2, Nat.mod_one]
  · simp

/-- a row with its first places written -/
theorem RowAt.bytes {W : World} {B n : Nat} {pre : List Nat} {c : List UInt8} (h : RowAt W B c) (hc : c = pre.map UInt8.ofNat) (hp : ∀ x ∈ pre, x < 256) (hn : pre.length = n) (hm : n ≤ maxLen) : Bytes W (.slice (some ⟨B, 0, none⟩) n n) pre := by
  subst hn
  refine ⟨hp, some ⟨B, 0, none⟩, pre.length, rfl, Nat.le_refl _, hm, (fun h => by cases h), fun i hi => ⟨B, 0, rfl, ?_⟩⟩
  subst hc
  have h1 := (h.2 i (by simpa using hi)).1
  have h2 : pre[i] < 256 := hp _ (List.getElem_mem hi)
  rw [Nat.zero_add, h1, List.getD_eq_getElem?_getD, List.getElem?_eq_getElem hi]
  simp
  omega

theorem nib_ba (c : UInt8) : Lib.indexByte (⟨#[48, 49, 50, 51, 52, 53, 54, 55, 56, 57, 97, 98, 99, 100, 101, 102]⟩ : ByteArray).data.toList (c.toNat : Int).toNat.toUInt8 = Asc.nib c := by
  rw [← Asc.nib_index c]
  congr 1
  simp

theorem idx_any (c : UInt8) (a : Int) (ha : Asc.nib c = a) (w : World) : Calls Try.prog 70 #[.string ⟨#[48, 49, 50, 51, 52, 53, 54, 55, 56, 57, 97, 98, 99, 100, 101, 102]⟩, .int .u8 (c.toNat : Int)] w fun e w' => e = .returned (.int .i64 a) ∧ w = w' := by
  refine (Try.strings_IndexByte _ _ _).mono ?_
  rintro e w' ⟨rfl, rfl⟩
  exact ⟨by rw [nib_ba, ha], rfl⟩

theorem byte_of (a b : Int) (ha : 0 ≤ a ∧ a ≤ 15) (hb : 0 ≤ b ∧ b ≤ 15) : ((UInt8.ofNat (16 * a.toNat + b.toNat)).toNat : Int) = 16 * a + b := by
  rw [UInt8.toNat_ofNat']; omega

set_option maxRecDepth 20000 in
set_option maxHeartbeats 1000000 in
theorem unhex_any (s : ByteArray) (w : World) (hs : s.size ≤ 100000) :
    Calls Try.prog 59 #[.string s] w (UhPost .i64 (Asc.unhexL s.data.toList) w) := by
  have hsI : (s.size : Int) ≤ 100000 := by omega
  by_cases hodd : s.size % 2 = 1
  · have g : ((s.size : Int) % 2 != 0) = true := by simp; omega
    rw [unhex_odd _ (by rw [size_toList]; exact hodd)]
    clear hodd
    go_enter Try.func59, Try.ntmps59
    go_wp2_with fail
    go_ret2
    exact UhPost.none_mk rfl (Below.refl _ _)
  · have g : ((s.size : Int) % 2 != 0) = false := by simp; omega
    obtain ⟨n, hn⟩ : ∃ n, n = s.size / 2 := ⟨_, rfl⟩
    have hnI : (s.size : Int) / 2 = (n : Int) := by omega
    have hn2 : s.size = 2 * n := by omega
    obtain ⟨W2, hmk, hrow, hbel⟩ := make_row w n (by omega)
    have HMK := Lib.hid hmk
    have hmk1 := hmk .i64
    have HN := Lib.hid hn2
    have hn3 : (n : Int) ≤ 100000 := by omega
    clear hmk hodd hn hn2
    go_enter Try.func59, Try.ntmps59
    go_wp2_with fail
    go_loopw [18] (fun i wr => ∃ (k : Nat) (pre : List Nat), i = .int .i64 k ∧ k ≤ n ∧ pre.length = k ∧ (∀ x ∈ pre, x < 256) ∧ Asc.unhexL s.data.toList = (Asc.unhexL (s.data.toList.drop (2 * k))).map (pre ++ ·) ∧ RowAt wr w.heap.size (pre.map UInt8.ofNat ++ List.replicate (n - k) 0) ∧ Below w.heap.size w wr) (fun i _ => n - (intOf i).toNat)
    case atStart => exact ⟨0, [], rfl, Nat.zero_le _, rfl, by simp, by simp, by simpa using hrow, hbel⟩
    case round =>
      clear hmk1 hrow hbel
      obtain ⟨k, pre, rfl, hk, hpl, hpb, huh, hr, hb⟩ := hrel
      have HUH := Lib.hid huh; have HPB := Lib.hid hpb; have HPL := Lib.hid hpl; have HR := Lib.hid hr
      clear huh hpb hpl hr
      by_cases hlt : k < n
      · have p1 : 2 * k < s.size := by have := HN.out; omega
        have p2 : 2 * k + 1 < s.size := by have := HN.out; omega
        obtain ⟨x, hx⟩ : ∃ x, s[2 * k] = x := ⟨_, rfl⟩
        obtain ⟨y, hy⟩ : ∃ y, s[2 * k + 1] = y := ⟨_, rfl⟩
        have hst := unhex_step s.data.toList k (by rw [size_toList]; exact p2)
        rw [get_toList s (2 * k) p1, get_toList s (2 * k + 1) p2, hx, hy] at hst
        obtain ⟨a, ha⟩ : ∃ a, Asc.nib x = a := ⟨_, rfl⟩
        obtain ⟨b, hb'⟩ : ∃ b, Asc.nib y = b := ⟨_, rfl⟩
        have ra := Asc.nib_range x
        have rb := Asc.nib_range y
        have h1 := fun w => idx_any x a ha w
        have h2 := fun w => idx_any y b hb' w
        rw [ha, hb'] at hst
        rw [ha] at ra
        rw [hb'] at rb
        have HST := Lib.hid hst; have H1 := Lib.hid h1; have H2 := Lib.hid h2
        have hI1 : 2 * (k : Int) + 1 < (s.size : Int) := by omega
        clear hst h1 h2 ha hb'
        by_cases ha0 : a < 0
        · have hres : Asc.unhexL s.data.toList = none := by rw [HUH.out, HST.out, if_pos (.inl ha0)]; rfl
          have HRES := Lib.hid hres
          clear hres
          go_wp2_with fail
          refine (H1.out _).mono ?_
          rintro e w1 ⟨rfl, rfl⟩
          go_wp2_with fail
          refine (H2.out _).mono ?_
          rintro e w1 ⟨rfl, rfl⟩
          go_wp2_with fail
          go_ret2
          rw [HRES.out]
          exact UhPost.none_mk rfl hb
        · by_cases hb0 : b < 0
          · have hres : Asc.unhexL s.data.toList = none := by rw [HUH.out, HST.out, if_pos (.inr hb0)]; rfl
            have HRES := Lib.hid hres
            have ha1 : 0 ≤ a := by omega
            clear hres ha0
            go_wp2_with fail
            refine (H1.out _).mono ?_
            rintro e w1 ⟨rfl, rfl⟩
            go_wp2_with fail
            refine (H2.out _).mono ?_
            rintro e w1 ⟨rfl, rfl⟩
            go_wp2_with fail
            go_ret2
            rw [HRES.out]
            exact UhPost.none_mk rfl hb
          · have ha1 : 0 ≤ a := by omega
            have hb1 : 0 ≤ b := by omega
            obtain ⟨z, hz⟩ : ∃ z : Nat, z = 16 * a.toNat + b.toNat := ⟨_, rfl⟩
            have hst := HST.out
            rw [if_neg (by omega), ← hz] at hst
            have hres : Asc.unhexL s.data.toList = (Asc.unhexL (s.data.toList.drop (2 * (k + 1)))).map ((pre ++ [z]) ++ ·) := by
              rw [HUH.out, hst, Option.map_map]
              congr 1
              funext t
              simp
            have hzb := byte_of a b ⟨ha1, ra.2⟩ ⟨hb1, rb.2⟩
            rw [← hz] at hzb
            have hset := HR.out.set k (by have := HPL.out; simp; omega) (UInt8.ofNat z)
            have hlist : (pre.map UInt8.ofNat ++ List.replicate (n - k) 0).set k (UInt8.ofNat z) = (pre ++ [z]).map UInt8.ofNat ++ List.replicate (n - (k + 1)) 0 := by
              have hp := HPL.out
              rw [List.set_append_right _ _ (by simp; omega), List.length_map, hp, Nat.sub_self, show n - k = (n - (k + 1)) + 1 by omega, List.replicate_succ]
              simp
            rw [hlist, hzb] at hset
            have hf := (HR.out.2 k (by have := HPL.out; simp; omega)).2
            obtain ⟨cc, hcc⟩ : ∃ u, wr.cell? ⟨w.heap.size, k, none⟩ = some u := ⟨_, (HR.out.2 k (by have := HPL.out; simp; omega)).1⟩
            have hsh : Op.shift .shl .i64 a .u64 4 = pure (.int .i64 (16 * a)) := by
              rw [shift_shl_any _ _ _ _ (by decide)]
              have : IntKind.i64.wrap (a * 2 ^ min (4 : Int).toNat IntKind.i64.bits) = 16 * a := by
                show IntKind.i64.wrap (a * 16) = _
                rw [IntWalk.i64_in _ (by omega)]; omega
              rw [this]
            have hor : bits .or .i64 (16 * a) b = 16 * a + b := by
              obtain ⟨a', rfl⟩ : ∃ a' : Nat, a = (a' : Int) := ⟨a.toNat, by omega⟩
              obtain ⟨b', rfl⟩ : ∃ b' : Nat, b = (b' : Int) := ⟨b.toNat, by omega⟩
              have h3 : bits .or .i64 ((a' * 16 : Nat) : Int) (b' : Int) = (((a' * 16) ||| b' : Nat) : Int) := by
                have hx : (a' * 16) ||| b' < 2 ^ 63 := Nat.or_lt_two_pow (by omega) (by omega)
                show IntKind.i64.wrap ((BitVec.ofInt 64 ((a' * 16 : Nat) : Int) ||| BitVec.ofInt 64 (b' : Int)).toNat : Int) = _
                rw [BitVec.toNat_or, ofInt_u64 _ (by omega), ofInt_u64 b' (by omega), IntKind.wrap_i64]
                omega
              rw [nat_join 4 (a' * 16) b' (by omega) (by omega)] at h3
              rw [show 16 * (a' : Int) = ((a' * 16 : Nat) : Int) by omega, h3]
              omega
            have hpb2 : ∀ x ∈ pre ++ [z], x < 256 := by
              intro x hx
              simp only [List.mem_append, List.mem_cons, List.not_mem_nil, or_false] at hx
              rcases hx with hx | rfl
              · exact HPB.out x hx
              · omega
            have hle : (k : Int) < (n : Int) := by omega
            have hlen : (pre ++ [z]).length = k + 1 := by simp; exact HPL.out
            have HRES := Lib.hid hres; have HSET := Lib.hid hset; have HPB2 := Lib.hid hpb2; have HLEN := Lib.hid hlen
            clear hres ha0 hb0 hst hzb hset hlist hpb2 hlen hz
            go_wp2_with fail
            refine (H1.out _).mono ?_
            rintro e w1 ⟨rfl, rfl⟩
            go_wp2_with fail
            refine (H2.out _).mono ?_
            rintro e w1 ⟨rfl, rfl⟩
            go_wp2_with fail
            go_roundw
            case rel => exact ⟨k + 1, pre ++ [z], by go_num, by omega, HLEN.out, HPB2.out, HRES.out, HSET.out, hb.setCell (Nat.le_refl _) _⟩
            case measure => simp [intOf]; omega
      · have hkn : k = n := by omega
        have huh := HUH.out
        rw [hkn, List.drop_eq_nil_of_le (by rw [size_toList]; have := HN.out; omega)] at huh
        have hres : Asc.unhexL s.data.toList = some pre := by rw [huh]; simp [Asc.unhexL]
        have hr := HR.out
        rw [hkn, Nat.sub_self] at hr
        have hby := RowAt.bytes hr (by simp) HPB.out (HPL.out.trans hkn) (by unfold maxLen; omega)
        have HRES := Lib.hid hres; have HBY := Lib.hid hby
        clear hres hby hr huh hkn
        go_wp2_with fail
        go_ret2
        rw [HRES.out]
        exact UhPost.some_mk _ rfl HBY.out hb
end Go.Proofs.Ytcofplbdapjdjaa
