/- Plain mathematics of hexadecimal texts (the last part of layer 1's PlainB). No program. -/
import Derived.Lib.Index
import Derived.Lib.Join
namespace Asc
/-! ### hexadecimal -/
def hexS : List UInt8 := [48, 49, 50, 51, 52, 53, 54, 55, 56, 57, 97, 98, 99, 100, 101, 102]
def hc (n : Nat) : UInt8 := hexS.getD n 0
def hexL (l : List Nat) : List UInt8 := l.flatMap fun c => [hc (c / 16), hc (c % 16)]

/-- the value of a character, or -1 -/
def nib (c : UInt8) : Int := if 48 ≤ c.toNat ∧ c.toNat ≤ 57 then (c.toNat : Int) - 48 else if 97 ≤ c.toNat ∧ c.toNat ≤ 102 then (c.toNat : Int) - 87 else -1

theorem nib_index : ∀ c : UInt8, Go.Lib.indexByte hexS c = nib c := by
  intro c
  have : ∀ k : Fin 256, Go.Lib.indexByte hexS (UInt8.ofNat k.val) = nib (UInt8.ofNat k.val) := by decide +kernel
  have h := this ⟨c.toNat, c.toNat_lt⟩
  simpa using h

theorem nib_range (c : UInt8) : -1 ≤ nib c ∧ nib c ≤ 15 := by
  unfold nib
  split
  · omega
  · split <;> omega

theorem nib_hc : ∀ n : Fin 16, nib (hc n.val) = (n.val : Int) := by decide +kernel
theorem hc_nib (c : UInt8) (h : 0 ≤ nib c) : hc (nib c).toNat = c := by
  have : ∀ k : Fin 256, 0 ≤ nib (UInt8.ofNat k.val) → hc (nib (UInt8.ofNat k.val)).toNat = UInt8.ofNat k.val := by decide +kernel
  have h2 := this ⟨c.toNat, c.toNat_lt⟩ (by simpa using h)
  simpa using h2

/-- the bytes of a hexadecimal text of even length, or none -/
def unhexL : List UInt8 → Option (List Nat)
  | a :: b :: r => if nib a < 0 ∨ nib b < 0 then none else (unhexL r).map fun t => (16 * (nib a).toNat + (nib b).toNat) :: t
  | [_] => none
  | [] => some []

theorem unhex_hex : ∀ (l : List Nat), (∀ x ∈ l, x < 256) → unhexL (hexL l) = some l
  | [], _ => rfl
  | c :: l, h => by
    have hcl := h c (by simp)
    have e : hexL (c :: l) = hc (c / 16) :: hc (c % 16) :: hexL l := by simp [hexL]
    have n1 := nib_hc ⟨c / 16, by omega⟩
    have n2 := nib_hc ⟨c % 16, by omega⟩
    simp only at n1 n2
    rw [e, unhexL, n1, n2, if_neg (by omega), unhex_hex l (fun x hx => h x (by simp [hx]))]
    simp
    omega

theorem hex_unhex : ∀ (s : List UInt8) (l : List Nat), unhexL s = some l → hexL l = s ∧ (∀ x ∈ l, x < 256) ∧ s.length = 2 * l.length
  | [], l, h => by simp [unhexL] at h; subst h; simp [hexL]
  | [_], l, h => by simp [unhexL] at h
  | a :: b :: r, l, h => by
    rw [unhexL] at h
    split at h
    · cases h
    · rename_i hn
      cases hr : unhexL r with
      | none => rw [hr] at h; cases h
      | some t =>
        rw [hr] at h
        simp only [Option.map_some, Option.some.injEq] at h
        subst h
        obtain ⟨h1, h2, h3⟩ := hex_unhex r t hr
        have ra := nib_range a
        have rb := nib_range b
        have ha : 0 ≤ nib a := by omega
        have hb : 0 ≤ nib b := by omega
        have d1 : (16 * (nib a).toNat + (nib b).toNat) / 16 = (nib a).toNat := by omega
        have d2 : (16 * (nib a).toNat + (nib b).toNat) % 16 = (nib b).toNat := by omega
        refine ⟨?_, ?_, by simp [h3]; omega⟩
        · have e : hexL ((16 * (nib a).toNat + (nib b).toNat) :: t) = hc ((16 * (nib a).toNat + (nib b).toNat) / 16) :: hc ((16 * (nib a).toNat + (nib b).toNat) % 16) :: hexL t := by simp [hexL]
          rw [e, d1, d2, hc_nib a ha, hc_nib b hb, h1]
        · intro x hx
          simp only [List.mem_cons] at hx
          rcases hx with rfl | hx
          · omega
          · exact h2 x hx
end Asc
