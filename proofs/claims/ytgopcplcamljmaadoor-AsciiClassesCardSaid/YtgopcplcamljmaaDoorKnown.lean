/- The examples of the chapter: known answers true, and writes nothing that was there. -/
import Derived.Test.YtgopcplcamljmaaDoorRefUnhex
import Derived.Lib.SlBytesConst
namespace Go.Proofs.YtgopcplcamljmaaDoor
open Go.RowKit

theorem bytes_new (w : World) (l : List Nat) (fr : Nat × Nat) (hb : ∀ x ∈ l, x < 256) (hm : l.length ≤ maxLen) :
    Bytes (w.alloc (.cells (l.map fun (x : Nat) => Value.int .u8 x).toArray 5 fr)) (.slice (some ⟨w.heap.size, 0, none⟩) l.length l.length) l := by
  refine ⟨hb, some ⟨w.heap.size, 0, none⟩, l.length, rfl, Nat.le_refl _, hm, fun i hi => ⟨w.heap.size, 0, rfl, ?_⟩⟩
  rw [World.cell?_alloc_mark]
  simp [List.getElem?_eq_getElem hi]

set_option maxRecDepth 20000 in
set_option maxHeartbeats 2000000 in
theorem known_any (w : World) (hI : Inv w) : Calls Tryd.prog 23 #[] w fun e w' => e = .returned (.bool true) ∧ Below w.heap.size w w' := by
  have h1 := words_strs ⟨#[32, 97, 32, 32, 98, 9]⟩ w (by decide)
  rw [show wordsS ⟨#[32, 97, 32, 32, 98, 9]⟩ = [⟨#[97]⟩, ⟨#[98]⟩] from by decide +kernel] at h1
  have h2 := fun w hI => number_any ⟨#[49, 50, 48]⟩ 120 w hI (by decide) 120 0 (by decide +kernel)
  have h3 := fun w hI => number_any ⟨#[49, 50, 49]⟩ 120 w hI (by decide) 0 2 (by decide +kernel)
  have h4 := fun w hI => number_any ⟨#[48, 48, 55]⟩ 120 w hI (by decide) 0 3 (by decide +kernel)
  have h5 := fun w => unhex_any ⟨#[48, 65]⟩ w (by decide)
  rw [show Asc.unhexL (⟨#[48, 65]⟩ : ByteArray).data.toList = none from by decide +kernel] at h5
  have h6 := fun w => equalFold_any ⟨#[82, 101, 58, 32, 65]⟩ ⟨#[82, 69, 58, 32, 97]⟩ w (by decide) (by decide) true (by decide +kernel)
  have h7 := fun w => compareFold_any ⟨#[66]⟩ ⟨#[97]⟩ w (by decide) (by decide) 1 (by decide +kernel)
  have h8 := fun w hI => indexFold_any ⟨#[77, 101, 115, 115, 97, 103, 101, 45, 73, 68]⟩ ⟨#[105, 100]⟩ w hI (by decide) (by decide) 8 (by decide +kernel)
  have h9 := fun w => trim_any ⟨#[32, 97, 32, 32, 98, 9]⟩ w (by decide) ⟨#[97, 32, 32, 98]⟩ (by decide +kernel)
  have h10 := fun w => squeeze_any ⟨#[32, 97, 32, 32, 98, 9]⟩ w (by decide) (by decide +kernel) ⟨#[97, 32, 98]⟩ (by decide +kernel)
  have h11 := fun w hI => digits_any (-5) w hI (by decide) (by decide)
  rw [show Lib.itoa (-5) = [45, 53] from by decide +kernel] at h11
  have h12 := fun w => hex_any (.slice (some ⟨w.heap.size, 0, none⟩) 2 2) [0, 171] (w.alloc (.cells #[.int .u8 0, .int .u8 171] 5)) (bytes_new w [0, 171] (0, 0) (by decide) (by decide)) (by decide) ⟨#[48, 48, 97, 98]⟩ (by decide +kernel)
  have h13 := fun w => printable_any ⟨#[97, 9, 98]⟩ w (by decide) 1 (by decide +kernel)
  have H1 := Lib.hid h1; have H2 := Lib.hid h2; have H3 := Lib.hid h3; have H4 := Lib.hid h4; have H5 := Lib.hid h5; have H6 := Lib.hid h6; have H7 := Lib.hid h7
  have H8 := Lib.hid h8; have H9 := Lib.hid h9; have H10 := Lib.hid h10; have H11 := Lib.hid h11; have H12 := Lib.hid h12; have H13 := Lib.hid h13
  clear h1 h2 h3 h4 h5 h6 h7 h8 h9 h10 h11 h12 h13
  go_enter Tryd.func23, Tryd.ntmps23
  go_wp2_with fail
  refine H1.out.mono ?_
  rintro e w1 ⟨v, rfl, ⟨x, cap, rfl, hcap, hg⟩, hb1⟩
  obtain ⟨b0, rfl, hb0, hcell⟩ := hg 1 (by decide)
  clear hg
  have hI1 := hI.below hb1 hI.sz
  go_wp2_with fail
  refine (H2.out w1 hI1).mono ?_
  rintro e w2 ⟨rfl, hb2'⟩
  have hb2 := hb1.trans (hb2'.mono hb1.size)
  have k2 := hb2'
  clear hb2' hI1
  go_wp2_with fail
  refine (H3.out w2 (hI.below hb2 hI.sz)).mono ?_
  rintro e w3 ⟨rfl, hb3'⟩
  have hb3 := hb2.trans (hb3'.mono hb2.size)
  have k3 := k2.trans (hb3'.mono k2.size)
  clear hb3'
  go_wp2_with fail
  refine (H4.out w3 (hI.below hb3 hI.sz)).mono ?_
  rintro e w4 ⟨rfl, hb4'⟩
  have hb4 := hb3.trans (hb4'.mono hb3.size)
  have k4 := k3.trans (hb4'.mono k3.size)
  clear hb4'
  go_wp2_with fail
  refine (H5.out w4).mono ?_
  rintro e w5 ⟨rfl, hb5'⟩
  have hb5 := hb4.trans (hb5'.mono hb4.size)
  have k5 := k4.trans (hb5'.mono k4.size)
  clear hb5' hb2 hb3 hb4 k2 k3 k4 hb1
  go_wp2_with fail
  refine (H6.out w5).mono ?_
  rintro e w6 ⟨rfl, hb6'⟩
  have hb6 := hb5.trans (hb6'.mono hb5.size)
  have k6 := k5.trans (hb6'.mono k5.size)
  clear hb6' hb5 k5
  go_wp2_with fail
  refine (H7.out w6).mono ?_
  rintro e w7 ⟨rfl, hb7'⟩
  have hb7 := hb6.trans (hb7'.mono hb6.size)
  have k7 := k6.trans (hb7'.mono k6.size)
  clear hb7' hb6 k6
  go_wp2_with fail
  refine (H8.out w7 (hI.below hb7 hI.sz)).mono ?_
  rintro e w8 ⟨rfl, hb8'⟩
  have hb8 := hb7.trans (hb8'.mono hb7.size)
  have k8 := k7.trans (hb8'.mono k7.size)
  clear hb8' hb7 k7
  go_wp2_with fail
  refine (H9.out w8).mono ?_
  rintro e w9 ⟨rfl, hb9'⟩
  have hb9 := hb8.trans (hb9'.mono hb8.size)
  have k9 := k8.trans (hb9'.mono k8.size)
  clear hb9' hb8 k8
  have hcell9 : w9.cell? ⟨b0, 1, none⟩ = some (.string ⟨#[98]⟩) := (k9.cell (p := ⟨b0, 1, none⟩) hb0).trans hcell
  go_wp2_with fail
  refine (H10.out w9).mono ?_
  rintro e w10 ⟨rfl, hb10'⟩
  have hb10 := hb9.trans (hb10'.mono hb9.size)
  clear hb10' hb9 k9 hcell9 hcell
  go_wp2_with fail
  refine (H11.out w10 (hI.below hb10 hI.sz)).mono ?_
  rintro e w11 ⟨rfl, hb11'⟩
  have hb11 := hb10.trans (hb11'.mono hb10.size)
  clear hb11' hb10
  go_wp2_with fail
  refine (H12.out w11).mono ?_
  rintro e w12 ⟨rfl, hb12'⟩
  have hb12 := (hb11.alloc hb11.size (.cells #[.int .u8 0, .int .u8 171] 5)).trans (hb12'.mono (by have := hb11.size; simp; omega))
  clear hb12' hb11
  go_wp2_with fail
  refine (H13.out w12).mono ?_
  rintro e w13 ⟨rfl, rfl⟩
  go_wp2_with fail
  go_ret
  exact ⟨rfl, hb12⟩
end Go.Proofs.YtgopcplcamljmaaDoor
