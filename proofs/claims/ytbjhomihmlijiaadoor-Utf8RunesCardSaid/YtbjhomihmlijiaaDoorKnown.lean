/- The examples of the chapter: known answers true, and writes nothing that was there. -/
import Derived.Test.YtbjhomihmlijiaaDoorRepair
import Derived.Test.YtbjhomihmlijiaaDoorRef
namespace Go.Proofs.YtbjhomihmlijiaaDoor
open Go.RowKit

set_option maxRecDepth 20000 in
set_option maxHeartbeats 2000000 in
theorem known_any (w : World) (hT : Tab w) : Calls Tryd.prog 17 #[] w fun e w' => e = .returned (.bool true) ∧ Below w.heap.size w w' := by
  have h1 := fun w hT => encode_ok 233 w hT (by unfold U8.ok; omega) ⟨#[195, 169]⟩ (by decide +kernel)
  have h2 := fun w hT => encode_ok 8364 w hT (by unfold U8.ok; omega) ⟨#[226, 130, 172]⟩ (by decide +kernel)
  have h3 := fun w hT => check_any ⟨#[97, 195]⟩ w hT (by decide) 1 23 (by decide +kernel)
  have h4 := fun w hT => check_any ⟨#[97, 195, 40]⟩ w hT (by decide) 1 3 (by decide +kernel)
  have h5 := fun w hT => decode_any ⟨#[226, 130, 172, 120]⟩ w hT (by decide) (by decide) 8364 3 0 (by decide +kernel) (by decide +kernel)
  have h6 := fun w hT => valid_any ⟨#[97, 195, 169]⟩ w hT (by decide) true (by decide +kernel)
  have h7 := fun w hT => valid_any ⟨#[237, 160, 128]⟩ w hT (by decide) false (by decide +kernel)
  have h8 := fun w hT => repair_any ⟨#[97, 226, 130, 98, 128]⟩ w hT (by decide) ⟨#[97, 239, 191, 189, 98, 239, 191, 189]⟩ (by decide +kernel)
  have H1 := Lib.hid h1; have H2 := Lib.hid h2; have H3 := Lib.hid h3; have H4 := Lib.hid h4; have H5 := Lib.hid h5; have H6 := Lib.hid h6; have H7 := Lib.hid h7; have H8 := Lib.hid h8
  have hp := hT.1
  have hb0 := Below.refl w.heap.size w
  clear h1 h2 h3 h4 h5 h6 h7 h8
  go_enter Tryd.func17, Tryd.ntmps17
  go_wp2_with fail
  refine (H1.out _ hT).mono ?_
  rintro e w1 ⟨rfl, hb1'⟩
  have hb1 := hb0.trans (hb1'.mono hb0.size)
  clear hb1' hb0
  go_wp2_with fail
  refine (H2.out _ (hT.below hb1 hp)).mono ?_
  rintro e w2 ⟨rfl, hb2'⟩
  have hb2 := hb1.trans (hb2'.mono hb1.size)
  clear hb2' hb1
  go_wp2_with fail
  refine (H3.out _ (hT.below hb2 hp)).mono ?_
  rintro e w3 ⟨rfl, hb3'⟩
  have hb3 := hb2.trans (hb3'.mono hb2.size)
  clear hb3' hb2
  go_wp2_with fail
  refine (H4.out _ (hT.below hb3 hp)).mono ?_
  rintro e w4 ⟨rfl, hb4'⟩
  have hb4 := hb3.trans (hb4'.mono hb3.size)
  clear hb4' hb3
  go_wp2_with fail
  refine (H5.out _ (hT.below hb4 hp)).mono ?_
  rintro e w5 ⟨rfl, hb5'⟩
  have hb5 := hb4.trans (hb5'.mono hb4.size)
  clear hb5' hb4
  go_wp2_with fail
  refine (H6.out _ (hT.below hb5 hp)).mono ?_
  rintro e w6 ⟨rfl, hb6'⟩
  have hb6 := hb5.trans (hb6'.mono hb5.size)
  clear hb6' hb5
  go_wp2_with fail
  refine (H7.out _ (hT.below hb6 hp)).mono ?_
  rintro e w7 ⟨rfl, hb7'⟩
  have hb7 := hb6.trans (hb7'.mono hb6.size)
  clear hb7' hb6
  go_wp2_with fail
  refine (H8.out _ (hT.below hb7 hp)).mono ?_
  rintro e w8 ⟨rfl, hb8'⟩
  have hb8 := hb7.trans (hb8'.mono hb7.size)
  clear hb8' hb7
  go_wp2_with fail
  go_ret
  exact ⟨rfl, hb8⟩
end Go.Proofs.YtbjhomihmlijiaaDoor
