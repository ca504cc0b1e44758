/- Hash: Write of whatever piece. -/
import Derived.Test.YtpkbceelbppleaaDoorHash5
namespace Go.Proofs.YtpkbceelbppleaaDoor
open Go.RowKit

theorem write_any (w : World) (hT : Tab w) (g : Nat) (hg0 : 0 < g) (l : List Nat) (h : HashIs w g l) (x : Option Addr) (kb c : Nat) (b : List Nat) (hkb : b.length = kb) (hv : Bytes w (.slice x kb c) b) (hvg : 0 < b.length → ∀ a, x = some a → a.block ≠ g) (hmax2 : l.length + kb ≤ 900000000) :
    Calls Tryd.prog 20 #[.pointer (some ⟨g, 0, none⟩), .slice x kb c] w fun e w' => e = .returned (.int .i64 0) ∧ Hid (HashIs w' g (l ++ b)) ∧ Hid (But g w w') := by
  by_cases hsm : l.length % 64 + kb < 64
  · exact write_small w g l h x kb c b hkb hv hvg hsm hmax2
  · obtain ⟨k, hk⟩ : ∃ k, k = 64 - l.length % 64 := ⟨_, rfl⟩
    have hb0 : 0 < b.length := by omega
    have hx : ∃ B off, x = some ⟨B, off, none⟩ := by
      obtain ⟨_, y, cc, e, _, _, _, hc⟩ := hv
      obtain ⟨B, off, hy, _⟩ := hc 0 hb0
      have e1 := (Value.slice.inj e).1
      exact ⟨B, off, by rw [e1, hy]⟩
    obtain ⟨B, off, rfl⟩ := hx
    exact write_big w hT g hg0 l h B off kb c b hkb hv (hvg hb0 _ rfl) k (by omega) (by omega) hmax2
end Go.Proofs.YtpkbceelbppleaaDoor
