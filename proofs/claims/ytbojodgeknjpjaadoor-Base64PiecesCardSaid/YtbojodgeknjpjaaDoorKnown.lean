/- The law's example holds: known returns true; Encode of at most 131072 bytes and Decode of any text answer as said; a slice of bytes becomes the text of its bytes. Condition: the alphabet's table reads as laid. -/
import Derived.Test.YtbojodgeknjpjaaDoorDec
import Derived.Laws.IdiomStrings
import Derived.Laws.BytesArg
import Derived.Lib.SlBytesConst
namespace Go.Proofs.YtbojodgeknjpjaaDoor
open Go.RowKit

theorem decode_any (s : ByteArray) (w : World) (hT : Tab w) (hs : s.size ≤ maxLen) : Calls Tryd.prog 17 #[.string s] w (DecPost (B64.decT s.data.toList) w) := by
  by_cases h : 174764 < s.size
  · exact decode_long s w hs h
  · exact decode_short s w hT (by omega)

/-- what Encode answers for bytes within the limit -/
theorem Encode_ok (v : Value) (l : List Nat) (w : World) (hT : Tab w) (hv : Bytes w v l) (hl : l.length ≤ 131072) :
    Calls Tryd.prog 13 #[v] w fun e w' => e = .returned (.tuple #[.string ⟨(B64.encT l).toArray⟩, .int .i64 0]) ∧ Below w.heap.size w w' := by
  have henc := encode_any v l w hT hv (by omega)
  obtain ⟨_, x, cap, rfl, _⟩ := hv
  have HE := Lib.hid henc
  clear henc
  have g : ¬ (131072 : Int) < (l.length : Int) := by omega
  go_enter Tryd.func13, Tryd.ntmps13
  go_wp2_with (go_at_call 28; refine HE.out.mono ?_; rintro e w' ⟨rfl, hb⟩)
  go_ret2
  exact ⟨rfl, hb⟩

theorem addr_add (b off j : Nat) : (⟨b, off, none⟩ : Addr).add j = ⟨b, off + j, none⟩ := by
  unfold Addr.add
  split
  · rename_i h; subst h; rfl
  · rfl

/-- the text of bytes -/
def strB (l : List Nat) : ByteArray := ⟨(l.map fun x => UInt8.ofNat x).toArray⟩

theorem conv_bytes {w : World} {v : Value} {l : List Nat} (h : Bytes w v l) : (convert 22 9 v).run Tryd.prog w = .ok (.string (strB l)) w := by
  obtain ⟨hb, x, cap, rfl, _, _, hc⟩ := h
  cases x with
  | none =>
    have h0 : l = [] := by
      cases l with
      | nil => rfl
      | cons y l => obtain ⟨b, off, e, _⟩ := hc 0 (by simp); cases e
    subst h0
    exact run_convert_bytes_nil w 22 5 Tryd.underlying22 Tryd.underlying5 _ _ 9 Tryd.underlying9
  | some a =>
    have hk := run_convert_bytes_back (P := Tryd.prog) w 22 9 5 a cap (l.map fun x => UInt8.ofNat x) Tryd.underlying22 Tryd.underlying5 Tryd.underlying9 (fun j hj => by
      simp only [List.length_map] at hj
      obtain ⟨b, off, e, h0⟩ := hc j hj
      obtain rfl := Option.some.inj e
      rw [addr_add, h0]
      have : l[j] < 256 := hb _ (List.getElem_mem hj)
      simp [List.getElem?_eq_getElem hj]
      omega)
    simpa [strB] using hk

/-- a row of constants that the text itself writes -/
theorem bytes_new (w : World) (l : List Nat) (fr : Nat × Nat) (hb : ∀ x ∈ l, x < 256) (hm : l.length ≤ maxLen) :
    Bytes (w.alloc (.cells (l.map fun (x : Nat) => Value.int .u8 x).toArray 5 fr)) (.slice (some ⟨w.heap.size, 0, none⟩) l.length l.length) l := by
  refine ⟨hb, some ⟨w.heap.size, 0, none⟩, l.length, rfl, Nat.le_refl _, hm, fun i hi => ⟨w.heap.size, 0, rfl, ?_⟩⟩
  rw [World.cell?_alloc_mark]
  simp [List.getElem?_eq_getElem hi]

set_option maxHeartbeats 400000 in
theorem known_any (w : World) (hT : Tab w) : Calls Tryd.prog 12 #[] w fun e w' => e = .returned (.bool true) ∧ Below w.heap.size w w' := by
  have kc := fun (w : World) (C : Array Value) (n c : Nat) => Lib.run_convert_bytes_const (P := Tryd.prog) w 22 5 C n c Tryd.underlying22 Tryd.underlying5
  have hb1 : Below w.heap.size w (w.alloc (.cells #[.int .u8 102, .int .u8 111] 5 (2, 3))) := (Below.refl _ w).alloc (Nat.le_refl _) _
  have hT1 := hT.below hb1 hT.1
  have hB1 : Bytes (w.alloc (.cells #[.int .u8 102, .int .u8 111] 5 (2, 3))) (.slice (some ⟨w.heap.size, 0, none⟩) 2 2) [102, 111] := bytes_new w [102, 111] (2, 3) (by decide) (by unfold maxLen; decide)
  have hE := Encode_ok _ _ _ hT1 hB1 (by decide)
  rw [show B64.encT [102, 111] = [90, 109, 56, 61] from by decide] at hE
  have HE := Lib.hid hE
  have HT1 := Lib.hid hT1
  clear hE hB1 hT1
  go_enter Tryd.func12, Tryd.ntmps12
  go_wp2_with fail
  refine HE.out.mono ?_
  rintro e w2 ⟨rfl, hb2⟩
  have hb3 : Below w.heap.size w w2 := hb1.trans (hb2.mono (by simp))
  have hd := decode_any ⟨#[90, 103, 61, 61]⟩ w2 (hT.below hb3 hT.1) (by decide)
  rw [show B64.decT (⟨#[90, 103, 61, 61]⟩ : ByteArray).data.toList = ([102], 0, 0) from by decide] at hd
  clear hb1 hb2
  go_wp2_with fail
  refine hd.mono ?_
  rintro e w3 ⟨v, rfl, hby, hb4⟩
  have hcv := conv_bytes hby
  have hq : ((strB [102]).toList == [102]) = true := by decide +kernel
  clear hd
  go_wp2
  go_ret
  exact ⟨rfl, hb3.trans (hb4.mono hb3.size)⟩
end Go.Proofs.YtbojodgeknjpjaaDoor
