/-
  DERIVED. GIVEN WITH THE SEED: THE CARDS: each row of YtbjhomihmlijiaaDoorRows.lean that lists a variable, with what it lists TIED to the program's text (the seventh form; the later family's looks); each row that meets fmt, with fmt's text TOLD by the authors' own Lean function (tested against real Go, not proved from fmt's source: count such statements apart). THE CARD IS WHAT COUNTS. Prove the row's statement (the work); the ties are given (YtbjhomihmlijiaaDoorTie.lean); close each card by the builder's one call (the guide's Derived/Test/ToyasCard.lean, 'card_holds'). Laid BY PROGRAM, IN A SANDBOX (cutbox-door.mjs). By AI agents, Wed Nov 11 2026. No macro, syntax, notation, axiom, sorry.
-/
import Derived.Test.YtbjhomihmlijiaaDoorRows
import GoSem.ClaimSeven
namespace Go.Proofs.YtbjhomihmlijiaaDoor
namespace Rows

/-- THE TIED CARD OF 'bulletinlaw03.Utf8Check'. -/
def utf8CheckCard : Claim7 := { stood := { row := utf8CheckRow, standIns := [], harness := (true, "7d74d749cb500a9965e3c393ea8dc8969a42f6b4e0227705c059b276f73d28e6"), looks := false }, kinds := [], alts := [], laidByText := true, laidKinds := [.data], laidTests := true, laidLooks := .later }
def Utf8CheckCardSaid : Prop := Claim7.holds Tryd.pinned (.plain (OpenSpec.ofChange utf8CheckSpec)) utf8CheckCard

/-- THE TIED CARD OF 'bulletinlaw03.Utf8Decode'. -/
def utf8DecodeCard : Claim7 := { stood := { row := utf8DecodeRow, standIns := [], harness := (true, "7d74d749cb500a9965e3c393ea8dc8969a42f6b4e0227705c059b276f73d28e6"), looks := false }, kinds := [], alts := [], laidByText := true, laidKinds := [.data], laidTests := true, laidLooks := .later }
def Utf8DecodeCardSaid : Prop := Claim7.holds Tryd.pinned (.plain (OpenSpec.ofChange utf8DecodeSpec)) utf8DecodeCard

/-- THE TIED CARD OF 'bulletinlaw03.Utf8Encode'. -/
def utf8EncodeCard : Claim7 := { stood := { row := utf8EncodeRow, standIns := [], harness := (true, "7d74d749cb500a9965e3c393ea8dc8969a42f6b4e0227705c059b276f73d28e6"), looks := false }, kinds := [], alts := [], laidByText := true, laidKinds := [.data], laidTests := true, laidLooks := .later }
def Utf8EncodeCardSaid : Prop := Claim7.holds Tryd.pinned (.plain (OpenSpec.ofChange utf8EncodeSpec)) utf8EncodeCard

/-- THE TIED CARD OF 'bulletinlaw03.Utf8Count'. -/
def utf8CountCard : Claim7 := { stood := { row := utf8CountRow, standIns := [], harness := (true, "7d74d749cb500a9965e3c393ea8dc8969a42f6b4e0227705c059b276f73d28e6"), looks := false }, kinds := [], alts := [], laidByText := true, laidKinds := [.data], laidTests := true, laidLooks := .later }
def Utf8CountCardSaid : Prop := Claim7.holds Tryd.pinned (.plain (OpenSpec.ofChange utf8CountSpec)) utf8CountCard

/-- THE TIED CARD OF 'bulletinlaw03.Utf8Truncate'. -/
def utf8TruncateCard : Claim7 := { stood := { row := utf8TruncateRow, standIns := [], harness := (true, "7d74d749cb500a9965e3c393ea8dc8969a42f6b4e0227705c059b276f73d28e6"), looks := false }, kinds := [], alts := [], laidByText := true, laidKinds := [.data], laidTests := true, laidLooks := .later }
def Utf8TruncateCardSaid : Prop := Claim7.holds Tryd.pinned (.plain (OpenSpec.ofChange utf8TruncateSpec)) utf8TruncateCard

/-- THE TIED CARD OF 'bulletinlaw03.Utf8Repair'. -/
def utf8RepairCard : Claim7 := { stood := { row := utf8RepairRow, standIns := [], harness := (true, "7d74d749cb500a9965e3c393ea8dc8969a42f6b4e0227705c059b276f73d28e6"), looks := false }, kinds := [], alts := [], laidByText := true, laidKinds := [.data], laidTests := true, laidLooks := .later }
def Utf8RepairCardSaid : Prop := Claim7.holds Tryd.pinned (.plain (OpenSpec.ofChange utf8RepairSpec)) utf8RepairCard

/-- THE TIED CARD OF 'bulletinlaw03.Utf8Runes'. -/
def utf8RunesCard : Claim7 := { stood := { row := utf8RunesRow, standIns := [], harness := (true, "7d74d749cb500a9965e3c393ea8dc8969a42f6b4e0227705c059b276f73d28e6"), looks := false }, kinds := [], alts := [], laidByText := true, laidKinds := [.data], laidTests := true, laidLooks := .later }
def Utf8RunesCardSaid : Prop := Claim7.holds Tryd.pinned (.plain (OpenSpec.ofChange utf8RunesSpec)) utf8RunesCard

/-- THE TIED CARD OF 'bulletinlaw03.Utf8Printable'. -/
def utf8PrintableCard : Claim7 := { stood := { row := utf8PrintableRow, standIns := [], harness := (true, "7d74d749cb500a9965e3c393ea8dc8969a42f6b4e0227705c059b276f73d28e6"), looks := false }, kinds := [], alts := [], laidByText := true, laidKinds := [.data], laidTests := true, laidLooks := .later }
def Utf8PrintableCardSaid : Prop := Claim7.holds Tryd.pinned (.plain (OpenSpec.ofChange utf8PrintableSpec)) utf8PrintableCard

/-- THE TIED CARD OF 'bulletinlaw03.Utf8Decoder'. -/
def utf8DecoderCard : Claim7 := { stood := { row := utf8DecoderRow, standIns := [], harness := (true, "7d74d749cb500a9965e3c393ea8dc8969a42f6b4e0227705c059b276f73d28e6"), looks := false }, kinds := [], alts := [], laidByText := true, laidKinds := [.data], laidTests := true, laidLooks := .later }
def Utf8DecoderCardSaid : Prop := Claim7.holds Tryd.pinned (.plain (OpenSpec.ofChange utf8DecoderSpec)) utf8DecoderCard

/-- THE TIED CARD OF 'bulletinlaw03.Utf8Pieces'. -/
def utf8PiecesCard : Claim7 := { stood := { row := utf8PiecesRow, standIns := [], harness := (true, "7d74d749cb500a9965e3c393ea8dc8969a42f6b4e0227705c059b276f73d28e6"), looks := false }, kinds := [], alts := [], laidByText := true, laidKinds := [.data], laidTests := true, laidLooks := .later }
def Utf8PiecesCardSaid : Prop := Claim7.holds Tryd.pinned (.plain (OpenSpec.ofChange utf8PiecesSpec)) utf8PiecesCard

/-- THE TIED CARD OF 'bulletinlaw03.Utf8Order'. -/
def utf8OrderCard : Claim7 := { stood := { row := utf8OrderRow, standIns := [], harness := (true, "7d74d749cb500a9965e3c393ea8dc8969a42f6b4e0227705c059b276f73d28e6"), looks := false }, kinds := [], alts := [], laidByText := true, laidKinds := [.data], laidTests := true, laidLooks := .later }
def Utf8OrderCardSaid : Prop := Claim7.holds Tryd.pinned (.plain (OpenSpec.ofChange utf8OrderSpec)) utf8OrderCard

/-- THE SECOND FORM's CARD OF 'bulletinlaw03.Utf8Check'. -/
def utf8CheckUptoCard : Claim7 := { stood := { row := utf8CheckUptoRow, standIns := [], harness := (true, "7d74d749cb500a9965e3c393ea8dc8969a42f6b4e0227705c059b276f73d28e6"), looks := false }, kinds := [], alts := [], laidByText := true, laidKinds := [.data], laidTests := true, laidLooks := .later }
def Utf8CheckUptoCardSaid : Prop := Claim7.holds Tryd.pinned (.plain (OpenSpec.upto utf8CheckSpec)) utf8CheckUptoCard

/-- THE SECOND FORM's CARD OF 'bulletinlaw03.Utf8Decode'. -/
def utf8DecodeUptoCard : Claim7 := { stood := { row := utf8DecodeUptoRow, standIns := [], harness := (true, "7d74d749cb500a9965e3c393ea8dc8969a42f6b4e0227705c059b276f73d28e6"), looks := false }, kinds := [], alts := [], laidByText := true, laidKinds := [.data], laidTests := true, laidLooks := .later }
def Utf8DecodeUptoCardSaid : Prop := Claim7.holds Tryd.pinned (.plain (OpenSpec.upto utf8DecodeSpec)) utf8DecodeUptoCard

/-- THE SECOND FORM's CARD OF 'bulletinlaw03.Utf8Encode'. -/
def utf8EncodeUptoCard : Claim7 := { stood := { row := utf8EncodeUptoRow, standIns := [], harness := (true, "7d74d749cb500a9965e3c393ea8dc8969a42f6b4e0227705c059b276f73d28e6"), looks := false }, kinds := [], alts := [], laidByText := true, laidKinds := [.data], laidTests := true, laidLooks := .later }
def Utf8EncodeUptoCardSaid : Prop := Claim7.holds Tryd.pinned (.plain (OpenSpec.upto utf8EncodeSpec)) utf8EncodeUptoCard

/-- THE SECOND FORM's CARD OF 'bulletinlaw03.Utf8Count'. -/
def utf8CountUptoCard : Claim7 := { stood := { row := utf8CountUptoRow, standIns := [], harness := (true, "7d74d749cb500a9965e3c393ea8dc8969a42f6b4e0227705c059b276f73d28e6"), looks := false }, kinds := [], alts := [], laidByText := true, laidKinds := [.data], laidTests := true, laidLooks := .later }
def Utf8CountUptoCardSaid : Prop := Claim7.holds Tryd.pinned (.plain (OpenSpec.upto utf8CountSpec)) utf8CountUptoCard

/-- THE SECOND FORM's CARD OF 'bulletinlaw03.Utf8Truncate'. -/
def utf8TruncateUptoCard : Claim7 := { stood := { row := utf8TruncateUptoRow, standIns := [], harness := (true, "7d74d749cb500a9965e3c393ea8dc8969a42f6b4e0227705c059b276f73d28e6"), looks := false }, kinds := [], alts := [], laidByText := true, laidKinds := [.data], laidTests := true, laidLooks := .later }
def Utf8TruncateUptoCardSaid : Prop := Claim7.holds Tryd.pinned (.plain (OpenSpec.upto utf8TruncateSpec)) utf8TruncateUptoCard

/-- THE SECOND FORM's CARD OF 'bulletinlaw03.Utf8Repair'. -/
def utf8RepairUptoCard : Claim7 := { stood := { row := utf8RepairUptoRow, standIns := [], harness := (true, "7d74d749cb500a9965e3c393ea8dc8969a42f6b4e0227705c059b276f73d28e6"), looks := false }, kinds := [], alts := [], laidByText := true, laidKinds := [.data], laidTests := true, laidLooks := .later }
def Utf8RepairUptoCardSaid : Prop := Claim7.holds Tryd.pinned (.plain (OpenSpec.upto utf8RepairSpec)) utf8RepairUptoCard

/-- THE SECOND FORM's CARD OF 'bulletinlaw03.Utf8Runes'. -/
def utf8RunesUptoCard : Claim7 := { stood := { row := utf8RunesUptoRow, standIns := [], harness := (true, "7d74d749cb500a9965e3c393ea8dc8969a42f6b4e0227705c059b276f73d28e6"), looks := false }, kinds := [], alts := [], laidByText := true, laidKinds := [.data], laidTests := true, laidLooks := .later }
def Utf8RunesUptoCardSaid : Prop := Claim7.holds Tryd.pinned (.plain (OpenSpec.upto utf8RunesSpec)) utf8RunesUptoCard

/-- THE SECOND FORM's CARD OF 'bulletinlaw03.Utf8Printable'. -/
def utf8PrintableUptoCard : Claim7 := { stood := { row := utf8PrintableUptoRow, standIns := [], harness := (true, "7d74d749cb500a9965e3c393ea8dc8969a42f6b4e0227705c059b276f73d28e6"), looks := false }, kinds := [], alts := [], laidByText := true, laidKinds := [.data], laidTests := true, laidLooks := .later }
def Utf8PrintableUptoCardSaid : Prop := Claim7.holds Tryd.pinned (.plain (OpenSpec.upto utf8PrintableSpec)) utf8PrintableUptoCard

/-- THE SECOND FORM's CARD OF 'bulletinlaw03.Utf8Decoder'. -/
def utf8DecoderUptoCard : Claim7 := { stood := { row := utf8DecoderUptoRow, standIns := [], harness := (true, "7d74d749cb500a9965e3c393ea8dc8969a42f6b4e0227705c059b276f73d28e6"), looks := false }, kinds := [], alts := [], laidByText := true, laidKinds := [.data], laidTests := true, laidLooks := .later }
def Utf8DecoderUptoCardSaid : Prop := Claim7.holds Tryd.pinned (.plain (OpenSpec.upto utf8DecoderSpec)) utf8DecoderUptoCard

/-- THE SECOND FORM's CARD OF 'bulletinlaw03.Utf8Pieces'. -/
def utf8PiecesUptoCard : Claim7 := { stood := { row := utf8PiecesUptoRow, standIns := [], harness := (true, "7d74d749cb500a9965e3c393ea8dc8969a42f6b4e0227705c059b276f73d28e6"), looks := false }, kinds := [], alts := [], laidByText := true, laidKinds := [.data], laidTests := true, laidLooks := .later }
def Utf8PiecesUptoCardSaid : Prop := Claim7.holds Tryd.pinned (.plain (OpenSpec.upto utf8PiecesSpec)) utf8PiecesUptoCard

/-- THE SECOND FORM's CARD OF 'bulletinlaw03.Utf8Order'. -/
def utf8OrderUptoCard : Claim7 := { stood := { row := utf8OrderUptoRow, standIns := [], harness := (true, "7d74d749cb500a9965e3c393ea8dc8969a42f6b4e0227705c059b276f73d28e6"), looks := false }, kinds := [], alts := [], laidByText := true, laidKinds := [.data], laidTests := true, laidLooks := .later }
def Utf8OrderUptoCardSaid : Prop := Claim7.holds Tryd.pinned (.plain (OpenSpec.upto utf8OrderSpec)) utf8OrderUptoCard
end Rows
end Go.Proofs.YtbjhomihmlijiaaDoor
