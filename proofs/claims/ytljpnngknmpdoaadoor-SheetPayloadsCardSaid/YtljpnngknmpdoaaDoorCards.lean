/-
  DERIVED. GIVEN WITH THE SEED: THE CARDS: each row of YtljpnngknmpdoaaDoorRows.lean that lists a variable, with what it lists TIED to the program's text (the seventh form; the later family's looks); each row that meets fmt, with fmt's text TOLD by the authors' own Lean function (tested against real Go, not proved from fmt's source: count such statements apart). THE CARD IS WHAT COUNTS. Prove the row's statement (the work); the ties are given (YtljpnngknmpdoaaDoorTie.lean); close each card by the builder's one call (the guide's Derived/Test/ToyasCard.lean, 'card_holds'). Laid BY PROGRAM, IN A SANDBOX (cutbox-door.mjs). By AI agents, Wed Nov 11 2026. No macro, syntax, notation, axiom, sorry.
-/
import Derived.Test.YtljpnngknmpdoaaDoorRows
import GoSem.ClaimSeven
namespace Go.Proofs.YtljpnngknmpdoaaDoor
namespace Rows

/-- THE TIED CARD OF 'trothlaw08.SheetPayloads'. -/
def sheetPayloadsCard : Claim7 := { stood := { row := sheetPayloadsRow, standIns := [], harness := (true, "b1727a317a7dd41c26fc77d1252f5465123167d1930dadba331d1fdcd6c5b5ff"), looks := false }, kinds := [], alts := [], laidByText := true, laidKinds := [.data], laidTests := true, laidLooks := .later }
def SheetPayloadsCardSaid : Prop := Claim7.holds Tryd.pinned (.plain (OpenSpec.ofChange sheetPayloadsSpec)) sheetPayloadsCard

/-- THE TIED CARD OF 'trothlaw08.SheetLays'. -/
def sheetLaysCard : Claim7 := { stood := { row := sheetLaysRow, standIns := [], harness := (true, "b1727a317a7dd41c26fc77d1252f5465123167d1930dadba331d1fdcd6c5b5ff"), looks := false }, kinds := [], alts := [], laidByText := true, laidKinds := [.data], laidTests := true, laidLooks := .later }
def SheetLaysCardSaid : Prop := Claim7.holds Tryd.pinned (.plain (OpenSpec.ofChange sheetLaysSpec)) sheetLaysCard

/-- THE TIED CARD OF 'trothlaw08.SheetFinds'. -/
def sheetFindsCard : Claim7 := { stood := { row := sheetFindsRow, standIns := [], harness := (true, "b1727a317a7dd41c26fc77d1252f5465123167d1930dadba331d1fdcd6c5b5ff"), looks := false }, kinds := [], alts := [], laidByText := true, laidKinds := [.data], laidTests := true, laidLooks := .later }
def SheetFindsCardSaid : Prop := Claim7.holds Tryd.pinned (.plain (OpenSpec.ofChange sheetFindsSpec)) sheetFindsCard

/-- THE TIED CARD OF 'trothlaw08.SheetBack'. -/
def sheetBackCard : Claim7 := { stood := { row := sheetBackRow, standIns := [], harness := (true, "b1727a317a7dd41c26fc77d1252f5465123167d1930dadba331d1fdcd6c5b5ff"), looks := false }, kinds := [], alts := [], laidByText := true, laidKinds := [.data], laidTests := true, laidLooks := .later }
def SheetBackCardSaid : Prop := Claim7.holds Tryd.pinned (.plain (OpenSpec.ofChange sheetBackSpec)) sheetBackCard

/-- THE TIED CARD OF 'trothlaw08.SheetLater'. -/
def sheetLaterCard : Claim7 := { stood := { row := sheetLaterRow, standIns := [], harness := (true, "b1727a317a7dd41c26fc77d1252f5465123167d1930dadba331d1fdcd6c5b5ff"), looks := false }, kinds := [], alts := [], laidByText := true, laidKinds := [.data], laidTests := true, laidLooks := .later }
def SheetLaterCardSaid : Prop := Claim7.holds Tryd.pinned (.plain (OpenSpec.ofChange sheetLaterSpec)) sheetLaterCard

/-- THE SECOND FORM's CARD OF 'trothlaw08.SheetPayloads'. -/
def sheetPayloadsUptoCard : Claim7 := { stood := { row := sheetPayloadsUptoRow, standIns := [], harness := (true, "b1727a317a7dd41c26fc77d1252f5465123167d1930dadba331d1fdcd6c5b5ff"), looks := false }, kinds := [], alts := [], laidByText := true, laidKinds := [.data], laidTests := true, laidLooks := .later }
def SheetPayloadsUptoCardSaid : Prop := Claim7.holds Tryd.pinned (.plain (OpenSpec.upto sheetPayloadsSpec)) sheetPayloadsUptoCard

/-- THE SECOND FORM's CARD OF 'trothlaw08.SheetLays'. -/
def sheetLaysUptoCard : Claim7 := { stood := { row := sheetLaysUptoRow, standIns := [], harness := (true, "b1727a317a7dd41c26fc77d1252f5465123167d1930dadba331d1fdcd6c5b5ff"), looks := false }, kinds := [], alts := [], laidByText := true, laidKinds := [.data], laidTests := true, laidLooks := .later }
def SheetLaysUptoCardSaid : Prop := Claim7.holds Tryd.pinned (.plain (OpenSpec.upto sheetLaysSpec)) sheetLaysUptoCard

/-- THE SECOND FORM's CARD OF 'trothlaw08.SheetFinds'. -/
def sheetFindsUptoCard : Claim7 := { stood := { row := sheetFindsUptoRow, standIns := [], harness := (true, "b1727a317a7dd41c26fc77d1252f5465123167d1930dadba331d1fdcd6c5b5ff"), looks := false }, kinds := [], alts := [], laidByText := true, laidKinds := [.data], laidTests := true, laidLooks := .later }
def SheetFindsUptoCardSaid : Prop := Claim7.holds Tryd.pinned (.plain (OpenSpec.upto sheetFindsSpec)) sheetFindsUptoCard

/-- THE SECOND FORM's CARD OF 'trothlaw08.SheetBack'. -/
def sheetBackUptoCard : Claim7 := { stood := { row := sheetBackUptoRow, standIns := [], harness := (true, "b1727a317a7dd41c26fc77d1252f5465123167d1930dadba331d1fdcd6c5b5ff"), looks := false }, kinds := [], alts := [], laidByText := true, laidKinds := [.data], laidTests := true, laidLooks := .later }
def SheetBackUptoCardSaid : Prop := Claim7.holds Tryd.pinned (.plain (OpenSpec.upto sheetBackSpec)) sheetBackUptoCard

/-- THE SECOND FORM's CARD OF 'trothlaw08.SheetLater'. -/
def sheetLaterUptoCard : Claim7 := { stood := { row := sheetLaterUptoRow, standIns := [], harness := (true, "b1727a317a7dd41c26fc77d1252f5465123167d1930dadba331d1fdcd6c5b5ff"), looks := false }, kinds := [], alts := [], laidByText := true, laidKinds := [.data], laidTests := true, laidLooks := .later }
def SheetLaterUptoCardSaid : Prop := Claim7.holds Tryd.pinned (.plain (OpenSpec.upto sheetLaterSpec)) sheetLaterUptoCard
end Rows
end Go.Proofs.YtljpnngknmpdoaaDoor
