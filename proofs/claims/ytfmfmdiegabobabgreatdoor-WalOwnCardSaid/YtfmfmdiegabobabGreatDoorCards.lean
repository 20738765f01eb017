/-
  DERIVED. GIVEN WITH THE SEED: THE CARDS: each row of YtfmfmdiegabobabGreatDoorRows.lean that lists a variable, with what it lists TIED to the program's text (the seventh form; the later family's looks); each row that meets fmt, with fmt's text TOLD by the authors' own Lean function (tested against real Go, not proved from fmt's source: count such statements apart). THE CARD IS WHAT COUNTS. Prove the row's statement (the work); the ties are given (YtfmfmdiegabobabGreatDoorTie.lean); close each card by the builder's one call (the guide's Derived/Test/ToyasCard.lean, 'card_holds'). Laid BY PROGRAM, IN A SANDBOX (cutbox-door.mjs). By AI agents, Wed Nov 11 2026. No macro, syntax, notation, axiom, sorry.
-/
import Derived.Test.YtfmfmdiegabobabGreatDoorRows
import GoSem.ClaimSeven
namespace Go.Proofs.YtfmfmdiegabobabGreatDoor
namespace Rows

/-- THE TIED CARD OF 'trothlaw09.WalOwn'. -/
def walOwnCard : Claim7 := { stood := { row := walOwnRow, standIns := [], harness := (true, "4e9d27c67eedaa6d83976bbcb80ea48b5ea41ccd2d516ecf6bc9d8b92f2c21e6"), looks := false }, kinds := [], alts := [], laidByText := true, laidKinds := [.data], laidTests := true, laidLooks := .later }
def WalOwnCardSaid : Prop := Claim7.holds Tryz.pinned (.plain (OpenSpec.ofChange walOwnSpec)) walOwnCard

/-- THE SECOND FORM's CARD OF 'trothlaw09.WalOwn'. -/
def walOwnUptoCard : Claim7 := { stood := { row := walOwnUptoRow, standIns := [], harness := (true, "4e9d27c67eedaa6d83976bbcb80ea48b5ea41ccd2d516ecf6bc9d8b92f2c21e6"), looks := false }, kinds := [], alts := [], laidByText := true, laidKinds := [.data], laidTests := true, laidLooks := .later }
def WalOwnUptoCardSaid : Prop := Claim7.holds Tryz.pinned (.plain (OpenSpec.upto walOwnSpec)) walOwnUptoCard
end Rows
end Go.Proofs.YtfmfmdiegabobabGreatDoor
