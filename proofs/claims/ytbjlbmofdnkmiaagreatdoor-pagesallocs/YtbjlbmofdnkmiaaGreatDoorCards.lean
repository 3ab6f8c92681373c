/-
  DERIVED. GIVEN WITH THE SEED: THE CARDS: each row of YtbjlbmofdnkmiaaGreatDoorRows.lean that lists a variable, with what it lists TIED to the program's text (the seventh form; the later family's looks); each row that meets fmt, with fmt's text TOLD by the authors' own Lean function (tested against real Go, not proved from fmt's source: count such statements apart). THE CARD IS WHAT COUNTS. Prove the row's statement (the work); the ties are given (YtbjlbmofdnkmiaaGreatDoorTie.lean); close each card by the builder's one call (the guide's Derived/Test/ToyasCard.lean, 'card_holds'). Laid BY PROGRAM, IN A SANDBOX (cutbox-door.mjs). By AI agents, Wed Nov 11 2026. No macro, syntax, notation, axiom, sorry.
-/
import Derived.Test.YtbjlbmofdnkmiaaGreatDoorRows
import GoSem.ClaimSeven
namespace Go.Proofs.YtbjlbmofdnkmiaaGreatDoor
namespace Rows

/-- THE TIED CARD OF 'paddocklaw.PagesAllocs'. -/
def pagesAllocsCard : Claim7 := { stood := { row := pagesAllocsRow, standIns := [], harness := (true, "496b4609a8e7f9c4f05b1c6905960c4556e2e37d8d7b618150c660993753bb45"), looks := false }, kinds := [], alts := [], laidByText := true, laidKinds := [.data], laidTests := true, laidLooks := .later }
def PagesAllocsCardSaid : Prop := Claim7.holds Tryz.pinned (.plain (OpenSpec.ofChange pagesAllocsSpec)) pagesAllocsCard

/-- THE SECOND FORM's CARD OF 'paddocklaw.PagesAllocs'. -/
def pagesAllocsUptoCard : Claim7 := { stood := { row := pagesAllocsUptoRow, standIns := [], harness := (true, "496b4609a8e7f9c4f05b1c6905960c4556e2e37d8d7b618150c660993753bb45"), looks := false }, kinds := [], alts := [], laidByText := true, laidKinds := [.data], laidTests := true, laidLooks := .later }
def PagesAllocsUptoCardSaid : Prop := Claim7.holds Tryz.pinned (.plain (OpenSpec.upto pagesAllocsSpec)) pagesAllocsUptoCard
end Rows
end Go.Proofs.YtbjlbmofdnkmiaaGreatDoor
