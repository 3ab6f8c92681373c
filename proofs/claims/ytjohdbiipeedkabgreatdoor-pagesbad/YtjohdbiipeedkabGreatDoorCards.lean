/-
  DERIVED. GIVEN WITH THE SEED: THE CARDS: each row of YtjohdbiipeedkabGreatDoorRows.lean that lists a variable, with what it lists TIED to the program's text (the seventh form; the later family's looks); each row that meets fmt, with fmt's text TOLD by the authors' own Lean function (tested against real Go, not proved from fmt's source: count such statements apart). THE CARD IS WHAT COUNTS. Prove the row's statement (the work); the ties are given (YtjohdbiipeedkabGreatDoorTie.lean); close each card by the builder's one call (the guide's Derived/Test/ToyasCard.lean, 'card_holds'). Laid BY PROGRAM, IN A SANDBOX (cutbox-door.mjs). By AI agents, Wed Nov 11 2026. No macro, syntax, notation, axiom, sorry.
-/
import Derived.Test.YtjohdbiipeedkabGreatDoorRows
import GoSem.ClaimSeven
namespace Go.Proofs.YtjohdbiipeedkabGreatDoor
namespace Rows

/-- THE TIED CARD OF 'paddockkeep.PagesBad'. -/
def pagesBadCard : Claim7 := { stood := { row := pagesBadRow, standIns := [], harness := (true, "1268097e0f959854fcdf8c6319d53c6bfd7bf928922f56e74d08ce64d640606a"), looks := false }, kinds := [], alts := [], laidByText := true, laidKinds := [.data], laidTests := true, laidLooks := .later }
def PagesBadCardSaid : Prop := Claim7.holds Tryz.pinned (.plain (OpenSpec.ofChange pagesBadSpec)) pagesBadCard

/-- THE SECOND FORM's CARD OF 'paddockkeep.PagesBad'. -/
def pagesBadUptoCard : Claim7 := { stood := { row := pagesBadUptoRow, standIns := [], harness := (true, "1268097e0f959854fcdf8c6319d53c6bfd7bf928922f56e74d08ce64d640606a"), looks := false }, kinds := [], alts := [], laidByText := true, laidKinds := [.data], laidTests := true, laidLooks := .later }
def PagesBadUptoCardSaid : Prop := Claim7.holds Tryz.pinned (.plain (OpenSpec.upto pagesBadSpec)) pagesBadUptoCard
end Rows
end Go.Proofs.YtjohdbiipeedkabGreatDoor
