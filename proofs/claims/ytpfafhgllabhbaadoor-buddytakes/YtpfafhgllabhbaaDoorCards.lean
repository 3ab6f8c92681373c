/-
  DERIVED. GIVEN WITH THE SEED: THE CARDS: each row of YtpfafhgllabhbaaDoorRows.lean that lists a variable, with what it lists TIED to the program's text (the seventh form; the later family's looks); each row that meets fmt, with fmt's text TOLD by the authors' own Lean function (tested against real Go, not proved from fmt's source: count such statements apart). THE CARD IS WHAT COUNTS. Prove the row's statement (the work); the ties are given (YtpfafhgllabhbaaDoorTie.lean); close each card by the builder's one call (the guide's Derived/Test/ToyasCard.lean, 'card_holds'). Laid BY PROGRAM, IN A SANDBOX (cutbox-door.mjs). By AI agents, Wed Nov 11 2026. No macro, syntax, notation, axiom, sorry.
-/
import Derived.Test.YtpfafhgllabhbaaDoorRows
import GoSem.ClaimSeven
namespace Go.Proofs.YtpfafhgllabhbaaDoor
namespace Rows

/-- THE TIED CARD OF 'paddocklaw.BuddyTakes'. -/
def buddyTakesCard : Claim7 := { stood := { row := buddyTakesRow, standIns := [], harness := (true, "5dbdaa6e872984be2977b3ad869039f81bfdd6136f6a27221eedee6d4bf402ea"), looks := false }, kinds := [], alts := [], laidByText := true, laidKinds := [.data], laidTests := true, laidLooks := .later }
def BuddyTakesCardSaid : Prop := Claim7.holds Tryd.pinned (.plain (OpenSpec.ofChange buddyTakesSpec)) buddyTakesCard

/-- THE TIED CARD OF 'paddockkeep.ZoneGood'. -/
def zoneGoodCard : Claim7 := { stood := { row := zoneGoodRow, standIns := [], harness := (true, "5dbdaa6e872984be2977b3ad869039f81bfdd6136f6a27221eedee6d4bf402ea"), looks := false }, kinds := [], alts := [], laidByText := true, laidKinds := [.data], laidTests := true, laidLooks := .later }
def ZoneGoodCardSaid : Prop := Claim7.holds Tryd.pinned (.plain (OpenSpec.ofChange zoneGoodSpec)) zoneGoodCard

/-- THE SECOND FORM's CARD OF 'paddocklaw.BuddyTakes'. -/
def buddyTakesUptoCard : Claim7 := { stood := { row := buddyTakesUptoRow, standIns := [], harness := (true, "5dbdaa6e872984be2977b3ad869039f81bfdd6136f6a27221eedee6d4bf402ea"), looks := false }, kinds := [], alts := [], laidByText := true, laidKinds := [.data], laidTests := true, laidLooks := .later }
def BuddyTakesUptoCardSaid : Prop := Claim7.holds Tryd.pinned (.plain (OpenSpec.upto buddyTakesSpec)) buddyTakesUptoCard

/-- THE SECOND FORM's CARD OF 'paddockkeep.ZoneGood'. -/
def zoneGoodUptoCard : Claim7 := { stood := { row := zoneGoodUptoRow, standIns := [], harness := (true, "5dbdaa6e872984be2977b3ad869039f81bfdd6136f6a27221eedee6d4bf402ea"), looks := false }, kinds := [], alts := [], laidByText := true, laidKinds := [.data], laidTests := true, laidLooks := .later }
def ZoneGoodUptoCardSaid : Prop := Claim7.holds Tryd.pinned (.plain (OpenSpec.upto zoneGoodSpec)) zoneGoodUptoCard
end Rows
end Go.Proofs.YtpfafhgllabhbaaDoor
