/-
  No cell of these rows narrows 'for every input' (looked for: loops, veiled, ifaces, maps, wideKeys, modest, calm, conditions, laid).
  DERIVED. THE GIVEN ROWS OF THIS SEAT. 5 by the template 'for every input the law returns true; each argument reads behind the call as it read before'; 0 by the template 'total and deterministic' (their statements: YtbjlbmofdnkmiaaTotals.lean).
  GIVEN WITH THE SEED: the statements are not yours to turn. If you find one false, say at which input.
  Laid BY PROGRAM, IN A SANDBOX (cutbox-rows.mjs): the forced cells as the released guide's own fill.sh prints them over the translation dfb8b428aa08db7d… (all of the seat's roots in one cut). By AI agents, Wed Nov 11 2026. No macro, syntax, notation, axiom, sorry.
-/
import Derived.Test.YtbjlbmofdnkmiaaChecked
import GoSem.Claim
import GoSem.ClaimJoined
import GoSem.ClaimMapViews
import Derived.JoinedTies
import Derived.KernelRfl
namespace Go.Proofs.Ytbjlbmofdnkmiaa
/- THE CELL 'sum', in the pinned program and in every row, IS THE sha256 OF THE DUMP (.gsa) THAT YtbjlbmofdnkmiaaProg.lean LOADS. Nothing in Lean hashes anything: it is a label: what it is worth is what the hold of that sum in a sandbox is worth. -/
noncomputable def Try.pinned : Pinned := { name := "ytbjlbmofdnkmiaa", sum := "dfb8b428aa08db7d53d56d9a64743b98c31595fdf5f4de67bc8a1d02d4728222", checked := Try.checked }
namespace Rows
def none {H : Type} : Left H := { results := [], args := [] }

/-- 'paddocklaw.PagesNew': WHATEVER THE INPUT: true; the input reads as it did. -/
def pagesNewSpec : ChangeSpec := { name := "pagesNew", fn := fun _ => fun
  | [d1, d2, d3, d4] => { results := [.lit (.bool true)], args := [d1, d2, d3, d4] }
  | _ => none }
def pagesNewRow : OpenClaim := { program := "ytbjlbmofdnkmiaa", sum := "dfb8b428aa08db7d53d56d9a64743b98c31595fdf5f4de67bc8a1d02d4728222", func := "paddock/paddocklaw.PagesNew", spec := "pagesNew", inPlace := ["slices.overlaps[paddock/api.Block]"], unfollowed := true, recurses := true, apart := false }
def PagesNewSaid : Prop := pagesNewRow.holds Try.pinned (OpenSpec.ofChange pagesNewSpec)

/-- ITS FALSE NEIGHBOUR: 'it returns false'. Refute it at one input. -/
def pagesNewWrong : ChangeSpec := { name := "pagesNew", fn := fun _ => fun
  | [d1, d2, d3, d4] => { results := [.lit (.bool false)], args := [d1, d2, d3, d4] }
  | _ => none }
def PagesNewWrongFalsely : Prop := pagesNewRow.holds Try.pinned (OpenSpec.ofChange pagesNewWrong)

/-- 'paddocklaw.PagesChecks': WHATEVER THE INPUT: true; the input reads as it did. -/
def pagesChecksSpec : ChangeSpec := { name := "pagesChecks", fn := fun _ => fun
  | [d] => { results := [.lit (.bool true)], args := [d] }
  | _ => none }
def pagesChecksRow : OpenClaim := { program := "ytbjlbmofdnkmiaa", sum := "dfb8b428aa08db7d53d56d9a64743b98c31595fdf5f4de67bc8a1d02d4728222", func := "paddock/paddocklaw.PagesChecks", spec := "pagesChecks", unfollowed := true, recurses := true, apart := false }
def PagesChecksSaid : Prop := pagesChecksRow.holds Try.pinned (OpenSpec.ofChange pagesChecksSpec)

/-- ITS FALSE NEIGHBOUR: 'it returns false'. Refute it at one input. -/
def pagesChecksWrong : ChangeSpec := { name := "pagesChecks", fn := fun _ => fun
  | [d] => { results := [.lit (.bool false)], args := [d] }
  | _ => none }
def PagesChecksWrongFalsely : Prop := pagesChecksRow.holds Try.pinned (OpenSpec.ofChange pagesChecksWrong)

/-- 'paddocklaw.PagesCopies': WHATEVER THE INPUT: true; the input reads as it did. -/
def pagesCopiesSpec : ChangeSpec := { name := "pagesCopies", fn := fun _ => fun
  | [d] => { results := [.lit (.bool true)], args := [d] }
  | _ => none }
def pagesCopiesRow : OpenClaim := { program := "ytbjlbmofdnkmiaa", sum := "dfb8b428aa08db7d53d56d9a64743b98c31595fdf5f4de67bc8a1d02d4728222", func := "paddock/paddocklaw.PagesCopies", spec := "pagesCopies", apart := false }
def PagesCopiesSaid : Prop := pagesCopiesRow.holds Try.pinned (OpenSpec.ofChange pagesCopiesSpec)

/-- ITS FALSE NEIGHBOUR: 'it returns false'. Refute it at one input. -/
def pagesCopiesWrong : ChangeSpec := { name := "pagesCopies", fn := fun _ => fun
  | [d] => { results := [.lit (.bool false)], args := [d] }
  | _ => none }
def PagesCopiesWrongFalsely : Prop := pagesCopiesRow.holds Try.pinned (OpenSpec.ofChange pagesCopiesWrong)

/-- 'paddocklaw.PagesFrees': WHATEVER THE INPUT: true; the input reads as it did. -/
def pagesFreesSpec : ChangeSpec := { name := "pagesFrees", fn := fun _ => fun
  | [d1, d2, d3] => { results := [.lit (.bool true)], args := [d1, d2, d3] }
  | _ => none }
def pagesFreesRow : OpenClaim := { program := "ytbjlbmofdnkmiaa", sum := "dfb8b428aa08db7d53d56d9a64743b98c31595fdf5f4de67bc8a1d02d4728222", func := "paddock/paddocklaw.PagesFrees", spec := "pagesFrees", inPlace := ["slices.overlaps[paddock/api.Block]", "slices.overlaps[paddock/api.List]"], unfollowed := true, recurses := true, apart := false }
def PagesFreesSaid : Prop := pagesFreesRow.holds Try.pinned (OpenSpec.ofChange pagesFreesSpec)

/-- ITS FALSE NEIGHBOUR: 'it returns false'. Refute it at one input. -/
def pagesFreesWrong : ChangeSpec := { name := "pagesFrees", fn := fun _ => fun
  | [d1, d2, d3] => { results := [.lit (.bool false)], args := [d1, d2, d3] }
  | _ => none }
def PagesFreesWrongFalsely : Prop := pagesFreesRow.holds Try.pinned (OpenSpec.ofChange pagesFreesWrong)

/-- 'paddocklaw.PagesDrains': WHATEVER THE INPUT: true; the input reads as it did. -/
def pagesDrainsSpec : ChangeSpec := { name := "pagesDrains", fn := fun _ => fun
  | [d] => { results := [.lit (.bool true)], args := [d] }
  | _ => none }
def pagesDrainsRow : OpenClaim := { program := "ytbjlbmofdnkmiaa", sum := "dfb8b428aa08db7d53d56d9a64743b98c31595fdf5f4de67bc8a1d02d4728222", func := "paddock/paddocklaw.PagesDrains", spec := "pagesDrains", inPlace := ["slices.overlaps[paddock/api.Block]"], unfollowed := true, recurses := true, apart := false }
def PagesDrainsSaid : Prop := pagesDrainsRow.holds Try.pinned (OpenSpec.ofChange pagesDrainsSpec)

/-- ITS FALSE NEIGHBOUR: 'it returns false'. Refute it at one input. -/
def pagesDrainsWrong : ChangeSpec := { name := "pagesDrains", fn := fun _ => fun
  | [d] => { results := [.lit (.bool false)], args := [d] }
  | _ => none }
def PagesDrainsWrongFalsely : Prop := pagesDrainsRow.holds Try.pinned (OpenSpec.ofChange pagesDrainsWrong)

/- THE SECOND FORM. 'bulk': how many values and letters a reading holds, each counted each time it is reached (what is shared counts as often as it is met; a slice's spare places count too). A statement '..UptoSaid' is the law's where the arguments, and the package variables that the reading takes, are together of bulk at most 1048576: NARROWER than '..Said'. Prove '..Said' where nothing that the law and all that it calls make is longer than what came in: it says more and counts as full. Else prove '..UptoSaid'. A law counts once. -/
mutual
def uptoBulk {H : Type} : DataW H → Nat
  | .lit (.string bytes) => bytes.length + 1
  | .lit _ => 1
  | .nil => 1
  | .ptr d => uptoBulk d + 1
  | .slice elems spare => uptoBulkAll elems + uptoBulkAll spare + 1
  | .agg parts => uptoBulkAll parts + 1
  | .iface _ d => uptoBulk d + 1
  | .map entries => uptoBulkEntries entries + 1
  | .held _ => 1
def uptoBulkAll {H : Type} : List (DataW H) → Nat
  | [] => 0
  | d :: r => uptoBulk d + uptoBulkAll r
def uptoBulkEntries {H : Type} : List (Lit × DataW H) → Nat
  | [] => 0
  | x :: r => uptoBulkEntry x + uptoBulkEntries r
def uptoBulkEntry {H : Type} : Lit × DataW H → Nat
  | (.string bytes, d) => bytes.length + uptoBulk d + 1
  | (_, d) => uptoBulk d + 1
 end
def uptoSmall : (H : Type) → List (DataW H) → Bool := fun _ ds => decide (uptoBulkAll ds ≤ 1048576)
def OpenSpec.upto (s : _root_.Go.ChangeSpec) : _root_.Go.OpenSpec := { _root_.Go.OpenSpec.ofChange s with cond := some uptoSmall }

/-- 'paddocklaw.PagesNew', WHERE WHAT IT READS IS OF BULK AT MOST 1048576: true; the input reads as it did. -/
def pagesNewUptoRow : OpenClaim := { program := "ytbjlbmofdnkmiaa", sum := "dfb8b428aa08db7d53d56d9a64743b98c31595fdf5f4de67bc8a1d02d4728222", func := "paddock/paddocklaw.PagesNew", spec := "pagesNew", inPlace := ["slices.overlaps[paddock/api.Block]"], unfollowed := true, recurses := true, apart := false, narrowed := true }
def PagesNewUptoSaid : Prop := pagesNewUptoRow.holds Try.pinned (OpenSpec.upto pagesNewSpec)

/-- 'paddocklaw.PagesChecks', WHERE WHAT IT READS IS OF BULK AT MOST 1048576: true; the input reads as it did. -/
def pagesChecksUptoRow : OpenClaim := { program := "ytbjlbmofdnkmiaa", sum := "dfb8b428aa08db7d53d56d9a64743b98c31595fdf5f4de67bc8a1d02d4728222", func := "paddock/paddocklaw.PagesChecks", spec := "pagesChecks", unfollowed := true, recurses := true, apart := false, narrowed := true }
def PagesChecksUptoSaid : Prop := pagesChecksUptoRow.holds Try.pinned (OpenSpec.upto pagesChecksSpec)

/-- 'paddocklaw.PagesCopies', WHERE WHAT IT READS IS OF BULK AT MOST 1048576: true; the input reads as it did. -/
def pagesCopiesUptoRow : OpenClaim := { program := "ytbjlbmofdnkmiaa", sum := "dfb8b428aa08db7d53d56d9a64743b98c31595fdf5f4de67bc8a1d02d4728222", func := "paddock/paddocklaw.PagesCopies", spec := "pagesCopies", apart := false, narrowed := true }
def PagesCopiesUptoSaid : Prop := pagesCopiesUptoRow.holds Try.pinned (OpenSpec.upto pagesCopiesSpec)

/-- 'paddocklaw.PagesFrees', WHERE WHAT IT READS IS OF BULK AT MOST 1048576: true; the input reads as it did. -/
def pagesFreesUptoRow : OpenClaim := { program := "ytbjlbmofdnkmiaa", sum := "dfb8b428aa08db7d53d56d9a64743b98c31595fdf5f4de67bc8a1d02d4728222", func := "paddock/paddocklaw.PagesFrees", spec := "pagesFrees", inPlace := ["slices.overlaps[paddock/api.Block]", "slices.overlaps[paddock/api.List]"], unfollowed := true, recurses := true, apart := false, narrowed := true }
def PagesFreesUptoSaid : Prop := pagesFreesUptoRow.holds Try.pinned (OpenSpec.upto pagesFreesSpec)

/-- 'paddocklaw.PagesDrains', WHERE WHAT IT READS IS OF BULK AT MOST 1048576: true; the input reads as it did. -/
def pagesDrainsUptoRow : OpenClaim := { program := "ytbjlbmofdnkmiaa", sum := "dfb8b428aa08db7d53d56d9a64743b98c31595fdf5f4de67bc8a1d02d4728222", func := "paddock/paddocklaw.PagesDrains", spec := "pagesDrains", inPlace := ["slices.overlaps[paddock/api.Block]"], unfollowed := true, recurses := true, apart := false, narrowed := true }
def PagesDrainsUptoSaid : Prop := pagesDrainsUptoRow.holds Try.pinned (OpenSpec.upto pagesDrainsSpec)

end Rows
end Go.Proofs.Ytbjlbmofdnkmiaa
