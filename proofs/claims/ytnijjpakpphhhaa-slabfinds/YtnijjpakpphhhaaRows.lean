/-
  No cell of these rows narrows 'for every input' (looked for: loops, veiled, ifaces, maps, wideKeys, modest, calm, conditions, laid).
  DERIVED. THE GIVEN ROWS OF THIS SEAT. 3 by the template 'for every input the law returns true; each argument reads behind the call as it read before'; 0 by the template 'total and deterministic' (their statements: YtnijjpakpphhhaaTotals.lean).
  GIVEN WITH THE SEED: the statements are not yours to turn. If you find one false, say at which input.
  Laid BY PROGRAM, IN A SANDBOX (cutbox-rows.mjs): the forced cells as the released guide's own fill.sh prints them over the translation b95e4d27e3aa7422… (all of the seat's roots in one cut). By AI agents, Wed Nov 11 2026. No macro, syntax, notation, axiom, sorry.
-/
import Derived.Test.YtnijjpakpphhhaaChecked
import GoSem.Claim
import GoSem.ClaimJoined
import GoSem.ClaimMapViews
import Derived.JoinedTies
import Derived.KernelRfl
namespace Go.Proofs.Ytnijjpakpphhhaa
/- THE CELL 'sum', in the pinned program and in every row, IS THE sha256 OF THE DUMP (.gsa) THAT YtnijjpakpphhhaaProg.lean LOADS. Nothing in Lean hashes anything: it is a label: what it is worth is what the hold of that sum in a sandbox is worth. -/
noncomputable def Try.pinned : Pinned := { name := "ytnijjpakpphhhaa", sum := "b95e4d27e3aa7422940c27a43a49e027a1f1bd613791b4d65be482b678bd2f53", checked := Try.checked }
namespace Rows
def none {H : Type} : Left H := { results := [], args := [] }

/-- 'paddocklaw.SlabChecks': WHATEVER THE INPUT: true; the input reads as it did. -/
def slabChecksSpec : ChangeSpec := { name := "slabChecks", fn := fun _ => fun
  | [d] => { results := [.lit (.bool true)], args := [d] }
  | _ => none }
def slabChecksRow : OpenClaim := { program := "ytnijjpakpphhhaa", sum := "b95e4d27e3aa7422940c27a43a49e027a1f1bd613791b4d65be482b678bd2f53", func := "paddock/paddocklaw.SlabChecks", spec := "slabChecks", unfollowed := true, recurses := true, apart := false }
def SlabChecksSaid : Prop := slabChecksRow.holds Try.pinned (OpenSpec.ofChange slabChecksSpec)

/-- ITS FALSE NEIGHBOUR: 'it returns false'. Refute it at one input. -/
def slabChecksWrong : ChangeSpec := { name := "slabChecks", fn := fun _ => fun
  | [d] => { results := [.lit (.bool false)], args := [d] }
  | _ => none }
def SlabChecksWrongFalsely : Prop := slabChecksRow.holds Try.pinned (OpenSpec.ofChange slabChecksWrong)

/-- 'paddocklaw.SlabCopies': WHATEVER THE INPUT: true; the input reads as it did. -/
def slabCopiesSpec : ChangeSpec := { name := "slabCopies", fn := fun _ => fun
  | [d] => { results := [.lit (.bool true)], args := [d] }
  | _ => none }
def slabCopiesRow : OpenClaim := { program := "ytnijjpakpphhhaa", sum := "b95e4d27e3aa7422940c27a43a49e027a1f1bd613791b4d65be482b678bd2f53", func := "paddock/paddocklaw.SlabCopies", spec := "slabCopies", apart := false }
def SlabCopiesSaid : Prop := slabCopiesRow.holds Try.pinned (OpenSpec.ofChange slabCopiesSpec)

/-- ITS FALSE NEIGHBOUR: 'it returns false'. Refute it at one input. -/
def slabCopiesWrong : ChangeSpec := { name := "slabCopies", fn := fun _ => fun
  | [d] => { results := [.lit (.bool false)], args := [d] }
  | _ => none }
def SlabCopiesWrongFalsely : Prop := slabCopiesRow.holds Try.pinned (OpenSpec.ofChange slabCopiesWrong)

/-- 'paddocklaw.SlabFinds': WHATEVER THE INPUT: true; the input reads as it did. -/
def slabFindsSpec : ChangeSpec := { name := "slabFinds", fn := fun _ => fun
  | [d1, d2] => { results := [.lit (.bool true)], args := [d1, d2] }
  | _ => none }
def slabFindsRow : OpenClaim := { program := "ytnijjpakpphhhaa", sum := "b95e4d27e3aa7422940c27a43a49e027a1f1bd613791b4d65be482b678bd2f53", func := "paddock/paddocklaw.SlabFinds", spec := "slabFinds", unfollowed := true, recurses := true, apart := false }
def SlabFindsSaid : Prop := slabFindsRow.holds Try.pinned (OpenSpec.ofChange slabFindsSpec)

/-- ITS FALSE NEIGHBOUR: 'it returns false'. Refute it at one input. -/
def slabFindsWrong : ChangeSpec := { name := "slabFinds", fn := fun _ => fun
  | [d1, d2] => { results := [.lit (.bool false)], args := [d1, d2] }
  | _ => none }
def SlabFindsWrongFalsely : Prop := slabFindsRow.holds Try.pinned (OpenSpec.ofChange slabFindsWrong)

/- THE SECOND FORM. 'bulk': how many values and letters a reading holds, each counted each time it is reached (what is shared counts as often as it is met; a slice's spare places count too). A statement '..UptoSaid' is the law's where the arguments, and the package variables that the reading takes, are together of bulk at most 1048576: NARROWER than '..Said'. Prove '..Said' where nothing that the law and all that it calls make is longer than what came in: it says more and counts as full. Else prove '..UptoSaid'. A law counts once. -/
mutual
def uptoBulk {H : Type} : DataW H → Nat
  | .lit (.string bytes) => bytes.length + 1
  | .lit _ => 1
  | .nil => 1
  | .ptr d => uptoBulk d + 1
  | .slice elems spare => uptoBulkAll elems + uptoBulkAll spare + 1
  | .agg parts => uptoBulkAll parts + 1
  | .iface _ d => uptoBulk d + 1
  | .map entries => uptoBulkEntries entries + 1
  | .held _ => 1
def uptoBulkAll {H : Type} : List (DataW H) → Nat
  | [] => 0
  | d :: r => uptoBulk d + uptoBulkAll r
def uptoBulkEntries {H : Type} : List (Lit × DataW H) → Nat
  | [] => 0
  | x :: r => uptoBulkEntry x + uptoBulkEntries r
def uptoBulkEntry {H : Type} : Lit × DataW H → Nat
  | (.string bytes, d) => bytes.length + uptoBulk d + 1
  | (_, d) => uptoBulk d + 1
 end
def uptoSmall : (H : Type) → List (DataW H) → Bool := fun _ ds => decide (uptoBulkAll ds ≤ 1048576)
def OpenSpec.upto (s : _root_.Go.ChangeSpec) : _root_.Go.OpenSpec := { _root_.Go.OpenSpec.ofChange s with cond := some uptoSmall }

/-- 'paddocklaw.SlabChecks', WHERE WHAT IT READS IS OF BULK AT MOST 1048576: true; the input reads as it did. -/
def slabChecksUptoRow : OpenClaim := { program := "ytnijjpakpphhhaa", sum := "b95e4d27e3aa7422940c27a43a49e027a1f1bd613791b4d65be482b678bd2f53", func := "paddock/paddocklaw.SlabChecks", spec := "slabChecks", unfollowed := true, recurses := true, apart := false, narrowed := true }
def SlabChecksUptoSaid : Prop := slabChecksUptoRow.holds Try.pinned (OpenSpec.upto slabChecksSpec)

/-- 'paddocklaw.SlabCopies', WHERE WHAT IT READS IS OF BULK AT MOST 1048576: true; the input reads as it did. -/
def slabCopiesUptoRow : OpenClaim := { program := "ytnijjpakpphhhaa", sum := "b95e4d27e3aa7422940c27a43a49e027a1f1bd613791b4d65be482b678bd2f53", func := "paddock/paddocklaw.SlabCopies", spec := "slabCopies", apart := false, narrowed := true }
def SlabCopiesUptoSaid : Prop := slabCopiesUptoRow.holds Try.pinned (OpenSpec.upto slabCopiesSpec)

/-- 'paddocklaw.SlabFinds', WHERE WHAT IT READS IS OF BULK AT MOST 1048576: true; the input reads as it did. -/
def slabFindsUptoRow : OpenClaim := { program := "ytnijjpakpphhhaa", sum := "b95e4d27e3aa7422940c27a43a49e027a1f1bd613791b4d65be482b678bd2f53", func := "paddock/paddocklaw.SlabFinds", spec := "slabFinds", unfollowed := true, recurses := true, apart := false, narrowed := true }
def SlabFindsUptoSaid : Prop := slabFindsUptoRow.holds Try.pinned (OpenSpec.upto slabFindsSpec)

end Rows
end Go.Proofs.Ytnijjpakpphhhaa
