/-
  No cell of these rows narrows 'for every input' (looked for: loops, veiled, ifaces, maps, wideKeys, modest, calm, conditions, laid).
  DERIVED. THE GIVEN ROWS OF THIS SEAT. 6 by the template 'for every input the law returns true; each argument reads behind the call as it read before'; 0 by the template 'total and deterministic' (their statements: YtamkgakhgfhmjadTotals.lean).
  GIVEN WITH THE SEED: the statements are not yours to turn. If you find one false, say at which input.
  Laid BY PROGRAM, IN A SANDBOX (cutbox-rows.mjs): the forced cells as the released guide's own fill.sh prints them over the translation 28c450422887b801… (all of the seat's roots in one cut). By AI agents, Wed Nov 11 2026. No macro, syntax, notation, axiom, sorry.
-/
import Derived.Test.YtamkgakhgfhmjadChecked
import GoSem.Claim
import GoSem.ClaimJoined
import GoSem.ClaimMapViews
import Derived.JoinedTies
import Derived.KernelRfl
namespace Go.Proofs.Ytamkgakhgfhmjad
/- THE CELL 'sum', in the pinned program and in every row, IS THE sha256 OF THE DUMP (.gsa) THAT YtamkgakhgfhmjadProg.lean LOADS. Nothing in Lean hashes anything: it is a label: what it is worth is what the hold of that sum in a sandbox is worth. -/
noncomputable def Try.pinned : Pinned := { name := "ytamkgakhgfhmjad", sum := "28c450422887b80115da040b786d7d2a67939d4088edd6e14f3db797c7ff1f08", checked := Try.checked }
namespace Rows
def none {H : Type} : Left H := { results := [], args := [] }

/-- 'paddockkeep.BootPages': WHATEVER THE INPUT: true; the input reads as it did. -/
def bootPagesSpec : ChangeSpec := { name := "bootPages", fn := fun _ => fun
  | [d] => { results := [.lit (.bool true)], args := [d] }
  | _ => none }
def bootPagesRow : OpenClaim := { program := "ytamkgakhgfhmjad", sum := "28c450422887b80115da040b786d7d2a67939d4088edd6e14f3db797c7ff1f08", func := "paddock/paddockkeep.BootPages", spec := "bootPages", unfollowed := true, recurses := true, apart := false }
def BootPagesSaid : Prop := bootPagesRow.holds Try.pinned (OpenSpec.ofChange bootPagesSpec)

/-- ITS FALSE NEIGHBOUR: 'it returns false'. Refute it at one input. -/
def bootPagesWrong : ChangeSpec := { name := "bootPages", fn := fun _ => fun
  | [d] => { results := [.lit (.bool false)], args := [d] }
  | _ => none }
def BootPagesWrongFalsely : Prop := bootPagesRow.holds Try.pinned (OpenSpec.ofChange bootPagesWrong)

/-- 'paddockkeep.BootAllocates': WHATEVER THE INPUT: true; the input reads as it did. -/
def bootAllocatesSpec : ChangeSpec := { name := "bootAllocates", fn := fun _ => fun
  | [d1, d2, d3, d4] => { results := [.lit (.bool true)], args := [d1, d2, d3, d4] }
  | _ => none }
def bootAllocatesRow : OpenClaim := { program := "ytamkgakhgfhmjad", sum := "28c450422887b80115da040b786d7d2a67939d4088edd6e14f3db797c7ff1f08", func := "paddock/paddockkeep.BootAllocates", spec := "bootAllocates", unfollowed := true, recurses := true, apart := false }
def BootAllocatesSaid : Prop := bootAllocatesRow.holds Try.pinned (OpenSpec.ofChange bootAllocatesSpec)

/-- ITS FALSE NEIGHBOUR: 'it returns false'. Refute it at one input. -/
def bootAllocatesWrong : ChangeSpec := { name := "bootAllocates", fn := fun _ => fun
  | [d1, d2, d3, d4] => { results := [.lit (.bool false)], args := [d1, d2, d3, d4] }
  | _ => none }
def BootAllocatesWrongFalsely : Prop := bootAllocatesRow.holds Try.pinned (OpenSpec.ofChange bootAllocatesWrong)

/-- 'paddockkeep.BootEnds': WHATEVER THE INPUT: true; the input reads as it did. -/
def bootEndsSpec : ChangeSpec := { name := "bootEnds", fn := fun _ => fun
  | [d1, d2] => { results := [.lit (.bool true)], args := [d1, d2] }
  | _ => none }
def bootEndsRow : OpenClaim := { program := "ytamkgakhgfhmjad", sum := "28c450422887b80115da040b786d7d2a67939d4088edd6e14f3db797c7ff1f08", func := "paddock/paddockkeep.BootEnds", spec := "bootEnds", unfollowed := true, recurses := true, apart := false }
def BootEndsSaid : Prop := bootEndsRow.holds Try.pinned (OpenSpec.ofChange bootEndsSpec)

/-- ITS FALSE NEIGHBOUR: 'it returns false'. Refute it at one input. -/
def bootEndsWrong : ChangeSpec := { name := "bootEnds", fn := fun _ => fun
  | [d1, d2] => { results := [.lit (.bool false)], args := [d1, d2] }
  | _ => none }
def BootEndsWrongFalsely : Prop := bootEndsRow.holds Try.pinned (OpenSpec.ofChange bootEndsWrong)

/-- 'paddocklaw.BuddyNew': WHATEVER THE INPUT: true; the input reads as it did. -/
def buddyNewSpec : ChangeSpec := { name := "buddyNew", fn := fun _ => fun
  | [d1, d2] => { results := [.lit (.bool true)], args := [d1, d2] }
  | _ => none }
def buddyNewRow : OpenClaim := { program := "ytamkgakhgfhmjad", sum := "28c450422887b80115da040b786d7d2a67939d4088edd6e14f3db797c7ff1f08", func := "paddock/paddocklaw.BuddyNew", spec := "buddyNew", apart := false }
def BuddyNewSaid : Prop := buddyNewRow.holds Try.pinned (OpenSpec.ofChange buddyNewSpec)

/-- ITS FALSE NEIGHBOUR: 'it returns false'. Refute it at one input. -/
def buddyNewWrong : ChangeSpec := { name := "buddyNew", fn := fun _ => fun
  | [d1, d2] => { results := [.lit (.bool false)], args := [d1, d2] }
  | _ => none }
def BuddyNewWrongFalsely : Prop := buddyNewRow.holds Try.pinned (OpenSpec.ofChange buddyNewWrong)

/-- 'paddocklaw.BuddyChecks': WHATEVER THE INPUT: true; the input reads as it did. -/
def buddyChecksSpec : ChangeSpec := { name := "buddyChecks", fn := fun _ => fun
  | [d] => { results := [.lit (.bool true)], args := [d] }
  | _ => none }
def buddyChecksRow : OpenClaim := { program := "ytamkgakhgfhmjad", sum := "28c450422887b80115da040b786d7d2a67939d4088edd6e14f3db797c7ff1f08", func := "paddock/paddocklaw.BuddyChecks", spec := "buddyChecks", apart := false }
def BuddyChecksSaid : Prop := buddyChecksRow.holds Try.pinned (OpenSpec.ofChange buddyChecksSpec)

/-- ITS FALSE NEIGHBOUR: 'it returns false'. Refute it at one input. -/
def buddyChecksWrong : ChangeSpec := { name := "buddyChecks", fn := fun _ => fun
  | [d] => { results := [.lit (.bool false)], args := [d] }
  | _ => none }
def BuddyChecksWrongFalsely : Prop := buddyChecksRow.holds Try.pinned (OpenSpec.ofChange buddyChecksWrong)

/-- 'paddocklaw.BuddyCopies': WHATEVER THE INPUT: true; the input reads as it did. -/
def buddyCopiesSpec : ChangeSpec := { name := "buddyCopies", fn := fun _ => fun
  | [d] => { results := [.lit (.bool true)], args := [d] }
  | _ => none }
def buddyCopiesRow : OpenClaim := { program := "ytamkgakhgfhmjad", sum := "28c450422887b80115da040b786d7d2a67939d4088edd6e14f3db797c7ff1f08", func := "paddock/paddocklaw.BuddyCopies", spec := "buddyCopies", apart := false }
def BuddyCopiesSaid : Prop := buddyCopiesRow.holds Try.pinned (OpenSpec.ofChange buddyCopiesSpec)

/-- ITS FALSE NEIGHBOUR: 'it returns false'. Refute it at one input. -/
def buddyCopiesWrong : ChangeSpec := { name := "buddyCopies", fn := fun _ => fun
  | [d] => { results := [.lit (.bool false)], args := [d] }
  | _ => none }
def BuddyCopiesWrongFalsely : Prop := buddyCopiesRow.holds Try.pinned (OpenSpec.ofChange buddyCopiesWrong)

/- THE SECOND FORM. 'bulk': how many values and letters a reading holds, each counted each time it is reached (what is shared counts as often as it is met; a slice's spare places count too). A statement '..UptoSaid' is the law's where the arguments, and the package variables that the reading takes, are together of bulk at most 1048576: NARROWER than '..Said'. Prove '..Said' where nothing that the law and all that it calls make is longer than what came in: it says more and counts as full. Else prove '..UptoSaid'. A law counts once. -/
mutual
def uptoBulk {H : Type} : DataW H → Nat
  | .lit (.string bytes) => bytes.length + 1
  | .lit _ => 1
  | .nil => 1
  | .ptr d => uptoBulk d + 1
  | .slice elems spare => uptoBulkAll elems + uptoBulkAll spare + 1
  | .agg parts => uptoBulkAll parts + 1
  | .iface _ d => uptoBulk d + 1
  | .map entries => uptoBulkEntries entries + 1
  | .held _ => 1
def uptoBulkAll {H : Type} : List (DataW H) → Nat
  | [] => 0
  | d :: r => uptoBulk d + uptoBulkAll r
def uptoBulkEntries {H : Type} : List (Lit × DataW H) → Nat
  | [] => 0
  | x :: r => uptoBulkEntry x + uptoBulkEntries r
def uptoBulkEntry {H : Type} : Lit × DataW H → Nat
  | (.string bytes, d) => bytes.length + uptoBulk d + 1
  | (_, d) => uptoBulk d + 1
 end
def uptoSmall : (H : Type) → List (DataW H) → Bool := fun _ ds => decide (uptoBulkAll ds ≤ 1048576)
def OpenSpec.upto (s : _root_.Go.ChangeSpec) : _root_.Go.OpenSpec := { _root_.Go.OpenSpec.ofChange s with cond := some uptoSmall }

/-- 'paddockkeep.BootPages', WHERE WHAT IT READS IS OF BULK AT MOST 1048576: true; the input reads as it did. -/
def bootPagesUptoRow : OpenClaim := { program := "ytamkgakhgfhmjad", sum := "28c450422887b80115da040b786d7d2a67939d4088edd6e14f3db797c7ff1f08", func := "paddock/paddockkeep.BootPages", spec := "bootPages", unfollowed := true, recurses := true, apart := false, narrowed := true }
def BootPagesUptoSaid : Prop := bootPagesUptoRow.holds Try.pinned (OpenSpec.upto bootPagesSpec)

/-- 'paddockkeep.BootAllocates', WHERE WHAT IT READS IS OF BULK AT MOST 1048576: true; the input reads as it did. -/
def bootAllocatesUptoRow : OpenClaim := { program := "ytamkgakhgfhmjad", sum := "28c450422887b80115da040b786d7d2a67939d4088edd6e14f3db797c7ff1f08", func := "paddock/paddockkeep.BootAllocates", spec := "bootAllocates", unfollowed := true, recurses := true, apart := false, narrowed := true }
def BootAllocatesUptoSaid : Prop := bootAllocatesUptoRow.holds Try.pinned (OpenSpec.upto bootAllocatesSpec)

/-- 'paddockkeep.BootEnds', WHERE WHAT IT READS IS OF BULK AT MOST 1048576: true; the input reads as it did. -/
def bootEndsUptoRow : OpenClaim := { program := "ytamkgakhgfhmjad", sum := "28c450422887b80115da040b786d7d2a67939d4088edd6e14f3db797c7ff1f08", func := "paddock/paddockkeep.BootEnds", spec := "bootEnds", unfollowed := true, recurses := true, apart := false, narrowed := true }
def BootEndsUptoSaid : Prop := bootEndsUptoRow.holds Try.pinned (OpenSpec.upto bootEndsSpec)

/-- 'paddocklaw.BuddyNew', WHERE WHAT IT READS IS OF BULK AT MOST 1048576: true; the input reads as it did. -/
def buddyNewUptoRow : OpenClaim := { program := "ytamkgakhgfhmjad", sum := "28c450422887b80115da040b786d7d2a67939d4088edd6e14f3db797c7ff1f08", func := "paddock/paddocklaw.BuddyNew", spec := "buddyNew", apart := false, narrowed := true }
def BuddyNewUptoSaid : Prop := buddyNewUptoRow.holds Try.pinned (OpenSpec.upto buddyNewSpec)

/-- 'paddocklaw.BuddyChecks', WHERE WHAT IT READS IS OF BULK AT MOST 1048576: true; the input reads as it did. -/
def buddyChecksUptoRow : OpenClaim := { program := "ytamkgakhgfhmjad", sum := "28c450422887b80115da040b786d7d2a67939d4088edd6e14f3db797c7ff1f08", func := "paddock/paddocklaw.BuddyChecks", spec := "buddyChecks", apart := false, narrowed := true }
def BuddyChecksUptoSaid : Prop := buddyChecksUptoRow.holds Try.pinned (OpenSpec.upto buddyChecksSpec)

/-- 'paddocklaw.BuddyCopies', WHERE WHAT IT READS IS OF BULK AT MOST 1048576: true; the input reads as it did. -/
def buddyCopiesUptoRow : OpenClaim := { program := "ytamkgakhgfhmjad", sum := "28c450422887b80115da040b786d7d2a67939d4088edd6e14f3db797c7ff1f08", func := "paddock/paddocklaw.BuddyCopies", spec := "buddyCopies", apart := false, narrowed := true }
def BuddyCopiesUptoSaid : Prop := buddyCopiesUptoRow.holds Try.pinned (OpenSpec.upto buddyCopiesSpec)

end Rows
end Go.Proofs.Ytamkgakhgfhmjad
