/-
  No cell of these rows narrows 'for every input' (looked for: loops, veiled, ifaces, maps, wideKeys, modest, calm, conditions, laid).
  DERIVED. THE GIVEN ROWS OF THIS SEAT. 4 by the template 'for every input the law returns true; each argument reads behind the call as it read before'; 0 by the template 'total and deterministic' (their statements: YtffhpjjioefaeaeTotals.lean).
  GIVEN WITH THE SEED: the statements are not yours to turn. If you find one false, say at which input.
  Laid BY PROGRAM, IN A SANDBOX (cutbox-rows.mjs): the forced cells as the released guide's own fill.sh prints them over the translation 6aa2f7df49f3540f… (all of the seat's roots in one cut). By AI agents, Wed Nov 11 2026. No macro, syntax, notation, axiom, sorry.
-/
import Derived.Test.YtffhpjjioefaeaeChecked
import GoSem.Claim
import GoSem.ClaimJoined
import GoSem.ClaimMapViews
import Derived.JoinedTies
import Derived.KernelRfl
namespace Go.Proofs.Ytffhpjjioefaeae
/- THE CELL 'sum', in the pinned program and in every row, IS THE sha256 OF THE DUMP (.gsa) THAT YtffhpjjioefaeaeProg.lean LOADS. Nothing in Lean hashes anything: it is a label: what it is worth is what the hold of that sum in a sandbox is worth. -/
noncomputable def Try.pinned : Pinned := { name := "ytffhpjjioefaeae", sum := "6aa2f7df49f3540f7f4bfc046752cedf71974f19f46a91545c08aff38f2825b8", checked := Try.checked }
namespace Rows
def none {H : Type} : Left H := { results := [], args := [] }

/-- 'paddocklaw.BuddyPages': WHATEVER THE INPUT: true; the input reads as it did. -/
def buddyPagesSpec : ChangeSpec := { name := "buddyPages", fn := fun _ => fun
  | [d] => { results := [.lit (.bool true)], args := [d] }
  | _ => none }
def buddyPagesRow : OpenClaim := { program := "ytffhpjjioefaeae", sum := "6aa2f7df49f3540f7f4bfc046752cedf71974f19f46a91545c08aff38f2825b8", func := "paddock/paddocklaw.BuddyPages", spec := "buddyPages", apart := false }
def BuddyPagesSaid : Prop := buddyPagesRow.holds Try.pinned (OpenSpec.ofChange buddyPagesSpec)

/-- ITS FALSE NEIGHBOUR: 'it returns false'. Refute it at one input. -/
def buddyPagesWrong : ChangeSpec := { name := "buddyPages", fn := fun _ => fun
  | [d] => { results := [.lit (.bool false)], args := [d] }
  | _ => none }
def BuddyPagesWrongFalsely : Prop := buddyPagesRow.holds Try.pinned (OpenSpec.ofChange buddyPagesWrong)

/-- 'paddocklaw.BuddyTypes': WHATEVER THE INPUT: true; the input reads as it did. -/
def buddyTypesSpec : ChangeSpec := { name := "buddyTypes", fn := fun _ => fun
  | [d1, d2] => { results := [.lit (.bool true)], args := [d1, d2] }
  | _ => none }
def buddyTypesRow : OpenClaim := { program := "ytffhpjjioefaeae", sum := "6aa2f7df49f3540f7f4bfc046752cedf71974f19f46a91545c08aff38f2825b8", func := "paddock/paddocklaw.BuddyTypes", spec := "buddyTypes", apart := false }
def BuddyTypesSaid : Prop := buddyTypesRow.holds Try.pinned (OpenSpec.ofChange buddyTypesSpec)

/-- ITS FALSE NEIGHBOUR: 'it returns false'. Refute it at one input. -/
def buddyTypesWrong : ChangeSpec := { name := "buddyTypes", fn := fun _ => fun
  | [d1, d2] => { results := [.lit (.bool false)], args := [d1, d2] }
  | _ => none }
def BuddyTypesWrongFalsely : Prop := buddyTypesRow.holds Try.pinned (OpenSpec.ofChange buddyTypesWrong)

/-- 'paddocklaw.BuddyBacks': WHATEVER THE INPUT: true; the input reads as it did. -/
def buddyBacksSpec : ChangeSpec := { name := "buddyBacks", fn := fun _ => fun
  | [d1, d2, d3] => { results := [.lit (.bool true)], args := [d1, d2, d3] }
  | _ => none }
def buddyBacksRow : OpenClaim := { program := "ytffhpjjioefaeae", sum := "6aa2f7df49f3540f7f4bfc046752cedf71974f19f46a91545c08aff38f2825b8", func := "paddock/paddocklaw.BuddyBacks", spec := "buddyBacks", inPlace := ["slices.overlaps[paddock/api.Block]"], unfollowed := true, recurses := true, apart := false }
def BuddyBacksSaid : Prop := buddyBacksRow.holds Try.pinned (OpenSpec.ofChange buddyBacksSpec)

/-- ITS FALSE NEIGHBOUR: 'it returns false'. Refute it at one input. -/
def buddyBacksWrong : ChangeSpec := { name := "buddyBacks", fn := fun _ => fun
  | [d1, d2, d3] => { results := [.lit (.bool false)], args := [d1, d2, d3] }
  | _ => none }
def BuddyBacksWrongFalsely : Prop := buddyBacksRow.holds Try.pinned (OpenSpec.ofChange buddyBacksWrong)

/-- 'paddocklaw.BuddyGives': WHATEVER THE INPUT: true; the input reads as it did. -/
def buddyGivesSpec : ChangeSpec := { name := "buddyGives", fn := fun _ => fun
  | [d1, d2, d3] => { results := [.lit (.bool true)], args := [d1, d2, d3] }
  | _ => none }
def buddyGivesRow : OpenClaim := { program := "ytffhpjjioefaeae", sum := "6aa2f7df49f3540f7f4bfc046752cedf71974f19f46a91545c08aff38f2825b8", func := "paddock/paddocklaw.BuddyGives", spec := "buddyGives", inPlace := ["slices.overlaps[paddock/api.Block]"], unfollowed := true, recurses := true, apart := false }
def BuddyGivesSaid : Prop := buddyGivesRow.holds Try.pinned (OpenSpec.ofChange buddyGivesSpec)

/-- ITS FALSE NEIGHBOUR: 'it returns false'. Refute it at one input. -/
def buddyGivesWrong : ChangeSpec := { name := "buddyGives", fn := fun _ => fun
  | [d1, d2, d3] => { results := [.lit (.bool false)], args := [d1, d2, d3] }
  | _ => none }
def BuddyGivesWrongFalsely : Prop := buddyGivesRow.holds Try.pinned (OpenSpec.ofChange buddyGivesWrong)

/- THE SECOND FORM. 'bulk': how many values and letters a reading holds, each counted each time it is reached (what is shared counts as often as it is met; a slice's spare places count too). A statement '..UptoSaid' is the law's where the arguments, and the package variables that the reading takes, are together of bulk at most 1048576: NARROWER than '..Said'. Prove '..Said' where nothing that the law and all that it calls make is longer than what came in: it says more and counts as full. Else prove '..UptoSaid'. A law counts once. -/
mutual
def uptoBulk {H : Type} : DataW H → Nat
  | .lit (.string bytes) => bytes.length + 1
  | .lit _ => 1
  | .nil => 1
  | .ptr d => uptoBulk d + 1
  | .slice elems spare => uptoBulkAll elems + uptoBulkAll spare + 1
  | .agg parts => uptoBulkAll parts + 1
  | .iface _ d => uptoBulk d + 1
  | .map entries => uptoBulkEntries entries + 1
  | .held _ => 1
def uptoBulkAll {H : Type} : List (DataW H) → Nat
  | [] => 0
  | d :: r => uptoBulk d + uptoBulkAll r
def uptoBulkEntries {H : Type} : List (Lit × DataW H) → Nat
  | [] => 0
  | x :: r => uptoBulkEntry x + uptoBulkEntries r
def uptoBulkEntry {H : Type} : Lit × DataW H → Nat
  | (.string bytes, d) => bytes.length + uptoBulk d + 1
  | (_, d) => uptoBulk d + 1
 end
def uptoSmall : (H : Type) → List (DataW H) → Bool := fun _ ds => decide (uptoBulkAll ds ≤ 1048576)
def OpenSpec.upto (s : _root_.Go.ChangeSpec) : _root_.Go.OpenSpec := { _root_.Go.OpenSpec.ofChange s with cond := some uptoSmall }

/-- 'paddocklaw.BuddyPages', WHERE WHAT IT READS IS OF BULK AT MOST 1048576: true; the input reads as it did. -/
def buddyPagesUptoRow : OpenClaim := { program := "ytffhpjjioefaeae", sum := "6aa2f7df49f3540f7f4bfc046752cedf71974f19f46a91545c08aff38f2825b8", func := "paddock/paddocklaw.BuddyPages", spec := "buddyPages", apart := false, narrowed := true }
def BuddyPagesUptoSaid : Prop := buddyPagesUptoRow.holds Try.pinned (OpenSpec.upto buddyPagesSpec)

/-- 'paddocklaw.BuddyTypes', WHERE WHAT IT READS IS OF BULK AT MOST 1048576: true; the input reads as it did. -/
def buddyTypesUptoRow : OpenClaim := { program := "ytffhpjjioefaeae", sum := "6aa2f7df49f3540f7f4bfc046752cedf71974f19f46a91545c08aff38f2825b8", func := "paddock/paddocklaw.BuddyTypes", spec := "buddyTypes", apart := false, narrowed := true }
def BuddyTypesUptoSaid : Prop := buddyTypesUptoRow.holds Try.pinned (OpenSpec.upto buddyTypesSpec)

/-- 'paddocklaw.BuddyBacks', WHERE WHAT IT READS IS OF BULK AT MOST 1048576: true; the input reads as it did. -/
def buddyBacksUptoRow : OpenClaim := { program := "ytffhpjjioefaeae", sum := "6aa2f7df49f3540f7f4bfc046752cedf71974f19f46a91545c08aff38f2825b8", func := "paddock/paddocklaw.BuddyBacks", spec := "buddyBacks", inPlace := ["slices.overlaps[paddock/api.Block]"], unfollowed := true, recurses := true, apart := false, narrowed := true }
def BuddyBacksUptoSaid : Prop := buddyBacksUptoRow.holds Try.pinned (OpenSpec.upto buddyBacksSpec)

/-- 'paddocklaw.BuddyGives', WHERE WHAT IT READS IS OF BULK AT MOST 1048576: true; the input reads as it did. -/
def buddyGivesUptoRow : OpenClaim := { program := "ytffhpjjioefaeae", sum := "6aa2f7df49f3540f7f4bfc046752cedf71974f19f46a91545c08aff38f2825b8", func := "paddock/paddocklaw.BuddyGives", spec := "buddyGives", inPlace := ["slices.overlaps[paddock/api.Block]"], unfollowed := true, recurses := true, apart := false, narrowed := true }
def BuddyGivesUptoSaid : Prop := buddyGivesUptoRow.holds Try.pinned (OpenSpec.upto buddyGivesSpec)

end Rows
end Go.Proofs.Ytffhpjjioefaeae
