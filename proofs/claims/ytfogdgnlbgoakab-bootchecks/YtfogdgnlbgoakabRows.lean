/-
  No cell of these rows narrows 'for every input' (looked for: loops, veiled, ifaces, maps, wideKeys, modest, calm, conditions, laid).
  DERIVED. THE GIVEN ROWS OF THIS SEAT. 6 by the template 'for every input the law returns true; each argument reads behind the call as it read before'; 0 by the template 'total and deterministic' (their statements: YtfogdgnlbgoakabTotals.lean).
  GIVEN WITH THE SEED: the statements are not yours to turn. If you find one false, say at which input.
  Laid BY PROGRAM, IN A SANDBOX (cutbox-rows.mjs): the forced cells as the released guide's own fill.sh prints them over the translation 956890f703a61c38… (all of the seat's roots in one cut). By AI agents, Wed Nov 11 2026. No macro, syntax, notation, axiom, sorry.
-/
import Derived.Test.YtfogdgnlbgoakabChecked
import GoSem.Claim
import GoSem.ClaimJoined
import GoSem.ClaimMapViews
import Derived.JoinedTies
import Derived.KernelRfl
namespace Go.Proofs.Ytfogdgnlbgoakab
/- THE CELL 'sum', in the pinned program and in every row, IS THE sha256 OF THE DUMP (.gsa) THAT YtfogdgnlbgoakabProg.lean LOADS. Nothing in Lean hashes anything: it is a label: what it is worth is what the hold of that sum in a sandbox is worth. -/
noncomputable def Try.pinned : Pinned := { name := "ytfogdgnlbgoakab", sum := "956890f703a61c389f5a0a3dd27381ffc6c5e0f43a2729ad3bcc758836390dcd", checked := Try.checked }
namespace Rows
def none {H : Type} : Left H := { results := [], args := [] }

/-- 'paddockkeep.StoreLoads': WHATEVER THE INPUT: true; the input reads as it did. -/
def storeLoadsSpec : ChangeSpec := { name := "storeLoads", fn := fun _ => fun
  | [d1, d2, d3, d4] => { results := [.lit (.bool true)], args := [d1, d2, d3, d4] }
  | _ => none }
def storeLoadsRow : OpenClaim := { program := "ytfogdgnlbgoakab", sum := "956890f703a61c389f5a0a3dd27381ffc6c5e0f43a2729ad3bcc758836390dcd", func := "paddock/paddockkeep.StoreLoads", spec := "storeLoads", apart := false }
def StoreLoadsSaid : Prop := storeLoadsRow.holds Try.pinned (OpenSpec.ofChange storeLoadsSpec)

/-- ITS FALSE NEIGHBOUR: 'it returns false'. Refute it at one input. -/
def storeLoadsWrong : ChangeSpec := { name := "storeLoads", fn := fun _ => fun
  | [d1, d2, d3, d4] => { results := [.lit (.bool false)], args := [d1, d2, d3, d4] }
  | _ => none }
def StoreLoadsWrongFalsely : Prop := storeLoadsRow.holds Try.pinned (OpenSpec.ofChange storeLoadsWrong)

/-- 'paddockkeep.MoveKeeps': WHATEVER THE INPUT: true; the input reads as it did. -/
def moveKeepsSpec : ChangeSpec := { name := "moveKeeps", fn := fun _ => fun
  | [d1, d2, d3, d4] => { results := [.lit (.bool true)], args := [d1, d2, d3, d4] }
  | _ => none }
def moveKeepsRow : OpenClaim := { program := "ytfogdgnlbgoakab", sum := "956890f703a61c389f5a0a3dd27381ffc6c5e0f43a2729ad3bcc758836390dcd", func := "paddock/paddockkeep.MoveKeeps", spec := "moveKeeps", apart := false }
def MoveKeepsSaid : Prop := moveKeepsRow.holds Try.pinned (OpenSpec.ofChange moveKeepsSpec)

/-- ITS FALSE NEIGHBOUR: 'it returns false'. Refute it at one input. -/
def moveKeepsWrong : ChangeSpec := { name := "moveKeeps", fn := fun _ => fun
  | [d1, d2, d3, d4] => { results := [.lit (.bool false)], args := [d1, d2, d3, d4] }
  | _ => none }
def MoveKeepsWrongFalsely : Prop := moveKeepsRow.holds Try.pinned (OpenSpec.ofChange moveKeepsWrong)

/-- 'paddockkeep.ChainFollows': WHATEVER THE INPUT: true; the input reads as it did. -/
def chainFollowsSpec : ChangeSpec := { name := "chainFollows", fn := fun _ => fun
  | [d1, d2, d3] => { results := [.lit (.bool true)], args := [d1, d2, d3] }
  | _ => none }
def chainFollowsRow : OpenClaim := { program := "ytfogdgnlbgoakab", sum := "956890f703a61c389f5a0a3dd27381ffc6c5e0f43a2729ad3bcc758836390dcd", func := "paddock/paddockkeep.ChainFollows", spec := "chainFollows", apart := false }
def ChainFollowsSaid : Prop := chainFollowsRow.holds Try.pinned (OpenSpec.ofChange chainFollowsSpec)

/-- ITS FALSE NEIGHBOUR: 'it returns false'. Refute it at one input. -/
def chainFollowsWrong : ChangeSpec := { name := "chainFollows", fn := fun _ => fun
  | [d1, d2, d3] => { results := [.lit (.bool false)], args := [d1, d2, d3] }
  | _ => none }
def ChainFollowsWrongFalsely : Prop := chainFollowsRow.holds Try.pinned (OpenSpec.ofChange chainFollowsWrong)

/-- 'paddockkeep.FollowRing': WHATEVER THE INPUT: true; the input reads as it did. -/
def followRingSpec : ChangeSpec := { name := "followRing", fn := fun _ => fun
  | [d] => { results := [.lit (.bool true)], args := [d] }
  | _ => none }
def followRingRow : OpenClaim := { program := "ytfogdgnlbgoakab", sum := "956890f703a61c389f5a0a3dd27381ffc6c5e0f43a2729ad3bcc758836390dcd", func := "paddock/paddockkeep.FollowRing", spec := "followRing", apart := false }
def FollowRingSaid : Prop := followRingRow.holds Try.pinned (OpenSpec.ofChange followRingSpec)

/-- ITS FALSE NEIGHBOUR: 'it returns false'. Refute it at one input. -/
def followRingWrong : ChangeSpec := { name := "followRing", fn := fun _ => fun
  | [d] => { results := [.lit (.bool false)], args := [d] }
  | _ => none }
def FollowRingWrongFalsely : Prop := followRingRow.holds Try.pinned (OpenSpec.ofChange followRingWrong)

/-- 'paddocklaw.BootRegions': WHATEVER THE INPUT: true; the input reads as it did. -/
def bootRegionsSpec : ChangeSpec := { name := "bootRegions", fn := fun _ => fun
  | [d] => { results := [.lit (.bool true)], args := [d] }
  | _ => none }
def bootRegionsRow : OpenClaim := { program := "ytfogdgnlbgoakab", sum := "956890f703a61c389f5a0a3dd27381ffc6c5e0f43a2729ad3bcc758836390dcd", func := "paddock/paddocklaw.BootRegions", spec := "bootRegions", apart := false }
def BootRegionsSaid : Prop := bootRegionsRow.holds Try.pinned (OpenSpec.ofChange bootRegionsSpec)

/-- ITS FALSE NEIGHBOUR: 'it returns false'. Refute it at one input. -/
def bootRegionsWrong : ChangeSpec := { name := "bootRegions", fn := fun _ => fun
  | [d] => { results := [.lit (.bool false)], args := [d] }
  | _ => none }
def BootRegionsWrongFalsely : Prop := bootRegionsRow.holds Try.pinned (OpenSpec.ofChange bootRegionsWrong)

/-- 'paddocklaw.BootChecks': WHATEVER THE INPUT: true; the input reads as it did. -/
def bootChecksSpec : ChangeSpec := { name := "bootChecks", fn := fun _ => fun
  | [d] => { results := [.lit (.bool true)], args := [d] }
  | _ => none }
def bootChecksRow : OpenClaim := { program := "ytfogdgnlbgoakab", sum := "956890f703a61c389f5a0a3dd27381ffc6c5e0f43a2729ad3bcc758836390dcd", func := "paddock/paddocklaw.BootChecks", spec := "bootChecks", apart := false }
def BootChecksSaid : Prop := bootChecksRow.holds Try.pinned (OpenSpec.ofChange bootChecksSpec)

/-- ITS FALSE NEIGHBOUR: 'it returns false'. Refute it at one input. -/
def bootChecksWrong : ChangeSpec := { name := "bootChecks", fn := fun _ => fun
  | [d] => { results := [.lit (.bool false)], args := [d] }
  | _ => none }
def BootChecksWrongFalsely : Prop := bootChecksRow.holds Try.pinned (OpenSpec.ofChange bootChecksWrong)

/- THE SECOND FORM. 'bulk': how many values and letters a reading holds, each counted each time it is reached (what is shared counts as often as it is met; a slice's spare places count too). A statement '..UptoSaid' is the law's where the arguments, and the package variables that the reading takes, are together of bulk at most 1048576: NARROWER than '..Said'. Prove '..Said' where nothing that the law and all that it calls make is longer than what came in: it says more and counts as full. Else prove '..UptoSaid'. A law counts once. -/
mutual
def uptoBulk {H : Type} : DataW H → Nat
  | .lit (.string bytes) => bytes.length + 1
  | .lit _ => 1
  | .nil => 1
  | .ptr d => uptoBulk d + 1
  | .slice elems spare => uptoBulkAll elems + uptoBulkAll spare + 1
  | .agg parts => uptoBulkAll parts + 1
  | .iface _ d => uptoBulk d + 1
  | .map entries => uptoBulkEntries entries + 1
  | .held _ => 1
def uptoBulkAll {H : Type} : List (DataW H) → Nat
  | [] => 0
  | d :: r => uptoBulk d + uptoBulkAll r
def uptoBulkEntries {H : Type} : List (Lit × DataW H) → Nat
  | [] => 0
  | x :: r => uptoBulkEntry x + uptoBulkEntries r
def uptoBulkEntry {H : Type} : Lit × DataW H → Nat
  | (.string bytes, d) => bytes.length + uptoBulk d + 1
  | (_, d) => uptoBulk d + 1
 end
def uptoSmall : (H : Type) → List (DataW H) → Bool := fun _ ds => decide (uptoBulkAll ds ≤ 1048576)
def OpenSpec.upto (s : _root_.Go.ChangeSpec) : _root_.Go.OpenSpec := { _root_.Go.OpenSpec.ofChange s with cond := some uptoSmall }

/-- 'paddockkeep.StoreLoads', WHERE WHAT IT READS IS OF BULK AT MOST 1048576: true; the input reads as it did. -/
def storeLoadsUptoRow : OpenClaim := { program := "ytfogdgnlbgoakab", sum := "956890f703a61c389f5a0a3dd27381ffc6c5e0f43a2729ad3bcc758836390dcd", func := "paddock/paddockkeep.StoreLoads", spec := "storeLoads", apart := false, narrowed := true }
def StoreLoadsUptoSaid : Prop := storeLoadsUptoRow.holds Try.pinned (OpenSpec.upto storeLoadsSpec)

/-- 'paddockkeep.MoveKeeps', WHERE WHAT IT READS IS OF BULK AT MOST 1048576: true; the input reads as it did. -/
def moveKeepsUptoRow : OpenClaim := { program := "ytfogdgnlbgoakab", sum := "956890f703a61c389f5a0a3dd27381ffc6c5e0f43a2729ad3bcc758836390dcd", func := "paddock/paddockkeep.MoveKeeps", spec := "moveKeeps", apart := false, narrowed := true }
def MoveKeepsUptoSaid : Prop := moveKeepsUptoRow.holds Try.pinned (OpenSpec.upto moveKeepsSpec)

/-- 'paddockkeep.ChainFollows', WHERE WHAT IT READS IS OF BULK AT MOST 1048576: true; the input reads as it did. -/
def chainFollowsUptoRow : OpenClaim := { program := "ytfogdgnlbgoakab", sum := "956890f703a61c389f5a0a3dd27381ffc6c5e0f43a2729ad3bcc758836390dcd", func := "paddock/paddockkeep.ChainFollows", spec := "chainFollows", apart := false, narrowed := true }
def ChainFollowsUptoSaid : Prop := chainFollowsUptoRow.holds Try.pinned (OpenSpec.upto chainFollowsSpec)

/-- 'paddockkeep.FollowRing', WHERE WHAT IT READS IS OF BULK AT MOST 1048576: true; the input reads as it did. -/
def followRingUptoRow : OpenClaim := { program := "ytfogdgnlbgoakab", sum := "956890f703a61c389f5a0a3dd27381ffc6c5e0f43a2729ad3bcc758836390dcd", func := "paddock/paddockkeep.FollowRing", spec := "followRing", apart := false, narrowed := true }
def FollowRingUptoSaid : Prop := followRingUptoRow.holds Try.pinned (OpenSpec.upto followRingSpec)

/-- 'paddocklaw.BootRegions', WHERE WHAT IT READS IS OF BULK AT MOST 1048576: true; the input reads as it did. -/
def bootRegionsUptoRow : OpenClaim := { program := "ytfogdgnlbgoakab", sum := "956890f703a61c389f5a0a3dd27381ffc6c5e0f43a2729ad3bcc758836390dcd", func := "paddock/paddocklaw.BootRegions", spec := "bootRegions", apart := false, narrowed := true }
def BootRegionsUptoSaid : Prop := bootRegionsUptoRow.holds Try.pinned (OpenSpec.upto bootRegionsSpec)

/-- 'paddocklaw.BootChecks', WHERE WHAT IT READS IS OF BULK AT MOST 1048576: true; the input reads as it did. -/
def bootChecksUptoRow : OpenClaim := { program := "ytfogdgnlbgoakab", sum := "956890f703a61c389f5a0a3dd27381ffc6c5e0f43a2729ad3bcc758836390dcd", func := "paddock/paddocklaw.BootChecks", spec := "bootChecks", apart := false, narrowed := true }
def BootChecksUptoSaid : Prop := bootChecksUptoRow.holds Try.pinned (OpenSpec.upto bootChecksSpec)

end Rows
end Go.Proofs.Ytfogdgnlbgoakab
