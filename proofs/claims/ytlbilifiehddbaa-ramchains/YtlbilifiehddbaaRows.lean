/-
  No cell of these rows narrows 'for every input' (looked for: loops, veiled, ifaces, maps, wideKeys, modest, calm, conditions, laid).
  DERIVED. THE GIVEN ROWS OF THIS SEAT. 4 by the template 'for every input the law returns true; each argument reads behind the call as it read before'; 0 by the template 'total and deterministic' (their statements: YtlbilifiehddbaaTotals.lean).
  GIVEN WITH THE SEED: the statements are not yours to turn. If you find one false, say at which input.
  Laid BY PROGRAM, IN A SANDBOX (cutbox-rows.mjs): the forced cells as the released guide's own fill.sh prints them over the translation be25acd210ee4f80… (all of the seat's roots in one cut). By AI agents, Wed Nov 11 2026. No macro, syntax, notation, axiom, sorry.
-/
import Derived.Test.YtlbilifiehddbaaChecked
import GoSem.Claim
import GoSem.ClaimJoined
import GoSem.ClaimMapViews
import Derived.JoinedTies
import Derived.KernelRfl
namespace Go.Proofs.Ytlbilifiehddbaa
/- THE CELL 'sum', in the pinned program and in every row, IS THE sha256 OF THE DUMP (.gsa) THAT YtlbilifiehddbaaProg.lean LOADS. Nothing in Lean hashes anything: it is a label: what it is worth is what the hold of that sum in a sandbox is worth. -/
noncomputable def Try.pinned : Pinned := { name := "ytlbilifiehddbaa", sum := "be25acd210ee4f806dc0ca54c144f9a7d6130d69ed98eb52684b7f1c439a753d", checked := Try.checked }
namespace Rows
def none {H : Type} : Left H := { results := [], args := [] }

/-- 'paddocklaw.RamNew': WHATEVER THE INPUT: true; the input reads as it did. -/
def ramNewSpec : ChangeSpec := { name := "ramNew", fn := fun _ => fun
  | [d] => { results := [.lit (.bool true)], args := [d] }
  | _ => none }
def ramNewRow : OpenClaim := { program := "ytlbilifiehddbaa", sum := "be25acd210ee4f806dc0ca54c144f9a7d6130d69ed98eb52684b7f1c439a753d", func := "paddock/paddocklaw.RamNew", spec := "ramNew", apart := false }
def RamNewSaid : Prop := ramNewRow.holds Try.pinned (OpenSpec.ofChange ramNewSpec)

/-- ITS FALSE NEIGHBOUR: 'it returns false'. Refute it at one input. -/
def ramNewWrong : ChangeSpec := { name := "ramNew", fn := fun _ => fun
  | [d] => { results := [.lit (.bool false)], args := [d] }
  | _ => none }
def RamNewWrongFalsely : Prop := ramNewRow.holds Try.pinned (OpenSpec.ofChange ramNewWrong)

/-- 'paddocklaw.RamLoads': WHATEVER THE INPUT: true; the input reads as it did. -/
def ramLoadsSpec : ChangeSpec := { name := "ramLoads", fn := fun _ => fun
  | [d1, d2] => { results := [.lit (.bool true)], args := [d1, d2] }
  | _ => none }
def ramLoadsRow : OpenClaim := { program := "ytlbilifiehddbaa", sum := "be25acd210ee4f806dc0ca54c144f9a7d6130d69ed98eb52684b7f1c439a753d", func := "paddock/paddocklaw.RamLoads", spec := "ramLoads", apart := false }
def RamLoadsSaid : Prop := ramLoadsRow.holds Try.pinned (OpenSpec.ofChange ramLoadsSpec)

/-- ITS FALSE NEIGHBOUR: 'it returns false'. Refute it at one input. -/
def ramLoadsWrong : ChangeSpec := { name := "ramLoads", fn := fun _ => fun
  | [d1, d2] => { results := [.lit (.bool false)], args := [d1, d2] }
  | _ => none }
def RamLoadsWrongFalsely : Prop := ramLoadsRow.holds Try.pinned (OpenSpec.ofChange ramLoadsWrong)

/-- 'paddocklaw.RamStores': WHATEVER THE INPUT: true; the input reads as it did. -/
def ramStoresSpec : ChangeSpec := { name := "ramStores", fn := fun _ => fun
  | [d1, d2, d3] => { results := [.lit (.bool true)], args := [d1, d2, d3] }
  | _ => none }
def ramStoresRow : OpenClaim := { program := "ytlbilifiehddbaa", sum := "be25acd210ee4f806dc0ca54c144f9a7d6130d69ed98eb52684b7f1c439a753d", func := "paddock/paddocklaw.RamStores", spec := "ramStores", apart := false }
def RamStoresSaid : Prop := ramStoresRow.holds Try.pinned (OpenSpec.ofChange ramStoresSpec)

/-- ITS FALSE NEIGHBOUR: 'it returns false'. Refute it at one input. -/
def ramStoresWrong : ChangeSpec := { name := "ramStores", fn := fun _ => fun
  | [d1, d2, d3] => { results := [.lit (.bool false)], args := [d1, d2, d3] }
  | _ => none }
def RamStoresWrongFalsely : Prop := ramStoresRow.holds Try.pinned (OpenSpec.ofChange ramStoresWrong)

/-- 'paddocklaw.RamChains': WHATEVER THE INPUT: true; the input reads as it did. -/
def ramChainsSpec : ChangeSpec := { name := "ramChains", fn := fun _ => fun
  | [d1, d2, d3, d4] => { results := [.lit (.bool true)], args := [d1, d2, d3, d4] }
  | _ => none }
def ramChainsRow : OpenClaim := { program := "ytlbilifiehddbaa", sum := "be25acd210ee4f806dc0ca54c144f9a7d6130d69ed98eb52684b7f1c439a753d", func := "paddock/paddocklaw.RamChains", spec := "ramChains", apart := false }
def RamChainsSaid : Prop := ramChainsRow.holds Try.pinned (OpenSpec.ofChange ramChainsSpec)

/-- ITS FALSE NEIGHBOUR: 'it returns false'. Refute it at one input. -/
def ramChainsWrong : ChangeSpec := { name := "ramChains", fn := fun _ => fun
  | [d1, d2, d3, d4] => { results := [.lit (.bool false)], args := [d1, d2, d3, d4] }
  | _ => none }
def RamChainsWrongFalsely : Prop := ramChainsRow.holds Try.pinned (OpenSpec.ofChange ramChainsWrong)

/- THE SECOND FORM. 'bulk': how many values and letters a reading holds, each counted each time it is reached (what is shared counts as often as it is met; a slice's spare places count too). A statement '..UptoSaid' is the law's where the arguments, and the package variables that the reading takes, are together of bulk at most 1048576: NARROWER than '..Said'. Prove '..Said' where nothing that the law and all that it calls make is longer than what came in: it says more and counts as full. Else prove '..UptoSaid'. A law counts once. -/
mutual
def uptoBulk {H : Type} : DataW H → Nat
  | .lit (.string bytes) => bytes.length + 1
  | .lit _ => 1
  | .nil => 1
  | .ptr d => uptoBulk d + 1
  | .slice elems spare => uptoBulkAll elems + uptoBulkAll spare + 1
  | .agg parts => uptoBulkAll parts + 1
  | .iface _ d => uptoBulk d + 1
  | .map entries => uptoBulkEntries entries + 1
  | .held _ => 1
def uptoBulkAll {H : Type} : List (DataW H) → Nat
  | [] => 0
  | d :: r => uptoBulk d + uptoBulkAll r
def uptoBulkEntries {H : Type} : List (Lit × DataW H) → Nat
  | [] => 0
  | x :: r => uptoBulkEntry x + uptoBulkEntries r
def uptoBulkEntry {H : Type} : Lit × DataW H → Nat
  | (.string bytes, d) => bytes.length + uptoBulk d + 1
  | (_, d) => uptoBulk d + 1
 end
def uptoSmall : (H : Type) → List (DataW H) → Bool := fun _ ds => decide (uptoBulkAll ds ≤ 1048576)
def OpenSpec.upto (s : _root_.Go.ChangeSpec) : _root_.Go.OpenSpec := { _root_.Go.OpenSpec.ofChange s with cond := some uptoSmall }

/-- 'paddocklaw.RamNew', WHERE WHAT IT READS IS OF BULK AT MOST 1048576: true; the input reads as it did. -/
def ramNewUptoRow : OpenClaim := { program := "ytlbilifiehddbaa", sum := "be25acd210ee4f806dc0ca54c144f9a7d6130d69ed98eb52684b7f1c439a753d", func := "paddock/paddocklaw.RamNew", spec := "ramNew", apart := false, narrowed := true }
def RamNewUptoSaid : Prop := ramNewUptoRow.holds Try.pinned (OpenSpec.upto ramNewSpec)

/-- 'paddocklaw.RamLoads', WHERE WHAT IT READS IS OF BULK AT MOST 1048576: true; the input reads as it did. -/
def ramLoadsUptoRow : OpenClaim := { program := "ytlbilifiehddbaa", sum := "be25acd210ee4f806dc0ca54c144f9a7d6130d69ed98eb52684b7f1c439a753d", func := "paddock/paddocklaw.RamLoads", spec := "ramLoads", apart := false, narrowed := true }
def RamLoadsUptoSaid : Prop := ramLoadsUptoRow.holds Try.pinned (OpenSpec.upto ramLoadsSpec)

/-- 'paddocklaw.RamStores', WHERE WHAT IT READS IS OF BULK AT MOST 1048576: true; the input reads as it did. -/
def ramStoresUptoRow : OpenClaim := { program := "ytlbilifiehddbaa", sum := "be25acd210ee4f806dc0ca54c144f9a7d6130d69ed98eb52684b7f1c439a753d", func := "paddock/paddocklaw.RamStores", spec := "ramStores", apart := false, narrowed := true }
def RamStoresUptoSaid : Prop := ramStoresUptoRow.holds Try.pinned (OpenSpec.upto ramStoresSpec)

/-- 'paddocklaw.RamChains', WHERE WHAT IT READS IS OF BULK AT MOST 1048576: true; the input reads as it did. -/
def ramChainsUptoRow : OpenClaim := { program := "ytlbilifiehddbaa", sum := "be25acd210ee4f806dc0ca54c144f9a7d6130d69ed98eb52684b7f1c439a753d", func := "paddock/paddocklaw.RamChains", spec := "ramChains", apart := false, narrowed := true }
def RamChainsUptoSaid : Prop := ramChainsUptoRow.holds Try.pinned (OpenSpec.upto ramChainsSpec)

end Rows
end Go.Proofs.Ytlbilifiehddbaa
