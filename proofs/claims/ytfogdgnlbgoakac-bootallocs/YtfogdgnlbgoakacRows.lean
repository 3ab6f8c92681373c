/-
  No cell of these rows narrows 'for every input' (looked for: loops, veiled, ifaces, maps, wideKeys, modest, calm, conditions, laid).
  DERIVED. THE GIVEN ROWS OF THIS SEAT. 6 by the template 'for every input the law returns true; each argument reads behind the call as it read before'; 0 by the template 'total and deterministic' (their statements: YtfogdgnlbgoakacTotals.lean).
  GIVEN WITH THE SEED: the statements are not yours to turn. If you find one false, say at which input.
  Laid BY PROGRAM, IN A SANDBOX (cutbox-rows.mjs): the forced cells as the released guide's own fill.sh prints them over the translation 888a26885ba558ef… (all of the seat's roots in one cut). By AI agents, Wed Nov 11 2026. No macro, syntax, notation, axiom, sorry.
-/
import Derived.Test.YtfogdgnlbgoakacChecked
import GoSem.Claim
import GoSem.ClaimJoined
import GoSem.ClaimMapViews
import Derived.JoinedTies
import Derived.KernelRfl
namespace Go.Proofs.Ytfogdgnlbgoakac
/- THE CELL 'sum', in the pinned program and in every row, IS THE sha256 OF THE DUMP (.gsa) THAT YtfogdgnlbgoakacProg.lean LOADS. Nothing in Lean hashes anything: it is a label: what it is worth is what the hold of that sum in a sandbox is worth. -/
noncomputable def Try.pinned : Pinned := { name := "ytfogdgnlbgoakac", sum := "888a26885ba558efbaedad54e880d27a043cdbaaed11079a3e4e211ed5341c0e", checked := Try.checked }
namespace Rows
def none {H : Type} : Left H := { results := [], args := [] }

/-- 'paddocklaw.BootAdds': WHATEVER THE INPUT: true; the input reads as it did. -/
def bootAddsSpec : ChangeSpec := { name := "bootAdds", fn := fun _ => fun
  | [d1, d2] => { results := [.lit (.bool true)], args := [d1, d2] }
  | _ => none }
def bootAddsRow : OpenClaim := { program := "ytfogdgnlbgoakac", sum := "888a26885ba558efbaedad54e880d27a043cdbaaed11079a3e4e211ed5341c0e", func := "paddock/paddocklaw.BootAdds", spec := "bootAdds", unfollowed := true, recurses := true, apart := false }
def BootAddsSaid : Prop := bootAddsRow.holds Try.pinned (OpenSpec.ofChange bootAddsSpec)

/-- ITS FALSE NEIGHBOUR: 'it returns false'. Refute it at one input. -/
def bootAddsWrong : ChangeSpec := { name := "bootAdds", fn := fun _ => fun
  | [d1, d2] => { results := [.lit (.bool false)], args := [d1, d2] }
  | _ => none }
def BootAddsWrongFalsely : Prop := bootAddsRow.holds Try.pinned (OpenSpec.ofChange bootAddsWrong)

/-- 'paddocklaw.BootRemoves': WHATEVER THE INPUT: true; the input reads as it did. -/
def bootRemovesSpec : ChangeSpec := { name := "bootRemoves", fn := fun _ => fun
  | [d1, d2] => { results := [.lit (.bool true)], args := [d1, d2] }
  | _ => none }
def bootRemovesRow : OpenClaim := { program := "ytfogdgnlbgoakac", sum := "888a26885ba558efbaedad54e880d27a043cdbaaed11079a3e4e211ed5341c0e", func := "paddock/paddocklaw.BootRemoves", spec := "bootRemoves", unfollowed := true, recurses := true, apart := false }
def BootRemovesSaid : Prop := bootRemovesRow.holds Try.pinned (OpenSpec.ofChange bootRemovesSpec)

/-- ITS FALSE NEIGHBOUR: 'it returns false'. Refute it at one input. -/
def bootRemovesWrong : ChangeSpec := { name := "bootRemoves", fn := fun _ => fun
  | [d1, d2] => { results := [.lit (.bool false)], args := [d1, d2] }
  | _ => none }
def BootRemovesWrongFalsely : Prop := bootRemovesRow.holds Try.pinned (OpenSpec.ofChange bootRemovesWrong)

/-- 'paddocklaw.BootReserves': WHATEVER THE INPUT: true; the input reads as it did. -/
def bootReservesSpec : ChangeSpec := { name := "bootReserves", fn := fun _ => fun
  | [d1, d2] => { results := [.lit (.bool true)], args := [d1, d2] }
  | _ => none }
def bootReservesRow : OpenClaim := { program := "ytfogdgnlbgoakac", sum := "888a26885ba558efbaedad54e880d27a043cdbaaed11079a3e4e211ed5341c0e", func := "paddock/paddocklaw.BootReserves", spec := "bootReserves", unfollowed := true, recurses := true, apart := false }
def BootReservesSaid : Prop := bootReservesRow.holds Try.pinned (OpenSpec.ofChange bootReservesSpec)

/-- ITS FALSE NEIGHBOUR: 'it returns false'. Refute it at one input. -/
def bootReservesWrong : ChangeSpec := { name := "bootReserves", fn := fun _ => fun
  | [d1, d2] => { results := [.lit (.bool false)], args := [d1, d2] }
  | _ => none }
def BootReservesWrongFalsely : Prop := bootReservesRow.holds Try.pinned (OpenSpec.ofChange bootReservesWrong)

/-- 'paddocklaw.BootFrees': WHATEVER THE INPUT: true; the input reads as it did. -/
def bootFreesSpec : ChangeSpec := { name := "bootFrees", fn := fun _ => fun
  | [d1, d2] => { results := [.lit (.bool true)], args := [d1, d2] }
  | _ => none }
def bootFreesRow : OpenClaim := { program := "ytfogdgnlbgoakac", sum := "888a26885ba558efbaedad54e880d27a043cdbaaed11079a3e4e211ed5341c0e", func := "paddock/paddocklaw.BootFrees", spec := "bootFrees", unfollowed := true, recurses := true, apart := false }
def BootFreesSaid : Prop := bootFreesRow.holds Try.pinned (OpenSpec.ofChange bootFreesSpec)

/-- ITS FALSE NEIGHBOUR: 'it returns false'. Refute it at one input. -/
def bootFreesWrong : ChangeSpec := { name := "bootFrees", fn := fun _ => fun
  | [d1, d2] => { results := [.lit (.bool false)], args := [d1, d2] }
  | _ => none }
def BootFreesWrongFalsely : Prop := bootFreesRow.holds Try.pinned (OpenSpec.ofChange bootFreesWrong)

/-- 'paddocklaw.BootRanges': WHATEVER THE INPUT: true; the input reads as it did. -/
def bootRangesSpec : ChangeSpec := { name := "bootRanges", fn := fun _ => fun
  | [d] => { results := [.lit (.bool true)], args := [d] }
  | _ => none }
def bootRangesRow : OpenClaim := { program := "ytfogdgnlbgoakac", sum := "888a26885ba558efbaedad54e880d27a043cdbaaed11079a3e4e211ed5341c0e", func := "paddock/paddocklaw.BootRanges", spec := "bootRanges", unfollowed := true, recurses := true, apart := false }
def BootRangesSaid : Prop := bootRangesRow.holds Try.pinned (OpenSpec.ofChange bootRangesSpec)

/-- ITS FALSE NEIGHBOUR: 'it returns false'. Refute it at one input. -/
def bootRangesWrong : ChangeSpec := { name := "bootRanges", fn := fun _ => fun
  | [d] => { results := [.lit (.bool false)], args := [d] }
  | _ => none }
def BootRangesWrongFalsely : Prop := bootRangesRow.holds Try.pinned (OpenSpec.ofChange bootRangesWrong)

/-- 'paddocklaw.BootAllocs': WHATEVER THE INPUT: true; the input reads as it did. -/
def bootAllocsSpec : ChangeSpec := { name := "bootAllocs", fn := fun _ => fun
  | [d1, d2, d3, d4, d5, d6] => { results := [.lit (.bool true)], args := [d1, d2, d3, d4, d5, d6] }
  | _ => none }
def bootAllocsRow : OpenClaim := { program := "ytfogdgnlbgoakac", sum := "888a26885ba558efbaedad54e880d27a043cdbaaed11079a3e4e211ed5341c0e", func := "paddock/paddocklaw.BootAllocs", spec := "bootAllocs", unfollowed := true, recurses := true, apart := false }
def BootAllocsSaid : Prop := bootAllocsRow.holds Try.pinned (OpenSpec.ofChange bootAllocsSpec)

/-- ITS FALSE NEIGHBOUR: 'it returns false'. Refute it at one input. -/
def bootAllocsWrong : ChangeSpec := { name := "bootAllocs", fn := fun _ => fun
  | [d1, d2, d3, d4, d5, d6] => { results := [.lit (.bool false)], args := [d1, d2, d3, d4, d5, d6] }
  | _ => none }
def BootAllocsWrongFalsely : Prop := bootAllocsRow.holds Try.pinned (OpenSpec.ofChange bootAllocsWrong)

/- THE SECOND FORM. 'bulk': how many values and letters a reading holds, each counted each time it is reached (what is shared counts as often as it is met; a slice's spare places count too). A statement '..UptoSaid' is the law's where the arguments, and the package variables that the reading takes, are together of bulk at most 1048576: NARROWER than '..Said'. Prove '..Said' where nothing that the law and all that it calls make is longer than what came in: it says more and counts as full. Else prove '..UptoSaid'. A law counts once. -/
mutual
def uptoBulk {H : Type} : DataW H → Nat
  | .lit (.string bytes) => bytes.length + 1
  | .lit _ => 1
  | .nil => 1
  | .ptr d => uptoBulk d + 1
  | .slice elems spare => uptoBulkAll elems + uptoBulkAll spare + 1
  | .agg parts => uptoBulkAll parts + 1
  | .iface _ d => uptoBulk d + 1
  | .map entries => uptoBulkEntries entries + 1
  | .held _ => 1
def uptoBulkAll {H : Type} : List (DataW H) → Nat
  | [] => 0
  | d :: r => uptoBulk d + uptoBulkAll r
def uptoBulkEntries {H : Type} : List (Lit × DataW H) → Nat
  | [] => 0
  | x :: r => uptoBulkEntry x + uptoBulkEntries r
def uptoBulkEntry {H : Type} : Lit × DataW H → Nat
  | (.string bytes, d) => bytes.length + uptoBulk d + 1
  | (_, d) => uptoBulk d + 1
 end
def uptoSmall : (H : Type) → List (DataW H) → Bool := fun _ ds => decide (uptoBulkAll ds ≤ 1048576)
def OpenSpec.upto (s : _root_.Go.ChangeSpec) : _root_.Go.OpenSpec := { _root_.Go.OpenSpec.ofChange s with cond := some uptoSmall }

/-- 'paddocklaw.BootAdds', WHERE WHAT IT READS IS OF BULK AT MOST 1048576: true; the input reads as it did. -/
def bootAddsUptoRow : OpenClaim := { program := "ytfogdgnlbgoakac", sum := "888a26885ba558efbaedad54e880d27a043cdbaaed11079a3e4e211ed5341c0e", func := "paddock/paddocklaw.BootAdds", spec := "bootAdds", unfollowed := true, recurses := true, apart := false, narrowed := true }
def BootAddsUptoSaid : Prop := bootAddsUptoRow.holds Try.pinned (OpenSpec.upto bootAddsSpec)

/-- 'paddocklaw.BootRemoves', WHERE WHAT IT READS IS OF BULK AT MOST 1048576: true; the input reads as it did. -/
def bootRemovesUptoRow : OpenClaim := { program := "ytfogdgnlbgoakac", sum := "888a26885ba558efbaedad54e880d27a043cdbaaed11079a3e4e211ed5341c0e", func := "paddock/paddocklaw.BootRemoves", spec := "bootRemoves", unfollowed := true, recurses := true, apart := false, narrowed := true }
def BootRemovesUptoSaid : Prop := bootRemovesUptoRow.holds Try.pinned (OpenSpec.upto bootRemovesSpec)

/-- 'paddocklaw.BootReserves', WHERE WHAT IT READS IS OF BULK AT MOST 1048576: true; the input reads as it did. -/
def bootReservesUptoRow : OpenClaim := { program := "ytfogdgnlbgoakac", sum := "888a26885ba558efbaedad54e880d27a043cdbaaed11079a3e4e211ed5341c0e", func := "paddock/paddocklaw.BootReserves", spec := "bootReserves", unfollowed := true, recurses := true, apart := false, narrowed := true }
def BootReservesUptoSaid : Prop := bootReservesUptoRow.holds Try.pinned (OpenSpec.upto bootReservesSpec)

/-- 'paddocklaw.BootFrees', WHERE WHAT IT READS IS OF BULK AT MOST 1048576: true; the input reads as it did. -/
def bootFreesUptoRow : OpenClaim := { program := "ytfogdgnlbgoakac", sum := "888a26885ba558efbaedad54e880d27a043cdbaaed11079a3e4e211ed5341c0e", func := "paddock/paddocklaw.BootFrees", spec := "bootFrees", unfollowed := true, recurses := true, apart := false, narrowed := true }
def BootFreesUptoSaid : Prop := bootFreesUptoRow.holds Try.pinned (OpenSpec.upto bootFreesSpec)

/-- 'paddocklaw.BootRanges', WHERE WHAT IT READS IS OF BULK AT MOST 1048576: true; the input reads as it did. -/
def bootRangesUptoRow : OpenClaim := { program := "ytfogdgnlbgoakac", sum := "888a26885ba558efbaedad54e880d27a043cdbaaed11079a3e4e211ed5341c0e", func := "paddock/paddocklaw.BootRanges", spec := "bootRanges", unfollowed := true, recurses := true, apart := false, narrowed := true }
def BootRangesUptoSaid : Prop := bootRangesUptoRow.holds Try.pinned (OpenSpec.upto bootRangesSpec)

/-- 'paddocklaw.BootAllocs', WHERE WHAT IT READS IS OF BULK AT MOST 1048576: true; the input reads as it did. -/
def bootAllocsUptoRow : OpenClaim := { program := "ytfogdgnlbgoakac", sum := "888a26885ba558efbaedad54e880d27a043cdbaaed11079a3e4e211ed5341c0e", func := "paddock/paddocklaw.BootAllocs", spec := "bootAllocs", unfollowed := true, recurses := true, apart := false, narrowed := true }
def BootAllocsUptoSaid : Prop := bootAllocsUptoRow.holds Try.pinned (OpenSpec.upto bootAllocsSpec)

end Rows
end Go.Proofs.Ytfogdgnlbgoakac
