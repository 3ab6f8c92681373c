/-
  OWN TEXT. The type of a page's group.
-/
import Derived.Test.YtamkgakhgfhmjaeZPure
namespace Go.Proofs.Ytamkgakhgfhmjae.Kit

/-- The type of the group of a page. -/
def typeZ (z : Zn) (a : Int) : Int := z.types.getD ((a - z.f) / 8).toNat 0

end Go.Proofs.Ytamkgakhgfhmjae.Kit
