/-
  OWN TEXT. Closed facts on the type int.
-/
import Derived.Test.YtkfmcihefdhgnaaChecked
import Derived.Test.YtkfmcihefdhgnaaKit
import Derived.Test.YtkfmcihefdhgnaaArgs
namespace Go.Proofs.Ytkfmcihefdhgnaa
open Go Go.RowKit Go.Proofs.Ytkfmcihefdhgnaa.Kit

theorem info_int : (Try.prog.info? 3).map (fun i => (i.zero, i.size, i.bytes)) = some (some (.int .i64 0), 1, 8) := by kernel_rfl
theorem size_int : (Try.prog.info? 3).map (·.size) = some 1 := by kernel_rfl

end Go.Proofs.Ytkfmcihefdhgnaa
