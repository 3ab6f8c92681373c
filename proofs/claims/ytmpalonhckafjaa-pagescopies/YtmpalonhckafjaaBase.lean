/-
  OWN TEXT. Closed facts on the type int.
-/
import Derived.Test.YtmpalonhckafjaaChecked
import Derived.Test.YtmpalonhckafjaaKit
import Derived.Test.YtmpalonhckafjaaArgs
namespace Go.Proofs.Ytmpalonhckafjaa
open Go Go.RowKit Go.Proofs.Ytmpalonhckafjaa.Kit

theorem info_int : (Try.prog.info? 3).map (fun i => (i.zero, i.size, i.bytes)) = some (some (.int .i64 0), 1, 8) := by kernel_rfl
theorem size_int : (Try.prog.info? 3).map (·.size) = some 1 := by kernel_rfl

end Go.Proofs.Ytmpalonhckafjaa
