/-
  OWN TEXT. Closed facts on the type api.Block.
-/
import Derived.Test.YtmpalonhckafjaaBase
import Derived.Test.YtmpalonhckafjaaZRet
namespace Go.Proofs.Ytmpalonhckafjaa
open Go Go.RowKit Go.Proofs.Ytmpalonhckafjaa.Kit

theorem info_block : (Try.prog.info? 63).map (fun i => (i.zero, i.size, i.bytes)) = some (some (.agg #[.int .i64 0, .int .i64 0, .int .i64 0]), 3, 24) := by kernel_rfl

theorem size_block : (Try.prog.info? 63).map (·.size) = some 3 := by kernel_rfl

end Go.Proofs.Ytmpalonhckafjaa
