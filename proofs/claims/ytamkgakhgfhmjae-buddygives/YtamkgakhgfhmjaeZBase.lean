/-
  OWN TEXT. Closed facts on the type api.Block.
-/
import Derived.Test.YtamkgakhgfhmjaeBase
import Derived.Test.YtamkgakhgfhmjaeZRet
namespace Go.Proofs.Ytamkgakhgfhmjae
open Go Go.RowKit Go.Proofs.Ytamkgakhgfhmjae.Kit

theorem info_block : (Try.prog.info? 39).map (fun i => (i.zero, i.size, i.bytes)) = some (some (.agg #[.int .i64 0, .int .i64 0, .int .i64 0]), 3, 24) := by kernel_rfl

theorem size_block : (Try.prog.info? 39).map (·.size) = some 3 := by kernel_rfl

end Go.Proofs.Ytamkgakhgfhmjae
