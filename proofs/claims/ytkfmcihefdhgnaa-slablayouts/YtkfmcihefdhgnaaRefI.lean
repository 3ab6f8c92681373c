/-
  OWN TEXT. Contract of the document's answer: In.
-/
import Derived.Test.YtkfmcihefdhgnaaBase
namespace Go.Proofs.Ytkfmcihefdhgnaa
open Go Go.RowKit Go.Proofs.Ytkfmcihefdhgnaa.Kit

theorem in_any (n lo hi : Int) (w : World) :
    Calls Try.prog 10 #[.int .i64 n, .int .i64 lo, .int .i64 hi] w fun e w' => e = .returned (.bool (inB n lo hi)) ∧ w = w' := by
  by_cases h1 : lo ≤ n
  · by_cases h2 : n ≤ hi
    · have hI : Hid (inB n lo hi = true) := inB_t ⟨h1, h2⟩
      go_enter Try.func10, Try.ntmps10
      go_wp2
      go_ret
      exact ⟨ret_bool hI.out.symm, rfl⟩
    · have hI : Hid (inB n lo hi = false) := inB_f (by omega)
      go_enter Try.func10, Try.ntmps10
      go_wp2
      go_ret
      exact ⟨ret_bool hI.out.symm, rfl⟩
  · have hI : Hid (inB n lo hi = false) := inB_f (by omega)
    go_enter Try.func10, Try.ntmps10
    go_wp2
    go_ret
    exact ⟨ret_bool hI.out.symm, rfl⟩

end Go.Proofs.Ytkfmcihefdhgnaa
