/-
  OWN TEXT. Contracts of the code: boot.CheckRegion.
-/
import Derived.Test.YtfogdgnlbgoakadBPure
namespace Go.Proofs.Ytfogdgnlbgoakad
open Go Go.RowKit Go.Proofs.Ytfogdgnlbgoakad.Kit

theorem checkRegion_ok (w : World) (f s : Int) (h : regOk (f, s)) :
    Calls Try.prog 35 #[.agg #[.int .i64 f, .int .i64 s]] w fun e w' => e = .returned (.int .i64 0) ∧ Below w.heap.size w w' := by
  obtain ⟨h1, h2, h3, h4, h5⟩ := h
  dsimp only at h1 h2 h3 h4 h5
  have e1 : ¬ s < 1 := by omega
  have e2 : ¬ f < 0 := by omega
  have e3 : ¬ 256 - s < f := by omega
  go_enter Try.func35, Try.ntmps35
  go_wp2
  go_ret
  exact ⟨rfl, below_box _ _⟩

theorem checkRegion_no (w : World) (f s : Int) (hs : s ≤ 9223372036854775807) (h : ¬ regOk (f, s)) :
    Calls Try.prog 35 #[.agg #[.int .i64 f, .int .i64 s]] w fun e w' => e = .returned (.int .i64 1) ∧ Below w.heap.size w w' := by
  unfold regOk at h
  dsimp only at h
  by_cases h1 : s < 1
  · clear h
    go_enter Try.func35, Try.ntmps35
    go_wp2
    go_ret
    exact ⟨rfl, below_box _ _⟩
  · by_cases h2 : f < 0
    · clear h
      go_enter Try.func35, Try.ntmps35
      go_wp2
      go_ret
      exact ⟨rfl, below_box _ _⟩
    · have h3 : 256 - s < f := by omega
      clear h
      go_enter Try.func35, Try.ntmps35
      go_wp2
      go_ret
      exact ⟨rfl, below_box _ _⟩

end Go.Proofs.Ytfogdgnlbgoakad
