/-
  OWN TEXT. Contract of paddockkeep.region; how many regions there are behind a change.
-/
import Derived.Test.YtfogdgnlbgoakadPicked
import Derived.Test.YtfogdgnlbgoakadBPure
namespace Go.Proofs.Ytfogdgnlbgoakad
open Go Go.RowKit Go.Proofs.Ytfogdgnlbgoakad.Kit

set_option maxHeartbeats 1000000 in
theorem rawRegion_any (w : World) (k a b c : Int) (wa : (Lit.int .i64 a).wf = true) (wb : (Lit.int .i64 b).wf = true) :
    Calls Try.prog 18 #[.agg #[.int .i64 k, .int .i64 a, .int .i64 b, .int .i64 c]] w fun e w' => ∃ f s : Nat, e = .returned (.agg #[.int .i64 f, .int .i64 s]) ∧ 1 ≤ s ∧ s ≤ 40 ∧ f + s ≤ 256 ∧ Below w.heap.size w w' := by
  have hB : Below w.heap.size w ((w.alloc (.cells #[.int .i64 k, .int .i64 a, .int .i64 b, .int .i64 c] 49)).alloc (.cells #[.int .i64 0, .int .i64 0] 35)) := ((Below.refl _ _).alloc (Nat.le_refl _) _).alloc (by simp) _
  go_enter Try.func18, Try.ntmps18
  go_wp2_with fail
  go_at_call 11
  refine (picked_int b _ 40 (by rfl) wb (by omega) (by omega) _).mono ?_
  rintro e w' ⟨⟨r, hr, rfl⟩, rfl⟩
  obtain ⟨s, hs⟩ : ∃ s : Nat, (1 : Int) + r = s := ⟨1 + r, by simp⟩
  have hs1 : 1 ≤ s := by omega
  have hs2 : s ≤ 40 := by omega
  clear wb
  go_wp2_with fail
  go_at_call 11
  refine (picked_int a _ (256 - s + 1) (by omega) wa (by omega) (by omega) _).mono ?_
  rintro e w' ⟨⟨f, hf, rfl⟩, rfl⟩
  clear wa
  go_wp2
  refine bodyPost_ret (v := .agg #[.int .i64 f, .int .i64 s]) (by simp [results, Try.results18, go_sem]) rfl ⟨f, s, rfl, hs1, hs2, by omega, ?_⟩
  exact ((Below.refl _ _).alloc (Nat.le_refl _) _).alloc (by simp) _

end Go.Proofs.Ytfogdgnlbgoakad
