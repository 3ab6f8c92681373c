/-
  OWN TEXT. Contract of slices.Equal at two slices that hold the same regions: true; the world only draws.
-/
import Derived.Test.YtfogdgnlbgoakadBPure
namespace Go.Proofs.Ytfogdgnlbgoakad
open Go Go.RowKit Go.Proofs.Ytfogdgnlbgoakad.Kit

set_option maxHeartbeats 1000000 in
theorem rEqual_same (w : World) (ao bo : Option Addr) (n ca cb : Nat) (l : List (Int × Int)) (hn : l.length = n) (hr : n * 16 ≤ 140737488351232) (ha : RegsAt w ao l) (hb : RegsAt w bo l) :
    Calls Try.prog 17 #[.slice ao n ca, .slice bo n cb] w fun e w' => e = .returned (.bool true) ∧ ∃ d, w' = w.drewN d := by
  go_enter Try.func17, Try.ntmps17
  go_wp2
  go_loopw [13] (fun i wr => ∃ k d : Nat, k ≤ n ∧ i = .int .i64 k ∧ wr = w.drewN d) (fun i _ => n - (intOf i).toNat)
  case atStart => exact ⟨0, 0, Nat.zero_le _, rfl, rfl⟩
  case round =>
    obtain ⟨k, d, hk, rfl, rfl⟩ := hrel
    by_cases hlt : k < n
    · obtain ⟨b1, o1, x, y, rfl, c1, c2, hX⟩ := ha.at k (by omega)
      obtain ⟨b2, o2, x', y', rfl, d1, d2, hX'⟩ := hb.at k (by omega)
      have hxy : (x, y) = (x', y') := hX.out.symm.trans hX'.out
      cases hxy
      clear ha hb hX hX'
      go_wp2
      go_quiet (fail)
      go_wp2
      go_roundw
      case rel => exact ⟨k + 1, _, by omega, by go_num, rfl⟩
      case measure => simp [intOf]; omega
    · go_wp2
      go_ret
      exact ⟨rfl, d, rfl⟩

end Go.Proofs.Ytfogdgnlbgoakad
