/-
  OWN TEXT. Contracts of the laws' own: sameBlocks, sameZone at two that hold the same.
-/
import Derived.Test.YtmpalonhckafjaaSameI
import Derived.Test.YtmpalonhckafjaaZKit
namespace Go.Proofs.Ytmpalonhckafjaa
open Go Go.RowKit Go.Proofs.Ytmpalonhckafjaa.Kit

set_option maxHeartbeats 1000000 in
theorem sameBlocks_eq (w : World) (ao bo : Option Addr) (n ca cb : Nat) (l : List Bk) (ha : Blks w ao n l) (hb : Blks w bo n l) :
    Calls Try.prog 29 #[.slice ao n ca, .slice bo n cb] w fun e w' => e = .returned (.bool true) ∧ ∃ d, w' = w.drewN d := by
  have hn := ha.len
  have hr := ha.reach
  have xa := ha.at_
  have xb := hb.at_
  clear ha hb
  go_enter Try.func29, Try.ntmps29
  go_wp2
  go_loopw [5] (fun i wr => ∃ k d : Nat, k ≤ n ∧ i = .int .i64 k ∧ wr = w.drewN d) (fun i _ => n - (intOf i).toNat)
  case atStart => exact ⟨0, 0, Nat.zero_le _, rfl, rfl⟩
  case round =>
    obtain ⟨k, d, hk, rfl, rfl⟩ := hrel
    by_cases hlt : k < n
    · obtain ⟨b1, o1, x, y, u, rfl, c1, c2, c3, hX⟩ := xa.at k (by omega)
      obtain ⟨b2, o2, x', y', u', rfl, d1, d2, d3, hX'⟩ := xb.at k (by omega)
      have hxy : (⟨x, y, u⟩ : Bk) = ⟨x', y', u'⟩ := hX.out.symm.trans hX'.out
      cases hxy
      clear xa xb hX hX'
      go_wp2
      go_quiet (fail)
      go_wp2
      go_roundw
      case rel => exact ⟨k + 1, _, by omega, by go_num, rfl⟩
      case measure => simp [intOf]; omega
    · go_wp2
      go_ret
      exact ⟨rfl, d, rfl⟩

set_option maxHeartbeats 1000000 in
theorem sameZone_eq (w : World) (f t : Int) (f1 f2 t1 t2 : Option Addr) (fn fc1 fc2 tn tc1 tc2 : Nat) (z : Zn) (h1 : ZnAt w f1 fn t1 tn z) (h2 : ZnAt w f2 fn t2 tn z) :
    Calls Try.prog 30 #[.agg #[.int .i64 f, .int .i64 t, .slice f1 fn fc1, .slice t1 tn tc1], .agg #[.int .i64 f, .int .i64 t, .slice f2 fn fc2, .slice t2 tn tc2]] w fun e w' => e = .returned (.bool true) ∧ Below w.heap.size w w' := by
  have hb1 : Below w.heap.size w ((w.alloc (.cells #[.int .i64 f, .int .i64 t, .slice f1 fn fc1, .slice t1 tn tc1] 44)).alloc (.cells #[.int .i64 f, .int .i64 t, .slice f2 fn fc2, .slice t2 tn tc2] 44)) := ((Below.refl _ _).alloc (Nat.le_refl _) _).alloc (by simp) _
  have g1 := h1.below hb1
  have g2 := h2.below hb1
  clear h1 h2
  go_enter Try.func30, Try.ntmps30
  go_wp2_with fail
  go_at_call 29
  refine (sameBlocks_eq _ f1 f2 fn fc1 fc2 z.free g1.free g2.free).mono ?_
  rintro e w1 ⟨rfl, d, rfl⟩
  go_wp2_with fail
  go_at_call 28
  refine (same_eq _ t1 t2 tn tc1 tc2 z.types g1.types.len g1.types.reach (g1.types.at_.below (below_drawn d)) (g2.types.at_.below (below_drawn d))).mono ?_
  rintro e w2 ⟨rfl, d2, rfl⟩
  go_wp2
  go_ret
  exact ⟨rfl, hb1.trans (below_drewN (Below.refl _ _) _)⟩

end Go.Proofs.Ytmpalonhckafjaa
