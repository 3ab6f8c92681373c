/-
  OWN TEXT. Contracts of the closures of the law BootAllocates.
-/
import Derived.Test.YtfogdgnlbgoakadKalF1
import Derived.Test.YtfogdgnlbgoakadKalF2
import Derived.Test.YtfogdgnlbgoakadKalF3
import Derived.Test.YtfogdgnlbgoakadCPure
namespace Go.Proofs.Ytfogdgnlbgoakad
open Go Go.RowKit Go.Proofs.Ytfogdgnlbgoakad.Kit

theorem wrap_in (n : Int) (h : -9223372036854775808 ≤ n ∧ n ≤ 9223372036854775807) : wrap64 n = n := by unfold wrap64; omega

set_option maxHeartbeats 1000000 in
theorem alF1_any (W : World) (b1 b2 : Nat) (k n : Nat) (f s : Int) (c1 : W.cell? ⟨b1, 0, none⟩ = some (.int .i64 k)) (c2 : W.cell? ⟨b2, 0, none⟩ = some (.int .i64 n)) (hk1 : 1 ≤ k) (hk : k ≤ 16) (hn : n ≤ 20) (h : regOk (f, s)) :
    Calls Try.prog 13 (#[.agg #[.int .i64 f, .int .i64 s]] ++ #[.pointer (some ⟨b1, 0, none⟩), .pointer (some ⟨b2, 0, none⟩)]) W fun e W' => e = .returned (.bool (fitR k n (f, s))) ∧ Below W.heap.size W W' := by
  have hb0 := below_box W (.cells #[.int .i64 f, .int .i64 s] 35)
  have d1 := keep c1 hb0
  have d2 := keep c2 hb0
  obtain ⟨h1, h2, h3, h4, h5⟩ := h
  dsimp only at h1 h2 h3 h4 h5
  clear c1 c2
  have k0 : ((k : Int) == 0) = false := by simp; omega
  have g1 : 0 ≤ (f + k - 1) / (k : Int) * k := Int.mul_nonneg (Int.ediv_nonneg (by omega) (by omega)) (by omega)
  have g2 : (f + k - 1) / (k : Int) * k ≤ f + k - 1 := Int.ediv_mul_le _ (by omega)
  have HF : Hid (decide (wrap64 (wrap64 ((f + k - 1) / k * k) + n) ≤ f + s) = fitR k n (f, s)) := by
    show _ = _
    rw [wrap_in ((f + k - 1) / (k : Int) * k) (by omega), wrap_in _ (by omega)]
    rfl
  clear g1 g2
  go_enter Try.func13, Try.ntmps13
  go_wp2
  go_quiet (fail)
  go_wp2
  go_ret
  exact ⟨ret_bool HF.out, hb0.trans (below_drewN (Below.refl _ _) _)⟩

set_option maxHeartbeats 1000000 in
theorem alF2_any (W : World) (b1 b2 : Nat) (p n : Nat) (f s : Int) (c1 : W.cell? ⟨b1, 0, none⟩ = some (.int .i64 p)) (c2 : W.cell? ⟨b2, 0, none⟩ = some (.int .i64 n)) (hk : p ≤ 256) (hn : n ≤ 20) (h : regOk (f, s)) :
    Calls Try.prog 15 (#[.agg #[.int .i64 f, .int .i64 s]] ++ #[.pointer (some ⟨b1, 0, none⟩), .pointer (some ⟨b2, 0, none⟩)]) W fun e W' => e = .returned (.bool (insideR p n (f, s))) ∧ Below W.heap.size W W' := by
  have hb0 := below_box W (.cells #[.int .i64 f, .int .i64 s] 35)
  have d1 := keep c1 hb0
  have d2 := keep c2 hb0
  obtain ⟨h1, h2, h3, h4, h5⟩ := h
  dsimp only at h1 h2 h3 h4 h5
  clear c1 c2
  by_cases g1 : f ≤ p
  · have HF : Hid (decide ((p : Int) + n ≤ f + s) = insideR p n (f, s)) := by
      show _ = decide (_ ∧ _)
      simp [g1]
    go_enter Try.func15, Try.ntmps15
    go_wp2
    go_ret
    exact ⟨ret_bool HF.out, hb0⟩
  · have HF : Hid (false = insideR p n (f, s)) := by
      show _ = decide (_ ∧ _)
      simp [g1]
    go_enter Try.func15, Try.ntmps15
    go_wp2
    go_ret
    exact ⟨ret_bool HF.out, hb0⟩

set_option maxHeartbeats 1000000 in
theorem alF3_any (W : World) (b1 b2 : Nat) (p n : Nat) (f s : Int) (c1 : W.cell? ⟨b1, 0, none⟩ = some (.int .i64 p)) (c2 : W.cell? ⟨b2, 0, none⟩ = some (.int .i64 n)) (hk : p ≤ 256) (hn : n ≤ 20) (h : regOk (f, s)) :
    Calls Try.prog 16 (#[.agg #[.int .i64 f, .int .i64 s]] ++ #[.pointer (some ⟨b1, 0, none⟩), .pointer (some ⟨b2, 0, none⟩)]) W fun e W' => e = .returned (.bool (meetR p n (f, s))) ∧ Below W.heap.size W W' := by
  have hb0 := below_box W (.cells #[.int .i64 f, .int .i64 s] 35)
  have d1 := keep c1 hb0
  have d2 := keep c2 hb0
  obtain ⟨h1, h2, h3, h4, h5⟩ := h
  dsimp only at h1 h2 h3 h4 h5
  clear c1 c2
  by_cases g1 : f < (p : Int) + n
  · have HF : Hid (decide ((p : Int) < f + s) = meetR p n (f, s)) := by
      show _ = decide (_ ∧ _)
      simp [g1]
    go_enter Try.func16, Try.ntmps16
    go_wp2
    go_ret
    exact ⟨ret_bool HF.out, hb0⟩
  · have HF : Hid (false = meetR p n (f, s)) := by
      show _ = decide (_ ∧ _)
      simp [g1]
    go_enter Try.func16, Try.ntmps16
    go_wp2
    go_ret
    exact ⟨ret_bool HF.out, hb0⟩

end Go.Proofs.Ytfogdgnlbgoakad
