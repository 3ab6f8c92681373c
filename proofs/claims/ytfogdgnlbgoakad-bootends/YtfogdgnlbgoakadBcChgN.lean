/-
  OWN TEXT. Contracts of the code: boot.change where it refuses.
-/
import Derived.Test.YtfogdgnlbgoakadBcCheck
import Derived.Test.YtfogdgnlbgoakadBcChg0
namespace Go.Proofs.Ytfogdgnlbgoakad
open Go Go.RowKit Go.Proofs.Ytfogdgnlbgoakad.Kit

set_option maxHeartbeats 1000000 in
theorem chg_state (w : World) (mo : Option Addr) (mn mc : Nat) (M : List (Int × Int)) (ro : Option Addr) (rn rc : Nat) (R : List (Int × Int)) (f s : Int) (rb F : Nat) (hm : Regs w mo mn M) (hr : Regs w ro rn R) (q0 : w.cell? ⟨rb, 0, none⟩ = some (.int .i64 f)) (q1 : w.cell? ⟨rb, 1, none⟩ = some (.int .i64 s)) (tm : TopL M) (tr : TopL R) (h : ¬ (MayP M ∧ MayP R)) :
    Calls Try.prog 28 #[.agg #[.slice mo mn mc, .slice ro rn rc], .agg #[.int .i64 f, .int .i64 s], .func (.func F) #[] #[.pointer (some ⟨rb, 0, none⟩)]] w fun e w' => e = .returned (.tuple #[.agg #[.slice none 0 0, .slice none 0 0], .int .i64 8]) ∧ Below w.heap.size w w' := by
  have I0 := cgInv_first w mo mn mc M ro rn rc R f s rb hm hr q0 q1
  clear hm hr q0 q1
  go_enter Try.func28, Try.ntmps28
  go_wp2_with fail
  go_at_call 10
  refine (cCheck_no _ mo mn mc M ro rn rc R I0.m I0.r tm tr h).mono ?_
  rintro e w1 ⟨rfl, hb1⟩
  have I1 := I0.step hb1
  obtain ⟨⟨x0, d0⟩, ⟨x1, d1⟩, z0, z1⟩ := I1.res
  have hB := I1.b
  clear I0 I1 h hb1 tm tr
  go_wp2
  obtain ⟨k0, k1⟩ := res2 d0 d1 (.slice none 0 0) (.slice none 0 0)
  exact bodyPost_ret (v := .tuple #[.agg #[.slice none 0 0, .slice none 0 0], .int .i64 8]) (by simp [results, Try.results28, go_sem, k0, k1]) rfl ⟨rfl, below2 hB (by omega) _ _⟩

set_option maxHeartbeats 1000000 in
theorem chg_range (w : World) (mo : Option Addr) (mn mc : Nat) (M : List (Int × Int)) (ro : Option Addr) (rn rc : Nat) (R : List (Int × Int)) (f s : Int) (rb F : Nat) (hm : Regs w mo mn M) (hr : Regs w ro rn R) (q0 : w.cell? ⟨rb, 0, none⟩ = some (.int .i64 f)) (q1 : w.cell? ⟨rb, 1, none⟩ = some (.int .i64 s)) (hM : MayP M ∧ MayP R) (hs : s ≤ 9223372036854775807) (h : ¬ regOk (f, s)) :
    Calls Try.prog 28 #[.agg #[.slice mo mn mc, .slice ro rn rc], .agg #[.int .i64 f, .int .i64 s], .func (.func F) #[] #[.pointer (some ⟨rb, 0, none⟩)]] w fun e w' => e = .returned (.tuple #[.agg #[.slice none 0 0, .slice none 0 0], .int .i64 1]) ∧ Below w.heap.size w w' := by
  have I0 := cgInv_first w mo mn mc M ro rn rc R f s rb hm hr q0 q1
  clear hm hr q0 q1
  go_enter Try.func28, Try.ntmps28
  go_wp2_with fail
  go_at_call 10
  refine (cCheck_ok _ mo mn mc M ro rn rc R I0.m I0.r hM).mono ?_
  rintro e w1 ⟨rfl, hb1⟩
  have I1 := I0.step hb1
  have r0 := I1.r0
  have r1 := I1.r1
  clear I0 hb1 hM
  go_wp2_with fail
  go_at_call 35
  refine (checkRegion_no _ f s hs h).mono ?_
  rintro e w2 ⟨rfl, hb2⟩
  have I2 := I1.step hb2
  obtain ⟨⟨x0, d0⟩, ⟨x1, d1⟩, z0, z1⟩ := I2.res
  have hB := I2.b
  clear I1 I2 h hb2 r0 r1
  go_wp2
  obtain ⟨k0, k1⟩ := res2 d0 d1 (.slice none 0 0) (.slice none 0 0)
  exact bodyPost_ret (v := .tuple #[.agg #[.slice none 0 0, .slice none 0 0], .int .i64 1]) (by simp [results, Try.results28, go_sem, k0, k1]) rfl ⟨rfl, below2 hB (by omega) _ _⟩

end Go.Proofs.Ytfogdgnlbgoakad
