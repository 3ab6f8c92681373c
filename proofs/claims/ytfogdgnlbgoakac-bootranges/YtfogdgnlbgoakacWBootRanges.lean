/-
  OWN TEXT. The walk of the law BootRanges: it returns true and writes nothing that was there.
-/
import Derived.Test.YtfogdgnlbgoakacBcMain
import Derived.Test.YtfogdgnlbgoakacRefN2
import Derived.Test.YtfogdgnlbgoakacSameR
namespace Go.Proofs.Ytfogdgnlbgoakac
open Go Go.RowKit Go.Proofs.Ytfogdgnlbgoakac.Kit

set_option maxHeartbeats 2000000 in
theorem bootRanges_walk (mo : Option Addr) (mn mc : Nat) (M : List (Int × Int)) (ro : Option Addr) (rn rc : Nat) (R : List (Int × Int)) (w : World) (hm : IsRegs w mo mn mc M) (hr : IsRegs w ro rn rc R) :
    Calls Try.prog 7 #[.agg #[.slice mo mn mc, .slice ro rn rc]] w fun e w' => e = .returned (.bool true) ∧ Below w.heap.size w w' := by
  have hb0 := below_box w (.cells #[.slice mo mn mc, .slice ro rn rc] 24)
  have p0 : (w.alloc (.cells #[.slice mo mn mc, .slice ro rn rc] 24)).cell? ⟨w.heap.size, 0, none⟩ = some (.slice mo mn mc) := by go_simp
  have p1 : (w.alloc (.cells #[.slice mo mn mc, .slice ro rn rc] 24)).cell? ⟨w.heap.size, 1, none⟩ = some (.slice ro rn rc) := by go_simp
  have m0 := hm.regs.below hb0
  have r0 := hr.regs.below hb0
  have tm := hm.top
  have tr := hr.top
  clear hm hr
  by_cases h : MayP M ∧ MayP R
  · obtain ⟨D, hD⟩ : ∃ D, drawnAll (freeH M R) = D := ⟨_, rfl⟩
    have HD : Hid (drawnAll (freeH M R) = D) := hD
    clear hD
    have HC := cRanges_ok _ mo mn mc M ro rn rc R m0 r0 h
    rw [HD.out] at HC
    go_enter Try.func7, Try.ntmps7
    go_wp2_with fail
    go_at_call 16
    refine HC.mono ?_
    rintro e w1 ⟨xo, xn, xc, rfl, gx, hb1⟩
    clear HC
    replace p0 := keep p0 hb1
    replace p1 := keep p1 hb1
    have HC := rangesOf_ok w1 mo mn mc M ro rn rc R (m0.below hb1) (r0.below hb1) h
    rw [HD.out] at HC
    have hB1 := hb0.trans (hb1.mono hb0.size)
    clear m0 r0 hb0 hb1
    go_wp2_with fail
    go_at_call 17
    refine HC.mono ?_
    rintro e w2 ⟨yo, yn, yc, rfl, gy, hb2⟩
    clear HC
    obtain rfl : xn = yn := gx.len.symm.trans gy.len
    have gx2 := gx.below hb2
    go_wp2_with fail
    go_at_call 18
    refine (sameRegs_eq w2 xo yo xn xc yc D gx2.len gx2.reach gx2.at_ gy.at_).mono ?_
    rintro e w3 ⟨rfl, d, rfl⟩
    go_wp2
    go_ret
    exact ⟨rfl, hB1.trans ((hb2.mono hB1.size).trans (below_drewN (Below.refl _ _) _))⟩
  · go_enter Try.func7, Try.ntmps7
    go_wp2_with fail
    go_at_call 16
    refine (cRanges_state _ mo mn mc M ro rn rc R m0 r0 tm tr h).mono ?_
    rintro e w1 ⟨rfl, hb1⟩
    replace p0 := keep p0 hb1
    replace p1 := keep p1 hb1
    have m1 := m0.below hb1
    have r1 := r0.below hb1
    have hB1 := hb0.trans (hb1.mono hb0.size)
    clear m0 r0 hb0 hb1
    go_wp2_with fail
    go_at_call 17
    refine (rangesOf_state w1 mo mn mc M ro rn rc R m1 r1 h).mono ?_
    rintro e w2 ⟨rfl, hb2⟩
    go_wp2_with fail
    go_at_call 18
    refine (sameRegs_eq w2 none none 0 0 0 [] rfl (by omega) (RegsAt.nil _ _) (RegsAt.nil _ _)).mono ?_
    rintro e w3 ⟨rfl, d, rfl⟩
    go_wp2
    go_ret
    exact ⟨rfl, hB1.trans ((hb2.mono hB1.size).trans (below_drewN (Below.refl _ _) _))⟩

end Go.Proofs.Ytfogdgnlbgoakac
