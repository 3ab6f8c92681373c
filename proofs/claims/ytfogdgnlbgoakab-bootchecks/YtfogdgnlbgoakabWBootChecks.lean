/-
  OWN TEXT. The walk of the law BootChecks: it returns true and writes nothing that was there.
-/
import Derived.Test.YtfogdgnlbgoakabBcCheck
namespace Go.Proofs.Ytfogdgnlbgoakab
open Go Go.RowKit Go.Proofs.Ytfogdgnlbgoakab.Kit

set_option maxHeartbeats 2000000 in
theorem bootChecks_walk (mo : Option Addr) (mn mc : Nat) (M : List (Int × Int)) (ro : Option Addr) (rn rc : Nat) (R : List (Int × Int)) (w : World) (hm : IsRegs w mo mn mc M) (hr : IsRegs w ro rn rc R) :
    Calls Try.prog 8 #[.agg #[.slice mo mn mc, .slice ro rn rc]] w fun e w' => e = .returned (.bool true) ∧ Below w.heap.size w w' := by
  have hb0 := below_box w (.cells #[.slice mo mn mc, .slice ro rn rc] 43)
  have p0 : (w.alloc (.cells #[.slice mo mn mc, .slice ro rn rc] 43)).cell? ⟨w.heap.size, 0, none⟩ = some (.slice mo mn mc) := by go_simp
  have p1 : (w.alloc (.cells #[.slice mo mn mc, .slice ro rn rc] 43)).cell? ⟨w.heap.size, 1, none⟩ = some (.slice ro rn rc) := by go_simp
  have m0 := hm.regs.below hb0
  have r0 := hr.regs.below hb0
  have tm := hm.top
  have tr := hr.top
  clear hm hr
  by_cases h : MayP M ∧ MayP R
  · have HC := cCheck_ok _ mo mn mc M ro rn rc R m0 r0 h
    have HH : Hid _ := h
    clear h tm tr
    go_enter Try.func8, Try.ntmps8
    go_wp2_with fail
    go_at_call 20
    refine HC.mono ?_
    rintro e w1 ⟨rfl, hb1⟩
    clear HC
    replace p0 := keep p0 hb1
    replace p1 := keep p1 hb1
    have m1 := m0.below hb1
    have r1 := r0.below hb1
    have hB1 := hb0.trans (hb1.mono hb0.size)
    clear m0 r0 hb0 hb1
    go_wp2_with fail
    go_at_call 21
    refine (bootMay_any _ mo mn mc M ro rn rc R m1 r1).mono ?_
    rintro e w2 ⟨⟨r, rfl, h1⟩, hb2⟩
    obtain rfl : r = true := h1.2 HH.out
    clear h1
    go_wp2
    go_ret
    exact ⟨rfl, hB1.trans (hb2.mono hB1.size)⟩
  · have HC := cCheck_no _ mo mn mc M ro rn rc R m0 r0 tm tr h
    have HH : Hid _ := h
    clear h tm tr
    go_enter Try.func8, Try.ntmps8
    go_wp2_with fail
    go_at_call 20
    refine HC.mono ?_
    rintro e w1 ⟨rfl, hb1⟩
    clear HC
    replace p0 := keep p0 hb1
    replace p1 := keep p1 hb1
    have m1 := m0.below hb1
    have r1 := r0.below hb1
    have hB1 := hb0.trans (hb1.mono hb0.size)
    clear m0 r0 hb0 hb1
    go_wp2_with fail
    go_at_call 21
    refine (bootMay_any _ mo mn mc M ro rn rc R m1 r1).mono ?_
    rintro e w2 ⟨⟨r, rfl, h1⟩, hb2⟩
    obtain rfl : r = false := by
      cases r with
      | false => rfl
      | true => exact absurd (h1.1 rfl) HH.out
    clear h1
    go_wp2
    go_ret
    exact ⟨rfl, hB1.trans (hb2.mono hB1.size)⟩

end Go.Proofs.Ytfogdgnlbgoakab
