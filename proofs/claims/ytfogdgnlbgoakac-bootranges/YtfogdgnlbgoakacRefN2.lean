/-
  OWN TEXT. Contracts of the document's answer: RangesOf and its closure.
-/
import Derived.Test.YtfogdgnlbgoakacRefDr
import Derived.Test.YtfogdgnlbgoakacRefM
namespace Go.Proofs.Ytfogdgnlbgoakac
open Go Go.RowKit Go.Proofs.Ytfogdgnlbgoakac.Kit

/-- A page is free. -/
def freeH (M R : List (Int × Int)) (p : Int) : Bool := inL M p && !inL R p

set_option maxHeartbeats 1000000 in
theorem rangesF_any (W : World) (bb : Nat) (mo : Option Addr) (mn mc : Nat) (M : List (Int × Int)) (ro : Option Addr) (rn rc : Nat) (R : List (Int × Int)) (hm : Regs W mo mn M) (hr : Regs W ro rn R) (hM : MayP M) (hR : MayP R)
    (c0 : W.cell? ⟨bb, 0, none⟩ = some (.slice mo mn mc)) (c1 : W.cell? ⟨bb, 1, none⟩ = some (.slice ro rn rc)) (p : Int) :
    Calls Try.prog 37 (#[.int .i64 p] ++ #[.pointer (some ⟨bb, 0, none⟩)]) W fun e W' => e = .returned (.bool (freeH M R p)) ∧ ∃ d, W' = W.drewN d := by
  have hm40 : mn ≤ 40 := by have := hM.len; have := hm.len; omega
  have hr40 : rn ≤ 40 := by have := hR.len; have := hr.len; omega
  have hok1 := hM.ok
  have hok2 := hR.ok
  have l1 := hm.len
  have l2 := hr.len
  have a1 := hm.at_
  have a2 := hr.at_
  clear hM hR hm hr
  go_enter Try.func37, Try.ntmps37
  go_wp2_with fail
  go_at_call 29
  refine (inR_any _ mo mn mc M l1 hm40 a1 hok1 p).mono ?_
  rintro e w1 ⟨rfl, d, rfl⟩
  by_cases h1 : inL M p = true
  · go_wp2_with fail
    go_at_call 29
    refine (inR_any _ ro rn rc R l2 hr40 (a2.below (below_drawn d)) hok2 p).mono ?_
    rintro e w2 ⟨rfl, d2, rfl⟩
    have HF : Hid (freeH M R p = !inL R p) := by show _ = _; unfold freeH; rw [h1]; rfl
    clear hok1 hok2 a1 a2
    go_wp2
    go_ret
    exact ⟨ret_bool HF.out.symm, d + d2, rfl⟩
  · have h1' : inL M p = false := by simpa using h1
    have HF : Hid (freeH M R p = false) := by show _ = _; unfold freeH; rw [h1']; rfl
    clear hok1 hok2 a1 a2 h1
    go_wp2
    go_ret
    exact ⟨ret_bool HF.out.symm, d, rfl⟩

set_option maxHeartbeats 1000000 in
theorem rangesOf_state (w : World) (mo : Option Addr) (mn mc : Nat) (M : List (Int × Int)) (ro : Option Addr) (rn rc : Nat) (R : List (Int × Int)) (hm : Regs w mo mn M) (hr : Regs w ro rn R) (h : ¬ (MayP M ∧ MayP R)) :
    Calls Try.prog 17 #[.agg #[.slice mo mn mc, .slice ro rn rc]] w fun e w' => e = .returned (.tuple #[.slice none 0 0, .int .i64 8]) ∧ Below w.heap.size w w' := by
  have hb0 := below_box w (.cells #[.slice mo mn mc, .slice ro rn rc] 24)
  go_enter Try.func17, Try.ntmps17
  go_wp2_with fail
  go_at_call 24
  refine (bootMay_any _ mo mn mc M ro rn rc R (hm.below hb0) (hr.below hb0)).mono ?_
  rintro e w1 ⟨⟨b, rfl, hb⟩, hb1⟩
  have hbf : b = false := by
    cases b with
    | false => rfl
    | true => exact absurd (hb.1 rfl) h
  subst hbf
  clear h hb hm hr
  go_wp2
  go_ret2
  exact ⟨rfl, hb0.trans (hb1.mono hb0.size)⟩

set_option maxHeartbeats 1000000 in
theorem rangesOf_ok (w : World) (mo : Option Addr) (mn mc : Nat) (M : List (Int × Int)) (ro : Option Addr) (rn rc : Nat) (R : List (Int × Int)) (hm : Regs w mo mn M) (hr : Regs w ro rn R) (h : MayP M ∧ MayP R) :
    Calls Try.prog 17 #[.agg #[.slice mo mn mc, .slice ro rn rc]] w fun e w' => ∃ bo n c, e = .returned (.tuple #[.slice bo n c, .int .i64 0]) ∧ Regs w' bo n (drawnAll (freeH M R)) ∧ Below w.heap.size w w' := by
  have hb0 := below_box w (.cells #[.slice mo mn mc, .slice ro rn rc] 24)
  have c0 : (w.alloc (.cells #[.slice mo mn mc, .slice ro rn rc] 24)).cell? ⟨w.heap.size, 0, none⟩ = some (.slice mo mn mc) := by go_simp
  have c1 : (w.alloc (.cells #[.slice mo mn mc, .slice ro rn rc] 24)).cell? ⟨w.heap.size, 1, none⟩ = some (.slice ro rn rc) := by go_simp
  obtain ⟨D, hD⟩ : ∃ D, drawnAll (freeH M R) = D := ⟨_, rfl⟩
  have hlen : D.length ≤ 256 := by rw [← hD, ← drawn_all _ 256 rfl]; exact drawn_len _ 256
  rw [hD]
  have HD : Hid (drawnAll (freeH M R) = D) := hD
  clear hD
  go_enter Try.func17, Try.ntmps17
  go_wp2_with fail
  go_at_call 24
  refine (bootMay_any _ mo mn mc M ro rn rc R (hm.below hb0) (hr.below hb0)).mono ?_
  rintro e w1 ⟨⟨b, rfl, hb⟩, hb1⟩
  have hbt : b = true := hb.2 h
  subst hbt
  have hm1 := (hm.below hb0).below hb1
  have hr1 := (hr.below hb0).below hb1
  have d0 := keep c0 hb1
  have d1 := keep c1 hb1
  have hB := hb0.trans (hb1.mono hb0.size)
  have hH : HoldsAt 37 #[.pointer (some ⟨w.heap.size, 0, none⟩)] (freeH M R) w1 := fun p W _ _ hbW =>
    rangesF_any W _ mo mn mc M ro rn rc R (hm1.below hbW) (hr1.below hbW) h.1 h.2 (keep d0 hbW) (keep d1 hbW) p
  have HC := drawn_ranges w1 _ _ hH
  rw [HD.out] at HC
  clear hb hm hr hb0 hb1 c0 c1 hH hm1 hr1
  go_wp2_with fail
  go_at_call 26
  refine HC.mono ?_
  rintro e w2 ⟨bo, c, rfl, hown, hb2⟩
  clear HC
  go_wp2
  go_ret2
  exact ⟨bo, _, c, rfl, ⟨rfl, by omega, regs_of_owns hown⟩, hB.trans (hb2.mono hB.size)⟩

end Go.Proofs.Ytfogdgnlbgoakac
