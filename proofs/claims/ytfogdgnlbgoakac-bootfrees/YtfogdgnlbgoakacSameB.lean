/-
  OWN TEXT. Contracts of paddocklaw.sameBoot (at the same regions: true) and boots.
-/
import Derived.Test.YtfogdgnlbgoakacRefR
import Derived.Test.YtfogdgnlbgoakacSameR
import Derived.Test.YtfogdgnlbgoakacStepLaw
namespace Go.Proofs.Ytfogdgnlbgoakac
open Go Go.RowKit Go.Proofs.Ytfogdgnlbgoakac.Kit

set_option maxHeartbeats 1000000 in
theorem sameBoot_eq (w : World) (m1 m2 r1 r2 : Option Addr) (mn mc1 mc2 rn rc1 rc2 : Nat) (M R : List (Int × Int)) (hm1 : Regs w m1 mn M) (hm2 : Regs w m2 mn M) (hr1 : Regs w r1 rn R) (hr2 : Regs w r2 rn R) :
    Calls Try.prog 12 #[.agg #[.slice m1 mn mc1, .slice r1 rn rc1], .agg #[.slice m2 mn mc2, .slice r2 rn rc2]] w fun e w' => e = .returned (.bool true) ∧ Below w.heap.size w w' := by
  have hb0 := below_box w (.cells #[.slice m1 mn mc1, .slice r1 rn rc1] 24)
  have hb1 := hb0.trans ((below_box (w.alloc (.cells #[.slice m1 mn mc1, .slice r1 rn rc1] 24)) (.cells #[.slice m2 mn mc2, .slice r2 rn rc2] 24)).mono hb0.size)
  have hm1' := hm1.below hb1
  have hm2' := hm2.below hb1
  have hr1' := hr1.below hb1
  have hr2' := hr2.below hb1
  clear hm1 hm2 hr1 hr2 hb0
  go_enter Try.func12, Try.ntmps12
  go_wp2_with fail
  go_at_call 18
  refine (sameRegs_eq _ m1 m2 mn mc1 mc2 M hm1'.len hm1'.reach hm1'.at_ hm2'.at_).mono ?_
  rintro e w1 ⟨rfl, d, rfl⟩
  go_wp2_with fail
  go_at_call 18
  refine (sameRegs_eq _ r1 r2 rn rc1 rc2 R hr1'.len hr1'.reach (hr1'.at_.below (below_drawn d)) (hr2'.at_.below (below_drawn d))).mono ?_
  rintro e w2 ⟨rfl, d2, rfl⟩
  go_wp2
  go_ret
  exact ⟨rfl, hb1.trans (below_drewN (Below.refl _ _) _)⟩

/-- The world in the midst of boots: the boxed argument, the result's block, and what can be read. -/
structure BootsInv (w : World) (mo : Option Addr) (mn mc : Nat) (M : List (Int × Int)) (ro : Option Addr) (rn rc : Nat) (R : List (Int × Int)) (W : World) : Prop where
  size : w.heap.size + 2 ≤ W.heap.size
  b : Below w.heap.size w W
  c0 : W.cell? ⟨w.heap.size, 0, none⟩ = some (.slice mo mn mc)
  c1 : W.cell? ⟨w.heap.size, 1, none⟩ = some (.slice ro rn rc)
  d0 : ∃ v, W.cell? ⟨w.heap.size + 1, 0, none⟩ = some v
  d1 : ∃ v, W.cell? ⟨w.heap.size + 1, 1, none⟩ = some v
  z0 : W.frozen? ⟨w.heap.size + 1, 0, none⟩ = false
  z1 : W.frozen? ⟨w.heap.size + 1, 1, none⟩ = false
  m : RegsAt W mo M
  r : RegsAt W ro R

theorem BootsInv.step {w : World} {mo : Option Addr} {mn mc : Nat} {M : List (Int × Int)} {ro : Option Addr} {rn rc : Nat} {R : List (Int × Int)} {W W' : World} (h : BootsInv w mo mn mc M ro rn rc R W) (hb : Below W.heap.size W W') : BootsInv w mo mn mc M ro rn rc R W' := by
  have hs := h.size
  refine ⟨Nat.le_trans h.size hb.size, h.b.trans (hb.mono (by omega)), ?_, ?_, ?_, ?_, ?_, ?_, h.m.below hb, h.r.below hb⟩
  · rw [hb.cell (p := ⟨w.heap.size, 0, none⟩) (show w.heap.size < _ by omega)]; exact h.c0
  · rw [hb.cell (p := ⟨w.heap.size, 1, none⟩) (show w.heap.size < _ by omega)]; exact h.c1
  · rw [hb.cell (p := ⟨w.heap.size + 1, 0, none⟩) (show w.heap.size + 1 < _ by omega)]; exact h.d0
  · rw [hb.cell (p := ⟨w.heap.size + 1, 1, none⟩) (show w.heap.size + 1 < _ by omega)]; exact h.d1
  · rw [hb.frozen (p := ⟨w.heap.size + 1, 0, none⟩) (show w.heap.size + 1 < _ by omega)]; exact h.z0
  · rw [hb.frozen (p := ⟨w.heap.size + 1, 1, none⟩) (show w.heap.size + 1 < _ by omega)]; exact h.z1

theorem rsrc_any {w : World} {ao : Option Addr} {l : List (Int × Int)} (h : RegsAt w ao l) : ∀ ad, ao = some ad → ∀ j u, (rvals l)[j]? = some u → w.cell? (ad.add j) = some u := by
  intro ad he j u hj
  have h0 : 0 < l.length := by
    cases l with
    | nil => simp [rvals] at hj
    | cons a l => simp
  obtain ⟨ad', he', hs⟩ := rsrc_of h h0
  rw [he] at he'
  cases he'
  exact hs j u hj

set_option maxHeartbeats 2000000 in
theorem boots_any (w : World) (mo : Option Addr) (mn mc : Nat) (M : List (Int × Int)) (ro : Option Addr) (rn rc : Nat) (R : List (Int × Int)) (hm : IsRegs w mo mn mc M) (hr : IsRegs w ro rn rc R) :
    Calls Try.prog 9 #[.agg #[.slice mo mn mc, .slice ro rn rc]] w fun e w' => ∃ m1 c1 r1 c2, e = .returned (.agg #[.slice m1 mn c1, .slice r1 rn c2]) ∧ Regs w' m1 mn M ∧ Regs w' r1 rn R ∧ Below w.heap.size w w' := by
  obtain ⟨i0, hi, hz0, hz1, hz2⟩ := info_parts info_region
  have hbb : Below w.heap.size w ((w.alloc (.cells #[.slice mo mn mc, .slice ro rn rc] 24)).alloc (.cells #[.slice none 0 0, .slice none 0 0] 24)) := ((Below.refl _ _).alloc (Nat.le_refl _) _).alloc (by simp) _
  obtain ⟨W, hW⟩ : ∃ W, (w.alloc (.cells #[.slice mo mn mc, .slice ro rn rc] 24)).alloc (.cells #[.slice none 0 0, .slice none 0 0] 24) = W := ⟨_, rfl⟩
  have I : BootsInv w mo mn mc M ro rn rc R W := by
    rw [← hW]
    exact ⟨by simp, hbb, by simp, by simp, ⟨_, by simp; rfl⟩, ⟨_, by simp; rfl⟩, by simp, by simp, hm.at_.below hbb, hr.at_.below hbb⟩
  have hm1 : mn ≤ maxLen := by have := hm.reach; have := hm.le; unfold maxLen; omega
  have hm2 : mn * 16 ≤ 140737488355328 := by have := hm.reach; have := hm.le; omega
  have hr1 : rn ≤ maxLen := by have := hr.reach; have := hr.le; unfold maxLen; omega
  have hr2 : rn * 16 ≤ 140737488355328 := by have := hr.reach; have := hr.le; omega
  have hml : (rvals M).length = mn * 2 := by rw [length_rvals, hm.len]
  have hrl : (rvals R).length = rn * 2 := by rw [length_rvals, hr.len]
  have hmo := rvals_oneCell M
  have hro := rvals_oneCell R
  have hmn := hm.nil
  have hrn := hr.nil
  have hnm := hm.len
  have hnr := hr.len
  have e1 : mn * 16 ≤ 140737488351232 := by have := hm.reach; have := hm.le; omega
  have e2 : rn * 16 ≤ 140737488351232 := by have := hr.reach; have := hr.le; omega
  clear hm hr hbb
  go_enter Try.func9, Try.ntmps9
  go_wp2
  have I0 : BootsInv w mo mn mc M ro rn rc R W.drew := I.step ((Below.refl _ _).drew)
  have c0 := I.c0
  have c1 := I.c1
  clear hW I
  go_region_law (first | (refine step_append_nil rfl _ (.tmp 4) 22 rfl 26 i0 (.agg #[.int .i64 0, .int .i64 0]) 2 16 Try.underlying22 hi hz0 hz1 hz2 rfl (by decide) rfl mo mn mc (rvals M) rfl hmn hml (rsrc_any (BootsInv.m (by assumption))) hmo hm1 hm2 ?_; intro bo c' w' hown hb; have I' := BootsInv.step (by assumption) hb; have c0' := I'.c0; have c1' := I'.c1; have z0' := I'.z0; have z1' := I'.z1; obtain ⟨x0, d0'⟩ := I'.d0; obtain ⟨x1, d1'⟩ := I'.d1) | (refine step_append_nil rfl _ (.tmp 7) 22 rfl 26 i0 (.agg #[.int .i64 0, .int .i64 0]) 2 16 Try.underlying22 hi hz0 hz1 hz2 rfl (by decide) rfl ro rn rc (rvals R) rfl hrn hrl (rsrc_any (BootsInv.r (by assumption))) hro hr1 hr2 ?_; intro bo2 c2' w2' hown2 hb2; have I2 := BootsInv.step (by assumption) hb2; have c0' := I2.c0; have c1' := I2.c1; have z0' := I2.z0; have z1' := I2.z1; obtain ⟨x0, d0'⟩ := I2.d0; obtain ⟨x1, d1'⟩ := I2.d1))
  all_goals go_wp2
  all_goals
    have hsz := I0.size
    have O1 := ownsRow_setCell_below (ownsRow_setCell_below (owns_below hown hb2 (Nat.le_refl _)) (a := ⟨w.heap.size + 1, 0, none⟩) (show w.heap.size + 1 < _ from hsz) (.slice bo mn c')) (a := ⟨w.heap.size + 1, 1, none⟩) (show w.heap.size + 1 < _ from hsz) (.slice bo2 rn c2')
    have O2 := ownsRow_setCell_below (ownsRow_setCell_below hown2 (a := ⟨w.heap.size + 1, 0, none⟩) (show w.heap.size + 1 < _ by have := I'.size; omega) (.slice bo mn c')) (a := ⟨w.heap.size + 1, 1, none⟩) (show w.heap.size + 1 < _ by have := I'.size; omega) (.slice bo2 rn c2')
    have hB := (I2.b.setCell (p := ⟨w.heap.size + 1, 0, none⟩) (show w.heap.size ≤ w.heap.size + 1 by omega) (.slice bo mn c')).setCell (p := ⟨w.heap.size + 1, 1, none⟩) (show w.heap.size ≤ w.heap.size + 1 by omega) (.slice bo2 rn c2')
    have k0 : (w2'.setCell ⟨w.heap.size + 1, 0, none⟩ (.slice bo mn c')).cell? ⟨w.heap.size + 1, 0, none⟩ = some (.slice bo mn c') := World.cell?_setCell_same _ _ _ d0'
    have k1 : (w2'.setCell ⟨w.heap.size + 1, 0, none⟩ (.slice bo mn c')).cell? ⟨w.heap.size + 1, 1, none⟩ = some x1 := (World.cell?_setCell_other _ _ _ _ (by simp)).trans d1'
    have k2 : ((w2'.setCell ⟨w.heap.size + 1, 0, none⟩ (.slice bo mn c')).setCell ⟨w.heap.size + 1, 1, none⟩ (.slice bo2 rn c2')).cell? ⟨w.heap.size + 1, 1, none⟩ = some (.slice bo2 rn c2') := World.cell?_setCell_same _ _ _ k1
    refine bodyPost_ret (v := .agg #[.slice bo mn c', .slice bo2 rn c2']) (by simp [results, Try.results9, go_sem, k0, k2]) rfl ⟨bo, c', bo2, c2', rfl, ⟨hnm, e1, regs_of_owns O1⟩, ⟨hnr, e2, regs_of_owns O2⟩, hB⟩

end Go.Proofs.Ytfogdgnlbgoakac
