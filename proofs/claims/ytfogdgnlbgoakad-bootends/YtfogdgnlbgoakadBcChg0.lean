/-
  OWN TEXT. What boot.change stands on: its world, and the pages that are changed.
-/
import Derived.Test.YtfogdgnlbgoakadBcMarks
import Derived.Test.YtfogdgnlbgoakadBPure
namespace Go.Proofs.Ytfogdgnlbgoakad
open Go Go.RowKit Go.Proofs.Ytfogdgnlbgoakad.Kit

theorem setH_ch (f s : Int) (v : Bool) (L : List (Int × Int)) : setH f s v (inL L) = chH f s v L := by
  funext p
  unfold setH chH
  by_cases h : f ≤ p ∧ p < f + s
  · rw [if_pos h, if_pos (inB_t (by omega))]
  · rw [if_neg h, if_neg (by rw [inB_f (by omega)]; simp)]

theorem drawn_inL {L : List (Int × Int)} (h : MayP L) : drawnAll (inL L) = L := drawn_of_canon (canon_of_may h) (fun _ _ _ => rfl)

/-- The blocks of change: the boxed arguments, the result. -/
structure CgInv (w : World) (mo : Option Addr) (mn mc : Nat) (M : List (Int × Int)) (ro : Option Addr) (rn rc : Nat) (R : List (Int × Int)) (f s : Int) (rb : Nat) (W : World) : Prop where
  size : w.heap.size + 3 ≤ W.heap.size
  b : Below w.heap.size w W
  c0 : W.cell? ⟨w.heap.size, 0, none⟩ = some (.slice mo mn mc)
  c1 : W.cell? ⟨w.heap.size, 1, none⟩ = some (.slice ro rn rc)
  r0 : W.cell? ⟨w.heap.size + 1, 0, none⟩ = some (.int .i64 f)
  r1 : W.cell? ⟨w.heap.size + 1, 1, none⟩ = some (.int .i64 s)
  res : Res2 W (w.heap.size + 1 + 1)
  m : Regs W mo mn M
  r : Regs W ro rn R
  q0 : W.cell? ⟨rb, 0, none⟩ = some (.int .i64 f)
  q1 : W.cell? ⟨rb, 1, none⟩ = some (.int .i64 s)

theorem CgInv.step {w : World} {mo : Option Addr} {mn mc : Nat} {M : List (Int × Int)} {ro : Option Addr} {rn rc : Nat} {R : List (Int × Int)} {f s : Int} {rb : Nat} {W W' : World} (h : CgInv w mo mn mc M ro rn rc R f s rb W) (hb : Below W.heap.size W W') : CgInv w mo mn mc M ro rn rc R f s rb W' :=
  ⟨Nat.le_trans h.size hb.size, h.b.trans (hb.mono (by have := h.size; omega)), keep h.c0 hb, keep h.c1 hb, keep h.r0 hb, keep h.r1 hb, h.res.below hb, h.m.below hb, h.r.below hb, keep h.q0 hb, keep h.q1 hb⟩

theorem cgInv_first (w : World) (mo : Option Addr) (mn mc : Nat) (M : List (Int × Int)) (ro : Option Addr) (rn rc : Nat) (R : List (Int × Int)) (f s : Int) (rb : Nat) (hm : Regs w mo mn M) (hr : Regs w ro rn R) (q0 : w.cell? ⟨rb, 0, none⟩ = some (.int .i64 f)) (q1 : w.cell? ⟨rb, 1, none⟩ = some (.int .i64 s)) :
    CgInv w mo mn mc M ro rn rc R f s rb (((w.alloc (.cells #[.slice mo mn mc, .slice ro rn rc] 25)).alloc (.cells #[.int .i64 f, .int .i64 s] 35)).alloc (.cells #[.slice none 0 0, .slice none 0 0] 25)) := by
  have hbb : Below w.heap.size w (((w.alloc (.cells #[.slice mo mn mc, .slice ro rn rc] 25)).alloc (.cells #[.int .i64 f, .int .i64 s] 35)).alloc (.cells #[.slice none 0 0, .slice none 0 0] 25)) := (((Below.refl _ _).alloc (Nat.le_refl _) _).alloc (by simp) _).alloc (by simp; omega) _
  exact ⟨by simp, hbb, by go_simp, by go_simp, by go_simp, by go_simp, ⟨⟨_, by go_simp; rfl⟩, ⟨_, by go_simp; rfl⟩, by go_simp, by go_simp⟩, hm.below hbb, hr.below hbb, keep q0 hbb, keep q1 hbb⟩

end Go.Proofs.Ytfogdgnlbgoakad
