/-
  OWN TEXT. What the statement of boot.change that lays two sets of marks at once stands on: its two new blocks, whatever order they come in.
-/
import Derived.Test.YtfogdgnlbgoakadBcFill
import Derived.Test.YtfogdgnlbgoakadBcChg0
import Derived.Test.YtfogdgnlbgoakadAnyTen
namespace Go.Proofs.Ytfogdgnlbgoakad
open Go Go.RowKit Go.Proofs.Ytfogdgnlbgoakad.Kit

/-- What holds in the midst of the statement, whichever of its ten operations have come up. -/
structure RgI (w2 : World) (Z C1 C2 : Array Value) (p0 p1 sM sR : Value) (l0 l1 l2 l3 l4 l5 l6 l7 l8 l9 : Bool) (t10 t11 t25 t26 t27 t28 t29 t30 : Value) (W : World) : Prop where
  b : Below w2.heap.size w2 W
  h0 : l0 = true → t25 = p0
  h1 : l1 = true → t26 = sM
  h2 : l2 = true → t27 = .agg C1
  h3 : l3 = true → t28 = p1
  h4 : l4 = true → t29 = sR
  h5 : l5 = true → t30 = .agg C2
  h6 : l6 = true → ∃ x, t10 = .pointer (some ⟨x, 0, none⟩) ∧ w2.heap.size ≤ x ∧ W.heap[x]? = some (.cells (if l8 = true then C1 else Z) 51 (0, 0))
  h7 : l7 = true → ∃ y, t11 = .pointer (some ⟨y, 0, none⟩) ∧ w2.heap.size ≤ y ∧ W.heap[y]? = some (.cells (if l9 = true then C2 else Z) 51 (0, 0))
  ne : l6 = true → l7 = true → t10 ≠ t11
  k8 : l8 = true → l6 = true
  k9 : l9 = true → l7 = true

section
variable {w2 : World} {Z C1 C2 : Array Value} {p0 p1 sM sR : Value} {l0 l1 l2 l3 l4 l5 l6 l7 l8 l9 : Bool} {t10 t11 t25 t26 t27 t28 t29 t30 : Value} {W : World}

theorem RgI.step (h : RgI w2 Z C1 C2 p0 p1 sM sR l0 l1 l2 l3 l4 l5 l6 l7 l8 l9 t10 t11 t25 t26 t27 t28 t29 t30 W) {W' : World} (hb : Below W.heap.size W W') : RgI w2 Z C1 C2 p0 p1 sM sR l0 l1 l2 l3 l4 l5 l6 l7 l8 l9 t10 t11 t25 t26 t27 t28 t29 t30 W' :=
  ⟨h.b.trans (hb.mono h.b.size), h.h0, h.h1, h.h2, h.h3, h.h4, h.h5, fun g => by
    obtain ⟨x, e, hx, hr⟩ := h.h6 g
    exact ⟨x, e, hx, (hb.block x (Array.getElem?_eq_some_iff.1 hr).1).trans hr⟩, fun g => by
    obtain ⟨x, e, hx, hr⟩ := h.h7 g
    exact ⟨x, e, hx, (hb.block x (Array.getElem?_eq_some_iff.1 hr).1).trans hr⟩, h.ne, h.k8, h.k9⟩

theorem RgI.new6 (h : RgI w2 Z C1 C2 p0 p1 sM sR l0 l1 l2 l3 l4 l5 false l7 l8 l9 t10 t11 t25 t26 t27 t28 t29 t30 W) : RgI w2 Z C1 C2 p0 p1 sM sR l0 l1 l2 l3 l4 l5 true l7 l8 l9 (.pointer (some ⟨W.heap.size, 0, none⟩)) t11 t25 t26 t27 t28 t29 t30 (W.alloc (.cells Z 51)) := by
  have g := h.step (below_box W (.cells Z 51))
  have e8 : l8 = false := by cases hl : l8 with
    | false => rfl
    | true => exact absurd (h.k8 hl) (by simp)
  refine ⟨g.b, g.h0, g.h1, g.h2, g.h3, g.h4, g.h5, fun _ => ⟨_, rfl, h.b.size, ?_⟩, g.h7, fun _ g7 => ?_, fun _ => rfl, g.k9⟩
  · rw [e8]; exact heap_alloc_new _ _
  · obtain ⟨y, e, _, hr⟩ := h.h7 g7
    have := (Array.getElem?_eq_some_iff.1 hr).1
    rw [e]
    intro g'
    simp only [Value.pointer.injEq, Option.some.injEq, Addr.mk.injEq, and_true] at g'
    omega

theorem RgI.new7 (h : RgI w2 Z C1 C2 p0 p1 sM sR l0 l1 l2 l3 l4 l5 l6 false l8 l9 t10 t11 t25 t26 t27 t28 t29 t30 W) : RgI w2 Z C1 C2 p0 p1 sM sR l0 l1 l2 l3 l4 l5 l6 true l8 l9 t10 (.pointer (some ⟨W.heap.size, 0, none⟩)) t25 t26 t27 t28 t29 t30 (W.alloc (.cells Z 51)) := by
  have g := h.step (below_box W (.cells Z 51))
  have e9 : l9 = false := by cases hl : l9 with
    | false => rfl
    | true => exact absurd (h.k9 hl) (by simp)
  refine ⟨g.b, g.h0, g.h1, g.h2, g.h3, g.h4, g.h5, g.h6, fun _ => ⟨_, rfl, h.b.size, ?_⟩, fun g6 _ => ?_, g.k8, fun _ => rfl⟩
  · rw [e9]; exact heap_alloc_new _ _
  · obtain ⟨y, e, _, hr⟩ := h.h6 g6
    have := (Array.getElem?_eq_some_iff.1 hr).1
    rw [e]
    intro g'
    simp only [Value.pointer.injEq, Option.some.injEq, Addr.mk.injEq, and_true] at g'
    omega

theorem RgI.put8 {x : Nat} (h : RgI w2 Z C1 C2 p0 p1 sM sR l0 l1 l2 l3 l4 l5 true l7 false l9 (.pointer (some ⟨x, 0, none⟩)) t11 t25 t26 t27 t28 t29 t30 W) : RgI w2 Z C1 C2 p0 p1 sM sR l0 l1 l2 l3 l4 l5 true l7 true l9 (.pointer (some ⟨x, 0, none⟩)) t11 t25 t26 t27 t28 t29 t30 (W.setRow x C1) := by
  obtain ⟨x', e, hx, hr⟩ := h.h6 rfl
  simp only [Value.pointer.injEq, Option.some.injEq, Addr.mk.injEq, and_true] at e
  subst e
  refine ⟨below_setRow h.b hx _, h.h0, h.h1, h.h2, h.h3, h.h4, h.h5, fun _ => ⟨x, rfl, hx, ?_⟩, fun g7 => ?_, h.ne, fun _ => rfl, h.k9⟩
  · rw [if_pos rfl]; exact setRow_heap _ _ _ _ _ _ hr
  · obtain ⟨y, e, hy, hry⟩ := h.h7 g7
    have hn := h.ne rfl g7
    rw [e] at hn
    exact ⟨y, e, hy, (setRow_other _ _ _ _ (fun g => hn (by rw [g]))).trans hry⟩

theorem RgI.put9 {y : Nat} (h : RgI w2 Z C1 C2 p0 p1 sM sR l0 l1 l2 l3 l4 l5 l6 true l8 false t10 (.pointer (some ⟨y, 0, none⟩)) t25 t26 t27 t28 t29 t30 W) : RgI w2 Z C1 C2 p0 p1 sM sR l0 l1 l2 l3 l4 l5 l6 true l8 true t10 (.pointer (some ⟨y, 0, none⟩)) t25 t26 t27 t28 t29 t30 (W.setRow y C2) := by
  obtain ⟨x', e, hx, hr⟩ := h.h7 rfl
  simp only [Value.pointer.injEq, Option.some.injEq, Addr.mk.injEq, and_true] at e
  subst e
  refine ⟨below_setRow h.b hx _, h.h0, h.h1, h.h2, h.h3, h.h4, h.h5, fun g6 => ?_, fun _ => ⟨y, rfl, hx, ?_⟩, h.ne, h.k8, fun _ => rfl⟩
  · obtain ⟨x, e, hy, hry⟩ := h.h6 g6
    have hn := h.ne g6 rfl
    rw [e] at hn
    exact ⟨x, e, hy, (setRow_other _ _ _ _ (fun g => hn (by rw [g]))).trans hry⟩
  · rw [if_pos rfl]; exact setRow_heap _ _ _ _ _ _ hr

end

/-- Both are laid. -/
structure Laid (w : World) (mo : Option Addr) (mn mc : Nat) (M : List (Int × Int)) (ro : Option Addr) (rn rc : Nat) (R : List (Int × Int)) (f s : Int) (rb x y : Nat) (W : World) : Prop where
  I : CgInv w mo mn mc M ro rn rc R f s rb W
  ne : x ≠ y
  x3 : w.heap.size + 3 ≤ x
  y3 : w.heap.size + 3 ≤ y
  qx : rb ≠ x
  qy : rb ≠ y
  mx : MarksAt W x 51 (inL M)
  my : MarksAt W y 51 (inL R)

end Go.Proofs.Ytfogdgnlbgoakad
