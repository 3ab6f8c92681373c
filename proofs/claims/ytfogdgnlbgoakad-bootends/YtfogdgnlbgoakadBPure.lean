/-
  OWN TEXT. What both sides, the code and the document's answer, stand on: no contract of either.
-/
import Derived.Test.YtfogdgnlbgoakadBase
import Derived.Test.YtfogdgnlbgoakadRPure
import Derived.Test.YtfogdgnlbgoakadAPure
namespace Go.Proofs.Ytfogdgnlbgoakad
open Go Go.RowKit Go.Proofs.Ytfogdgnlbgoakad.Kit

theorem below_box (w : World) (o : Obj) : Below w.heap.size w (w.alloc o) := (Below.refl _ _).alloc (Nat.le_refl _) _

theorem info_region : (Try.prog.info? 35).map (fun i => (i.zero, i.size, i.bytes)) = some (some (.agg #[.int .i64 0, .int .i64 0]), 2, 16) := by kernel_rfl

theorem drawn_len (h : Int → Bool) (k : Nat) : (drawnK h k).length ≤ k := by
  induction k with
  | zero => simp [drawnK]
  | succ k ih =>
    simp only [drawnK]
    split
    · split
      · simp [bump]; omega
      · simp; omega
    · omega

/-- The first k regions may be. -/
def GoodTo (l : List (Int × Int)) (k : Nat) : Prop :=
  (∀ i, i < k → regOk (l.getD i (0, 0))) ∧ ∀ i, i + 1 < k → (l.getD i (0, 0)).1 + (l.getD i (0, 0)).2 < (l.getD (i + 1) (0, 0)).1

theorem goodTo_zero (l : List (Int × Int)) : GoodTo l 0 := ⟨fun i hi => by omega, fun i hi => by omega⟩
theorem goodTo_one {l : List (Int × Int)} (h : regOk (l.getD 0 (0, 0))) : GoodTo l 1 := by
  refine ⟨fun i hi => ?_, fun i hi => by omega⟩
  obtain rfl : i = 0 := by omega
  exact h
theorem goodTo_succ {l : List (Int × Int)} {k : Nat} (h : GoodTo l (k + 1)) (h1 : regOk (l.getD (k + 1) (0, 0))) (h2 : (l.getD k (0, 0)).1 + (l.getD k (0, 0)).2 < (l.getD (k + 1) (0, 0)).1) : GoodTo l (k + 2) := by
  refine ⟨fun i hi => ?_, fun i hi => ?_⟩
  · by_cases e : i = k + 1
    · rw [e]; exact h1
    · exact h.1 i (by omega)
  · by_cases e : i = k
    · rw [e]; exact h2
    · exact h.2 i (by omega)

/-- Which pages are in the list behind a change. -/
def chH (f s : Int) (wth : Bool) (L : List (Int × Int)) (p : Int) : Bool := if inB p f (f + s - 1) = true then wth else inL L p

/-- A page is free. -/
def freeH (M R : List (Int × Int)) (p : Int) : Bool := inL M p && !inL R p

/-- The world in the midst of BootAlloc: its boxed argument, the result's block, and what can be read. -/
structure AlInv (w : World) (mo : Option Addr) (mn mc : Nat) (M : List (Int × Int)) (ro : Option Addr) (rn rc : Nat) (R : List (Int × Int)) (W : World) : Prop where
  size : w.heap.size + 2 ≤ W.heap.size
  b : Below w.heap.size w W
  c0 : W.cell? ⟨w.heap.size, 0, none⟩ = some (.slice mo mn mc)
  c1 : W.cell? ⟨w.heap.size, 1, none⟩ = some (.slice ro rn rc)
  res : Res2 W (w.heap.size + 1)
  m : Regs W mo mn M
  r : Regs W ro rn R

theorem AlInv.step {w : World} {mo : Option Addr} {mn mc : Nat} {M : List (Int × Int)} {ro : Option Addr} {rn rc : Nat} {R : List (Int × Int)} {W W' : World} (h : AlInv w mo mn mc M ro rn rc R W) (hb : Below W.heap.size W W') : AlInv w mo mn mc M ro rn rc R W' :=
  ⟨Nat.le_trans h.size hb.size, h.b.trans (hb.mono (by have := h.size; omega)), keep h.c0 hb, keep h.c1 hb, h.res.below hb, h.m.below hb, h.r.below hb⟩

theorem alInv_first (w : World) (mo : Option Addr) (mn mc : Nat) (M : List (Int × Int)) (ro : Option Addr) (rn rc : Nat) (R : List (Int × Int)) (hm : Regs w mo mn M) (hr : Regs w ro rn R) :
    AlInv w mo mn mc M ro rn rc R ((w.alloc (.cells #[.slice mo mn mc, .slice ro rn rc] 25)).alloc (.cells #[.slice none 0 0, .slice none 0 0] 25)) := by
  have hbb : Below w.heap.size w ((w.alloc (.cells #[.slice mo mn mc, .slice ro rn rc] 25)).alloc (.cells #[.slice none 0 0, .slice none 0 0] 25)) := ((Below.refl _ _).alloc (Nat.le_refl _) _).alloc (by simp) _
  exact ⟨by simp, hbb, by go_simp, by go_simp, ⟨⟨_, by go_simp; rfl⟩, ⟨_, by go_simp; rfl⟩, by go_simp, by go_simp⟩, hm.below hbb, hr.below hbb⟩

/-- How many places there are to look at. -/
def places (sz lo hi : Nat) : Nat := hi + 1 - (lo + sz)

/-- What BootAlloc answers where its numbers may be. -/
def AllocEnd (w w' : World) (M R : List (Int × Int)) (sz : Nat) (B : Int) (e : Ending) : Prop :=
  (B < 0 ∧ e = .returned (.tuple #[.agg #[.slice none 0 0, .slice none 0 0], .int .i64 0, .int .i64 6])) ∨
  (0 ≤ B ∧ 40 < (drawnAll (chH B sz true R)).length ∧ e = .returned (.tuple #[.agg #[.slice none 0 0, .slice none 0 0], .int .i64 0, .int .i64 9])) ∨
  (0 ≤ B ∧ (drawnAll (chH B sz true R)).length ≤ 40 ∧ ∃ m1 n1 c1 r1 n2 c2, e = .returned (.tuple #[.agg #[.slice m1 n1 c1, .slice r1 n2 c2], .int .i64 B, .int .i64 0]) ∧ Regs w' m1 n1 M ∧ Regs w' r1 n2 (drawnAll (chH B sz true R)) ∧ Fresh w.heap.size m1 ∧ Fresh w.heap.size r1)

end Go.Proofs.Ytfogdgnlbgoakad
