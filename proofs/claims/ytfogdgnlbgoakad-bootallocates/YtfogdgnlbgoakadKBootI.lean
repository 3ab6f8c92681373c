/-
  OWN TEXT. Contract of paddockkeep.booted: whatever came in which order, the regions may be, and each page is marked as it lies in them.
-/
import Derived.Test.YtfogdgnlbgoakadKPure
import Derived.Test.YtfogdgnlbgoakadKReg
import Derived.Test.YtfogdgnlbgoakadRawKit
import Derived.Test.YtfogdgnlbgoakadMKit
import Derived.Test.YtfogdgnlbgoakadBcChange
namespace Go.Proofs.Ytfogdgnlbgoakad
open Go Go.RowKit Go.Proofs.Ytfogdgnlbgoakad.Kit

/-- 512 times false. -/
def zc512 : Array Value := Array.replicate 512 (.bool false)
theorem zero_b2 (w : World) : (zeroValue 27).run Try.prog w = .ok (.agg zc512) w := by kernel_rfl

theorem cur_oneCell {cur : Array Value} {M R : List (Int × Int)} (h : CurOk cur M R) : ∀ v ∈ cur.toList, v.oneCell' = true := by
  intro v hv
  obtain ⟨i, hi, rfl⟩ := List.getElem_of_mem hv
  have h512 := h.size
  rw [Array.length_toList] at hi
  have e : cur[i]? = some cur.toList[i] := by simp [hi]
  by_cases g : i < 256
  · rw [h.m i g] at e; rw [← Option.some.inj e]; rfl
  · have := h.r (i - 256) (by omega)
    rw [show 256 + (i - 256) = i by omega, e] at this
    rw [Option.some.inj this]; rfl

/-- The world in the midst of booted. -/
structure BdInv (w : World) (mo : Option Addr) (mn mc : Nat) (M : List (Int × Int)) (ro : Option Addr) (rn rc : Nat) (R : List (Int × Int)) (cur : Array Value) (W : World) : Prop where
  size : w.heap.size + 4 ≤ W.heap.size
  b : Below w.heap.size w W
  r0 : Res2 W w.heap.size
  r1 : W.heap[w.heap.size + 1]? = some (.cells zc512 27 (0, 0))
  v0 : W.cell? ⟨w.heap.size + 1 + 1, 0, none⟩ = some (.slice mo mn mc)
  v1 : W.cell? ⟨w.heap.size + 1 + 1, 1, none⟩ = some (.slice ro rn rc)
  vz : Res2 W (w.heap.size + 1 + 1)
  arr : W.heap[w.heap.size + 1 + 1 + 1]? = some (.cells cur 27 (0, 0))
  m : Regs W mo mn M
  r : Regs W ro rn R
  fm : Fresh (w.heap.size + 4) mo
  fr : Fresh (w.heap.size + 4) ro

theorem BdInv.step {w : World} {mo : Option Addr} {mn mc : Nat} {M : List (Int × Int)} {ro : Option Addr} {rn rc : Nat} {R : List (Int × Int)} {cur : Array Value} {W W' : World} (h : BdInv w mo mn mc M ro rn rc R cur W) (hb : Below W.heap.size W W') : BdInv w mo mn mc M ro rn rc R cur W' := by
  have hs := h.size
  exact ⟨Nat.le_trans h.size hb.size, h.b.trans (hb.mono (by omega)), h.r0.below hb, (hb.block _ (by omega)).trans h.r1, keep h.v0 hb, keep h.v1 hb, h.vz.below hb, (hb.block _ (by omega)).trans h.arr, h.m.below hb, h.r.below hb, h.fm, h.fr⟩

/-- A cell of another block. -/
theorem cell_other2 {W : World} {b c o : Nat} {x y : Value} (h : c ≠ b) : ((W.setCell ⟨b, 0, none⟩ x).setCell ⟨b, 1, none⟩ y).cell? ⟨c, o, none⟩ = W.cell? ⟨c, o, none⟩ :=
  (World.cell?_setCell_other _ _ _ _ (by intro e; cases e; exact h rfl)).trans (World.cell?_setCell_other _ _ _ _ (by intro e; cases e; exact h rfl))

theorem block_other2 {W : World} {b c : Nat} {x y : Value} (h : c ≠ b) : ((W.setCell ⟨b, 0, none⟩ x).setCell ⟨b, 1, none⟩ y).heap[c]? = W.heap[c]? := by
  rw [heap_setCell_other _ _ _ _ h, heap_setCell_other _ _ _ _ h]

theorem frozen_set (W : World) (a p : Addr) (x : Value) : (W.setCell a x).frozen? p = W.frozen? p := by simp

theorem res2_other2 {W : World} {b c : Nat} {x y : Value} (h : Res2 W c) (hne : c ≠ b) : Res2 ((W.setCell ⟨b, 0, none⟩ x).setCell ⟨b, 1, none⟩ y) c := by
  obtain ⟨⟨u, d0⟩, ⟨v, d1⟩, z0, z1⟩ := h
  exact ⟨⟨u, (cell_other2 hne).trans d0⟩, ⟨v, (cell_other2 hne).trans d1⟩, by rw [frozen_set, frozen_set]; exact z0, by rw [frozen_set, frozen_set]; exact z1⟩

theorem res2_same2 {W : World} {b : Nat} (x y : Value) (h : Res2 W b) : Res2 ((W.setCell ⟨b, 0, none⟩ x).setCell ⟨b, 1, none⟩ y) b := by
  obtain ⟨⟨u, d0⟩, ⟨v, d1⟩, z0, z1⟩ := h
  obtain ⟨k0, k1⟩ := res2 d0 d1 x y
  exact ⟨⟨x, (World.cell?_setCell_other _ _ _ _ (by simp)).trans k0⟩, ⟨y, k1⟩, by rw [frozen_set, frozen_set]; exact z0, by rw [frozen_set, frozen_set]; exact z1⟩

/-- The regions are taken over into the variable. -/
theorem BdInv.take {w : World} {mo : Option Addr} {mn mc : Nat} {M : List (Int × Int)} {ro : Option Addr} {rn rc : Nat} {R : List (Int × Int)} {cur : Array Value} {W : World} (h : BdInv w mo mn mc M ro rn rc R cur W)
    {mo' : Option Addr} {mn' mc' : Nat} {M' : List (Int × Int)} {ro' : Option Addr} {rn' rc' : Nat} {R' : List (Int × Int)} (hm : Regs W mo' mn' M') (hr : Regs W ro' rn' R') (fm : Fresh (w.heap.size + 4) mo') (fr : Fresh (w.heap.size + 4) ro') :
    BdInv w mo' mn' mc' M' ro' rn' rc' R' cur ((W.setCell ⟨w.heap.size + 1 + 1, 0, none⟩ (.slice mo' mn' mc')).setCell ⟨w.heap.size + 1 + 1, 1, none⟩ (.slice ro' rn' rc')) := by
  obtain ⟨⟨u, d0⟩, ⟨v, d1⟩, z0, z1⟩ := h.vz
  obtain ⟨k0, k1⟩ := res2 d0 d1 (.slice mo' mn' mc') (.slice ro' rn' rc')
  have hsz : ((W.setCell ⟨w.heap.size + 1 + 1, 0, none⟩ (.slice mo' mn' mc')).setCell ⟨w.heap.size + 1 + 1, 1, none⟩ (.slice ro' rn' rc')).heap.size = W.heap.size := by simp [World.setCell]
  exact ⟨by rw [hsz]; exact h.size, below2 h.b (by omega) _ _, res2_other2 h.r0 (by omega), (block_other2 (by omega)).trans h.r1, (World.cell?_setCell_other _ _ _ _ (by simp)).trans k0, k1, res2_same2 _ _ h.vz,
    (block_other2 (by omega)).trans h.arr, regs_set2 hm (fun a ha => by have := fm a ha; omega) _ _, regs_set2 hr (fun a ha => by have := fr a ha; omega) _ _, fm, fr⟩

theorem regs_set1 {W : World} {ao : Option Addr} {n b o : Nat} {l : List (Int × Int)} (h : Regs W ao n l) (hne : ∀ a, ao = some a → a.block ≠ b) (x : Value) : Regs (W.setCell ⟨b, o, none⟩ x) ao n l := by
  refine ⟨h.len, h.reach, fun i hi => ?_⟩
  obtain ⟨c, q, ha, h1, h2⟩ := h.at_ i hi
  have hn := hne _ ha
  have key : ∀ j, (W.setCell ⟨b, o, none⟩ x).cell? ⟨c, j, none⟩ = W.cell? ⟨c, j, none⟩ := fun j => World.cell?_setCell_other _ _ _ _ (by intro e; cases e; exact hn rfl)
  exact ⟨c, q, ha, (key _).trans h1, (key _).trans h2⟩

/-- A page is marked. -/
theorem BdInv.mark {w : World} {mo : Option Addr} {mn mc : Nat} {M : List (Int × Int)} {ro : Option Addr} {rn rc : Nat} {R : List (Int × Int)} {cur : Array Value} {W : World} (h : BdInv w mo mn mc M ro rn rc R cur W) (o : Nat) (x : Value) :
    BdInv w mo mn mc M ro rn rc R (cur.setIfInBounds o x) (W.setCell ⟨w.heap.size + 1 + 1 + 1, o, none⟩ x) := by
  have hc : ∀ c j, c ≠ w.heap.size + 1 + 1 + 1 → (W.setCell ⟨w.heap.size + 1 + 1 + 1, o, none⟩ x).cell? ⟨c, j, none⟩ = W.cell? ⟨c, j, none⟩ := fun c j hne => World.cell?_setCell_other _ _ _ _ (by intro e; cases e; exact hne rfl)
  have hr : ∀ c, c ≠ w.heap.size + 1 + 1 + 1 → Res2 W c → Res2 (W.setCell ⟨w.heap.size + 1 + 1 + 1, o, none⟩ x) c := fun c hne ⟨⟨u, d0⟩, ⟨v, d1⟩, z0, z1⟩ =>
    ⟨⟨u, (hc _ _ hne).trans d0⟩, ⟨v, (hc _ _ hne).trans d1⟩, by rw [frozen_set]; exact z0, by rw [frozen_set]; exact z1⟩
  exact ⟨by have := h.size; simpa [World.setCell] using this, h.b.setCell (p := ⟨w.heap.size + 1 + 1 + 1, o, none⟩) (show w.heap.size ≤ w.heap.size + 1 + 1 + 1 by omega) x, hr _ (by omega) h.r0, (heap_setCell_other _ _ _ _ (show _ ≠ w.heap.size + 1 + 1 + 1 by omega)).trans h.r1,
    (hc _ _ (by omega)).trans h.v0, (hc _ _ (by omega)).trans h.v1, hr _ (by omega) h.vz, heap_setCell_same _ _ _ _ _ _ h.arr, regs_set1 h.m (fun a ha => by have := h.fm a ha; omega) _, regs_set1 h.r (fun a ha => by have := h.fr a ha; omega) _, h.fm, h.fr⟩

end Go.Proofs.Ytfogdgnlbgoakad
