/-
  OWN TEXT. Marks of 256 pages as a block of cells, and worlds that differ in one block alone.
-/
import Derived.Test.YtmpalonhckafjaaRPure
namespace Go.Proofs.Ytmpalonhckafjaa.Kit
open Go Go.RowKit

theorem below_box (w : World) (o : Obj) : Below w.heap.size w (w.alloc o) := (Below.refl _ _).alloc (Nat.le_refl _) _

/-- The marks of a set of pages, as cells. -/
def mk (h : Int → Bool) : Array Value := Array.ofFn (n := 256) fun i => .bool (h (i.val : Int))

theorem mk_size (h : Int → Bool) : (mk h).size = 256 := Array.size_ofFn
theorem mk_get (h : Int → Bool) (p : Nat) (hp : p < 256) : (mk h)[p]? = some (.bool (h p)) := by
  unfold mk
  rw [Array.getElem?_ofFn, dif_pos hp]
theorem mk_eq {cs : Array Value} {h : Int → Bool} (hs : cs.size = 256) (hc : ∀ p : Nat, p < 256 → cs[p]? = some (.bool (h p))) : cs = mk h := by
  apply Array.ext_getElem?
  intro i
  by_cases hi : i < 256
  · rw [hc i hi, mk_get h i hi]
  · rw [Array.getElem?_eq_none (by omega), Array.getElem?_eq_none (by rw [mk_size]; omega)]
theorem mk_ext {h g : Int → Bool} (e : ∀ p : Nat, p < 256 → h p = g p) : mk h = mk g := mk_eq (mk_size h) (fun p hp => by rw [mk_get h p hp, e p hp])
theorem mk_oneCell (h : Int → Bool) : ∀ v ∈ (mk h).toList, v.oneCell' = true := by
  intro v hv
  obtain ⟨i, hi, rfl⟩ := List.getElem_of_mem hv
  rw [Array.length_toList, mk_size] at hi
  have e := mk_get h i hi
  rw [Array.getElem?_eq_getElem (by rw [mk_size]; exact hi)] at e
  rw [Array.getElem_toList, Option.some.inj e]
  rfl

/-- Pages f .. f+s-1 are set. -/
def setH (f s : Int) (v : Bool) (h : Int → Bool) (p : Int) : Bool := if f ≤ p ∧ p < f + s then v else h p

theorem mk_set0 (f : Int) (v : Bool) (h : Int → Bool) : mk (setH f 0 v h) = mk h := mk_ext fun p _ => by unfold setH; rw [if_neg (by omega)]

theorem mk_set (h : Int → Bool) (f k : Nat) (v : Bool) (hp : f + k < 256) : (mk (setH f k v h)).setIfInBounds (f + k) (.bool v) = mk (setH f ((k + 1 : Nat) : Int) v h) := by
  refine mk_eq (by rw [Array.size_setIfInBounds, mk_size]) fun p hp' => ?_
  rw [Array.getElem?_setIfInBounds]
  by_cases e : f + k = p
  · rw [if_pos e, if_pos (by rw [mk_size]; omega)]
    unfold setH
    rw [if_pos (by omega)]
  · rw [if_neg e, mk_get _ p hp']
    unfold setH
    by_cases g : (f : Int) ≤ p ∧ (p : Int) < f + k
    · rw [if_pos g, if_pos (by omega)]
    · rw [if_neg g, if_neg (by omega)]

theorem load_row {P : Program} {W : World} {g : Nat} {t : TypeId} {cs : Array Value} {fr : Nat × Nat} {n : Nat} (hg : W.heap[g]? = some (.cells cs t fr)) (hn : cs.size = n) : (loadCellsFrom ⟨g, 0, none⟩ 0 n #[]).run P W = .ok cs W := by
  subst hn
  have := run_loadCells_list (P := P) W ⟨g, 0, none⟩ cs.toList (fun j v hv => by
    have hadd : (⟨g, 0, none⟩ : Addr).add j = ⟨g, j, none⟩ := by unfold Addr.add; split <;> simp_all
    rw [hadd, cell_of_row _ _ j cs t fr hg]
    simpa using hv)
  simpa [loadCells] using this

theorem store_row {P : Program} {W : World} {g : Nat} {t : TypeId} {old cs : Array Value} (hg : W.heap[g]? = some (.cells old t (0, 0))) (hn : old.size = cs.size) (h1 : ∀ v ∈ cs.toList, v.oneCell' = true) : (storeCells ⟨g, 0, none⟩ cs.toList 0).run P W = .ok () (W.setRow g cs) := by
  have := run_storeCells_from (P := P) g t cs.toList 0 old W hg (by simp; omega) h1
  simpa using this

/-- Nothing but block b differs in what was there. -/
structure But (b : Nat) (w w' : World) : Prop where
  os : w'.os = w.os
  tape : w'.tape = w.tape
  output : w'.output = w.output
  size : w.heap.size ≤ w'.heap.size
  block : ∀ k, k < w.heap.size → k ≠ b → w'.heap[k]? = w.heap[k]?

theorem But.refl (b : Nat) (w : World) : But b w w := ⟨rfl, rfl, rfl, Nat.le_refl _, fun _ _ _ => rfl⟩
theorem But.trans {b : Nat} {w w' w'' : World} (h : But b w w') (k : But b w' w'') : But b w w'' :=
  ⟨k.os.trans h.os, k.tape.trans h.tape, k.output.trans h.output, Nat.le_trans h.size k.size, fun i hi hb => (k.block i (Nat.lt_of_lt_of_le hi h.size) hb).trans (h.block i hi hb)⟩
theorem But.of_below {b : Nat} {w w' : World} (h : Below w.heap.size w w') : But b w w' := ⟨h.os, h.tape, h.output, h.size, fun k hk _ => h.block k hk⟩
theorem But.below {b B : Nat} {w w' : World} (h : But b w w') (hb : B ≤ b) (hB : B ≤ w.heap.size) : Below B w w' := ⟨h.os, h.tape, h.output, h.size, fun k hk => h.block k (by omega) (by omega)⟩
theorem But.setCell {b o : Nat} {w w' : World} (h : But b w w') (v : Value) : But b w (w'.setCell ⟨b, o, none⟩ v) := by
  refine ⟨h.os, h.tape, h.output, by simpa [World.setCell] using h.size, fun k hk hb => ?_⟩
  exact (Below.heap_setCell _ _ _ _ hb).trans (h.block k hk hb)
theorem But.drewN {b : Nat} {w w' : World} (h : But b w w') (d : Nat) : But b w (w'.drewN d) := h.trans (.of_below (below_drewN (Below.refl _ _) d))
theorem But.cell {b c o : Nat} {v : Value} {w w' : World} (h : But b w w') (hc : w.cell? ⟨c, o, none⟩ = some v) (hne : c ≠ b) : w'.cell? ⟨c, o, none⟩ = some v :=
  (World.cell?_of_block (a := ⟨c, o, none⟩) (h.block c (World.block_lt_of_cell? w _ hc) hne)).trans hc
theorem But.regs {b n : Nat} {ao : Option Addr} {l : List (Int × Int)} {w w' : World} (h : But b w w') (hr : Regs w ao n l) (hne : ∀ a, ao = some a → a.block ≠ b) : Regs w' ao n l := by
  refine ⟨hr.len, hr.reach, fun i hi => ?_⟩
  obtain ⟨c, o, ha, h1, h2⟩ := hr.at_ i hi
  exact ⟨c, o, ha, h.cell h1 (hne _ ha), h.cell h2 (hne _ ha)⟩

/-- Regions that can be read lie in blocks that are there. -/
theorem Regs.old {n : Nat} {ao : Option Addr} {l : List (Int × Int)} {w : World} (hr : Regs w ao n l) {b : Nat} (hb : w.heap.size ≤ b) {w' : World} (h : But b w w') : Regs w' ao n l := by
  refine ⟨hr.len, hr.reach, fun i hi => ?_⟩
  obtain ⟨c, o, ha, h1, h2⟩ := hr.at_ i hi
  have := World.block_lt_of_cell? w _ h1
  dsimp only at this
  exact ⟨c, o, ha, h.cell h1 (by omega), h.cell h2 (by omega)⟩

/-- The row of marks. -/
def MarksAt (w : World) (b : Nat) (t : TypeId) (h : Int → Bool) : Prop := w.heap[b]? = some (.cells (mk h) t (0, 0))

theorem MarksAt.cell {w : World} {b : Nat} {t : TypeId} {h : Int → Bool} (hm : MarksAt w b t h) (p : Nat) (hp : p < 256) : w.cell? ⟨b, p, none⟩ = some (.bool (h p)) := by
  rw [cell_of_row _ _ _ _ _ _ hm, mk_get h p hp]
theorem MarksAt.fz {w : World} {b : Nat} {t : TypeId} {h : Int → Bool} (hm : MarksAt w b t h) (p : Nat) : w.frozen? ⟨b, p, none⟩ = false := frozen_of_row _ _ _ _ _ hm
theorem MarksAt.lt {w : World} {b : Nat} {t : TypeId} {h : Int → Bool} (hm : MarksAt w b t h) : b < w.heap.size := (Array.getElem?_eq_some_iff.1 hm).1
theorem MarksAt.below {w w' : World} {b : Nat} {t : TypeId} {h : Int → Bool} (hm : MarksAt w b t h) (hb : Below w.heap.size w w') : MarksAt w' b t h := (hb.block b hm.lt).trans hm
theorem MarksAt.but {w w' : World} {b c : Nat} {t : TypeId} {h : Int → Bool} (hm : MarksAt w b t h) (hb : But c w w') (hne : b ≠ c) : MarksAt w' b t h := (hb.block b hm.lt hne).trans hm
theorem MarksAt.set {w : World} {b : Nat} {t : TypeId} {h : Int → Bool} {f k : Nat} {v : Bool} (hm : MarksAt w b t (setH f k v h)) (hp : f + k < 256) : MarksAt (w.setCell ⟨b, f + k, none⟩ (.bool v)) b t (setH f ((k + 1 : Nat) : Int) v h) := by
  unfold MarksAt
  rw [← mk_set h f k v hp]
  exact heap_setCell_same _ _ _ _ _ _ hm

/-- The first k regions are marked. -/
def markK (l : List (Int × Int)) (v : Bool) (h : Int → Bool) : Nat → Int → Bool
  | 0 => h
  | k + 1 => setH (l.getD k (0, 0)).1 (l.getD k (0, 0)).2 v (markK l v h k)

theorem markK_eq (l : List (Int × Int)) (v : Bool) (h : Int → Bool) (k : Nat) (hk : k ≤ l.length) (p : Int) : markK l v h k p = if inL (l.take k) p = true then v else h p := by
  induction k with
  | zero => simp [markK, inL]
  | succ k ih =>
    have hlt : k < l.length := by omega
    have e : l.getD k (0, 0) = l[k] := by rw [List.getD_eq_getElem?_getD, List.getElem?_eq_getElem hlt]; rfl
    rw [List.take_succ_eq_append_getElem hlt, inL_append]
    show setH (l.getD k (0, 0)).1 (l.getD k (0, 0)).2 v (markK l v h k) p = _
    unfold setH
    rw [ih (by omega), e]
    by_cases g : l[k].1 ≤ p ∧ p < l[k].1 + l[k].2
    · rw [if_pos g, if_pos]
      simp only [inL, List.any_cons, List.any_nil, Bool.or_false, Bool.or_eq_true]
      right
      exact decide_eq_true (by omega)
    · rw [if_neg g]
      have hf : inL [l[k]] p = false := by
        simp only [inL, List.any_cons, List.any_nil, Bool.or_false]
        exact decide_eq_false (by omega)
      rw [hf, Bool.or_false]

theorem markK_all (l : List (Int × Int)) : mk (markK l true (fun _ => false) l.length) = mk (inL l) := mk_ext fun p _ => by
  rw [markK_eq _ _ _ _ (Nat.le_refl _), List.take_length]
  cases inL l (p : Int) <;> rfl

theorem markK_free (M R : List (Int × Int)) : mk (markK R false (inL M) R.length) = mk (fun p => inL M p && !inL R p) := mk_ext fun p _ => by
  rw [markK_eq _ _ _ _ (Nat.le_refl _), List.take_length]
  cases inL R (p : Int) <;> cases inL M (p : Int) <;> rfl

end Go.Proofs.Ytmpalonhckafjaa.Kit
