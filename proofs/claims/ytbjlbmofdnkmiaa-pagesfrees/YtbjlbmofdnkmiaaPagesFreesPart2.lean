/-
  OWN TEXTS, bundled: ZKit, ZRet, ZBase, CopyK, AppK, BDel, Sized, ZArgs.
-/
import Derived.Test.YtbjlbmofdnkmiaaPagesFreesPart1
import Derived.Laws.CopyOwn
import Derived.Laws.AppendOwn
import Derived.Deep.RegionLaw
import Derived.OwnWalk
import Derived.Lib.AppendZerosOnto
import Derived.Lib.AppendZeros
import Derived.Lib.Overlaps
import Derived.Laws.Externs
import Derived.Lib.SmallJoins
import Derived.Deep.SlicePairs

/-
  OWN TEXT. Slices of blocks (three numbers each) and zones over whatever program.
-/
namespace Go.Proofs.Ytbjlbmofdnkmiaa.Kit
open Go Go.RowKit

/-- A block: its place, its order, its type. -/
structure Bk where
  a : Int
  o : Int
  t : Int

/-- No block. -/
def Bk.zero : Bk := ⟨0, 0, 0⟩

/-- Blocks as cells. -/
def bvals : List Bk → List Value
  | [] => []
  | b :: l => Value.int .i64 b.a :: Value.int .i64 b.o :: Value.int .i64 b.t :: bvals l

theorem length_bvals (l : List Bk) : (bvals l).length = l.length * 3 := by
  induction l with
  | nil => rfl
  | cons r l ih => simp only [bvals, List.length_cons, ih]; omega
theorem bvals_append (l m : List Bk) : bvals (l ++ m) = bvals l ++ bvals m := by
  induction l with
  | nil => rfl
  | cons r l ih => simp [bvals, ih]
theorem bvals_0 (l : List Bk) (i : Nat) (h : i < l.length) : (bvals l)[i * 3]? = some (.int .i64 (l.getD i .zero).a) := by
  induction l generalizing i with
  | nil => simp at h
  | cons r l ih =>
    cases i with
    | zero => simp [bvals]
    | succ i =>
      have := ih i (by simpa using h)
      rw [Nat.succ_mul]
      simpa [bvals] using this
theorem bvals_1 (l : List Bk) (i : Nat) (h : i < l.length) : (bvals l)[i * 3 + 1]? = some (.int .i64 (l.getD i .zero).o) := by
  induction l generalizing i with
  | nil => simp at h
  | cons r l ih =>
    cases i with
    | zero => simp [bvals]
    | succ i =>
      have := ih i (by simpa using h)
      rw [Nat.succ_mul]
      simpa [bvals] using this
theorem bvals_2 (l : List Bk) (i : Nat) (h : i < l.length) : (bvals l)[i * 3 + 2]? = some (.int .i64 (l.getD i .zero).t) := by
  induction l generalizing i with
  | nil => simp at h
  | cons r l ih =>
    cases i with
    | zero => simp [bvals]
    | succ i =>
      have := ih i (by simpa using h)
      rw [Nat.succ_mul]
      simpa [bvals] using this
theorem bvals_oneCell (l : List Bk) : ∀ u ∈ bvals l, u.oneCell' = true := by
  induction l with
  | nil => intro u hu; simp [bvals] at hu
  | cons r l ih =>
    intro u hu
    simp only [bvals, List.mem_cons] at hu
    rcases hu with rfl | rfl | rfl | hu
    · rfl
    · rfl
    · rfl
    · exact ih u hu
theorem bvals_set2 (l : List Bk) (i : Nat) (x : Int) (h : i < l.length) : (bvals l).set (i * 3 + 2) (.int .i64 x) = bvals (l.set i ⟨(l.getD i .zero).a, (l.getD i .zero).o, x⟩) := by
  induction l generalizing i with
  | nil => simp at h
  | cons r l ih =>
    cases i with
    | zero => simp [bvals]
    | succ i =>
      have := ih i (by simpa using h)
      rw [Nat.succ_mul]
      simpa [bvals] using this

/-- The cells from 'ao' on hold the blocks 'l'. -/
def BlksAt (w : World) (ao : Option Addr) (l : List Bk) : Prop :=
  ∀ i, i < l.length → ∃ b off, ao = some ⟨b, off, none⟩ ∧ w.cell? ⟨b, off + i * 3, none⟩ = some (.int .i64 (l.getD i .zero).a) ∧ w.cell? ⟨b, off + i * 3 + 1, none⟩ = some (.int .i64 (l.getD i .zero).o) ∧ w.cell? ⟨b, off + i * 3 + 2, none⟩ = some (.int .i64 (l.getD i .zero).t)

theorem BlksAt.below {w w' : World} {ao : Option Addr} {l : List Bk} (h : BlksAt w ao l) (hb : Below w.heap.size w w') : BlksAt w' ao l := by
  intro i hi
  obtain ⟨b, off, ha, h1, h2, h3⟩ := h i hi
  exact ⟨b, off, ha, keep h1 hb, keep h2 hb, keep h3 hb⟩

theorem BlksAt.nil (w : World) (ao : Option Addr) : BlksAt w ao [] := fun i hi => absurd hi (by simp)

theorem blks_of_owns {w : World} {base : Nat} {e : TypeId} {ao : Option Addr} {n cap : Nat} {l : List Bk}
    (h : w.ownsRow base e 3 (.slice ao n cap) n (bvals l)) : BlksAt w ao l := by
  intro i hi
  have hl := h.1
  rw [length_bvals] at hl
  rcases h.2 with ⟨h', h0⟩ | ⟨g, cap', cur, h', _, hg, _, _, _, htake⟩
  · omega
  · simp only [Value.slice.injEq] at h'
    obtain ⟨rfl, _, rfl⟩ := h'
    refine ⟨g, 0, rfl, ?_, ?_, ?_⟩
    · rw [Nat.zero_add, h.cellAt (i * 3) (by omega), bvals_0 l i hi]
    · rw [Nat.zero_add, h.cellAt (i * 3 + 1) (by omega), bvals_1 l i hi]
    · rw [Nat.zero_add, h.cellAt (i * 3 + 2) (by omega), bvals_2 l i hi]

theorem bowns_len {w : World} {base : Nat} {e : TypeId} {v : Value} {n : Nat} {l : List Bk}
    (h : w.ownsRow base e 3 v n (bvals l)) : l.length = n := by have := h.1; rw [length_bvals] at this; omega

/-- The source of an append. -/
theorem bsrc_of {w : World} {ao : Option Addr} {l : List Bk} (h : BlksAt w ao l) (h0 : 0 < l.length) : ∃ ad, ao = some ad ∧ ∀ j v, (bvals l)[j]? = some v → w.cell? (ad.add j) = some v := by
  obtain ⟨b, off, rfl, _⟩ := h 0 h0
  refine ⟨_, rfl, fun j v hj => ?_⟩
  have hadd : (⟨b, off, none⟩ : Addr).add j = ⟨b, off + j, none⟩ := by unfold Addr.add; split <;> simp_all
  rw [hadd]
  have hlt : j < (bvals l).length := (List.getElem?_eq_some_iff.1 hj).1
  rw [length_bvals] at hlt
  obtain ⟨b', off', he, c1, c2, c3⟩ := h (j / 3) (by omega)
  simp only [Option.some.injEq, Addr.mk.injEq, and_true] at he
  obtain ⟨rfl, rfl⟩ := he
  rcases (show j % 3 = 0 ∨ j % 3 = 1 ∨ j % 3 = 2 by omega) with hm | hm | hm
  · have e1 : j = j / 3 * 3 := by omega
    rw [e1, bvals_0 l _ (by omega)] at hj
    rw [← e1] at c1
    rw [c1]; exact hj
  · have e1 : j = j / 3 * 3 + 1 := by omega
    rw [e1, bvals_1 l _ (by omega)] at hj
    have e2 : off + j / 3 * 3 + 1 = off + j := by omega
    rw [e2] at c2
    rw [c2]; exact hj
  · have e1 : j = j / 3 * 3 + 2 := by omega
    rw [e1, bvals_2 l _ (by omega)] at hj
    have e2 : off + j / 3 * 3 + 2 = off + j := by omega
    rw [e2] at c3
    rw [c3]; exact hj

/-- One block of a slice: its three cells, the numbers under names. -/
theorem BlksAt.at {w : World} {ao : Option Addr} {l : List Bk} (h : BlksAt w ao l) (k : Nat) (hk : k < l.length) : ∃ b off x y z, ao = some ⟨b, off, none⟩ ∧ w.cell? ⟨b, off + k * 3, none⟩ = some (.int .i64 x) ∧ w.cell? ⟨b, off + k * 3 + 1, none⟩ = some (.int .i64 y) ∧ w.cell? ⟨b, off + k * 3 + 2, none⟩ = some (.int .i64 z) ∧ Hid (l.getD k .zero = ⟨x, y, z⟩) := by
  obtain ⟨b, off, ha, h1, h2, h3⟩ := h k hk
  exact ⟨b, off, _, _, _, ha, h1, h2, h3, rfl⟩

theorem btake_snoc (l : List Bk) (k : Nat) (h : k < l.length) {x y z : Int} (hx : l.getD k .zero = ⟨x, y, z⟩) : bvals (l.take k) ++ [Value.int .i64 x, Value.int .i64 y, Value.int .i64 z] = bvals (l.take (k + 1)) := by
  rw [List.getD_eq_getElem?_getD, List.getElem?_eq_getElem h] at hx
  simp only [Option.getD_some] at hx
  rw [List.take_succ_eq_append_getElem h, bvals_append, hx]
  rfl

theorem take_getD (l : List Bk) (k : Nat) (h : k < l.length) {b : Bk} (hx : l.getD k .zero = b) : l.take (k + 1) = l.take k ++ [b] := by
  rw [List.getD_eq_getElem?_getD, List.getElem?_eq_getElem h] at hx
  simp only [Option.getD_some] at hx
  rw [List.take_succ_eq_append_getElem h, hx]

/-- A slice of blocks that can be read. -/
structure Blks (w : World) (ao : Option Addr) (n : Nat) (l : List Bk) : Prop where
  len : l.length = n
  reach : n * 24 ≤ 140737488351232
  at_ : BlksAt w ao l

/-- A slice of numbers that can be read. -/
structure Nums (w : World) (ao : Option Addr) (n : Nat) (l : List Int) : Prop where
  len : l.length = n
  reach : n * 8 ≤ 140737488351232
  at_ : IntsAt w ao l

theorem Blks.below {w w' : World} {ao : Option Addr} {n : Nat} {l : List Bk} (h : Blks w ao n l) (hb : Below w.heap.size w w') : Blks w' ao n l := ⟨h.len, h.reach, h.at_.below hb⟩
theorem Nums.below {w w' : World} {ao : Option Addr} {n : Nat} {l : List Int} (h : Nums w ao n l) (hb : Below w.heap.size w w') : Nums w' ao n l := ⟨h.len, h.reach, h.at_.below hb⟩
theorem Blks.nil (w : World) : Blks w none 0 [] := ⟨rfl, by omega, BlksAt.nil _ _⟩
theorem Nums.nil (w : World) : Nums w none 0 [] := ⟨rfl, by omega, IntsAt.nil _ _⟩

theorem But.blks {b n : Nat} {ao : Option Addr} {l : List Bk} {w w' : World} (h : But b w w') (hr : Blks w ao n l) (hne : ∀ a, ao = some a → a.block ≠ b) : Blks w' ao n l := by
  refine ⟨hr.len, hr.reach, fun i hi => ?_⟩
  obtain ⟨c, o, ha, h1, h2, h3⟩ := hr.at_ i hi
  exact ⟨c, o, ha, h.cell h1 (hne _ ha), h.cell h2 (hne _ ha), h.cell h3 (hne _ ha)⟩
theorem But.nums {b n : Nat} {ao : Option Addr} {l : List Int} {w w' : World} (h : But b w w') (hr : Nums w ao n l) (hne : ∀ a, ao = some a → a.block ≠ b) : Nums w' ao n l := by
  refine ⟨hr.len, hr.reach, fun i hi => ?_⟩
  obtain ⟨c, o, ha, h1⟩ := hr.at_ i hi
  exact ⟨c, o, ha, h.cell h1 (hne _ ha)⟩

/-- A zone, as plain numbers. -/
structure Zn where
  f : Int
  t : Int
  free : List Bk
  types : List Int

/-- A zone that can be read: its two lists. -/
structure ZnAt (w : World) (fo : Option Addr) (fn : Nat) (to_ : Option Addr) (tn : Nat) (z : Zn) : Prop where
  free : Blks w fo fn z.free
  types : Nums w to_ tn z.types

theorem ZnAt.below {w w' : World} {fo : Option Addr} {fn : Nat} {to_ : Option Addr} {tn : Nat} {z : Zn} (h : ZnAt w fo fn to_ tn z) (hb : Below w.heap.size w w') : ZnAt w' fo fn to_ tn z := ⟨h.free.below hb, h.types.below hb⟩
theorem But.zn {b : Nat} {w w' : World} {fo : Option Addr} {fn : Nat} {to_ : Option Addr} {tn : Nat} {z : Zn} (h : But b w w') (hz : ZnAt w fo fn to_ tn z) (h1 : ∀ a, fo = some a → a.block ≠ b) (h2 : ∀ a, to_ = some a → a.block ≠ b) : ZnAt w' fo fn to_ tn z := ⟨h.blks hz.free h1, h.nums hz.types h2⟩

/-- A zone as a value. -/
def zval (z : Zn) (fo : Option Addr) (fn fc : Nat) (to_ : Option Addr) (tn tc : Nat) : Value := .agg #[.int .i64 z.f, .int .i64 z.t, .slice fo fn fc, .slice to_ tn tc]

/-- A block of four cells that may be written. -/
structure Res4 (W : World) (b : Nat) : Prop where
  d0 : ∃ v, W.cell? ⟨b, 0, none⟩ = some v
  d1 : ∃ v, W.cell? ⟨b, 1, none⟩ = some v
  d2 : ∃ v, W.cell? ⟨b, 2, none⟩ = some v
  d3 : ∃ v, W.cell? ⟨b, 3, none⟩ = some v
  z0 : W.frozen? ⟨b, 0, none⟩ = false
  z1 : W.frozen? ⟨b, 1, none⟩ = false
  z2 : W.frozen? ⟨b, 2, none⟩ = false
  z3 : W.frozen? ⟨b, 3, none⟩ = false

theorem Res4.but {W W' : World} {b c : Nat} (h : Res4 W b) (hb : But c W W') (hne : b ≠ c) : Res4 W' b := by
  obtain ⟨⟨v0, e0⟩, ⟨v1, e1⟩, ⟨v2, e2⟩, ⟨v3, e3⟩, z0, z1, z2, z3⟩ := h
  have hbk := hb.block b (World.block_lt_of_cell? W _ e0) hne
  exact ⟨⟨v0, hb.cell e0 hne⟩, ⟨v1, hb.cell e1 hne⟩, ⟨v2, hb.cell e2 hne⟩, ⟨v3, hb.cell e3 hne⟩, (World.frozen?_of_block (a := ⟨b, 0, none⟩) hbk).trans z0, (World.frozen?_of_block (a := ⟨b, 1, none⟩) hbk).trans z1, (World.frozen?_of_block (a := ⟨b, 2, none⟩) hbk).trans z2, (World.frozen?_of_block (a := ⟨b, 3, none⟩) hbk).trans z3⟩

theorem Res4.below {W W' : World} {b : Nat} (h : Res4 W b) (hb : Below W.heap.size W W') : Res4 W' b := by
  obtain ⟨v0, e0⟩ := h.d0
  have hlt := World.block_lt_of_cell? W _ e0
  exact h.but (c := W'.heap.size) ⟨hb.os, hb.tape, hb.output, hb.size, fun k hk _ => hb.block k hk⟩ (by have := hb.size; dsimp only at hlt; omega)

/-- The world behind four stores into one block. -/
def set4 (W : World) (b : Nat) (x y u v : Value) : World := (((W.setCell ⟨b, 0, none⟩ x).setCell ⟨b, 1, none⟩ y).setCell ⟨b, 2, none⟩ u).setCell ⟨b, 3, none⟩ v

theorem but4 (W : World) (b : Nat) (x y u v : Value) : But b W ((((W.setCell ⟨b, 0, none⟩ x).setCell ⟨b, 1, none⟩ y).setCell ⟨b, 2, none⟩ u).setCell ⟨b, 3, none⟩ v) :=
  (((((But.refl b W).setCell x).setCell y).setCell u).setCell v)

theorem res4 {W : World} {b : Nat} (h : Res4 W b) (x y u v : Value) :
    ((((W.setCell ⟨b, 0, none⟩ x).setCell ⟨b, 1, none⟩ y).setCell ⟨b, 2, none⟩ u).setCell ⟨b, 3, none⟩ v).cell? ⟨b, 0, none⟩ = some x ∧
    ((((W.setCell ⟨b, 0, none⟩ x).setCell ⟨b, 1, none⟩ y).setCell ⟨b, 2, none⟩ u).setCell ⟨b, 3, none⟩ v).cell? ⟨b, 1, none⟩ = some y ∧
    ((((W.setCell ⟨b, 0, none⟩ x).setCell ⟨b, 1, none⟩ y).setCell ⟨b, 2, none⟩ u).setCell ⟨b, 3, none⟩ v).cell? ⟨b, 2, none⟩ = some u ∧
    ((((W.setCell ⟨b, 0, none⟩ x).setCell ⟨b, 1, none⟩ y).setCell ⟨b, 2, none⟩ u).setCell ⟨b, 3, none⟩ v).cell? ⟨b, 3, none⟩ = some v := by
  obtain ⟨v0, e0⟩ := h.d0
  obtain ⟨v1, e1⟩ := h.d1
  obtain ⟨v2, e2⟩ := h.d2
  obtain ⟨v3, e3⟩ := h.d3
  have o : ∀ (X : World) (i j : Nat) (r : Value), i ≠ j → (X.setCell ⟨b, i, none⟩ r).cell? ⟨b, j, none⟩ = X.cell? ⟨b, j, none⟩ := fun X i j r hij => World.cell?_setCell_other _ _ _ _ (by intro g; cases g; exact hij rfl)
  refine ⟨?_, ?_, ?_, ?_⟩
  · rw [o _ 3 0 _ (by decide), o _ 2 0 _ (by decide), o _ 1 0 _ (by decide)]
    exact World.cell?_setCell_same _ _ _ e0
  · rw [o _ 3 1 _ (by decide), o _ 2 1 _ (by decide)]
    exact World.cell?_setCell_same _ _ _ ((o _ 0 1 _ (by decide)).trans e1)
  · rw [o _ 3 2 _ (by decide)]
    exact World.cell?_setCell_same _ _ _ ((o _ 1 2 _ (by decide)).trans ((o _ 0 2 _ (by decide)).trans e2))
  · exact World.cell?_setCell_same _ _ _ ((o _ 2 3 _ (by decide)).trans ((o _ 1 3 _ (by decide)).trans ((o _ 0 3 _ (by decide)).trans e3)))

/-- A zone in a variable: its four cells, that may be written. -/
structure ZBox (W : World) (b : Nat) (x y u v : Value) : Prop where
  c0 : W.cell? ⟨b, 0, none⟩ = some x
  c1 : W.cell? ⟨b, 1, none⟩ = some y
  c2 : W.cell? ⟨b, 2, none⟩ = some u
  c3 : W.cell? ⟨b, 3, none⟩ = some v
  z0 : W.frozen? ⟨b, 0, none⟩ = false
  z1 : W.frozen? ⟨b, 1, none⟩ = false
  z2 : W.frozen? ⟨b, 2, none⟩ = false
  z3 : W.frozen? ⟨b, 3, none⟩ = false

theorem ZBox.res {W : World} {b : Nat} {x y u v : Value} (h : ZBox W b x y u v) : Res4 W b := ⟨⟨_, h.c0⟩, ⟨_, h.c1⟩, ⟨_, h.c2⟩, ⟨_, h.c3⟩, h.z0, h.z1, h.z2, h.z3⟩
theorem ZBox.lt {W : World} {b : Nat} {x y u v : Value} (h : ZBox W b x y u v) : b < W.heap.size := by
  have := World.block_lt_of_cell? W _ h.c0
  exact this
theorem ZBox.but {W W' : World} {b c : Nat} {x y u v : Value} (h : ZBox W b x y u v) (hb : But c W W') (hne : b ≠ c) : ZBox W' b x y u v := by
  have r := h.res.but hb hne
  exact ⟨hb.cell h.c0 hne, hb.cell h.c1 hne, hb.cell h.c2 hne, hb.cell h.c3 hne, r.z0, r.z1, r.z2, r.z3⟩
theorem ZBox.below {W W' : World} {b : Nat} {x y u v : Value} (h : ZBox W b x y u v) (hb : Below W.heap.size W W') : ZBox W' b x y u v := by
  have r := h.res.below hb
  exact ⟨keep h.c0 hb, keep h.c1 hb, keep h.c2 hb, keep h.c3 hb, r.z0, r.z1, r.z2, r.z3⟩
theorem zbox_new (W : World) (x y u v : Value) (t : TypeId) : ZBox (W.alloc (.cells #[x, y, u, v] t)) W.heap.size x y u v :=
  ⟨by simp, by simp, by simp, by simp, by simp, by simp, by simp, by simp⟩
theorem ZBox.set2 {W : World} {b : Nat} {x y u v : Value} (h : ZBox W b x y u v) (u' : Value) : ZBox (W.setCell ⟨b, 2, none⟩ u') b x y u' v := by
  have o : ∀ j : Nat, j ≠ 2 → (W.setCell ⟨b, 2, none⟩ u').cell? ⟨b, j, none⟩ = W.cell? ⟨b, j, none⟩ := fun j hj => World.cell?_setCell_other _ _ _ _ (by intro g; cases g; exact hj rfl)
  exact ⟨(o 0 (by decide)).trans h.c0, (o 1 (by decide)).trans h.c1, World.cell?_setCell_same _ _ _ h.c2, (o 3 (by decide)).trans h.c3, by simpa using h.z0, by simpa using h.z1, by simpa using h.z2, by simpa using h.z3⟩
theorem ZBox.set3 {W : World} {b : Nat} {x y u v : Value} (h : ZBox W b x y u v) (v' : Value) : ZBox (W.setCell ⟨b, 3, none⟩ v') b x y u v' := by
  have o : ∀ j : Nat, j ≠ 3 → (W.setCell ⟨b, 3, none⟩ v').cell? ⟨b, j, none⟩ = W.cell? ⟨b, j, none⟩ := fun j hj => World.cell?_setCell_other _ _ _ _ (by intro g; cases g; exact hj rfl)
  exact ⟨(o 0 (by decide)).trans h.c0, (o 1 (by decide)).trans h.c1, (o 2 (by decide)).trans h.c2, World.cell?_setCell_same _ _ _ h.c3, by simpa using h.z0, by simpa using h.z1, by simpa using h.z2, by simpa using h.z3⟩
theorem ZBox.set4 {W : World} {b : Nat} {x y u v : Value} (h : ZBox W b x y u v) (x' y' u' v' : Value) : ZBox ((((W.setCell ⟨b, 0, none⟩ x').setCell ⟨b, 1, none⟩ y').setCell ⟨b, 2, none⟩ u').setCell ⟨b, 3, none⟩ v') b x' y' u' v' := by
  obtain ⟨k0, k1, k2, k3⟩ := res4 h.res x' y' u' v'
  exact ⟨k0, k1, k2, k3, by simpa using h.z0, by simpa using h.z1, by simpa using h.z2, by simpa using h.z3⟩

theorem nums_of_owns {w : World} {base : Nat} {e : TypeId} {ao : Option Addr} {n cap : Nat} {l : List Int} (h : w.ownsRow base e 1 (.slice ao n cap) n (vals l)) (hr : n * 8 ≤ 140737488351232) : Nums w ao n l := ⟨owns_len h, hr, ints_of_owns h⟩
theorem blks_own {w : World} {base : Nat} {e : TypeId} {ao : Option Addr} {n cap : Nat} {l : List Bk} (h : w.ownsRow base e 3 (.slice ao n cap) n (bvals l)) (hr : n * 24 ≤ 140737488351232) : Blks w ao n l := ⟨bowns_len h, hr, blks_of_owns h⟩

/-- A zone in new memory is returned, and a code. -/
def RetZone (B : Nat) (w' : World) (z : Zn) (e : Ending) : Prop :=
  ∃ fo fn fc to_ tn tc, e = .returned (.tuple #[.agg #[.int .i64 z.f, .int .i64 z.t, .slice fo fn fc, .slice to_ tn tc], .int .i64 0]) ∧ ZnAt w' fo fn to_ tn z ∧ Fresh B fo ∧ Fresh B to_
/-- No zone is returned, and a code. -/
def RetNone (c : Int) (e : Ending) : Prop := e = .returned (.tuple #[.agg #[.int .i64 0, .int .i64 0, .slice none 0 0, .slice none 0 0], .int .i64 c])

theorem fresh_none (B : Nat) : Fresh B none := fun a ha => by cases ha
theorem Fresh.mono {B C : Nat} {ao : Option Addr} (h : Fresh B ao) (hc : C ≤ B) : Fresh C ao := fun a ha => Nat.le_trans hc (h a ha)

theorem ZBox.belowB {B : Nat} {W W' : World} {b : Nat} {x y u v : Value} (h : ZBox W b x y u v) (hb : Below B W W') (hlt : b < B) : ZBox W' b x y u v :=
  ⟨(hb.cell (p := ⟨b, 0, none⟩) hlt).trans h.c0, (hb.cell (p := ⟨b, 1, none⟩) hlt).trans h.c1, (hb.cell (p := ⟨b, 2, none⟩) hlt).trans h.c2, (hb.cell (p := ⟨b, 3, none⟩) hlt).trans h.c3, (hb.frozen (p := ⟨b, 0, none⟩) hlt).trans h.z0, (hb.frozen (p := ⟨b, 1, none⟩) hlt).trans h.z1, (hb.frozen (p := ⟨b, 2, none⟩) hlt).trans h.z2, (hb.frozen (p := ⟨b, 3, none⟩) hlt).trans h.z3⟩
theorem Res4.belowB {B : Nat} {W W' : World} {b : Nat} (h : Res4 W b) (hb : Below B W W') (hlt : b < B) : Res4 W' b := by
  obtain ⟨⟨v0, e0⟩, ⟨v1, e1⟩, ⟨v2, e2⟩, ⟨v3, e3⟩, z0, z1, z2, z3⟩ := h
  exact (ZBox.belowB ⟨e0, e1, e2, e3, z0, z1, z2, z3⟩ hb hlt).res

/-- The three cells of a block that has just been laid. -/
theorem cell_three_new (w : World) (a b c : Value) (t : TypeId) : ∀ j u, [a, b, c][j]? = some u → (w.alloc (.cells #[a, b, c] t)).cell? ((⟨w.heap.size, 0, none⟩ : Addr).add j) = some u := by
  intro j u hj
  match j, hj with
  | 0, hj => simp at hj; subst hj; simp [Addr.add]
  | 1, hj => simp at hj; subst hj; simp [Addr.add]
  | 2, hj => simp at hj; subst hj; simp [Addr.add]
  | j + 3, hj => simp at hj

end Go.Proofs.Ytbjlbmofdnkmiaa.Kit

/-
  OWN TEXT. A zone or none is returned, and a code.
-/
namespace Go.Proofs.Ytbjlbmofdnkmiaa.Kit
open Go Go.RowKit

/-- A zone is returned, and a code. -/
def RetAny (w' : World) (Z : Zn) (c : Int) (e : Ending) : Prop :=
  ∃ fo fn fc to_ tn tc, e = .returned (.tuple #[.agg #[.int .i64 Z.f, .int .i64 Z.t, .slice fo fn fc, .slice to_ tn tc], .int .i64 c]) ∧ ZnAt w' fo fn to_ tn Z
/-- A zone in new memory is returned. -/
def RetZ (B : Nat) (w' : World) (z : Zn) (e : Ending) : Prop :=
  ∃ fo fn fc to_ tn tc, e = .returned (.agg #[.int .i64 z.f, .int .i64 z.t, .slice fo fn fc, .slice to_ tn tc]) ∧ ZnAt w' fo fn to_ tn z ∧ Fresh B fo ∧ Fresh B to_

theorem RetZone.any {B : Nat} {w' : World} {Z : Zn} {e : Ending} (h : RetZone B w' Z e) : RetAny w' Z 0 e := by
  obtain ⟨fo, fn, fc, to_, tn, tc, he, hz, _, _⟩ := h
  exact ⟨fo, fn, fc, to_, tn, tc, he, hz⟩
theorem RetNone.any {c : Int} {w' : World} {e : Ending} (h : RetNone c e) : RetAny w' ⟨0, 0, [], []⟩ c e :=
  ⟨none, 0, 0, none, 0, 0, h, ⟨Blks.nil _, Nums.nil _⟩⟩

end Go.Proofs.Ytbjlbmofdnkmiaa.Kit

/-
  OWN TEXT. Closed facts on the type api.Block.
-/
namespace Go.Proofs.Ytbjlbmofdnkmiaa
open Go Go.RowKit Go.Proofs.Ytbjlbmofdnkmiaa.Kit

theorem info_block : (Try.prog.info? 63).map (fun i => (i.zero, i.size, i.bytes)) = some (some (.agg #[.int .i64 0, .int .i64 0, .int .i64 0]), 3, 24) := by kernel_rfl

theorem size_block : (Try.prog.info? 63).map (·.size) = some 3 := by kernel_rfl

end Go.Proofs.Ytbjlbmofdnkmiaa

/-
  OWN TEXT. 'copy' and 'clear' at elements of k cells, over whatever program.
-/
namespace Go.Proofs.Ytbjlbmofdnkmiaa.Kit
open Go Go.RowKit

theorem but_setRow (w : World) (g : Nat) (cs : Array Value) : But g w (w.setRow g cs) :=
  ⟨rfl, rfl, rfl, by simp [World.setRow], fun k _ hne => setRow_other w g k cs (by omega)⟩

theorem run_copy_row_k {P : Program} (w : World) (dT sT ty elem : TypeId) (k g o dLen dCap : Nat) (a : Addr) (sLen sCap : Nat) (cur : Array Value) (t : TypeId) (cs : List Value)
    (hu : P.underlying dT = some (.slice elem)) (hs : (P.info? elem).map (·.size) = some k)
    (hg : w.heap[g]? = some (.cells cur t (0, 0))) (hn : cs.length = Nat.min sLen dLen * k)
    (hsrc : ∀ j v, cs[j]? = some v → w.cell? (a.add j) = some v) (hfit : o + cs.length ≤ cur.size) (h1 : ∀ v ∈ cs, v.oneCell' = true) :
    (Builtin.copy_ #[dT, sT] ty #[.slice (some ⟨g, o, none⟩) dLen dCap, .slice (some a) sLen sCap]).run P w =
      .ok (goInt (Nat.min sLen dLen)) (w.setRow g (cur.toList.take o ++ cs ++ cur.toList.drop (o + cs.length)).toArray) := by
  have hl := run_loadCells_list (P := P) w a cs hsrc
  have hst := run_storeCells_at P g o t cs 0 cur w hg (by simpa using hfit) h1
  cases hq : P.info? elem with
  | none => simp [hq] at hs
  | some i =>
    have hi : i.size = k := by simpa [hq] using hs
    simp [Builtin.copy_, run_underlying hu, Builtin.lenOf, Builtin.firstCells, sizeOf, typeInfo, hq, hi, ← hn, hl, hst]

theorem run_copy_none_k {P : Program} (w : World) (dT sT ty elem : TypeId) (k : Nat) (d a : Option Addr) (dLen dCap sLen sCap : Nat) (hu : P.underlying dT = some (.slice elem)) (hs : (P.info? elem).map (·.size) = some k) (hn : Nat.min sLen dLen = 0) :
    (Builtin.copy_ #[dT, sT] ty #[.slice d dLen dCap, .slice a sLen sCap]).run P w = .ok (goInt 0) w := by
  cases hq : P.info? elem with
  | none => simp [hq] at hs
  | some i =>
    cases d <;> cases a <;> simp [Builtin.copy_, run_underlying hu, Builtin.lenOf, Builtin.firstCells, sizeOf, typeInfo, hq, hn, storeCells, loadCells, loadCellsFrom]

theorem wpList_copy_k {P : Program} {w : World} {ops : Array Oper} {rest : List Oper} {o : Oper} {a : Act} {Q : Exit → Act → World → Prop} (hgd : o.guard = none) (d s : Operand) (dT sT : TypeId)
    (ho : o.op = .call { callee := .builtin .copy, args := #[d, s], argTypes := #[dT, sT] }) (elem : TypeId) (k : Nat) (hu : P.underlying dT = some (.slice elem)) (hsz : (P.info? elem).map (·.size) = some k)
    (dp sp : Option Addr) (dLen dCap sLen sCap : Nat) (hd : a.eval d = .slice dp dLen dCap) (hs : a.eval s = .slice sp sLen sCap)
    (g off : Nat) (cur : List Value) (t : TypeId) (hg : w.heap[g]? = some (.cells cur.toArray t (0, 0))) (cs : List Value) (m : Nat) (hm : Nat.min sLen dLen = m) (hn : cs.length = m * k)
    (hpos : 0 < m → dp = some ⟨g, off, none⟩ ∧ ∃ ad, sp = some ad ∧ ∀ j v, cs[j]? = some v → w.cell? (ad.add j) = some v)
    (hfit : off + cs.length ≤ cur.length) (h1 : ∀ v ∈ cs, v.oneCell' = true)
    (h : ∀ w', Hid (w'.heap[g]? = some (.cells (splice cur off cs).toArray t (0, 0))) → But g w w' → wpList P ops Q rest (a.put o.dst (goInt m)) w') :
    wpList P ops Q (o :: rest) a w := by
  by_cases h0 : m = 0
  · subst h0
    obtain rfl : cs = [] := List.eq_nil_of_length_eq_zero (by simpa using hn)
    refine wpList_plain hgd fun K hK => ?_
    have hrun := run_copy_none_k (P := P) w dT sT o.type elem k dp sp dLen dCap sLen sCap hu hsz hm
    unfold Oper.wp
    simp [execOp, ho, resolve, invoke, builtin, hd, hs, hrun, Result.andThen]
    exact hK _ _ (h w (show _ = _ by simpa [splice] using hg) (But.refl _ _))
  · obtain ⟨rfl, ad, rfl, hsrc⟩ := hpos (by omega)
    refine wpList_plain hgd fun K hK => ?_
    have hrun := run_copy_row_k (P := P) w dT sT o.type elem k g off dLen dCap ad sLen sCap cur.toArray t cs hu hsz hg (by rw [hm]; exact hn) hsrc (by simpa using hfit) h1
    rw [hm] at hrun
    unfold Oper.wp
    simp [execOp, ho, resolve, invoke, builtin, hd, hs, hrun, Result.andThen]
    refine hK _ _ (h _ (show _ = _ by simpa [splice] using setRow_heap w g _ _ t _ hg) (by simpa using but_setRow w g _))

end Go.Proofs.Ytbjlbmofdnkmiaa.Kit

/-
  OWN TEXT. Rows of blocks of k cells that a call owns: append, copy, clear as steps; over whatever program.
-/
namespace Go.Proofs.Ytbjlbmofdnkmiaa.Kit
open Go Go.RowKit

/-- A row: a block of 'cap' elements of 'size' cells each. -/
structure Row (w : World) (e : TypeId) (size g cap : Nat) (cur : List Value) : Prop where
  h : w.heap[g]? = some (.cells cur.toArray e (0, 0))
  len : cur.length = cap * size
  m : cap ≤ maxLen

theorem Row.lt {w : World} {e : TypeId} {size g cap : Nat} {cur : List Value} (h : Row w e size g cap cur) : g < w.heap.size := (Array.getElem?_eq_some_iff.1 h.h).1
theorem Row.but {w w' : World} {e : TypeId} {size g cap c : Nat} {cur : List Value} (h : Row w e size g cap cur) (hb : But c w w') (hne : g ≠ c) : Row w' e size g cap cur :=
  ⟨(hb.block g h.lt hne).trans h.h, h.len, h.m⟩
theorem Row.below {w w' : World} {e : TypeId} {size g cap : Nat} {cur : List Value} (h : Row w e size g cap cur) (hb : Below w.heap.size w w') : Row w' e size g cap cur :=
  ⟨(hb.block g h.lt).trans h.h, h.len, h.m⟩
theorem Row.cell {w : World} {e : TypeId} {size g cap : Nat} {cur : List Value} (h : Row w e size g cap cur) (j : Nat) : w.cell? ⟨g, j, none⟩ = cur[j]? := by
  simp [World.cell?, h.h]
theorem Row.fz {w : World} {e : TypeId} {size g cap : Nat} {cur : List Value} (h : Row w e size g cap cur) (j : Nat) : w.frozen? ⟨g, j, none⟩ = false := by
  simp [World.frozen?, h.h]
theorem add_at (g o j : Nat) : (⟨g, o, none⟩ : Addr).add j = ⟨g, o + j, none⟩ := by unfold Addr.add; split <;> simp_all

theorem Row.of {w : World} {base : Nat} {e : TypeId} {size g n cap : Nat} {xs : List Value} (h : w.ownsRow base e size (.slice (some ⟨g, 0, none⟩) n cap) n xs) :
    base ≤ g ∧ n ≤ cap ∧ ∃ cur, Row w e size g cap cur ∧ cur.take (n * size) = xs := by
  rcases h.2 with ⟨h', _⟩ | ⟨g', cap', cur, h', hb, hg, hn, hm, hs, htake⟩
  · cases h'
  · simp only [Value.slice.injEq, Option.some.injEq, Addr.mk.injEq, and_true, true_and] at h'
    obtain ⟨rfl, rfl⟩ := h'
    exact ⟨hb, hn, cur.toList, ⟨by simpa using hg, by simpa using hs, hm⟩, htake⟩
theorem Row.owns {w : World} {base : Nat} {e : TypeId} {size g n cap : Nat} {cur xs : List Value} (h : Row w e size g cap cur) (hb : base ≤ g) (hn : n ≤ cap) (ht : cur.take (n * size) = xs) :
    w.ownsRow base e size (.slice (some ⟨g, 0, none⟩) n cap) n xs := by
  refine ⟨?_, .inr ⟨g, cap, cur.toArray, rfl, hb, h.h, hn, h.m, by simpa using h.len, by simpa using ht⟩⟩
  rw [← ht, List.length_take, h.len, Nat.min_eq_left (Nat.mul_le_mul_right _ hn)]

theorem splice_take {α : Type} {L cs : List α} {off n : Nat} (h : n ≤ off) (hl : off ≤ L.length) : (splice L off cs).take n = L.take n := by
  unfold splice
  rw [List.take_append_of_le_length (by simp; omega), List.take_take, Nat.min_eq_left h]

/-- append within the capacity, a step of a region that draws. -/
theorem step_append_fits {P : Program} {ops : Array Oper} {o : Oper} {a : Act} {w : World} {K : Act → World → Prop} {Q : Exit → Act → World → Prop} {E : Prop}
    (hg : o.guard = none) (s x : Operand) (t : TypeId) (hop : o.op = Op.call { callee := Callee.builtin Builtin.append, args := #[s, x], argTypes := #[t, t] })
    (e : TypeId) (i : TypeInfo) (size : Nat) (h1 : P.underlying t = some (.slice e)) (h2 : P.info? e = some i) (h4 : i.size = size)
    (base g n cap : Nat) (xs : List Value) (hs : a.eval s = .slice (some ⟨g, 0, none⟩) n cap) (hown : w.ownsRow base e size (.slice (some ⟨g, 0, none⟩) n cap) n xs)
    (xo : Option Addr) (m c : Nat) (news : List Value) (hx : a.eval x = .slice xo m c) (hn : news.length = m * size) (hxo : ∃ ad, xo = some ad ∧ ∀ j u, news[j]? = some u → w.cell? (ad.add j) = some u) (h1c : ∀ u ∈ news, u.oneCell' = true)
    (N : Nat) (hN : n + m = N) (hroom : N ≤ cap)
    (hK : ∀ w', w'.ownsRow base e size (.slice (some ⟨g, 0, none⟩) N cap) N (xs ++ news) → But g w w' → K (a.put o.dst (.slice (some ⟨g, 0, none⟩) N cap)) w') :
    if Region.wanted o (yielded ops a.tmps) = true then Oper.wp P o a w K Q else E := by
  have hw : Region.wanted o (yielded ops a.tmps) = true := by simp [Region.wanted, hg]
  rw [if_pos hw]
  subst hN
  obtain ⟨ad, rfl, hc⟩ := hxo
  obtain ⟨w', hrun, r1, r2⟩ := run_append_fits (P := P) w base t o.type e i size h1 h2 h4 g n cap xs hown ad m c news hn hc h1c hroom
  unfold Oper.wp
  simp [execOp, hop, resolve, invoke, builtin, hs, hx, hrun, Result.andThen]
  exact hK w' r1 ⟨r2.os, r2.tape, r2.output, r2.size, fun k hk hne => r2.block k hk (by intro g; exact hne (by simpa using g))⟩

/-- copy, a step of a region that draws. -/
theorem step_copy_k {P : Program} {ops : Array Oper} {o : Oper} {a : Act} {w : World} {K : Act → World → Prop} {Q : Exit → Act → World → Prop} {E : Prop} (hgd : o.guard = none) (d s : Operand) (dT sT : TypeId)
    (ho : o.op = .call { callee := .builtin .copy, args := #[d, s], argTypes := #[dT, sT] }) (elem : TypeId) (k : Nat) (hu : P.underlying dT = some (.slice elem)) (hsz : (P.info? elem).map (·.size) = some k)
    (dp sp : Option Addr) (dLen dCap sLen sCap : Nat) (hd : a.eval d = .slice dp dLen dCap) (hs : a.eval s = .slice sp sLen sCap)
    (g off : Nat) (cur : List Value) (t : TypeId) (hg : w.heap[g]? = some (.cells cur.toArray t (0, 0))) (cs : List Value) (m : Nat) (hm : Nat.min sLen dLen = m) (hn : cs.length = m * k)
    (hpos : 0 < m → dp = some ⟨g, off, none⟩ ∧ ∃ ad, sp = some ad ∧ ∀ j v, cs[j]? = some v → w.cell? (ad.add j) = some v)
    (hfit : off + cs.length ≤ cur.length) (h1 : ∀ v ∈ cs, v.oneCell' = true)
    (h : ∀ w', Hid (w'.heap[g]? = some (.cells (splice cur off cs).toArray t (0, 0))) → But g w w' → K (a.put o.dst (goInt m)) w') :
    if Region.wanted o (yielded ops a.tmps) = true then Oper.wp P o a w K Q else E := by
  have hw : Region.wanted o (yielded ops a.tmps) = true := by simp [Region.wanted, hgd]
  rw [if_pos hw]
  by_cases h0 : m = 0
  · subst h0
    obtain rfl : cs = [] := List.eq_nil_of_length_eq_zero (by simpa using hn)
    have hrun := run_copy_none_k (P := P) w dT sT o.type elem k dp sp dLen dCap sLen sCap hu hsz hm
    unfold Oper.wp
    simp [execOp, ho, resolve, invoke, builtin, hd, hs, hrun, Result.andThen]
    exact h w (show _ = _ by simpa [splice] using hg) (But.refl _ _)
  · obtain ⟨rfl, ad, rfl, hsrc⟩ := hpos (by omega)
    have hrun := run_copy_row_k (P := P) w dT sT o.type elem k g off dLen dCap ad sLen sCap cur.toArray t cs hu hsz hg (by rw [hm]; exact hn) hsrc (by simpa using hfit) h1
    rw [hm] at hrun
    unfold Oper.wp
    simp [execOp, ho, resolve, invoke, builtin, hd, hs, hrun, Result.andThen]
    exact h _ (show _ = _ by simpa [splice] using setRow_heap w g _ _ t _ hg) (by simpa using but_setRow w g _)

/-- clear of n elements that lie in a row. -/
theorem wpList_clear_k {P : Program} {w : World} {ops : Array Oper} {rest : List Oper} {o : Oper} {a : Act} {Q : Exit → Act → World → Prop} (hgd : o.guard = none) (s : Operand) (t : TypeId)
    (ho : o.op = .call { callee := .builtin .clear, args := #[s], argTypes := #[t] }) (e : TypeId) (z : Value) (k : Nat) (hu : P.underlying t = some (.slice e)) (hv : ∀ w, (zeroValue e).run P w = .ok z w) (hz : z.cells.size = k) (h1 : ∀ v ∈ z.cells, v.oneCell' = true)
    (sp : Option Addr) (n c : Nat) (hs : a.eval s = .slice sp n c) (g off : Nat) (cur : List Value) (hg : w.heap[g]? = some (.cells cur.toArray e (0, 0))) (hpos : 0 < n → sp = some ⟨g, off, none⟩) (hfit : off + n * k ≤ cur.length)
    (h : ∀ (w' : World) (cur' : List Value), Hid (w'.heap[g]? = some (.cells cur'.toArray e (0, 0)) ∧ cur'.length = cur.length ∧ cur'.take off = cur.take off) → But g w w' → wpList P ops Q rest (a.put o.dst (.tuple #[])) w') :
    wpList P ops Q (o :: rest) a w := by
  by_cases h0 : n = 0
  · subst h0
    refine wpList_plain hgd fun K hK => ?_
    have hrun : (Builtin.clear_ #[t] o.type #[.slice sp 0 c]).run P w = .ok (.tuple #[]) w := by
      cases sp <;> simp [Builtin.clear_, run_underlying hu]
    unfold Oper.wp
    simp [execOp, ho, resolve, invoke, builtin, hs, hrun, Result.andThen]
    exact hK _ _ (h w cur ⟨hg, rfl, rfl⟩ (But.refl _ _))
  · obtain rfl := hpos (by omega)
    refine wpList_plain hgd fun K hK => ?_
    obtain ⟨zs, hzs⟩ : ∃ zs, (Builtin.zeroCells z.cells n).toList = zs := ⟨_, rfl⟩
    have hzl : zs.length = n * k := by rw [← hzs, Array.length_toList, size_zeroCells, hz]
    have hz1 : ∀ v ∈ zs, v.oneCell' = true := by
      intro v hv'
      rw [← hzs] at hv'
      obtain ⟨j, hj, rfl⟩ := List.getElem_of_mem hv'
      have hk : 0 < z.cells.size := by
        rcases Nat.eq_zero_or_pos z.cells.size with g | g
        · rw [Array.length_toList, size_zeroCells, g] at hj; omega
        · exact g
      simp only [Array.getElem_toList, Builtin.zeroCells, Array.getElem_map, Array.getElem_range]
      rw [getElem!_pos z.cells _ (Nat.mod_lt _ hk)]
      exact h1 _ (Array.getElem_mem _)
    have hst := run_storeCells_at P g off e zs 0 cur.toArray w hg (by simp; omega) hz1
    have hrun : (Builtin.clear_ #[t] o.type #[.slice (some ⟨g, off, none⟩) n c]).run P w = .ok (.tuple #[]) (w.setRow g (cur.take off ++ zs ++ cur.drop (off + zs.length)).toArray) := by
      obtain ⟨m, rfl⟩ : ∃ m, n = m + 1 := ⟨n - 1, by omega⟩
      simp only [Nat.add_zero] at hst
      simp [Builtin.clear_, run_underlying hu, hv, hzs, hst]
    unfold Oper.wp
    simp [execOp, ho, resolve, invoke, builtin, hs, hrun, Result.andThen]
    refine hK _ _ (h _ (cur.take off ++ zs ++ cur.drop (off + zs.length)) ⟨?_, ?_, ?_⟩ ?_)
    · simpa using setRow_heap w g _ _ e _ hg
    · simp; omega
    · rw [List.append_assoc, List.take_append_of_le_length (by simp; omega), List.take_take, Nat.min_self]
    · simpa using but_setRow w g _

end Go.Proofs.Ytbjlbmofdnkmiaa.Kit

/-
  OWN TEXT. Contract of slices.Delete at one block.
-/
namespace Go.Proofs.Ytbjlbmofdnkmiaa
open Go Go.RowKit Go.Proofs.Ytbjlbmofdnkmiaa.Kit

theorem zero_block : ∀ w, (zeroValue 63).run Try.prog w = .ok (.agg #[.int .i64 0, .int .i64 0, .int .i64 0]) w := fun w => by
  have h := info_block
  cases hq : Try.prog.info? 63 with
  | none => simp [hq] at h
  | some i =>
    simp [hq] at h
    simp [zeroValue, typeInfo, hq, h.1]

theorem zero_one : ∀ v ∈ (Value.agg #[.int .i64 0, .int .i64 0, .int .i64 0]).cells, v.oneCell' = true := by
  intro v hv
  have h : v ∈ (#[.int .i64 0, .int .i64 0, .int .i64 0] : Array Value) := hv
  simp at h
  subst h
  rfl

theorem bvals_take (l : List Bk) (i : Nat) : (bvals l).take (i * 3) = bvals (l.take i) := by
  induction l generalizing i with
  | nil => simp [bvals]
  | cons b l ih =>
    cases i with
    | zero => simp [bvals]
    | succ i => rw [Nat.succ_mul]; simp only [bvals, List.take_succ_cons, ih]
theorem bvals_drop (l : List Bk) (i : Nat) : (bvals l).drop (i * 3) = bvals (l.drop i) := by
  induction l generalizing i with
  | nil => simp [bvals]
  | cons b l ih =>
    cases i with
    | zero => simp [bvals]
    | succ i => rw [Nat.succ_mul]; simp only [bvals, List.drop_succ_cons, ih]
theorem take_cut {L X : List Value} {n m : Nat} (h : L.take n = X) (hm : m ≤ n) : L.take m = X.take m := by rw [← h, List.take_take, Nat.min_eq_left hm]

set_option maxHeartbeats 2000000 in
theorem bDel_any (w : World) (base g N cap i : Nat) (l : List Bk) (hi : i ≤ N) (hn : N ≤ 300) (own : w.ownsRow base 63 3 (.slice (some ⟨g, 0, none⟩) (N + 1) cap) (N + 1) (bvals l)) :
    Calls Try.prog 48 #[.slice (some ⟨g, 0, none⟩) (N + 1) cap, .int .i64 i, .int .i64 ((i : Int) + 1)] w fun e w' => e = .returned (.slice (some ⟨g, 0, none⟩) N cap) ∧
      w'.ownsRow base 63 3 (.slice (some ⟨g, 0, none⟩) N cap) N (bvals (l.eraseIdx i)) ∧ But g w w' := by
  obtain ⟨i1, hj, hy0, hy1, hy2⟩ := info_parts info_block
  have hll := bowns_len own
  obtain ⟨hbg, hnc, cur, R, hcur⟩ := Row.of own
  have hm := R.m
  unfold maxLen at hm
  have own1 : w.drew.ownsRow base 63 3 (.slice (some ⟨g, 0, none⟩) i cap) i (bvals (l.take i)) :=
    (R.below (Below.refl _ _).drew).owns hbg (by omega) (by rw [take_cut hcur (by omega), bvals_take])
  obtain ⟨news, hnews⟩ : ∃ news, news = bvals (l.drop (i + 1)) := ⟨_, rfl⟩
  have hnl : news.length = (N - i) * 3 := by rw [hnews, length_bvals, List.length_drop, hll]; omega
  have hn1 : ∀ u ∈ news, u.oneCell' = true := by rw [hnews]; exact bvals_oneCell _
  have hcell : ∀ j u, news[j]? = some u → w.drew.cell? ((⟨g, (i + 1) * 3, none⟩ : Addr).add j) = some u := by
    intro j u hu
    rw [add_at, (R.below (Below.refl _ _).drew).cell]
    rw [hnews, ← bvals_drop, List.getElem?_drop] at hu
    rw [← hcur, List.getElem?_take] at hu
    split at hu
    · exact hu
    · cases hu
  have HE : Hid (bvals (l.take i) ++ news = bvals (l.eraseIdx i)) := by
    show _ = _
    rw [hnews, ← bvals_append, List.eraseIdx_eq_take_drop_succ]
  have hsum : i + (N - i) = N := by omega
  have Hcell : Hid _ := hcell
  have Hnl : Hid _ := hnl
  clear hnews hcur own hcell hnl
  have h1 : (i : Int) + 1 ≤ N + 1 := by omega
  have h2 : i ≤ N + 1 := by omega
  have h3 : ((i : Int) == (i : Int) + 1) = false := by simp; omega
  have h4 : ((i : Int) + 1).toNat = i + 1 := by omega
  have h5 : i ≤ cap := by omega
  have h6 : ¬ (cap = N) := by omega
  have h7 : N + 1 - N = 1 := by omega
  have h8 : (i : Int) ≤ (cap : Int) := by omega
  have h9 : (i : Int) + 1 ≤ (cap : Int) := by omega
  have h10 : (i : Int) ≤ (N : Int) + 1 := by omega
  have h11 : (N : Int) ≤ (N : Int) + 1 := by omega
  have h12 : (N : Int) + 1 ≤ (cap : Int) := by omega
  have h13 : ((N : Int) + 1).toNat = N + 1 := by omega
  have h14 : ¬ (cap = i) := by omega
  have h15 : (0 : Int) ≤ (i : Int) + 1 := by omega
  by_cases hc' : cap = i + 1
  · have hc : (cap = i + 1) = True := eq_true hc'
    have HC : Hid (cap = i + 1) := hc'
    clear hc'
    go_enter Try.func48, Try.ntmps48
    go_wp2
    go_region_law (refine step_append_fits rfl (.tmp 22) (.tmp 25) 26 rfl 63 i1 3 Try.underlying26 hj hy1 base g i cap (bvals (l.take i)) (by simp [Act.eval, Act.put]) own1 (some ⟨g, 0, none⟩) (N - i) (cap - (i + 1)) news (by simp [Act.eval, Act.put]) Hnl.out ⟨_, rfl, fun j u hu => by have := Hnl.out; have hc' := HC.out; have h0 : news = [] := List.eq_nil_of_length_eq_zero (by omega); rw [h0] at hu; cases hu⟩ hn1 N hsum (by omega) ?_; intro w1 ho1 hb1)
    all_goals
      obtain ⟨_, _, cur1, R1, hcur1⟩ := Row.of ho1
      have hl1 := R1.len
      clear own1 Hcell Hnl hn1 ho1 R
      go_wp2_with (refine wpList_clear_k rfl (.tmp 31) 26 rfl 63 _ 3 Try.underlying26 zero_block rfl zero_one _ _ _ rfl g (N * 3) cur1 R1.h (fun _ => rfl) (by omega) ?_; intro w2 cur2 hg2 hb2)
      go_ret
      obtain ⟨g1, g2, g3⟩ := hg2.out
      have R2 : Row w2 63 3 g cap cur2 := ⟨g1, by rw [g2]; exact hl1, R1.m⟩
      exact ⟨rfl, R2.owns hbg (by omega) (by rw [g3, hcur1, HE.out]), ((But.of_below (Below.refl _ _).drew).trans hb1).trans hb2⟩
  · go_enter Try.func48, Try.ntmps48
    go_wp2
    go_region_law (refine step_append_fits rfl (.tmp 22) (.tmp 25) 26 rfl 63 i1 3 Try.underlying26 hj hy1 base g i cap (bvals (l.take i)) (by simp [Act.eval, Act.put]) own1 (some ⟨g, (i + 1) * 3, none⟩) (N - i) (cap - (i + 1)) news (by simp [Act.eval, Act.put]) Hnl.out ⟨_, rfl, Hcell.out⟩ hn1 N hsum (by omega) ?_; intro w1 ho1 hb1)
    all_goals
      obtain ⟨_, _, cur1, R1, hcur1⟩ := Row.of ho1
      have hl1 := R1.len
      clear own1 Hcell Hnl hn1 ho1 R
      go_wp2_with (refine wpList_clear_k rfl (.tmp 31) 26 rfl 63 _ 3 Try.underlying26 zero_block rfl zero_one _ _ _ rfl g (N * 3) cur1 R1.h (fun _ => rfl) (by omega) ?_; intro w2 cur2 hg2 hb2)
      go_ret
      obtain ⟨g1, g2, g3⟩ := hg2.out
      have R2 : Row w2 63 3 g cap cur2 := ⟨g1, by rw [g2]; exact hl1, R1.m⟩
      exact ⟨rfl, R2.owns hbg (by omega) (by rw [g3, hcur1, HE.out]), ((But.of_below (Below.refl _ _).drew).trans hb1).trans hb2⟩

end Go.Proofs.Ytbjlbmofdnkmiaa

/-
  OWN TEXT. The form's own reach, part by part, over whatever program.
-/
namespace Go.Proofs.Ytbjlbmofdnkmiaa.Kit
open Go Go.RowKit

/-- Each string, slice and map of a datum is within the reach. -/
def Sized {H : Type} (P : Program) (t : TypeId) (d : DataW H) : Prop := ∀ n ∈ d.weights P t, n ≤ reachBytes

theorem sized_arg {H : Type} {P : Program} {ts : List TypeId} {ds : List (DataW H)} (h : (DataW.weightsEach P ts ds).all (· ≤ reachBytes) = true) {j : Nat} {t : TypeId} {d : DataW H} (ht : ts[j]? = some t) (hd : ds[j]? = some d) : Sized P t d := by
  intro n hn
  have := List.all_eq_true.1 h _ (DataW.weights_mem_each ht hd n hn)
  simpa using this

theorem sized_field {H : Type} {P : Program} {t u : TypeId} {fs : Array Field} {parts : List (DataW H)} {d : DataW H} (h : Sized P t (.agg parts)) (ht : P.underlying t = some (.struct fs)) {i : Nat} (hu : (fs.toList.map (·.type))[i]? = some u) (hd : parts[i]? = some d) : Sized P u d := by
  intro n hn
  apply h
  have := DataW.weights_mem_each hu hd n hn
  simpa [DataW.weights, ht] using this

theorem sized_sl {H : Type} {P : Program} {t e : TypeId} {elems spare : List (DataW H)} (h : Sized P t (.slice elems spare)) (ht : P.underlying t = some (.slice e)) : (elems.length + spare.length) * P.bytesOf e ≤ reachBytes :=
  h _ (by simp [DataW.weights, ht])

end Go.Proofs.Ytbjlbmofdnkmiaa.Kit

/-
  OWN TEXT. How an argument that is a zone (api.Zone) is opened for the walk, over whatever program.
-/
namespace Go.Proofs.Ytbjlbmofdnkmiaa.Kit
open Go Go.RowKit Go.ChangeShapes Go.WideShapes Go.ChangeAt Go.Joins Go.Deep

/-- The numbers are words. -/
structure Bk.Fits (b : Bk) : Prop where
  a : (Lit.int .i64 b.a).wf = true
  o : (Lit.int .i64 b.o).wf = true
  t : (Lit.int .i64 b.t).wf = true

/-- What the walk is told of a slice of blocks that came in. -/
structure IsBlks (w : World) (ao : Option Addr) (n cap : Nat) (l : List Bk) : Prop where
  len : l.length = n
  le : n ≤ cap
  reach : cap * 24 ≤ 140737488351232
  at_ : BlksAt w ao l
  wf : ∀ i, i < n → (l.getD i .zero).Fits

/-- What the walk is told of a zone that came in. -/
structure IsZone (w : World) (fo : Option Addr) (fn fc : Nat) (to_ : Option Addr) (tn tc : Nat) (z : Zn) : Prop where
  fr : IsBlks w fo fn fc z.free
  ty : IsInts w to_ tn tc z.types
  wf : (Lit.int .i64 z.f).wf = true
  wt : (Lit.int .i64 z.t).wf = true

theorem IsZone.zn {w : World} {fo : Option Addr} {fn fc : Nat} {to_ : Option Addr} {tn tc : Nat} {z : Zn} (h : IsZone w fo fn fc to_ tn tc z) : ZnAt w fo fn to_ tn z :=
  ⟨⟨h.fr.len, by have := h.fr.reach; have := h.fr.le; omega, h.fr.at_⟩, ⟨h.ty.len, by have := h.ty.reach; have := h.ty.le; omega, h.ty.at_⟩⟩

theorem open_blks {H : Type} {enc : TypeId × Value → H} {P : Program} {W : World} {t e : TypeId} {f0 f1 f2 : Field} {fuel : Nat} {v : Value} {y : DataW H × List MemPlace}
    (ht : P.underlying t = some (.slice e)) (he : P.underlying e = some (.struct #[f0, f1, f2])) (ce : P.cellsOf e = 3) (be : P.bytesOf e = 24)
    (hone : oneCellFields P #[f0, f1, f2] = true) (u0 : P.underlying f0.type = some (.int .i64)) (u1 : P.underlying f1.type = some (.int .i64)) (u2 : P.underlying f2.type = some (.int .i64))
    (hf : DataW.trod enc P W 0 (fun _ => true) true fuel t [v] = some y) (hs : Sized P t y.1) :
    ∃ ao n cap l, v = .slice ao n cap ∧ IsBlks W ao n cap l := by
  rcases open_slice ht hf with ⟨hcs, _⟩ | ⟨a, n, m0, m, fu, D, Pl, hcs, _, hl, hm, hmm, hx, hc⟩
  · simp only [List.cons.injEq, and_true] at hcs
    subst hcs
    exact ⟨none, 0, 0, [], rfl, ⟨rfl, by omega, by omega, BlksAt.nil _ _, fun i hi => by omega⟩⟩
  · simp only [List.cons.injEq, and_true] at hcs
    subst hcs
    simp only [if_true] at hmm
    subst hmm
    have hr := hx ▸ hs
    have hr2 := sized_sl hr ht
    rw [be] at hr2
    simp only [List.length_map, List.length_range, reachBytes] at hr2
    rw [ce] at hc
    obtain ⟨o0, k0⟩ := hone_of hone 0 f0 rfl
    obtain ⟨o1, k1⟩ := hone_of hone 1 f1 rfl
    obtain ⟨o2, k2⟩ := hone_of hone 2 f2 rfl
    have each : ∀ i, i < m → ∃ r : Bk, r.Fits ∧ W.cell? (a.add (i * 3)) = some (.int .i64 r.a) ∧ W.cell? (a.add (i * 3 + 1)) = some (.int .i64 r.o) ∧ W.cell? (a.add (i * 3 + 2)) = some (.int .i64 r.t) := by
      intro i hi
      obtain ⟨cs', h1, h2⟩ := hc i hi
      obtain ⟨_, hlen, hcell⟩ := World.cells?_some h1
      obtain ⟨y0, y1, y2, q, _, _, g0, g1, g2⟩ := trod_struct3 he h2
      match cs', hlen with
      | [v0, v1, v2], _ =>
        simp [o0, k0] at g0
        simp [o1, k1] at g1
        simp [o2, k2] at g2
        obtain ⟨x0, e0, _, w0⟩ := DataW.trod_int u0 g0
        obtain ⟨x1, e1, _, w1⟩ := DataW.trod_int u1 g1
        obtain ⟨x2, e2, _, w2⟩ := DataW.trod_int u2 g2
        simp only [List.cons.injEq, and_true] at e0 e1 e2
        subst e0 e1 e2
        have c0 := hcell 0 (by omega)
        have c1 := hcell 1 (by omega)
        have c2 := hcell 2 (by omega)
        rw [add_add] at c0 c1 c2
        exact ⟨⟨x0, x1, x2⟩, ⟨w0, w1, w2⟩, by simpa using c0, by simpa using c1, by simpa using c2⟩
    have inh : Inhabited Bk := ⟨Bk.zero⟩
    obtain ⟨g, hg⟩ := choose_lt each
    have hget : ∀ i, i < n → ((List.range n).map g).getD i .zero = g i := by
      intro i hi
      simp [List.getD_eq_getElem?_getD, hi]
    refine ⟨some a, n, m, (List.range n).map g, rfl, ⟨by simp, hl, by omega, ?_, fun i hi => by rw [hget i hi]; exact (hg i (by omega)).1⟩⟩
    intro i hi
    have hi' : i < n := by simpa using hi
    obtain ⟨_, d0, d1, d2⟩ := hg i (by omega)
    obtain ⟨b, off, spot⟩ := a
    have hspot : spot = none := by
      have := World.cell?_spot (hg 0 (by omega)).2.1
      simpa [Addr.add] using this
    subst hspot
    have hadd : ∀ j, (⟨b, off, none⟩ : Addr).add j = ⟨b, off + j, none⟩ := fun j => by unfold Addr.add; split <;> simp_all
    rw [hadd] at d0 d1 d2
    rw [hget i hi']
    exact ⟨b, off, rfl, d0, by rw [Nat.add_assoc]; exact d1, by rw [Nat.add_assoc]; exact d2⟩

theorem open_ints_in {H : Type} {enc : TypeId × Value → H} {P : Program} {W : World} {t e : TypeId} {fuel : Nat} {v : Value} {y : DataW H × List MemPlace}
    (ht : P.underlying t = some (.slice e)) (he : P.underlying e = some (.int .i64)) (hc : P.cellsOf e = 1) (be : P.bytesOf e = 8)
    (hf : DataW.trod enc P W 0 (fun _ => true) true fuel t [v] = some y) (hs : Sized P t y.1) :
    ∃ ao n cap xs, v = .slice ao n cap ∧ IsInts W ao n cap xs := by
  rcases open_ints ht he hc hf with ⟨hcs, _⟩ | ⟨x, n, cap, zs, hcs, _, hl, hm, hz, hx, hcell, _⟩
  · simp only [List.cons.injEq, and_true] at hcs
    subst hcs
    exact ⟨none, 0, 0, [], rfl, ⟨rfl, by omega, by omega, fun _ => ⟨rfl, rfl⟩, IntsAt.nil _ _⟩⟩
  · simp only [List.cons.injEq, and_true] at hcs
    subst hcs
    simp only [if_true] at hz
    have hr := hx ▸ hs
    have hr2 := sized_sl hr ht
    rw [be] at hr2
    simp only [lits, List.length_map, List.length_take, List.length_drop, reachBytes] at hr2
    have hr' : cap * 8 ≤ 140737488351232 := by omega
    refine ⟨some x, n, cap, zs.take n, rfl, ⟨by simp; omega, hl, hr', fun h => (by cases h), ?_⟩⟩
    intro i hi
    have hi' : i < n := by simp at hi; omega
    have hci := hcell i (by omega)
    obtain ⟨b, off, spot⟩ := x
    have hspot : spot = none := by
      by_cases h0 : i = 0
      · subst h0; simpa [Addr.add] using World.cell?_spot hci
      · have := World.cell?_spot (hcell 0 (by omega)); simpa [Addr.add] using this
    subst hspot
    refine ⟨b, off, rfl, ?_⟩
    have hadd : (⟨b, off, none⟩ : Addr).add i = ⟨b, off + i, none⟩ := by unfold Addr.add; split <;> simp_all
    rw [hadd] at hci
    rw [hci]
    simp [List.getD_eq_getElem?_getD, hi']

theorem open_zone_arg {H : Type} {enc : TypeId × Value → H} {P : Program} {W : World} {base : Nat} {zt t e u i : TypeId} {g0 g1 g2 g3 f0 f1 f2 : Field} {v : Value} {d : DataW H} {p : List MemPlace}
    (hb : P.underlying zt = some (.struct #[g0, g1, g2, g3])) (hone : oneCellFields P #[g0, g1, g2, g3] = true) (cb : P.cellsOf zt = 4) (t2 : g2.type = t) (t3 : g3.type = u)
    (ht : P.underlying t = some (.slice e)) (he : P.underlying e = some (.struct #[f0, f1, f2])) (ce : P.cellsOf e = 3) (be : P.bytesOf e = 24) (hone2 : oneCellFields P #[f0, f1, f2] = true)
    (u0 : P.underlying f0.type = some (.int .i64)) (u1 : P.underlying f1.type = some (.int .i64)) (u2 : P.underlying f2.type = some (.int .i64))
    (hu : P.underlying u = some (.slice i)) (hi : P.underlying i = some (.int .i64)) (ci : P.cellsOf i = 1) (bi : P.bytesOf i = 8)
    (w0 : P.underlying g0.type = some (.int .i64)) (w1 : P.underlying g1.type = some (.int .i64))
    (hv : Value.okWide P W .any base zt v) (h : DataW.Trod enc P W 0 (fun _ => true) true zt v d p) (hs : Sized P zt d) :
    ∃ f t fo fn fc to_ tn tc fr ty, v = .agg #[.int .i64 f, .int .i64 t, .slice fo fn fc, .slice to_ tn tc] ∧ IsZone W fo fn fc to_ tn tc ⟨f, t, fr, ty⟩ := by
  obtain ⟨v0, v1, v2, v3, y0, y1, y2, y3, m, rfl, rfl, _, h0, h1, h2, h3⟩ := open_agg4 hb hone cb hv h
  have s2 : Sized P t y2.1 := sized_field hs hb (i := 2) (by simp [t2]) rfl
  have s3 : Sized P u y3.1 := sized_field hs hb (i := 3) (by simp [t3]) rfl
  rw [t2] at h2
  rw [t3] at h3
  obtain ⟨x, e0, _, f0w⟩ := DataW.trod_int w0 h0
  obtain ⟨z, e1, _, f1w⟩ := DataW.trod_int w1 h1
  simp only [List.cons.injEq, and_true] at e0 e1
  subst e0 e1
  obtain ⟨fo, fn, fc, fr, rfl, hF⟩ := open_blks ht he ce be hone2 u0 u1 u2 h2 s2
  obtain ⟨to_, tn, tc, ty, rfl, hT⟩ := open_ints_in hu hi ci bi h3 s3
  exact ⟨x, z, fo, fn, fc, to_, tn, tc, fr, ty, rfl, ⟨hF, hT, f0w, f1w⟩⟩

/-- The numbers of a zone are words. -/
structure ZFits (z : Zn) : Prop where
  f : (Lit.int .i64 z.f).wf = true
  t : (Lit.int .i64 z.t).wf = true
  fr : ∀ i, i < z.free.length → (z.free.getD i .zero).Fits

theorem IsZone.fits {w : World} {fo : Option Addr} {fn fc : Nat} {to_ : Option Addr} {tn tc : Nat} {z : Zn} (h : IsZone w fo fn fc to_ tn tc z) : ZFits z := ⟨h.wf, h.wt, fun i hi => h.fr.wf i (by have := h.fr.len; omega)⟩

end Go.Proofs.Ytbjlbmofdnkmiaa.Kit
