/-
  OWN TEXTS, bundled: ZKit, ZRet, ZBase, ZPure, ZPure2, ZPure3, ZcSmall, ZcBounds, Sized, ZArgs.
-/
import Derived.Test.YtpfafhgllabhbaaDoorBuddyTakesPart1
import Derived.Lib.SmallJoins
import Derived.Deep.SlicePairs

/-
  OWN TEXT. Slices of blocks (three numbers each) and zones over whatever program.
-/
namespace Go.Proofs.YtpfafhgllabhbaaDoor.Kit
open Go Go.RowKit

/-- A block: its place, its order, its type. -/
structure Bk where
  a : Int
  o : Int
  t : Int

/-- No block. -/
def Bk.zero : Bk := ⟨0, 0, 0⟩

/-- Blocks as cells. -/
def bvals : List Bk → List Value
  | [] => []
  | b :: l => Value.int .i64 b.a :: Value.int .i64 b.o :: Value.int .i64 b.t :: bvals l

theorem length_bvals (l : List Bk) : (bvals l).length = l.length * 3 := by
  induction l with
  | nil => rfl
  | cons r l ih => simp only [bvals, List.length_cons, ih]; omega
theorem bvals_append (l m : List Bk) : bvals (l ++ m) = bvals l ++ bvals m := by
  induction l with
  | nil => rfl
  | cons r l ih => simp [bvals, ih]
theorem bvals_0 (l : List Bk) (i : Nat) (h : i < l.length) : (bvals l)[i * 3]? = some (.int .i64 (l.getD i .zero).a) := by
  induction l generalizing i with
  | nil => simp at h
  | cons r l ih =>
    cases i with
    | zero => simp [bvals]
    | succ i =>
      have := ih i (by simpa using h)
      rw [Nat.succ_mul]
      simpa [bvals] using this
theorem bvals_1 (l : List Bk) (i : Nat) (h : i < l.length) : (bvals l)[i * 3 + 1]? = some (.int .i64 (l.getD i .zero).o) := by
  induction l generalizing i with
  | nil => simp at h
  | cons r l ih =>
    cases i with
    | zero => simp [bvals]
    | succ i =>
      have := ih i (by simpa using h)
      rw [Nat.succ_mul]
      simpa [bvals] using this
theorem bvals_2 (l : List Bk) (i : Nat) (h : i < l.length) : (bvals l)[i * 3 + 2]? = some (.int .i64 (l.getD i .zero).t) := by
  induction l generalizing i with
  | nil => simp at h
  | cons r l ih =>
    cases i with
    | zero => simp [bvals]
    | succ i =>
      have := ih i (by simpa using h)
      rw [Nat.succ_mul]
      simpa [bvals] using this
theorem bvals_oneCell (l : List Bk) : ∀ u ∈ bvals l, u.oneCell' = true := by
  induction l with
  | nil => intro u hu; simp [bvals] at hu
  | cons r l ih =>
    intro u hu
    simp only [bvals, List.mem_cons] at hu
    rcases hu with rfl | rfl | rfl | hu
    · rfl
    · rfl
    · rfl
    · exact ih u hu
theorem bvals_set2 (l : List Bk) (i : Nat) (x : Int) (h : i < l.length) : (bvals l).set (i * 3 + 2) (.int .i64 x) = bvals (l.set i ⟨(l.getD i .zero).a, (l.getD i .zero).o, x⟩) := by
  induction l generalizing i with
  | nil => simp at h
  | cons r l ih =>
    cases i with
    | zero => simp [bvals]
    | succ i =>
      have := ih i (by simpa using h)
      rw [Nat.succ_mul]
      simpa [bvals] using this

/-- The cells from 'ao' on hold the blocks 'l'. -/
def BlksAt (w : World) (ao : Option Addr) (l : List Bk) : Prop :=
  ∀ i, i < l.length → ∃ b off, ao = some ⟨b, off, none⟩ ∧ w.cell? ⟨b, off + i * 3, none⟩ = some (.int .i64 (l.getD i .zero).a) ∧ w.cell? ⟨b, off + i * 3 + 1, none⟩ = some (.int .i64 (l.getD i .zero).o) ∧ w.cell? ⟨b, off + i * 3 + 2, none⟩ = some (.int .i64 (l.getD i .zero).t)

theorem BlksAt.below {w w' : World} {ao : Option Addr} {l : List Bk} (h : BlksAt w ao l) (hb : Below w.heap.size w w') : BlksAt w' ao l := by
  intro i hi
  obtain ⟨b, off, ha, h1, h2, h3⟩ := h i hi
  exact ⟨b, off, ha, keep h1 hb, keep h2 hb, keep h3 hb⟩

theorem BlksAt.nil (w : World) (ao : Option Addr) : BlksAt w ao [] := fun i hi => absurd hi (by simp)

theorem blks_of_owns {w : World} {base : Nat} {e : TypeId} {ao : Option Addr} {n cap : Nat} {l : List Bk}
    (h : w.ownsRow base e 3 (.slice ao n cap) n (bvals l)) : BlksAt w ao l := by
  intro i hi
  have hl := h.1
  rw [length_bvals] at hl
  rcases h.2 with ⟨h', h0⟩ | ⟨g, cap', cur, h', _, hg, _, _, _, htake⟩
  · omega
  · simp only [Value.slice.injEq] at h'
    obtain ⟨rfl, _, rfl⟩ := h'
    refine ⟨g, 0, rfl, ?_, ?_, ?_⟩
    · rw [Nat.zero_add, h.cellAt (i * 3) (by omega), bvals_0 l i hi]
    · rw [Nat.zero_add, h.cellAt (i * 3 + 1) (by omega), bvals_1 l i hi]
    · rw [Nat.zero_add, h.cellAt (i * 3 + 2) (by omega), bvals_2 l i hi]

theorem bowns_len {w : World} {base : Nat} {e : TypeId} {v : Value} {n : Nat} {l : List Bk}
    (h : w.ownsRow base e 3 v n (bvals l)) : l.length = n := by have := h.1; rw [length_bvals] at this; omega

/-- The source of an append. -/
theorem bsrc_of {w : World} {ao : Option Addr} {l : List Bk} (h : BlksAt w ao l) (h0 : 0 < l.length) : ∃ ad, ao = some ad ∧ ∀ j v, (bvals l)[j]? = some v → w.cell? (ad.add j) = some v := by
  obtain ⟨b, off, rfl, _⟩ := h 0 h0
  refine ⟨_, rfl, fun j v hj => ?_⟩
  have hadd : (⟨b, off, none⟩ : Addr).add j = ⟨b, off + j, none⟩ := by unfold Addr.add; split <;> simp_all
  rw [hadd]
  have hlt : j < (bvals l).length := (List.getElem?_eq_some_iff.1 hj).1
  rw [length_bvals] at hlt
  obtain ⟨b', off', he, c1, c2, c3⟩ := h (j / 3) (by omega)
  simp only [Option.some.injEq, Addr.mk.injEq, and_true] at he
  obtain ⟨rfl, rfl⟩ := he
  rcases (show j % 3 = 0 ∨ j % 3 = 1 ∨ j % 3 = 2 by omega) with hm | hm | hm
  · have e1 : j = j / 3 * 3 := by omega
    rw [e1, bvals_0 l _ (by omega)] at hj
    rw [← e1] at c1
    rw [c1]; exact hj
  · have e1 : j = j / 3 * 3 + 1 := by omega
    rw [e1, bvals_1 l _ (by omega)] at hj
    have e2 : off + j / 3 * 3 + 1 = off + j := by omega
    rw [e2] at c2
    rw [c2]; exact hj
  · have e1 : j = j / 3 * 3 + 2 := by omega
    rw [e1, bvals_2 l _ (by omega)] at hj
    have e2 : off + j / 3 * 3 + 2 = off + j := by omega
    rw [e2] at c3
    rw [c3]; exact hj

/-- One block of a slice: its three cells, the numbers under names. -/
theorem BlksAt.at {w : World} {ao : Option Addr} {l : List Bk} (h : BlksAt w ao l) (k : Nat) (hk : k < l.length) : ∃ b off x y z, ao = some ⟨b, off, none⟩ ∧ w.cell? ⟨b, off + k * 3, none⟩ = some (.int .i64 x) ∧ w.cell? ⟨b, off + k * 3 + 1, none⟩ = some (.int .i64 y) ∧ w.cell? ⟨b, off + k * 3 + 2, none⟩ = some (.int .i64 z) ∧ Hid (l.getD k .zero = ⟨x, y, z⟩) := by
  obtain ⟨b, off, ha, h1, h2, h3⟩ := h k hk
  exact ⟨b, off, _, _, _, ha, h1, h2, h3, rfl⟩

theorem btake_snoc (l : List Bk) (k : Nat) (h : k < l.length) {x y z : Int} (hx : l.getD k .zero = ⟨x, y, z⟩) : bvals (l.take k) ++ [Value.int .i64 x, Value.int .i64 y, Value.int .i64 z] = bvals (l.take (k + 1)) := by
  rw [List.getD_eq_getElem?_getD, List.getElem?_eq_getElem h] at hx
  simp only [Option.getD_some] at hx
  rw [List.take_succ_eq_append_getElem h, bvals_append, hx]
  rfl

theorem take_getD (l : List Bk) (k : Nat) (h : k < l.length) {b : Bk} (hx : l.getD k .zero = b) : l.take (k + 1) = l.take k ++ [b] := by
  rw [List.getD_eq_getElem?_getD, List.getElem?_eq_getElem h] at hx
  simp only [Option.getD_some] at hx
  rw [List.take_succ_eq_append_getElem h, hx]

/-- A slice of blocks that can be read. -/
structure Blks (w : World) (ao : Option Addr) (n : Nat) (l : List Bk) : Prop where
  len : l.length = n
  reach : n * 24 ≤ 140737488351232
  at_ : BlksAt w ao l

/-- A slice of numbers that can be read. -/
structure Nums (w : World) (ao : Option Addr) (n : Nat) (l : List Int) : Prop where
  len : l.length = n
  reach : n * 8 ≤ 140737488351232
  at_ : IntsAt w ao l

theorem Blks.below {w w' : World} {ao : Option Addr} {n : Nat} {l : List Bk} (h : Blks w ao n l) (hb : Below w.heap.size w w') : Blks w' ao n l := ⟨h.len, h.reach, h.at_.below hb⟩
theorem Nums.below {w w' : World} {ao : Option Addr} {n : Nat} {l : List Int} (h : Nums w ao n l) (hb : Below w.heap.size w w') : Nums w' ao n l := ⟨h.len, h.reach, h.at_.below hb⟩
theorem Blks.nil (w : World) : Blks w none 0 [] := ⟨rfl, by omega, BlksAt.nil _ _⟩
theorem Nums.nil (w : World) : Nums w none 0 [] := ⟨rfl, by omega, IntsAt.nil _ _⟩

theorem But.blks {b n : Nat} {ao : Option Addr} {l : List Bk} {w w' : World} (h : But b w w') (hr : Blks w ao n l) (hne : ∀ a, ao = some a → a.block ≠ b) : Blks w' ao n l := by
  refine ⟨hr.len, hr.reach, fun i hi => ?_⟩
  obtain ⟨c, o, ha, h1, h2, h3⟩ := hr.at_ i hi
  exact ⟨c, o, ha, h.cell h1 (hne _ ha), h.cell h2 (hne _ ha), h.cell h3 (hne _ ha)⟩
theorem But.nums {b n : Nat} {ao : Option Addr} {l : List Int} {w w' : World} (h : But b w w') (hr : Nums w ao n l) (hne : ∀ a, ao = some a → a.block ≠ b) : Nums w' ao n l := by
  refine ⟨hr.len, hr.reach, fun i hi => ?_⟩
  obtain ⟨c, o, ha, h1⟩ := hr.at_ i hi
  exact ⟨c, o, ha, h.cell h1 (hne _ ha)⟩

/-- A zone, as plain numbers. -/
structure Zn where
  f : Int
  t : Int
  free : List Bk
  types : List Int

/-- A zone that can be read: its two lists. -/
structure ZnAt (w : World) (fo : Option Addr) (fn : Nat) (to_ : Option Addr) (tn : Nat) (z : Zn) : Prop where
  free : Blks w fo fn z.free
  types : Nums w to_ tn z.types

theorem ZnAt.below {w w' : World} {fo : Option Addr} {fn : Nat} {to_ : Option Addr} {tn : Nat} {z : Zn} (h : ZnAt w fo fn to_ tn z) (hb : Below w.heap.size w w') : ZnAt w' fo fn to_ tn z := ⟨h.free.below hb, h.types.below hb⟩
theorem But.zn {b : Nat} {w w' : World} {fo : Option Addr} {fn : Nat} {to_ : Option Addr} {tn : Nat} {z : Zn} (h : But b w w') (hz : ZnAt w fo fn to_ tn z) (h1 : ∀ a, fo = some a → a.block ≠ b) (h2 : ∀ a, to_ = some a → a.block ≠ b) : ZnAt w' fo fn to_ tn z := ⟨h.blks hz.free h1, h.nums hz.types h2⟩

/-- A zone as a value. -/
def zval (z : Zn) (fo : Option Addr) (fn fc : Nat) (to_ : Option Addr) (tn tc : Nat) : Value := .agg #[.int .i64 z.f, .int .i64 z.t, .slice fo fn fc, .slice to_ tn tc]

/-- A block of four cells that may be written. -/
structure Res4 (W : World) (b : Nat) : Prop where
  d0 : ∃ v, W.cell? ⟨b, 0, none⟩ = some v
  d1 : ∃ v, W.cell? ⟨b, 1, none⟩ = some v
  d2 : ∃ v, W.cell? ⟨b, 2, none⟩ = some v
  d3 : ∃ v, W.cell? ⟨b, 3, none⟩ = some v
  z0 : W.frozen? ⟨b, 0, none⟩ = false
  z1 : W.frozen? ⟨b, 1, none⟩ = false
  z2 : W.frozen? ⟨b, 2, none⟩ = false
  z3 : W.frozen? ⟨b, 3, none⟩ = false

theorem Res4.but {W W' : World} {b c : Nat} (h : Res4 W b) (hb : But c W W') (hne : b ≠ c) : Res4 W' b := by
  obtain ⟨⟨v0, e0⟩, ⟨v1, e1⟩, ⟨v2, e2⟩, ⟨v3, e3⟩, z0, z1, z2, z3⟩ := h
  have hbk := hb.block b (World.block_lt_of_cell? W _ e0) hne
  exact ⟨⟨v0, hb.cell e0 hne⟩, ⟨v1, hb.cell e1 hne⟩, ⟨v2, hb.cell e2 hne⟩, ⟨v3, hb.cell e3 hne⟩, (World.frozen?_of_block (a := ⟨b, 0, none⟩) hbk).trans z0, (World.frozen?_of_block (a := ⟨b, 1, none⟩) hbk).trans z1, (World.frozen?_of_block (a := ⟨b, 2, none⟩) hbk).trans z2, (World.frozen?_of_block (a := ⟨b, 3, none⟩) hbk).trans z3⟩

theorem Res4.below {W W' : World} {b : Nat} (h : Res4 W b) (hb : Below W.heap.size W W') : Res4 W' b := by
  obtain ⟨v0, e0⟩ := h.d0
  have hlt := World.block_lt_of_cell? W _ e0
  exact h.but (c := W'.heap.size) ⟨hb.os, hb.tape, hb.output, hb.size, fun k hk _ => hb.block k hk⟩ (by have := hb.size; dsimp only at hlt; omega)

/-- The world behind four stores into one block. -/
def set4 (W : World) (b : Nat) (x y u v : Value) : World := (((W.setCell ⟨b, 0, none⟩ x).setCell ⟨b, 1, none⟩ y).setCell ⟨b, 2, none⟩ u).setCell ⟨b, 3, none⟩ v

theorem but4 (W : World) (b : Nat) (x y u v : Value) : But b W ((((W.setCell ⟨b, 0, none⟩ x).setCell ⟨b, 1, none⟩ y).setCell ⟨b, 2, none⟩ u).setCell ⟨b, 3, none⟩ v) :=
  (((((But.refl b W).setCell x).setCell y).setCell u).setCell v)

theorem res4 {W : World} {b : Nat} (h : Res4 W b) (x y u v : Value) :
    ((((W.setCell ⟨b, 0, none⟩ x).setCell ⟨b, 1, none⟩ y).setCell ⟨b, 2, none⟩ u).setCell ⟨b, 3, none⟩ v).cell? ⟨b, 0, none⟩ = some x ∧
    ((((W.setCell ⟨b, 0, none⟩ x).setCell ⟨b, 1, none⟩ y).setCell ⟨b, 2, none⟩ u).setCell ⟨b, 3, none⟩ v).cell? ⟨b, 1, none⟩ = some y ∧
    ((((W.setCell ⟨b, 0, none⟩ x).setCell ⟨b, 1, none⟩ y).setCell ⟨b, 2, none⟩ u).setCell ⟨b, 3, none⟩ v).cell? ⟨b, 2, none⟩ = some u ∧
    ((((W.setCell ⟨b, 0, none⟩ x).setCell ⟨b, 1, none⟩ y).setCell ⟨b, 2, none⟩ u).setCell ⟨b, 3, none⟩ v).cell? ⟨b, 3, none⟩ = some v := by
  obtain ⟨v0, e0⟩ := h.d0
  obtain ⟨v1, e1⟩ := h.d1
  obtain ⟨v2, e2⟩ := h.d2
  obtain ⟨v3, e3⟩ := h.d3
  have o : ∀ (X : World) (i j : Nat) (r : Value), i ≠ j → (X.setCell ⟨b, i, none⟩ r).cell? ⟨b, j, none⟩ = X.cell? ⟨b, j, none⟩ := fun X i j r hij => World.cell?_setCell_other _ _ _ _ (by intro g; cases g; exact hij rfl)
  refine ⟨?_, ?_, ?_, ?_⟩
  · rw [o _ 3 0 _ (by decide), o _ 2 0 _ (by decide), o _ 1 0 _ (by decide)]
    exact World.cell?_setCell_same _ _ _ e0
  · rw [o _ 3 1 _ (by decide), o _ 2 1 _ (by decide)]
    exact World.cell?_setCell_same _ _ _ ((o _ 0 1 _ (by decide)).trans e1)
  · rw [o _ 3 2 _ (by decide)]
    exact World.cell?_setCell_same _ _ _ ((o _ 1 2 _ (by decide)).trans ((o _ 0 2 _ (by decide)).trans e2))
  · exact World.cell?_setCell_same _ _ _ ((o _ 2 3 _ (by decide)).trans ((o _ 1 3 _ (by decide)).trans ((o _ 0 3 _ (by decide)).trans e3)))

/-- A zone in a variable: its four cells, that may be written. -/
structure ZBox (W : World) (b : Nat) (x y u v : Value) : Prop where
  c0 : W.cell? ⟨b, 0, none⟩ = some x
  c1 : W.cell? ⟨b, 1, none⟩ = some y
  c2 : W.cell? ⟨b, 2, none⟩ = some u
  c3 : W.cell? ⟨b, 3, none⟩ = some v
  z0 : W.frozen? ⟨b, 0, none⟩ = false
  z1 : W.frozen? ⟨b, 1, none⟩ = false
  z2 : W.frozen? ⟨b, 2, none⟩ = false
  z3 : W.frozen? ⟨b, 3, none⟩ = false

theorem ZBox.res {W : World} {b : Nat} {x y u v : Value} (h : ZBox W b x y u v) : Res4 W b := ⟨⟨_, h.c0⟩, ⟨_, h.c1⟩, ⟨_, h.c2⟩, ⟨_, h.c3⟩, h.z0, h.z1, h.z2, h.z3⟩
theorem ZBox.lt {W : World} {b : Nat} {x y u v : Value} (h : ZBox W b x y u v) : b < W.heap.size := by
  have := World.block_lt_of_cell? W _ h.c0
  exact this
theorem ZBox.but {W W' : World} {b c : Nat} {x y u v : Value} (h : ZBox W b x y u v) (hb : But c W W') (hne : b ≠ c) : ZBox W' b x y u v := by
  have r := h.res.but hb hne
  exact ⟨hb.cell h.c0 hne, hb.cell h.c1 hne, hb.cell h.c2 hne, hb.cell h.c3 hne, r.z0, r.z1, r.z2, r.z3⟩
theorem ZBox.below {W W' : World} {b : Nat} {x y u v : Value} (h : ZBox W b x y u v) (hb : Below W.heap.size W W') : ZBox W' b x y u v := by
  have r := h.res.below hb
  exact ⟨keep h.c0 hb, keep h.c1 hb, keep h.c2 hb, keep h.c3 hb, r.z0, r.z1, r.z2, r.z3⟩
theorem zbox_new (W : World) (x y u v : Value) (t : TypeId) : ZBox (W.alloc (.cells #[x, y, u, v] t)) W.heap.size x y u v :=
  ⟨by simp, by simp, by simp, by simp, by simp, by simp, by simp, by simp⟩
theorem ZBox.set2 {W : World} {b : Nat} {x y u v : Value} (h : ZBox W b x y u v) (u' : Value) : ZBox (W.setCell ⟨b, 2, none⟩ u') b x y u' v := by
  have o : ∀ j : Nat, j ≠ 2 → (W.setCell ⟨b, 2, none⟩ u').cell? ⟨b, j, none⟩ = W.cell? ⟨b, j, none⟩ := fun j hj => World.cell?_setCell_other _ _ _ _ (by intro g; cases g; exact hj rfl)
  exact ⟨(o 0 (by decide)).trans h.c0, (o 1 (by decide)).trans h.c1, World.cell?_setCell_same _ _ _ h.c2, (o 3 (by decide)).trans h.c3, by simpa using h.z0, by simpa using h.z1, by simpa using h.z2, by simpa using h.z3⟩
theorem ZBox.set3 {W : World} {b : Nat} {x y u v : Value} (h : ZBox W b x y u v) (v' : Value) : ZBox (W.setCell ⟨b, 3, none⟩ v') b x y u v' := by
  have o : ∀ j : Nat, j ≠ 3 → (W.setCell ⟨b, 3, none⟩ v').cell? ⟨b, j, none⟩ = W.cell? ⟨b, j, none⟩ := fun j hj => World.cell?_setCell_other _ _ _ _ (by intro g; cases g; exact hj rfl)
  exact ⟨(o 0 (by decide)).trans h.c0, (o 1 (by decide)).trans h.c1, (o 2 (by decide)).trans h.c2, World.cell?_setCell_same _ _ _ h.c3, by simpa using h.z0, by simpa using h.z1, by simpa using h.z2, by simpa using h.z3⟩
theorem ZBox.set4 {W : World} {b : Nat} {x y u v : Value} (h : ZBox W b x y u v) (x' y' u' v' : Value) : ZBox ((((W.setCell ⟨b, 0, none⟩ x').setCell ⟨b, 1, none⟩ y').setCell ⟨b, 2, none⟩ u').setCell ⟨b, 3, none⟩ v') b x' y' u' v' := by
  obtain ⟨k0, k1, k2, k3⟩ := res4 h.res x' y' u' v'
  exact ⟨k0, k1, k2, k3, by simpa using h.z0, by simpa using h.z1, by simpa using h.z2, by simpa using h.z3⟩

theorem nums_of_owns {w : World} {base : Nat} {e : TypeId} {ao : Option Addr} {n cap : Nat} {l : List Int} (h : w.ownsRow base e 1 (.slice ao n cap) n (vals l)) (hr : n * 8 ≤ 140737488351232) : Nums w ao n l := ⟨owns_len h, hr, ints_of_owns h⟩
theorem blks_own {w : World} {base : Nat} {e : TypeId} {ao : Option Addr} {n cap : Nat} {l : List Bk} (h : w.ownsRow base e 3 (.slice ao n cap) n (bvals l)) (hr : n * 24 ≤ 140737488351232) : Blks w ao n l := ⟨bowns_len h, hr, blks_of_owns h⟩

/-- A zone in new memory is returned, and a code. -/
def RetZone (B : Nat) (w' : World) (z : Zn) (e : Ending) : Prop :=
  ∃ fo fn fc to_ tn tc, e = .returned (.tuple #[.agg #[.int .i64 z.f, .int .i64 z.t, .slice fo fn fc, .slice to_ tn tc], .int .i64 0]) ∧ ZnAt w' fo fn to_ tn z ∧ Fresh B fo ∧ Fresh B to_
/-- No zone is returned, and a code. -/
def RetNone (c : Int) (e : Ending) : Prop := e = .returned (.tuple #[.agg #[.int .i64 0, .int .i64 0, .slice none 0 0, .slice none 0 0], .int .i64 c])

theorem fresh_none (B : Nat) : Fresh B none := fun a ha => by cases ha
theorem Fresh.mono {B C : Nat} {ao : Option Addr} (h : Fresh B ao) (hc : C ≤ B) : Fresh C ao := fun a ha => Nat.le_trans hc (h a ha)

theorem ZBox.belowB {B : Nat} {W W' : World} {b : Nat} {x y u v : Value} (h : ZBox W b x y u v) (hb : Below B W W') (hlt : b < B) : ZBox W' b x y u v :=
  ⟨(hb.cell (p := ⟨b, 0, none⟩) hlt).trans h.c0, (hb.cell (p := ⟨b, 1, none⟩) hlt).trans h.c1, (hb.cell (p := ⟨b, 2, none⟩) hlt).trans h.c2, (hb.cell (p := ⟨b, 3, none⟩) hlt).trans h.c3, (hb.frozen (p := ⟨b, 0, none⟩) hlt).trans h.z0, (hb.frozen (p := ⟨b, 1, none⟩) hlt).trans h.z1, (hb.frozen (p := ⟨b, 2, none⟩) hlt).trans h.z2, (hb.frozen (p := ⟨b, 3, none⟩) hlt).trans h.z3⟩
theorem Res4.belowB {B : Nat} {W W' : World} {b : Nat} (h : Res4 W b) (hb : Below B W W') (hlt : b < B) : Res4 W' b := by
  obtain ⟨⟨v0, e0⟩, ⟨v1, e1⟩, ⟨v2, e2⟩, ⟨v3, e3⟩, z0, z1, z2, z3⟩ := h
  exact (ZBox.belowB ⟨e0, e1, e2, e3, z0, z1, z2, z3⟩ hb hlt).res

/-- The three cells of a block that has just been laid. -/
theorem cell_three_new (w : World) (a b c : Value) (t : TypeId) : ∀ j u, [a, b, c][j]? = some u → (w.alloc (.cells #[a, b, c] t)).cell? ((⟨w.heap.size, 0, none⟩ : Addr).add j) = some u := by
  intro j u hj
  match j, hj with
  | 0, hj => simp at hj; subst hj; simp [Addr.add]
  | 1, hj => simp at hj; subst hj; simp [Addr.add]
  | 2, hj => simp at hj; subst hj; simp [Addr.add]
  | j + 3, hj => simp at hj

end Go.Proofs.YtpfafhgllabhbaaDoor.Kit

/-
  OWN TEXT. A zone or none is returned, and a code.
-/
namespace Go.Proofs.YtpfafhgllabhbaaDoor.Kit
open Go Go.RowKit

/-- A zone is returned, and a code. -/
def RetAny (w' : World) (Z : Zn) (c : Int) (e : Ending) : Prop :=
  ∃ fo fn fc to_ tn tc, e = .returned (.tuple #[.agg #[.int .i64 Z.f, .int .i64 Z.t, .slice fo fn fc, .slice to_ tn tc], .int .i64 c]) ∧ ZnAt w' fo fn to_ tn Z
/-- A zone in new memory is returned. -/
def RetZ (B : Nat) (w' : World) (z : Zn) (e : Ending) : Prop :=
  ∃ fo fn fc to_ tn tc, e = .returned (.agg #[.int .i64 z.f, .int .i64 z.t, .slice fo fn fc, .slice to_ tn tc]) ∧ ZnAt w' fo fn to_ tn z ∧ Fresh B fo ∧ Fresh B to_

theorem RetZone.any {B : Nat} {w' : World} {Z : Zn} {e : Ending} (h : RetZone B w' Z e) : RetAny w' Z 0 e := by
  obtain ⟨fo, fn, fc, to_, tn, tc, he, hz, _, _⟩ := h
  exact ⟨fo, fn, fc, to_, tn, tc, he, hz⟩
theorem RetNone.any {c : Int} {w' : World} {e : Ending} (h : RetNone c e) : RetAny w' ⟨0, 0, [], []⟩ c e :=
  ⟨none, 0, 0, none, 0, 0, h, ⟨Blks.nil _, Nums.nil _⟩⟩

end Go.Proofs.YtpfafhgllabhbaaDoor.Kit

/-
  OWN TEXT. Closed facts on the type api.Block.
-/
namespace Go.Proofs.YtpfafhgllabhbaaDoor
open Go Go.RowKit Go.Proofs.YtpfafhgllabhbaaDoor.Kit

theorem info_block : (Tryd.prog.info? 42).map (fun i => (i.zero, i.size, i.bytes)) = some (some (.agg #[.int .i64 0, .int .i64 0, .int .i64 0]), 3, 24) := by kernel_rfl

theorem size_block : (Tryd.prog.info? 42).map (·.size) = some 3 := by kernel_rfl

end Go.Proofs.YtpfafhgllabhbaaDoor

/-
  OWN TEXT. Zones that may be, as plain mathematics.
-/
namespace Go.Proofs.YtpfafhgllabhbaaDoor.Kit

/-- A power of two. -/
def pw (n : Int) : Int := ((2 ^ n.toNat : Nat) : Int)
theorem pw_0 : pw 0 = 1 := rfl
theorem pw_1 : pw 1 = 2 := rfl
theorem pw_2 : pw 2 = 4 := rfl
theorem pw_3 : pw 3 = 8 := rfl
theorem pw_4 : pw 4 = 16 := rfl
theorem pw_nat (n : Nat) : pw (n : Int) = ((2 ^ n : Nat) : Int) := rfl
theorem pw_pos (n : Int) : 1 ≤ pw n := by
  unfold pw
  have := Nat.two_pow_pos n.toNat
  omega
/-- An order from 0 to 4. -/
def ordOk (o : Int) : Prop := 0 ≤ o ∧ o ≤ 4
theorem ord_cases {o : Int} (h : ordOk o) : (o = 0 ∧ pw o = 1) ∨ (o = 1 ∧ pw o = 2) ∨ (o = 2 ∧ pw o = 4) ∨ (o = 3 ∧ pw o = 8) ∨ (o = 4 ∧ pw o = 16) := by
  obtain ⟨h1, h2⟩ := h
  rcases (show o = 0 ∨ o = 1 ∨ o = 2 ∨ o = 3 ∨ o = 4 by omega) with rfl | rfl | rfl | rfl | rfl
  · exact Or.inl ⟨rfl, rfl⟩
  · exact Or.inr (Or.inl ⟨rfl, rfl⟩)
  · exact Or.inr (Or.inr (Or.inl ⟨rfl, rfl⟩))
  · exact Or.inr (Or.inr (Or.inr (Or.inl ⟨rfl, rfl⟩)))
  · exact Or.inr (Or.inr (Or.inr (Or.inr ⟨rfl, rfl⟩)))
theorem pw_le {o : Int} (h : ordOk o) : pw o ≤ 16 := by rcases ord_cases h with ⟨_, e⟩ | ⟨_, e⟩ | ⟨_, e⟩ | ⟨_, e⟩ | ⟨_, e⟩ <;> omega

/-- A block may be in a zone. -/
def blkIn (f t a o : Int) : Prop := ordOk o ∧ f ≤ a ∧ a ≤ t - 1 ∧ a % pw o = 0
/-- May a block be in the zone, decided. -/
def blkB (f t a o : Int) : Bool := inB o 0 4 && (inB a f (t - 1) && decide (a % pw o = 0))
theorem blkB_iff (f t a o : Int) : blkB f t a o = true ↔ blkIn f t a o := by
  unfold blkB blkIn ordOk
  simp only [Bool.and_eq_true, inB, decide_eq_true_eq]
  constructor
  · rintro ⟨h1, h2, h3⟩; exact ⟨h1, h2.1, h2.2, h3⟩
  · rintro ⟨h1, h2, h3, h4⟩; exact ⟨h1, ⟨h2, h3⟩, h4⟩

def typeOk (x : Int) : Prop := 0 ≤ x ∧ x ≤ 2
/-- Two blocks, the first one lower, are beside each other. -/
def besideP (p b : Bk) : Prop := b.o < 4 ∧ p.o = b.o ∧ p.a + pw b.o = b.a ∧ p.a % pw (b.o + 1) = 0

/-- Free blocks that may be, from lo on, behind pv. -/
def FreeOk (f t : Int) : Int → Option Bk → List Bk → Prop
  | _, _, [] => True
  | lo, pv, b :: l => blkIn f t b.a b.o ∧ typeOk b.t ∧ lo ≤ b.a ∧ (∀ p, pv = some p → ¬ besideP p b) ∧ FreeOk f t (b.a + pw b.o) (some b) l

/-- The last one, or what was before. -/
def lastOf : Option Bk → List Bk → Option Bk
  | pv, [] => pv
  | _, b :: l => lastOf (some b) l
/-- Where the next one may begin. -/
def lowOf : Int → List Bk → Int
  | lo, [] => lo
  | _, b :: l => lowOf (b.a + pw b.o) l

theorem lastOf_snoc (pv : Option Bk) (l : List Bk) (b : Bk) : lastOf pv (l ++ [b]) = some b := by
  induction l generalizing pv with
  | nil => rfl
  | cons a l ih => exact ih _
theorem lowOf_snoc (lo : Int) (l : List Bk) (b : Bk) : lowOf lo (l ++ [b]) = b.a + pw b.o := by
  induction l generalizing lo with
  | nil => rfl
  | cons a l ih => exact ih _

theorem freeOk_snoc (f t lo : Int) (pv : Option Bk) (l : List Bk) (b : Bk) : FreeOk f t lo pv (l ++ [b]) ↔ FreeOk f t lo pv l ∧ blkIn f t b.a b.o ∧ typeOk b.t ∧ lowOf lo l ≤ b.a ∧ ∀ p, lastOf pv l = some p → ¬ besideP p b := by
  induction l generalizing lo pv with
  | nil => simp [FreeOk, lowOf, lastOf]
  | cons a l ih =>
    show _ ∧ _ ∧ _ ∧ _ ∧ FreeOk f t (a.a + pw a.o) (some a) (l ++ [b]) ↔ (_ ∧ _ ∧ _ ∧ _ ∧ FreeOk f t (a.a + pw a.o) (some a) l) ∧ _ ∧ _ ∧ lowOf (a.a + pw a.o) l ≤ b.a ∧ ∀ p, lastOf (some a) l = some p → ¬ besideP p b
    rw [ih]
    constructor
    · rintro ⟨h1, h2, h3, h4, h5, h6⟩; exact ⟨⟨h1, h2, h3, h4, h5⟩, h6⟩
    · rintro ⟨⟨h1, h2, h3, h4, h5⟩, h6⟩; exact ⟨h1, h2, h3, h4, h5, h6⟩

theorem freeOk_left {f t lo : Int} {pv : Option Bk} {l m : List Bk} (h : FreeOk f t lo pv (l ++ m)) : FreeOk f t lo pv l := by
  induction l generalizing lo pv with
  | nil => trivial
  | cons a l ih => exact ⟨h.1, h.2.1, h.2.2.1, h.2.2.2.1, ih h.2.2.2.2⟩

/-- P3.1. -/
def newOk (f t : Int) : Prop := 0 ≤ f ∧ f ≤ t ∧ t ≤ 256 ∧ f % 16 = 0 ∧ t % 16 = 0

/-- A zone that may be. -/
structure ZMay (z : Zn) : Prop where
  new : newOk z.f z.t
  len : 8 * (z.types.length : Int) = z.t - z.f
  ty : ∀ i, i < z.types.length → typeOk (z.types.getD i 0)
  free : FreeOk z.f z.t z.f none z.free

/-- The types of a new zone. -/
def newTypes (f t : Int) : List Int := List.replicate ((t - f) / 8).toNat 1
def newZ (f t : Int) : Zn := ⟨f, t, [], newTypes f t⟩

/-- Pages in free blocks. -/
def freeN : List Bk → Int
  | [] => 0
  | b :: l => pw b.o + freeN l
theorem freeN_snoc (l : List Bk) (b : Bk) : freeN (l ++ [b]) = freeN l + pw b.o := by
  induction l with
  | nil => simp [freeN]
  | cons a l ih => simp only [List.cons_append, freeN, ih]; omega

/-- Free blocks hold no more pages than there are. -/
theorem freeN_le {f t lo : Int} {pv : Option Bk} {l : List Bk} (h : FreeOk f t lo pv l) (ht : t % 16 = 0) (hlo : lo ≤ t) : 0 ≤ freeN l ∧ freeN l ≤ t - lo := by
  induction l generalizing lo pv with
  | nil => simp only [freeN]; omega
  | cons a l ih =>
    obtain ⟨⟨h1, h2, h3, h4⟩, _, h6, _, h7⟩ := h
    have hle : a.a + pw a.o ≤ t := by
      rcases ord_cases h1 with ⟨_, e⟩ | ⟨_, e⟩ | ⟨_, e⟩ | ⟨_, e⟩ | ⟨_, e⟩ <;> rw [e] at h4 ⊢ <;> omega
    have := ih h7 hle
    have := pw_pos a.o
    simp only [freeN]
    omega

theorem freeOk_count {f t lo : Int} {pv : Option Bk} {l : List Bk} (h : FreeOk f t lo pv l) (ht : t % 16 = 0) (hlo : lo ≤ t) : (l.length : Int) ≤ t - lo := by
  have h1 := (freeN_le h ht hlo).2
  have h2 : (l.length : Int) ≤ freeN l := by
    clear h h1
    induction l with
    | nil => simp [freeN]
    | cons a l ih => simp only [freeN, List.length_cons]; have := pw_pos a.o; omega
  omega

theorem freeOk_at {f t lo : Int} {pv : Option Bk} {l : List Bk} (h : FreeOk f t lo pv l) {k : Nat} (hk : k < l.length) {b : Bk} (hb : l.getD k .zero = b) :
    blkIn f t b.a b.o ∧ typeOk b.t ∧ lowOf lo (l.take k) ≤ b.a ∧ ∀ p, lastOf pv (l.take k) = some p → ¬ besideP p b := by
  have h1 : FreeOk f t lo pv (l.take (k + 1)) := by rw [← List.take_append_drop (k + 1) l] at h; exact freeOk_left h
  rw [take_getD l k hk hb, freeOk_snoc] at h1
  exact h1.2

end Go.Proofs.YtpfafhgllabhbaaDoor.Kit

/-
  OWN TEXT. Lists of blocks with one less, with one more, as plain mathematics.
-/
namespace Go.Proofs.YtpfafhgllabhbaaDoor.Kit

/-- It is the block at a place, of an order. -/
def isB (a o : Int) (b : Bk) : Bool := decide (b.a = a ∧ b.o = o)
/-- All others. -/
def dropB (l : List Bk) (a o : Int) : List Bk := l.filter fun b => !isB a o b
/-- There is one. -/
def hasB (l : List Bk) (a o : Int) : Bool := l.any (isB a o)

theorem dropB_snoc (l : List Bk) (a o : Int) (b : Bk) : dropB (l ++ [b]) a o = if isB a o b = true then dropB l a o else dropB l a o ++ [b] := by
  unfold dropB
  rw [List.filter_append]
  by_cases h : isB a o b = true
  · rw [if_pos h]; simp [List.filter, h]
  · rw [if_neg h]; simp [List.filter, h]
theorem hasB_snoc (l : List Bk) (a o : Int) (b : Bk) : hasB (l ++ [b]) a o = (hasB l a o || isB a o b) := by simp [hasB, List.any_append]
theorem dropB_len (l : List Bk) (a o : Int) : (dropB l a o).length ≤ l.length := List.length_filter_le _ _

/-- A list with one more, by places. -/
def addB : List Bk → Bk → List Bk
  | [], b => [b]
  | x :: l, b => if x.a > b.a then b :: x :: l else x :: addB l b

theorem addB_len (l : List Bk) (b : Bk) : (addB l b).length = l.length + 1 := by
  induction l with
  | nil => rfl
  | cons x l ih =>
    simp only [addB]
    split
    · simp
    · simp [ih]

/-- One of them lies higher. -/
def gtB (l : List Bk) (b : Bk) : Bool := l.any fun x => decide (x.a > b.a)
theorem gtB_snoc (l : List Bk) (x b : Bk) : gtB (l ++ [x]) b = (gtB l b || decide (x.a > b.a)) := by simp [gtB, List.any_append]
theorem addB_snoc_t {l : List Bk} {b : Bk} (x : Bk) (h : gtB l b = true) : addB (l ++ [x]) b = addB l b ++ [x] := by
  induction l with
  | nil => simp [gtB] at h
  | cons y l ih =>
    simp only [List.cons_append, addB]
    by_cases g : y.a > b.a
    · rw [if_pos g, if_pos g]; rfl
    · rw [if_neg g, if_neg g, ih (by simp only [gtB, List.any_cons, Bool.or_eq_true, decide_eq_true_eq] at h ⊢; rcases h with h | h; exact absurd h g; exact h)]
      rfl
theorem addB_none {l : List Bk} {b : Bk} (h : gtB l b = false) : addB l b = l ++ [b] := by
  induction l with
  | nil => rfl
  | cons y l ih =>
    simp only [gtB, List.any_cons, Bool.or_eq_false_iff, decide_eq_false_iff_not] at h
    simp only [addB]
    rw [if_neg h.1, ih h.2]
    rfl
theorem addB_snoc_f {l : List Bk} {b x : Bk} (h : gtB l b = false) (hx : x.a > b.a) : addB (l ++ [x]) b = l ++ [b, x] := by
  induction l with
  | nil => simp [addB, hx]
  | cons y l ih =>
    simp only [gtB, List.any_cons, Bool.or_eq_false_iff, decide_eq_false_iff_not] at h
    simp only [List.cons_append, addB]
    rw [if_neg h.1, ih h.2]

/-- What is there behind the first k. -/
def outB (l : List Bk) (b : Bk) : List Bk := if gtB l b = true then addB l b else l
theorem outB_len (l : List Bk) (b : Bk) : (outB l b).length ≤ l.length + 1 := by
  unfold outB
  split
  · rw [addB_len]; omega
  · omega

end Go.Proofs.YtpfafhgllabhbaaDoor.Kit

/-
  OWN TEXT. A block comes back, as plain mathematics.
-/
namespace Go.Proofs.YtpfafhgllabhbaaDoor.Kit

/-- The block beside one. -/
def besideA (a o : Int) : Int := if a % pw (o + 1) = 0 then a + pw o else a - pw o

/-- Blocks are joined, n times at most. -/
def backGo : Nat → List Bk → Int → Int → List Bk × Int × Int
  | 0, l, a, o => (l, a, o)
  | n + 1, l, a, o => if hasB l (besideA a o) o = true then backGo n (dropB l (besideA a o) o) (if besideA a o < a then besideA a o else a) (o + 1) else (l, a, o)

/-- The zone when a block has come back. -/
def backZ (z : Zn) (a o : Int) : Zn :=
  ⟨z.f, z.t, addB (backGo (4 - o).toNat z.free a o).1 ⟨(backGo (4 - o).toNat z.free a o).2.1, (backGo (4 - o).toNat z.free a o).2.2, z.types.getD (((backGo (4 - o).toNat z.free a o).2.1 - z.f) / 8).toNat 0⟩, z.types⟩

theorem dropB_mem {l : List Bk} {a o : Int} {b : Bk} (h : b ∈ dropB l a o) : b ∈ l := (List.mem_filter.1 h).1
theorem hasB_in {l : List Bk} {f t a o : Int} (h : hasB l a o = true) (hl : ∀ b ∈ l, blkIn f t b.a b.o) : blkIn f t a o := by
  unfold hasB at h
  rw [List.any_eq_true] at h
  obtain ⟨b, hb, hi⟩ := h
  have := of_decide_eq_true hi
  have h2 := hl b hb
  rw [this.1, this.2] at h2
  exact h2

/-- Both together are a block that may be. -/
theorem join_in {f t a o : Int} (h : blkIn f t a o) (hb : blkIn f t (besideA a o) o) (ho : o < 4) : blkIn f t (if besideA a o < a then besideA a o else a) (o + 1) := by
  obtain ⟨⟨h1, h2⟩, h3, h4, h5⟩ := h
  obtain ⟨_, g3, g4, g5⟩ := hb
  have ho' : ordOk (o + 1) := ⟨by omega, by omega⟩
  rcases (show o = 0 ∨ o = 1 ∨ o = 2 ∨ o = 3 by omega) with rfl | rfl | rfl | rfl
  all_goals
    unfold besideA at g3 g4 g5 ⊢
    simp only [pw_0, pw_1, pw_2, pw_3, pw_4, show (0 : Int) + 1 = 1 from rfl, show (1 : Int) + 1 = 2 from rfl, show (2 : Int) + 1 = 3 from rfl, show (3 : Int) + 1 = 4 from rfl] at g3 g4 g5 h5 ⊢
    refine ⟨⟨by omega, by omega⟩, ?_, ?_, ?_⟩
    · split at g3 <;> split <;> omega
    · split at g4 <;> split <;> omega
    · simp only [pw_1, pw_2, pw_3, pw_4]
      split at g5 <;> split <;> omega

end Go.Proofs.YtpfafhgllabhbaaDoor.Kit

/-
  OWN TEXT. Contracts of the code: buddy's small functions.
-/
namespace Go.Proofs.YtpfafhgllabhbaaDoor
open Go Go.RowKit Go.Proofs.YtpfafhgllabhbaaDoor.Kit

set_option maxHeartbeats 1000000 in
theorem isType_any (w : World) (x : Int) :
    Calls Tryd.prog 15 #[.int .i64 x] w fun e w' => e = .returned (.bool (inB x 0 2)) ∧ w = w' := by
  by_cases h1 : 0 ≤ x
  · by_cases h2 : x < 3
    · have HR : Hid (inB x 0 2 = true) := inB_t (by omega)
      go_enter Tryd.func15, Tryd.ntmps15
      go_wp2
      go_ret
      exact ⟨ret_bool HR.out.symm, rfl⟩
    · have HR : Hid (inB x 0 2 = false) := inB_f (by omega)
      go_enter Tryd.func15, Tryd.ntmps15
      go_wp2
      go_ret
      exact ⟨ret_bool HR.out.symm, rfl⟩
  · have HR : Hid (inB x 0 2 = false) := inB_f (by omega)
    go_enter Tryd.func15, Tryd.ntmps15
    go_wp2
    go_ret
    exact ⟨ret_bool HR.out.symm, rfl⟩

set_option maxHeartbeats 1000000 in
theorem isOrder_any (w : World) (x : Int) :
    Calls Tryd.prog 14 #[.int .i64 x] w fun e w' => e = .returned (.bool (inB x 0 4)) ∧ w = w' := by
  by_cases h1 : 0 ≤ x
  · by_cases h2 : x ≤ 4
    · have HR : Hid (inB x 0 4 = true) := inB_t (by omega)
      go_enter Tryd.func14, Tryd.ntmps14
      go_wp2
      go_ret
      exact ⟨ret_bool HR.out.symm, rfl⟩
    · have HR : Hid (inB x 0 4 = false) := inB_f (by omega)
      go_enter Tryd.func14, Tryd.ntmps14
      go_wp2
      go_ret
      exact ⟨ret_bool HR.out.symm, rfl⟩
  · have HR : Hid (inB x 0 4 = false) := inB_f (by omega)
    go_enter Tryd.func14, Tryd.ntmps14
    go_wp2
    go_ret
    exact ⟨ret_bool HR.out.symm, rfl⟩

set_option maxHeartbeats 1000000 in
theorem isPage_any (w : World) (f t : Int) (fo to_ : Option Addr) (fn fc tn tc : Nat) (a : Int) :
    Calls Tryd.prog 56 #[.agg #[.int .i64 f, .int .i64 t, .slice fo fn fc, .slice to_ tn tc], .int .i64 a] w fun e w' => e = .returned (.bool (inB a f (t - 1))) ∧ Below w.heap.size w w' := by
  have hb1 := below_box w (.cells #[.int .i64 f, .int .i64 t, .slice fo fn fc, .slice to_ tn tc] 25)
  by_cases h1 : f ≤ a
  · by_cases h2 : a < t
    · have HR : Hid (inB a f (t - 1) = true) := inB_t (by omega)
      go_enter Tryd.func56, Tryd.ntmps56
      go_wp2
      go_ret
      exact ⟨ret_bool HR.out.symm, hb1⟩
    · have HR : Hid (inB a f (t - 1) = false) := inB_f (by omega)
      go_enter Tryd.func56, Tryd.ntmps56
      go_wp2
      go_ret
      exact ⟨ret_bool HR.out.symm, hb1⟩
  · have HR : Hid (inB a f (t - 1) = false) := inB_f (by omega)
    go_enter Tryd.func56, Tryd.ntmps56
    go_wp2
    go_ret
    exact ⟨ret_bool HR.out.symm, hb1⟩

set_option maxHeartbeats 1000000 in
theorem behind_any (w : World) (a o x : Int) (ho : ordOk o) (h0 : 0 ≤ a) (h1 : a ≤ 256) :
    Calls Tryd.prog 41 #[.agg #[.int .i64 a, .int .i64 o, .int .i64 x]] w fun e w' => e = .returned (.int .i64 (a + pw o)) ∧ Below w.heap.size w w' := by
  have hb1 := below_box w (.cells #[.int .i64 a, .int .i64 o, .int .i64 x] 42)
  rcases ord_cases ho with ⟨rfl, e⟩ | ⟨rfl, e⟩ | ⟨rfl, e⟩ | ⟨rfl, e⟩ | ⟨rfl, e⟩
  all_goals
    rw [e]
    clear e ho
    go_enter Tryd.func41, Tryd.ntmps41
    go_wp2
    go_quiet (fail)
    go_wp2
    go_ret
    exact ⟨rfl, below_drewN hb1 _⟩

set_option maxHeartbeats 1000000 in
/-- May a block be in the zone, as the code looks. -/
theorem blkMay_any (w : World) (f t : Int) (fo to_ : Option Addr) (fn fc tn tc : Nat) (a o : Int) (h : newOk f t) :
    Calls Tryd.prog 49 #[.agg #[.int .i64 f, .int .i64 t, .slice fo fn fc, .slice to_ tn tc], .int .i64 a, .int .i64 o] w fun e w' => e = .returned (.bool (blkB f t a o)) ∧ Below w.heap.size w w' := by
  obtain ⟨h1, h2, h3, h4, h5⟩ := h
  have hb1 := below_box w (.cells #[.int .i64 f, .int .i64 t, .slice fo fn fc, .slice to_ tn tc] 25)
  have Z0 := zbox_new w (.int .i64 f) (.int .i64 t) (.slice fo fn fc) (.slice to_ tn tc) 25
  have c0 := Z0.c0
  have c1 := Z0.c1
  have c2 := Z0.c2
  have c3 := Z0.c3
  by_cases p1 : 0 ≤ o ∧ o ≤ 4
  · have e1 : Hid (inB o 0 4 = true) := inB_t p1
    by_cases p2 : f ≤ a ∧ a ≤ t - 1
    · have e2 : Hid (inB a f (t - 1) = true) := inB_t p2
      obtain ⟨A, rfl⟩ : ∃ A : Nat, a = A := ⟨a.toNat, by omega⟩
      obtain ⟨r, hr⟩ : ∃ r, blkB f t (A : Int) o = r := ⟨_, rfl⟩
      rw [hr]
      rcases ord_cases p1 with ⟨rfl, e⟩ | ⟨rfl, e⟩ | ⟨rfl, e⟩ | ⟨rfl, e⟩ | ⟨rfl, e⟩
      all_goals
        unfold blkB at hr
        rw [e1.out, e2.out, e, Bool.true_and, Bool.true_and] at hr
        have HR : Hid _ := hr
        clear hr e p1
        go_enter Tryd.func49, Tryd.ntmps49
        go_wp2_with fail
        go_at_call 14
        refine (isOrder_any _ _).mono ?_
        rintro e w' ⟨rfl, rfl⟩
        rw [e1.out]
        go_wp2_with fail
        go_at_call 56
        refine (isPage_any _ _ _ _ _ _ _ _ _ _).mono ?_
        rintro e w2 ⟨rfl, hb2⟩
        rw [e2.out]
        have hB := hb1.trans (hb2.mono hb1.size)
        clear c0 c1 c2 c3 Z0
        go_wp2
        go_ret
        exact ⟨ret_bool (by first | exact HR.out | (rw [← HR.out]; simp)), hB⟩
    · have e2 : Hid (inB a f (t - 1) = false) := inB_f p2
      have HR : Hid (blkB f t a o = false) := by show _ = _; unfold blkB; rw [e1.out, e2.out]; rfl
      go_enter Tryd.func49, Tryd.ntmps49
      go_wp2_with fail
      go_at_call 14
      refine (isOrder_any _ _).mono ?_
      rintro e w' ⟨rfl, rfl⟩
      rw [e1.out]
      go_wp2_with fail
      go_at_call 56
      refine (isPage_any _ _ _ _ _ _ _ _ _ _).mono ?_
      rintro e w2 ⟨rfl, hb2⟩
      rw [e2.out]
      have hB := hb1.trans (hb2.mono hb1.size)
      clear c0 c1 c2 c3 Z0
      go_wp2
      go_ret
      exact ⟨ret_bool HR.out.symm, hB⟩
  · have e1 : Hid (inB o 0 4 = false) := inB_f p1
    have HR : Hid (blkB f t a o = false) := by show _ = _; unfold blkB; rw [e1.out]; rfl
    go_enter Tryd.func49, Tryd.ntmps49
    go_wp2_with fail
    go_at_call 14
    refine (isOrder_any _ _).mono ?_
    rintro e w' ⟨rfl, rfl⟩
    rw [e1.out]
    go_wp2
    go_ret
    exact ⟨ret_bool HR.out.symm, hb1⟩

theorem xor_0 : ∀ a : Nat, a < 256 → bits BinOp.xor IntKind.i64 (a : Int) 1 = besideA a 0 := by decide +kernel
theorem xor_1 : ∀ a : Nat, a < 256 → a % 2 = 0 → bits BinOp.xor IntKind.i64 (a : Int) 2 = besideA a 1 := by decide +kernel
theorem xor_2 : ∀ a : Nat, a < 256 → a % 4 = 0 → bits BinOp.xor IntKind.i64 (a : Int) 4 = besideA a 2 := by decide +kernel
theorem xor_3 : ∀ a : Nat, a < 256 → a % 8 = 0 → bits BinOp.xor IntKind.i64 (a : Int) 8 = besideA a 3 := by decide +kernel

set_option maxHeartbeats 1000000 in
theorem beside_any (w : World) (a : Nat) (o : Int) (ho : ordOk o) (h4 : o < 4) (h1 : a < 256) (hm : (a : Int) % pw o = 0) :
    Calls Tryd.prog 57 #[.int .i64 a, .int .i64 o] w fun e w' => e = .returned (.int .i64 (besideA a o)) ∧ w = w' := by
  rcases ord_cases ho with ⟨rfl, e⟩ | ⟨rfl, e⟩ | ⟨rfl, e⟩ | ⟨rfl, e⟩ | ⟨rfl, e⟩
  · have HX : Hid (bits BinOp.xor IntKind.i64 (a : Int) 1 = besideA a 0) := xor_0 a h1
    clear e ho hm
    go_enter Tryd.func57, Tryd.ntmps57
    go_wp2
    go_ret
    exact ⟨congrArg (fun v => Ending.returned (.int .i64 v)) HX.out, rfl⟩
  · rw [e] at hm
    have HX : Hid (bits BinOp.xor IntKind.i64 (a : Int) 2 = besideA a 1) := xor_1 a h1 (by omega)
    clear e ho hm
    go_enter Tryd.func57, Tryd.ntmps57
    go_wp2
    go_ret
    exact ⟨congrArg (fun v => Ending.returned (.int .i64 v)) HX.out, rfl⟩
  · rw [e] at hm
    have HX : Hid (bits BinOp.xor IntKind.i64 (a : Int) 4 = besideA a 2) := xor_2 a h1 (by omega)
    clear e ho hm
    go_enter Tryd.func57, Tryd.ntmps57
    go_wp2
    go_ret
    exact ⟨congrArg (fun v => Ending.returned (.int .i64 v)) HX.out, rfl⟩
  · rw [e] at hm
    have HX : Hid (bits BinOp.xor IntKind.i64 (a : Int) 8 = besideA a 3) := xor_3 a h1 (by omega)
    clear e ho hm
    go_enter Tryd.func57, Tryd.ntmps57
    go_wp2
    go_ret
    exact ⟨congrArg (fun v => Ending.returned (.int .i64 v)) HX.out, rfl⟩
  · omega

/-- Two blocks are beside each other, as the code looks. -/
def areB (p b : Bk) : Bool := decide (p.o = b.o) && (decide (p.o < 4) && decide (b.a = besideA p.a p.o))
theorem areB_iff {p b : Bk} (h : p.a + pw p.o ≤ b.a) : areB p b = true ↔ besideP p b := by
  unfold areB besideP besideA
  simp only [Bool.and_eq_true, decide_eq_true_eq]
  have := pw_pos p.o
  constructor
  · rintro ⟨h1, h2, h3⟩
    rw [← h1]
    split at h3
    · exact ⟨h2, rfl, h3.symm, by assumption⟩
    · omega
  · rintro ⟨h1, h2, h3, h4⟩
    rw [← h2] at h1 h3 h4
    rw [if_pos h4]
    exact ⟨h2, h1, h3.symm⟩

set_option maxHeartbeats 1000000 in
theorem areBeside_any (w : World) (p b : Bk) (hp : ordOk p.o) (h0 : 0 ≤ p.a) (h1 : p.a < 256) (hm : p.a % pw p.o = 0) :
    Calls Tryd.prog 50 #[.agg #[.int .i64 p.a, .int .i64 p.o, .int .i64 p.t], .agg #[.int .i64 b.a, .int .i64 b.o, .int .i64 b.t]] w fun e w' => e = .returned (.bool (areB p b)) ∧ Below w.heap.size w w' := by
  obtain ⟨pa, po, pt⟩ := p
  obtain ⟨ba, bo, bt⟩ := b
  dsimp only at hp h0 h1 hm ⊢
  obtain ⟨A, rfl⟩ : ∃ A : Nat, pa = A := ⟨pa.toNat, by omega⟩
  have hb2 : Below w.heap.size w ((w.alloc (.cells #[.int .i64 A, .int .i64 po, .int .i64 pt] 42)).alloc (.cells #[.int .i64 ba, .int .i64 bo, .int .i64 bt] 42)) := ((Below.refl _ _).alloc (Nat.le_refl _) _).alloc (by simp) _
  obtain ⟨r, hr⟩ : ∃ r, areB ⟨A, po, pt⟩ ⟨ba, bo, bt⟩ = r := ⟨_, rfl⟩
  rw [hr]
  have HR : Hid (areB ⟨A, po, pt⟩ ⟨ba, bo, bt⟩ = r) := hr
  clear hr
  by_cases q1 : po = bo
  · subst q1
    by_cases q2 : po < 4
    · have HC := fun W => (beside_any W A po hp q2 (by omega) hm).mono (fun e w' (g : e = .returned (.int .i64 (besideA A po)) ∧ W = w') => (show e = .returned (.int .i64 (besideA A po)) ∧ w' = W from ⟨g.1, g.2.symm⟩))
      have q2' : decide (po < 4) = true := decide_eq_true q2
      have HR2 : Hid (decide (ba = besideA A po) = r) := by show _ = _; rw [← HR.out]; unfold areB; simp [q2]
      obtain ⟨X, hX⟩ : ∃ X, besideA A po = X := ⟨_, rfl⟩
      rw [hX] at HC HR2
      clear hX HR hm
      go_enter Tryd.func50, Tryd.ntmps50
      go_wp2
      go_quiet ((go_at_call 57; exact Calls.quiet_of_same (HC _)))
      clear HC
      go_wp2
      go_ret
      exact ⟨ret_bool HR2.out, below_drewN hb2 _⟩
    · have HR2 : Hid (false = r) := by show _ = _; rw [← HR.out]; unfold areB; simp [q2]
      have q2' : decide (po < 4) = false := decide_eq_false q2
      clear HR hm
      go_enter Tryd.func50, Tryd.ntmps50
      go_wp2
      go_quiet (fail)
      go_wp2
      go_ret
      exact ⟨ret_bool HR2.out, below_drewN hb2 _⟩
  · have HR2 : Hid (false = r) := by show _ = _; rw [← HR.out]; unfold areB; simp [q1]
    have q1' : (po == bo) = false := by simpa using q1
    clear HR hm q1
    go_enter Tryd.func50, Tryd.ntmps50
    go_wp2
    go_quiet (fail)
    go_wp2
    go_ret
    exact ⟨ret_bool HR2.out, below_drewN hb2 _⟩

end Go.Proofs.YtpfafhgllabhbaaDoor

/-
  OWN TEXT. Contract of the code: buddy.areBounds.
-/
namespace Go.Proofs.YtpfafhgllabhbaaDoor
open Go Go.RowKit Go.Proofs.YtpfafhgllabhbaaDoor.Kit

/-- P3.1, decided. -/
def newB (f t : Int) : Bool := decide (0 ≤ f ∧ f ≤ t ∧ t ≤ 256 ∧ f % 16 = 0 ∧ t % 16 = 0)
theorem newB_iff (f t : Int) : newB f t = true ↔ newOk f t := by unfold newB newOk; simp
theorem newB_t {f t : Int} (h : newOk f t) : newB f t = true := (newB_iff f t).2 h
theorem newB_f {f t : Int} (h : ¬ newOk f t) : newB f t = false := by
  cases g : newB f t with
  | false => rfl
  | true => exact absurd ((newB_iff f t).1 g) h

set_option maxHeartbeats 1000000 in
theorem bounds_any (w : World) (f t : Int) :
    Calls Tryd.prog 34 #[.int .i64 f, .int .i64 t] w fun e w' => e = .returned (.bool (newB f t)) ∧ w = w' := by
  by_cases h1 : 0 ≤ f
  · by_cases h2 : f ≤ t
    · by_cases h3 : t ≤ 256
      · obtain ⟨F, rfl⟩ : ∃ F : Nat, f = F := ⟨f.toNat, by omega⟩
        obtain ⟨T, rfl⟩ : ∃ T : Nat, t = T := ⟨t.toNat, by omega⟩
        by_cases h4 : (F : Int) % 16 = 0
        · by_cases h5 : (T : Int) % 16 = 0
          · have HR : Hid (newB F T = true) := newB_t ⟨h1, h2, h3, h4, h5⟩
            go_enter Tryd.func34, Tryd.ntmps34
            go_wp2
            go_ret
            exact ⟨ret_bool HR.out.symm, rfl⟩
          · have HR : Hid (newB F T = false) := newB_f fun g => h5 g.2.2.2.2
            have h5' : ((T : Int) % 16 == 0) = false := by simpa using h5
            clear h5
            go_enter Tryd.func34, Tryd.ntmps34
            go_wp2
            go_ret
            exact ⟨ret_bool HR.out.symm, rfl⟩
        · have HR : Hid (newB F T = false) := newB_f fun g => h4 g.2.2.2.1
          have h4' : ((F : Int) % 16 == 0) = false := by simpa using h4
          clear h4
          go_enter Tryd.func34, Tryd.ntmps34
          go_wp2
          go_ret
          exact ⟨ret_bool HR.out.symm, rfl⟩
      · have HR : Hid (newB f t = false) := newB_f fun g => h3 g.2.2.1
        go_enter Tryd.func34, Tryd.ntmps34
        go_wp2
        go_ret
        exact ⟨ret_bool HR.out.symm, rfl⟩
    · have HR : Hid (newB f t = false) := newB_f fun g => h2 g.2.1
      go_enter Tryd.func34, Tryd.ntmps34
      go_wp2
      go_ret
      exact ⟨ret_bool HR.out.symm, rfl⟩
  · have HR : Hid (newB f t = false) := newB_f fun g => h1 g.1
    go_enter Tryd.func34, Tryd.ntmps34
    go_wp2
    go_ret
    exact ⟨ret_bool HR.out.symm, rfl⟩

end Go.Proofs.YtpfafhgllabhbaaDoor

/-
  OWN TEXT. The form's own reach, part by part, over whatever program.
-/
namespace Go.Proofs.YtpfafhgllabhbaaDoor.Kit
open Go Go.RowKit

/-- Each string, slice and map of a datum is within the reach. -/
def Sized {H : Type} (P : Program) (t : TypeId) (d : DataW H) : Prop := ∀ n ∈ d.weights P t, n ≤ reachBytes

theorem sized_arg {H : Type} {P : Program} {ts : List TypeId} {ds : List (DataW H)} (h : (DataW.weightsEach P ts ds).all (· ≤ reachBytes) = true) {j : Nat} {t : TypeId} {d : DataW H} (ht : ts[j]? = some t) (hd : ds[j]? = some d) : Sized P t d := by
  intro n hn
  have := List.all_eq_true.1 h _ (DataW.weights_mem_each ht hd n hn)
  simpa using this

theorem sized_field {H : Type} {P : Program} {t u : TypeId} {fs : Array Field} {parts : List (DataW H)} {d : DataW H} (h : Sized P t (.agg parts)) (ht : P.underlying t = some (.struct fs)) {i : Nat} (hu : (fs.toList.map (·.type))[i]? = some u) (hd : parts[i]? = some d) : Sized P u d := by
  intro n hn
  apply h
  have := DataW.weights_mem_each hu hd n hn
  simpa [DataW.weights, ht] using this

theorem sized_sl {H : Type} {P : Program} {t e : TypeId} {elems spare : List (DataW H)} (h : Sized P t (.slice elems spare)) (ht : P.underlying t = some (.slice e)) : (elems.length + spare.length) * P.bytesOf e ≤ reachBytes :=
  h _ (by simp [DataW.weights, ht])

end Go.Proofs.YtpfafhgllabhbaaDoor.Kit

/-
  OWN TEXT. How an argument that is a zone (api.Zone) is opened for the walk, over whatever program.
-/
namespace Go.Proofs.YtpfafhgllabhbaaDoor.Kit
open Go Go.RowKit Go.ChangeShapes Go.WideShapes Go.ChangeAt Go.Joins Go.Deep

/-- The numbers are words. -/
structure Bk.Fits (b : Bk) : Prop where
  a : (Lit.int .i64 b.a).wf = true
  o : (Lit.int .i64 b.o).wf = true
  t : (Lit.int .i64 b.t).wf = true

/-- What the walk is told of a slice of blocks that came in. -/
structure IsBlks (w : World) (ao : Option Addr) (n cap : Nat) (l : List Bk) : Prop where
  len : l.length = n
  le : n ≤ cap
  reach : cap * 24 ≤ 140737488351232
  at_ : BlksAt w ao l
  wf : ∀ i, i < n → (l.getD i .zero).Fits

/-- What the walk is told of a zone that came in. -/
structure IsZone (w : World) (fo : Option Addr) (fn fc : Nat) (to_ : Option Addr) (tn tc : Nat) (z : Zn) : Prop where
  fr : IsBlks w fo fn fc z.free
  ty : IsInts w to_ tn tc z.types
  wf : (Lit.int .i64 z.f).wf = true
  wt : (Lit.int .i64 z.t).wf = true

theorem IsZone.zn {w : World} {fo : Option Addr} {fn fc : Nat} {to_ : Option Addr} {tn tc : Nat} {z : Zn} (h : IsZone w fo fn fc to_ tn tc z) : ZnAt w fo fn to_ tn z :=
  ⟨⟨h.fr.len, by have := h.fr.reach; have := h.fr.le; omega, h.fr.at_⟩, ⟨h.ty.len, by have := h.ty.reach; have := h.ty.le; omega, h.ty.at_⟩⟩

theorem open_blks {H : Type} {enc : TypeId × Value → H} {P : Program} {W : World} {t e : TypeId} {f0 f1 f2 : Field} {fuel : Nat} {v : Value} {y : DataW H × List MemPlace}
    (ht : P.underlying t = some (.slice e)) (he : P.underlying e = some (.struct #[f0, f1, f2])) (ce : P.cellsOf e = 3) (be : P.bytesOf e = 24)
    (hone : oneCellFields P #[f0, f1, f2] = true) (u0 : P.underlying f0.type = some (.int .i64)) (u1 : P.underlying f1.type = some (.int .i64)) (u2 : P.underlying f2.type = some (.int .i64))
    (hf : DataW.trod enc P W 0 (fun _ => true) true fuel t [v] = some y) (hs : Sized P t y.1) :
    ∃ ao n cap l, v = .slice ao n cap ∧ IsBlks W ao n cap l := by
  rcases open_slice ht hf with ⟨hcs, _⟩ | ⟨a, n, m0, m, fu, D, Pl, hcs, _, hl, hm, hmm, hx, hc⟩
  · simp only [List.cons.injEq, and_true] at hcs
    subst hcs
    exact ⟨none, 0, 0, [], rfl, ⟨rfl, by omega, by omega, BlksAt.nil _ _, fun i hi => by omega⟩⟩
  · simp only [List.cons.injEq, and_true] at hcs
    subst hcs
    simp only [if_true] at hmm
    subst hmm
    have hr := hx ▸ hs
    have hr2 := sized_sl hr ht
    rw [be] at hr2
    simp only [List.length_map, List.length_range, reachBytes] at hr2
    rw [ce] at hc
    obtain ⟨o0, k0⟩ := hone_of hone 0 f0 rfl
    obtain ⟨o1, k1⟩ := hone_of hone 1 f1 rfl
    obtain ⟨o2, k2⟩ := hone_of hone 2 f2 rfl
    have each : ∀ i, i < m → ∃ r : Bk, r.Fits ∧ W.cell? (a.add (i * 3)) = some (.int .i64 r.a) ∧ W.cell? (a.add (i * 3 + 1)) = some (.int .i64 r.o) ∧ W.cell? (a.add (i * 3 + 2)) = some (.int .i64 r.t) := by
      intro i hi
      obtain ⟨cs', h1, h2⟩ := hc i hi
      obtain ⟨_, hlen, hcell⟩ := World.cells?_some h1
      obtain ⟨y0, y1, y2, q, _, _, g0, g1, g2⟩ := trod_struct3 he h2
      match cs', hlen with
      | [v0, v1, v2], _ =>
        simp [o0, k0] at g0
        simp [o1, k1] at g1
        simp [o2, k2] at g2
        obtain ⟨x0, e0, _, w0⟩ := DataW.trod_int u0 g0
        obtain ⟨x1, e1, _, w1⟩ := DataW.trod_int u1 g1
        obtain ⟨x2, e2, _, w2⟩ := DataW.trod_int u2 g2
        simp only [List.cons.injEq, and_true] at e0 e1 e2
        subst e0 e1 e2
        have c0 := hcell 0 (by omega)
        have c1 := hcell 1 (by omega)
        have c2 := hcell 2 (by omega)
        rw [add_add] at c0 c1 c2
        exact ⟨⟨x0, x1, x2⟩, ⟨w0, w1, w2⟩, by simpa using c0, by simpa using c1, by simpa using c2⟩
    have inh : Inhabited Bk := ⟨Bk.zero⟩
    obtain ⟨g, hg⟩ := choose_lt each
    have hget : ∀ i, i < n → ((List.range n).map g).getD i .zero = g i := by
      intro i hi
      simp [List.getD_eq_getElem?_getD, hi]
    refine ⟨some a, n, m, (List.range n).map g, rfl, ⟨by simp, hl, by omega, ?_, fun i hi => by rw [hget i hi]; exact (hg i (by omega)).1⟩⟩
    intro i hi
    have hi' : i < n := by simpa using hi
    obtain ⟨_, d0, d1, d2⟩ := hg i (by omega)
    obtain ⟨b, off, spot⟩ := a
    have hspot : spot = none := by
      have := World.cell?_spot (hg 0 (by omega)).2.1
      simpa [Addr.add] using this
    subst hspot
    have hadd : ∀ j, (⟨b, off, none⟩ : Addr).add j = ⟨b, off + j, none⟩ := fun j => by unfold Addr.add; split <;> simp_all
    rw [hadd] at d0 d1 d2
    rw [hget i hi']
    exact ⟨b, off, rfl, d0, by rw [Nat.add_assoc]; exact d1, by rw [Nat.add_assoc]; exact d2⟩

theorem open_ints_in {H : Type} {enc : TypeId × Value → H} {P : Program} {W : World} {t e : TypeId} {fuel : Nat} {v : Value} {y : DataW H × List MemPlace}
    (ht : P.underlying t = some (.slice e)) (he : P.underlying e = some (.int .i64)) (hc : P.cellsOf e = 1) (be : P.bytesOf e = 8)
    (hf : DataW.trod enc P W 0 (fun _ => true) true fuel t [v] = some y) (hs : Sized P t y.1) :
    ∃ ao n cap xs, v = .slice ao n cap ∧ IsInts W ao n cap xs := by
  rcases open_ints ht he hc hf with ⟨hcs, _⟩ | ⟨x, n, cap, zs, hcs, _, hl, hm, hz, hx, hcell, _⟩
  · simp only [List.cons.injEq, and_true] at hcs
    subst hcs
    exact ⟨none, 0, 0, [], rfl, ⟨rfl, by omega, by omega, fun _ => ⟨rfl, rfl⟩, IntsAt.nil _ _⟩⟩
  · simp only [List.cons.injEq, and_true] at hcs
    subst hcs
    simp only [if_true] at hz
    have hr := hx ▸ hs
    have hr2 := sized_sl hr ht
    rw [be] at hr2
    simp only [lits, List.length_map, List.length_take, List.length_drop, reachBytes] at hr2
    have hr' : cap * 8 ≤ 140737488351232 := by omega
    refine ⟨some x, n, cap, zs.take n, rfl, ⟨by simp; omega, hl, hr', fun h => (by cases h), ?_⟩⟩
    intro i hi
    have hi' : i < n := by simp at hi; omega
    have hci := hcell i (by omega)
    obtain ⟨b, off, spot⟩ := x
    have hspot : spot = none := by
      by_cases h0 : i = 0
      · subst h0; simpa [Addr.add] using World.cell?_spot hci
      · have := World.cell?_spot (hcell 0 (by omega)); simpa [Addr.add] using this
    subst hspot
    refine ⟨b, off, rfl, ?_⟩
    have hadd : (⟨b, off, none⟩ : Addr).add i = ⟨b, off + i, none⟩ := by unfold Addr.add; split <;> simp_all
    rw [hadd] at hci
    rw [hci]
    simp [List.getD_eq_getElem?_getD, hi']

theorem open_zone_arg {H : Type} {enc : TypeId × Value → H} {P : Program} {W : World} {base : Nat} {zt t e u i : TypeId} {g0 g1 g2 g3 f0 f1 f2 : Field} {v : Value} {d : DataW H} {p : List MemPlace}
    (hb : P.underlying zt = some (.struct #[g0, g1, g2, g3])) (hone : oneCellFields P #[g0, g1, g2, g3] = true) (cb : P.cellsOf zt = 4) (t2 : g2.type = t) (t3 : g3.type = u)
    (ht : P.underlying t = some (.slice e)) (he : P.underlying e = some (.struct #[f0, f1, f2])) (ce : P.cellsOf e = 3) (be : P.bytesOf e = 24) (hone2 : oneCellFields P #[f0, f1, f2] = true)
    (u0 : P.underlying f0.type = some (.int .i64)) (u1 : P.underlying f1.type = some (.int .i64)) (u2 : P.underlying f2.type = some (.int .i64))
    (hu : P.underlying u = some (.slice i)) (hi : P.underlying i = some (.int .i64)) (ci : P.cellsOf i = 1) (bi : P.bytesOf i = 8)
    (w0 : P.underlying g0.type = some (.int .i64)) (w1 : P.underlying g1.type = some (.int .i64))
    (hv : Value.okWide P W .any base zt v) (h : DataW.Trod enc P W 0 (fun _ => true) true zt v d p) (hs : Sized P zt d) :
    ∃ f t fo fn fc to_ tn tc fr ty, v = .agg #[.int .i64 f, .int .i64 t, .slice fo fn fc, .slice to_ tn tc] ∧ IsZone W fo fn fc to_ tn tc ⟨f, t, fr, ty⟩ := by
  obtain ⟨v0, v1, v2, v3, y0, y1, y2, y3, m, rfl, rfl, _, h0, h1, h2, h3⟩ := open_agg4 hb hone cb hv h
  have s2 : Sized P t y2.1 := sized_field hs hb (i := 2) (by simp [t2]) rfl
  have s3 : Sized P u y3.1 := sized_field hs hb (i := 3) (by simp [t3]) rfl
  rw [t2] at h2
  rw [t3] at h3
  obtain ⟨x, e0, _, f0w⟩ := DataW.trod_int w0 h0
  obtain ⟨z, e1, _, f1w⟩ := DataW.trod_int w1 h1
  simp only [List.cons.injEq, and_true] at e0 e1
  subst e0 e1
  obtain ⟨fo, fn, fc, fr, rfl, hF⟩ := open_blks ht he ce be hone2 u0 u1 u2 h2 s2
  obtain ⟨to_, tn, tc, ty, rfl, hT⟩ := open_ints_in hu hi ci bi h3 s3
  exact ⟨x, z, fo, fn, fc, to_, tn, tc, fr, ty, rfl, ⟨hF, hT, f0w, f1w⟩⟩

/-- The numbers of a zone are words. -/
structure ZFits (z : Zn) : Prop where
  f : (Lit.int .i64 z.f).wf = true
  t : (Lit.int .i64 z.t).wf = true
  fr : ∀ i, i < z.free.length → (z.free.getD i .zero).Fits

theorem IsZone.fits {w : World} {fo : Option Addr} {fn fc : Nat} {to_ : Option Addr} {tn tc : Nat} {z : Zn} (h : IsZone w fo fn fc to_ tn tc z) : ZFits z := ⟨h.wf, h.wt, fun i hi => h.fr.wf i (by have := h.fr.len; omega)⟩

end Go.Proofs.YtpfafhgllabhbaaDoor.Kit
