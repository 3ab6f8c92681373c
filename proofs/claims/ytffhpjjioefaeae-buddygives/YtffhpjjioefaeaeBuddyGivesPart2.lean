/-
  OWN TEXTS, bundled: ZKit, ZRet, ZBase, ZPure, ZPure2, ZPure3, ZcSmall, BIdx, CopyK.
-/
import Derived.Test.YtffhpjjioefaeaeBuddyGivesPart1
import Derived.Laws.CopyOwn
import Derived.Laws.AppendOwn

/-
  OWN TEXT. Slices of blocks (three numbers each) and zones over whatever program.
-/
namespace Go.Proofs.Ytffhpjjioefaeae.Kit
open Go Go.RowKit

/-- A block: its place, its order, its type. -/
structure Bk where
  a : Int
  o : Int
  t : Int

/-- No block. -/
def Bk.zero : Bk := ⟨0, 0, 0⟩

/-- Blocks as cells. -/
def bvals : List Bk → List Value
  | [] => []
  | b :: l => Value.int .i64 b.a :: Value.int .i64 b.o :: Value.int .i64 b.t :: bvals l

theorem length_bvals (l : List Bk) : (bvals l).length = l.length * 3 := by
  induction l with
  | nil => rfl
  | cons r l ih => simp only [bvals, List.length_cons, ih]; omega
theorem bvals_append (l m : List Bk) : bvals (l ++ m) = bvals l ++ bvals m := by
  induction l with
  | nil => rfl
  | cons r l ih => simp [bvals, ih]
theorem bvals_0 (l : List Bk) (i : Nat) (h : i < l.length) : (bvals l)[i * 3]? = some (.int .i64 (l.getD i .zero).a) := by
  induction l generalizing i with
  | nil => simp at h
  | cons r l ih =>
    cases i with
    | zero => simp [bvals]
    | succ i =>
      have := ih i (by simpa using h)
      rw [Nat.succ_mul]
      simpa [bvals] using this
theorem bvals_1 (l : List Bk) (i : Nat) (h : i < l.length) : (bvals l)[i * 3 + 1]? = some (.int .i64 (l.getD i .zero).o) := by
  induction l generalizing i with
  | nil => simp at h
  | cons r l ih =>
    cases i with
    | zero => simp [bvals]
    | succ i =>
      have := ih i (by simpa using h)
      rw [Nat.succ_mul]
      simpa [bvals] using this
theorem bvals_2 (l : List Bk) (i : Nat) (h : i < l.length) : (bvals l)[i * 3 + 2]? = some (.int .i64 (l.getD i .zero).t) := by
  induction l generalizing i with
  | nil => simp at h
  | cons r l ih =>
    cases i with
    | zero => simp [bvals]
    | succ i =>
      have := ih i (by simpa using h)
      rw [Nat.succ_mul]
      simpa [bvals] using this
theorem bvals_oneCell (l : List Bk) : ∀ u ∈ bvals l, u.oneCell' = true := by
  induction l with
  | nil => intro u hu; simp [bvals] at hu
  | cons r l ih =>
    intro u hu
    simp only [bvals, List.mem_cons] at hu
    rcases hu with rfl | rfl | rfl | hu
    · rfl
    · rfl
    · rfl
    · exact ih u hu
theorem bvals_set2 (l : List Bk) (i : Nat) (x : Int) (h : i < l.length) : (bvals l).set (i * 3 + 2) (.int .i64 x) = bvals (l.set i ⟨(l.getD i .zero).a, (l.getD i .zero).o, x⟩) := by
  induction l generalizing i with
  | nil => simp at h
  | cons r l ih =>
    cases i with
    | zero => simp [bvals]
    | succ i =>
      have := ih i (by simpa using h)
      rw [Nat.succ_mul]
      simpa [bvals] using this

/-- The cells from 'ao' on hold the blocks 'l'. -/
def BlksAt (w : World) (ao : Option Addr) (l : List Bk) : Prop :=
  ∀ i, i < l.length → ∃ b off, ao = some ⟨b, off, none⟩ ∧ w.cell? ⟨b, off + i * 3, none⟩ = some (.int .i64 (l.getD i .zero).a) ∧ w.cell? ⟨b, off + i * 3 + 1, none⟩ = some (.int .i64 (l.getD i .zero).o) ∧ w.cell? ⟨b, off + i * 3 + 2, none⟩ = some (.int .i64 (l.getD i .zero).t)

theorem BlksAt.below {w w' : World} {ao : Option Addr} {l : List Bk} (h : BlksAt w ao l) (hb : Below w.heap.size w w') : BlksAt w' ao l := by
  intro i hi
  obtain ⟨b, off, ha, h1, h2, h3⟩ := h i hi
  exact ⟨b, off, ha, keep h1 hb, keep h2 hb, keep h3 hb⟩

theorem BlksAt.nil (w : World) (ao : Option Addr) : BlksAt w ao [] := fun i hi => absurd hi (by simp)

theorem blks_of_owns {w : World} {base : Nat} {e : TypeId} {ao : Option Addr} {n cap : Nat} {l : List Bk}
    (h : w.ownsRow base e 3 (.slice ao n cap) n (bvals l)) : BlksAt w ao l := by
  intro i hi
  have hl := h.1
  rw [length_bvals] at hl
  rcases h.2 with ⟨h', h0⟩ | ⟨g, cap', cur, h', _, hg, _, _, _, htake⟩
  · omega
  · simp only [Value.slice.injEq] at h'
    obtain ⟨rfl, _, rfl⟩ := h'
    refine ⟨g, 0, rfl, ?_, ?_, ?_⟩
    · rw [Nat.zero_add, h.cellAt (i * 3) (by omega), bvals_0 l i hi]
    · rw [Nat.zero_add, h.cellAt (i * 3 + 1) (by omega), bvals_1 l i hi]
    · rw [Nat.zero_add, h.cellAt (i * 3 + 2) (by omega), bvals_2 l i hi]

theorem bowns_len {w : World} {base : Nat} {e : TypeId} {v : Value} {n : Nat} {l : List Bk}
    (h : w.ownsRow base e 3 v n (bvals l)) : l.length = n := by have := h.1; rw [length_bvals] at this; omega

/-- The source of an append. -/
theorem bsrc_of {w : World} {ao : Option Addr} {l : List Bk} (h : BlksAt w ao l) (h0 : 0 < l.length) : ∃ ad, ao = some ad ∧ ∀ j v, (bvals l)[j]? = some v → w.cell? (ad.add j) = some v := by
  obtain ⟨b, off, rfl, _⟩ := h 0 h0
  refine ⟨_, rfl, fun j v hj => ?_⟩
  have hadd : (⟨b, off, none⟩ : Addr).add j = ⟨b, off + j, none⟩ := by unfold Addr.add; split <;> simp_all
  rw [hadd]
  have hlt : j < (bvals l).length := (List.getElem?_eq_some_iff.1 hj).1
  rw [length_bvals] at hlt
  obtain ⟨b', off', he, c1, c2, c3⟩ := h (j / 3) (by omega)
  simp only [Option.some.injEq, Addr.mk.injEq, and_true] at he
  obtain ⟨rfl, rfl⟩ := he
  rcases (show j % 3 = 0 ∨ j % 3 = 1 ∨ j % 3 = 2 by omega) with hm | hm | hm
  · have e1 : j = j / 3 * 3 := by omega
    rw [e1, bvals_0 l _ (by omega)] at hj
    rw [← e1] at c1
    rw [c1]; exact hj
  · have e1 : j = j / 3 * 3 + 1 := by omega
    rw [e1, bvals_1 l _ (by omega)] at hj
    have e2 : off + j / 3 * 3 + 1 = off + j := by omega
    rw [e2] at c2
    rw [c2]; exact hj
  · have e1 : j = j / 3 * 3 + 2 := by omega
    rw [e1, bvals_2 l _ (by omega)] at hj
    have e2 : off + j / 3 * 3 + 2 = off + j := by omega
    rw [e2] at c3
    rw [c3]; exact hj

/-- One block of a slice: its three cells, the numbers under names. -/
theorem BlksAt.at {w : World} {ao : Option Addr} {l : List Bk} (h : BlksAt w ao l) (k : Nat) (hk : k < l.length) : ∃ b off x y z, ao = some ⟨b, off, none⟩ ∧ w.cell? ⟨b, off + k * 3, none⟩ = some (.int .i64 x) ∧ w.cell? ⟨b, off + k * 3 + 1, none⟩ = some (.int .i64 y) ∧ w.cell? ⟨b, off + k * 3 + 2, none⟩ = some (.int .i64 z) ∧ Hid (l.getD k .zero = ⟨x, y, z⟩) := by
  obtain ⟨b, off, ha, h1, h2, h3⟩ := h k hk
  exact ⟨b, off, _, _, _, ha, h1, h2, h3, rfl⟩

theorem btake_snoc (l : List Bk) (k : Nat) (h : k < l.length) {x y z : Int} (hx : l.getD k .zero = ⟨x, y, z⟩) : bvals (l.take k) ++ [Value.int .i64 x, Value.int .i64 y, Value.int .i64 z] = bvals (l.take (k + 1)) := by
  rw [List.getD_eq_getElem?_getD, List.getElem?_eq_getElem h] at hx
  simp only [Option.getD_some] at hx
  rw [List.take_succ_eq_append_getElem h, bvals_append, hx]
  rfl

theorem take_getD (l : List Bk) (k : Nat) (h : k < l.length) {b : Bk} (hx : l.getD k .zero = b) : l.take (k + 1) = l.take k ++ [b] := by
  rw [List.getD_eq_getElem?_getD, List.getElem?_eq_getElem h] at hx
  simp only [Option.getD_some] at hx
  rw [List.take_succ_eq_append_getElem h, hx]

/-- A slice of blocks that can be read. -/
structure Blks (w : World) (ao : Option Addr) (n : Nat) (l : List Bk) : Prop where
  len : l.length = n
  reach : n * 24 ≤ 140737488351232
  at_ : BlksAt w ao l

/-- A slice of numbers that can be read. -/
structure Nums (w : World) (ao : Option Addr) (n : Nat) (l : List Int) : Prop where
  len : l.length = n
  reach : n * 8 ≤ 140737488351232
  at_ : IntsAt w ao l

theorem Blks.below {w w' : World} {ao : Option Addr} {n : Nat} {l : List Bk} (h : Blks w ao n l) (hb : Below w.heap.size w w') : Blks w' ao n l := ⟨h.len, h.reach, h.at_.below hb⟩
theorem Nums.below {w w' : World} {ao : Option Addr} {n : Nat} {l : List Int} (h : Nums w ao n l) (hb : Below w.heap.size w w') : Nums w' ao n l := ⟨h.len, h.reach, h.at_.below hb⟩
theorem Blks.nil (w : World) : Blks w none 0 [] := ⟨rfl, by omega, BlksAt.nil _ _⟩
theorem Nums.nil (w : World) : Nums w none 0 [] := ⟨rfl, by omega, IntsAt.nil _ _⟩

theorem But.blks {b n : Nat} {ao : Option Addr} {l : List Bk} {w w' : World} (h : But b w w') (hr : Blks w ao n l) (hne : ∀ a, ao = some a → a.block ≠ b) : Blks w' ao n l := by
  refine ⟨hr.len, hr.reach, fun i hi => ?_⟩
  obtain ⟨c, o, ha, h1, h2, h3⟩ := hr.at_ i hi
  exact ⟨c, o, ha, h.cell h1 (hne _ ha), h.cell h2 (hne _ ha), h.cell h3 (hne _ ha)⟩
theorem But.nums {b n : Nat} {ao : Option Addr} {l : List Int} {w w' : World} (h : But b w w') (hr : Nums w ao n l) (hne : ∀ a, ao = some a → a.block ≠ b) : Nums w' ao n l := by
  refine ⟨hr.len, hr.reach, fun i hi => ?_⟩
  obtain ⟨c, o, ha, h1⟩ := hr.at_ i hi
  exact ⟨c, o, ha, h.cell h1 (hne _ ha)⟩

/-- A zone, as plain numbers. -/
structure Zn where
  f : Int
  t : Int
  free : List Bk
  types : List Int

/-- A zone that can be read: its two lists. -/
structure ZnAt (w : World) (fo : Option Addr) (fn : Nat) (to_ : Option Addr) (tn : Nat) (z : Zn) : Prop where
  free : Blks w fo fn z.free
  types : Nums w to_ tn z.types

theorem ZnAt.below {w w' : World} {fo : Option Addr} {fn : Nat} {to_ : Option Addr} {tn : Nat} {z : Zn} (h : ZnAt w fo fn to_ tn z) (hb : Below w.heap.size w w') : ZnAt w' fo fn to_ tn z := ⟨h.free.below hb, h.types.below hb⟩
theorem But.zn {b : Nat} {w w' : World} {fo : Option Addr} {fn : Nat} {to_ : Option Addr} {tn : Nat} {z : Zn} (h : But b w w') (hz : ZnAt w fo fn to_ tn z) (h1 : ∀ a, fo = some a → a.block ≠ b) (h2 : ∀ a, to_ = some a → a.block ≠ b) : ZnAt w' fo fn to_ tn z := ⟨h.blks hz.free h1, h.nums hz.types h2⟩

/-- A zone as a value. -/
def zval (z : Zn) (fo : Option Addr) (fn fc : Nat) (to_ : Option Addr) (tn tc : Nat) : Value := .agg #[.int .i64 z.f, .int .i64 z.t, .slice fo fn fc, .slice to_ tn tc]

/-- A block of four cells that may be written. -/
structure Res4 (W : World) (b : Nat) : Prop where
  d0 : ∃ v, W.cell? ⟨b, 0, none⟩ = some v
  d1 : ∃ v, W.cell? ⟨b, 1, none⟩ = some v
  d2 : ∃ v, W.cell? ⟨b, 2, none⟩ = some v
  d3 : ∃ v, W.cell? ⟨b, 3, none⟩ = some v
  z0 : W.frozen? ⟨b, 0, none⟩ = false
  z1 : W.frozen? ⟨b, 1, none⟩ = false
  z2 : W.frozen? ⟨b, 2, none⟩ = false
  z3 : W.frozen? ⟨b, 3, none⟩ = false

theorem Res4.but {W W' : World} {b c : Nat} (h : Res4 W b) (hb : But c W W') (hne : b ≠ c) : Res4 W' b := by
  obtain ⟨⟨v0, e0⟩, ⟨v1, e1⟩, ⟨v2, e2⟩, ⟨v3, e3⟩, z0, z1, z2, z3⟩ := h
  have hbk := hb.block b (World.block_lt_of_cell? W _ e0) hne
  exact ⟨⟨v0, hb.cell e0 hne⟩, ⟨v1, hb.cell e1 hne⟩, ⟨v2, hb.cell e2 hne⟩, ⟨v3, hb.cell e3 hne⟩, (World.frozen?_of_block (a := ⟨b, 0, none⟩) hbk).trans z0, (World.frozen?_of_block (a := ⟨b, 1, none⟩) hbk).trans z1, (World.frozen?_of_block (a := ⟨b, 2, none⟩) hbk).trans z2, (World.frozen?_of_block (a := ⟨b, 3, none⟩) hbk).trans z3⟩

theorem Res4.below {W W' : World} {b : Nat} (h : Res4 W b) (hb : Below W.heap.size W W') : Res4 W' b := by
  obtain ⟨v0, e0⟩ := h.d0
  have hlt := World.block_lt_of_cell? W _ e0
  exact h.but (c := W'.heap.size) ⟨hb.os, hb.tape, hb.output, hb.size, fun k hk _ => hb.block k hk⟩ (by have := hb.size; dsimp only at hlt; omega)

/-- The world behind four stores into one block. -/
def set4 (W : World) (b : Nat) (x y u v : Value) : World := (((W.setCell ⟨b, 0, none⟩ x).setCell ⟨b, 1, none⟩ y).setCell ⟨b, 2, none⟩ u).setCell ⟨b, 3, none⟩ v

theorem but4 (W : World) (b : Nat) (x y u v : Value) : But b W ((((W.setCell ⟨b, 0, none⟩ x).setCell ⟨b, 1, none⟩ y).setCell ⟨b, 2, none⟩ u).setCell ⟨b, 3, none⟩ v) :=
  (((((But.refl b W).setCell x).setCell y).setCell u).setCell v)

theorem res4 {W : World} {b : Nat} (h : Res4 W b) (x y u v : Value) :
    ((((W.setCell ⟨b, 0, none⟩ x).setCell ⟨b, 1, none⟩ y).setCell ⟨b, 2, none⟩ u).setCell ⟨b, 3, none⟩ v).cell? ⟨b, 0, none⟩ = some x ∧
    ((((W.setCell ⟨b, 0, none⟩ x).setCell ⟨b, 1, none⟩ y).setCell ⟨b, 2, none⟩ u).setCell ⟨b, 3, none⟩ v).cell? ⟨b, 1, none⟩ = some y ∧
    ((((W.setCell ⟨b, 0, none⟩ x).setCell ⟨b, 1, none⟩ y).setCell ⟨b, 2, none⟩ u).setCell ⟨b, 3, none⟩ v).cell? ⟨b, 2, none⟩ = some u ∧
    ((((W.setCell ⟨b, 0, none⟩ x).setCell ⟨b, 1, none⟩ y).setCell ⟨b, 2, none⟩ u).setCell ⟨b, 3, none⟩ v).cell? ⟨b, 3, none⟩ = some v := by
  obtain ⟨v0, e0⟩ := h.d0
  obtain ⟨v1, e1⟩ := h.d1
  obtain ⟨v2, e2⟩ := h.d2
  obtain ⟨v3, e3⟩ := h.d3
  have o : ∀ (X : World) (i j : Nat) (r : Value), i ≠ j → (X.setCell ⟨b, i, none⟩ r).cell? ⟨b, j, none⟩ = X.cell? ⟨b, j, none⟩ := fun X i j r hij => World.cell?_setCell_other _ _ _ _ (by intro g; cases g; exact hij rfl)
  refine ⟨?_, ?_, ?_, ?_⟩
  · rw [o _ 3 0 _ (by decide), o _ 2 0 _ (by decide), o _ 1 0 _ (by decide)]
    exact World.cell?_setCell_same _ _ _ e0
  · rw [o _ 3 1 _ (by decide), o _ 2 1 _ (by decide)]
    exact World.cell?_setCell_same _ _ _ ((o _ 0 1 _ (by decide)).trans e1)
  · rw [o _ 3 2 _ (by decide)]
    exact World.cell?_setCell_same _ _ _ ((o _ 1 2 _ (by decide)).trans ((o _ 0 2 _ (by decide)).trans e2))
  · exact World.cell?_setCell_same _ _ _ ((o _ 2 3 _ (by decide)).trans ((o _ 1 3 _ (by decide)).trans ((o _ 0 3 _ (by decide)).trans e3)))

/-- A zone in a variable: its four cells, that may be written. -/
structure ZBox (W : World) (b : Nat) (x y u v : Value) : Prop where
  c0 : W.cell? ⟨b, 0, none⟩ = some x
  c1 : W.cell? ⟨b, 1, none⟩ = some y
  c2 : W.cell? ⟨b, 2, none⟩ = some u
  c3 : W.cell? ⟨b, 3, none⟩ = some v
  z0 : W.frozen? ⟨b, 0, none⟩ = false
  z1 : W.frozen? ⟨b, 1, none⟩ = false
  z2 : W.frozen? ⟨b, 2, none⟩ = false
  z3 : W.frozen? ⟨b, 3, none⟩ = false

theorem ZBox.res {W : World} {b : Nat} {x y u v : Value} (h : ZBox W b x y u v) : Res4 W b := ⟨⟨_, h.c0⟩, ⟨_, h.c1⟩, ⟨_, h.c2⟩, ⟨_, h.c3⟩, h.z0, h.z1, h.z2, h.z3⟩
theorem ZBox.lt {W : World} {b : Nat} {x y u v : Value} (h : ZBox W b x y u v) : b < W.heap.size := by
  have := World.block_lt_of_cell? W _ h.c0
  exact this
theorem ZBox.but {W W' : World} {b c : Nat} {x y u v : Value} (h : ZBox W b x y u v) (hb : But c W W') (hne : b ≠ c) : ZBox W' b x y u v := by
  have r := h.res.but hb hne
  exact ⟨hb.cell h.c0 hne, hb.cell h.c1 hne, hb.cell h.c2 hne, hb.cell h.c3 hne, r.z0, r.z1, r.z2, r.z3⟩
theorem ZBox.below {W W' : World} {b : Nat} {x y u v : Value} (h : ZBox W b x y u v) (hb : Below W.heap.size W W') : ZBox W' b x y u v := by
  have r := h.res.below hb
  exact ⟨keep h.c0 hb, keep h.c1 hb, keep h.c2 hb, keep h.c3 hb, r.z0, r.z1, r.z2, r.z3⟩
theorem zbox_new (W : World) (x y u v : Value) (t : TypeId) : ZBox (W.alloc (.cells #[x, y, u, v] t)) W.heap.size x y u v :=
  ⟨by simp, by simp, by simp, by simp, by simp, by simp, by simp, by simp⟩
theorem ZBox.set2 {W : World} {b : Nat} {x y u v : Value} (h : ZBox W b x y u v) (u' : Value) : ZBox (W.setCell ⟨b, 2, none⟩ u') b x y u' v := by
  have o : ∀ j : Nat, j ≠ 2 → (W.setCell ⟨b, 2, none⟩ u').cell? ⟨b, j, none⟩ = W.cell? ⟨b, j, none⟩ := fun j hj => World.cell?_setCell_other _ _ _ _ (by intro g; cases g; exact hj rfl)
  exact ⟨(o 0 (by decide)).trans h.c0, (o 1 (by decide)).trans h.c1, World.cell?_setCell_same _ _ _ h.c2, (o 3 (by decide)).trans h.c3, by simpa using h.z0, by simpa using h.z1, by simpa using h.z2, by simpa using h.z3⟩
theorem ZBox.set3 {W : World} {b : Nat} {x y u v : Value} (h : ZBox W b x y u v) (v' : Value) : ZBox (W.setCell ⟨b, 3, none⟩ v') b x y u v' := by
  have o : ∀ j : Nat, j ≠ 3 → (W.setCell ⟨b, 3, none⟩ v').cell? ⟨b, j, none⟩ = W.cell? ⟨b, j, none⟩ := fun j hj => World.cell?_setCell_other _ _ _ _ (by intro g; cases g; exact hj rfl)
  exact ⟨(o 0 (by decide)).trans h.c0, (o 1 (by decide)).trans h.c1, (o 2 (by decide)).trans h.c2, World.cell?_setCell_same _ _ _ h.c3, by simpa using h.z0, by simpa using h.z1, by simpa using h.z2, by simpa using h.z3⟩
theorem ZBox.set4 {W : World} {b : Nat} {x y u v : Value} (h : ZBox W b x y u v) (x' y' u' v' : Value) : ZBox ((((W.setCell ⟨b, 0, none⟩ x').setCell ⟨b, 1, none⟩ y').setCell ⟨b, 2, none⟩ u').setCell ⟨b, 3, none⟩ v') b x' y' u' v' := by
  obtain ⟨k0, k1, k2, k3⟩ := res4 h.res x' y' u' v'
  exact ⟨k0, k1, k2, k3, by simpa using h.z0, by simpa using h.z1, by simpa using h.z2, by simpa using h.z3⟩

theorem nums_of_owns {w : World} {base : Nat} {e : TypeId} {ao : Option Addr} {n cap : Nat} {l : List Int} (h : w.ownsRow base e 1 (.slice ao n cap) n (vals l)) (hr : n * 8 ≤ 140737488351232) : Nums w ao n l := ⟨owns_len h, hr, ints_of_owns h⟩
theorem blks_own {w : World} {base : Nat} {e : TypeId} {ao : Option Addr} {n cap : Nat} {l : List Bk} (h : w.ownsRow base e 3 (.slice ao n cap) n (bvals l)) (hr : n * 24 ≤ 140737488351232) : Blks w ao n l := ⟨bowns_len h, hr, blks_of_owns h⟩

/-- A zone in new memory is returned, and a code. -/
def RetZone (B : Nat) (w' : World) (z : Zn) (e : Ending) : Prop :=
  ∃ fo fn fc to_ tn tc, e = .returned (.tuple #[.agg #[.int .i64 z.f, .int .i64 z.t, .slice fo fn fc, .slice to_ tn tc], .int .i64 0]) ∧ ZnAt w' fo fn to_ tn z ∧ Fresh B fo ∧ Fresh B to_
/-- No zone is returned, and a code. -/
def RetNone (c : Int) (e : Ending) : Prop := e = .returned (.tuple #[.agg #[.int .i64 0, .int .i64 0, .slice none 0 0, .slice none 0 0], .int .i64 c])

theorem fresh_none (B : Nat) : Fresh B none := fun a ha => by cases ha
theorem Fresh.mono {B C : Nat} {ao : Option Addr} (h : Fresh B ao) (hc : C ≤ B) : Fresh C ao := fun a ha => Nat.le_trans hc (h a ha)

theorem ZBox.belowB {B : Nat} {W W' : World} {b : Nat} {x y u v : Value} (h : ZBox W b x y u v) (hb : Below B W W') (hlt : b < B) : ZBox W' b x y u v :=
  ⟨(hb.cell (p := ⟨b, 0, none⟩) hlt).trans h.c0, (hb.cell (p := ⟨b, 1, none⟩) hlt).trans h.c1, (hb.cell (p := ⟨b, 2, none⟩) hlt).trans h.c2, (hb.cell (p := ⟨b, 3, none⟩) hlt).trans h.c3, (hb.frozen (p := ⟨b, 0, none⟩) hlt).trans h.z0, (hb.frozen (p := ⟨b, 1, none⟩) hlt).trans h.z1, (hb.frozen (p := ⟨b, 2, none⟩) hlt).trans h.z2, (hb.frozen (p := ⟨b, 3, none⟩) hlt).trans h.z3⟩
theorem Res4.belowB {B : Nat} {W W' : World} {b : Nat} (h : Res4 W b) (hb : Below B W W') (hlt : b < B) : Res4 W' b := by
  obtain ⟨⟨v0, e0⟩, ⟨v1, e1⟩, ⟨v2, e2⟩, ⟨v3, e3⟩, z0, z1, z2, z3⟩ := h
  exact (ZBox.belowB ⟨e0, e1, e2, e3, z0, z1, z2, z3⟩ hb hlt).res

/-- The three cells of a block that has just been laid. -/
theorem cell_three_new (w : World) (a b c : Value) (t : TypeId) : ∀ j u, [a, b, c][j]? = some u → (w.alloc (.cells #[a, b, c] t)).cell? ((⟨w.heap.size, 0, none⟩ : Addr).add j) = some u := by
  intro j u hj
  match j, hj with
  | 0, hj => simp at hj; subst hj; simp [Addr.add]
  | 1, hj => simp at hj; subst hj; simp [Addr.add]
  | 2, hj => simp at hj; subst hj; simp [Addr.add]
  | j + 3, hj => simp at hj

end Go.Proofs.Ytffhpjjioefaeae.Kit

/-
  OWN TEXT. A zone or none is returned, and a code.
-/
namespace Go.Proofs.Ytffhpjjioefaeae.Kit
open Go Go.RowKit

/-- A zone is returned, and a code. -/
def RetAny (w' : World) (Z : Zn) (c : Int) (e : Ending) : Prop :=
  ∃ fo fn fc to_ tn tc, e = .returned (.tuple #[.agg #[.int .i64 Z.f, .int .i64 Z.t, .slice fo fn fc, .slice to_ tn tc], .int .i64 c]) ∧ ZnAt w' fo fn to_ tn Z
/-- A zone in new memory is returned. -/
def RetZ (B : Nat) (w' : World) (z : Zn) (e : Ending) : Prop :=
  ∃ fo fn fc to_ tn tc, e = .returned (.agg #[.int .i64 z.f, .int .i64 z.t, .slice fo fn fc, .slice to_ tn tc]) ∧ ZnAt w' fo fn to_ tn z ∧ Fresh B fo ∧ Fresh B to_

theorem RetZone.any {B : Nat} {w' : World} {Z : Zn} {e : Ending} (h : RetZone B w' Z e) : RetAny w' Z 0 e := by
  obtain ⟨fo, fn, fc, to_, tn, tc, he, hz, _, _⟩ := h
  exact ⟨fo, fn, fc, to_, tn, tc, he, hz⟩
theorem RetNone.any {c : Int} {w' : World} {e : Ending} (h : RetNone c e) : RetAny w' ⟨0, 0, [], []⟩ c e :=
  ⟨none, 0, 0, none, 0, 0, h, ⟨Blks.nil _, Nums.nil _⟩⟩

end Go.Proofs.Ytffhpjjioefaeae.Kit

/-
  OWN TEXT. Closed facts on the type api.Block.
-/
namespace Go.Proofs.Ytffhpjjioefaeae
open Go Go.RowKit Go.Proofs.Ytffhpjjioefaeae.Kit

theorem info_block : (Try.prog.info? 39).map (fun i => (i.zero, i.size, i.bytes)) = some (some (.agg #[.int .i64 0, .int .i64 0, .int .i64 0]), 3, 24) := by kernel_rfl

theorem size_block : (Try.prog.info? 39).map (·.size) = some 3 := by kernel_rfl

end Go.Proofs.Ytffhpjjioefaeae

/-
  OWN TEXT. Zones that may be, as plain mathematics.
-/
namespace Go.Proofs.Ytffhpjjioefaeae.Kit

/-- A power of two. -/
def pw (n : Int) : Int := ((2 ^ n.toNat : Nat) : Int)
theorem pw_0 : pw 0 = 1 := rfl
theorem pw_1 : pw 1 = 2 := rfl
theorem pw_2 : pw 2 = 4 := rfl
theorem pw_3 : pw 3 = 8 := rfl
theorem pw_4 : pw 4 = 16 := rfl
theorem pw_nat (n : Nat) : pw (n : Int) = ((2 ^ n : Nat) : Int) := rfl
theorem pw_pos (n : Int) : 1 ≤ pw n := by
  unfold pw
  have := Nat.two_pow_pos n.toNat
  omega
/-- An order from 0 to 4. -/
def ordOk (o : Int) : Prop := 0 ≤ o ∧ o ≤ 4
theorem ord_cases {o : Int} (h : ordOk o) : (o = 0 ∧ pw o = 1) ∨ (o = 1 ∧ pw o = 2) ∨ (o = 2 ∧ pw o = 4) ∨ (o = 3 ∧ pw o = 8) ∨ (o = 4 ∧ pw o = 16) := by
  obtain ⟨h1, h2⟩ := h
  rcases (show o = 0 ∨ o = 1 ∨ o = 2 ∨ o = 3 ∨ o = 4 by omega) with rfl | rfl | rfl | rfl | rfl
  · exact Or.inl ⟨rfl, rfl⟩
  · exact Or.inr (Or.inl ⟨rfl, rfl⟩)
  · exact Or.inr (Or.inr (Or.inl ⟨rfl, rfl⟩))
  · exact Or.inr (Or.inr (Or.inr (Or.inl ⟨rfl, rfl⟩)))
  · exact Or.inr (Or.inr (Or.inr (Or.inr ⟨rfl, rfl⟩)))
theorem pw_le {o : Int} (h : ordOk o) : pw o ≤ 16 := by rcases ord_cases h with ⟨_, e⟩ | ⟨_, e⟩ | ⟨_, e⟩ | ⟨_, e⟩ | ⟨_, e⟩ <;> omega

/-- A block may be in a zone. -/
def blkIn (f t a o : Int) : Prop := ordOk o ∧ f ≤ a ∧ a ≤ t - 1 ∧ a % pw o = 0
/-- May a block be in the zone, decided. -/
def blkB (f t a o : Int) : Bool := inB o 0 4 && (inB a f (t - 1) && decide (a % pw o = 0))
theorem blkB_iff (f t a o : Int) : blkB f t a o = true ↔ blkIn f t a o := by
  unfold blkB blkIn ordOk
  simp only [Bool.and_eq_true, inB, decide_eq_true_eq]
  constructor
  · rintro ⟨h1, h2, h3⟩; exact ⟨h1, h2.1, h2.2, h3⟩
  · rintro ⟨h1, h2, h3, h4⟩; exact ⟨h1, ⟨h2, h3⟩, h4⟩

def typeOk (x : Int) : Prop := 0 ≤ x ∧ x ≤ 2
/-- Two blocks, the first one lower, are beside each other. -/
def besideP (p b : Bk) : Prop := b.o < 4 ∧ p.o = b.o ∧ p.a + pw b.o = b.a ∧ p.a % pw (b.o + 1) = 0

/-- Free blocks that may be, from lo on, behind pv. -/
def FreeOk (f t : Int) : Int → Option Bk → List Bk → Prop
  | _, _, [] => True
  | lo, pv, b :: l => blkIn f t b.a b.o ∧ typeOk b.t ∧ lo ≤ b.a ∧ (∀ p, pv = some p → ¬ besideP p b) ∧ FreeOk f t (b.a + pw b.o) (some b) l

/-- The last one, or what was before. -/
def lastOf : Option Bk → List Bk → Option Bk
  | pv, [] => pv
  | _, b :: l => lastOf (some b) l
/-- Where the next one may begin. -/
def lowOf : Int → List Bk → Int
  | lo, [] => lo
  | _, b :: l => lowOf (b.a + pw b.o) l

theorem lastOf_snoc (pv : Option Bk) (l : List Bk) (b : Bk) : lastOf pv (l ++ [b]) = some b := by
  induction l generalizing pv with
  | nil => rfl
  | cons a l ih => exact ih _
theorem lowOf_snoc (lo : Int) (l : List Bk) (b : Bk) : lowOf lo (l ++ [b]) = b.a + pw b.o := by
  induction l generalizing lo with
  | nil => rfl
  | cons a l ih => exact ih _

theorem freeOk_snoc (f t lo : Int) (pv : Option Bk) (l : List Bk) (b : Bk) : FreeOk f t lo pv (l ++ [b]) ↔ FreeOk f t lo pv l ∧ blkIn f t b.a b.o ∧ typeOk b.t ∧ lowOf lo l ≤ b.a ∧ ∀ p, lastOf pv l = some p → ¬ besideP p b := by
  induction l generalizing lo pv with
  | nil => simp [FreeOk, lowOf, lastOf]
  | cons a l ih =>
    show _ ∧ _ ∧ _ ∧ _ ∧ FreeOk f t (a.a + pw a.o) (some a) (l ++ [b]) ↔ (_ ∧ _ ∧ _ ∧ _ ∧ FreeOk f t (a.a + pw a.o) (some a) l) ∧ _ ∧ _ ∧ lowOf (a.a + pw a.o) l ≤ b.a ∧ ∀ p, lastOf (some a) l = some p → ¬ besideP p b
    rw [ih]
    constructor
    · rintro ⟨h1, h2, h3, h4, h5, h6⟩; exact ⟨⟨h1, h2, h3, h4, h5⟩, h6⟩
    · rintro ⟨⟨h1, h2, h3, h4, h5⟩, h6⟩; exact ⟨h1, h2, h3, h4, h5, h6⟩

theorem freeOk_left {f t lo : Int} {pv : Option Bk} {l m : List Bk} (h : FreeOk f t lo pv (l ++ m)) : FreeOk f t lo pv l := by
  induction l generalizing lo pv with
  | nil => trivial
  | cons a l ih => exact ⟨h.1, h.2.1, h.2.2.1, h.2.2.2.1, ih h.2.2.2.2⟩

/-- P3.1. -/
def newOk (f t : Int) : Prop := 0 ≤ f ∧ f ≤ t ∧ t ≤ 256 ∧ f % 16 = 0 ∧ t % 16 = 0

/-- A zone that may be. -/
structure ZMay (z : Zn) : Prop where
  new : newOk z.f z.t
  len : 8 * (z.types.length : Int) = z.t - z.f
  ty : ∀ i, i < z.types.length → typeOk (z.types.getD i 0)
  free : FreeOk z.f z.t z.f none z.free

/-- The types of a new zone. -/
def newTypes (f t : Int) : List Int := List.replicate ((t - f) / 8).toNat 1
def newZ (f t : Int) : Zn := ⟨f, t, [], newTypes f t⟩

/-- Pages in free blocks. -/
def freeN : List Bk → Int
  | [] => 0
  | b :: l => pw b.o + freeN l
theorem freeN_snoc (l : List Bk) (b : Bk) : freeN (l ++ [b]) = freeN l + pw b.o := by
  induction l with
  | nil => simp [freeN]
  | cons a l ih => simp only [List.cons_append, freeN, ih]; omega

/-- Free blocks hold no more pages than there are. -/
theorem freeN_le {f t lo : Int} {pv : Option Bk} {l : List Bk} (h : FreeOk f t lo pv l) (ht : t % 16 = 0) (hlo : lo ≤ t) : 0 ≤ freeN l ∧ freeN l ≤ t - lo := by
  induction l generalizing lo pv with
  | nil => simp only [freeN]; omega
  | cons a l ih =>
    obtain ⟨⟨h1, h2, h3, h4⟩, _, h6, _, h7⟩ := h
    have hle : a.a + pw a.o ≤ t := by
      rcases ord_cases h1 with ⟨_, e⟩ | ⟨_, e⟩ | ⟨_, e⟩ | ⟨_, e⟩ | ⟨_, e⟩ <;> rw [e] at h4 ⊢ <;> omega
    have := ih h7 hle
    have := pw_pos a.o
    simp only [freeN]
    omega

theorem freeOk_count {f t lo : Int} {pv : Option Bk} {l : List Bk} (h : FreeOk f t lo pv l) (ht : t % 16 = 0) (hlo : lo ≤ t) : (l.length : Int) ≤ t - lo := by
  have h1 := (freeN_le h ht hlo).2
  have h2 : (l.length : Int) ≤ freeN l := by
    clear h h1
    induction l with
    | nil => simp [freeN]
    | cons a l ih => simp only [freeN, List.length_cons]; have := pw_pos a.o; omega
  omega

theorem freeOk_at {f t lo : Int} {pv : Option Bk} {l : List Bk} (h : FreeOk f t lo pv l) {k : Nat} (hk : k < l.length) {b : Bk} (hb : l.getD k .zero = b) :
    blkIn f t b.a b.o ∧ typeOk b.t ∧ lowOf lo (l.take k) ≤ b.a ∧ ∀ p, lastOf pv (l.take k) = some p → ¬ besideP p b := by
  have h1 : FreeOk f t lo pv (l.take (k + 1)) := by rw [← List.take_append_drop (k + 1) l] at h; exact freeOk_left h
  rw [take_getD l k hk hb, freeOk_snoc] at h1
  exact h1.2

end Go.Proofs.Ytffhpjjioefaeae.Kit

/-
  OWN TEXT. Lists of blocks with one less, with one more, as plain mathematics.
-/
namespace Go.Proofs.Ytffhpjjioefaeae.Kit

/-- It is the block at a place, of an order. -/
def isB (a o : Int) (b : Bk) : Bool := decide (b.a = a ∧ b.o = o)
/-- All others. -/
def dropB (l : List Bk) (a o : Int) : List Bk := l.filter fun b => !isB a o b
/-- There is one. -/
def hasB (l : List Bk) (a o : Int) : Bool := l.any (isB a o)

theorem dropB_snoc (l : List Bk) (a o : Int) (b : Bk) : dropB (l ++ [b]) a o = if isB a o b = true then dropB l a o else dropB l a o ++ [b] := by
  unfold dropB
  rw [List.filter_append]
  by_cases h : isB a o b = true
  · rw [if_pos h]; simp [List.filter, h]
  · rw [if_neg h]; simp [List.filter, h]
theorem hasB_snoc (l : List Bk) (a o : Int) (b : Bk) : hasB (l ++ [b]) a o = (hasB l a o || isB a o b) := by simp [hasB, List.any_append]
theorem dropB_len (l : List Bk) (a o : Int) : (dropB l a o).length ≤ l.length := List.length_filter_le _ _

/-- A list with one more, by places. -/
def addB : List Bk → Bk → List Bk
  | [], b => [b]
  | x :: l, b => if x.a > b.a then b :: x :: l else x :: addB l b

theorem addB_len (l : List Bk) (b : Bk) : (addB l b).length = l.length + 1 := by
  induction l with
  | nil => rfl
  | cons x l ih =>
    simp only [addB]
    split
    · simp
    · simp [ih]

/-- One of them lies higher. -/
def gtB (l : List Bk) (b : Bk) : Bool := l.any fun x => decide (x.a > b.a)
theorem gtB_snoc (l : List Bk) (x b : Bk) : gtB (l ++ [x]) b = (gtB l b || decide (x.a > b.a)) := by simp [gtB, List.any_append]
theorem addB_snoc_t {l : List Bk} {b : Bk} (x : Bk) (h : gtB l b = true) : addB (l ++ [x]) b = addB l b ++ [x] := by
  induction l with
  | nil => simp [gtB] at h
  | cons y l ih =>
    simp only [List.cons_append, addB]
    by_cases g : y.a > b.a
    · rw [if_pos g, if_pos g]; rfl
    · rw [if_neg g, if_neg g, ih (by simp only [gtB, List.any_cons, Bool.or_eq_true, decide_eq_true_eq] at h ⊢; rcases h with h | h; exact absurd h g; exact h)]
      rfl
theorem addB_none {l : List Bk} {b : Bk} (h : gtB l b = false) : addB l b = l ++ [b] := by
  induction l with
  | nil => rfl
  | cons y l ih =>
    simp only [gtB, List.any_cons, Bool.or_eq_false_iff, decide_eq_false_iff_not] at h
    simp only [addB]
    rw [if_neg h.1, ih h.2]
    rfl
theorem addB_snoc_f {l : List Bk} {b x : Bk} (h : gtB l b = false) (hx : x.a > b.a) : addB (l ++ [x]) b = l ++ [b, x] := by
  induction l with
  | nil => simp [addB, hx]
  | cons y l ih =>
    simp only [gtB, List.any_cons, Bool.or_eq_false_iff, decide_eq_false_iff_not] at h
    simp only [List.cons_append, addB]
    rw [if_neg h.1, ih h.2]

/-- What is there behind the first k. -/
def outB (l : List Bk) (b : Bk) : List Bk := if gtB l b = true then addB l b else l
theorem outB_len (l : List Bk) (b : Bk) : (outB l b).length ≤ l.length + 1 := by
  unfold outB
  split
  · rw [addB_len]; omega
  · omega

end Go.Proofs.Ytffhpjjioefaeae.Kit

/-
  OWN TEXT. A block comes back, as plain mathematics.
-/
namespace Go.Proofs.Ytffhpjjioefaeae.Kit

/-- The block beside one. -/
def besideA (a o : Int) : Int := if a % pw (o + 1) = 0 then a + pw o else a - pw o

/-- Blocks are joined, n times at most. -/
def backGo : Nat → List Bk → Int → Int → List Bk × Int × Int
  | 0, l, a, o => (l, a, o)
  | n + 1, l, a, o => if hasB l (besideA a o) o = true then backGo n (dropB l (besideA a o) o) (if besideA a o < a then besideA a o else a) (o + 1) else (l, a, o)

/-- The zone when a block has come back. -/
def backZ (z : Zn) (a o : Int) : Zn :=
  ⟨z.f, z.t, addB (backGo (4 - o).toNat z.free a o).1 ⟨(backGo (4 - o).toNat z.free a o).2.1, (backGo (4 - o).toNat z.free a o).2.2, z.types.getD (((backGo (4 - o).toNat z.free a o).2.1 - z.f) / 8).toNat 0⟩, z.types⟩

theorem dropB_mem {l : List Bk} {a o : Int} {b : Bk} (h : b ∈ dropB l a o) : b ∈ l := (List.mem_filter.1 h).1
theorem hasB_in {l : List Bk} {f t a o : Int} (h : hasB l a o = true) (hl : ∀ b ∈ l, blkIn f t b.a b.o) : blkIn f t a o := by
  unfold hasB at h
  rw [List.any_eq_true] at h
  obtain ⟨b, hb, hi⟩ := h
  have := of_decide_eq_true hi
  have h2 := hl b hb
  rw [this.1, this.2] at h2
  exact h2

/-- Both together are a block that may be. -/
theorem join_in {f t a o : Int} (h : blkIn f t a o) (hb : blkIn f t (besideA a o) o) (ho : o < 4) : blkIn f t (if besideA a o < a then besideA a o else a) (o + 1) := by
  obtain ⟨⟨h1, h2⟩, h3, h4, h5⟩ := h
  obtain ⟨_, g3, g4, g5⟩ := hb
  have ho' : ordOk (o + 1) := ⟨by omega, by omega⟩
  rcases (show o = 0 ∨ o = 1 ∨ o = 2 ∨ o = 3 by omega) with rfl | rfl | rfl | rfl
  all_goals
    unfold besideA at g3 g4 g5 ⊢
    simp only [pw_0, pw_1, pw_2, pw_3, pw_4, show (0 : Int) + 1 = 1 from rfl, show (1 : Int) + 1 = 2 from rfl, show (2 : Int) + 1 = 3 from rfl, show (3 : Int) + 1 = 4 from rfl] at g3 g4 g5 h5 ⊢
    refine ⟨⟨by omega, by omega⟩, ?_, ?_, ?_⟩
    · split at g3 <;> split <;> omega
    · split at g4 <;> split <;> omega
    · simp only [pw_1, pw_2, pw_3, pw_4]
      split at g5 <;> split <;> omega

end Go.Proofs.Ytffhpjjioefaeae.Kit

/-
  OWN TEXT. Contracts of the code: buddy's small functions.
-/
namespace Go.Proofs.Ytffhpjjioefaeae
open Go Go.RowKit Go.Proofs.Ytffhpjjioefaeae.Kit

set_option maxHeartbeats 1000000 in
theorem isType_any (w : World) (x : Int) :
    Calls Try.prog 47 #[.int .i64 x] w fun e w' => e = .returned (.bool (inB x 0 2)) ∧ w = w' := by
  by_cases h1 : 0 ≤ x
  · by_cases h2 : x < 3
    · have HR : Hid (inB x 0 2 = true) := inB_t (by omega)
      go_enter Try.func47, Try.ntmps47
      go_wp2
      go_ret
      exact ⟨ret_bool HR.out.symm, rfl⟩
    · have HR : Hid (inB x 0 2 = false) := inB_f (by omega)
      go_enter Try.func47, Try.ntmps47
      go_wp2
      go_ret
      exact ⟨ret_bool HR.out.symm, rfl⟩
  · have HR : Hid (inB x 0 2 = false) := inB_f (by omega)
    go_enter Try.func47, Try.ntmps47
    go_wp2
    go_ret
    exact ⟨ret_bool HR.out.symm, rfl⟩

set_option maxHeartbeats 1000000 in
theorem isOrder_any (w : World) (x : Int) :
    Calls Try.prog 39 #[.int .i64 x] w fun e w' => e = .returned (.bool (inB x 0 4)) ∧ w = w' := by
  by_cases h1 : 0 ≤ x
  · by_cases h2 : x ≤ 4
    · have HR : Hid (inB x 0 4 = true) := inB_t (by omega)
      go_enter Try.func39, Try.ntmps39
      go_wp2
      go_ret
      exact ⟨ret_bool HR.out.symm, rfl⟩
    · have HR : Hid (inB x 0 4 = false) := inB_f (by omega)
      go_enter Try.func39, Try.ntmps39
      go_wp2
      go_ret
      exact ⟨ret_bool HR.out.symm, rfl⟩
  · have HR : Hid (inB x 0 4 = false) := inB_f (by omega)
    go_enter Try.func39, Try.ntmps39
    go_wp2
    go_ret
    exact ⟨ret_bool HR.out.symm, rfl⟩

set_option maxHeartbeats 1000000 in
theorem isPage_any (w : World) (f t : Int) (fo to_ : Option Addr) (fn fc tn tc : Nat) (a : Int) :
    Calls Try.prog 20 #[.agg #[.int .i64 f, .int .i64 t, .slice fo fn fc, .slice to_ tn tc], .int .i64 a] w fun e w' => e = .returned (.bool (inB a f (t - 1))) ∧ Below w.heap.size w w' := by
  have hb1 := below_box w (.cells #[.int .i64 f, .int .i64 t, .slice fo fn fc, .slice to_ tn tc] 25)
  by_cases h1 : f ≤ a
  · by_cases h2 : a < t
    · have HR : Hid (inB a f (t - 1) = true) := inB_t (by omega)
      go_enter Try.func20, Try.ntmps20
      go_wp2
      go_ret
      exact ⟨ret_bool HR.out.symm, hb1⟩
    · have HR : Hid (inB a f (t - 1) = false) := inB_f (by omega)
      go_enter Try.func20, Try.ntmps20
      go_wp2
      go_ret
      exact ⟨ret_bool HR.out.symm, hb1⟩
  · have HR : Hid (inB a f (t - 1) = false) := inB_f (by omega)
    go_enter Try.func20, Try.ntmps20
    go_wp2
    go_ret
    exact ⟨ret_bool HR.out.symm, hb1⟩

set_option maxHeartbeats 1000000 in
theorem behind_any (w : World) (a o x : Int) (ho : ordOk o) (h0 : 0 ≤ a) (h1 : a ≤ 256) :
    Calls Try.prog 42 #[.agg #[.int .i64 a, .int .i64 o, .int .i64 x]] w fun e w' => e = .returned (.int .i64 (a + pw o)) ∧ Below w.heap.size w w' := by
  have hb1 := below_box w (.cells #[.int .i64 a, .int .i64 o, .int .i64 x] 39)
  rcases ord_cases ho with ⟨rfl, e⟩ | ⟨rfl, e⟩ | ⟨rfl, e⟩ | ⟨rfl, e⟩ | ⟨rfl, e⟩
  all_goals
    rw [e]
    clear e ho
    go_enter Try.func42, Try.ntmps42
    go_wp2
    go_quiet (fail)
    go_wp2
    go_ret
    exact ⟨rfl, below_drewN hb1 _⟩

set_option maxHeartbeats 1000000 in
/-- May a block be in the zone, as the code looks. -/
theorem blkMay_any (w : World) (f t : Int) (fo to_ : Option Addr) (fn fc tn tc : Nat) (a o : Int) (h : newOk f t) :
    Calls Try.prog 25 #[.agg #[.int .i64 f, .int .i64 t, .slice fo fn fc, .slice to_ tn tc], .int .i64 a, .int .i64 o] w fun e w' => e = .returned (.bool (blkB f t a o)) ∧ Below w.heap.size w w' := by
  obtain ⟨h1, h2, h3, h4, h5⟩ := h
  have hb1 := below_box w (.cells #[.int .i64 f, .int .i64 t, .slice fo fn fc, .slice to_ tn tc] 25)
  have Z0 := zbox_new w (.int .i64 f) (.int .i64 t) (.slice fo fn fc) (.slice to_ tn tc) 25
  have c0 := Z0.c0
  have c1 := Z0.c1
  have c2 := Z0.c2
  have c3 := Z0.c3
  by_cases p1 : 0 ≤ o ∧ o ≤ 4
  · have e1 : Hid (inB o 0 4 = true) := inB_t p1
    by_cases p2 : f ≤ a ∧ a ≤ t - 1
    · have e2 : Hid (inB a f (t - 1) = true) := inB_t p2
      obtain ⟨A, rfl⟩ : ∃ A : Nat, a = A := ⟨a.toNat, by omega⟩
      obtain ⟨r, hr⟩ : ∃ r, blkB f t (A : Int) o = r := ⟨_, rfl⟩
      rw [hr]
      rcases ord_cases p1 with ⟨rfl, e⟩ | ⟨rfl, e⟩ | ⟨rfl, e⟩ | ⟨rfl, e⟩ | ⟨rfl, e⟩
      all_goals
        unfold blkB at hr
        rw [e1.out, e2.out, e, Bool.true_and, Bool.true_and] at hr
        have HR : Hid _ := hr
        clear hr e p1
        go_enter Try.func25, Try.ntmps25
        go_wp2_with fail
        go_at_call 39
        refine (isOrder_any _ _).mono ?_
        rintro e w' ⟨rfl, rfl⟩
        rw [e1.out]
        go_wp2_with fail
        go_at_call 20
        refine (isPage_any _ _ _ _ _ _ _ _ _ _).mono ?_
        rintro e w2 ⟨rfl, hb2⟩
        rw [e2.out]
        have hB := hb1.trans (hb2.mono hb1.size)
        clear c0 c1 c2 c3 Z0
        go_wp2
        go_ret
        exact ⟨ret_bool (by first | exact HR.out | (rw [← HR.out]; simp)), hB⟩
    · have e2 : Hid (inB a f (t - 1) = false) := inB_f p2
      have HR : Hid (blkB f t a o = false) := by show _ = _; unfold blkB; rw [e1.out, e2.out]; rfl
      go_enter Try.func25, Try.ntmps25
      go_wp2_with fail
      go_at_call 39
      refine (isOrder_any _ _).mono ?_
      rintro e w' ⟨rfl, rfl⟩
      rw [e1.out]
      go_wp2_with fail
      go_at_call 20
      refine (isPage_any _ _ _ _ _ _ _ _ _ _).mono ?_
      rintro e w2 ⟨rfl, hb2⟩
      rw [e2.out]
      have hB := hb1.trans (hb2.mono hb1.size)
      clear c0 c1 c2 c3 Z0
      go_wp2
      go_ret
      exact ⟨ret_bool HR.out.symm, hB⟩
  · have e1 : Hid (inB o 0 4 = false) := inB_f p1
    have HR : Hid (blkB f t a o = false) := by show _ = _; unfold blkB; rw [e1.out]; rfl
    go_enter Try.func25, Try.ntmps25
    go_wp2_with fail
    go_at_call 39
    refine (isOrder_any _ _).mono ?_
    rintro e w' ⟨rfl, rfl⟩
    rw [e1.out]
    go_wp2
    go_ret
    exact ⟨ret_bool HR.out.symm, hb1⟩

theorem xor_0 : ∀ a : Nat, a < 256 → bits BinOp.xor IntKind.i64 (a : Int) 1 = besideA a 0 := by decide +kernel
theorem xor_1 : ∀ a : Nat, a < 256 → a % 2 = 0 → bits BinOp.xor IntKind.i64 (a : Int) 2 = besideA a 1 := by decide +kernel
theorem xor_2 : ∀ a : Nat, a < 256 → a % 4 = 0 → bits BinOp.xor IntKind.i64 (a : Int) 4 = besideA a 2 := by decide +kernel
theorem xor_3 : ∀ a : Nat, a < 256 → a % 8 = 0 → bits BinOp.xor IntKind.i64 (a : Int) 8 = besideA a 3 := by decide +kernel

set_option maxHeartbeats 1000000 in
theorem beside_any (w : World) (a : Nat) (o : Int) (ho : ordOk o) (h4 : o < 4) (h1 : a < 256) (hm : (a : Int) % pw o = 0) :
    Calls Try.prog 49 #[.int .i64 a, .int .i64 o] w fun e w' => e = .returned (.int .i64 (besideA a o)) ∧ w = w' := by
  rcases ord_cases ho with ⟨rfl, e⟩ | ⟨rfl, e⟩ | ⟨rfl, e⟩ | ⟨rfl, e⟩ | ⟨rfl, e⟩
  · have HX : Hid (bits BinOp.xor IntKind.i64 (a : Int) 1 = besideA a 0) := xor_0 a h1
    clear e ho hm
    go_enter Try.func49, Try.ntmps49
    go_wp2
    go_ret
    exact ⟨congrArg (fun v => Ending.returned (.int .i64 v)) HX.out, rfl⟩
  · rw [e] at hm
    have HX : Hid (bits BinOp.xor IntKind.i64 (a : Int) 2 = besideA a 1) := xor_1 a h1 (by omega)
    clear e ho hm
    go_enter Try.func49, Try.ntmps49
    go_wp2
    go_ret
    exact ⟨congrArg (fun v => Ending.returned (.int .i64 v)) HX.out, rfl⟩
  · rw [e] at hm
    have HX : Hid (bits BinOp.xor IntKind.i64 (a : Int) 4 = besideA a 2) := xor_2 a h1 (by omega)
    clear e ho hm
    go_enter Try.func49, Try.ntmps49
    go_wp2
    go_ret
    exact ⟨congrArg (fun v => Ending.returned (.int .i64 v)) HX.out, rfl⟩
  · rw [e] at hm
    have HX : Hid (bits BinOp.xor IntKind.i64 (a : Int) 8 = besideA a 3) := xor_3 a h1 (by omega)
    clear e ho hm
    go_enter Try.func49, Try.ntmps49
    go_wp2
    go_ret
    exact ⟨congrArg (fun v => Ending.returned (.int .i64 v)) HX.out, rfl⟩
  · omega

/-- Two blocks are beside each other, as the code looks. -/
def areB (p b : Bk) : Bool := decide (p.o = b.o) && (decide (p.o < 4) && decide (b.a = besideA p.a p.o))
theorem areB_iff {p b : Bk} (h : p.a + pw p.o ≤ b.a) : areB p b = true ↔ besideP p b := by
  unfold areB besideP besideA
  simp only [Bool.and_eq_true, decide_eq_true_eq]
  have := pw_pos p.o
  constructor
  · rintro ⟨h1, h2, h3⟩
    rw [← h1]
    split at h3
    · exact ⟨h2, rfl, h3.symm, by assumption⟩
    · omega
  · rintro ⟨h1, h2, h3, h4⟩
    rw [← h2] at h1 h3 h4
    rw [if_pos h4]
    exact ⟨h2, h1, h3.symm⟩

set_option maxHeartbeats 1000000 in
theorem areBeside_any (w : World) (p b : Bk) (hp : ordOk p.o) (h0 : 0 ≤ p.a) (h1 : p.a < 256) (hm : p.a % pw p.o = 0) :
    Calls Try.prog 48 #[.agg #[.int .i64 p.a, .int .i64 p.o, .int .i64 p.t], .agg #[.int .i64 b.a, .int .i64 b.o, .int .i64 b.t]] w fun e w' => e = .returned (.bool (areB p b)) ∧ Below w.heap.size w w' := by
  obtain ⟨pa, po, pt⟩ := p
  obtain ⟨ba, bo, bt⟩ := b
  dsimp only at hp h0 h1 hm ⊢
  obtain ⟨A, rfl⟩ : ∃ A : Nat, pa = A := ⟨pa.toNat, by omega⟩
  have hb2 : Below w.heap.size w ((w.alloc (.cells #[.int .i64 A, .int .i64 po, .int .i64 pt] 39)).alloc (.cells #[.int .i64 ba, .int .i64 bo, .int .i64 bt] 39)) := ((Below.refl _ _).alloc (Nat.le_refl _) _).alloc (by simp) _
  obtain ⟨r, hr⟩ : ∃ r, areB ⟨A, po, pt⟩ ⟨ba, bo, bt⟩ = r := ⟨_, rfl⟩
  rw [hr]
  have HR : Hid (areB ⟨A, po, pt⟩ ⟨ba, bo, bt⟩ = r) := hr
  clear hr
  by_cases q1 : po = bo
  · subst q1
    by_cases q2 : po < 4
    · have HC := fun W => (beside_any W A po hp q2 (by omega) hm).mono (fun e w' (g : e = .returned (.int .i64 (besideA A po)) ∧ W = w') => (show e = .returned (.int .i64 (besideA A po)) ∧ w' = W from ⟨g.1, g.2.symm⟩))
      have q2' : decide (po < 4) = true := decide_eq_true q2
      have HR2 : Hid (decide (ba = besideA A po) = r) := by show _ = _; rw [← HR.out]; unfold areB; simp [q2]
      obtain ⟨X, hX⟩ : ∃ X, besideA A po = X := ⟨_, rfl⟩
      rw [hX] at HC HR2
      clear hX HR hm
      go_enter Try.func48, Try.ntmps48
      go_wp2
      go_quiet ((go_at_call 49; exact Calls.quiet_of_same (HC _)))
      clear HC
      go_wp2
      go_ret
      exact ⟨ret_bool HR2.out, below_drewN hb2 _⟩
    · have HR2 : Hid (false = r) := by show _ = _; rw [← HR.out]; unfold areB; simp [q2]
      have q2' : decide (po < 4) = false := decide_eq_false q2
      clear HR hm
      go_enter Try.func48, Try.ntmps48
      go_wp2
      go_quiet (fail)
      go_wp2
      go_ret
      exact ⟨ret_bool HR2.out, below_drewN hb2 _⟩
  · have HR2 : Hid (false = r) := by show _ = _; rw [← HR.out]; unfold areB; simp [q1]
    have q1' : (po == bo) = false := by simpa using q1
    clear HR hm q1
    go_enter Try.func48, Try.ntmps48
    go_wp2
    go_quiet (fail)
    go_wp2
    go_ret
    exact ⟨ret_bool HR2.out, below_drewN hb2 _⟩

end Go.Proofs.Ytffhpjjioefaeae

/-
  OWN TEXT. Contracts of slices.IndexFunc and slices.ContainsFunc over blocks, whatever the closure.
-/
namespace Go.Proofs.Ytffhpjjioefaeae
open Go Go.RowKit Go.Proofs.Ytffhpjjioefaeae.Kit

/-- What the closure does at the blocks of a list, whatever new memory there is. -/
def HoldsB (F : Nat) (caps : Array Value) (l : List Bk) (g : Bk → Bool) (w : World) : Prop :=
  ∀ (i : Nat), i < l.length → ∀ W : World, Below w.heap.size w W → Calls Try.prog F (#[Value.agg #[.int .i64 (l.getD i .zero).a, .int .i64 (l.getD i .zero).o, .int .i64 (l.getD i .zero).t]] ++ caps) W fun e W' => e = .returned (.bool (g (l.getD i .zero))) ∧ Below W.heap.size W W'

/-- The first place at which it holds is returned, or -1. -/
def FoundAt (e : Ending) (l : List Bk) (g : Bk → Bool) : Prop :=
  (∃ k : Nat, k < l.length ∧ e = .returned (.int .i64 (k : Int)) ∧ g (l.getD k .zero) = true ∧ ∀ j, j < k → g (l.getD j .zero) = false) ∨ (e = .returned (.int .i64 (-1)) ∧ ∀ j, j < l.length → g (l.getD j .zero) = false)

set_option maxHeartbeats 1000000 in
theorem bIndex_any (w : World) (F : Nat) (caps : Array Value) (ao : Option Addr) (n cap : Nat) (l : List Bk) (g : Bk → Bool) (h : Blks w ao n l)
    (hcall : ∀ args W, (callFunc F args).run Try.prog W = .ok (.enter F args) W) (hc : HoldsB F caps l g w) :
    Calls Try.prog 44 #[.slice ao n cap, .func (.func F) #[] caps] w fun e w' => FoundAt e l g ∧ Below w.heap.size w w' := by
  have hlen := h.len
  have hrch := h.reach
  go_enter Try.func44, Try.ntmps44
  go_wp2
  go_loopw [8] (fun i wr => ∃ k : Nat, k ≤ n ∧ i = .int .i64 k ∧ Hid (∀ j, j < k → g (l.getD j .zero) = false) ∧ Below w.heap.size w wr) (fun i _ => n - (intOf i).toNat)
  case atStart => exact ⟨0, Nat.zero_le _, rfl, (fun j hj => absurd hj (Nat.not_lt_zero j)), Below.refl _ _⟩
  case round =>
    obtain ⟨k, hk, rfl, hN, hb⟩ := hrel
    by_cases hlt : k < n
    · obtain ⟨b, o, rfl, c0, c1, c2⟩ := h.at_ k (by omega)
      have hc1 := hc k (by omega) wr hb
      obtain ⟨r, hr⟩ : ∃ r, l.getD k .zero = r := ⟨_, rfl⟩
      have HR : Hid (l.getD k .zero = r) := hr
      rw [hr] at c0 c1 c2 hc1
      clear hr
      obtain ⟨x, y, u⟩ := r
      dsimp only at c0 c1 c2 hc1
      have d0 := keep c0 hb
      have d1 := keep c1 hb
      have d2 := keep c2 hb
      clear c0 c1 c2
      go_wp2_with fail
      refine hc1.mono ?_
      rintro e w1 ⟨rfl, hb1⟩
      have hB := hb.trans (hb1.mono hb.size)
      clear hc1 d0 d1 d2 hc
      cases hg : g ⟨x, y, u⟩ with
      | true =>
        have HT : Hid (g (l.getD k .zero) = true) := by show _ = _; rw [HR.out]; exact hg
        clear hg
        go_wp2
        go_ret
        exact ⟨.inl ⟨k, by omega, rfl, HT.out, hN.out⟩, hB⟩
      | false =>
        have HF : Hid (∀ j, j < k + 1 → g (l.getD j .zero) = false) := fun j hj => by
          by_cases e : j = k
          · rw [e, HR.out]; exact hg
          · exact hN.out j (by omega)
        clear hg hN
        go_wp2
        go_roundw
        case rel => exact ⟨k + 1, by omega, by go_num, HF, hB⟩
        case measure => simp [intOf]; omega
    · have HF : Hid (∀ j, j < l.length → g (l.getD j .zero) = false) := fun j hj => hN.out j (by omega)
      clear hN hc
      go_wp2
      go_ret
      exact ⟨.inr ⟨rfl, HF.out⟩, hb⟩

theorem any_of_found {l : List Bk} {g : Bk → Bool} {k : Nat} (hk : k < l.length) (h : g (l.getD k .zero) = true) : l.any g = true := by
  rw [List.any_eq_true]
  exact ⟨l[k], List.getElem_mem _, by rw [List.getD_eq_getElem?_getD, List.getElem?_eq_getElem hk] at h; exact h⟩
theorem any_of_none {l : List Bk} {g : Bk → Bool} (h : ∀ j, j < l.length → g (l.getD j .zero) = false) : l.any g = false := by
  rw [List.any_eq_false]
  intro x hx
  obtain ⟨i, hi, rfl⟩ := List.getElem_of_mem hx
  have := h i hi
  rw [List.getD_eq_getElem?_getD, List.getElem?_eq_getElem hi] at this
  simp only [Option.getD_some] at this
  simp [this]

end Go.Proofs.Ytffhpjjioefaeae

/-
  OWN TEXT. 'copy' and 'clear' at elements of k cells, over whatever program.
-/
namespace Go.Proofs.Ytffhpjjioefaeae.Kit
open Go Go.RowKit

theorem but_setRow (w : World) (g : Nat) (cs : Array Value) : But g w (w.setRow g cs) :=
  ⟨rfl, rfl, rfl, by simp [World.setRow], fun k _ hne => setRow_other w g k cs (by omega)⟩

theorem run_copy_row_k {P : Program} (w : World) (dT sT ty elem : TypeId) (k g o dLen dCap : Nat) (a : Addr) (sLen sCap : Nat) (cur : Array Value) (t : TypeId) (cs : List Value)
    (hu : P.underlying dT = some (.slice elem)) (hs : (P.info? elem).map (·.size) = some k)
    (hg : w.heap[g]? = some (.cells cur t (0, 0))) (hn : cs.length = Nat.min sLen dLen * k)
    (hsrc : ∀ j v, cs[j]? = some v → w.cell? (a.add j) = some v) (hfit : o + cs.length ≤ cur.size) (h1 : ∀ v ∈ cs, v.oneCell' = true) :
    (Builtin.copy_ #[dT, sT] ty #[.slice (some ⟨g, o, none⟩) dLen dCap, .slice (some a) sLen sCap]).run P w =
      .ok (goInt (Nat.min sLen dLen)) (w.setRow g (cur.toList.take o ++ cs ++ cur.toList.drop (o + cs.length)).toArray) := by
  have hl := run_loadCells_list (P := P) w a cs hsrc
  have hst := run_storeCells_at P g o t cs 0 cur w hg (by simpa using hfit) h1
  cases hq : P.info? elem with
  | none => simp [hq] at hs
  | some i =>
    have hi : i.size = k := by simpa [hq] using hs
    simp [Builtin.copy_, run_underlying hu, Builtin.lenOf, Builtin.firstCells, sizeOf, typeInfo, hq, hi, ← hn, hl, hst]

theorem run_copy_none_k {P : Program} (w : World) (dT sT ty elem : TypeId) (k : Nat) (d a : Option Addr) (dLen dCap sLen sCap : Nat) (hu : P.underlying dT = some (.slice elem)) (hs : (P.info? elem).map (·.size) = some k) (hn : Nat.min sLen dLen = 0) :
    (Builtin.copy_ #[dT, sT] ty #[.slice d dLen dCap, .slice a sLen sCap]).run P w = .ok (goInt 0) w := by
  cases hq : P.info? elem with
  | none => simp [hq] at hs
  | some i =>
    cases d <;> cases a <;> simp [Builtin.copy_, run_underlying hu, Builtin.lenOf, Builtin.firstCells, sizeOf, typeInfo, hq, hn, storeCells, loadCells, loadCellsFrom]

theorem wpList_copy_k {P : Program} {w : World} {ops : Array Oper} {rest : List Oper} {o : Oper} {a : Act} {Q : Exit → Act → World → Prop} (hgd : o.guard = none) (d s : Operand) (dT sT : TypeId)
    (ho : o.op = .call { callee := .builtin .copy, args := #[d, s], argTypes := #[dT, sT] }) (elem : TypeId) (k : Nat) (hu : P.underlying dT = some (.slice elem)) (hsz : (P.info? elem).map (·.size) = some k)
    (dp sp : Option Addr) (dLen dCap sLen sCap : Nat) (hd : a.eval d = .slice dp dLen dCap) (hs : a.eval s = .slice sp sLen sCap)
    (g off : Nat) (cur : List Value) (t : TypeId) (hg : w.heap[g]? = some (.cells cur.toArray t (0, 0))) (cs : List Value) (m : Nat) (hm : Nat.min sLen dLen = m) (hn : cs.length = m * k)
    (hpos : 0 < m → dp = some ⟨g, off, none⟩ ∧ ∃ ad, sp = some ad ∧ ∀ j v, cs[j]? = some v → w.cell? (ad.add j) = some v)
    (hfit : off + cs.length ≤ cur.length) (h1 : ∀ v ∈ cs, v.oneCell' = true)
    (h : ∀ w', Hid (w'.heap[g]? = some (.cells (splice cur off cs).toArray t (0, 0))) → But g w w' → wpList P ops Q rest (a.put o.dst (goInt m)) w') :
    wpList P ops Q (o :: rest) a w := by
  by_cases h0 : m = 0
  · subst h0
    obtain rfl : cs = [] := List.eq_nil_of_length_eq_zero (by simpa using hn)
    refine wpList_plain hgd fun K hK => ?_
    have hrun := run_copy_none_k (P := P) w dT sT o.type elem k dp sp dLen dCap sLen sCap hu hsz hm
    unfold Oper.wp
    simp [execOp, ho, resolve, invoke, builtin, hd, hs, hrun, Result.andThen]
    exact hK _ _ (h w (show _ = _ by simpa [splice] using hg) (But.refl _ _))
  · obtain ⟨rfl, ad, rfl, hsrc⟩ := hpos (by omega)
    refine wpList_plain hgd fun K hK => ?_
    have hrun := run_copy_row_k (P := P) w dT sT o.type elem k g off dLen dCap ad sLen sCap cur.toArray t cs hu hsz hg (by rw [hm]; exact hn) hsrc (by simpa using hfit) h1
    rw [hm] at hrun
    unfold Oper.wp
    simp [execOp, ho, resolve, invoke, builtin, hd, hs, hrun, Result.andThen]
    refine hK _ _ (h _ (show _ = _ by simpa [splice] using setRow_heap w g _ _ t _ hg) (by simpa using but_setRow w g _))

end Go.Proofs.Ytffhpjjioefaeae.Kit
