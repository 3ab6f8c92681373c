/-
  OWN TEXTS, bundled: HKit, HPure, ZPure2, ZPure3, CopyK, AppK, Bu2, HPre, ZRet, ZBase, Sized.
-/
import Derived.Test.YtbjlbmofdnkmiaaPagesNewPart4
import Derived.Test.YtbjlbmofdnkmiaaPagesNewPart3
import Derived.Laws.CopyOwn
import Derived.Laws.AppendOwn
import Derived.Deep.RegionLaw
import Derived.OwnWalk
import Derived.Lib.AppendZerosOnto
import Derived.Lib.AppendZeros
import Derived.Lib.Overlaps
import Derived.Laws.Externs
import Derived.Test.YtbjlbmofdnkmiaaPagesNewPart1
import Derived.Lib.SmallJoins
import Derived.Deep.SlicePairs

/-
  OWN TEXT. Rows of four cells each; zones and lists as such rows; a heap of pages that can be read; over whatever program.
-/
namespace Go.Proofs.Ytbjlbmofdnkmiaa.Kit
open Go Go.RowKit

/-- Four cells. -/
structure Q4 where
  a : Value
  b : Value
  c : Value
  d : Value
def Q4.zero : Q4 := ⟨.int .i64 0, .int .i64 0, .int .i64 0, .int .i64 0⟩
/-- Rows of four cells. -/
def c4 : List Q4 → List Value
  | [] => []
  | x :: l => x.a :: x.b :: x.c :: x.d :: c4 l

theorem length_c4 (l : List Q4) : (c4 l).length = l.length * 4 := by
  induction l with
  | nil => rfl
  | cons r l ih => simp only [c4, List.length_cons, ih]; omega
theorem c4_append (l m : List Q4) : c4 (l ++ m) = c4 l ++ c4 m := by
  induction l with
  | nil => rfl
  | cons r l ih => simp [c4, ih]
theorem c4_get (l : List Q4) (i : Nat) (h : i < l.length) : (c4 l)[i * 4]? = some (l.getD i .zero).a ∧ (c4 l)[i * 4 + 1]? = some (l.getD i .zero).b ∧ (c4 l)[i * 4 + 2]? = some (l.getD i .zero).c ∧ (c4 l)[i * 4 + 3]? = some (l.getD i .zero).d := by
  induction l generalizing i with
  | nil => simp at h
  | cons r l ih =>
    cases i with
    | zero => simp [c4]
    | succ i =>
      have := ih i (by simpa using h)
      rw [Nat.succ_mul]
      simpa [c4] using this
/-- Each of them is one cell. -/
def Q4.One (x : Q4) : Prop := x.a.oneCell' = true ∧ x.b.oneCell' = true ∧ x.c.oneCell' = true ∧ x.d.oneCell' = true
theorem c4_oneCell (l : List Q4) (h : ∀ x ∈ l, x.One) : ∀ u ∈ c4 l, u.oneCell' = true := by
  induction l with
  | nil => intro u hu; simp [c4] at hu
  | cons r l ih =>
    intro u hu
    obtain ⟨h0, h1, h2, h3⟩ := h r (by simp)
    simp only [c4, List.mem_cons] at hu
    rcases hu with rfl | rfl | rfl | rfl | hu
    · exact h0
    · exact h1
    · exact h2
    · exact h3
    · exact ih (fun x hx => h x (by simp [hx])) u hu
theorem c4_set (l : List Q4) (i : Nat) (h : i < l.length) (x : Q4) : ((((c4 l).set (i * 4) x.a).set (i * 4 + 1) x.b).set (i * 4 + 2) x.c).set (i * 4 + 3) x.d = c4 (l.set i x) := by
  induction l generalizing i with
  | nil => simp at h
  | cons r l ih =>
    cases i with
    | zero => simp [c4]
    | succ i =>
      have := ih i (by simpa using h)
      rw [Nat.succ_mul]
      simpa [c4] using this
theorem c4_set3 (l : List Q4) (i : Nat) (h : i < l.length) (v : Value) : (c4 l).set (i * 4 + 3) v = c4 (l.set i ⟨(l.getD i .zero).a, (l.getD i .zero).b, (l.getD i .zero).c, v⟩) := by
  induction l generalizing i with
  | nil => simp at h
  | cons r l ih =>
    cases i with
    | zero => simp [c4]
    | succ i =>
      have := ih i (by simpa using h)
      rw [Nat.succ_mul]
      simpa [c4] using this

/-- The cells from 'ao' on hold the rows 'l'. -/
def C4At (w : World) (ao : Option Addr) (l : List Q4) : Prop :=
  ∀ i, i < l.length → ∃ b off, ao = some ⟨b, off, none⟩ ∧ w.cell? ⟨b, off + i * 4, none⟩ = some (l.getD i .zero).a ∧ w.cell? ⟨b, off + i * 4 + 1, none⟩ = some (l.getD i .zero).b ∧
    w.cell? ⟨b, off + i * 4 + 2, none⟩ = some (l.getD i .zero).c ∧ w.cell? ⟨b, off + i * 4 + 3, none⟩ = some (l.getD i .zero).d
theorem C4At.below {w w' : World} {ao : Option Addr} {l : List Q4} (h : C4At w ao l) (hb : Below w.heap.size w w') : C4At w' ao l := by
  intro i hi
  obtain ⟨b, off, ha, h1, h2, h3, h4⟩ := h i hi
  exact ⟨b, off, ha, keep h1 hb, keep h2 hb, keep h3 hb, keep h4 hb⟩
theorem C4At.but {w w' : World} {ao : Option Addr} {l : List Q4} {c : Nat} (h : C4At w ao l) (hb : But c w w') (hne : ∀ a, ao = some a → a.block ≠ c) : C4At w' ao l := by
  intro i hi
  obtain ⟨b, off, ha, h1, h2, h3, h4⟩ := h i hi
  have := hne _ ha
  exact ⟨b, off, ha, hb.cell h1 this, hb.cell h2 this, hb.cell h3 this, hb.cell h4 this⟩
theorem C4At.nil (w : World) (ao : Option Addr) : C4At w ao [] := fun i hi => absurd hi (by simp)
theorem c4_of_owns {w : World} {base : Nat} {e : TypeId} {ao : Option Addr} {n cap : Nat} {l : List Q4} (h : w.ownsRow base e 4 (.slice ao n cap) n (c4 l)) : C4At w ao l := by
  intro i hi
  have hl := h.1
  rw [length_c4] at hl
  obtain ⟨g0, g1, g2, g3⟩ := c4_get l i hi
  rcases h.2 with ⟨h', h0⟩ | ⟨g, cap', cur, h', _, hg, _, _, _, htake⟩
  · omega
  · simp only [Value.slice.injEq] at h'
    obtain ⟨rfl, _, rfl⟩ := h'
    refine ⟨g, 0, rfl, ?_, ?_, ?_, ?_⟩
    · rw [Nat.zero_add, h.cellAt (i * 4) (by omega), g0]
    · rw [Nat.zero_add, h.cellAt (i * 4 + 1) (by omega), g1]
    · rw [Nat.zero_add, h.cellAt (i * 4 + 2) (by omega), g2]
    · rw [Nat.zero_add, h.cellAt (i * 4 + 3) (by omega), g3]
theorem c4owns_len {w : World} {base : Nat} {e : TypeId} {v : Value} {n : Nat} {l : List Q4} (h : w.ownsRow base e 4 v n (c4 l)) : l.length = n := by have := h.1; rw [length_c4] at this; omega

/-- A zone as four cells: what it is, and where its lists lie. -/
structure Zc where
  z : Zn
  fo : Option Addr
  fn : Nat
  fc : Nat
  to_ : Option Addr
  tn : Nat
  tc : Nat
def Zc.zero : Zc := ⟨⟨0, 0, [], []⟩, none, 0, 0, none, 0, 0⟩
def Zc.q (x : Zc) : Q4 := ⟨.int .i64 x.z.f, .int .i64 x.z.t, .slice x.fo x.fn x.fc, .slice x.to_ x.tn x.tc⟩
def Zc.At (w : World) (x : Zc) : Prop := ZnAt w x.fo x.fn x.to_ x.tn x.z
theorem Zc.one (x : Zc) : x.q.One := ⟨rfl, rfl, rfl, rfl⟩
/-- A list of single pages: a processor, a zone, a type, the pages. -/
structure Ls where
  c : Int
  z : Int
  t : Int
  pages : List Int
/-- The same as four cells. -/
structure Lc where
  l : Ls
  po : Option Addr
  pn : Nat
  pc : Nat
def Lc.zero : Lc := ⟨⟨0, 0, 0, []⟩, none, 0, 0⟩
def Lc.q (x : Lc) : Q4 := ⟨.int .i64 x.l.c, .int .i64 x.l.z, .int .i64 x.l.t, .slice x.po x.pn x.pc⟩
def Lc.At (w : World) (x : Lc) : Prop := Nums w x.po x.pn x.l.pages
theorem Lc.one (x : Lc) : x.q.One := ⟨rfl, rfl, rfl, rfl⟩
theorem Zc.At.below {w w' : World} {x : Zc} (h : x.At w) (hb : Below w.heap.size w w') : x.At w' := ZnAt.below h hb
theorem Lc.At.below {w w' : World} {x : Lc} (h : x.At w) (hb : Below w.heap.size w w') : x.At w' := Nums.below h hb

theorem getD_map {α β : Type} (l : List α) (f : α → β) (i : Nat) (d : α) (e : β) (h : i < l.length) : (l.map f).getD i e = f (l.getD i d) := by
  simp [List.getD_eq_getElem?_getD, h]

/-- A slice of zones that can be read. -/
structure Zons (w : World) (ao : Option Addr) (n : Nat) (l : List Zc) : Prop where
  len : l.length = n
  reach : n * 64 ≤ 140737488351232
  cells : C4At w ao (l.map Zc.q)
  at_ : ∀ x ∈ l, x.At w
/-- A slice of lists that can be read. -/
structure Lsts (w : World) (ao : Option Addr) (n : Nat) (l : List Lc) : Prop where
  len : l.length = n
  reach : n * 48 ≤ 140737488351232
  cells : C4At w ao (l.map Lc.q)
  at_ : ∀ x ∈ l, x.At w
theorem Zons.below {w w' : World} {ao : Option Addr} {n : Nat} {l : List Zc} (h : Zons w ao n l) (hb : Below w.heap.size w w') : Zons w' ao n l := ⟨h.len, h.reach, h.cells.below hb, fun x hx => (h.at_ x hx).below hb⟩
theorem Lsts.below {w w' : World} {ao : Option Addr} {n : Nat} {l : List Lc} (h : Lsts w ao n l) (hb : Below w.heap.size w w') : Lsts w' ao n l := ⟨h.len, h.reach, h.cells.below hb, fun x hx => (h.at_ x hx).below hb⟩
theorem Zons.nil (w : World) : Zons w none 0 [] := ⟨rfl, by omega, C4At.nil _ _, fun _ h => by cases h⟩
theorem Lsts.nil (w : World) : Lsts w none 0 [] := ⟨rfl, by omega, C4At.nil _ _, fun _ h => by cases h⟩
theorem getD_mem {α : Type} {l : List α} {i : Nat} {d : α} (h : i < l.length) : l.getD i d ∈ l := by
  rw [List.getD_eq_getElem?_getD, List.getElem?_eq_getElem h]; exact List.getElem_mem _
/-- One zone of a slice: its four cells. -/
theorem Zons.at {w : World} {ao : Option Addr} {n : Nat} {l : List Zc} (h : Zons w ao n l) (k : Nat) (hk : k < n) : ∃ b off z fo fn fc to_ tn tc, ao = some ⟨b, off, none⟩ ∧ w.cell? ⟨b, off + k * 4, none⟩ = some (.int .i64 z.f) ∧ w.cell? ⟨b, off + k * 4 + 1, none⟩ = some (.int .i64 z.t) ∧
    w.cell? ⟨b, off + k * 4 + 2, none⟩ = some (.slice fo fn fc) ∧ w.cell? ⟨b, off + k * 4 + 3, none⟩ = some (.slice to_ tn tc) ∧ ZnAt w fo fn to_ tn z ∧ Hid (l.getD k .zero = ⟨z, fo, fn, fc, to_, tn, tc⟩) := by
  have hk' : k < l.length := by have := h.len; omega
  obtain ⟨b, off, ha, h0, h1, h2, h3⟩ := h.cells k (by simpa using hk')
  rw [getD_map l Zc.q k .zero _ hk'] at h0 h1 h2 h3
  have hat := h.at_ _ (getD_mem (d := Zc.zero) hk')
  exact ⟨b, off, _, _, _, _, _, _, _, ha, h0, h1, h2, h3, hat, rfl⟩
/-- One list of a slice: its four cells. -/
theorem Lsts.at {w : World} {ao : Option Addr} {n : Nat} {l : List Lc} (h : Lsts w ao n l) (k : Nat) (hk : k < n) : ∃ b off c z t pages po pn pc, ao = some ⟨b, off, none⟩ ∧ w.cell? ⟨b, off + k * 4, none⟩ = some (.int .i64 c) ∧ w.cell? ⟨b, off + k * 4 + 1, none⟩ = some (.int .i64 z) ∧
    w.cell? ⟨b, off + k * 4 + 2, none⟩ = some (.int .i64 t) ∧ w.cell? ⟨b, off + k * 4 + 3, none⟩ = some (.slice po pn pc) ∧ Nums w po pn pages ∧ Hid (l.getD k .zero = ⟨⟨c, z, t, pages⟩, po, pn, pc⟩) := by
  have hk' : k < l.length := by have := h.len; omega
  obtain ⟨b, off, ha, h0, h1, h2, h3⟩ := h.cells k (by simpa using hk')
  rw [getD_map l Lc.q k .zero _ hk'] at h0 h1 h2 h3
  have hat := h.at_ _ (getD_mem (d := Lc.zero) hk')
  exact ⟨b, off, _, _, _, _, _, _, _, ha, h0, h1, h2, h3, hat, rfl⟩

/-- A heap of pages, plain. -/
structure Hp where
  zones : List Zn
  mins : List Int
  cpus : Int
  lists : List Ls
  live : List Bk
/-- A heap of pages with the places of its parts. -/
structure Hx where
  zs : List Zc
  zo : Option Addr
  zn : Nat
  zc : Nat
  mins : List Int
  mo : Option Addr
  mn : Nat
  mc : Nat
  cpus : Int
  ls : List Lc
  lo : Option Addr
  ln : Nat
  lc : Nat
  live : List Bk
  vo : Option Addr
  vn : Nat
  vc : Nat
def Hx.hp (x : Hx) : Hp := ⟨x.zs.map (·.z), x.mins, x.cpus, x.ls.map (·.l), x.live⟩
/-- It can be read. -/
structure Hx.At (w : World) (x : Hx) : Prop where
  zones : Zons w x.zo x.zn x.zs
  mins : Nums w x.mo x.mn x.mins
  lists : Lsts w x.lo x.ln x.ls
  live : Blks w x.vo x.vn x.live
theorem Hx.At.below {w w' : World} {x : Hx} (h : x.At w) (hb : Below w.heap.size w w') : x.At w' := ⟨h.zones.below hb, h.mins.below hb, h.lists.below hb, h.live.below hb⟩

/-- A heap in a variable: its five cells, that may be written. -/
structure HBox (W : World) (b : Nat) (x y u v t : Value) : Prop where
  c0 : W.cell? ⟨b, 0, none⟩ = some x
  c1 : W.cell? ⟨b, 1, none⟩ = some y
  c2 : W.cell? ⟨b, 2, none⟩ = some u
  c3 : W.cell? ⟨b, 3, none⟩ = some v
  c4 : W.cell? ⟨b, 4, none⟩ = some t
  z0 : W.frozen? ⟨b, 0, none⟩ = false
  z1 : W.frozen? ⟨b, 1, none⟩ = false
  z2 : W.frozen? ⟨b, 2, none⟩ = false
  z3 : W.frozen? ⟨b, 3, none⟩ = false
  z4 : W.frozen? ⟨b, 4, none⟩ = false
theorem HBox.lt {W : World} {b : Nat} {x y u v t : Value} (h : HBox W b x y u v t) : b < W.heap.size := by
  have := World.block_lt_of_cell? W _ h.c0
  exact this
theorem HBox.of_block {W W' : World} {b : Nat} {x y u v t : Value} (h : HBox W b x y u v t) (hb : W'.heap[b]? = W.heap[b]?) : HBox W' b x y u v t :=
  ⟨(World.cell?_of_block (a := ⟨b, 0, none⟩) hb).trans h.c0, (World.cell?_of_block (a := ⟨b, 1, none⟩) hb).trans h.c1, (World.cell?_of_block (a := ⟨b, 2, none⟩) hb).trans h.c2, (World.cell?_of_block (a := ⟨b, 3, none⟩) hb).trans h.c3, (World.cell?_of_block (a := ⟨b, 4, none⟩) hb).trans h.c4,
    (World.frozen?_of_block (a := ⟨b, 0, none⟩) hb).trans h.z0, (World.frozen?_of_block (a := ⟨b, 1, none⟩) hb).trans h.z1, (World.frozen?_of_block (a := ⟨b, 2, none⟩) hb).trans h.z2, (World.frozen?_of_block (a := ⟨b, 3, none⟩) hb).trans h.z3, (World.frozen?_of_block (a := ⟨b, 4, none⟩) hb).trans h.z4⟩
theorem HBox.below {W W' : World} {b : Nat} {x y u v t : Value} (h : HBox W b x y u v t) (hb : Below W.heap.size W W') : HBox W' b x y u v t := h.of_block (hb.block b h.lt)
theorem HBox.but {W W' : World} {b c : Nat} {x y u v t : Value} (h : HBox W b x y u v t) (hb : But c W W') (hne : b ≠ c) : HBox W' b x y u v t := h.of_block (hb.block b h.lt hne)
theorem hbox_of_row {W : World} {x : Nat} {a b c d e : Value} {t : TypeId} (h : W.heap[x]? = some (.cells #[a, b, c, d, e] t (0, 0))) : HBox W x a b c d e := by
  have hc : ∀ i : Nat, W.cell? ⟨x, i, none⟩ = (#[a, b, c, d, e] : Array Value)[i]? := fun i => by simp [World.cell?, h]
  have hf : ∀ i : Nat, W.frozen? ⟨x, i, none⟩ = false := fun i => by simp [World.frozen?, h]
  exact ⟨by rw [hc]; rfl, by rw [hc]; rfl, by rw [hc]; rfl, by rw [hc]; rfl, by rw [hc]; rfl, hf 0, hf 1, hf 2, hf 3, hf 4⟩
theorem hbox_new (W : World) (x y u v t : Value) (ty : TypeId) : HBox (W.alloc (.cells #[x, y, u, v, t] ty)) W.heap.size x y u v t :=
  hbox_of_row (t := ty) (by show (W.heap.push _)[W.heap.size]? = _; rw [Array.getElem?_push, if_pos rfl])
/-- The world behind five stores into one block. -/
theorem but5 (W : World) (b : Nat) (x y u v t : Value) : But b W (((((W.setCell ⟨b, 0, none⟩ x).setCell ⟨b, 1, none⟩ y).setCell ⟨b, 2, none⟩ u).setCell ⟨b, 3, none⟩ v).setCell ⟨b, 4, none⟩ t) :=
  ((((((But.refl b W).setCell x).setCell y).setCell u).setCell v).setCell t)
theorem HBox.set5 {W : World} {b : Nat} {x y u v t : Value} (h : HBox W b x y u v t) (x' y' u' v' t' : Value) : HBox (((((W.setCell ⟨b, 0, none⟩ x').setCell ⟨b, 1, none⟩ y').setCell ⟨b, 2, none⟩ u').setCell ⟨b, 3, none⟩ v').setCell ⟨b, 4, none⟩ t') b x' y' u' v' t' := by
  have o : ∀ (X : World) (i j : Nat) (r : Value), i ≠ j → (X.setCell ⟨b, i, none⟩ r).cell? ⟨b, j, none⟩ = X.cell? ⟨b, j, none⟩ := fun X i j r hij => World.cell?_setCell_other _ _ _ _ (by intro g; cases g; exact hij rfl)
  refine ⟨?_, ?_, ?_, ?_, ?_, by simpa using h.z0, by simpa using h.z1, by simpa using h.z2, by simpa using h.z3, by simpa using h.z4⟩
  · rw [o _ 4 0 _ (by decide), o _ 3 0 _ (by decide), o _ 2 0 _ (by decide), o _ 1 0 _ (by decide)]
    exact World.cell?_setCell_same _ _ _ h.c0
  · rw [o _ 4 1 _ (by decide), o _ 3 1 _ (by decide), o _ 2 1 _ (by decide)]
    exact World.cell?_setCell_same _ _ _ ((o _ 0 1 _ (by decide)).trans h.c1)
  · rw [o _ 4 2 _ (by decide), o _ 3 2 _ (by decide)]
    exact World.cell?_setCell_same _ _ _ ((o _ 1 2 _ (by decide)).trans ((o _ 0 2 _ (by decide)).trans h.c2))
  · rw [o _ 4 3 _ (by decide)]
    exact World.cell?_setCell_same _ _ _ ((o _ 2 3 _ (by decide)).trans ((o _ 1 3 _ (by decide)).trans ((o _ 0 3 _ (by decide)).trans h.c3)))
  · exact World.cell?_setCell_same _ _ _ ((o _ 3 4 _ (by decide)).trans ((o _ 2 4 _ (by decide)).trans ((o _ 1 4 _ (by decide)).trans ((o _ 0 4 _ (by decide)).trans h.c4))))

end Go.Proofs.Ytbjlbmofdnkmiaa.Kit

/-
  OWN TEXT. When a heap of pages may be: plain mathematics.
-/
namespace Go.Proofs.Ytbjlbmofdnkmiaa.Kit

/-- A single page as a block. -/
def pgB (p : Int) : Bk := ⟨p, 0, 0⟩
/-- The blocks of a list are apart from those ahead of them, and from those of P. -/
def Apt (P l : List Bk) : Prop := ∀ k, k < l.length → ¬ ovlP (P ++ l.take k) (l.getD k .zero).a (l.getD k .zero).o

theorem getD_append_left {α : Type} (l m : List α) (k : Nat) (d : α) (h : k < l.length) : (l ++ m).getD k d = l.getD k d := by
  simp [List.getD_eq_getElem?_getD, List.getElem?_append_left h]
theorem getD_append_right {α : Type} (l m : List α) (k : Nat) (d : α) : (l ++ m).getD (l.length + k) d = m.getD k d := by
  simp [List.getD_eq_getElem?_getD, List.getElem?_append_right]

theorem apt_nil (P : List Bk) : Apt P [] := fun k hk => absurd hk (by simp)
theorem apt_append (P l m : List Bk) : Apt P (l ++ m) ↔ Apt P l ∧ Apt (P ++ l) m := by
  constructor
  · intro h
    refine ⟨fun k hk => ?_, fun k hk => ?_⟩
    · have := h k (by simp; omega)
      rwa [getD_append_left _ _ _ _ hk, List.take_append_of_le_length (by omega)] at this
    · have := h (l.length + k) (by simp; omega)
      rw [getD_append_right, List.take_append] at this
      rw [List.take_of_length_le (by omega), show l.length + k - l.length = k by omega, ← List.append_assoc] at this
      exact this
  · rintro ⟨h1, h2⟩ k hk
    by_cases hlt : k < l.length
    · rw [getD_append_left _ _ _ _ hlt, List.take_append_of_le_length (by omega)]
      exact h1 k hlt
    · obtain ⟨j, rfl⟩ : ∃ j, k = l.length + j := ⟨k - l.length, by omega⟩
      rw [getD_append_right, List.take_append, List.take_of_length_le (by omega), show l.length + j - l.length = j by omega, ← List.append_assoc]
      exact h2 j (by simp at hk; omega)
theorem apt_one (P : List Bk) (b : Bk) : Apt P [b] ↔ ¬ ovlP P b.a b.o := by
  constructor
  · intro h
    have := h 0 (by simp)
    simpa using this
  · intro h k hk
    obtain rfl : k = 0 := by simp at hk; omega
    simpa using h
theorem apt_take_succ (P l : List Bk) (k : Nat) (hk : k < l.length) : Apt P (l.take (k + 1)) ↔ Apt P (l.take k) ∧ ¬ ovlP (P ++ l.take k) (l.getD k .zero).a (l.getD k .zero).o := by
  rw [take_getD l k hk rfl, apt_append, apt_one]
theorem apt_take {P l : List Bk} (h : Apt P l) (k : Nat) : Apt P (l.take k) := by
  have := (List.take_append_drop k l).symm
  rw [this, apt_append] at h
  exact h.1

/-- A page is in a block of the list. -/
def cov (P : List Bk) (p : Int) : Bool := P.any fun b => decide (b.a ≤ p ∧ p < b.a + pw b.o)
theorem cov_append (P Q : List Bk) (p : Int) : cov (P ++ Q) p = (cov P p || cov Q p) := by simp [cov]
theorem cov_one (b : Bk) (p : Int) : cov [b] p = decide (b.a ≤ p ∧ p < b.a + pw b.o) := by simp [cov]
theorem ovlP_mem (P : List Bk) (a o : Int) : ovlP P a o ↔ ∃ b ∈ P, b.a < a + pw o ∧ a < b.a + pw b.o := by
  constructor
  · rintro ⟨i, hi, h⟩
    exact ⟨_, getD_mem (d := Bk.zero) hi, h⟩
  · rintro ⟨b, hb, h⟩
    obtain ⟨i, hi, rfl⟩ := List.getElem_of_mem hb
    refine ⟨i, hi, ?_⟩
    rw [List.getD_eq_getElem?_getD, List.getElem?_eq_getElem hi]
    exact h
theorem cov_ovl (P : List Bk) (a o : Int) : (∃ p, a ≤ p ∧ p < a + pw o ∧ cov P p = true) ↔ ovlP P a o := by
  rw [ovlP_mem]
  constructor
  · rintro ⟨p, h1, h2, h3⟩
    obtain ⟨b, hb, hd⟩ := List.any_eq_true.1 h3
    have := of_decide_eq_true hd
    exact ⟨b, hb, by omega, by omega⟩
  · rintro ⟨b, hb, h1, h2⟩
    have p1 := pw_pos o
    have p2 := pw_pos b.o
    by_cases h : a ≤ b.a
    · exact ⟨b.a, h, h1, List.any_eq_true.2 ⟨b, hb, decide_eq_true (by omega)⟩⟩
    · exact ⟨a, by omega, by omega, List.any_eq_true.2 ⟨b, hb, decide_eq_true (by omega)⟩⟩

/-- Where the pages of a heap are: free, on a list, or away. -/
def placed (H : Hp) : List Bk := H.zones.flatMap (·.free) ++ (H.lists.flatMap (fun l => l.pages.map pgB) ++ H.live)

/-- One list stands ahead of another one. -/
def aheadL (a b : Ls) : Prop := a.c < b.c ∨ a.c = b.c ∧ (a.z < b.z ∨ a.z = b.z ∧ a.t < b.t)
/-- A list may be. -/
structure LsOk (H : Hp) (l : Ls) : Prop where
  c : 0 ≤ l.c ∧ l.c < H.cpus
  z : 0 ≤ l.z ∧ l.z < 2
  t : typeOk l.t
  n : 1 ≤ l.pages.length ∧ l.pages.length ≤ 8
  p : ∀ i, i < l.pages.length → (H.zones.getD l.z.toNat ⟨0, 0, [], []⟩).f ≤ l.pages.getD i 0 ∧ l.pages.getD i 0 < (H.zones.getD l.z.toNat ⟨0, 0, [], []⟩).t
def Ls.zero : Ls := ⟨0, 0, 0, []⟩
/-- A block that is away may be. -/
structure LvOk (b : Bk) : Prop where
  o : ordOk b.o
  a : 0 ≤ b.a ∧ b.a < 256
  m : b.a % pw b.o = 0
  t : typeOk b.t
def Zn.zero : Zn := ⟨0, 0, [], []⟩
/-- The zones may be. -/
structure ZsOk (H : Hp) : Prop where
  n : H.zones.length = 2
  m0 : ZMay (H.zones.getD 0 ⟨0, 0, [], []⟩)
  m1 : ZMay (H.zones.getD 1 ⟨0, 0, [], []⟩)
  f0 : (H.zones.getD 0 ⟨0, 0, [], []⟩).f = 0
  f1 : (H.zones.getD 1 ⟨0, 0, [], []⟩).f = (H.zones.getD 0 ⟨0, 0, [], []⟩).t
  t1 : (H.zones.getD 1 ⟨0, 0, [], []⟩).t = 256
/-- How many pages are held back may be. -/
structure MnOk (H : Hp) : Prop where
  n : H.mins.length = 2
  a : 0 ≤ H.mins.getD 0 0 ∧ H.mins.getD 0 0 ≤ 256
  b : 0 ≤ H.mins.getD 1 0 ∧ H.mins.getD 1 0 ≤ 256
/-- The lists may be. -/
structure LssOk (H : Hp) : Prop where
  ok : ∀ i, i < H.lists.length → LsOk H (H.lists.getD i .zero)
  ord : ∀ i, 0 < i → i < H.lists.length → aheadL (H.lists.getD (i - 1) .zero) (H.lists.getD i .zero)
/-- What is away may be. -/
structure LvsOk (l : List Bk) : Prop where
  ok : ∀ i, i < l.length → LvOk (l.getD i .zero)
  ord : ∀ i, 0 < i → i < l.length → (l.getD (i - 1) .zero).a < (l.getD i .zero).a
/-- A heap may be. -/
structure HMay (H : Hp) : Prop where
  zs : ZsOk H
  mn : MnOk H
  cpus : 1 ≤ H.cpus ∧ H.cpus ≤ 4
  ls : LssOk H
  lv : LvsOk H.live
  apart : Apt [] (placed H)

/-- A block lies within the pages. -/
def InP (b : Bk) : Prop := ordOk b.o ∧ 0 ≤ b.a ∧ b.a + pw b.o ≤ 256
theorem LvOk.inP {b : Bk} (h : LvOk b) : InP b := by
  refine ⟨h.o, h.a.1, ?_⟩
  have h1 := h.m
  have h2 := h.a
  rcases (show b.o = 0 ∨ b.o = 1 ∨ b.o = 2 ∨ b.o = 3 ∨ b.o = 4 by have := h.o; unfold ordOk at this; omega) with e | e | e | e | e <;> rw [e] at h1 ⊢ <;> simp only [pw] at h1 ⊢ <;> (try simp only [show Int.toNat 0 = 0 by rfl, show Int.toNat 1 = 1 by rfl, show Int.toNat 2 = 2 by rfl, show Int.toNat 3 = 3 by rfl, show Int.toNat 4 = 4 by rfl, Nat.reducePow] at h1 ⊢) <;> omega

end Go.Proofs.Ytbjlbmofdnkmiaa.Kit

/-
  OWN TEXT. Lists of blocks with one less, with one more, as plain mathematics.
-/
namespace Go.Proofs.Ytbjlbmofdnkmiaa.Kit

/-- It is the block at a place, of an order. -/
def isB (a o : Int) (b : Bk) : Bool := decide (b.a = a ∧ b.o = o)
/-- All others. -/
def dropB (l : List Bk) (a o : Int) : List Bk := l.filter fun b => !isB a o b
/-- There is one. -/
def hasB (l : List Bk) (a o : Int) : Bool := l.any (isB a o)

theorem dropB_snoc (l : List Bk) (a o : Int) (b : Bk) : dropB (l ++ [b]) a o = if isB a o b = true then dropB l a o else dropB l a o ++ [b] := by
  unfold dropB
  rw [List.filter_append]
  by_cases h : isB a o b = true
  · rw [if_pos h]; simp [List.filter, h]
  · rw [if_neg h]; simp [List.filter, h]
theorem hasB_snoc (l : List Bk) (a o : Int) (b : Bk) : hasB (l ++ [b]) a o = (hasB l a o || isB a o b) := by simp [hasB, List.any_append]
theorem dropB_len (l : List Bk) (a o : Int) : (dropB l a o).length ≤ l.length := List.length_filter_le _ _

/-- A list with one more, by places. -/
def addB : List Bk → Bk → List Bk
  | [], b => [b]
  | x :: l, b => if x.a > b.a then b :: x :: l else x :: addB l b

theorem addB_len (l : List Bk) (b : Bk) : (addB l b).length = l.length + 1 := by
  induction l with
  | nil => rfl
  | cons x l ih =>
    simp only [addB]
    split
    · simp
    · simp [ih]

/-- One of them lies higher. -/
def gtB (l : List Bk) (b : Bk) : Bool := l.any fun x => decide (x.a > b.a)
theorem gtB_snoc (l : List Bk) (x b : Bk) : gtB (l ++ [x]) b = (gtB l b || decide (x.a > b.a)) := by simp [gtB, List.any_append]
theorem addB_snoc_t {l : List Bk} {b : Bk} (x : Bk) (h : gtB l b = true) : addB (l ++ [x]) b = addB l b ++ [x] := by
  induction l with
  | nil => simp [gtB] at h
  | cons y l ih =>
    simp only [List.cons_append, addB]
    by_cases g : y.a > b.a
    · rw [if_pos g, if_pos g]; rfl
    · rw [if_neg g, if_neg g, ih (by simp only [gtB, List.any_cons, Bool.or_eq_true, decide_eq_true_eq] at h ⊢; rcases h with h | h; exact absurd h g; exact h)]
      rfl
theorem addB_none {l : List Bk} {b : Bk} (h : gtB l b = false) : addB l b = l ++ [b] := by
  induction l with
  | nil => rfl
  | cons y l ih =>
    simp only [gtB, List.any_cons, Bool.or_eq_false_iff, decide_eq_false_iff_not] at h
    simp only [addB]
    rw [if_neg h.1, ih h.2]
    rfl
theorem addB_snoc_f {l : List Bk} {b x : Bk} (h : gtB l b = false) (hx : x.a > b.a) : addB (l ++ [x]) b = l ++ [b, x] := by
  induction l with
  | nil => simp [addB, hx]
  | cons y l ih =>
    simp only [gtB, List.any_cons, Bool.or_eq_false_iff, decide_eq_false_iff_not] at h
    simp only [List.cons_append, addB]
    rw [if_neg h.1, ih h.2]

/-- What is there behind the first k. -/
def outB (l : List Bk) (b : Bk) : List Bk := if gtB l b = true then addB l b else l
theorem outB_len (l : List Bk) (b : Bk) : (outB l b).length ≤ l.length + 1 := by
  unfold outB
  split
  · rw [addB_len]; omega
  · omega

end Go.Proofs.Ytbjlbmofdnkmiaa.Kit

/-
  OWN TEXT. A block comes back, as plain mathematics.
-/
namespace Go.Proofs.Ytbjlbmofdnkmiaa.Kit

/-- The block beside one. -/
def besideA (a o : Int) : Int := if a % pw (o + 1) = 0 then a + pw o else a - pw o

/-- Blocks are joined, n times at most. -/
def backGo : Nat → List Bk → Int → Int → List Bk × Int × Int
  | 0, l, a, o => (l, a, o)
  | n + 1, l, a, o => if hasB l (besideA a o) o = true then backGo n (dropB l (besideA a o) o) (if besideA a o < a then besideA a o else a) (o + 1) else (l, a, o)

/-- The zone when a block has come back. -/
def backZ (z : Zn) (a o : Int) : Zn :=
  ⟨z.f, z.t, addB (backGo (4 - o).toNat z.free a o).1 ⟨(backGo (4 - o).toNat z.free a o).2.1, (backGo (4 - o).toNat z.free a o).2.2, z.types.getD (((backGo (4 - o).toNat z.free a o).2.1 - z.f) / 8).toNat 0⟩, z.types⟩

theorem dropB_mem {l : List Bk} {a o : Int} {b : Bk} (h : b ∈ dropB l a o) : b ∈ l := (List.mem_filter.1 h).1
theorem hasB_in {l : List Bk} {f t a o : Int} (h : hasB l a o = true) (hl : ∀ b ∈ l, blkIn f t b.a b.o) : blkIn f t a o := by
  unfold hasB at h
  rw [List.any_eq_true] at h
  obtain ⟨b, hb, hi⟩ := h
  have := of_decide_eq_true hi
  have h2 := hl b hb
  rw [this.1, this.2] at h2
  exact h2

/-- Both together are a block that may be. -/
theorem join_in {f t a o : Int} (h : blkIn f t a o) (hb : blkIn f t (besideA a o) o) (ho : o < 4) : blkIn f t (if besideA a o < a then besideA a o else a) (o + 1) := by
  obtain ⟨⟨h1, h2⟩, h3, h4, h5⟩ := h
  obtain ⟨_, g3, g4, g5⟩ := hb
  have ho' : ordOk (o + 1) := ⟨by omega, by omega⟩
  rcases (show o = 0 ∨ o = 1 ∨ o = 2 ∨ o = 3 by omega) with rfl | rfl | rfl | rfl
  all_goals
    unfold besideA at g3 g4 g5 ⊢
    simp only [pw_0, pw_1, pw_2, pw_3, pw_4, show (0 : Int) + 1 = 1 from rfl, show (1 : Int) + 1 = 2 from rfl, show (2 : Int) + 1 = 3 from rfl, show (3 : Int) + 1 = 4 from rfl] at g3 g4 g5 h5 ⊢
    refine ⟨⟨by omega, by omega⟩, ?_, ?_, ?_⟩
    · split at g3 <;> split <;> omega
    · split at g4 <;> split <;> omega
    · simp only [pw_1, pw_2, pw_3, pw_4]
      split at g5 <;> split <;> omega

end Go.Proofs.Ytbjlbmofdnkmiaa.Kit

/-
  OWN TEXT. 'copy' and 'clear' at elements of k cells, over whatever program.
-/
namespace Go.Proofs.Ytbjlbmofdnkmiaa.Kit
open Go Go.RowKit

theorem but_setRow (w : World) (g : Nat) (cs : Array Value) : But g w (w.setRow g cs) :=
  ⟨rfl, rfl, rfl, by simp [World.setRow], fun k _ hne => setRow_other w g k cs (by omega)⟩

theorem run_copy_row_k {P : Program} (w : World) (dT sT ty elem : TypeId) (k g o dLen dCap : Nat) (a : Addr) (sLen sCap : Nat) (cur : Array Value) (t : TypeId) (cs : List Value)
    (hu : P.underlying dT = some (.slice elem)) (hs : (P.info? elem).map (·.size) = some k)
    (hg : w.heap[g]? = some (.cells cur t (0, 0))) (hn : cs.length = Nat.min sLen dLen * k)
    (hsrc : ∀ j v, cs[j]? = some v → w.cell? (a.add j) = some v) (hfit : o + cs.length ≤ cur.size) (h1 : ∀ v ∈ cs, v.oneCell' = true) :
    (Builtin.copy_ #[dT, sT] ty #[.slice (some ⟨g, o, none⟩) dLen dCap, .slice (some a) sLen sCap]).run P w =
      .ok (goInt (Nat.min sLen dLen)) (w.setRow g (cur.toList.take o ++ cs ++ cur.toList.drop (o + cs.length)).toArray) := by
  have hl := run_loadCells_list (P := P) w a cs hsrc
  have hst := run_storeCells_at P g o t cs 0 cur w hg (by simpa using hfit) h1
  cases hq : P.info? elem with
  | none => simp [hq] at hs
  | some i =>
    have hi : i.size = k := by simpa [hq] using hs
    simp [Builtin.copy_, run_underlying hu, Builtin.lenOf, Builtin.firstCells, sizeOf, typeInfo, hq, hi, ← hn, hl, hst]

theorem run_copy_none_k {P : Program} (w : World) (dT sT ty elem : TypeId) (k : Nat) (d a : Option Addr) (dLen dCap sLen sCap : Nat) (hu : P.underlying dT = some (.slice elem)) (hs : (P.info? elem).map (·.size) = some k) (hn : Nat.min sLen dLen = 0) :
    (Builtin.copy_ #[dT, sT] ty #[.slice d dLen dCap, .slice a sLen sCap]).run P w = .ok (goInt 0) w := by
  cases hq : P.info? elem with
  | none => simp [hq] at hs
  | some i =>
    cases d <;> cases a <;> simp [Builtin.copy_, run_underlying hu, Builtin.lenOf, Builtin.firstCells, sizeOf, typeInfo, hq, hn, storeCells, loadCells, loadCellsFrom]

theorem wpList_copy_k {P : Program} {w : World} {ops : Array Oper} {rest : List Oper} {o : Oper} {a : Act} {Q : Exit → Act → World → Prop} (hgd : o.guard = none) (d s : Operand) (dT sT : TypeId)
    (ho : o.op = .call { callee := .builtin .copy, args := #[d, s], argTypes := #[dT, sT] }) (elem : TypeId) (k : Nat) (hu : P.underlying dT = some (.slice elem)) (hsz : (P.info? elem).map (·.size) = some k)
    (dp sp : Option Addr) (dLen dCap sLen sCap : Nat) (hd : a.eval d = .slice dp dLen dCap) (hs : a.eval s = .slice sp sLen sCap)
    (g off : Nat) (cur : List Value) (t : TypeId) (hg : w.heap[g]? = some (.cells cur.toArray t (0, 0))) (cs : List Value) (m : Nat) (hm : Nat.min sLen dLen = m) (hn : cs.length = m * k)
    (hpos : 0 < m → dp = some ⟨g, off, none⟩ ∧ ∃ ad, sp = some ad ∧ ∀ j v, cs[j]? = some v → w.cell? (ad.add j) = some v)
    (hfit : off + cs.length ≤ cur.length) (h1 : ∀ v ∈ cs, v.oneCell' = true)
    (h : ∀ w', Hid (w'.heap[g]? = some (.cells (splice cur off cs).toArray t (0, 0))) → But g w w' → wpList P ops Q rest (a.put o.dst (goInt m)) w') :
    wpList P ops Q (o :: rest) a w := by
  by_cases h0 : m = 0
  · subst h0
    obtain rfl : cs = [] := List.eq_nil_of_length_eq_zero (by simpa using hn)
    refine wpList_plain hgd fun K hK => ?_
    have hrun := run_copy_none_k (P := P) w dT sT o.type elem k dp sp dLen dCap sLen sCap hu hsz hm
    unfold Oper.wp
    simp [execOp, ho, resolve, invoke, builtin, hd, hs, hrun, Result.andThen]
    exact hK _ _ (h w (show _ = _ by simpa [splice] using hg) (But.refl _ _))
  · obtain ⟨rfl, ad, rfl, hsrc⟩ := hpos (by omega)
    refine wpList_plain hgd fun K hK => ?_
    have hrun := run_copy_row_k (P := P) w dT sT o.type elem k g off dLen dCap ad sLen sCap cur.toArray t cs hu hsz hg (by rw [hm]; exact hn) hsrc (by simpa using hfit) h1
    rw [hm] at hrun
    unfold Oper.wp
    simp [execOp, ho, resolve, invoke, builtin, hd, hs, hrun, Result.andThen]
    refine hK _ _ (h _ (show _ = _ by simpa [splice] using setRow_heap w g _ _ t _ hg) (by simpa using but_setRow w g _))

end Go.Proofs.Ytbjlbmofdnkmiaa.Kit

/-
  OWN TEXT. Rows of blocks of k cells that a call owns: append, copy, clear as steps; over whatever program.
-/
namespace Go.Proofs.Ytbjlbmofdnkmiaa.Kit
open Go Go.RowKit

/-- A row: a block of 'cap' elements of 'size' cells each. -/
structure Row (w : World) (e : TypeId) (size g cap : Nat) (cur : List Value) : Prop where
  h : w.heap[g]? = some (.cells cur.toArray e (0, 0))
  len : cur.length = cap * size
  m : cap ≤ maxLen

theorem Row.lt {w : World} {e : TypeId} {size g cap : Nat} {cur : List Value} (h : Row w e size g cap cur) : g < w.heap.size := (Array.getElem?_eq_some_iff.1 h.h).1
theorem Row.but {w w' : World} {e : TypeId} {size g cap c : Nat} {cur : List Value} (h : Row w e size g cap cur) (hb : But c w w') (hne : g ≠ c) : Row w' e size g cap cur :=
  ⟨(hb.block g h.lt hne).trans h.h, h.len, h.m⟩
theorem Row.below {w w' : World} {e : TypeId} {size g cap : Nat} {cur : List Value} (h : Row w e size g cap cur) (hb : Below w.heap.size w w') : Row w' e size g cap cur :=
  ⟨(hb.block g h.lt).trans h.h, h.len, h.m⟩
theorem Row.cell {w : World} {e : TypeId} {size g cap : Nat} {cur : List Value} (h : Row w e size g cap cur) (j : Nat) : w.cell? ⟨g, j, none⟩ = cur[j]? := by
  simp [World.cell?, h.h]
theorem Row.fz {w : World} {e : TypeId} {size g cap : Nat} {cur : List Value} (h : Row w e size g cap cur) (j : Nat) : w.frozen? ⟨g, j, none⟩ = false := by
  simp [World.frozen?, h.h]
theorem add_at (g o j : Nat) : (⟨g, o, none⟩ : Addr).add j = ⟨g, o + j, none⟩ := by unfold Addr.add; split <;> simp_all

theorem Row.of {w : World} {base : Nat} {e : TypeId} {size g n cap : Nat} {xs : List Value} (h : w.ownsRow base e size (.slice (some ⟨g, 0, none⟩) n cap) n xs) :
    base ≤ g ∧ n ≤ cap ∧ ∃ cur, Row w e size g cap cur ∧ cur.take (n * size) = xs := by
  rcases h.2 with ⟨h', _⟩ | ⟨g', cap', cur, h', hb, hg, hn, hm, hs, htake⟩
  · cases h'
  · simp only [Value.slice.injEq, Option.some.injEq, Addr.mk.injEq, and_true, true_and] at h'
    obtain ⟨rfl, rfl⟩ := h'
    exact ⟨hb, hn, cur.toList, ⟨by simpa using hg, by simpa using hs, hm⟩, htake⟩
theorem Row.owns {w : World} {base : Nat} {e : TypeId} {size g n cap : Nat} {cur xs : List Value} (h : Row w e size g cap cur) (hb : base ≤ g) (hn : n ≤ cap) (ht : cur.take (n * size) = xs) :
    w.ownsRow base e size (.slice (some ⟨g, 0, none⟩) n cap) n xs := by
  refine ⟨?_, .inr ⟨g, cap, cur.toArray, rfl, hb, h.h, hn, h.m, by simpa using h.len, by simpa using ht⟩⟩
  rw [← ht, List.length_take, h.len, Nat.min_eq_left (Nat.mul_le_mul_right _ hn)]

theorem splice_take {α : Type} {L cs : List α} {off n : Nat} (h : n ≤ off) (hl : off ≤ L.length) : (splice L off cs).take n = L.take n := by
  unfold splice
  rw [List.take_append_of_le_length (by simp; omega), List.take_take, Nat.min_eq_left h]

/-- append within the capacity, a step of a region that draws. -/
theorem step_append_fits {P : Program} {ops : Array Oper} {o : Oper} {a : Act} {w : World} {K : Act → World → Prop} {Q : Exit → Act → World → Prop} {E : Prop}
    (hg : o.guard = none) (s x : Operand) (t : TypeId) (hop : o.op = Op.call { callee := Callee.builtin Builtin.append, args := #[s, x], argTypes := #[t, t] })
    (e : TypeId) (i : TypeInfo) (size : Nat) (h1 : P.underlying t = some (.slice e)) (h2 : P.info? e = some i) (h4 : i.size = size)
    (base g n cap : Nat) (xs : List Value) (hs : a.eval s = .slice (some ⟨g, 0, none⟩) n cap) (hown : w.ownsRow base e size (.slice (some ⟨g, 0, none⟩) n cap) n xs)
    (xo : Option Addr) (m c : Nat) (news : List Value) (hx : a.eval x = .slice xo m c) (hn : news.length = m * size) (hxo : ∃ ad, xo = some ad ∧ ∀ j u, news[j]? = some u → w.cell? (ad.add j) = some u) (h1c : ∀ u ∈ news, u.oneCell' = true)
    (N : Nat) (hN : n + m = N) (hroom : N ≤ cap)
    (hK : ∀ w', w'.ownsRow base e size (.slice (some ⟨g, 0, none⟩) N cap) N (xs ++ news) → But g w w' → K (a.put o.dst (.slice (some ⟨g, 0, none⟩) N cap)) w') :
    if Region.wanted o (yielded ops a.tmps) = true then Oper.wp P o a w K Q else E := by
  have hw : Region.wanted o (yielded ops a.tmps) = true := by simp [Region.wanted, hg]
  rw [if_pos hw]
  subst hN
  obtain ⟨ad, rfl, hc⟩ := hxo
  obtain ⟨w', hrun, r1, r2⟩ := run_append_fits (P := P) w base t o.type e i size h1 h2 h4 g n cap xs hown ad m c news hn hc h1c hroom
  unfold Oper.wp
  simp [execOp, hop, resolve, invoke, builtin, hs, hx, hrun, Result.andThen]
  exact hK w' r1 ⟨r2.os, r2.tape, r2.output, r2.size, fun k hk hne => r2.block k hk (by intro g; exact hne (by simpa using g))⟩

/-- copy, a step of a region that draws. -/
theorem step_copy_k {P : Program} {ops : Array Oper} {o : Oper} {a : Act} {w : World} {K : Act → World → Prop} {Q : Exit → Act → World → Prop} {E : Prop} (hgd : o.guard = none) (d s : Operand) (dT sT : TypeId)
    (ho : o.op = .call { callee := .builtin .copy, args := #[d, s], argTypes := #[dT, sT] }) (elem : TypeId) (k : Nat) (hu : P.underlying dT = some (.slice elem)) (hsz : (P.info? elem).map (·.size) = some k)
    (dp sp : Option Addr) (dLen dCap sLen sCap : Nat) (hd : a.eval d = .slice dp dLen dCap) (hs : a.eval s = .slice sp sLen sCap)
    (g off : Nat) (cur : List Value) (t : TypeId) (hg : w.heap[g]? = some (.cells cur.toArray t (0, 0))) (cs : List Value) (m : Nat) (hm : Nat.min sLen dLen = m) (hn : cs.length = m * k)
    (hpos : 0 < m → dp = some ⟨g, off, none⟩ ∧ ∃ ad, sp = some ad ∧ ∀ j v, cs[j]? = some v → w.cell? (ad.add j) = some v)
    (hfit : off + cs.length ≤ cur.length) (h1 : ∀ v ∈ cs, v.oneCell' = true)
    (h : ∀ w', Hid (w'.heap[g]? = some (.cells (splice cur off cs).toArray t (0, 0))) → But g w w' → K (a.put o.dst (goInt m)) w') :
    if Region.wanted o (yielded ops a.tmps) = true then Oper.wp P o a w K Q else E := by
  have hw : Region.wanted o (yielded ops a.tmps) = true := by simp [Region.wanted, hgd]
  rw [if_pos hw]
  by_cases h0 : m = 0
  · subst h0
    obtain rfl : cs = [] := List.eq_nil_of_length_eq_zero (by simpa using hn)
    have hrun := run_copy_none_k (P := P) w dT sT o.type elem k dp sp dLen dCap sLen sCap hu hsz hm
    unfold Oper.wp
    simp [execOp, ho, resolve, invoke, builtin, hd, hs, hrun, Result.andThen]
    exact h w (show _ = _ by simpa [splice] using hg) (But.refl _ _)
  · obtain ⟨rfl, ad, rfl, hsrc⟩ := hpos (by omega)
    have hrun := run_copy_row_k (P := P) w dT sT o.type elem k g off dLen dCap ad sLen sCap cur.toArray t cs hu hsz hg (by rw [hm]; exact hn) hsrc (by simpa using hfit) h1
    rw [hm] at hrun
    unfold Oper.wp
    simp [execOp, ho, resolve, invoke, builtin, hd, hs, hrun, Result.andThen]
    exact h _ (show _ = _ by simpa [splice] using setRow_heap w g _ _ t _ hg) (by simpa using but_setRow w g _)

/-- clear of n elements that lie in a row. -/
theorem wpList_clear_k {P : Program} {w : World} {ops : Array Oper} {rest : List Oper} {o : Oper} {a : Act} {Q : Exit → Act → World → Prop} (hgd : o.guard = none) (s : Operand) (t : TypeId)
    (ho : o.op = .call { callee := .builtin .clear, args := #[s], argTypes := #[t] }) (e : TypeId) (z : Value) (k : Nat) (hu : P.underlying t = some (.slice e)) (hv : ∀ w, (zeroValue e).run P w = .ok z w) (hz : z.cells.size = k) (h1 : ∀ v ∈ z.cells, v.oneCell' = true)
    (sp : Option Addr) (n c : Nat) (hs : a.eval s = .slice sp n c) (g off : Nat) (cur : List Value) (hg : w.heap[g]? = some (.cells cur.toArray e (0, 0))) (hpos : 0 < n → sp = some ⟨g, off, none⟩) (hfit : off + n * k ≤ cur.length)
    (h : ∀ (w' : World) (cur' : List Value), Hid (w'.heap[g]? = some (.cells cur'.toArray e (0, 0)) ∧ cur'.length = cur.length ∧ cur'.take off = cur.take off) → But g w w' → wpList P ops Q rest (a.put o.dst (.tuple #[])) w') :
    wpList P ops Q (o :: rest) a w := by
  by_cases h0 : n = 0
  · subst h0
    refine wpList_plain hgd fun K hK => ?_
    have hrun : (Builtin.clear_ #[t] o.type #[.slice sp 0 c]).run P w = .ok (.tuple #[]) w := by
      cases sp <;> simp [Builtin.clear_, run_underlying hu]
    unfold Oper.wp
    simp [execOp, ho, resolve, invoke, builtin, hs, hrun, Result.andThen]
    exact hK _ _ (h w cur ⟨hg, rfl, rfl⟩ (But.refl _ _))
  · obtain rfl := hpos (by omega)
    refine wpList_plain hgd fun K hK => ?_
    obtain ⟨zs, hzs⟩ : ∃ zs, (Builtin.zeroCells z.cells n).toList = zs := ⟨_, rfl⟩
    have hzl : zs.length = n * k := by rw [← hzs, Array.length_toList, size_zeroCells, hz]
    have hz1 : ∀ v ∈ zs, v.oneCell' = true := by
      intro v hv'
      rw [← hzs] at hv'
      obtain ⟨j, hj, rfl⟩ := List.getElem_of_mem hv'
      have hk : 0 < z.cells.size := by
        rcases Nat.eq_zero_or_pos z.cells.size with g | g
        · rw [Array.length_toList, size_zeroCells, g] at hj; omega
        · exact g
      simp only [Array.getElem_toList, Builtin.zeroCells, Array.getElem_map, Array.getElem_range]
      rw [getElem!_pos z.cells _ (Nat.mod_lt _ hk)]
      exact h1 _ (Array.getElem_mem _)
    have hst := run_storeCells_at P g off e zs 0 cur.toArray w hg (by simp; omega) hz1
    have hrun : (Builtin.clear_ #[t] o.type #[.slice (some ⟨g, off, none⟩) n c]).run P w = .ok (.tuple #[]) (w.setRow g (cur.take off ++ zs ++ cur.drop (off + zs.length)).toArray) := by
      obtain ⟨m, rfl⟩ : ∃ m, n = m + 1 := ⟨n - 1, by omega⟩
      simp only [Nat.add_zero] at hst
      simp [Builtin.clear_, run_underlying hu, hv, hzs, hst]
    unfold Oper.wp
    simp [execOp, ho, resolve, invoke, builtin, hs, hrun, Result.andThen]
    refine hK _ _ (h _ (cur.take off ++ zs ++ cur.drop (off + zs.length)) ⟨?_, ?_, ?_⟩ ?_)
    · simpa using setRow_heap w g _ _ e _ hg
    · simp; omega
    · rw [List.append_assoc, List.take_append_of_le_length (by simp; omega), List.take_take, Nat.min_self]
    · simpa using but_setRow w g _

end Go.Proofs.Ytbjlbmofdnkmiaa.Kit

/-
  OWN TEXT. Worlds that differ in two blocks alone; a zone behind a pointer whose rows the call owns; over whatever program. A list without one of its blocks.
-/
namespace Go.Proofs.Ytbjlbmofdnkmiaa.Kit
open Go Go.RowKit

/-- Of what was there only the blocks g and z may differ. -/
structure Bu2 (g z : Nat) (w w' : World) : Prop where
  os : w'.os = w.os
  tape : w'.tape = w.tape
  output : w'.output = w.output
  size : w.heap.size ≤ w'.heap.size
  block : ∀ k, k < w.heap.size → k ≠ g → k ≠ z → w'.heap[k]? = w.heap[k]?
theorem Bu2.refl (g z : Nat) (w : World) : Bu2 g z w w := ⟨rfl, rfl, rfl, Nat.le_refl _, fun _ _ _ _ => rfl⟩
theorem Bu2.trans {g z : Nat} {w w' w'' : World} (h : Bu2 g z w w') (k : Bu2 g z w' w'') : Bu2 g z w w'' :=
  ⟨k.os.trans h.os, k.tape.trans h.tape, k.output.trans h.output, Nat.le_trans h.size k.size, fun j hj h1 h2 => (k.block j (Nat.lt_of_lt_of_le hj h.size) h1 h2).trans (h.block j hj h1 h2)⟩
theorem Bu2.of_but_g {g z : Nat} {w w' : World} (h : But g w w') : Bu2 g z w w' := ⟨h.os, h.tape, h.output, h.size, fun k hk h1 _ => h.block k hk h1⟩
theorem Bu2.of_but_z {g z : Nat} {w w' : World} (h : But z w w') : Bu2 g z w w' := ⟨h.os, h.tape, h.output, h.size, fun k hk _ h1 => h.block k hk h1⟩
theorem Bu2.of_below {g z : Nat} {w w' : World} (h : Below w.heap.size w w') : Bu2 g z w w' := ⟨h.os, h.tape, h.output, h.size, fun k hk _ _ => h.block k hk⟩
theorem Bu2.below {g z B : Nat} {w w' : World} (h : Bu2 g z w w') (hg : B ≤ g) (hz : B ≤ z) (hB : B ≤ w.heap.size) : Below B w w' := ⟨h.os, h.tape, h.output, h.size, fun k hk => h.block k (by omega) (by omega) (by omega)⟩
theorem Bu2.cell {g z c o : Nat} {v : Value} {w w' : World} (h : Bu2 g z w w') (hc : w.cell? ⟨c, o, none⟩ = some v) (h1 : c ≠ g) (h2 : c ≠ z) : w'.cell? ⟨c, o, none⟩ = some v :=
  (World.cell?_of_block (a := ⟨c, o, none⟩) (h.block c (World.block_lt_of_cell? w _ hc) h1 h2)).trans hc
theorem Bu2.zbox {g z b : Nat} {w w' : World} {x y u v : Value} (h : Bu2 g z w w') (hz : ZBox w b x y u v) (h1 : b ≠ g) (h2 : b ≠ z) : ZBox w' b x y u v := by
  have hb := h.block b hz.lt h1 h2
  exact ⟨h.cell hz.c0 h1 h2, h.cell hz.c1 h1 h2, h.cell hz.c2 h1 h2, h.cell hz.c3 h1 h2, (World.frozen?_of_block (a := ⟨b, 0, none⟩) hb).trans hz.z0, (World.frozen?_of_block (a := ⟨b, 1, none⟩) hb).trans hz.z1, (World.frozen?_of_block (a := ⟨b, 2, none⟩) hb).trans hz.z2, (World.frozen?_of_block (a := ⟨b, 3, none⟩) hb).trans hz.z3⟩
theorem Bu2.res {g z b : Nat} {w w' : World} (h : Bu2 g z w w') (hz : Res4 w b) (h1 : b ≠ g) (h2 : b ≠ z) : Res4 w' b := by
  obtain ⟨⟨v0, e0⟩, ⟨v1, e1⟩, ⟨v2, e2⟩, ⟨v3, e3⟩, z0, z1, z2, z3⟩ := hz
  exact (h.zbox ⟨e0, e1, e2, e3, z0, z1, z2, z3⟩ h1 h2).res
theorem Bu2.owns {g z b : Nat} {w w' : World} {base : Nat} {e : TypeId} {size n cap : Nat} {xs : List Value} (h : Bu2 g z w w') (ho : w.ownsRow base e size (.slice (some ⟨b, 0, none⟩) n cap) n xs) (h1 : b ≠ g) (h2 : b ≠ z) : w'.ownsRow base e size (.slice (some ⟨b, 0, none⟩) n cap) n xs := by
  obtain ⟨hb, hn, cur, R, ht⟩ := Row.of ho
  exact Row.owns ⟨(h.block b R.lt h1 h2).trans R.h, R.len, R.m⟩ hb hn ht
/-- The owned row may become another, new one. -/
theorem Bu2.moved {g g' z : Nat} {w w' w'' : World} (h : Bu2 g z w w') (k : Bu2 g' z w' w'') (hg : g' = g ∨ w.heap.size ≤ g') : Bu2 g z w w'' := by
  rcases hg with rfl | hg
  · exact h.trans k
  · exact ⟨k.os.trans h.os, k.tape.trans h.tape, k.output.trans h.output, Nat.le_trans h.size k.size, fun j hj h1 h2 => (k.block j (Nat.lt_of_lt_of_le hj h.size) (by omega) h2).trans (h.block j hj h1 h2)⟩

theorem own_but {w w' : World} {base : Nat} {e : TypeId} {g n cap size c : Nat} {xs : List Value} (h : w.ownsRow base e size (.slice (some ⟨g, 0, none⟩) n cap) n xs) (hb : But c w w') (hne : g ≠ c) :
    w'.ownsRow base e size (.slice (some ⟨g, 0, none⟩) n cap) n xs := by
  obtain ⟨h1, h2, cur, R, ht⟩ := Row.of h
  exact (R.but hb hne).owns h1 h2 ht

/-- Blocks that rise. -/
def Inc (l : List Bk) : Prop := l.Pairwise fun p q => p.a < q.a
theorem Inc.drop {l : List Bk} (h : Inc l) (a o : Int) : Inc (dropB l a o) := List.Pairwise.filter _ h
theorem inc_of_free {f t lo : Int} {pv : Option Bk} {l : List Bk} (h : FreeOk f t lo pv l) : Inc l := by
  suffices H : ∀ (l : List Bk) (lo : Int) (pv : Option Bk), FreeOk f t lo pv l → (∀ b ∈ l, lo ≤ b.a) ∧ Inc l from (H l lo pv h).2
  intro l
  induction l with
  | nil => intro lo pv _; exact ⟨fun b hb => by simp at hb, List.Pairwise.nil⟩
  | cons b l ih =>
    intro lo pv h
    obtain ⟨_, _, h3, _, h5⟩ := h
    obtain ⟨i1, i2⟩ := ih _ _ h5
    have hp := pw_pos b.o
    refine ⟨fun x hx => ?_, List.Pairwise.cons (fun x hx => by have := i1 x hx; omega) i2⟩
    rcases List.mem_cons.1 hx with rfl | hx
    · exact h3
    · have := i1 x hx; omega

theorem drop_none {l : List Bk} {a o : Int} (h : ∀ b ∈ l, isB a o b = false) : dropB l a o = l := by
  unfold dropB
  rw [List.filter_eq_self]
  intro b hb
  rw [h b hb]; rfl
theorem erase_eq {l : List Bk} (hI : Inc l) {a o : Int} {i : Nat} (hi : i < l.length) (h : isB a o (l.getD i .zero) = true) : l.eraseIdx i = dropB l a o := by
  induction l generalizing i with
  | nil => simp at hi
  | cons b l ih =>
    have hI' := List.pairwise_cons.1 hI
    cases i with
    | zero =>
      have hb : isB a o b = true := by simpa using h
      have e : b.a = a := (of_decide_eq_true hb).1
      have : dropB (b :: l) a o = dropB l a o := by unfold dropB; rw [List.filter_cons]; simp [hb]
      rw [this, drop_none (fun x hx => decide_eq_false (fun g => by have := hI'.1 x hx; rw [e, g.1] at this; omega))]
      rfl
    | succ i =>
      have h' : isB a o (l.getD i .zero) = true := by simpa using h
      have hi' : i < l.length := by simpa using hi
      have e : (l.getD i .zero).a = a := (of_decide_eq_true h').1
      have hm : l.getD i .zero ∈ l := by rw [List.getD_eq_getElem?_getD, List.getElem?_eq_getElem hi']; exact List.getElem_mem _
      have hb : isB a o b = false := decide_eq_false (fun g => by have := hI'.1 _ hm; rw [e, g.1] at this; omega)
      have : dropB (b :: l) a o = b :: dropB l a o := by unfold dropB; rw [List.filter_cons]; simp [hb]
      rw [this, List.eraseIdx_cons_succ, ih hI'.2 hi' h']

theorem has_of {l : List Bk} {a o : Int} {i : Nat} (hi : i < l.length) (h : isB a o (l.getD i .zero) = true) : hasB l a o = true := by
  unfold hasB
  rw [List.any_eq_true]
  exact ⟨l[i], List.getElem_mem _, by rw [List.getD_eq_getElem?_getD, List.getElem?_eq_getElem hi] at h; exact h⟩
theorem has_none {l : List Bk} {a o : Int} (h : ∀ j, j < l.length → isB a o (l.getD j .zero) = false) : hasB l a o = false := by
  unfold hasB
  rw [List.any_eq_false]
  intro x hx
  obtain ⟨i, hi, rfl⟩ := List.getElem_of_mem hx
  have := h i hi
  rw [List.getD_eq_getElem?_getD, List.getElem?_eq_getElem hi] at this
  simp only [Option.getD_some] at this
  simp [this]
theorem drop_len {l : List Bk} (hI : Inc l) {a o : Int} {i : Nat} (hi : i < l.length) (h : isB a o (l.getD i .zero) = true) : (dropB l a o).length + 1 = l.length := by
  rw [← erase_eq hI hi h, List.length_eraseIdx_of_lt hi]; omega

end Go.Proofs.Ytbjlbmofdnkmiaa.Kit

/-
  OWN TEXT. Blocks one after the other out of several lists: plain mathematics.
-/
namespace Go.Proofs.Ytbjlbmofdnkmiaa.Kit
open Go Go.RowKit

/-- The first i lists whole, and k of the next one. -/
def preL {α : Type} (F : α → List Bk) (d : α) (l : List α) (i k : Nat) : List Bk := (l.take i).flatMap F ++ (F (l.getD i d)).take k
theorem preL_zero {α : Type} (F : α → List Bk) (d : α) (l : List α) (i : Nat) : preL F d l i 0 = (l.take i).flatMap F := by simp [preL]
theorem preL_full {α : Type} (F : α → List Bk) (d : α) (l : List α) (i k : Nat) (hi : i < l.length) (hk : (F (l.getD i d)).length ≤ k) : preL F d l i k = preL F d l (i + 1) 0 := by
  rw [preL_zero]
  unfold preL
  rw [List.take_of_length_le hk, List.take_succ_eq_append_getElem hi, List.flatMap_append, List.getD_eq_getElem?_getD, List.getElem?_eq_getElem hi]
  simp
theorem preL_succ {α : Type} (F : α → List Bk) (d : α) (l : List α) (i k : Nat) (hk : k < (F (l.getD i d)).length) : preL F d l i (k + 1) = preL F d l i k ++ [(F (l.getD i d)).getD k .zero] := by
  unfold preL
  rw [take_getD _ k hk rfl, List.append_assoc]
theorem preL_rest {α : Type} (F : α → List Bk) (d : α) (l : List α) (i k : Nat) (hi : i < l.length) : ∃ r, l.flatMap F = preL F d l i k ++ r := by
  unfold preL
  have h1 : l = l.take i ++ l.drop i := (List.take_append_drop i l).symm
  have h2 : l.drop i = l.getD i d :: l.drop (i + 1) := by rw [List.drop_eq_getElem_cons hi, List.getD_eq_getElem?_getD, List.getElem?_eq_getElem hi]; rfl
  refine ⟨(F (l.getD i d)).drop k ++ (l.drop (i + 1)).flatMap F, ?_⟩
  conv => lhs; rw [h1]
  rw [List.flatMap_append, h2, List.flatMap_cons, List.append_assoc, ← List.append_assoc ((F (l.getD i d)).take k), List.take_append_drop]
theorem preL_all {α : Type} (F : α → List Bk) (d : α) (l : List α) (i : Nat) (h : l.length ≤ i) : preL F d l i 0 = l.flatMap F := by
  rw [preL_zero, List.take_of_length_le h]

theorem not_apt {P r : List Bk} {b : Bk} (h : ovlP P b.a b.o) : ¬ Apt [] (P ++ [b] ++ r) := by
  intro g
  rw [apt_append, apt_append, apt_one] at g
  exact g.1.2 (by simpa using h)
theorem apt_snoc {P : List Bk} {b : Bk} (h : Apt [] P) (hn : ¬ ovlP P b.a b.o) : Apt [] (P ++ [b]) := by
  rw [apt_append, apt_one]
  exact ⟨h, by simpa using hn⟩

theorem nodup_len : ∀ (n : Nat) (l : List Int), l.Nodup → (∀ x ∈ l, 0 ≤ x ∧ x < n) → l.length ≤ n
  | 0, [], _, _ => Nat.le_refl _
  | 0, x :: l, _, h => by have := h x List.mem_cons_self; omega
  | n + 1, l, hd, h => by
    by_cases hm : (n : Int) ∈ l
    · have h1 := nodup_len n (l.erase n) (hd.erase _) (fun x hx => by
        have h2 := (hd.mem_erase_iff).1 hx
        have h3 := h x h2.2
        have h4 : x ≠ n := h2.1
        omega)
      have h5 := List.length_erase_of_mem hm
      have := List.length_pos_of_mem hm
      omega
    · have := nodup_len n l hd (fun x hx => by
        have h3 := h x hx
        have : x ≠ n := fun e => hm (e ▸ hx)
        omega)
      omega
theorem apt_len {P : List Bk} (h : Apt [] P) (hi : ∀ i, i < P.length → InP (P.getD i .zero)) : P.length ≤ 256 := by
  have hn : (P.map (·.a)).Nodup := by
    rw [List.nodup_iff_pairwise_ne, List.pairwise_iff_getElem]
    intro i j hi' hj' hij
    simp only [List.length_map] at hi' hj'
    simp only [List.getElem_map]
    intro e
    refine h j hj' ⟨i, by simp; omega, ?_⟩
    have e1 : (([] : List Bk) ++ P.take j).getD i .zero = P[i] := by
      rw [List.nil_append, List.getD_eq_getElem?_getD, List.getElem?_take_of_lt hij, List.getElem?_eq_getElem hi']; rfl
    have e2 : P.getD j .zero = P[j] := by rw [List.getD_eq_getElem?_getD, List.getElem?_eq_getElem hj']; rfl
    rw [e1, e2]
    have p1 := pw_pos P[i].o
    have p2 := pw_pos P[j].o
    constructor <;> omega
  have := nodup_len 256 _ hn (fun x hx => by
    obtain ⟨b, hb, rfl⟩ := List.mem_map.1 hx
    obtain ⟨i, hi', rfl⟩ := List.getElem_of_mem hb
    have := hi i hi'
    rw [List.getD_eq_getElem?_getD, List.getElem?_eq_getElem hi'] at this
    obtain ⟨_, h2, h3⟩ := this
    have := pw_pos P[i].o
    simp only [Option.getD_some] at h2 h3
    omega)
  simpa using this
theorem inP_snoc {P : List Bk} {b : Bk} (h : ∀ i, i < P.length → InP (P.getD i .zero)) (hb : InP b) : ∀ i, i < (P ++ [b]).length → InP ((P ++ [b]).getD i .zero) := by
  intro i hi
  by_cases hl : i < P.length
  · rw [getD_append_left _ _ _ _ hl]; exact h i hl
  · obtain rfl : i = P.length + 0 := by simp at hi; omega
    rw [getD_append_right]
    exact hb
theorem Bu2.grow {g z : Nat} {w w' w'' : World} (h : Bu2 g z w w') (hb : Below w'.heap.size w' w'') : Bu2 g z w w'' := h.trans (Bu2.of_below hb)
theorem Bu2.start (g z : Nat) {w w' : World} (h : ({ w with drawn := w.drawn + 1 } : World) = w') : Bu2 g z w w' := by
  subst h
  exact Bu2.of_below ((Below.refl w.heap.size w).drew)
theorem drawn_b {w w' : World} (h : ({ w with drawn := w.drawn + 1 } : World) = w') : Below w.heap.size w w' := by
  subst h
  exact (Below.refl w.heap.size w).drew
theorem Bu2.row {g z b : Nat} {w w' : World} {o : Obj} (h : Bu2 g z w w') (hr : w.heap[b]? = some o) (h1 : b ≠ g) (h2 : b ≠ z) : w'.heap[b]? = some o := by
  rw [h.block b (Array.getElem?_eq_some_iff.1 hr).1 h1 h2]; exact hr


end Go.Proofs.Ytbjlbmofdnkmiaa.Kit

/-
  OWN TEXT. A zone or none is returned, and a code.
-/
namespace Go.Proofs.Ytbjlbmofdnkmiaa.Kit
open Go Go.RowKit

/-- A zone is returned, and a code. -/
def RetAny (w' : World) (Z : Zn) (c : Int) (e : Ending) : Prop :=
  ∃ fo fn fc to_ tn tc, e = .returned (.tuple #[.agg #[.int .i64 Z.f, .int .i64 Z.t, .slice fo fn fc, .slice to_ tn tc], .int .i64 c]) ∧ ZnAt w' fo fn to_ tn Z
/-- A zone in new memory is returned. -/
def RetZ (B : Nat) (w' : World) (z : Zn) (e : Ending) : Prop :=
  ∃ fo fn fc to_ tn tc, e = .returned (.agg #[.int .i64 z.f, .int .i64 z.t, .slice fo fn fc, .slice to_ tn tc]) ∧ ZnAt w' fo fn to_ tn z ∧ Fresh B fo ∧ Fresh B to_

theorem RetZone.any {B : Nat} {w' : World} {Z : Zn} {e : Ending} (h : RetZone B w' Z e) : RetAny w' Z 0 e := by
  obtain ⟨fo, fn, fc, to_, tn, tc, he, hz, _, _⟩ := h
  exact ⟨fo, fn, fc, to_, tn, tc, he, hz⟩
theorem RetNone.any {c : Int} {w' : World} {e : Ending} (h : RetNone c e) : RetAny w' ⟨0, 0, [], []⟩ c e :=
  ⟨none, 0, 0, none, 0, 0, h, ⟨Blks.nil _, Nums.nil _⟩⟩

end Go.Proofs.Ytbjlbmofdnkmiaa.Kit

/-
  OWN TEXT. Closed facts on the type api.Block.
-/
namespace Go.Proofs.Ytbjlbmofdnkmiaa
open Go Go.RowKit Go.Proofs.Ytbjlbmofdnkmiaa.Kit

theorem info_block : (Try.prog.info? 63).map (fun i => (i.zero, i.size, i.bytes)) = some (some (.agg #[.int .i64 0, .int .i64 0, .int .i64 0]), 3, 24) := by kernel_rfl

theorem size_block : (Try.prog.info? 63).map (·.size) = some 3 := by kernel_rfl

end Go.Proofs.Ytbjlbmofdnkmiaa

/-
  OWN TEXT. The form's own reach, part by part, over whatever program.
-/
namespace Go.Proofs.Ytbjlbmofdnkmiaa.Kit
open Go Go.RowKit

/-- Each string, slice and map of a datum is within the reach. -/
def Sized {H : Type} (P : Program) (t : TypeId) (d : DataW H) : Prop := ∀ n ∈ d.weights P t, n ≤ reachBytes

theorem sized_arg {H : Type} {P : Program} {ts : List TypeId} {ds : List (DataW H)} (h : (DataW.weightsEach P ts ds).all (· ≤ reachBytes) = true) {j : Nat} {t : TypeId} {d : DataW H} (ht : ts[j]? = some t) (hd : ds[j]? = some d) : Sized P t d := by
  intro n hn
  have := List.all_eq_true.1 h _ (DataW.weights_mem_each ht hd n hn)
  simpa using this

theorem sized_field {H : Type} {P : Program} {t u : TypeId} {fs : Array Field} {parts : List (DataW H)} {d : DataW H} (h : Sized P t (.agg parts)) (ht : P.underlying t = some (.struct fs)) {i : Nat} (hu : (fs.toList.map (·.type))[i]? = some u) (hd : parts[i]? = some d) : Sized P u d := by
  intro n hn
  apply h
  have := DataW.weights_mem_each hu hd n hn
  simpa [DataW.weights, ht] using this

theorem sized_sl {H : Type} {P : Program} {t e : TypeId} {elems spare : List (DataW H)} (h : Sized P t (.slice elems spare)) (ht : P.underlying t = some (.slice e)) : (elems.length + spare.length) * P.bytesOf e ≤ reachBytes :=
  h _ (by simp [DataW.weights, ht])

end Go.Proofs.Ytbjlbmofdnkmiaa.Kit
