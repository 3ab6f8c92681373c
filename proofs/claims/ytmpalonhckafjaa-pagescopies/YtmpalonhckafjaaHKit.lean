/-
  OWN TEXT. Rows of four cells each; zones and lists as such rows; a heap of pages that can be read; over whatever program.
-/
import Derived.Test.YtmpalonhckafjaaZKit
namespace Go.Proofs.Ytmpalonhckafjaa.Kit
open Go Go.RowKit

/-- Four cells. -/
structure Q4 where
  a : Value
  b : Value
  c : Value
  d : Value
def Q4.zero : Q4 := ⟨.int .i64 0, .int .i64 0, .int .i64 0, .int .i64 0⟩
/-- Rows of four cells. -/
def c4 : List Q4 → List Value
  | [] => []
  | x :: l => x.a :: x.b :: x.c :: x.d :: c4 l

theorem length_c4 (l : List Q4) : (c4 l).length = l.length * 4 := by
  induction l with
  | nil => rfl
  | cons r l ih => simp only [c4, List.length_cons, ih]; omega
theorem c4_append (l m : List Q4) : c4 (l ++ m) = c4 l ++ c4 m := by
  induction l with
  | nil => rfl
  | cons r l ih => simp [c4, ih]
theorem c4_get (l : List Q4) (i : Nat) (h : i < l.length) : (c4 l)[i * 4]? = some (l.getD i .zero).a ∧ (c4 l)[i * 4 + 1]? = some (l.getD i .zero).b ∧ (c4 l)[i * 4 + 2]? = some (l.getD i .zero).c ∧ (c4 l)[i * 4 + 3]? = some (l.getD i .zero).d := by
  induction l generalizing i with
  | nil => simp at h
  | cons r l ih =>
    cases i with
    | zero => simp [c4]
    | succ i =>
      have := ih i (by simpa using h)
      rw [Nat.succ_mul]
      simpa [c4] using this
/-- Each of them is one cell. -/
def Q4.One (x : Q4) : Prop := x.a.oneCell' = true ∧ x.b.oneCell' = true ∧ x.c.oneCell' = true ∧ x.d.oneCell' = true
theorem c4_oneCell (l : List Q4) (h : ∀ x ∈ l, x.One) : ∀ u ∈ c4 l, u.oneCell' = true := by
  induction l with
  | nil => intro u hu; simp [c4] at hu
  | cons r l ih =>
    intro u hu
    obtain ⟨h0, h1, h2, h3⟩ := h r (by simp)
    simp only [c4, List.mem_cons] at hu
    rcases hu with rfl | rfl | rfl | rfl | hu
    · exact h0
    · exact h1
    · exact h2
    · exact h3
    · exact ih (fun x hx => h x (by simp [hx])) u hu
theorem c4_set (l : List Q4) (i : Nat) (h : i < l.length) (x : Q4) : ((((c4 l).set (i * 4) x.a).set (i * 4 + 1) x.b).set (i * 4 + 2) x.c).set (i * 4 + 3) x.d = c4 (l.set i x) := by
  induction l generalizing i with
  | nil => simp at h
  | cons r l ih =>
    cases i with
    | zero => simp [c4]
    | succ i =>
      have := ih i (by simpa using h)
      rw [Nat.succ_mul]
      simpa [c4] using this
theorem c4_set3 (l : List Q4) (i : Nat) (h : i < l.length) (v : Value) : (c4 l).set (i * 4 + 3) v = c4 (l.set i ⟨(l.getD i .zero).a, (l.getD i .zero).b, (l.getD i .zero).c, v⟩) := by
  induction l generalizing i with
  | nil => simp at h
  | cons r l ih =>
    cases i with
    | zero => simp [c4]
    | succ i =>
      have := ih i (by simpa using h)
      rw [Nat.succ_mul]
      simpa [c4] using this

/-- The cells from 'ao' on hold the rows 'l'. -/
def C4At (w : World) (ao : Option Addr) (l : List Q4) : Prop :=
  ∀ i, i < l.length → ∃ b off, ao = some ⟨b, off, none⟩ ∧ w.cell? ⟨b, off + i * 4, none⟩ = some (l.getD i .zero).a ∧ w.cell? ⟨b, off + i * 4 + 1, none⟩ = some (l.getD i .zero).b ∧
    w.cell? ⟨b, off + i * 4 + 2, none⟩ = some (l.getD i .zero).c ∧ w.cell? ⟨b, off + i * 4 + 3, none⟩ = some (l.getD i .zero).d
theorem C4At.below {w w' : World} {ao : Option Addr} {l : List Q4} (h : C4At w ao l) (hb : Below w.heap.size w w') : C4At w' ao l := by
  intro i hi
  obtain ⟨b, off, ha, h1, h2, h3, h4⟩ := h i hi
  exact ⟨b, off, ha, keep h1 hb, keep h2 hb, keep h3 hb, keep h4 hb⟩
theorem C4At.but {w w' : World} {ao : Option Addr} {l : List Q4} {c : Nat} (h : C4At w ao l) (hb : But c w w') (hne : ∀ a, ao = some a → a.block ≠ c) : C4At w' ao l := by
  intro i hi
  obtain ⟨b, off, ha, h1, h2, h3, h4⟩ := h i hi
  have := hne _ ha
  exact ⟨b, off, ha, hb.cell h1 this, hb.cell h2 this, hb.cell h3 this, hb.cell h4 this⟩
theorem C4At.nil (w : World) (ao : Option Addr) : C4At w ao [] := fun i hi => absurd hi (by simp)
theorem c4_of_owns {w : World} {base : Nat} {e : TypeId} {ao : Option Addr} {n cap : Nat} {l : List Q4} (h : w.ownsRow base e 4 (.slice ao n cap) n (c4 l)) : C4At w ao l := by
  intro i hi
  have hl := h.1
  rw [length_c4] at hl
  obtain ⟨g0, g1, g2, g3⟩ := c4_get l i hi
  rcases h.2 with ⟨h', h0⟩ | ⟨g, cap', cur, h', _, hg, _, _, _, htake⟩
  · omega
  · simp only [Value.slice.injEq] at h'
    obtain ⟨rfl, _, rfl⟩ := h'
    refine ⟨g, 0, rfl, ?_, ?_, ?_, ?_⟩
    · rw [Nat.zero_add, h.cellAt (i * 4) (by omega), g0]
    · rw [Nat.zero_add, h.cellAt (i * 4 + 1) (by omega), g1]
    · rw [Nat.zero_add, h.cellAt (i * 4 + 2) (by omega), g2]
    · rw [Nat.zero_add, h.cellAt (i * 4 + 3) (by omega), g3]
theorem c4owns_len {w : World} {base : Nat} {e : TypeId} {v : Value} {n : Nat} {l : List Q4} (h : w.ownsRow base e 4 v n (c4 l)) : l.length = n := by have := h.1; rw [length_c4] at this; omega

/-- A zone as four cells: what it is, and where its lists lie. -/
structure Zc where
  z : Zn
  fo : Option Addr
  fn : Nat
  fc : Nat
  to_ : Option Addr
  tn : Nat
  tc : Nat
def Zc.zero : Zc := ⟨⟨0, 0, [], []⟩, none, 0, 0, none, 0, 0⟩
def Zc.q (x : Zc) : Q4 := ⟨.int .i64 x.z.f, .int .i64 x.z.t, .slice x.fo x.fn x.fc, .slice x.to_ x.tn x.tc⟩
def Zc.At (w : World) (x : Zc) : Prop := ZnAt w x.fo x.fn x.to_ x.tn x.z
theorem Zc.one (x : Zc) : x.q.One := ⟨rfl, rfl, rfl, rfl⟩
/-- A list of single pages: a processor, a zone, a type, the pages. -/
structure Ls where
  c : Int
  z : Int
  t : Int
  pages : List Int
/-- The same as four cells. -/
structure Lc where
  l : Ls
  po : Option Addr
  pn : Nat
  pc : Nat
def Lc.zero : Lc := ⟨⟨0, 0, 0, []⟩, none, 0, 0⟩
def Lc.q (x : Lc) : Q4 := ⟨.int .i64 x.l.c, .int .i64 x.l.z, .int .i64 x.l.t, .slice x.po x.pn x.pc⟩
def Lc.At (w : World) (x : Lc) : Prop := Nums w x.po x.pn x.l.pages
theorem Lc.one (x : Lc) : x.q.One := ⟨rfl, rfl, rfl, rfl⟩
theorem Zc.At.below {w w' : World} {x : Zc} (h : x.At w) (hb : Below w.heap.size w w') : x.At w' := ZnAt.below h hb
theorem Lc.At.below {w w' : World} {x : Lc} (h : x.At w) (hb : Below w.heap.size w w') : x.At w' := Nums.below h hb

theorem getD_map {α β : Type} (l : List α) (f : α → β) (i : Nat) (d : α) (e : β) (h : i < l.length) : (l.map f).getD i e = f (l.getD i d) := by
  simp [List.getD_eq_getElem?_getD, h]

/-- A slice of zones that can be read. -/
structure Zons (w : World) (ao : Option Addr) (n : Nat) (l : List Zc) : Prop where
  len : l.length = n
  reach : n * 64 ≤ 140737488351232
  cells : C4At w ao (l.map Zc.q)
  at_ : ∀ x ∈ l, x.At w
/-- A slice of lists that can be read. -/
structure Lsts (w : World) (ao : Option Addr) (n : Nat) (l : List Lc) : Prop where
  len : l.length = n
  reach : n * 48 ≤ 140737488351232
  cells : C4At w ao (l.map Lc.q)
  at_ : ∀ x ∈ l, x.At w
theorem Zons.below {w w' : World} {ao : Option Addr} {n : Nat} {l : List Zc} (h : Zons w ao n l) (hb : Below w.heap.size w w') : Zons w' ao n l := ⟨h.len, h.reach, h.cells.below hb, fun x hx => (h.at_ x hx).below hb⟩
theorem Lsts.below {w w' : World} {ao : Option Addr} {n : Nat} {l : List Lc} (h : Lsts w ao n l) (hb : Below w.heap.size w w') : Lsts w' ao n l := ⟨h.len, h.reach, h.cells.below hb, fun x hx => (h.at_ x hx).below hb⟩
theorem Zons.nil (w : World) : Zons w none 0 [] := ⟨rfl, by omega, C4At.nil _ _, fun _ h => by cases h⟩
theorem Lsts.nil (w : World) : Lsts w none 0 [] := ⟨rfl, by omega, C4At.nil _ _, fun _ h => by cases h⟩
theorem getD_mem {α : Type} {l : List α} {i : Nat} {d : α} (h : i < l.length) : l.getD i d ∈ l := by
  rw [List.getD_eq_getElem?_getD, List.getElem?_eq_getElem h]; exact List.getElem_mem _
/-- One zone of a slice: its four cells. -/
theorem Zons.at {w : World} {ao : Option Addr} {n : Nat} {l : List Zc} (h : Zons w ao n l) (k : Nat) (hk : k < n) : ∃ b off z fo fn fc to_ tn tc, ao = some ⟨b, off, none⟩ ∧ w.cell? ⟨b, off + k * 4, none⟩ = some (.int .i64 z.f) ∧ w.cell? ⟨b, off + k * 4 + 1, none⟩ = some (.int .i64 z.t) ∧
    w.cell? ⟨b, off + k * 4 + 2, none⟩ = some (.slice fo fn fc) ∧ w.cell? ⟨b, off + k * 4 + 3, none⟩ = some (.slice to_ tn tc) ∧ ZnAt w fo fn to_ tn z ∧ Hid (l.getD k .zero = ⟨z, fo, fn, fc, to_, tn, tc⟩) := by
  have hk' : k < l.length := by have := h.len; omega
  obtain ⟨b, off, ha, h0, h1, h2, h3⟩ := h.cells k (by simpa using hk')
  rw [getD_map l Zc.q k .zero _ hk'] at h0 h1 h2 h3
  have hat := h.at_ _ (getD_mem (d := Zc.zero) hk')
  exact ⟨b, off, _, _, _, _, _, _, _, ha, h0, h1, h2, h3, hat, rfl⟩
/-- One list of a slice: its four cells. -/
theorem Lsts.at {w : World} {ao : Option Addr} {n : Nat} {l : List Lc} (h : Lsts w ao n l) (k : Nat) (hk : k < n) : ∃ b off c z t pages po pn pc, ao = some ⟨b, off, none⟩ ∧ w.cell? ⟨b, off + k * 4, none⟩ = some (.int .i64 c) ∧ w.cell? ⟨b, off + k * 4 + 1, none⟩ = some (.int .i64 z) ∧
    w.cell? ⟨b, off + k * 4 + 2, none⟩ = some (.int .i64 t) ∧ w.cell? ⟨b, off + k * 4 + 3, none⟩ = some (.slice po pn pc) ∧ Nums w po pn pages ∧ Hid (l.getD k .zero = ⟨⟨c, z, t, pages⟩, po, pn, pc⟩) := by
  have hk' : k < l.length := by have := h.len; omega
  obtain ⟨b, off, ha, h0, h1, h2, h3⟩ := h.cells k (by simpa using hk')
  rw [getD_map l Lc.q k .zero _ hk'] at h0 h1 h2 h3
  have hat := h.at_ _ (getD_mem (d := Lc.zero) hk')
  exact ⟨b, off, _, _, _, _, _, _, _, ha, h0, h1, h2, h3, hat, rfl⟩

/-- A heap of pages, plain. -/
structure Hp where
  zones : List Zn
  mins : List Int
  cpus : Int
  lists : List Ls
  live : List Bk
/-- A heap of pages with the places of its parts. -/
structure Hx where
  zs : List Zc
  zo : Option Addr
  zn : Nat
  zc : Nat
  mins : List Int
  mo : Option Addr
  mn : Nat
  mc : Nat
  cpus : Int
  ls : List Lc
  lo : Option Addr
  ln : Nat
  lc : Nat
  live : List Bk
  vo : Option Addr
  vn : Nat
  vc : Nat
def Hx.hp (x : Hx) : Hp := ⟨x.zs.map (·.z), x.mins, x.cpus, x.ls.map (·.l), x.live⟩
/-- It can be read. -/
structure Hx.At (w : World) (x : Hx) : Prop where
  zones : Zons w x.zo x.zn x.zs
  mins : Nums w x.mo x.mn x.mins
  lists : Lsts w x.lo x.ln x.ls
  live : Blks w x.vo x.vn x.live
theorem Hx.At.below {w w' : World} {x : Hx} (h : x.At w) (hb : Below w.heap.size w w') : x.At w' := ⟨h.zones.below hb, h.mins.below hb, h.lists.below hb, h.live.below hb⟩

/-- A heap in a variable: its five cells, that may be written. -/
structure HBox (W : World) (b : Nat) (x y u v t : Value) : Prop where
  c0 : W.cell? ⟨b, 0, none⟩ = some x
  c1 : W.cell? ⟨b, 1, none⟩ = some y
  c2 : W.cell? ⟨b, 2, none⟩ = some u
  c3 : W.cell? ⟨b, 3, none⟩ = some v
  c4 : W.cell? ⟨b, 4, none⟩ = some t
  z0 : W.frozen? ⟨b, 0, none⟩ = false
  z1 : W.frozen? ⟨b, 1, none⟩ = false
  z2 : W.frozen? ⟨b, 2, none⟩ = false
  z3 : W.frozen? ⟨b, 3, none⟩ = false
  z4 : W.frozen? ⟨b, 4, none⟩ = false
theorem HBox.lt {W : World} {b : Nat} {x y u v t : Value} (h : HBox W b x y u v t) : b < W.heap.size := by
  have := World.block_lt_of_cell? W _ h.c0
  exact this
theorem HBox.of_block {W W' : World} {b : Nat} {x y u v t : Value} (h : HBox W b x y u v t) (hb : W'.heap[b]? = W.heap[b]?) : HBox W' b x y u v t :=
  ⟨(World.cell?_of_block (a := ⟨b, 0, none⟩) hb).trans h.c0, (World.cell?_of_block (a := ⟨b, 1, none⟩) hb).trans h.c1, (World.cell?_of_block (a := ⟨b, 2, none⟩) hb).trans h.c2, (World.cell?_of_block (a := ⟨b, 3, none⟩) hb).trans h.c3, (World.cell?_of_block (a := ⟨b, 4, none⟩) hb).trans h.c4,
    (World.frozen?_of_block (a := ⟨b, 0, none⟩) hb).trans h.z0, (World.frozen?_of_block (a := ⟨b, 1, none⟩) hb).trans h.z1, (World.frozen?_of_block (a := ⟨b, 2, none⟩) hb).trans h.z2, (World.frozen?_of_block (a := ⟨b, 3, none⟩) hb).trans h.z3, (World.frozen?_of_block (a := ⟨b, 4, none⟩) hb).trans h.z4⟩
theorem HBox.below {W W' : World} {b : Nat} {x y u v t : Value} (h : HBox W b x y u v t) (hb : Below W.heap.size W W') : HBox W' b x y u v t := h.of_block (hb.block b h.lt)
theorem HBox.but {W W' : World} {b c : Nat} {x y u v t : Value} (h : HBox W b x y u v t) (hb : But c W W') (hne : b ≠ c) : HBox W' b x y u v t := h.of_block (hb.block b h.lt hne)
theorem hbox_of_row {W : World} {x : Nat} {a b c d e : Value} {t : TypeId} (h : W.heap[x]? = some (.cells #[a, b, c, d, e] t (0, 0))) : HBox W x a b c d e := by
  have hc : ∀ i : Nat, W.cell? ⟨x, i, none⟩ = (#[a, b, c, d, e] : Array Value)[i]? := fun i => by simp [World.cell?, h]
  have hf : ∀ i : Nat, W.frozen? ⟨x, i, none⟩ = false := fun i => by simp [World.frozen?, h]
  exact ⟨by rw [hc]; rfl, by rw [hc]; rfl, by rw [hc]; rfl, by rw [hc]; rfl, by rw [hc]; rfl, hf 0, hf 1, hf 2, hf 3, hf 4⟩
theorem hbox_new (W : World) (x y u v t : Value) (ty : TypeId) : HBox (W.alloc (.cells #[x, y, u, v, t] ty)) W.heap.size x y u v t :=
  hbox_of_row (t := ty) (by show (W.heap.push _)[W.heap.size]? = _; rw [Array.getElem?_push, if_pos rfl])
/-- The world behind five stores into one block. -/
theorem but5 (W : World) (b : Nat) (x y u v t : Value) : But b W (((((W.setCell ⟨b, 0, none⟩ x).setCell ⟨b, 1, none⟩ y).setCell ⟨b, 2, none⟩ u).setCell ⟨b, 3, none⟩ v).setCell ⟨b, 4, none⟩ t) :=
  ((((((But.refl b W).setCell x).setCell y).setCell u).setCell v).setCell t)
theorem HBox.set5 {W : World} {b : Nat} {x y u v t : Value} (h : HBox W b x y u v t) (x' y' u' v' t' : Value) : HBox (((((W.setCell ⟨b, 0, none⟩ x').setCell ⟨b, 1, none⟩ y').setCell ⟨b, 2, none⟩ u').setCell ⟨b, 3, none⟩ v').setCell ⟨b, 4, none⟩ t') b x' y' u' v' t' := by
  have o : ∀ (X : World) (i j : Nat) (r : Value), i ≠ j → (X.setCell ⟨b, i, none⟩ r).cell? ⟨b, j, none⟩ = X.cell? ⟨b, j, none⟩ := fun X i j r hij => World.cell?_setCell_other _ _ _ _ (by intro g; cases g; exact hij rfl)
  refine ⟨?_, ?_, ?_, ?_, ?_, by simpa using h.z0, by simpa using h.z1, by simpa using h.z2, by simpa using h.z3, by simpa using h.z4⟩
  · rw [o _ 4 0 _ (by decide), o _ 3 0 _ (by decide), o _ 2 0 _ (by decide), o _ 1 0 _ (by decide)]
    exact World.cell?_setCell_same _ _ _ h.c0
  · rw [o _ 4 1 _ (by decide), o _ 3 1 _ (by decide), o _ 2 1 _ (by decide)]
    exact World.cell?_setCell_same _ _ _ ((o _ 0 1 _ (by decide)).trans h.c1)
  · rw [o _ 4 2 _ (by decide), o _ 3 2 _ (by decide)]
    exact World.cell?_setCell_same _ _ _ ((o _ 1 2 _ (by decide)).trans ((o _ 0 2 _ (by decide)).trans h.c2))
  · rw [o _ 4 3 _ (by decide)]
    exact World.cell?_setCell_same _ _ _ ((o _ 2 3 _ (by decide)).trans ((o _ 1 3 _ (by decide)).trans ((o _ 0 3 _ (by decide)).trans h.c3)))
  · exact World.cell?_setCell_same _ _ _ ((o _ 3 4 _ (by decide)).trans ((o _ 2 4 _ (by decide)).trans ((o _ 1 4 _ (by decide)).trans ((o _ 0 4 _ (by decide)).trans h.c4))))

end Go.Proofs.Ytmpalonhckafjaa.Kit
