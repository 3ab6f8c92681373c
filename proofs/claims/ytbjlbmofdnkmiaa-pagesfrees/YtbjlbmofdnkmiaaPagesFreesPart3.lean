/-
  OWN TEXTS, bundled: HKit, HArgs, HBase, ZPure.
-/
import Derived.Test.YtbjlbmofdnkmiaaPagesFreesPart2

/-
  OWN TEXT. Rows of four cells each; zones and lists as such rows; a heap of pages that can be read; over whatever program.
-/
namespace Go.Proofs.Ytbjlbmofdnkmiaa.Kit
open Go Go.RowKit

/-- Four cells. -/
structure Q4 where
  a : Value
  b : Value
  c : Value
  d : Value
def Q4.zero : Q4 := ⟨.int .i64 0, .int .i64 0, .int .i64 0, .int .i64 0⟩
/-- Rows of four cells. -/
def c4 : List Q4 → List Value
  | [] => []
  | x :: l => x.a :: x.b :: x.c :: x.d :: c4 l

theorem length_c4 (l : List Q4) : (c4 l).length = l.length * 4 := by
  induction l with
  | nil => rfl
  | cons r l ih => simp only [c4, List.length_cons, ih]; omega
theorem c4_append (l m : List Q4) : c4 (l ++ m) = c4 l ++ c4 m := by
  induction l with
  | nil => rfl
  | cons r l ih => simp [c4, ih]
theorem c4_get (l : List Q4) (i : Nat) (h : i < l.length) : (c4 l)[i * 4]? = some (l.getD i .zero).a ∧ (c4 l)[i * 4 + 1]? = some (l.getD i .zero).b ∧ (c4 l)[i * 4 + 2]? = some (l.getD i .zero).c ∧ (c4 l)[i * 4 + 3]? = some (l.getD i .zero).d := by
  induction l generalizing i with
  | nil => simp at h
  | cons r l ih =>
    cases i with
    | zero => simp [c4]
    | succ i =>
      have := ih i (by simpa using h)
      rw [Nat.succ_mul]
      simpa [c4] using this
/-- Each of them is one cell. -/
def Q4.One (x : Q4) : Prop := x.a.oneCell' = true ∧ x.b.oneCell' = true ∧ x.c.oneCell' = true ∧ x.d.oneCell' = true
theorem c4_oneCell (l : List Q4) (h : ∀ x ∈ l, x.One) : ∀ u ∈ c4 l, u.oneCell' = true := by
  induction l with
  | nil => intro u hu; simp [c4] at hu
  | cons r l ih =>
    intro u hu
    obtain ⟨h0, h1, h2, h3⟩ := h r (by simp)
    simp only [c4, List.mem_cons] at hu
    rcases hu with rfl | rfl | rfl | rfl | hu
    · exact h0
    · exact h1
    · exact h2
    · exact h3
    · exact ih (fun x hx => h x (by simp [hx])) u hu
theorem c4_set (l : List Q4) (i : Nat) (h : i < l.length) (x : Q4) : ((((c4 l).set (i * 4) x.a).set (i * 4 + 1) x.b).set (i * 4 + 2) x.c).set (i * 4 + 3) x.d = c4 (l.set i x) := by
  induction l generalizing i with
  | nil => simp at h
  | cons r l ih =>
    cases i with
    | zero => simp [c4]
    | succ i =>
      have := ih i (by simpa using h)
      rw [Nat.succ_mul]
      simpa [c4] using this
theorem c4_set3 (l : List Q4) (i : Nat) (h : i < l.length) (v : Value) : (c4 l).set (i * 4 + 3) v = c4 (l.set i ⟨(l.getD i .zero).a, (l.getD i .zero).b, (l.getD i .zero).c, v⟩) := by
  induction l generalizing i with
  | nil => simp at h
  | cons r l ih =>
    cases i with
    | zero => simp [c4]
    | succ i =>
      have := ih i (by simpa using h)
      rw [Nat.succ_mul]
      simpa [c4] using this

/-- The cells from 'ao' on hold the rows 'l'. -/
def C4At (w : World) (ao : Option Addr) (l : List Q4) : Prop :=
  ∀ i, i < l.length → ∃ b off, ao = some ⟨b, off, none⟩ ∧ w.cell? ⟨b, off + i * 4, none⟩ = some (l.getD i .zero).a ∧ w.cell? ⟨b, off + i * 4 + 1, none⟩ = some (l.getD i .zero).b ∧
    w.cell? ⟨b, off + i * 4 + 2, none⟩ = some (l.getD i .zero).c ∧ w.cell? ⟨b, off + i * 4 + 3, none⟩ = some (l.getD i .zero).d
theorem C4At.below {w w' : World} {ao : Option Addr} {l : List Q4} (h : C4At w ao l) (hb : Below w.heap.size w w') : C4At w' ao l := by
  intro i hi
  obtain ⟨b, off, ha, h1, h2, h3, h4⟩ := h i hi
  exact ⟨b, off, ha, keep h1 hb, keep h2 hb, keep h3 hb, keep h4 hb⟩
theorem C4At.but {w w' : World} {ao : Option Addr} {l : List Q4} {c : Nat} (h : C4At w ao l) (hb : But c w w') (hne : ∀ a, ao = some a → a.block ≠ c) : C4At w' ao l := by
  intro i hi
  obtain ⟨b, off, ha, h1, h2, h3, h4⟩ := h i hi
  have := hne _ ha
  exact ⟨b, off, ha, hb.cell h1 this, hb.cell h2 this, hb.cell h3 this, hb.cell h4 this⟩
theorem C4At.nil (w : World) (ao : Option Addr) : C4At w ao [] := fun i hi => absurd hi (by simp)
theorem c4_of_owns {w : World} {base : Nat} {e : TypeId} {ao : Option Addr} {n cap : Nat} {l : List Q4} (h : w.ownsRow base e 4 (.slice ao n cap) n (c4 l)) : C4At w ao l := by
  intro i hi
  have hl := h.1
  rw [length_c4] at hl
  obtain ⟨g0, g1, g2, g3⟩ := c4_get l i hi
  rcases h.2 with ⟨h', h0⟩ | ⟨g, cap', cur, h', _, hg, _, _, _, htake⟩
  · omega
  · simp only [Value.slice.injEq] at h'
    obtain ⟨rfl, _, rfl⟩ := h'
    refine ⟨g, 0, rfl, ?_, ?_, ?_, ?_⟩
    · rw [Nat.zero_add, h.cellAt (i * 4) (by omega), g0]
    · rw [Nat.zero_add, h.cellAt (i * 4 + 1) (by omega), g1]
    · rw [Nat.zero_add, h.cellAt (i * 4 + 2) (by omega), g2]
    · rw [Nat.zero_add, h.cellAt (i * 4 + 3) (by omega), g3]
theorem c4owns_len {w : World} {base : Nat} {e : TypeId} {v : Value} {n : Nat} {l : List Q4} (h : w.ownsRow base e 4 v n (c4 l)) : l.length = n := by have := h.1; rw [length_c4] at this; omega

/-- A zone as four cells: what it is, and where its lists lie. -/
structure Zc where
  z : Zn
  fo : Option Addr
  fn : Nat
  fc : Nat
  to_ : Option Addr
  tn : Nat
  tc : Nat
def Zc.zero : Zc := ⟨⟨0, 0, [], []⟩, none, 0, 0, none, 0, 0⟩
def Zc.q (x : Zc) : Q4 := ⟨.int .i64 x.z.f, .int .i64 x.z.t, .slice x.fo x.fn x.fc, .slice x.to_ x.tn x.tc⟩
def Zc.At (w : World) (x : Zc) : Prop := ZnAt w x.fo x.fn x.to_ x.tn x.z
theorem Zc.one (x : Zc) : x.q.One := ⟨rfl, rfl, rfl, rfl⟩
/-- A list of single pages: a processor, a zone, a type, the pages. -/
structure Ls where
  c : Int
  z : Int
  t : Int
  pages : List Int
/-- The same as four cells. -/
structure Lc where
  l : Ls
  po : Option Addr
  pn : Nat
  pc : Nat
def Lc.zero : Lc := ⟨⟨0, 0, 0, []⟩, none, 0, 0⟩
def Lc.q (x : Lc) : Q4 := ⟨.int .i64 x.l.c, .int .i64 x.l.z, .int .i64 x.l.t, .slice x.po x.pn x.pc⟩
def Lc.At (w : World) (x : Lc) : Prop := Nums w x.po x.pn x.l.pages
theorem Lc.one (x : Lc) : x.q.One := ⟨rfl, rfl, rfl, rfl⟩
theorem Zc.At.below {w w' : World} {x : Zc} (h : x.At w) (hb : Below w.heap.size w w') : x.At w' := ZnAt.below h hb
theorem Lc.At.below {w w' : World} {x : Lc} (h : x.At w) (hb : Below w.heap.size w w') : x.At w' := Nums.below h hb

theorem getD_map {α β : Type} (l : List α) (f : α → β) (i : Nat) (d : α) (e : β) (h : i < l.length) : (l.map f).getD i e = f (l.getD i d) := by
  simp [List.getD_eq_getElem?_getD, h]

/-- A slice of zones that can be read. -/
structure Zons (w : World) (ao : Option Addr) (n : Nat) (l : List Zc) : Prop where
  len : l.length = n
  reach : n * 64 ≤ 140737488351232
  cells : C4At w ao (l.map Zc.q)
  at_ : ∀ x ∈ l, x.At w
/-- A slice of lists that can be read. -/
structure Lsts (w : World) (ao : Option Addr) (n : Nat) (l : List Lc) : Prop where
  len : l.length = n
  reach : n * 48 ≤ 140737488351232
  cells : C4At w ao (l.map Lc.q)
  at_ : ∀ x ∈ l, x.At w
theorem Zons.below {w w' : World} {ao : Option Addr} {n : Nat} {l : List Zc} (h : Zons w ao n l) (hb : Below w.heap.size w w') : Zons w' ao n l := ⟨h.len, h.reach, h.cells.below hb, fun x hx => (h.at_ x hx).below hb⟩
theorem Lsts.below {w w' : World} {ao : Option Addr} {n : Nat} {l : List Lc} (h : Lsts w ao n l) (hb : Below w.heap.size w w') : Lsts w' ao n l := ⟨h.len, h.reach, h.cells.below hb, fun x hx => (h.at_ x hx).below hb⟩
theorem Zons.nil (w : World) : Zons w none 0 [] := ⟨rfl, by omega, C4At.nil _ _, fun _ h => by cases h⟩
theorem Lsts.nil (w : World) : Lsts w none 0 [] := ⟨rfl, by omega, C4At.nil _ _, fun _ h => by cases h⟩
theorem getD_mem {α : Type} {l : List α} {i : Nat} {d : α} (h : i < l.length) : l.getD i d ∈ l := by
  rw [List.getD_eq_getElem?_getD, List.getElem?_eq_getElem h]; exact List.getElem_mem _
/-- One zone of a slice: its four cells. -/
theorem Zons.at {w : World} {ao : Option Addr} {n : Nat} {l : List Zc} (h : Zons w ao n l) (k : Nat) (hk : k < n) : ∃ b off z fo fn fc to_ tn tc, ao = some ⟨b, off, none⟩ ∧ w.cell? ⟨b, off + k * 4, none⟩ = some (.int .i64 z.f) ∧ w.cell? ⟨b, off + k * 4 + 1, none⟩ = some (.int .i64 z.t) ∧
    w.cell? ⟨b, off + k * 4 + 2, none⟩ = some (.slice fo fn fc) ∧ w.cell? ⟨b, off + k * 4 + 3, none⟩ = some (.slice to_ tn tc) ∧ ZnAt w fo fn to_ tn z ∧ Hid (l.getD k .zero = ⟨z, fo, fn, fc, to_, tn, tc⟩) := by
  have hk' : k < l.length := by have := h.len; omega
  obtain ⟨b, off, ha, h0, h1, h2, h3⟩ := h.cells k (by simpa using hk')
  rw [getD_map l Zc.q k .zero _ hk'] at h0 h1 h2 h3
  have hat := h.at_ _ (getD_mem (d := Zc.zero) hk')
  exact ⟨b, off, _, _, _, _, _, _, _, ha, h0, h1, h2, h3, hat, rfl⟩
/-- One list of a slice: its four cells. -/
theorem Lsts.at {w : World} {ao : Option Addr} {n : Nat} {l : List Lc} (h : Lsts w ao n l) (k : Nat) (hk : k < n) : ∃ b off c z t pages po pn pc, ao = some ⟨b, off, none⟩ ∧ w.cell? ⟨b, off + k * 4, none⟩ = some (.int .i64 c) ∧ w.cell? ⟨b, off + k * 4 + 1, none⟩ = some (.int .i64 z) ∧
    w.cell? ⟨b, off + k * 4 + 2, none⟩ = some (.int .i64 t) ∧ w.cell? ⟨b, off + k * 4 + 3, none⟩ = some (.slice po pn pc) ∧ Nums w po pn pages ∧ Hid (l.getD k .zero = ⟨⟨c, z, t, pages⟩, po, pn, pc⟩) := by
  have hk' : k < l.length := by have := h.len; omega
  obtain ⟨b, off, ha, h0, h1, h2, h3⟩ := h.cells k (by simpa using hk')
  rw [getD_map l Lc.q k .zero _ hk'] at h0 h1 h2 h3
  have hat := h.at_ _ (getD_mem (d := Lc.zero) hk')
  exact ⟨b, off, _, _, _, _, _, _, _, ha, h0, h1, h2, h3, hat, rfl⟩

/-- A heap of pages, plain. -/
structure Hp where
  zones : List Zn
  mins : List Int
  cpus : Int
  lists : List Ls
  live : List Bk
/-- A heap of pages with the places of its parts. -/
structure Hx where
  zs : List Zc
  zo : Option Addr
  zn : Nat
  zc : Nat
  mins : List Int
  mo : Option Addr
  mn : Nat
  mc : Nat
  cpus : Int
  ls : List Lc
  lo : Option Addr
  ln : Nat
  lc : Nat
  live : List Bk
  vo : Option Addr
  vn : Nat
  vc : Nat
def Hx.hp (x : Hx) : Hp := ⟨x.zs.map (·.z), x.mins, x.cpus, x.ls.map (·.l), x.live⟩
/-- It can be read. -/
structure Hx.At (w : World) (x : Hx) : Prop where
  zones : Zons w x.zo x.zn x.zs
  mins : Nums w x.mo x.mn x.mins
  lists : Lsts w x.lo x.ln x.ls
  live : Blks w x.vo x.vn x.live
theorem Hx.At.below {w w' : World} {x : Hx} (h : x.At w) (hb : Below w.heap.size w w') : x.At w' := ⟨h.zones.below hb, h.mins.below hb, h.lists.below hb, h.live.below hb⟩

/-- A heap in a variable: its five cells, that may be written. -/
structure HBox (W : World) (b : Nat) (x y u v t : Value) : Prop where
  c0 : W.cell? ⟨b, 0, none⟩ = some x
  c1 : W.cell? ⟨b, 1, none⟩ = some y
  c2 : W.cell? ⟨b, 2, none⟩ = some u
  c3 : W.cell? ⟨b, 3, none⟩ = some v
  c4 : W.cell? ⟨b, 4, none⟩ = some t
  z0 : W.frozen? ⟨b, 0, none⟩ = false
  z1 : W.frozen? ⟨b, 1, none⟩ = false
  z2 : W.frozen? ⟨b, 2, none⟩ = false
  z3 : W.frozen? ⟨b, 3, none⟩ = false
  z4 : W.frozen? ⟨b, 4, none⟩ = false
theorem HBox.lt {W : World} {b : Nat} {x y u v t : Value} (h : HBox W b x y u v t) : b < W.heap.size := by
  have := World.block_lt_of_cell? W _ h.c0
  exact this
theorem HBox.of_block {W W' : World} {b : Nat} {x y u v t : Value} (h : HBox W b x y u v t) (hb : W'.heap[b]? = W.heap[b]?) : HBox W' b x y u v t :=
  ⟨(World.cell?_of_block (a := ⟨b, 0, none⟩) hb).trans h.c0, (World.cell?_of_block (a := ⟨b, 1, none⟩) hb).trans h.c1, (World.cell?_of_block (a := ⟨b, 2, none⟩) hb).trans h.c2, (World.cell?_of_block (a := ⟨b, 3, none⟩) hb).trans h.c3, (World.cell?_of_block (a := ⟨b, 4, none⟩) hb).trans h.c4,
    (World.frozen?_of_block (a := ⟨b, 0, none⟩) hb).trans h.z0, (World.frozen?_of_block (a := ⟨b, 1, none⟩) hb).trans h.z1, (World.frozen?_of_block (a := ⟨b, 2, none⟩) hb).trans h.z2, (World.frozen?_of_block (a := ⟨b, 3, none⟩) hb).trans h.z3, (World.frozen?_of_block (a := ⟨b, 4, none⟩) hb).trans h.z4⟩
theorem HBox.below {W W' : World} {b : Nat} {x y u v t : Value} (h : HBox W b x y u v t) (hb : Below W.heap.size W W') : HBox W' b x y u v t := h.of_block (hb.block b h.lt)
theorem HBox.but {W W' : World} {b c : Nat} {x y u v t : Value} (h : HBox W b x y u v t) (hb : But c W W') (hne : b ≠ c) : HBox W' b x y u v t := h.of_block (hb.block b h.lt hne)
theorem hbox_of_row {W : World} {x : Nat} {a b c d e : Value} {t : TypeId} (h : W.heap[x]? = some (.cells #[a, b, c, d, e] t (0, 0))) : HBox W x a b c d e := by
  have hc : ∀ i : Nat, W.cell? ⟨x, i, none⟩ = (#[a, b, c, d, e] : Array Value)[i]? := fun i => by simp [World.cell?, h]
  have hf : ∀ i : Nat, W.frozen? ⟨x, i, none⟩ = false := fun i => by simp [World.frozen?, h]
  exact ⟨by rw [hc]; rfl, by rw [hc]; rfl, by rw [hc]; rfl, by rw [hc]; rfl, by rw [hc]; rfl, hf 0, hf 1, hf 2, hf 3, hf 4⟩
theorem hbox_new (W : World) (x y u v t : Value) (ty : TypeId) : HBox (W.alloc (.cells #[x, y, u, v, t] ty)) W.heap.size x y u v t :=
  hbox_of_row (t := ty) (by show (W.heap.push _)[W.heap.size]? = _; rw [Array.getElem?_push, if_pos rfl])
/-- The world behind five stores into one block. -/
theorem but5 (W : World) (b : Nat) (x y u v t : Value) : But b W (((((W.setCell ⟨b, 0, none⟩ x).setCell ⟨b, 1, none⟩ y).setCell ⟨b, 2, none⟩ u).setCell ⟨b, 3, none⟩ v).setCell ⟨b, 4, none⟩ t) :=
  ((((((But.refl b W).setCell x).setCell y).setCell u).setCell v).setCell t)
theorem HBox.set5 {W : World} {b : Nat} {x y u v t : Value} (h : HBox W b x y u v t) (x' y' u' v' t' : Value) : HBox (((((W.setCell ⟨b, 0, none⟩ x').setCell ⟨b, 1, none⟩ y').setCell ⟨b, 2, none⟩ u').setCell ⟨b, 3, none⟩ v').setCell ⟨b, 4, none⟩ t') b x' y' u' v' t' := by
  have o : ∀ (X : World) (i j : Nat) (r : Value), i ≠ j → (X.setCell ⟨b, i, none⟩ r).cell? ⟨b, j, none⟩ = X.cell? ⟨b, j, none⟩ := fun X i j r hij => World.cell?_setCell_other _ _ _ _ (by intro g; cases g; exact hij rfl)
  refine ⟨?_, ?_, ?_, ?_, ?_, by simpa using h.z0, by simpa using h.z1, by simpa using h.z2, by simpa using h.z3, by simpa using h.z4⟩
  · rw [o _ 4 0 _ (by decide), o _ 3 0 _ (by decide), o _ 2 0 _ (by decide), o _ 1 0 _ (by decide)]
    exact World.cell?_setCell_same _ _ _ h.c0
  · rw [o _ 4 1 _ (by decide), o _ 3 1 _ (by decide), o _ 2 1 _ (by decide)]
    exact World.cell?_setCell_same _ _ _ ((o _ 0 1 _ (by decide)).trans h.c1)
  · rw [o _ 4 2 _ (by decide), o _ 3 2 _ (by decide)]
    exact World.cell?_setCell_same _ _ _ ((o _ 1 2 _ (by decide)).trans ((o _ 0 2 _ (by decide)).trans h.c2))
  · rw [o _ 4 3 _ (by decide)]
    exact World.cell?_setCell_same _ _ _ ((o _ 2 3 _ (by decide)).trans ((o _ 1 3 _ (by decide)).trans ((o _ 0 3 _ (by decide)).trans h.c3)))
  · exact World.cell?_setCell_same _ _ _ ((o _ 3 4 _ (by decide)).trans ((o _ 2 4 _ (by decide)).trans ((o _ 1 4 _ (by decide)).trans ((o _ 0 4 _ (by decide)).trans h.c4))))

end Go.Proofs.Ytbjlbmofdnkmiaa.Kit

/-
  OWN TEXT. How an argument that is a heap of pages (api.Heap) is opened for the walk, over whatever program.
-/
namespace Go.Proofs.Ytbjlbmofdnkmiaa.Kit
open Go Go.RowKit Go.ChangeShapes Go.WideShapes Go.ChangeAt Go.Joins Go.Deep

theorem sized_elem {H : Type} {P : Program} {t e : TypeId} {elems spare : List (DataW H)} {d : DataW H} (h : Sized P t (.slice elems spare)) (ht : P.underlying t = some (.slice e)) (hd : d ∈ elems) : Sized P e d := by
  have hall : ∀ (l : List (DataW H)), d ∈ l → ∀ n ∈ d.weights P e, n ∈ DataW.weightsAll P e l := by
    intro l
    induction l with
    | nil => intro h; cases h
    | cons x l ih =>
      intro hx n hn
      simp only [DataW.weightsAll, List.mem_append]
      rcases List.mem_cons.1 hx with rfl | hx
      · exact .inl hn
      · exact .inr (ih hx n hn)
  intro n hn
  apply h
  simp only [DataW.weights, ht, List.mem_cons, List.mem_append]
  exact .inr (.inl (hall _ hd n hn))

/-- The numbers of a zone are words. -/
structure Lc.Fits (x : Lc) : Prop where
  c : (Lit.int .i64 x.l.c).wf = true
  z : (Lit.int .i64 x.l.z).wf = true
  t : (Lit.int .i64 x.l.t).wf = true

/-- What the walk is told of a heap that came in. -/
structure IsHeap (w : World) (x : Hx) : Prop where
  at_ : x.At w
  zf : ∀ z ∈ x.zs, ZFits z.z
  lf : ∀ l ∈ x.ls, l.Fits
  vf : ∀ i, i < x.vn → (x.live.getD i .zero).Fits
  cf : (Lit.int .i64 x.cpus).wf = true

theorem add_none {b off j : Nat} : (⟨b, off, none⟩ : Addr).add j = ⟨b, off + j, none⟩ := by unfold Addr.add; split <;> simp_all

section
variable {H : Type} {enc : TypeId × Value → H} {P : Program} {W : World} {fuel : Nat} {v : Value} {y : DataW H × List MemPlace}
theorem open_zones {t e zt bt u i : TypeId} {g0 g1 g2 g3 f0 f1 f2 : Field}
    (ht : P.underlying t = some (.slice zt)) (hb : P.underlying zt = some (.struct #[g0, g1, g2, g3])) (hone : oneCellFields P #[g0, g1, g2, g3] = true) (cb : P.cellsOf zt = 4) (bb : P.bytesOf zt = 64) (t2 : g2.type = bt) (t3 : g3.type = u)
    (hbt : P.underlying bt = some (.slice e)) (he : P.underlying e = some (.struct #[f0, f1, f2])) (ce : P.cellsOf e = 3) (be : P.bytesOf e = 24) (hone2 : oneCellFields P #[f0, f1, f2] = true)
    (u0 : P.underlying f0.type = some (.int .i64)) (u1 : P.underlying f1.type = some (.int .i64)) (u2 : P.underlying f2.type = some (.int .i64))
    (hu : P.underlying u = some (.slice i)) (hi : P.underlying i = some (.int .i64)) (ci : P.cellsOf i = 1) (bi : P.bytesOf i = 8)
    (w0 : P.underlying g0.type = some (.int .i64)) (w1 : P.underlying g1.type = some (.int .i64))
    (hf : DataW.trod enc P W 0 (fun _ => true) true fuel t [v] = some y) (hs : Sized P t y.1) :
    ∃ ao n cap l, v = .slice ao n cap ∧ Zons W ao n l ∧ ∀ x ∈ l, ZFits x.z := by
  rcases open_slice ht hf with ⟨hcs, _⟩ | ⟨a, n, m0, m, fu, D, Pl, hcs, _, hl, hm, hmm, hx, hc⟩
  · simp only [List.cons.injEq, and_true] at hcs
    subst hcs
    exact ⟨none, 0, 0, [], rfl, Zons.nil _, fun _ h => by cases h⟩
  · simp only [List.cons.injEq, and_true] at hcs
    subst hcs
    simp only [if_true] at hmm
    subst hmm
    have hr := hx ▸ hs
    have hr2 := sized_sl hr ht
    rw [bb] at hr2
    simp only [List.length_map, List.length_range, reachBytes] at hr2
    rw [cb] at hc
    obtain ⟨o0, k0⟩ := hone_of hone 0 g0 rfl
    obtain ⟨o1, k1⟩ := hone_of hone 1 g1 rfl
    obtain ⟨o2, k2⟩ := hone_of hone 2 g2 rfl
    obtain ⟨o3, k3⟩ := hone_of hone 3 g3 rfl
    have each : ∀ i, i < n → ∃ r : Zc, r.At W ∧ ZFits r.z ∧ W.cell? (a.add (i * 4)) = some r.q.a ∧ W.cell? (a.add (i * 4 + 1)) = some r.q.b ∧ W.cell? (a.add (i * 4 + 2)) = some r.q.c ∧ W.cell? (a.add (i * 4 + 3)) = some r.q.d := by
      intro i hi
      obtain ⟨cs', h1, h2⟩ := hc i (by omega)
      obtain ⟨_, hlen, hcell⟩ := World.cells?_some h1
      obtain ⟨y0, y1, y2, y3, q, hD, _, q0, q1, q2, q3⟩ := trod_struct4 hb h2
      have hse : Sized P zt (D i) := sized_elem hr ht (by rw [List.mem_map]; exact ⟨i, List.mem_range.2 hi, rfl⟩)
      simp only [Prod.mk.injEq] at hD
      rw [hD.1] at hse
      have s2 : Sized P bt y2.1 := sized_field hse hb (i := 2) (by simp [t2]) rfl
      have s3 : Sized P u y3.1 := sized_field hse hb (i := 3) (by simp [t3]) rfl
      match cs', hlen with
      | [v0, v1, v2, v3], _ =>
        simp [o0, k0] at q0
        simp [o1, k1] at q1
        simp [o2, k2] at q2
        simp [o3, k3] at q3
        rw [t2] at q2
        rw [t3] at q3
        obtain ⟨x0, e0, _, f0w⟩ := DataW.trod_int w0 q0
        obtain ⟨x1, e1, _, f1w⟩ := DataW.trod_int w1 q1
        simp only [List.cons.injEq, and_true] at e0 e1
        subst e0 e1
        obtain ⟨fo, fn, fc, fr, rfl, hF⟩ := open_blks hbt he ce be hone2 u0 u1 u2 q2 s2
        obtain ⟨to_, tn, tc, ty, rfl, hT⟩ := open_ints_in hu ‹_› ci bi q3 s3
        have c0 := hcell 0 (by omega)
        have c1 := hcell 1 (by omega)
        have c2 := hcell 2 (by omega)
        have c3 := hcell 3 (by omega)
        rw [add_add] at c0 c1 c2 c3
        have hz : IsZone W fo fn fc to_ tn tc ⟨x0, x1, fr, ty⟩ := ⟨hF, hT, f0w, f1w⟩
        exact ⟨⟨⟨x0, x1, fr, ty⟩, fo, fn, fc, to_, tn, tc⟩, hz.zn, hz.fits, by simpa [Zc.q] using c0, by simpa [Zc.q] using c1, by simpa [Zc.q] using c2, by simpa [Zc.q] using c3⟩
    have inh : Inhabited Zc := ⟨Zc.zero⟩
    obtain ⟨g, hg⟩ := choose_lt each
    have hget : ∀ i, i < n → (((List.range n).map g).map Zc.q).getD i .zero = (g i).q := by
      intro i hi
      simp [List.getD_eq_getElem?_getD, hi]
    have hmem : ∀ x ∈ (List.range n).map g, ∃ i, i < n ∧ x = g i := by
      intro x hx
      rw [List.mem_map] at hx
      obtain ⟨i, hi, rfl⟩ := hx
      exact ⟨i, List.mem_range.1 hi, rfl⟩
    refine ⟨some a, n, m, (List.range n).map g, rfl, ⟨by simp, by omega, ?_, fun x hx => ?_⟩, fun x hx => ?_⟩
    · intro i hi
      have hi' : i < n := by simpa using hi
      obtain ⟨_, _, d0, d1, d2, d3⟩ := hg i hi'
      obtain ⟨b, off, spot⟩ := a
      have hspot : spot = none := by
        have := World.cell?_spot (hg 0 (by omega)).2.2.1
        simpa [Addr.add] using this
      subst hspot
      rw [add_none] at d0 d1 d2 d3
      rw [hget i hi']
      exact ⟨b, off, rfl, d0, by rw [Nat.add_assoc]; exact d1, by rw [Nat.add_assoc]; exact d2, by rw [Nat.add_assoc]; exact d3⟩
    · obtain ⟨i, hi, rfl⟩ := hmem x hx
      exact (hg i hi).1
    · obtain ⟨i, hi, rfl⟩ := hmem x hx
      exact (hg i hi).2.1

theorem open_lists {t lt u i : TypeId} {g0 g1 g2 g3 : Field}
    (ht : P.underlying t = some (.slice lt)) (hb : P.underlying lt = some (.struct #[g0, g1, g2, g3])) (hone : oneCellFields P #[g0, g1, g2, g3] = true) (cb : P.cellsOf lt = 4) (bb : P.bytesOf lt = 48) (t3 : g3.type = u)
    (hu : P.underlying u = some (.slice i)) (hi : P.underlying i = some (.int .i64)) (ci : P.cellsOf i = 1) (bi : P.bytesOf i = 8)
    (w0 : P.underlying g0.type = some (.int .i64)) (w1 : P.underlying g1.type = some (.int .i64)) (w2 : P.underlying g2.type = some (.int .i64))
    (hf : DataW.trod enc P W 0 (fun _ => true) true fuel t [v] = some y) (hs : Sized P t y.1) :
    ∃ ao n cap l, v = .slice ao n cap ∧ Lsts W ao n l ∧ ∀ x ∈ l, x.Fits := by
  rcases open_slice ht hf with ⟨hcs, _⟩ | ⟨a, n, m0, m, fu, D, Pl, hcs, _, hl, hm, hmm, hx, hc⟩
  · simp only [List.cons.injEq, and_true] at hcs
    subst hcs
    exact ⟨none, 0, 0, [], rfl, Lsts.nil _, fun _ h => by cases h⟩
  · simp only [List.cons.injEq, and_true] at hcs
    subst hcs
    simp only [if_true] at hmm
    subst hmm
    have hr := hx ▸ hs
    have hr2 := sized_sl hr ht
    rw [bb] at hr2
    simp only [List.length_map, List.length_range, reachBytes] at hr2
    rw [cb] at hc
    obtain ⟨o0, k0⟩ := hone_of hone 0 g0 rfl
    obtain ⟨o1, k1⟩ := hone_of hone 1 g1 rfl
    obtain ⟨o2, k2⟩ := hone_of hone 2 g2 rfl
    obtain ⟨o3, k3⟩ := hone_of hone 3 g3 rfl
    have each : ∀ i, i < n → ∃ r : Lc, r.At W ∧ r.Fits ∧ W.cell? (a.add (i * 4)) = some r.q.a ∧ W.cell? (a.add (i * 4 + 1)) = some r.q.b ∧ W.cell? (a.add (i * 4 + 2)) = some r.q.c ∧ W.cell? (a.add (i * 4 + 3)) = some r.q.d := by
      intro i hi
      obtain ⟨cs', h1, h2⟩ := hc i (by omega)
      obtain ⟨_, hlen, hcell⟩ := World.cells?_some h1
      obtain ⟨y0, y1, y2, y3, q, hD, _, q0, q1, q2, q3⟩ := trod_struct4 hb h2
      have hse : Sized P lt (D i) := sized_elem hr ht (by rw [List.mem_map]; exact ⟨i, List.mem_range.2 hi, rfl⟩)
      simp only [Prod.mk.injEq] at hD
      rw [hD.1] at hse
      have s3 : Sized P u y3.1 := sized_field hse hb (i := 3) (by simp [t3]) rfl
      match cs', hlen with
      | [v0, v1, v2, v3], _ =>
        simp [o0, k0] at q0
        simp [o1, k1] at q1
        simp [o2, k2] at q2
        simp [o3, k3] at q3
        rw [t3] at q3
        obtain ⟨x0, e0, _, f0w⟩ := DataW.trod_int w0 q0
        obtain ⟨x1, e1, _, f1w⟩ := DataW.trod_int w1 q1
        obtain ⟨x2, e2, _, f2w⟩ := DataW.trod_int w2 q2
        simp only [List.cons.injEq, and_true] at e0 e1 e2
        subst e0 e1 e2
        obtain ⟨to_, tn, tc, ty, rfl, hT⟩ := open_ints_in hu ‹_› ci bi q3 s3
        have c0 := hcell 0 (by omega)
        have c1 := hcell 1 (by omega)
        have c2 := hcell 2 (by omega)
        have c3 := hcell 3 (by omega)
        rw [add_add] at c0 c1 c2 c3
        exact ⟨⟨⟨x0, x1, x2, ty⟩, to_, tn, tc⟩, ⟨hT.len, by have := hT.reach; have := hT.le; show tn * 8 ≤ _; omega, hT.at_⟩, ⟨f0w, f1w, f2w⟩, by simpa [Lc.q] using c0, by simpa [Lc.q] using c1, by simpa [Lc.q] using c2, by simpa [Lc.q] using c3⟩
    have inh : Inhabited Lc := ⟨Lc.zero⟩
    obtain ⟨g, hg⟩ := choose_lt each
    have hget : ∀ i, i < n → (((List.range n).map g).map Lc.q).getD i .zero = (g i).q := by
      intro i hi
      simp [List.getD_eq_getElem?_getD, hi]
    have hmem : ∀ x ∈ (List.range n).map g, ∃ i, i < n ∧ x = g i := by
      intro x hx
      rw [List.mem_map] at hx
      obtain ⟨i, hi, rfl⟩ := hx
      exact ⟨i, List.mem_range.1 hi, rfl⟩
    refine ⟨some a, n, m, (List.range n).map g, rfl, ⟨by simp, by omega, ?_, fun x hx => ?_⟩, fun x hx => ?_⟩
    · intro i hi
      have hi' : i < n := by simpa using hi
      obtain ⟨_, _, d0, d1, d2, d3⟩ := hg i hi'
      obtain ⟨b, off, spot⟩ := a
      have hspot : spot = none := by
        have := World.cell?_spot (hg 0 (by omega)).2.2.1
        simpa [Addr.add] using this
      subst hspot
      rw [add_none] at d0 d1 d2 d3
      rw [hget i hi']
      exact ⟨b, off, rfl, d0, by rw [Nat.add_assoc]; exact d1, by rw [Nat.add_assoc]; exact d2, by rw [Nat.add_assoc]; exact d3⟩
    · obtain ⟨i, hi, rfl⟩ := hmem x hx
      exact (hg i hi).1
    · obtain ⟨i, hi, rfl⟩ := hmem x hx
      exact (hg i hi).2.1
end

theorem array5 {α : Type} {cs : Array α} (h : cs.size = 5) : ∃ c0 c1 c2 c3 c4, cs = #[c0, c1, c2, c3, c4] := by
  obtain ⟨l⟩ := cs
  match l, h with
  | [c0, c1, c2, c3, c4], _ => exact ⟨c0, c1, c2, c3, c4, rfl⟩

theorem open_agg5 {H : Type} {enc : TypeId × Value → H} {P : Program} {W : World} {base : Nat} {t : TypeId} {f0 f1 f2 f3 f4 : Field} {v : Value} {d : DataW H} {p : List MemPlace}
    (hs : P.underlying t = some (.struct #[f0, f1, f2, f3, f4])) (hone : oneCellFields P #[f0, f1, f2, f3, f4] = true) (hC : P.cellsOf t = 5)
    (hv : Value.okWide P W .any base t v) (h : DataW.Trod enc P W 0 (fun _ => true) true t v d p) :
    ∃ (v0 v1 v2 v3 v4 : Value) (y0 y1 y2 y3 y4 : DataW H × List MemPlace) (n : Nat), v = .agg #[v0, v1, v2, v3, v4] ∧ d = .agg [y0.1, y1.1, y2.1, y3.1, y4.1] ∧
      DataW.trod enc P W 0 (fun _ => true) true n f0.type [v0] = some y0 ∧ DataW.trod enc P W 0 (fun _ => true) true n f1.type [v1] = some y1 ∧ DataW.trod enc P W 0 (fun _ => true) true n f2.type [v2] = some y2 ∧ DataW.trod enc P W 0 (fun _ => true) true n f3.type [v3] = some y3 ∧ DataW.trod enc P W 0 (fun _ => true) true n f4.type [v4] = some y4 := by
  obtain ⟨cs, rfl, hsz⟩ := okWide_struct hs hv
  obtain ⟨c0, c1, c2, c3, c4, rfl⟩ := array5 (hsz.trans hC)
  obtain ⟨fuel, hf⟩ := h
  obtain ⟨xs, n, _, hD, hl, hlen, hx⟩ := DataW.trod_struct hs hf
  simp only [Prod.mk.injEq] at hD
  obtain ⟨o0, k0⟩ := hone_of hone 0 f0 rfl
  obtain ⟨o1, k1⟩ := hone_of hone 1 f1 rfl
  obtain ⟨o2, k2⟩ := hone_of hone 2 f2 rfl
  obtain ⟨o3, k3⟩ := hone_of hone 3 f3 rfl
  obtain ⟨o4, k4⟩ := hone_of hone 4 f4 rfl
  match xs, hlen with
  | [y0, y1, y2, y3, y4], _ =>
    have h0 := hx 0 f0 rfl
    have h1 := hx 1 f1 rfl
    have h2 := hx 2 f2 rfl
    have h3 := hx 3 f3 rfl
    have h4 := hx 4 f4 rfl
    exact ⟨c0, c1, c2, c3, c4, y0, y1, y2, y3, y4, n, rfl, by simpa using hD.1, by simpa [Value.cells, o0, k0] using h0, by simpa [Value.cells, o1, k1] using h1, by simpa [Value.cells, o2, k2] using h2, by simpa [Value.cells, o3, k3] using h3, by simpa [Value.cells, o4, k4] using h4⟩

/-- The closed facts on the types that a heap is made of. -/
structure HeapTypes (P : Program) (ht zst zt bst bt ist it lst lt : TypeId) : Prop where
  heap : ∃ f0 f1 f2 f3 f4 : Field, P.underlying ht = some (.struct #[f0, f1, f2, f3, f4]) ∧ oneCellFields P #[f0, f1, f2, f3, f4] = true ∧ f0.type = zst ∧ f1.type = ist ∧ f2.type = it ∧ f3.type = lst ∧ f4.type = bst
  hc : P.cellsOf ht = 5
  zones : P.underlying zst = some (.slice zt)
  zone : ∃ f0 f1 f2 f3 : Field, P.underlying zt = some (.struct #[f0, f1, f2, f3]) ∧ oneCellFields P #[f0, f1, f2, f3] = true ∧ f0.type = it ∧ f1.type = it ∧ f2.type = bst ∧ f3.type = ist
  zcell : P.cellsOf zt = 4
  zbytes : P.bytesOf zt = 64
  blocks : P.underlying bst = some (.slice bt)
  block : ∃ f0 f1 f2 : Field, P.underlying bt = some (.struct #[f0, f1, f2]) ∧ oneCellFields P #[f0, f1, f2] = true ∧ f0.type = it ∧ f1.type = it ∧ f2.type = it
  bcell : P.cellsOf bt = 3
  bbytes : P.bytesOf bt = 24
  ints : P.underlying ist = some (.slice it)
  int : P.underlying it = some (.int .i64)
  icell : P.cellsOf it = 1
  ibytes : P.bytesOf it = 8
  lists : P.underlying lst = some (.slice lt)
  list : ∃ f0 f1 f2 f3 : Field, P.underlying lt = some (.struct #[f0, f1, f2, f3]) ∧ oneCellFields P #[f0, f1, f2, f3] = true ∧ f0.type = it ∧ f1.type = it ∧ f2.type = it ∧ f3.type = ist
  lcell : P.cellsOf lt = 4
  lbytes : P.bytesOf lt = 48

theorem open_heap_in {H : Type} {enc : TypeId × Value → H} {P : Program} {W : World} {ht zst zt bst bt ist it lst lt : TypeId} (T : HeapTypes P ht zst zt bst bt ist it lst lt) {n : Nat} {v0 v1 v2 v3 v4 : Value} {y0 y1 y2 y3 y4 : DataW H × List MemPlace}
    (h0 : DataW.trod enc P W 0 (fun _ => true) true n zst [v0] = some y0) (h1 : DataW.trod enc P W 0 (fun _ => true) true n ist [v1] = some y1) (h2 : DataW.trod enc P W 0 (fun _ => true) true n it [v2] = some y2) (h3 : DataW.trod enc P W 0 (fun _ => true) true n lst [v3] = some y3) (h4 : DataW.trod enc P W 0 (fun _ => true) true n bst [v4] = some y4)
    (s0 : Sized P zst y0.1) (s1 : Sized P ist y1.1) (s3 : Sized P lst y3.1) (s4 : Sized P bst y4.1) :
    ∃ x : Hx, v0 = .slice x.zo x.zn x.zc ∧ v1 = .slice x.mo x.mn x.mc ∧ v2 = .int .i64 x.cpus ∧ v3 = .slice x.lo x.ln x.lc ∧ v4 = .slice x.vo x.vn x.vc ∧ IsHeap W x := by
  obtain ⟨g0, g1, g2, g3, a1, a2, a3, a4, a5, a6⟩ := T.zone
  obtain ⟨b0, b1, b2, c1, c2, c3, c4, c5⟩ := T.block
  obtain ⟨l0, l1, l2, l3, d1, d2, d3, d4, d5, d6⟩ := T.list
  obtain ⟨zo, zn, zc, zs, rfl, hZ, hZf⟩ := open_zones T.zones a1 a2 T.zcell T.zbytes a5 a6 T.blocks c1 T.bcell T.bbytes c2 (by rw [c3]; exact T.int) (by rw [c4]; exact T.int) (by rw [c5]; exact T.int) T.ints T.int T.icell T.ibytes (by rw [a3]; exact T.int) (by rw [a4]; exact T.int) h0 s0
  obtain ⟨mo, mn, mc, ms, rfl, hM⟩ := open_ints_in T.ints T.int T.icell T.ibytes h1 s1
  obtain ⟨cp, e2, _, hc⟩ := DataW.trod_int T.int h2
  simp only [List.cons.injEq, and_true] at e2
  subst e2
  obtain ⟨lo, ln, lc, ls, rfl, hL, hLf⟩ := open_lists T.lists d1 d2 T.lcell T.lbytes d6 T.ints T.int T.icell T.ibytes (by rw [d3]; exact T.int) (by rw [d4]; exact T.int) (by rw [d5]; exact T.int) h3 s3
  obtain ⟨vo, vn, vc, vs, rfl, hV⟩ := open_blks T.blocks c1 T.bcell T.bbytes c2 (by rw [c3]; exact T.int) (by rw [c4]; exact T.int) (by rw [c5]; exact T.int) h4 s4
  exact ⟨⟨zs, zo, zn, zc, ms, mo, mn, mc, cp, ls, lo, ln, lc, vs, vo, vn, vc⟩, rfl, rfl, rfl, rfl, rfl, ⟨⟨hZ, ⟨hM.len, by have := hM.reach; have := hM.le; show mn * 8 ≤ _; omega, hM.at_⟩, hL, ⟨hV.len, by have := hV.reach; have := hV.le; show vn * 24 ≤ _; omega, hV.at_⟩⟩, hZf, hLf, hV.wf, hc⟩⟩

theorem open_heap_arg {H : Type} {enc : TypeId × Value → H} {P : Program} {W : World} {base : Nat} {ht zst zt bst bt ist it lst lt : TypeId} (T : HeapTypes P ht zst zt bst bt ist it lst lt) {v : Value} {d : DataW H} {p : List MemPlace}
    (hv : Value.okWide P W .any base ht v) (h : DataW.Trod enc P W 0 (fun _ => true) true ht v d p) (hs : Sized P ht d) :
    ∃ x : Hx, v = .agg #[.slice x.zo x.zn x.zc, .slice x.mo x.mn x.mc, .int .i64 x.cpus, .slice x.lo x.ln x.lc, .slice x.vo x.vn x.vc] ∧ IsHeap W x := by
  obtain ⟨f0, f1, f2, f3, f4, a1, a2, a3, a4, a5, a6, a7⟩ := T.heap
  obtain ⟨v0, v1, v2, v3, v4, y0, y1, y2, y3, y4, n, rfl, rfl, h0, h1, h2, h3, h4⟩ := open_agg5 a1 a2 T.hc hv h
  have s0 : Sized P zst y0.1 := sized_field hs a1 (i := 0) (by simp [a3]) rfl
  have s1 : Sized P ist y1.1 := sized_field hs a1 (i := 1) (by simp [a4]) rfl
  have s3 : Sized P lst y3.1 := sized_field hs a1 (i := 3) (by simp [a6]) rfl
  have s4 : Sized P bst y4.1 := sized_field hs a1 (i := 4) (by simp [a7]) rfl
  rw [a3] at h0
  rw [a4] at h1
  rw [a5] at h2
  rw [a6] at h3
  rw [a7] at h4
  obtain ⟨x, rfl, rfl, rfl, rfl, rfl, hx⟩ := open_heap_in T h0 h1 h2 h3 h4 s0 s1 s3 s4
  exact ⟨x, rfl, hx⟩

end Go.Proofs.Ytbjlbmofdnkmiaa.Kit

/-
  OWN TEXT. Closed facts on the types of a heap.
-/
namespace Go.Proofs.Ytbjlbmofdnkmiaa
open Go Go.RowKit Go.Proofs.Ytbjlbmofdnkmiaa.Kit

theorem info_zone : (Try.prog.info? 44).map (fun i => (i.zero, i.size, i.bytes)) = some (some (.agg #[.int .i64 0, .int .i64 0, .slice none 0 0, .slice none 0 0]), 4, 64) := by kernel_rfl
theorem info_list : (Try.prog.info? 57).map (fun i => (i.zero, i.size, i.bytes)) = some (some (.agg #[.int .i64 0, .int .i64 0, .int .i64 0, .slice none 0 0]), 4, 48) := by kernel_rfl
theorem size_zone : (Try.prog.info? 44).map (·.size) = some 4 := by kernel_rfl
theorem size_list : (Try.prog.info? 57).map (·.size) = some 4 := by kernel_rfl

theorem heapTypes : HeapTypes Try.prog 28 23 44 26 63 24 3 25 57 where
  heap := ⟨_, _, _, _, _, Try.underlying28, by kernel_rfl, rfl, rfl, rfl, rfl, rfl⟩
  hc := by kernel_rfl
  zones := Try.underlying23
  zone := ⟨_, _, _, _, Try.underlying44, by kernel_rfl, rfl, rfl, rfl, rfl⟩
  zcell := by kernel_rfl
  zbytes := by kernel_rfl
  blocks := Try.underlying26
  block := ⟨_, _, _, Try.underlying63, by kernel_rfl, rfl, rfl, rfl⟩
  bcell := by kernel_rfl
  bbytes := by kernel_rfl
  ints := Try.underlying24
  int := Try.underlying3
  icell := by kernel_rfl
  ibytes := by kernel_rfl
  lists := Try.underlying25
  list := ⟨_, _, _, _, Try.underlying57, by kernel_rfl, rfl, rfl, rfl, rfl⟩
  lcell := by kernel_rfl
  lbytes := by kernel_rfl

end Go.Proofs.Ytbjlbmofdnkmiaa

/-
  OWN TEXT. Zones that may be, as plain mathematics.
-/
namespace Go.Proofs.Ytbjlbmofdnkmiaa.Kit

/-- A power of two. -/
def pw (n : Int) : Int := ((2 ^ n.toNat : Nat) : Int)
theorem pw_0 : pw 0 = 1 := rfl
theorem pw_1 : pw 1 = 2 := rfl
theorem pw_2 : pw 2 = 4 := rfl
theorem pw_3 : pw 3 = 8 := rfl
theorem pw_4 : pw 4 = 16 := rfl
theorem pw_nat (n : Nat) : pw (n : Int) = ((2 ^ n : Nat) : Int) := rfl
theorem pw_pos (n : Int) : 1 ≤ pw n := by
  unfold pw
  have := Nat.two_pow_pos n.toNat
  omega
/-- An order from 0 to 4. -/
def ordOk (o : Int) : Prop := 0 ≤ o ∧ o ≤ 4
theorem ord_cases {o : Int} (h : ordOk o) : (o = 0 ∧ pw o = 1) ∨ (o = 1 ∧ pw o = 2) ∨ (o = 2 ∧ pw o = 4) ∨ (o = 3 ∧ pw o = 8) ∨ (o = 4 ∧ pw o = 16) := by
  obtain ⟨h1, h2⟩ := h
  rcases (show o = 0 ∨ o = 1 ∨ o = 2 ∨ o = 3 ∨ o = 4 by omega) with rfl | rfl | rfl | rfl | rfl
  · exact Or.inl ⟨rfl, rfl⟩
  · exact Or.inr (Or.inl ⟨rfl, rfl⟩)
  · exact Or.inr (Or.inr (Or.inl ⟨rfl, rfl⟩))
  · exact Or.inr (Or.inr (Or.inr (Or.inl ⟨rfl, rfl⟩)))
  · exact Or.inr (Or.inr (Or.inr (Or.inr ⟨rfl, rfl⟩)))
theorem pw_le {o : Int} (h : ordOk o) : pw o ≤ 16 := by rcases ord_cases h with ⟨_, e⟩ | ⟨_, e⟩ | ⟨_, e⟩ | ⟨_, e⟩ | ⟨_, e⟩ <;> omega

/-- A block may be in a zone. -/
def blkIn (f t a o : Int) : Prop := ordOk o ∧ f ≤ a ∧ a ≤ t - 1 ∧ a % pw o = 0
/-- May a block be in the zone, decided. -/
def blkB (f t a o : Int) : Bool := inB o 0 4 && (inB a f (t - 1) && decide (a % pw o = 0))
theorem blkB_iff (f t a o : Int) : blkB f t a o = true ↔ blkIn f t a o := by
  unfold blkB blkIn ordOk
  simp only [Bool.and_eq_true, inB, decide_eq_true_eq]
  constructor
  · rintro ⟨h1, h2, h3⟩; exact ⟨h1, h2.1, h2.2, h3⟩
  · rintro ⟨h1, h2, h3, h4⟩; exact ⟨h1, ⟨h2, h3⟩, h4⟩

def typeOk (x : Int) : Prop := 0 ≤ x ∧ x ≤ 2
/-- Two blocks, the first one lower, are beside each other. -/
def besideP (p b : Bk) : Prop := b.o < 4 ∧ p.o = b.o ∧ p.a + pw b.o = b.a ∧ p.a % pw (b.o + 1) = 0

/-- Free blocks that may be, from lo on, behind pv. -/
def FreeOk (f t : Int) : Int → Option Bk → List Bk → Prop
  | _, _, [] => True
  | lo, pv, b :: l => blkIn f t b.a b.o ∧ typeOk b.t ∧ lo ≤ b.a ∧ (∀ p, pv = some p → ¬ besideP p b) ∧ FreeOk f t (b.a + pw b.o) (some b) l

/-- The last one, or what was before. -/
def lastOf : Option Bk → List Bk → Option Bk
  | pv, [] => pv
  | _, b :: l => lastOf (some b) l
/-- Where the next one may begin. -/
def lowOf : Int → List Bk → Int
  | lo, [] => lo
  | _, b :: l => lowOf (b.a + pw b.o) l

theorem lastOf_snoc (pv : Option Bk) (l : List Bk) (b : Bk) : lastOf pv (l ++ [b]) = some b := by
  induction l generalizing pv with
  | nil => rfl
  | cons a l ih => exact ih _
theorem lowOf_snoc (lo : Int) (l : List Bk) (b : Bk) : lowOf lo (l ++ [b]) = b.a + pw b.o := by
  induction l generalizing lo with
  | nil => rfl
  | cons a l ih => exact ih _

theorem freeOk_snoc (f t lo : Int) (pv : Option Bk) (l : List Bk) (b : Bk) : FreeOk f t lo pv (l ++ [b]) ↔ FreeOk f t lo pv l ∧ blkIn f t b.a b.o ∧ typeOk b.t ∧ lowOf lo l ≤ b.a ∧ ∀ p, lastOf pv l = some p → ¬ besideP p b := by
  induction l generalizing lo pv with
  | nil => simp [FreeOk, lowOf, lastOf]
  | cons a l ih =>
    show _ ∧ _ ∧ _ ∧ _ ∧ FreeOk f t (a.a + pw a.o) (some a) (l ++ [b]) ↔ (_ ∧ _ ∧ _ ∧ _ ∧ FreeOk f t (a.a + pw a.o) (some a) l) ∧ _ ∧ _ ∧ lowOf (a.a + pw a.o) l ≤ b.a ∧ ∀ p, lastOf (some a) l = some p → ¬ besideP p b
    rw [ih]
    constructor
    · rintro ⟨h1, h2, h3, h4, h5, h6⟩; exact ⟨⟨h1, h2, h3, h4, h5⟩, h6⟩
    · rintro ⟨⟨h1, h2, h3, h4, h5⟩, h6⟩; exact ⟨h1, h2, h3, h4, h5, h6⟩

theorem freeOk_left {f t lo : Int} {pv : Option Bk} {l m : List Bk} (h : FreeOk f t lo pv (l ++ m)) : FreeOk f t lo pv l := by
  induction l generalizing lo pv with
  | nil => trivial
  | cons a l ih => exact ⟨h.1, h.2.1, h.2.2.1, h.2.2.2.1, ih h.2.2.2.2⟩

/-- P3.1. -/
def newOk (f t : Int) : Prop := 0 ≤ f ∧ f ≤ t ∧ t ≤ 256 ∧ f % 16 = 0 ∧ t % 16 = 0

/-- A zone that may be. -/
structure ZMay (z : Zn) : Prop where
  new : newOk z.f z.t
  len : 8 * (z.types.length : Int) = z.t - z.f
  ty : ∀ i, i < z.types.length → typeOk (z.types.getD i 0)
  free : FreeOk z.f z.t z.f none z.free

/-- The types of a new zone. -/
def newTypes (f t : Int) : List Int := List.replicate ((t - f) / 8).toNat 1
def newZ (f t : Int) : Zn := ⟨f, t, [], newTypes f t⟩

/-- Pages in free blocks. -/
def freeN : List Bk → Int
  | [] => 0
  | b :: l => pw b.o + freeN l
theorem freeN_snoc (l : List Bk) (b : Bk) : freeN (l ++ [b]) = freeN l + pw b.o := by
  induction l with
  | nil => simp [freeN]
  | cons a l ih => simp only [List.cons_append, freeN, ih]; omega

/-- Free blocks hold no more pages than there are. -/
theorem freeN_le {f t lo : Int} {pv : Option Bk} {l : List Bk} (h : FreeOk f t lo pv l) (ht : t % 16 = 0) (hlo : lo ≤ t) : 0 ≤ freeN l ∧ freeN l ≤ t - lo := by
  induction l generalizing lo pv with
  | nil => simp only [freeN]; omega
  | cons a l ih =>
    obtain ⟨⟨h1, h2, h3, h4⟩, _, h6, _, h7⟩ := h
    have hle : a.a + pw a.o ≤ t := by
      rcases ord_cases h1 with ⟨_, e⟩ | ⟨_, e⟩ | ⟨_, e⟩ | ⟨_, e⟩ | ⟨_, e⟩ <;> rw [e] at h4 ⊢ <;> omega
    have := ih h7 hle
    have := pw_pos a.o
    simp only [freeN]
    omega

theorem freeOk_count {f t lo : Int} {pv : Option Bk} {l : List Bk} (h : FreeOk f t lo pv l) (ht : t % 16 = 0) (hlo : lo ≤ t) : (l.length : Int) ≤ t - lo := by
  have h1 := (freeN_le h ht hlo).2
  have h2 : (l.length : Int) ≤ freeN l := by
    clear h h1
    induction l with
    | nil => simp [freeN]
    | cons a l ih => simp only [freeN, List.length_cons]; have := pw_pos a.o; omega
  omega

theorem freeOk_at {f t lo : Int} {pv : Option Bk} {l : List Bk} (h : FreeOk f t lo pv l) {k : Nat} (hk : k < l.length) {b : Bk} (hb : l.getD k .zero = b) :
    blkIn f t b.a b.o ∧ typeOk b.t ∧ lowOf lo (l.take k) ≤ b.a ∧ ∀ p, lastOf pv (l.take k) = some p → ¬ besideP p b := by
  have h1 : FreeOk f t lo pv (l.take (k + 1)) := by rw [← List.take_append_drop (k + 1) l] at h; exact freeOk_left h
  rw [take_getD l k hk hb, freeOk_snoc] at h1
  exact h1.2

end Go.Proofs.Ytbjlbmofdnkmiaa.Kit
