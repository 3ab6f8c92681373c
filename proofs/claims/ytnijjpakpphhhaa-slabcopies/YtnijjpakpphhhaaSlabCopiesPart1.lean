/-
  OWN TEXTS, bundled: Kit, Args, Sized, RKit, RPure, MKit.
-/
import Derived.WalkKit
import Derived.WalkSmall
import Derived.BigQuiet
import Derived.Deep.QuietTactic
import Derived.Laws.CopyOwn
import Derived.Laws.AppendOwnNone
import Derived.ProofKit
import Derived.OpenShut
import Derived.ShutString
import Derived.ChangeOld
import Derived.SizedLaws
import Derived.Lib.SmallJoins
import Derived.Deep.SlicePairs

/-
  OWN TEXT. Small laws over whatever program: a slice of integers that can be read in a world ('IntsAt'), one that the call owns ('ownsRow' over integers), and how both stand under 'Below'.
-/
namespace Go.Proofs.Ytnijjpakpphhhaa.Kit
open Go Go.RowKit

/-- The numbers as cells. (A name of its own: the walk's simp leaves it standing.) -/
def vals (xs : List Int) : List Value := xs.map (Value.int .i64)
theorem length_vals (xs : List Int) : (vals xs).length = xs.length := by simp [vals]
theorem vals_oneCell (xs : List Int) : ∀ u ∈ vals xs, u.oneCell' = true := ints_oneCell _ _
theorem vals_append (xs ys : List Int) : vals (xs ++ ys) = vals xs ++ vals ys := by simp [vals]
theorem vals_get (xs : List Int) (i : Nat) : (vals xs)[i]? = xs[i]?.map (Value.int .i64) := by simp [vals]
theorem vals_set (xs : List Int) (i : Nat) (x : Int) : (vals xs).set i (.int .i64 x) = vals (xs.set i x) := by simp [vals]

/-- The cells from 'ao' on hold the numbers 'xs' (where there are none, nothing is asked of the address). -/
def IntsAt (w : World) (ao : Option Addr) (xs : List Int) : Prop :=
  ∀ i, i < xs.length → ∃ b off, ao = some ⟨b, off, none⟩ ∧ w.cell? ⟨b, off + i, none⟩ = some (.int .i64 (xs.getD i 0))

theorem IntsAt.below {w w' : World} {ao : Option Addr} {xs : List Int} (h : IntsAt w ao xs) (hb : Below w.heap.size w w') : IntsAt w' ao xs := by
  intro i hi
  obtain ⟨b, off, ha, hc⟩ := h i hi
  exact ⟨b, off, ha, (hb.cell (p := ⟨b, off + i, none⟩) (World.block_lt_of_cell? w _ hc)).trans hc⟩

theorem IntsAt.nil (w : World) (ao : Option Addr) : IntsAt w ao [] := fun i hi => absurd hi (by simp)

/-- What is owned can be read. -/
theorem ints_of_owns {w : World} {base : Nat} {e : TypeId} {ao : Option Addr} {n cap : Nat} {xs : List Int}
    (h : w.ownsRow base e 1 (.slice ao n cap) n (vals xs)) : IntsAt w ao xs := by
  intro i hi
  have hl := h.1
  rcases h.2 with ⟨h', h0⟩ | ⟨g, cap', cur, h', _, hg, _, _, _, htake⟩
  · simp [length_vals] at hl
    omega
  · simp only [Value.slice.injEq] at h'
    obtain ⟨rfl, _, rfl⟩ := h'
    refine ⟨g, 0, rfl, ?_⟩
    have hc := h.cellAt i (by simp [length_vals] at hl; omega)
    simp only [Nat.zero_add]
    rw [hc, vals_get, List.getD_eq_getElem?_getD]
    simp [hi]

theorem owns_len {w : World} {base : Nat} {e : TypeId} {v : Value} {n : Nat} {xs : List Int}
    (h : w.ownsRow base e 1 v n (vals xs)) : xs.length = n := by simpa [length_vals] using h.1

/-- The shape of an owned value. -/
theorem owns_shape {w : World} {base : Nat} {e : TypeId} {size : Nat} {v : Value} {n : Nat} {xs : List Value} (h : w.ownsRow base e size v n xs) : ∃ ao cap, v = .slice ao n cap := by
  rcases h.2 with ⟨rfl, rfl⟩ | ⟨g, cap, cur, rfl, _⟩
  · exact ⟨none, 0, rfl⟩
  · exact ⟨some ⟨g, 0, none⟩, cap, rfl⟩

theorem owns_cap {w : World} {base : Nat} {e : TypeId} {size : Nat} {ao : Option Addr} {n cap : Nat} {xs : List Value} (h : w.ownsRow base e size (.slice ao n cap) n xs) : n ≤ cap := by
  rcases h.2 with ⟨h', h0⟩ | ⟨g, cap', cur, h', hb, hg, hc, _⟩
  · omega
  · simp only [Value.slice.injEq] at h'
    omega

/-- An owned row with an element has a head. -/
theorem owns_head {w : World} {base : Nat} {e : TypeId} {ao : Option Addr} {n cap : Nat} {size : Nat} {xs : List Value} (h : w.ownsRow base e size (.slice ao n cap) n xs) (hn : 0 < n) : ∃ g, ao = some ⟨g, 0, none⟩ ∧ base ≤ g ∧ g < w.heap.size := by
  rcases h.2 with ⟨h', h0⟩ | ⟨g, cap', cur, h', hb, hg, _⟩
  · omega
  · simp only [Value.slice.injEq] at h'
    exact ⟨g, h'.1, hb, (Array.getElem?_eq_some_iff.1 hg).1⟩

theorem owns_below {w w' : World} {B base : Nat} {e : TypeId} {size : Nat} {v : Value} {n : Nat} {xs : List Value} (h : w.ownsRow base e size v n xs) (hb : Below B w w') (hB : w.heap.size ≤ B) : w'.ownsRow base e size v n xs := by
  refine ⟨h.1, ?_⟩
  rcases h.2 with hn | ⟨g, cap, cur, rfl, hbg, hg, rest⟩
  · exact .inl hn
  · refine .inr ⟨g, cap, cur, rfl, hbg, ?_, rest⟩
    have hlt := (Array.getElem?_eq_some_iff.1 hg).1
    rw [hb.block g (by omega)]
    exact hg

theorem owns_weaken {w : World} {base base' : Nat} {e : TypeId} {size : Nat} {v : Value} {n : Nat} {xs : List Value} (h : w.ownsRow base e size v n xs) (hb : base' ≤ base) : w.ownsRow base' e size v n xs := by
  refine ⟨h.1, ?_⟩
  rcases h.2 with hn | ⟨g, cap, cur, rfl, hbg, rest⟩
  · exact .inl hn
  · exact .inr ⟨g, cap, cur, rfl, by omega, rest⟩

/-- The one cell of a block that has just been laid. -/
theorem cell_one_new' (w : World) (a : Value) (t : TypeId) : ∀ j u, [a][j]? = some u → (w.alloc (.cells #[a] t)).cell? ((⟨w.heap.size, 0, none⟩ : Addr).add j) = some u := by
  intro j u hj
  match j, hj with
  | 0, hj => simp at hj; subst hj; simp [Addr.add]
  | j + 1, hj => simp at hj

/-- A row that is full to its capacity is the block. -/
theorem owns_full {w : World} {base : Nat} {e : TypeId} {g n : Nat} {xs : List Value} (h : w.ownsRow base e 1 (.slice (some ⟨g, 0, none⟩) n n) n xs) : w.heap[g]? = some (.cells xs.toArray e (0, 0)) := by
  rcases h.2 with ⟨h', _⟩ | ⟨g', cap', cur, h', _, hg, _, _, hsz, htake⟩
  · cases h'
  · simp only [Value.slice.injEq, Option.some.injEq, Addr.mk.injEq, true_and, and_true] at h'
    obtain ⟨rfl, rfl⟩ := h'
    rw [List.take_of_length_le (by simp; omega)] at htake
    rw [← htake]
    simpa using hg

theorem owns_of_heap {w : World} {base : Nat} {e : TypeId} {g n : Nat} {xs : List Value} (h : w.heap[g]? = some (.cells xs.toArray e (0, 0))) (hb : base ≤ g) (hl : xs.length = n) (hm : n ≤ maxLen) :
    w.ownsRow base e 1 (.slice (some ⟨g, 0, none⟩) n n) n xs :=
  ⟨by simpa using hl, .inr ⟨g, n, _, rfl, hb, h, Nat.le_refl _, hm, by simpa using hl, by simpa using List.take_of_length_le (by omega)⟩⟩

theorem splice_all {α : Type} {L cs : List α} (h : L.length = cs.length) : splice L 0 cs = cs := by
  unfold splice
  rw [List.drop_eq_nil_of_le (by omega)]
  simp

/-- The cells of a slice of numbers, as a copy or an append asks for its source. -/
theorem src_of {w : World} {ao : Option Addr} {xs : List Int} (h : IntsAt w ao xs) (h0 : 0 < xs.length) : ∃ ad, ao = some ad ∧ ∀ j v, (vals xs)[j]? = some v → w.cell? (ad.add j) = some v := by
  obtain ⟨b, off, rfl, _⟩ := h 0 h0
  refine ⟨_, rfl, fun j v hj => ?_⟩
  rw [vals_get] at hj
  by_cases hlt : j < xs.length
  · obtain ⟨b', off', he, hc⟩ := h j hlt
    simp only [Option.some.injEq, Addr.mk.injEq, and_true] at he
    obtain ⟨rfl, rfl⟩ := he
    rw [List.getElem?_eq_getElem hlt] at hj
    simp only [Option.map_some, Option.some.injEq] at hj
    subst hj
    rw [List.getD_eq_getElem?_getD, List.getElem?_eq_getElem hlt] at hc
    have hadd : (⟨b, off, none⟩ : Addr).add j = ⟨b, off + j, none⟩ := by unfold Addr.add; split <;> simp_all
    rw [hadd]
    simpa using hc
  · rw [List.getElem?_eq_none (by omega)] at hj
    cases hj

theorem take_snoc (xs : List Int) (k : Nat) (h : k < xs.length) {x : Int} (hx : xs.getD k 0 = x) : vals (xs.take k) ++ [Value.int .i64 x] = vals (xs.take (k + 1)) := by
  rw [List.getD_eq_getElem?_getD, List.getElem?_eq_getElem h] at hx
  simp only [Option.getD_some] at hx
  rw [List.take_succ_eq_append_getElem h, vals_append, hx]
  rfl

/-- One number of a slice: its cell, the number under a name. -/
theorem IntsAt.at {w : World} {ao : Option Addr} {xs : List Int} (h : IntsAt w ao xs) (k : Nat) (hk : k < xs.length) : ∃ b off x, ao = some ⟨b, off, none⟩ ∧ w.cell? ⟨b, off + k, none⟩ = some (.int .i64 x) ∧ Hid (xs.getD k 0 = x) := by
  obtain ⟨b, off, ha, hc⟩ := h k hk
  exact ⟨b, off, _, ha, hc, rfl⟩

/-- It lies in new memory, from block B on. -/
def Fresh (B : Nat) (ao : Option Addr) : Prop := ∀ a, ao = some a → B ≤ a.block

theorem owns_fresh {w : World} {base : Nat} {e : TypeId} {size : Nat} {ao : Option Addr} {n cap : Nat} {xs : List Value} (h : w.ownsRow base e size (.slice ao n cap) n xs) : Fresh base ao := by
  intro a ha
  rcases h.2 with ⟨h', _⟩ | ⟨g, cap', cur, h', hb, _⟩
  · simp only [Value.slice.injEq] at h'
    rw [h'.1] at ha
    cases ha
  · simp only [Value.slice.injEq] at h'
    rw [h'.1] at ha
    cases ha
    exact hb

/-- A cell that is there stays as it is. -/
theorem keep {W W' : World} {b o : Nat} {v : Value} (h : W.cell? ⟨b, o, none⟩ = some v) (hb : Below W.heap.size W W') : W'.cell? ⟨b, o, none⟩ = some v :=
  (hb.cell (p := ⟨b, o, none⟩) (World.block_lt_of_cell? W _ h)).trans h

/-- A block of two cells that may be written. -/
structure Res2 (W : World) (b : Nat) : Prop where
  d0 : ∃ v, W.cell? ⟨b, 0, none⟩ = some v
  d1 : ∃ v, W.cell? ⟨b, 1, none⟩ = some v
  z0 : W.frozen? ⟨b, 0, none⟩ = false
  z1 : W.frozen? ⟨b, 1, none⟩ = false

theorem Res2.below {W W' : World} {b : Nat} (h : Res2 W b) (hb : Below W.heap.size W W') : Res2 W' b := by
  obtain ⟨v, hv⟩ := h.d0
  obtain ⟨u, hu⟩ := h.d1
  have hlt := World.block_lt_of_cell? W _ hv
  exact ⟨⟨v, keep hv hb⟩, ⟨u, keep hu hb⟩, (hb.frozen (p := ⟨b, 0, none⟩) hlt).trans h.z0, (hb.frozen (p := ⟨b, 1, none⟩) hlt).trans h.z1⟩

/-- A result of two cells, stored and read. -/
theorem res2 {W : World} {b : Nat} {u v : Value} (d0 : W.cell? ⟨b, 0, none⟩ = some u) (d1 : W.cell? ⟨b, 1, none⟩ = some v) (x y : Value) :
    (W.setCell ⟨b, 0, none⟩ x).cell? ⟨b, 0, none⟩ = some x ∧ ((W.setCell ⟨b, 0, none⟩ x).setCell ⟨b, 1, none⟩ y).cell? ⟨b, 1, none⟩ = some y :=
  ⟨World.cell?_setCell_same _ _ _ d0, World.cell?_setCell_same _ _ _ ((World.cell?_setCell_other _ _ _ _ (by simp)).trans d1)⟩

theorem below2 {w W : World} {B b : Nat} (h : Below B w W) (hb : B ≤ b) (x y : Value) : Below B w ((W.setCell ⟨b, 0, none⟩ x).setCell ⟨b, 1, none⟩ y) :=
  (h.setCell (p := ⟨b, 0, none⟩) hb x).setCell (p := ⟨b, 1, none⟩) hb y

theorem owns_set2 {W : World} {base b : Nat} {e : TypeId} {size : Nat} {v : Value} {n : Nat} {xs : List Value} (h : W.ownsRow base e size v n xs) (hb : b < base) (x y : Value) :
    ((W.setCell ⟨b, 0, none⟩ x).setCell ⟨b, 1, none⟩ y).ownsRow base e size v n xs :=
  ownsRow_setCell_below (ownsRow_setCell_below h (a := ⟨b, 0, none⟩) hb x) (a := ⟨b, 1, none⟩) hb y

theorem below_drawn {w : World} (d : Nat) : Below w.heap.size w (w.drewN d) := below_drewN (Below.refl _ _) d

theorem drawn_more {w wr : World} (h : ∃ d, wr = w.drewN d) (n : Nat) : ∃ d, wr.drewN n = w.drewN d := by
  obtain ⟨d, rfl⟩ := h
  exact ⟨d + n, by rw [World.drewN_drewN]⟩

theorem ret_bool {a b : Bool} (h : a = b) : Ending.returned (.bool a) = .returned (.bool b) := by rw [h]

def inB (n lo hi : Int) : Bool := decide (lo ≤ n ∧ n ≤ hi)
theorem inB_t {n lo hi : Int} (h : lo ≤ n ∧ n ≤ hi) : inB n lo hi = true := by simpa [inB] using h
theorem inB_f {n lo hi : Int} (h : ¬ (lo ≤ n ∧ n ≤ hi)) : inB n lo hi = false := by unfold inB; exact decide_eq_false h

def addrB (len : Nat) (at_ : Int) : Bool := decide (0 ≤ at_ ∧ at_ < len)
theorem addrB_t {len : Nat} {a : Int} (h : 0 ≤ a ∧ a < len) : addrB len a = true := by simpa [addrB] using h
theorem addrB_f {len : Nat} {a : Int} (h : ¬ (0 ≤ a ∧ a < len)) : addrB len a = false := by unfold addrB; exact decide_eq_false h

def thereB (len : Nat) (i n : Int) : Bool := decide (0 ≤ i ∧ 0 ≤ n ∧ i + n ≤ len)
theorem thereB_t {len : Nat} {i n : Int} (h : 0 ≤ i ∧ 0 ≤ n ∧ i + n ≤ len) : thereB len i n = true := by simpa [thereB] using h
theorem thereB_f {len : Nat} {i n : Int} (h : ¬ (0 ≤ i ∧ 0 ≤ n ∧ i + n ≤ len)) : thereB len i n = false := by unfold thereB; exact decide_eq_false h

theorem made_vals (n : Nat) : (madeCells (Value.int .i64 0).cells (n * 1)).toList = vals (List.replicate n 0) := by
  have h := toList_madeCells_one (Value.int .i64 0) n
  rw [Nat.mul_one]
  exact h.trans (by simp [vals])

theorem rep_snoc (k : Nat) : vals (List.replicate k 0) ++ [Value.int .i64 0] = vals (List.replicate (k + 1) 0) := by
  rw [List.replicate_succ', vals_append]; rfl

/-- A store into an owned row. -/
theorem owns_store {w : World} {base : Nat} {e : TypeId} {g n cap : Nat} {xs : List Int} (h : w.ownsRow base e 1 (.slice (some ⟨g, 0, none⟩) n cap) n (vals xs)) (k : Nat) (hk : k < n) (v : Int) :
    w.cell? ⟨g, k, none⟩ = some (.int .i64 (xs.getD k 0)) ∧ w.frozen? ⟨g, k, none⟩ = false ∧
    (w.setCell ⟨g, k, none⟩ (.int .i64 v)).ownsRow base e 1 (.slice (some ⟨g, 0, none⟩) n cap) n (vals (xs.set k v)) := by
  have hl := owns_len h
  refine ⟨?_, h.frozenAt k, ?_⟩
  · rw [h.cellAt k (by omega), vals_get, List.getElem?_eq_getElem (by omega), List.getD_eq_getElem?_getD, List.getElem?_eq_getElem (by omega)]
    rfl
  · have := (h.stored k (.int .i64 v)).1
    rwa [vals_set] at this

/-- The words behind k links of a chain. -/
def chainK (xs : List Int) (a s : Nat) : Nat → List Int
  | 0 => xs
  | k + 1 => (chainK xs a s k).set (a + s * k) (a + s * k + s : Nat)

theorem chainK_length (xs : List Int) (a s k : Nat) : (chainK xs a s k).length = xs.length := by
  induction k with
  | zero => rfl
  | succ k ih => simp [chainK, ih]

/-- The words of the whole chain of n objects, n at least 1. -/
def chainL (xs : List Int) (a s n : Nat) : List Int := (chainK xs a s (n - 1)).set (a + s * (n - 1)) (-1)

theorem chainL_eq (xs : List Int) (a s n : Nat) (h : 1 ≤ n) : (chainK xs a s n).set (a + s * (n - 1)) (-1) = chainL xs a s n := by
  obtain ⟨m, rfl⟩ : ∃ m, n = m + 1 := ⟨n - 1, by omega⟩
  simp [chainL, chainK]

/-- What is known of the numbers of a chain that is there. -/
structure Fits (len a s n q p : Nat) : Prop where
  s1 : 1 ≤ s
  s2 : s ≤ 64
  n1 : 1 ≤ n
  n2 : n ≤ len
  q_ : (s : Int) * (n : Int) = q
  p_ : (s : Int) * ((n : Int) - 1) = p
  there_ : a + q ≤ len
  pq : p + s = q

theorem fits_mk {len a s n : Nat} (h1 : 1 ≤ s) (h2 : s ≤ 64) (h3 : 1 ≤ n) (h4 : n ≤ len) (h : a + s * n ≤ len) : Fits len a s n (s * n) (s * (n - 1)) := by
  obtain ⟨m, rfl⟩ : ∃ m, n = m + 1 := ⟨n - 1, by omega⟩
  refine ⟨h1, h2, h3, h4, by simp, ?_, h, by simp [Nat.mul_succ]⟩
  have : ((m + 1 : Nat) : Int) - 1 = (m : Int) := by omega
  rw [this]; simp

/-- A part of a slice, cut as Go cuts it. -/
theorem cut_any {w : World} {ao ao' : Option Addr} {xs : List Int} {c l m : Nat} (h : IntsAt w ao xs) (he : ao' = if c = l then ao else ao.map (fun x => x.add l)) (hl : l + m ≤ xs.length) (hc : xs.length ≤ c) : IntsAt w ao' ((xs.drop l).take m) := by
  intro i hi
  have hi' : i < m := by simp at hi; omega
  obtain ⟨b, off, ha, hcell⟩ := h (l + i) (by omega)
  rw [if_neg (by omega), ha] at he
  have hadd : (⟨b, off, none⟩ : Addr).add l = ⟨b, off + l, none⟩ := by unfold Addr.add; split <;> simp_all
  refine ⟨b, off + l, by rw [he]; simp [hadd], ?_⟩
  rw [Nat.add_assoc, hcell]
  simp [List.getD_eq_getElem?_getD, hi']

theorem cut_take {w : World} {ao : Option Addr} {xs : List Int} {m : Nat} (h : IntsAt w ao xs) : IntsAt w ao (xs.take m) := by
  intro i hi
  have hi' : i < m ∧ i < xs.length := by simp at hi; omega
  obtain ⟨b, off, ha, hcell⟩ := h i hi'.2
  refine ⟨b, off, ha, ?_⟩
  rw [hcell]
  simp [List.getD_eq_getElem?_getD, hi'.1]

end Go.Proofs.Ytnijjpakpphhhaa.Kit

/-
  OWN TEXT. How an argument that is a slice of integers is opened for the walk ('IsInts'), over whatever program.
-/
namespace Go.Proofs.Ytnijjpakpphhhaa.Kit
open Go Go.RowKit Go.ChangeShapes Go.WideShapes Go.ChangeAt

/-- What the walk is told of a slice of integers that came in. -/
structure IsInts (w : World) (ao : Option Addr) (n cap : Nat) (xs : List Int) : Prop where
  len : xs.length = n
  le : n ≤ cap
  reach : cap * 8 ≤ 140737488351232
  nil : ao = none → n = 0 ∧ cap = 0
  at_ : IntsAt w ao xs

theorem open_ints_arg {H : Type} {enc : TypeId × Value → H} {P : Program} {W : World} {base : Nat} {t e : TypeId} {v : Value} {d : DataW H} {p : List MemPlace}
    (ht : P.underlying t = some (.slice e)) (he : P.underlying e = some (.int .i64)) (hc : P.cellsOf e = 1) (hv : Value.okWide P W .any base t v)
    (h : DataW.Trod enc P W 0 (fun _ => true) true t v d p) (hs : ∀ elems spare, d = .slice elems spare → (elems.length + spare.length) * 8 ≤ 140737488351232) :
    ∃ ao n cap xs, v = .slice ao n cap ∧ IsInts W ao n cap xs := by
  obtain ⟨ao, n, cap, rfl⟩ := okWide_slice ht hv
  obtain ⟨fuel, hf⟩ := h
  rcases open_ints ht he hc hf with ⟨hcs, _⟩ | ⟨x, l, c, zs, hcs, _, hl, hm, hz, hx, hcell, _⟩
  · simp [Value.cells] at hcs
    obtain ⟨rfl, rfl, rfl⟩ := hcs
    exact ⟨none, 0, 0, [], rfl, ⟨rfl, by omega, by omega, fun _ => ⟨rfl, rfl⟩, IntsAt.nil _ _⟩⟩
  · simp [Value.cells] at hcs
    obtain ⟨rfl, rfl, rfl⟩ := hcs
    simp only [if_true] at hz
    simp only [Prod.mk.injEq] at hx
    have hr := hs _ _ hx.1
    simp only [lits, List.length_map, List.length_take, List.length_drop] at hr
    have hr' : cap * 8 ≤ 140737488351232 := by omega
    refine ⟨some x, n, cap, zs.take n, rfl, ⟨by simp; omega, hl, hr', fun h => (by cases h), ?_⟩⟩
    intro i hi
    have hi' : i < n := by simp at hi; omega
    have hci := hcell i (by omega)
    obtain ⟨b, off, spot⟩ := x
    have hspot : spot = none := by
      by_cases h0 : i = 0
      · subst h0; simpa [Addr.add] using World.cell?_spot hci
      · have := World.cell?_spot (hcell 0 (by omega)); simpa [Addr.add] using this
    subst hspot
    refine ⟨b, off, rfl, ?_⟩
    have hadd : (⟨b, off, none⟩ : Addr).add i = ⟨b, off + i, none⟩ := by unfold Addr.add; split <;> simp_all
    rw [hadd] at hci
    rw [hci]
    simp [List.getD_eq_getElem?_getD, hi']

end Go.Proofs.Ytnijjpakpphhhaa.Kit

/-
  OWN TEXT. The form's own reach, part by part, over whatever program.
-/
namespace Go.Proofs.Ytnijjpakpphhhaa.Kit
open Go Go.RowKit

/-- Each string, slice and map of a datum is within the reach. -/
def Sized {H : Type} (P : Program) (t : TypeId) (d : DataW H) : Prop := ∀ n ∈ d.weights P t, n ≤ reachBytes

theorem sized_arg {H : Type} {P : Program} {ts : List TypeId} {ds : List (DataW H)} (h : (DataW.weightsEach P ts ds).all (· ≤ reachBytes) = true) {j : Nat} {t : TypeId} {d : DataW H} (ht : ts[j]? = some t) (hd : ds[j]? = some d) : Sized P t d := by
  intro n hn
  have := List.all_eq_true.1 h _ (DataW.weights_mem_each ht hd n hn)
  simpa using this

theorem sized_field {H : Type} {P : Program} {t u : TypeId} {fs : Array Field} {parts : List (DataW H)} {d : DataW H} (h : Sized P t (.agg parts)) (ht : P.underlying t = some (.struct fs)) {i : Nat} (hu : (fs.toList.map (·.type))[i]? = some u) (hd : parts[i]? = some d) : Sized P u d := by
  intro n hn
  apply h
  have := DataW.weights_mem_each hu hd n hn
  simpa [DataW.weights, ht] using this

theorem sized_sl {H : Type} {P : Program} {t e : TypeId} {elems spare : List (DataW H)} (h : Sized P t (.slice elems spare)) (ht : P.underlying t = some (.slice e)) : (elems.length + spare.length) * P.bytesOf e ≤ reachBytes :=
  h _ (by simp [DataW.weights, ht])

end Go.Proofs.Ytnijjpakpphhhaa.Kit

/-
  OWN TEXT. Slices of regions (two numbers each) over whatever program: one that can be read ('RegsAt'), one that the call owns.
-/
namespace Go.Proofs.Ytnijjpakpphhhaa.Kit
open Go Go.RowKit

/-- Regions as cells. -/
def rvals : List (Int × Int) → List Value
  | [] => []
  | r :: l => Value.int .i64 r.1 :: Value.int .i64 r.2 :: rvals l

theorem length_rvals (l : List (Int × Int)) : (rvals l).length = l.length * 2 := by
  induction l with
  | nil => rfl
  | cons r l ih => simp only [rvals, List.length_cons, ih]; omega
theorem rvals_append (l m : List (Int × Int)) : rvals (l ++ m) = rvals l ++ rvals m := by
  induction l with
  | nil => rfl
  | cons r l ih => simp [rvals, ih]
theorem rvals_fst (l : List (Int × Int)) (i : Nat) (h : i < l.length) : (rvals l)[i * 2]? = some (.int .i64 (l.getD i (0, 0)).1) := by
  induction l generalizing i with
  | nil => simp at h
  | cons r l ih =>
    cases i with
    | zero => simp [rvals]
    | succ i =>
      have := ih i (by simpa using h)
      rw [Nat.succ_mul]
      simpa [rvals] using this
theorem rvals_snd (l : List (Int × Int)) (i : Nat) (h : i < l.length) : (rvals l)[i * 2 + 1]? = some (.int .i64 (l.getD i (0, 0)).2) := by
  induction l generalizing i with
  | nil => simp at h
  | cons r l ih =>
    cases i with
    | zero => simp [rvals]
    | succ i =>
      have := ih i (by simpa using h)
      rw [Nat.succ_mul]
      simpa [rvals] using this
theorem rvals_oneCell (l : List (Int × Int)) : ∀ u ∈ rvals l, u.oneCell' = true := by
  induction l with
  | nil => intro u hu; simp [rvals] at hu
  | cons r l ih =>
    intro u hu
    simp only [rvals, List.mem_cons] at hu
    rcases hu with rfl | rfl | hu
    · rfl
    · rfl
    · exact ih u hu
theorem rvals_set_snd (l : List (Int × Int)) (i : Nat) (x : Int) (h : i < l.length) : (rvals l).set (i * 2 + 1) (.int .i64 x) = rvals (l.set i ((l.getD i (0, 0)).1, x)) := by
  induction l generalizing i with
  | nil => simp at h
  | cons r l ih =>
    cases i with
    | zero => simp [rvals]
    | succ i =>
      have := ih i (by simpa using h)
      rw [Nat.succ_mul]
      simpa [rvals] using this

/-- The cells from 'ao' on hold the regions 'l'. -/
def RegsAt (w : World) (ao : Option Addr) (l : List (Int × Int)) : Prop :=
  ∀ i, i < l.length → ∃ b off, ao = some ⟨b, off, none⟩ ∧ w.cell? ⟨b, off + i * 2, none⟩ = some (.int .i64 (l.getD i (0, 0)).1) ∧ w.cell? ⟨b, off + i * 2 + 1, none⟩ = some (.int .i64 (l.getD i (0, 0)).2)

theorem RegsAt.below {w w' : World} {ao : Option Addr} {l : List (Int × Int)} (h : RegsAt w ao l) (hb : Below w.heap.size w w') : RegsAt w' ao l := by
  intro i hi
  obtain ⟨b, off, ha, h1, h2⟩ := h i hi
  exact ⟨b, off, ha, (hb.cell (p := ⟨b, off + i * 2, none⟩) (World.block_lt_of_cell? w _ h1)).trans h1, (hb.cell (p := ⟨b, off + i * 2 + 1, none⟩) (World.block_lt_of_cell? w _ h2)).trans h2⟩

theorem RegsAt.nil (w : World) (ao : Option Addr) : RegsAt w ao [] := fun i hi => absurd hi (by simp)

theorem regs_of_owns {w : World} {base : Nat} {e : TypeId} {ao : Option Addr} {n cap : Nat} {l : List (Int × Int)}
    (h : w.ownsRow base e 2 (.slice ao n cap) n (rvals l)) : RegsAt w ao l := by
  intro i hi
  have hl := h.1
  rw [length_rvals] at hl
  rcases h.2 with ⟨h', h0⟩ | ⟨g, cap', cur, h', _, hg, _, _, _, htake⟩
  · omega
  · simp only [Value.slice.injEq] at h'
    obtain ⟨rfl, _, rfl⟩ := h'
    refine ⟨g, 0, rfl, ?_, ?_⟩
    · rw [Nat.zero_add, h.cellAt (i * 2) (by omega), rvals_fst l i hi]
    · rw [Nat.zero_add, h.cellAt (i * 2 + 1) (by omega), rvals_snd l i hi]

theorem rowns_len {w : World} {base : Nat} {e : TypeId} {v : Value} {n : Nat} {l : List (Int × Int)}
    (h : w.ownsRow base e 2 v n (rvals l)) : l.length = n := by have := h.1; rw [length_rvals] at this; omega

/-- The source of an append. -/
theorem rsrc_of {w : World} {ao : Option Addr} {l : List (Int × Int)} (h : RegsAt w ao l) (h0 : 0 < l.length) : ∃ ad, ao = some ad ∧ ∀ j v, (rvals l)[j]? = some v → w.cell? (ad.add j) = some v := by
  obtain ⟨b, off, rfl, _⟩ := h 0 h0
  refine ⟨_, rfl, fun j v hj => ?_⟩
  have hadd : (⟨b, off, none⟩ : Addr).add j = ⟨b, off + j, none⟩ := by unfold Addr.add; split <;> simp_all
  rw [hadd]
  have hlt : j < (rvals l).length := (List.getElem?_eq_some_iff.1 hj).1
  rw [length_rvals] at hlt
  obtain ⟨b', off', he, c1, c2⟩ := h (j / 2) (by omega)
  simp only [Option.some.injEq, Addr.mk.injEq, and_true] at he
  obtain ⟨rfl, rfl⟩ := he
  rcases Nat.mod_two_eq_zero_or_one j with hm | hm
  · have e1 : j = j / 2 * 2 := by omega
    rw [e1, rvals_fst l _ (by omega)] at hj
    rw [← e1] at c1
    rw [c1]; exact hj
  · have e1 : j = j / 2 * 2 + 1 := by omega
    rw [e1, rvals_snd l _ (by omega)] at hj
    have e2 : off + j / 2 * 2 + 1 = off + j := by omega
    rw [e2] at c2
    rw [c2]; exact hj

/-- One region of a slice: its two cells, the numbers under names. -/
theorem RegsAt.at {w : World} {ao : Option Addr} {l : List (Int × Int)} (h : RegsAt w ao l) (k : Nat) (hk : k < l.length) : ∃ b off x y, ao = some ⟨b, off, none⟩ ∧ w.cell? ⟨b, off + k * 2, none⟩ = some (.int .i64 x) ∧ w.cell? ⟨b, off + k * 2 + 1, none⟩ = some (.int .i64 y) ∧ Hid (l.getD k (0, 0) = (x, y)) := by
  obtain ⟨b, off, ha, h1, h2⟩ := h k hk
  exact ⟨b, off, _, _, ha, h1, h2, rfl⟩

theorem rtake_snoc (l : List (Int × Int)) (k : Nat) (h : k < l.length) {x y : Int} (hx : l.getD k (0, 0) = (x, y)) : rvals (l.take k) ++ [Value.int .i64 x, Value.int .i64 y] = rvals (l.take (k + 1)) := by
  rw [List.getD_eq_getElem?_getD, List.getElem?_eq_getElem h] at hx
  simp only [Option.getD_some] at hx
  rw [List.take_succ_eq_append_getElem h, rvals_append, hx]
  rfl

/-- A slice of regions that can be read. -/
structure Regs (w : World) (ao : Option Addr) (n : Nat) (l : List (Int × Int)) : Prop where
  len : l.length = n
  reach : n * 16 ≤ 140737488351232
  at_ : RegsAt w ao l

theorem Regs.below {w w' : World} {ao : Option Addr} {n : Nat} {l : List (Int × Int)} (h : Regs w ao n l) (hb : Below w.heap.size w w') : Regs w' ao n l := ⟨h.len, h.reach, h.at_.below hb⟩

/-- Regions that lie elsewhere are read behind two stores. -/
theorem regs_set2 {W : World} {ao : Option Addr} {n b : Nat} {l : List (Int × Int)} (h : Regs W ao n l) (hne : ∀ a, ao = some a → a.block ≠ b) (x y : Value) : Regs ((W.setCell ⟨b, 0, none⟩ x).setCell ⟨b, 1, none⟩ y) ao n l := by
  refine ⟨h.len, h.reach, fun i hi => ?_⟩
  obtain ⟨c, o, ha, h1, h2⟩ := h.at_ i hi
  have hn := hne _ ha
  have key : ∀ j, ((W.setCell ⟨b, 0, none⟩ x).setCell ⟨b, 1, none⟩ y).cell? ⟨c, j, none⟩ = W.cell? ⟨c, j, none⟩ := fun j =>
    (World.cell?_setCell_other _ _ _ _ (by intro e; cases e; exact hn rfl)).trans (World.cell?_setCell_other _ _ _ _ (by intro e; cases e; exact hn rfl))
  exact ⟨c, o, ha, (key _).trans h1, (key _).trans h2⟩

/-- What the walk is told of a slice of regions that came in. -/
structure IsRegs (w : World) (ao : Option Addr) (n cap : Nat) (l : List (Int × Int)) : Prop where
  len : l.length = n
  le : n ≤ cap
  reach : cap * 16 ≤ 140737488351232
  nil : ao = none → n = 0 ∧ cap = 0
  at_ : RegsAt w ao l
  wf : ∀ r ∈ l, (-9223372036854775808 ≤ r.1 ∧ r.1 ≤ 9223372036854775807) ∧ (-9223372036854775808 ≤ r.2 ∧ r.2 ≤ 9223372036854775807)

theorem IsRegs.below {w w' : World} {ao : Option Addr} {n cap : Nat} {l : List (Int × Int)} (h : IsRegs w ao n cap l) (hb : Below w.heap.size w w') : IsRegs w' ao n cap l :=
  ⟨h.len, h.le, h.reach, h.nil, h.at_.below hb, h.wf⟩

theorem IsRegs.regs {w : World} {ao : Option Addr} {n cap : Nat} {l : List (Int × Int)} (h : IsRegs w ao n cap l) : Regs w ao n l :=
  ⟨h.len, by have := h.reach; have := h.le; omega, h.at_⟩

/-- A bool is returned that tells whether something holds. (A name of its own: the walk's simp leaves it standing.) -/
def RetIff (e : Ending) (p : Prop) : Prop := ∃ r : Bool, e = .returned (.bool r) ∧ (r = true ↔ p)

/-- A region that may be. -/
def regOk (r : Int × Int) : Prop := 0 ≤ r.1 ∧ r.1 ≤ 255 ∧ 1 ≤ r.2 ∧ r.2 ≤ 256 ∧ r.1 + r.2 ≤ 256

/-- Regions that may be. -/
structure MayP (l : List (Int × Int)) : Prop where
  len : l.length ≤ 40
  ok : ∀ i, i < l.length → regOk (l.getD i (0, 0))
  gap : ∀ i, i + 1 < l.length → (l.getD i (0, 0)).1 + (l.getD i (0, 0)).2 < (l.getD (i + 1) (0, 0)).1

/-- Is a page in one of them? -/
def inL (l : List (Int × Int)) (p : Int) : Bool := l.any fun r => decide (r.1 ≤ p ∧ p ≤ r.1 + r.2 - 1)

/-- No size is too great for a word. -/
def TopL (l : List (Int × Int)) : Prop := ∀ r ∈ l, r.2 ≤ 9223372036854775807
theorem TopL.at {l : List (Int × Int)} (h : TopL l) (k : Nat) (hk : k < l.length) {x y : Int} (e : l.getD k (0, 0) = (x, y)) : y ≤ 9223372036854775807 := by
  rw [List.getD_eq_getElem?_getD, List.getElem?_eq_getElem hk] at e
  have := h _ (List.getElem_mem hk)
  simp only [Option.getD_some] at e
  rw [e] at this
  exact this
theorem IsRegs.top {w : World} {ao : Option Addr} {n cap : Nat} {l : List (Int × Int)} (h : IsRegs w ao n cap l) : TopL l := fun r hr => (h.wf r hr).2.2
theorem wf_top {s : Int} (h : (Lit.int .i64 s).wf = true) : s ≤ 9223372036854775807 := by
  have := bounds_i64 h
  omega

end Go.Proofs.Ytnijjpakpphhhaa.Kit

/-
  OWN TEXT. Regions that may be, as plain mathematics: how they are made of pages, and that their pages tell them.
-/
namespace Go.Proofs.Ytnijjpakpphhhaa.Kit

/-- In order, apart, from lo on, up to hi. -/
def Canon (hi : Int) : Int → List (Int × Int) → Prop
  | _, [] => True
  | lo, r :: l => lo ≤ r.1 ∧ 1 ≤ r.2 ∧ r.1 + r.2 ≤ hi ∧ Canon hi (r.1 + r.2 + 1) l

/-- Where the next one may begin. -/
def endOf : Int → List (Int × Int) → Int
  | lo, [] => lo
  | _, r :: l => endOf (r.1 + r.2 + 1) l

theorem endOf_snoc (lo : Int) (l : List (Int × Int)) (r : Int × Int) : endOf lo (l ++ [r]) = r.1 + r.2 + 1 := by
  induction l generalizing lo with
  | nil => rfl
  | cons a l ih => exact ih _

theorem canon_snoc (hi lo : Int) (l : List (Int × Int)) (r : Int × Int) : Canon hi lo (l ++ [r]) ↔ Canon hi lo l ∧ endOf lo l ≤ r.1 ∧ 1 ≤ r.2 ∧ r.1 + r.2 ≤ hi := by
  induction l generalizing lo with
  | nil => simp [Canon, endOf]
  | cons a l ih =>
    show lo ≤ a.1 ∧ 1 ≤ a.2 ∧ a.1 + a.2 ≤ hi ∧ Canon hi (a.1 + a.2 + 1) (l ++ [r]) ↔ (lo ≤ a.1 ∧ 1 ≤ a.2 ∧ a.1 + a.2 ≤ hi ∧ Canon hi (a.1 + a.2 + 1) l) ∧ endOf (a.1 + a.2 + 1) l ≤ r.1 ∧ 1 ≤ r.2 ∧ r.1 + r.2 ≤ hi
    rw [ih]
    constructor
    · rintro ⟨h1, h2, h3, h4, h5, h6, h7⟩; exact ⟨⟨h1, h2, h3, h4⟩, h5, h6, h7⟩
    · rintro ⟨⟨h1, h2, h3, h4⟩, h5, h6, h7⟩; exact ⟨h1, h2, h3, h4, h5, h6, h7⟩

theorem canon_end {hi lo : Int} {l : List (Int × Int)} (h : Canon hi lo l) : lo ≤ endOf lo l := by
  induction l generalizing lo with
  | nil => exact Int.le_refl _
  | cons a l ih =>
    obtain ⟨a1, a2, a3, a4⟩ := h
    have := ih a4
    show lo ≤ endOf (a.1 + a.2 + 1) l
    omega

theorem canon_mono {hi hi' lo lo' : Int} {l : List (Int × Int)} (h : Canon hi lo l) (h1 : hi ≤ hi') (h2 : lo' ≤ lo) : Canon hi' lo' l := by
  induction l generalizing lo lo' with
  | nil => trivial
  | cons a l ih =>
    obtain ⟨a1, a2, a3, a4⟩ := h
    exact ⟨by omega, a2, by omega, ih a4 (Int.le_refl _)⟩

theorem inL_cons (a : Int × Int) (l : List (Int × Int)) (p : Int) : inL (a :: l) p = (decide (a.1 ≤ p ∧ p ≤ a.1 + a.2 - 1) || inL l p) := rfl

theorem inL_append (l m : List (Int × Int)) (p : Int) : inL (l ++ m) p = (inL l p || inL m p) := by simp [inL, List.any_append]

theorem inL_below {hi lo : Int} {l : List (Int × Int)} (h : Canon hi lo l) {p : Int} (hp : p < lo) : inL l p = false := by
  induction l generalizing lo with
  | nil => rfl
  | cons a l ih =>
    obtain ⟨a1, a2, a3, a4⟩ := h
    rw [inL_cons, ih a4 (by omega), Bool.or_false]
    exact decide_eq_false (by omega)

theorem inL_above {hi lo : Int} {l : List (Int × Int)} (h : Canon hi lo l) {p : Int} (hp : hi ≤ p) : inL l p = false := by
  induction l generalizing lo with
  | nil => rfl
  | cons a l ih =>
    obtain ⟨a1, a2, a3, a4⟩ := h
    rw [inL_cons, ih a4, Bool.or_false]
    exact decide_eq_false (by omega)

/-- Their pages tell them. -/
theorem canon_unique {hi lo : Int} {l m : List (Int × Int)} (hl : Canon hi lo l) (hm : Canon hi lo m) (h : ∀ p, lo ≤ p → p < hi → inL l p = inL m p) : l = m := by
  induction l generalizing lo m with
  | nil =>
    cases m with
    | nil => rfl
    | cons b m =>
      obtain ⟨b1, b2, b3, b4⟩ := hm
      have := h b.1 (by omega) (by omega)
      rw [inL_cons, decide_eq_true (by omega)] at this
      simp [inL] at this
  | cons a l ih =>
    obtain ⟨a1, a2, a3, a4⟩ := hl
    cases m with
    | nil =>
      have := h a.1 (by omega) (by omega)
      rw [inL_cons, decide_eq_true (by omega)] at this
      simp [inL] at this
    | cons b m =>
      obtain ⟨b1, b2, b3, b4⟩ := hm
      have e1 : a.1 = b.1 := by
        rcases Int.lt_trichotomy a.1 b.1 with g | g | g
        · have := h a.1 (by omega) (by omega)
          rw [inL_cons, inL_cons, decide_eq_true (by omega), inL_below b4 (by omega), decide_eq_false (by omega)] at this
          simp at this
        · exact g
        · have := h b.1 (by omega) (by omega)
          rw [inL_cons, inL_cons, decide_eq_false (by omega), inL_below a4 (by omega), decide_eq_true (by omega)] at this
          simp at this
      have e2 : a.2 = b.2 := by
        rcases Int.lt_trichotomy a.2 b.2 with g | g | g
        · have := h (a.1 + a.2) (by omega) (by omega)
          rw [inL_cons, inL_cons, decide_eq_false (by omega), inL_below a4 (by omega), decide_eq_true (by omega)] at this
          simp at this
        · exact g
        · have := h (b.1 + b.2) (by omega) (by omega)
          rw [inL_cons, inL_cons, decide_eq_true (by omega), inL_below b4 (by omega), decide_eq_false (by omega)] at this
          simp at this
      have e : a = b := Prod.ext e1 e2
      subst e
      rw [ih a4 b4 (fun p hp hq => ?_)]
      have := h p (by omega) hq
      rw [inL_cons, inL_cons, decide_eq_false (by omega)] at this
      simpa using this

theorem canon_of_may {l : List (Int × Int)} (h : MayP l) : Canon 256 0 l := by
  have key : ∀ (l : List (Int × Int)) (lo : Int), (∀ i, i < l.length → regOk (l.getD i (0, 0))) → (∀ i, i + 1 < l.length → (l.getD i (0, 0)).1 + (l.getD i (0, 0)).2 < (l.getD (i + 1) (0, 0)).1) → (0 < l.length → lo ≤ (l.getD 0 (0, 0)).1) → Canon 256 lo l := by
    intro l
    induction l with
    | nil => intros; trivial
    | cons a l ih =>
      intro lo h1 h2 h3
      have ha := h1 0 (by simp)
      obtain ⟨p1, p2, p3, p4, p5⟩ := ha
      refine ⟨h3 (by simp), p3, p5, ih _ (fun i hi => ?_) (fun i hi => ?_) (fun hl => ?_)⟩
      · have := h1 (i + 1) (by simpa using hi); simpa using this
      · have := h2 (i + 1) (by simpa using hi); simpa using this
      · have := h2 0 (by simpa using hl)
        simp at this
        simp
        omega
  exact key l 0 h.ok h.gap (fun h0 => (h.ok 0 h0).1)

theorem may_of_canon {l : List (Int × Int)} (h : Canon 256 0 l) (hl : l.length ≤ 40) : MayP l := by
  have key : ∀ (l : List (Int × Int)) (lo : Int), 0 ≤ lo → Canon 256 lo l → (∀ i, i < l.length → regOk (l.getD i (0, 0))) ∧ (∀ i, i + 1 < l.length → (l.getD i (0, 0)).1 + (l.getD i (0, 0)).2 < (l.getD (i + 1) (0, 0)).1) := by
    intro l
    induction l with
    | nil => intros; exact ⟨fun i hi => by simp at hi, fun i hi => by simp at hi⟩
    | cons a l ih =>
      intro lo h0 h
      obtain ⟨a1, a2, a3, a4⟩ := h
      obtain ⟨i1, i2⟩ := ih (a.1 + a.2 + 1) (by omega) a4
      refine ⟨fun i hi => ?_, fun i hi => ?_⟩
      · cases i with
        | zero => exact ⟨by simp; omega, by simp; omega, by simpa using a2, by simp; omega, by simpa using a3⟩
        | succ i => have := i1 i (by simpa using hi); simpa using this
      · cases i with
        | zero =>
          cases l with
          | nil => simp at hi
          | cons b l => simp; have := a4.1; omega
        | succ i => have := i2 i (by simpa using hi); simpa using this
  obtain ⟨k1, k2⟩ := key l 0 (Int.le_refl _) h
  exact ⟨hl, k1, k2⟩

/-- The last one has a page more. -/
def bump (l : List (Int × Int)) : List (Int × Int) := l.set (l.length - 1) ((l.getD (l.length - 1) (0, 0)).1, (l.getD (l.length - 1) (0, 0)).2 + 1)

theorem bump_snoc (l : List (Int × Int)) (r : Int × Int) : bump (l ++ [r]) = l ++ [(r.1, r.2 + 1)] := by
  simp [bump, List.getD_eq_getElem?_getD]

/-- Regions of the pages below k of which something holds. -/
def drawnK (h : Int → Bool) : Nat → List (Int × Int)
  | 0 => []
  | k + 1 => if h k then (if 0 < k ∧ h (k - 1) then bump (drawnK h k) else drawnK h k ++ [((k : Int), 1)]) else drawnK h k

structure DrawnInv (h : Int → Bool) (k : Nat) : Prop where
  canon : Canon k 0 (drawnK h k)
  pages : ∀ p : Int, 0 ≤ p → p < k → inL (drawnK h k) p = h p
  run : 0 < k → h (k - 1) = true → ∃ (l : List (Int × Int)) (f s : Int), drawnK h k = l ++ [(f, s)] ∧ f + s = k
  fresh : ¬ (0 < k ∧ h (k - 1) = true) → endOf 0 (drawnK h k) ≤ k

theorem drawn_inv (h : Int → Bool) (k : Nat) : DrawnInv h k := by
  induction k with
  | zero => exact ⟨trivial, fun p h1 h2 => by omega, fun h0 => by omega, fun _ => Int.le_refl _⟩
  | succ k ih =>
    obtain ⟨i1, i2, i3, i4⟩ := ih
    have ek : ((k + 1 : Nat) : Int) - 1 = k := by omega
    by_cases hk : h k = true
    · by_cases hr : 0 < k ∧ h (k - 1) = true
      · obtain ⟨l, f, s, e, hfs⟩ := i3 hr.1 hr.2
        have ed : drawnK h (k + 1) = l ++ [(f, s + 1)] := by
          simp only [drawnK]
          rw [if_pos hk, if_pos hr, e, bump_snoc]
        rw [e, canon_snoc] at i1
        obtain ⟨c1, c2, c3, c4⟩ := i1
        dsimp only at c2 c3 c4
        refine ⟨?_, ?_, ?_, ?_⟩
        · rw [ed, canon_snoc]; exact ⟨canon_mono c1 (by omega) (Int.le_refl _), c2, by dsimp only; omega, by dsimp only; omega⟩
        · intro p h1 h2
          rw [ed, inL_append]
          by_cases hp : p < k
          · have := i2 p h1 hp
            rw [e, inL_append] at this
            rw [← this]
            congr 1
            simp only [inL, List.any_cons, List.any_nil, Bool.or_false]
            congr 1
            apply propext
            constructor <;> intro g <;> omega
          · have : p = k := by omega
            subst this
            rw [hk]
            simp only [inL, List.any_cons, List.any_nil, Bool.or_false, Bool.or_eq_true]
            right
            exact decide_eq_true (by omega)
        · intro _ _; exact ⟨l, f, s + 1, ed, by omega⟩
        · intro g; exact absurd ⟨by omega, by rw [ek]; exact hk⟩ g
      · have ed : drawnK h (k + 1) = drawnK h k ++ [((k : Int), 1)] := by
          simp only [drawnK]
          rw [if_pos hk, if_neg hr]
        have hf := i4 hr
        refine ⟨?_, ?_, ?_, ?_⟩
        · rw [ed, canon_snoc]; exact ⟨canon_mono i1 (by omega) (Int.le_refl _), hf, by dsimp only; omega, by dsimp only; omega⟩
        · intro p h1 h2
          rw [ed, inL_append]
          by_cases hp : p < k
          · rw [i2 p h1 hp]
            simp only [inL, List.any_cons, List.any_nil, Bool.or_false]
            rw [decide_eq_false (by omega), Bool.or_false]
          · have : p = k := by omega
            subst this
            rw [hk]
            simp only [inL, List.any_cons, List.any_nil, Bool.or_false, Bool.or_eq_true]
            right
            exact decide_eq_true (by omega)
        · intro _ _; exact ⟨_, _, _, ed, by omega⟩
        · intro g; exact absurd ⟨by omega, by rw [ek]; exact hk⟩ g
    · have ed : drawnK h (k + 1) = drawnK h k := by
        simp only [drawnK]
        rw [if_neg hk]
      refine ⟨?_, ?_, ?_, ?_⟩
      · rw [ed]; exact canon_mono i1 (by omega) (Int.le_refl _)
      · intro p h1 h2
        rw [ed]
        by_cases hp : p < k
        · exact i2 p h1 hp
        · have : p = k := by omega
          subst this
          rw [inL_above i1 (Int.le_refl _)]
          simpa using hk
      · intro _ g; rw [ek] at g; exact absurd g hk
      · intro _
        rw [ed]
        by_cases hr : 0 < k ∧ h (k - 1) = true
        · obtain ⟨l, f, s, e, hfs⟩ := i3 hr.1 hr.2
          rw [e, endOf_snoc]; dsimp only; omega
        · have := i4 hr; omega

/-- Regions of all pages of which something holds. -/
def drawnAll (h : Int → Bool) : List (Int × Int) := drawnK h 256
theorem drawn_all (h : Int → Bool) (k : Nat) (hk : k = 256) : drawnK h k = drawnAll h := by subst hk; rfl

/-- Regions that have the same pages are those that are drawn. -/
theorem drawn_of_canon {h : Int → Bool} {l : List (Int × Int)} (hl : Canon 256 0 l) (hp : ∀ p : Int, 0 ≤ p → p < 256 → inL l p = h p) : drawnAll h = l := by
  have inv := drawn_inv h 256
  have e := drawn_all h 256 rfl
  have c1 := inv.canon
  have c2 := inv.pages
  rw [e] at c1 c2
  exact canon_unique c1 hl (fun p h1 h2 => by rw [c2 p h1 h2, hp p h1 h2])

theorem drawnAll_canon (h : Int → Bool) : Canon 256 0 (drawnAll h) := by
  have := (drawn_inv h 256).canon
  rw [drawn_all h 256 rfl] at this
  exact this

theorem drawnAll_pages (h : Int → Bool) (p : Int) (h1 : 0 ≤ p) (h2 : p < 256) : inL (drawnAll h) p = h p := by
  have := (drawn_inv h 256).pages p h1 h2
  rw [drawn_all h 256 rfl] at this
  exact this

end Go.Proofs.Ytnijjpakpphhhaa.Kit

/-
  OWN TEXT. Marks of 256 pages as a block of cells, and worlds that differ in one block alone.
-/
namespace Go.Proofs.Ytnijjpakpphhhaa.Kit
open Go Go.RowKit

theorem below_box (w : World) (o : Obj) : Below w.heap.size w (w.alloc o) := (Below.refl _ _).alloc (Nat.le_refl _) _

/-- The marks of a set of pages, as cells. -/
def mk (h : Int → Bool) : Array Value := Array.ofFn (n := 256) fun i => .bool (h (i.val : Int))

theorem mk_size (h : Int → Bool) : (mk h).size = 256 := Array.size_ofFn
theorem mk_get (h : Int → Bool) (p : Nat) (hp : p < 256) : (mk h)[p]? = some (.bool (h p)) := by
  unfold mk
  rw [Array.getElem?_ofFn, dif_pos hp]
theorem mk_eq {cs : Array Value} {h : Int → Bool} (hs : cs.size = 256) (hc : ∀ p : Nat, p < 256 → cs[p]? = some (.bool (h p))) : cs = mk h := by
  apply Array.ext_getElem?
  intro i
  by_cases hi : i < 256
  · rw [hc i hi, mk_get h i hi]
  · rw [Array.getElem?_eq_none (by omega), Array.getElem?_eq_none (by rw [mk_size]; omega)]
theorem mk_ext {h g : Int → Bool} (e : ∀ p : Nat, p < 256 → h p = g p) : mk h = mk g := mk_eq (mk_size h) (fun p hp => by rw [mk_get h p hp, e p hp])
theorem mk_oneCell (h : Int → Bool) : ∀ v ∈ (mk h).toList, v.oneCell' = true := by
  intro v hv
  obtain ⟨i, hi, rfl⟩ := List.getElem_of_mem hv
  rw [Array.length_toList, mk_size] at hi
  have e := mk_get h i hi
  rw [Array.getElem?_eq_getElem (by rw [mk_size]; exact hi)] at e
  rw [Array.getElem_toList, Option.some.inj e]
  rfl

/-- Pages f .. f+s-1 are set. -/
def setH (f s : Int) (v : Bool) (h : Int → Bool) (p : Int) : Bool := if f ≤ p ∧ p < f + s then v else h p

theorem mk_set0 (f : Int) (v : Bool) (h : Int → Bool) : mk (setH f 0 v h) = mk h := mk_ext fun p _ => by unfold setH; rw [if_neg (by omega)]

theorem mk_set (h : Int → Bool) (f k : Nat) (v : Bool) (hp : f + k < 256) : (mk (setH f k v h)).setIfInBounds (f + k) (.bool v) = mk (setH f ((k + 1 : Nat) : Int) v h) := by
  refine mk_eq (by rw [Array.size_setIfInBounds, mk_size]) fun p hp' => ?_
  rw [Array.getElem?_setIfInBounds]
  by_cases e : f + k = p
  · rw [if_pos e, if_pos (by rw [mk_size]; omega)]
    unfold setH
    rw [if_pos (by omega)]
  · rw [if_neg e, mk_get _ p hp']
    unfold setH
    by_cases g : (f : Int) ≤ p ∧ (p : Int) < f + k
    · rw [if_pos g, if_pos (by omega)]
    · rw [if_neg g, if_neg (by omega)]

theorem load_row {P : Program} {W : World} {g : Nat} {t : TypeId} {cs : Array Value} {fr : Nat × Nat} {n : Nat} (hg : W.heap[g]? = some (.cells cs t fr)) (hn : cs.size = n) : (loadCellsFrom ⟨g, 0, none⟩ 0 n #[]).run P W = .ok cs W := by
  subst hn
  have := run_loadCells_list (P := P) W ⟨g, 0, none⟩ cs.toList (fun j v hv => by
    have hadd : (⟨g, 0, none⟩ : Addr).add j = ⟨g, j, none⟩ := by unfold Addr.add; split <;> simp_all
    rw [hadd, cell_of_row _ _ j cs t fr hg]
    simpa using hv)
  simpa [loadCells] using this

theorem store_row {P : Program} {W : World} {g : Nat} {t : TypeId} {old cs : Array Value} (hg : W.heap[g]? = some (.cells old t (0, 0))) (hn : old.size = cs.size) (h1 : ∀ v ∈ cs.toList, v.oneCell' = true) : (storeCells ⟨g, 0, none⟩ cs.toList 0).run P W = .ok () (W.setRow g cs) := by
  have := run_storeCells_from (P := P) g t cs.toList 0 old W hg (by simp; omega) h1
  simpa using this

/-- Nothing but block b differs in what was there. -/
structure But (b : Nat) (w w' : World) : Prop where
  os : w'.os = w.os
  tape : w'.tape = w.tape
  output : w'.output = w.output
  size : w.heap.size ≤ w'.heap.size
  block : ∀ k, k < w.heap.size → k ≠ b → w'.heap[k]? = w.heap[k]?

theorem But.refl (b : Nat) (w : World) : But b w w := ⟨rfl, rfl, rfl, Nat.le_refl _, fun _ _ _ => rfl⟩
theorem But.trans {b : Nat} {w w' w'' : World} (h : But b w w') (k : But b w' w'') : But b w w'' :=
  ⟨k.os.trans h.os, k.tape.trans h.tape, k.output.trans h.output, Nat.le_trans h.size k.size, fun i hi hb => (k.block i (Nat.lt_of_lt_of_le hi h.size) hb).trans (h.block i hi hb)⟩
theorem But.of_below {b : Nat} {w w' : World} (h : Below w.heap.size w w') : But b w w' := ⟨h.os, h.tape, h.output, h.size, fun k hk _ => h.block k hk⟩
theorem But.below {b B : Nat} {w w' : World} (h : But b w w') (hb : B ≤ b) (hB : B ≤ w.heap.size) : Below B w w' := ⟨h.os, h.tape, h.output, h.size, fun k hk => h.block k (by omega) (by omega)⟩
theorem But.setCell {b o : Nat} {w w' : World} (h : But b w w') (v : Value) : But b w (w'.setCell ⟨b, o, none⟩ v) := by
  refine ⟨h.os, h.tape, h.output, by simpa [World.setCell] using h.size, fun k hk hb => ?_⟩
  exact (Below.heap_setCell _ _ _ _ hb).trans (h.block k hk hb)
theorem But.drewN {b : Nat} {w w' : World} (h : But b w w') (d : Nat) : But b w (w'.drewN d) := h.trans (.of_below (below_drewN (Below.refl _ _) d))
theorem But.cell {b c o : Nat} {v : Value} {w w' : World} (h : But b w w') (hc : w.cell? ⟨c, o, none⟩ = some v) (hne : c ≠ b) : w'.cell? ⟨c, o, none⟩ = some v :=
  (World.cell?_of_block (a := ⟨c, o, none⟩) (h.block c (World.block_lt_of_cell? w _ hc) hne)).trans hc
theorem But.regs {b n : Nat} {ao : Option Addr} {l : List (Int × Int)} {w w' : World} (h : But b w w') (hr : Regs w ao n l) (hne : ∀ a, ao = some a → a.block ≠ b) : Regs w' ao n l := by
  refine ⟨hr.len, hr.reach, fun i hi => ?_⟩
  obtain ⟨c, o, ha, h1, h2⟩ := hr.at_ i hi
  exact ⟨c, o, ha, h.cell h1 (hne _ ha), h.cell h2 (hne _ ha)⟩

/-- Regions that can be read lie in blocks that are there. -/
theorem Regs.old {n : Nat} {ao : Option Addr} {l : List (Int × Int)} {w : World} (hr : Regs w ao n l) {b : Nat} (hb : w.heap.size ≤ b) {w' : World} (h : But b w w') : Regs w' ao n l := by
  refine ⟨hr.len, hr.reach, fun i hi => ?_⟩
  obtain ⟨c, o, ha, h1, h2⟩ := hr.at_ i hi
  have := World.block_lt_of_cell? w _ h1
  dsimp only at this
  exact ⟨c, o, ha, h.cell h1 (by omega), h.cell h2 (by omega)⟩

/-- The row of marks. -/
def MarksAt (w : World) (b : Nat) (t : TypeId) (h : Int → Bool) : Prop := w.heap[b]? = some (.cells (mk h) t (0, 0))

theorem MarksAt.cell {w : World} {b : Nat} {t : TypeId} {h : Int → Bool} (hm : MarksAt w b t h) (p : Nat) (hp : p < 256) : w.cell? ⟨b, p, none⟩ = some (.bool (h p)) := by
  rw [cell_of_row _ _ _ _ _ _ hm, mk_get h p hp]
theorem MarksAt.fz {w : World} {b : Nat} {t : TypeId} {h : Int → Bool} (hm : MarksAt w b t h) (p : Nat) : w.frozen? ⟨b, p, none⟩ = false := frozen_of_row _ _ _ _ _ hm
theorem MarksAt.lt {w : World} {b : Nat} {t : TypeId} {h : Int → Bool} (hm : MarksAt w b t h) : b < w.heap.size := (Array.getElem?_eq_some_iff.1 hm).1
theorem MarksAt.below {w w' : World} {b : Nat} {t : TypeId} {h : Int → Bool} (hm : MarksAt w b t h) (hb : Below w.heap.size w w') : MarksAt w' b t h := (hb.block b hm.lt).trans hm
theorem MarksAt.but {w w' : World} {b c : Nat} {t : TypeId} {h : Int → Bool} (hm : MarksAt w b t h) (hb : But c w w') (hne : b ≠ c) : MarksAt w' b t h := (hb.block b hm.lt hne).trans hm
theorem MarksAt.set {w : World} {b : Nat} {t : TypeId} {h : Int → Bool} {f k : Nat} {v : Bool} (hm : MarksAt w b t (setH f k v h)) (hp : f + k < 256) : MarksAt (w.setCell ⟨b, f + k, none⟩ (.bool v)) b t (setH f ((k + 1 : Nat) : Int) v h) := by
  unfold MarksAt
  rw [← mk_set h f k v hp]
  exact heap_setCell_same _ _ _ _ _ _ hm

/-- The first k regions are marked. -/
def markK (l : List (Int × Int)) (v : Bool) (h : Int → Bool) : Nat → Int → Bool
  | 0 => h
  | k + 1 => setH (l.getD k (0, 0)).1 (l.getD k (0, 0)).2 v (markK l v h k)

theorem markK_eq (l : List (Int × Int)) (v : Bool) (h : Int → Bool) (k : Nat) (hk : k ≤ l.length) (p : Int) : markK l v h k p = if inL (l.take k) p = true then v else h p := by
  induction k with
  | zero => simp [markK, inL]
  | succ k ih =>
    have hlt : k < l.length := by omega
    have e : l.getD k (0, 0) = l[k] := by rw [List.getD_eq_getElem?_getD, List.getElem?_eq_getElem hlt]; rfl
    rw [List.take_succ_eq_append_getElem hlt, inL_append]
    show setH (l.getD k (0, 0)).1 (l.getD k (0, 0)).2 v (markK l v h k) p = _
    unfold setH
    rw [ih (by omega), e]
    by_cases g : l[k].1 ≤ p ∧ p < l[k].1 + l[k].2
    · rw [if_pos g, if_pos]
      simp only [inL, List.any_cons, List.any_nil, Bool.or_false, Bool.or_eq_true]
      right
      exact decide_eq_true (by omega)
    · rw [if_neg g]
      have hf : inL [l[k]] p = false := by
        simp only [inL, List.any_cons, List.any_nil, Bool.or_false]
        exact decide_eq_false (by omega)
      rw [hf, Bool.or_false]

theorem markK_all (l : List (Int × Int)) : mk (markK l true (fun _ => false) l.length) = mk (inL l) := mk_ext fun p _ => by
  rw [markK_eq _ _ _ _ (Nat.le_refl _), List.take_length]
  cases inL l (p : Int) <;> rfl

theorem markK_free (M R : List (Int × Int)) : mk (markK R false (inL M) R.length) = mk (fun p => inL M p && !inL R p) := mk_ext fun p _ => by
  rw [markK_eq _ _ _ _ (Nat.le_refl _), List.take_length]
  cases inL R (p : Int) <;> cases inL M (p : Int) <;> rfl

end Go.Proofs.Ytnijjpakpphhhaa.Kit
