/-
  OWN TEXTS, bundled: Kit, Args.
-/
import Derived.WalkKit
import Derived.WalkSmall
import Derived.BigQuiet
import Derived.Deep.QuietTactic
import Derived.Laws.CopyOwn
import Derived.Laws.AppendOwnNone
import Derived.ProofKit
import Derived.OpenShut
import Derived.ShutString
import Derived.ChangeOld
import Derived.SizedLaws

/-
  OWN TEXT. Small laws over whatever program: a slice of integers that can be read in a world ('IntsAt'), one that the call owns ('ownsRow' over integers), and how both stand under 'Below'.
-/
namespace Go.Proofs.Ytbjlbmofdnkmiaa.Kit
open Go Go.RowKit

/-- The numbers as cells. (A name of its own: the walk's simp leaves it standing.) -/
def vals (xs : List Int) : List Value := xs.map (Value.int .i64)
theorem length_vals (xs : List Int) : (vals xs).length = xs.length := by simp [vals]
theorem vals_oneCell (xs : List Int) : ∀ u ∈ vals xs, u.oneCell' = true := ints_oneCell _ _
theorem vals_append (xs ys : List Int) : vals (xs ++ ys) = vals xs ++ vals ys := by simp [vals]
theorem vals_get (xs : List Int) (i : Nat) : (vals xs)[i]? = xs[i]?.map (Value.int .i64) := by simp [vals]
theorem vals_set (xs : List Int) (i : Nat) (x : Int) : (vals xs).set i (.int .i64 x) = vals (xs.set i x) := by simp [vals]

/-- The cells from 'ao' on hold the numbers 'xs' (where there are none, nothing is asked of the address). -/
def IntsAt (w : World) (ao : Option Addr) (xs : List Int) : Prop :=
  ∀ i, i < xs.length → ∃ b off, ao = some ⟨b, off, none⟩ ∧ w.cell? ⟨b, off + i, none⟩ = some (.int .i64 (xs.getD i 0))

theorem IntsAt.below {w w' : World} {ao : Option Addr} {xs : List Int} (h : IntsAt w ao xs) (hb : Below w.heap.size w w') : IntsAt w' ao xs := by
  intro i hi
  obtain ⟨b, off, ha, hc⟩ := h i hi
  exact ⟨b, off, ha, (hb.cell (p := ⟨b, off + i, none⟩) (World.block_lt_of_cell? w _ hc)).trans hc⟩

theorem IntsAt.nil (w : World) (ao : Option Addr) : IntsAt w ao [] := fun i hi => absurd hi (by simp)

/-- What is owned can be read. -/
theorem ints_of_owns {w : World} {base : Nat} {e : TypeId} {ao : Option Addr} {n cap : Nat} {xs : List Int}
    (h : w.ownsRow base e 1 (.slice ao n cap) n (vals xs)) : IntsAt w ao xs := by
  intro i hi
  have hl := h.1
  rcases h.2 with ⟨h', h0⟩ | ⟨g, cap', cur, h', _, hg, _, _, _, htake⟩
  · simp [length_vals] at hl
    omega
  · simp only [Value.slice.injEq] at h'
    obtain ⟨rfl, _, rfl⟩ := h'
    refine ⟨g, 0, rfl, ?_⟩
    have hc := h.cellAt i (by simp [length_vals] at hl; omega)
    simp only [Nat.zero_add]
    rw [hc, vals_get, List.getD_eq_getElem?_getD]
    simp [hi]

theorem owns_len {w : World} {base : Nat} {e : TypeId} {v : Value} {n : Nat} {xs : List Int}
    (h : w.ownsRow base e 1 v n (vals xs)) : xs.length = n := by simpa [length_vals] using h.1

/-- The shape of an owned value. -/
theorem owns_shape {w : World} {base : Nat} {e : TypeId} {size : Nat} {v : Value} {n : Nat} {xs : List Value} (h : w.ownsRow base e size v n xs) : ∃ ao cap, v = .slice ao n cap := by
  rcases h.2 with ⟨rfl, rfl⟩ | ⟨g, cap, cur, rfl, _⟩
  · exact ⟨none, 0, rfl⟩
  · exact ⟨some ⟨g, 0, none⟩, cap, rfl⟩

theorem owns_cap {w : World} {base : Nat} {e : TypeId} {size : Nat} {ao : Option Addr} {n cap : Nat} {xs : List Value} (h : w.ownsRow base e size (.slice ao n cap) n xs) : n ≤ cap := by
  rcases h.2 with ⟨h', h0⟩ | ⟨g, cap', cur, h', hb, hg, hc, _⟩
  · omega
  · simp only [Value.slice.injEq] at h'
    omega

/-- An owned row with an element has a head. -/
theorem owns_head {w : World} {base : Nat} {e : TypeId} {ao : Option Addr} {n cap : Nat} {size : Nat} {xs : List Value} (h : w.ownsRow base e size (.slice ao n cap) n xs) (hn : 0 < n) : ∃ g, ao = some ⟨g, 0, none⟩ ∧ base ≤ g ∧ g < w.heap.size := by
  rcases h.2 with ⟨h', h0⟩ | ⟨g, cap', cur, h', hb, hg, _⟩
  · omega
  · simp only [Value.slice.injEq] at h'
    exact ⟨g, h'.1, hb, (Array.getElem?_eq_some_iff.1 hg).1⟩

theorem owns_below {w w' : World} {B base : Nat} {e : TypeId} {size : Nat} {v : Value} {n : Nat} {xs : List Value} (h : w.ownsRow base e size v n xs) (hb : Below B w w') (hB : w.heap.size ≤ B) : w'.ownsRow base e size v n xs := by
  refine ⟨h.1, ?_⟩
  rcases h.2 with hn | ⟨g, cap, cur, rfl, hbg, hg, rest⟩
  · exact .inl hn
  · refine .inr ⟨g, cap, cur, rfl, hbg, ?_, rest⟩
    have hlt := (Array.getElem?_eq_some_iff.1 hg).1
    rw [hb.block g (by omega)]
    exact hg

theorem owns_weaken {w : World} {base base' : Nat} {e : TypeId} {size : Nat} {v : Value} {n : Nat} {xs : List Value} (h : w.ownsRow base e size v n xs) (hb : base' ≤ base) : w.ownsRow base' e size v n xs := by
  refine ⟨h.1, ?_⟩
  rcases h.2 with hn | ⟨g, cap, cur, rfl, hbg, rest⟩
  · exact .inl hn
  · exact .inr ⟨g, cap, cur, rfl, by omega, rest⟩

/-- The one cell of a block that has just been laid. -/
theorem cell_one_new' (w : World) (a : Value) (t : TypeId) : ∀ j u, [a][j]? = some u → (w.alloc (.cells #[a] t)).cell? ((⟨w.heap.size, 0, none⟩ : Addr).add j) = some u := by
  intro j u hj
  match j, hj with
  | 0, hj => simp at hj; subst hj; simp [Addr.add]
  | j + 1, hj => simp at hj

/-- A row that is full to its capacity is the block. -/
theorem owns_full {w : World} {base : Nat} {e : TypeId} {g n : Nat} {xs : List Value} (h : w.ownsRow base e 1 (.slice (some ⟨g, 0, none⟩) n n) n xs) : w.heap[g]? = some (.cells xs.toArray e (0, 0)) := by
  rcases h.2 with ⟨h', _⟩ | ⟨g', cap', cur, h', _, hg, _, _, hsz, htake⟩
  · cases h'
  · simp only [Value.slice.injEq, Option.some.injEq, Addr.mk.injEq, true_and, and_true] at h'
    obtain ⟨rfl, rfl⟩ := h'
    rw [List.take_of_length_le (by simp; omega)] at htake
    rw [← htake]
    simpa using hg

theorem owns_of_heap {w : World} {base : Nat} {e : TypeId} {g n : Nat} {xs : List Value} (h : w.heap[g]? = some (.cells xs.toArray e (0, 0))) (hb : base ≤ g) (hl : xs.length = n) (hm : n ≤ maxLen) :
    w.ownsRow base e 1 (.slice (some ⟨g, 0, none⟩) n n) n xs :=
  ⟨by simpa using hl, .inr ⟨g, n, _, rfl, hb, h, Nat.le_refl _, hm, by simpa using hl, by simpa using List.take_of_length_le (by omega)⟩⟩

theorem splice_all {α : Type} {L cs : List α} (h : L.length = cs.length) : splice L 0 cs = cs := by
  unfold splice
  rw [List.drop_eq_nil_of_le (by omega)]
  simp

/-- The cells of a slice of numbers, as a copy or an append asks for its source. -/
theorem src_of {w : World} {ao : Option Addr} {xs : List Int} (h : IntsAt w ao xs) (h0 : 0 < xs.length) : ∃ ad, ao = some ad ∧ ∀ j v, (vals xs)[j]? = some v → w.cell? (ad.add j) = some v := by
  obtain ⟨b, off, rfl, _⟩ := h 0 h0
  refine ⟨_, rfl, fun j v hj => ?_⟩
  rw [vals_get] at hj
  by_cases hlt : j < xs.length
  · obtain ⟨b', off', he, hc⟩ := h j hlt
    simp only [Option.some.injEq, Addr.mk.injEq, and_true] at he
    obtain ⟨rfl, rfl⟩ := he
    rw [List.getElem?_eq_getElem hlt] at hj
    simp only [Option.map_some, Option.some.injEq] at hj
    subst hj
    rw [List.getD_eq_getElem?_getD, List.getElem?_eq_getElem hlt] at hc
    have hadd : (⟨b, off, none⟩ : Addr).add j = ⟨b, off + j, none⟩ := by unfold Addr.add; split <;> simp_all
    rw [hadd]
    simpa using hc
  · rw [List.getElem?_eq_none (by omega)] at hj
    cases hj

theorem take_snoc (xs : List Int) (k : Nat) (h : k < xs.length) {x : Int} (hx : xs.getD k 0 = x) : vals (xs.take k) ++ [Value.int .i64 x] = vals (xs.take (k + 1)) := by
  rw [List.getD_eq_getElem?_getD, List.getElem?_eq_getElem h] at hx
  simp only [Option.getD_some] at hx
  rw [List.take_succ_eq_append_getElem h, vals_append, hx]
  rfl

/-- One number of a slice: its cell, the number under a name. -/
theorem IntsAt.at {w : World} {ao : Option Addr} {xs : List Int} (h : IntsAt w ao xs) (k : Nat) (hk : k < xs.length) : ∃ b off x, ao = some ⟨b, off, none⟩ ∧ w.cell? ⟨b, off + k, none⟩ = some (.int .i64 x) ∧ Hid (xs.getD k 0 = x) := by
  obtain ⟨b, off, ha, hc⟩ := h k hk
  exact ⟨b, off, _, ha, hc, rfl⟩

/-- It lies in new memory, from block B on. -/
def Fresh (B : Nat) (ao : Option Addr) : Prop := ∀ a, ao = some a → B ≤ a.block

theorem owns_fresh {w : World} {base : Nat} {e : TypeId} {size : Nat} {ao : Option Addr} {n cap : Nat} {xs : List Value} (h : w.ownsRow base e size (.slice ao n cap) n xs) : Fresh base ao := by
  intro a ha
  rcases h.2 with ⟨h', _⟩ | ⟨g, cap', cur, h', hb, _⟩
  · simp only [Value.slice.injEq] at h'
    rw [h'.1] at ha
    cases ha
  · simp only [Value.slice.injEq] at h'
    rw [h'.1] at ha
    cases ha
    exact hb

/-- A cell that is there stays as it is. -/
theorem keep {W W' : World} {b o : Nat} {v : Value} (h : W.cell? ⟨b, o, none⟩ = some v) (hb : Below W.heap.size W W') : W'.cell? ⟨b, o, none⟩ = some v :=
  (hb.cell (p := ⟨b, o, none⟩) (World.block_lt_of_cell? W _ h)).trans h

/-- A block of two cells that may be written. -/
structure Res2 (W : World) (b : Nat) : Prop where
  d0 : ∃ v, W.cell? ⟨b, 0, none⟩ = some v
  d1 : ∃ v, W.cell? ⟨b, 1, none⟩ = some v
  z0 : W.frozen? ⟨b, 0, none⟩ = false
  z1 : W.frozen? ⟨b, 1, none⟩ = false

theorem Res2.below {W W' : World} {b : Nat} (h : Res2 W b) (hb : Below W.heap.size W W') : Res2 W' b := by
  obtain ⟨v, hv⟩ := h.d0
  obtain ⟨u, hu⟩ := h.d1
  have hlt := World.block_lt_of_cell? W _ hv
  exact ⟨⟨v, keep hv hb⟩, ⟨u, keep hu hb⟩, (hb.frozen (p := ⟨b, 0, none⟩) hlt).trans h.z0, (hb.frozen (p := ⟨b, 1, none⟩) hlt).trans h.z1⟩

/-- A result of two cells, stored and read. -/
theorem res2 {W : World} {b : Nat} {u v : Value} (d0 : W.cell? ⟨b, 0, none⟩ = some u) (d1 : W.cell? ⟨b, 1, none⟩ = some v) (x y : Value) :
    (W.setCell ⟨b, 0, none⟩ x).cell? ⟨b, 0, none⟩ = some x ∧ ((W.setCell ⟨b, 0, none⟩ x).setCell ⟨b, 1, none⟩ y).cell? ⟨b, 1, none⟩ = some y :=
  ⟨World.cell?_setCell_same _ _ _ d0, World.cell?_setCell_same _ _ _ ((World.cell?_setCell_other _ _ _ _ (by simp)).trans d1)⟩

theorem below2 {w W : World} {B b : Nat} (h : Below B w W) (hb : B ≤ b) (x y : Value) : Below B w ((W.setCell ⟨b, 0, none⟩ x).setCell ⟨b, 1, none⟩ y) :=
  (h.setCell (p := ⟨b, 0, none⟩) hb x).setCell (p := ⟨b, 1, none⟩) hb y

theorem owns_set2 {W : World} {base b : Nat} {e : TypeId} {size : Nat} {v : Value} {n : Nat} {xs : List Value} (h : W.ownsRow base e size v n xs) (hb : b < base) (x y : Value) :
    ((W.setCell ⟨b, 0, none⟩ x).setCell ⟨b, 1, none⟩ y).ownsRow base e size v n xs :=
  ownsRow_setCell_below (ownsRow_setCell_below h (a := ⟨b, 0, none⟩) hb x) (a := ⟨b, 1, none⟩) hb y

theorem below_drawn {w : World} (d : Nat) : Below w.heap.size w (w.drewN d) := below_drewN (Below.refl _ _) d

theorem drawn_more {w wr : World} (h : ∃ d, wr = w.drewN d) (n : Nat) : ∃ d, wr.drewN n = w.drewN d := by
  obtain ⟨d, rfl⟩ := h
  exact ⟨d + n, by rw [World.drewN_drewN]⟩

theorem ret_bool {a b : Bool} (h : a = b) : Ending.returned (.bool a) = .returned (.bool b) := by rw [h]

def inB (n lo hi : Int) : Bool := decide (lo ≤ n ∧ n ≤ hi)
theorem inB_t {n lo hi : Int} (h : lo ≤ n ∧ n ≤ hi) : inB n lo hi = true := by simpa [inB] using h
theorem inB_f {n lo hi : Int} (h : ¬ (lo ≤ n ∧ n ≤ hi)) : inB n lo hi = false := by unfold inB; exact decide_eq_false h

def addrB (len : Nat) (at_ : Int) : Bool := decide (0 ≤ at_ ∧ at_ < len)
theorem addrB_t {len : Nat} {a : Int} (h : 0 ≤ a ∧ a < len) : addrB len a = true := by simpa [addrB] using h
theorem addrB_f {len : Nat} {a : Int} (h : ¬ (0 ≤ a ∧ a < len)) : addrB len a = false := by unfold addrB; exact decide_eq_false h

def thereB (len : Nat) (i n : Int) : Bool := decide (0 ≤ i ∧ 0 ≤ n ∧ i + n ≤ len)
theorem thereB_t {len : Nat} {i n : Int} (h : 0 ≤ i ∧ 0 ≤ n ∧ i + n ≤ len) : thereB len i n = true := by simpa [thereB] using h
theorem thereB_f {len : Nat} {i n : Int} (h : ¬ (0 ≤ i ∧ 0 ≤ n ∧ i + n ≤ len)) : thereB len i n = false := by unfold thereB; exact decide_eq_false h

theorem made_vals (n : Nat) : (madeCells (Value.int .i64 0).cells (n * 1)).toList = vals (List.replicate n 0) := by
  have h := toList_madeCells_one (Value.int .i64 0) n
  rw [Nat.mul_one]
  exact h.trans (by simp [vals])

theorem rep_snoc (k : Nat) : vals (List.replicate k 0) ++ [Value.int .i64 0] = vals (List.replicate (k + 1) 0) := by
  rw [List.replicate_succ', vals_append]; rfl

/-- A store into an owned row. -/
theorem owns_store {w : World} {base : Nat} {e : TypeId} {g n cap : Nat} {xs : List Int} (h : w.ownsRow base e 1 (.slice (some ⟨g, 0, none⟩) n cap) n (vals xs)) (k : Nat) (hk : k < n) (v : Int) :
    w.cell? ⟨g, k, none⟩ = some (.int .i64 (xs.getD k 0)) ∧ w.frozen? ⟨g, k, none⟩ = false ∧
    (w.setCell ⟨g, k, none⟩ (.int .i64 v)).ownsRow base e 1 (.slice (some ⟨g, 0, none⟩) n cap) n (vals (xs.set k v)) := by
  have hl := owns_len h
  refine ⟨?_, h.frozenAt k, ?_⟩
  · rw [h.cellAt k (by omega), vals_get, List.getElem?_eq_getElem (by omega), List.getD_eq_getElem?_getD, List.getElem?_eq_getElem (by omega)]
    rfl
  · have := (h.stored k (.int .i64 v)).1
    rwa [vals_set] at this

/-- The words behind k links of a chain. -/
def chainK (xs : List Int) (a s : Nat) : Nat → List Int
  | 0 => xs
  | k + 1 => (chainK xs a s k).set (a + s * k) (a + s * k + s : Nat)

theorem chainK_length (xs : List Int) (a s k : Nat) : (chainK xs a s k).length = xs.length := by
  induction k with
  | zero => rfl
  | succ k ih => simp [chainK, ih]

/-- The words of the whole chain of n objects, n at least 1. -/
def chainL (xs : List Int) (a s n : Nat) : List Int := (chainK xs a s (n - 1)).set (a + s * (n - 1)) (-1)

theorem chainL_eq (xs : List Int) (a s n : Nat) (h : 1 ≤ n) : (chainK xs a s n).set (a + s * (n - 1)) (-1) = chainL xs a s n := by
  obtain ⟨m, rfl⟩ : ∃ m, n = m + 1 := ⟨n - 1, by omega⟩
  simp [chainL, chainK]

/-- What is known of the numbers of a chain that is there. -/
structure Fits (len a s n q p : Nat) : Prop where
  s1 : 1 ≤ s
  s2 : s ≤ 64
  n1 : 1 ≤ n
  n2 : n ≤ len
  q_ : (s : Int) * (n : Int) = q
  p_ : (s : Int) * ((n : Int) - 1) = p
  there_ : a + q ≤ len
  pq : p + s = q

theorem fits_mk {len a s n : Nat} (h1 : 1 ≤ s) (h2 : s ≤ 64) (h3 : 1 ≤ n) (h4 : n ≤ len) (h : a + s * n ≤ len) : Fits len a s n (s * n) (s * (n - 1)) := by
  obtain ⟨m, rfl⟩ : ∃ m, n = m + 1 := ⟨n - 1, by omega⟩
  refine ⟨h1, h2, h3, h4, by simp, ?_, h, by simp [Nat.mul_succ]⟩
  have : ((m + 1 : Nat) : Int) - 1 = (m : Int) := by omega
  rw [this]; simp

/-- A part of a slice, cut as Go cuts it. -/
theorem cut_any {w : World} {ao ao' : Option Addr} {xs : List Int} {c l m : Nat} (h : IntsAt w ao xs) (he : ao' = if c = l then ao else ao.map (fun x => x.add l)) (hl : l + m ≤ xs.length) (hc : xs.length ≤ c) : IntsAt w ao' ((xs.drop l).take m) := by
  intro i hi
  have hi' : i < m := by simp at hi; omega
  obtain ⟨b, off, ha, hcell⟩ := h (l + i) (by omega)
  rw [if_neg (by omega), ha] at he
  have hadd : (⟨b, off, none⟩ : Addr).add l = ⟨b, off + l, none⟩ := by unfold Addr.add; split <;> simp_all
  refine ⟨b, off + l, by rw [he]; simp [hadd], ?_⟩
  rw [Nat.add_assoc, hcell]
  simp [List.getD_eq_getElem?_getD, hi']

theorem cut_take {w : World} {ao : Option Addr} {xs : List Int} {m : Nat} (h : IntsAt w ao xs) : IntsAt w ao (xs.take m) := by
  intro i hi
  have hi' : i < m ∧ i < xs.length := by simp at hi; omega
  obtain ⟨b, off, ha, hcell⟩ := h i hi'.2
  refine ⟨b, off, ha, ?_⟩
  rw [hcell]
  simp [List.getD_eq_getElem?_getD, hi'.1]

end Go.Proofs.Ytbjlbmofdnkmiaa.Kit

/-
  OWN TEXT. How an argument that is a slice of integers is opened for the walk ('IsInts'), over whatever program.
-/
namespace Go.Proofs.Ytbjlbmofdnkmiaa.Kit
open Go Go.RowKit Go.ChangeShapes Go.WideShapes Go.ChangeAt

/-- What the walk is told of a slice of integers that came in. -/
structure IsInts (w : World) (ao : Option Addr) (n cap : Nat) (xs : List Int) : Prop where
  len : xs.length = n
  le : n ≤ cap
  reach : cap * 8 ≤ 140737488351232
  nil : ao = none → n = 0 ∧ cap = 0
  at_ : IntsAt w ao xs

theorem open_ints_arg {H : Type} {enc : TypeId × Value → H} {P : Program} {W : World} {base : Nat} {t e : TypeId} {v : Value} {d : DataW H} {p : List MemPlace}
    (ht : P.underlying t = some (.slice e)) (he : P.underlying e = some (.int .i64)) (hc : P.cellsOf e = 1) (hv : Value.okWide P W .any base t v)
    (h : DataW.Trod enc P W 0 (fun _ => true) true t v d p) (hs : ∀ elems spare, d = .slice elems spare → (elems.length + spare.length) * 8 ≤ 140737488351232) :
    ∃ ao n cap xs, v = .slice ao n cap ∧ IsInts W ao n cap xs := by
  obtain ⟨ao, n, cap, rfl⟩ := okWide_slice ht hv
  obtain ⟨fuel, hf⟩ := h
  rcases open_ints ht he hc hf with ⟨hcs, _⟩ | ⟨x, l, c, zs, hcs, _, hl, hm, hz, hx, hcell, _⟩
  · simp [Value.cells] at hcs
    obtain ⟨rfl, rfl, rfl⟩ := hcs
    exact ⟨none, 0, 0, [], rfl, ⟨rfl, by omega, by omega, fun _ => ⟨rfl, rfl⟩, IntsAt.nil _ _⟩⟩
  · simp [Value.cells] at hcs
    obtain ⟨rfl, rfl, rfl⟩ := hcs
    simp only [if_true] at hz
    simp only [Prod.mk.injEq] at hx
    have hr := hs _ _ hx.1
    simp only [lits, List.length_map, List.length_take, List.length_drop] at hr
    have hr' : cap * 8 ≤ 140737488351232 := by omega
    refine ⟨some x, n, cap, zs.take n, rfl, ⟨by simp; omega, hl, hr', fun h => (by cases h), ?_⟩⟩
    intro i hi
    have hi' : i < n := by simp at hi; omega
    have hci := hcell i (by omega)
    obtain ⟨b, off, spot⟩ := x
    have hspot : spot = none := by
      by_cases h0 : i = 0
      · subst h0; simpa [Addr.add] using World.cell?_spot hci
      · have := World.cell?_spot (hcell 0 (by omega)); simpa [Addr.add] using this
    subst hspot
    refine ⟨b, off, rfl, ?_⟩
    have hadd : (⟨b, off, none⟩ : Addr).add i = ⟨b, off + i, none⟩ := by unfold Addr.add; split <;> simp_all
    rw [hadd] at hci
    rw [hci]
    simp [List.getD_eq_getElem?_getD, hi']

end Go.Proofs.Ytbjlbmofdnkmiaa.Kit
