/-
  OWN TEXTS.
-/
import Derived.WalkKit
import Derived.WalkSmall
import Derived.BigQuiet
import Derived.Deep.QuietTactic
import Derived.Laws.CopyOwn
import Derived.Laws.AppendOwnNone
import Derived.ProofKit
import Derived.OpenShut
import Derived.ShutString
import Derived.ChangeOld
import Derived.SizedLaws
import Derived.Lib.SmallJoins
import Derived.Deep.SlicePairs
set_option maxRecDepth 10000
set_option maxHeartbeats 4000000
namespace Go.Proofs.Ytnijjpakpphhhaa.Kit
open Go Go.RowKit
def vals (xs : List Int) : List Value := xs.map (Value.int .i64)
theorem length_vals (xs : List Int) : (vals xs).length = xs.length := by simp [vals]
theorem vals_oneCell (xs : List Int) : ∀ u ∈ vals xs, u.oneCell' = true := ints_oneCell _ _
theorem vals_append (xs ys : List Int) : vals (xs ++ ys) = vals xs ++ vals ys := by simp [vals]
theorem vals_get (xs : List Int) (i : Nat) : (vals xs)[i]? = xs[i]?.map (Value.int .i64) := by simp [vals]
theorem vals_set (xs : List Int) (i : Nat) (x : Int) : (vals xs).set i (.int .i64 x) = vals (xs.set i x) := by simp [vals]
def IntsAt (w : World) (ao : Option Addr) (xs : List Int) : Prop :=
 ∀ i, i < xs.length → ∃ b off, ao = some ⟨b, off, none⟩ ∧ w.cell? ⟨b, off + i, none⟩ = some (.int .i64 (xs.getD i 0))
theorem IntsAt.below {w w' : World} {ao : Option Addr} {xs : List Int} (h : IntsAt w ao xs) (hb : Below w.heap.size w w') : IntsAt w' ao xs := by
 intro i hi
 obtain ⟨b, off, ha, hc⟩ := h i hi
 exact ⟨b, off, ha, (hb.cell (p := ⟨b, off + i, none⟩) (World.block_lt_of_cell? w _ hc)).trans hc⟩
theorem IntsAt.nil (w : World) (ao : Option Addr) : IntsAt w ao [] := fun i hi => absurd hi (by simp)
theorem ints_of_owns {w : World} {base : Nat} {e : TypeId} {ao : Option Addr} {n cap : Nat} {xs : List Int}
    (h : w.ownsRow base e 1 (.slice ao n cap) n (vals xs)) : IntsAt w ao xs := by
 intro i hi
 have hl := h.1
 rcases h.2 with ⟨h', h0⟩ | ⟨g, cap', cur, h', _, hg, _, _, _, htake⟩
 ·simp [length_vals] at hl
  omega
 ·simp only [Value.slice.injEq] at h'
  obtain ⟨rfl, _, rfl⟩ := h'
  refine ⟨g, 0, rfl, ?_⟩
  have hc := h.cellAt i (by simp [length_vals] at hl; omega)
  simp only [Nat.zero_add]
  rw [hc, vals_get, List.getD_eq_getElem?_getD]
  simp [hi]
theorem owns_len {w : World} {base : Nat} {e : TypeId} {v : Value} {n : Nat} {xs : List Int}
    (h : w.ownsRow base e 1 v n (vals xs)) : xs.length = n := by simpa [length_vals] using h.1
theorem owns_shape {w : World} {base : Nat} {e : TypeId} {size : Nat} {v : Value} {n : Nat} {xs : List Value} (h : w.ownsRow base e size v n xs) : ∃ ao cap, v = .slice ao n cap := by
 rcases h.2 with ⟨rfl, rfl⟩ | ⟨g, cap, cur, rfl, _⟩
 ·exact ⟨none, 0, rfl⟩
 ·exact ⟨some ⟨g, 0, none⟩, cap, rfl⟩
theorem owns_cap {w : World} {base : Nat} {e : TypeId} {size : Nat} {ao : Option Addr} {n cap : Nat} {xs : List Value} (h : w.ownsRow base e size (.slice ao n cap) n xs) : n ≤ cap := by
 rcases h.2 with ⟨h', h0⟩ | ⟨g, cap', cur, h', hb, hg, hc, _⟩
 ·omega
 ·simp only [Value.slice.injEq] at h'
  omega
theorem owns_head {w : World} {base : Nat} {e : TypeId} {ao : Option Addr} {n cap : Nat} {size : Nat} {xs : List Value} (h : w.ownsRow base e size (.slice ao n cap) n xs) (hn : 0 < n) : ∃ g, ao = some ⟨g, 0, none⟩ ∧ base ≤ g ∧ g < w.heap.size := by
 rcases h.2 with ⟨h', h0⟩ | ⟨g, cap', cur, h', hb, hg, _⟩
 ·omega
 ·simp only [Value.slice.injEq] at h'
  exact ⟨g, h'.1, hb, (Array.getElem?_eq_some_iff.1 hg).1⟩
theorem owns_below {w w' : World} {B base : Nat} {e : TypeId} {size : Nat} {v : Value} {n : Nat} {xs : List Value} (h : w.ownsRow base e size v n xs) (hb : Below B w w') (hB : w.heap.size ≤ B) : w'.ownsRow base e size v n xs := by
 refine ⟨h.1, ?_⟩
 rcases h.2 with hn | ⟨g, cap, cur, rfl, hbg, hg, rest⟩
 ·exact .inl hn
 ·refine .inr ⟨g, cap, cur, rfl, hbg, ?_, rest⟩
  have hlt := (Array.getElem?_eq_some_iff.1 hg).1
  rw [hb.block g (by omega)]
  exact hg
theorem owns_weaken {w : World} {base base' : Nat} {e : TypeId} {size : Nat} {v : Value} {n : Nat} {xs : List Value} (h : w.ownsRow base e size v n xs) (hb : base' ≤ base) : w.ownsRow base' e size v n xs := by
 refine ⟨h.1, ?_⟩
 rcases h.2 with hn | ⟨g, cap, cur, rfl, hbg, rest⟩
 ·exact .inl hn
 ·exact .inr ⟨g, cap, cur, rfl, by omega, rest⟩
theorem cell_one_new' (w : World) (a : Value) (t : TypeId) : ∀ j u, [a][j]? = some u → (w.alloc (.cells #[a] t)).cell? ((⟨w.heap.size, 0, none⟩ : Addr).add j) = some u := by
 intro j u hj
 match j, hj with
 | 0, hj => simp at hj; subst hj; simp [Addr.add]
 | j + 1, hj => simp at hj
theorem owns_full {w : World} {base : Nat} {e : TypeId} {g n : Nat} {xs : List Value} (h : w.ownsRow base e 1 (.slice (some ⟨g, 0, none⟩) n n) n xs) : w.heap[g]? = some (.cells xs.toArray e (0, 0)) := by
 rcases h.2 with ⟨h', _⟩ | ⟨g', cap', cur, h', _, hg, _, _, hsz, htake⟩
 ·cases h'
 ·simp only [Value.slice.injEq, Option.some.injEq, Addr.mk.injEq, true_and, and_true] at h'
  obtain ⟨rfl, rfl⟩ := h'
  rw [List.take_of_length_le (by simp; omega)] at htake
  rw [← htake]
  simpa using hg
theorem owns_of_heap {w : World} {base : Nat} {e : TypeId} {g n : Nat} {xs : List Value} (h : w.heap[g]? = some (.cells xs.toArray e (0, 0))) (hb : base ≤ g) (hl : xs.length = n) (hm : n ≤ maxLen) :
    w.ownsRow base e 1 (.slice (some ⟨g, 0, none⟩) n n) n xs :=
 ⟨by simpa using hl, .inr ⟨g, n, _, rfl, hb, h, Nat.le_refl _, hm, by simpa using hl, by simpa using List.take_of_length_le (by omega)⟩⟩
theorem splice_all {α : Type} {L cs : List α} (h : L.length = cs.length) : splice L 0 cs = cs := by
 unfold splice
 rw [List.drop_eq_nil_of_le (by omega)]
 simp
theorem src_of {w : World} {ao : Option Addr} {xs : List Int} (h : IntsAt w ao xs) (h0 : 0 < xs.length) : ∃ ad, ao = some ad ∧ ∀ j v, (vals xs)[j]? = some v → w.cell? (ad.add j) = some v := by
 obtain ⟨b, off, rfl, _⟩ := h 0 h0
 refine ⟨_, rfl, fun j v hj => ?_⟩
 rw [vals_get] at hj
 by_cases hlt : j < xs.length
 ·obtain ⟨b', off', he, hc⟩ := h j hlt
  simp only [Option.some.injEq, Addr.mk.injEq, and_true] at he
  obtain ⟨rfl, rfl⟩ := he
  rw [List.getElem?_eq_getElem hlt] at hj
  simp only [Option.map_some, Option.some.injEq] at hj
  subst hj
  rw [List.getD_eq_getElem?_getD, List.getElem?_eq_getElem hlt] at hc
  have hadd : (⟨b, off, none⟩ : Addr).add j = ⟨b, off + j, none⟩ := by unfold Addr.add; split <;> simp_all
  rw [hadd]
  simpa using hc
 ·rw [List.getElem?_eq_none (by omega)] at hj
  cases hj
theorem take_snoc (xs : List Int) (k : Nat) (h : k < xs.length) {x : Int} (hx : xs.getD k 0 = x) : vals (xs.take k) ++ [Value.int .i64 x] = vals (xs.take (k + 1)) := by
 rw [List.getD_eq_getElem?_getD, List.getElem?_eq_getElem h] at hx
 simp only [Option.getD_some] at hx
 rw [List.take_succ_eq_append_getElem h, vals_append, hx]
 rfl
theorem IntsAt.at {w : World} {ao : Option Addr} {xs : List Int} (h : IntsAt w ao xs) (k : Nat) (hk : k < xs.length) : ∃ b off x, ao = some ⟨b, off, none⟩ ∧ w.cell? ⟨b, off + k, none⟩ = some (.int .i64 x) ∧ Hid (xs.getD k 0 = x) := by
 obtain ⟨b, off, ha, hc⟩ := h k hk
 exact ⟨b, off, _, ha, hc, rfl⟩
def Fresh (B : Nat) (ao : Option Addr) : Prop := ∀ a, ao = some a → B ≤ a.block
theorem owns_fresh {w : World} {base : Nat} {e : TypeId} {size : Nat} {ao : Option Addr} {n cap : Nat} {xs : List Value} (h : w.ownsRow base e size (.slice ao n cap) n xs) : Fresh base ao := by
 intro a ha
 rcases h.2 with ⟨h', _⟩ | ⟨g, cap', cur, h', hb, _⟩
 ·simp only [Value.slice.injEq] at h'
  rw [h'.1] at ha
  cases ha
 ·simp only [Value.slice.injEq] at h'
  rw [h'.1] at ha
  cases ha
  exact hb
theorem keep {W W' : World} {b o : Nat} {v : Value} (h : W.cell? ⟨b, o, none⟩ = some v) (hb : Below W.heap.size W W') : W'.cell? ⟨b, o, none⟩ = some v :=
 (hb.cell (p := ⟨b, o, none⟩) (World.block_lt_of_cell? W _ h)).trans h
structure Res2 (W : World) (b : Nat) : Prop where
 d0 : ∃ v, W.cell? ⟨b, 0, none⟩ = some v
 d1 : ∃ v, W.cell? ⟨b, 1, none⟩ = some v
 z0 : W.frozen? ⟨b, 0, none⟩ = false
 z1 : W.frozen? ⟨b, 1, none⟩ = false
theorem Res2.below {W W' : World} {b : Nat} (h : Res2 W b) (hb : Below W.heap.size W W') : Res2 W' b := by
 obtain ⟨v, hv⟩ := h.d0
 obtain ⟨u, hu⟩ := h.d1
 have hlt := World.block_lt_of_cell? W _ hv
 exact ⟨⟨v, keep hv hb⟩, ⟨u, keep hu hb⟩, (hb.frozen (p := ⟨b, 0, none⟩) hlt).trans h.z0, (hb.frozen (p := ⟨b, 1, none⟩) hlt).trans h.z1⟩
theorem res2 {W : World} {b : Nat} {u v : Value} (d0 : W.cell? ⟨b, 0, none⟩ = some u) (d1 : W.cell? ⟨b, 1, none⟩ = some v) (x y : Value) :
    (W.setCell ⟨b, 0, none⟩ x).cell? ⟨b, 0, none⟩ = some x ∧ ((W.setCell ⟨b, 0, none⟩ x).setCell ⟨b, 1, none⟩ y).cell? ⟨b, 1, none⟩ = some y :=
 ⟨World.cell?_setCell_same _ _ _ d0, World.cell?_setCell_same _ _ _ ((World.cell?_setCell_other _ _ _ _ (by simp)).trans d1)⟩
theorem below2 {w W : World} {B b : Nat} (h : Below B w W) (hb : B ≤ b) (x y : Value) : Below B w ((W.setCell ⟨b, 0, none⟩ x).setCell ⟨b, 1, none⟩ y) :=
 (h.setCell (p := ⟨b, 0, none⟩) hb x).setCell (p := ⟨b, 1, none⟩) hb y
theorem owns_set2 {W : World} {base b : Nat} {e : TypeId} {size : Nat} {v : Value} {n : Nat} {xs : List Value} (h : W.ownsRow base e size v n xs) (hb : b < base) (x y : Value) :
    ((W.setCell ⟨b, 0, none⟩ x).setCell ⟨b, 1, none⟩ y).ownsRow base e size v n xs :=
 ownsRow_setCell_below (ownsRow_setCell_below h (a := ⟨b, 0, none⟩) hb x) (a := ⟨b, 1, none⟩) hb y
theorem below_drawn {w : World} (d : Nat) : Below w.heap.size w (w.drewN d) := below_drewN (Below.refl _ _) d
theorem drawn_more {w wr : World} (h : ∃ d, wr = w.drewN d) (n : Nat) : ∃ d, wr.drewN n = w.drewN d := by
 obtain ⟨d, rfl⟩ := h
 exact ⟨d + n, by rw [World.drewN_drewN]⟩
theorem ret_bool {a b : Bool} (h : a = b) : Ending.returned (.bool a) = .returned (.bool b) := by rw [h]
def inB (n lo hi : Int) : Bool := decide (lo ≤ n ∧ n ≤ hi)
theorem inB_t {n lo hi : Int} (h : lo ≤ n ∧ n ≤ hi) : inB n lo hi = true := by simpa [inB] using h
theorem inB_f {n lo hi : Int} (h : ¬ (lo ≤ n ∧ n ≤ hi)) : inB n lo hi = false := by unfold inB; exact decide_eq_false h
def addrB (len : Nat) (at_ : Int) : Bool := decide (0 ≤ at_ ∧ at_ < len)
theorem addrB_t {len : Nat} {a : Int} (h : 0 ≤ a ∧ a < len) : addrB len a = true := by simpa [addrB] using h
theorem addrB_f {len : Nat} {a : Int} (h : ¬ (0 ≤ a ∧ a < len)) : addrB len a = false := by unfold addrB; exact decide_eq_false h
def thereB (len : Nat) (i n : Int) : Bool := decide (0 ≤ i ∧ 0 ≤ n ∧ i + n ≤ len)
theorem thereB_t {len : Nat} {i n : Int} (h : 0 ≤ i ∧ 0 ≤ n ∧ i + n ≤ len) : thereB len i n = true := by simpa [thereB] using h
theorem thereB_f {len : Nat} {i n : Int} (h : ¬ (0 ≤ i ∧ 0 ≤ n ∧ i + n ≤ len)) : thereB len i n = false := by unfold thereB; exact decide_eq_false h
theorem made_vals (n : Nat) : (madeCells (Value.int .i64 0).cells (n * 1)).toList = vals (List.replicate n 0) := by
 have h := toList_madeCells_one (Value.int .i64 0) n
 rw [Nat.mul_one]
 exact h.trans (by simp [vals])
theorem rep_snoc (k : Nat) : vals (List.replicate k 0) ++ [Value.int .i64 0] = vals (List.replicate (k + 1) 0) := by
 rw [List.replicate_succ', vals_append]; rfl
theorem owns_store {w : World} {base : Nat} {e : TypeId} {g n cap : Nat} {xs : List Int} (h : w.ownsRow base e 1 (.slice (some ⟨g, 0, none⟩) n cap) n (vals xs)) (k : Nat) (hk : k < n) (v : Int) :
    w.cell? ⟨g, k, none⟩ = some (.int .i64 (xs.getD k 0)) ∧ w.frozen? ⟨g, k, none⟩ = false ∧
    (w.setCell ⟨g, k, none⟩ (.int .i64 v)).ownsRow base e 1 (.slice (some ⟨g, 0, none⟩) n cap) n (vals (xs.set k v)) := by
 have hl := owns_len h
 refine ⟨?_, h.frozenAt k, ?_⟩
 ·rw [h.cellAt k (by omega), vals_get, List.getElem?_eq_getElem (by omega), List.getD_eq_getElem?_getD, List.getElem?_eq_getElem (by omega)]
  rfl
 ·have := (h.stored k (.int .i64 v)).1
  rwa [vals_set] at this
def chainK (xs : List Int) (a s : Nat) : Nat → List Int
 | 0 => xs
 | k + 1 => (chainK xs a s k).set (a + s * k) (a + s * k + s : Nat)
theorem chainK_length (xs : List Int) (a s k : Nat) : (chainK xs a s k).length = xs.length := by
 induction k with
 | zero => rfl
 | succ k ih => simp [chainK, ih]
def chainL (xs : List Int) (a s n : Nat) : List Int := (chainK xs a s (n - 1)).set (a + s * (n - 1)) (-1)
theorem chainL_eq (xs : List Int) (a s n : Nat) (h : 1 ≤ n) : (chainK xs a s n).set (a + s * (n - 1)) (-1) = chainL xs a s n := by
 obtain ⟨m, rfl⟩ : ∃ m, n = m + 1 := ⟨n - 1, by omega⟩
 simp [chainL, chainK]
structure Fits (len a s n q p : Nat) : Prop where
 s1 : 1 ≤ s
 s2 : s ≤ 64
 n1 : 1 ≤ n
 n2 : n ≤ len
 q_ : (s : Int) * (n : Int) = q
 p_ : (s : Int) * ((n : Int) - 1) = p
 there_ : a + q ≤ len
 pq : p + s = q
theorem fits_mk {len a s n : Nat} (h1 : 1 ≤ s) (h2 : s ≤ 64) (h3 : 1 ≤ n) (h4 : n ≤ len) (h : a + s * n ≤ len) : Fits len a s n (s * n) (s * (n - 1)) := by
 obtain ⟨m, rfl⟩ : ∃ m, n = m + 1 := ⟨n - 1, by omega⟩
 refine ⟨h1, h2, h3, h4, by simp, ?_, h, by simp [Nat.mul_succ]⟩
 have : ((m + 1 : Nat) : Int) - 1 = (m : Int) := by omega
 rw [this]; simp
theorem cut_any {w : World} {ao ao' : Option Addr} {xs : List Int} {c l m : Nat} (h : IntsAt w ao xs) (he : ao' = if c = l then ao else ao.map (fun x => x.add l)) (hl : l + m ≤ xs.length) (hc : xs.length ≤ c) : IntsAt w ao' ((xs.drop l).take m) := by
 intro i hi
 have hi' : i < m := by simp at hi; omega
 obtain ⟨b, off, ha, hcell⟩ := h (l + i) (by omega)
 rw [if_neg (by omega), ha] at he
 have hadd : (⟨b, off, none⟩ : Addr).add l = ⟨b, off + l, none⟩ := by unfold Addr.add; split <;> simp_all
 refine ⟨b, off + l, by rw [he]; simp [hadd], ?_⟩
 rw [Nat.add_assoc, hcell]
 simp [List.getD_eq_getElem?_getD, hi']
theorem cut_take {w : World} {ao : Option Addr} {xs : List Int} {m : Nat} (h : IntsAt w ao xs) : IntsAt w ao (xs.take m) := by
 intro i hi
 have hi' : i < m ∧ i < xs.length := by simp at hi; omega
 obtain ⟨b, off, ha, hcell⟩ := h i hi'.2
 refine ⟨b, off, ha, ?_⟩
 rw [hcell]
 simp [List.getD_eq_getElem?_getD, hi'.1]
open Go Go.RowKit Go.ChangeShapes Go.WideShapes Go.ChangeAt
structure IsInts (w : World) (ao : Option Addr) (n cap : Nat) (xs : List Int) : Prop where
 len : xs.length = n
 le : n ≤ cap
 reach : cap * 8 ≤ 140737488351232
 nil : ao = none → n = 0 ∧ cap = 0
 at_ : IntsAt w ao xs
theorem open_ints_arg {H : Type} {enc : TypeId × Value → H} {P : Program} {W : World} {base : Nat} {t e : TypeId} {v : Value} {d : DataW H} {p : List MemPlace}
    (ht : P.underlying t = some (.slice e)) (he : P.underlying e = some (.int .i64)) (hc : P.cellsOf e = 1) (hv : Value.okWide P W .any base t v)
    (h : DataW.Trod enc P W 0 (fun _ => true) true t v d p) (hs : ∀ elems spare, d = .slice elems spare → (elems.length + spare.length) * 8 ≤ 140737488351232) :
    ∃ ao n cap xs, v = .slice ao n cap ∧ IsInts W ao n cap xs := by
 obtain ⟨ao, n, cap, rfl⟩ := okWide_slice ht hv
 obtain ⟨fuel, hf⟩ := h
 rcases open_ints ht he hc hf with ⟨hcs, _⟩ | ⟨x, l, c, zs, hcs, _, hl, hm, hz, hx, hcell, _⟩
 ·simp [Value.cells] at hcs
  obtain ⟨rfl, rfl, rfl⟩ := hcs
  exact ⟨none, 0, 0, [], rfl, ⟨rfl, by omega, by omega, fun _ => ⟨rfl, rfl⟩, IntsAt.nil _ _⟩⟩
 ·simp [Value.cells] at hcs
  obtain ⟨rfl, rfl, rfl⟩ := hcs
  simp only [if_true] at hz
  simp only [Prod.mk.injEq] at hx
  have hr := hs _ _ hx.1
  simp only [lits, List.length_map, List.length_take, List.length_drop] at hr
  have hr' : cap * 8 ≤ 140737488351232 := by omega
  refine ⟨some x, n, cap, zs.take n, rfl, ⟨by simp; omega, hl, hr', fun h => (by cases h), ?_⟩⟩
  intro i hi
  have hi' : i < n := by simp at hi; omega
  have hci := hcell i (by omega)
  obtain ⟨b, off, spot⟩ := x
  have hspot : spot = none := by
   by_cases h0 : i = 0
   ·subst h0; simpa [Addr.add] using World.cell?_spot hci
   ·have := World.cell?_spot (hcell 0 (by omega)); simpa [Addr.add] using this
  subst hspot
  refine ⟨b, off, rfl, ?_⟩
  have hadd : (⟨b, off, none⟩ : Addr).add i = ⟨b, off + i, none⟩ := by unfold Addr.add; split <;> simp_all
  rw [hadd] at hci
  rw [hci]
  simp [List.getD_eq_getElem?_getD, hi']
def Sized {H : Type} (P : Program) (t : TypeId) (d : DataW H) : Prop := ∀ n ∈ d.weights P t, n ≤ reachBytes
theorem sized_arg {H : Type} {P : Program} {ts : List TypeId} {ds : List (DataW H)} (h : (DataW.weightsEach P ts ds).all (· ≤ reachBytes) = true) {j : Nat} {t : TypeId} {d : DataW H} (ht : ts[j]? = some t) (hd : ds[j]? = some d) : Sized P t d := by
 intro n hn
 have := List.all_eq_true.1 h _ (DataW.weights_mem_each ht hd n hn)
 simpa using this
theorem sized_field {H : Type} {P : Program} {t u : TypeId} {fs : Array Field} {parts : List (DataW H)} {d : DataW H} (h : Sized P t (.agg parts)) (ht : P.underlying t = some (.struct fs)) {i : Nat} (hu : (fs.toList.map (·.type))[i]? = some u) (hd : parts[i]? = some d) : Sized P u d := by
 intro n hn
 apply h
 have := DataW.weights_mem_each hu hd n hn
 simpa [DataW.weights, ht] using this
theorem sized_sl {H : Type} {P : Program} {t e : TypeId} {elems spare : List (DataW H)} (h : Sized P t (.slice elems spare)) (ht : P.underlying t = some (.slice e)) : (elems.length + spare.length) * P.bytesOf e ≤ reachBytes :=
 h _ (by simp [DataW.weights, ht])
def rvals : List (Int × Int) → List Value
 | [] => []
 | r :: l => Value.int .i64 r.1 :: Value.int .i64 r.2 :: rvals l
theorem length_rvals (l : List (Int × Int)) : (rvals l).length = l.length * 2 := by
 induction l with
 | nil => rfl
 | cons r l ih => simp only [rvals, List.length_cons, ih]; omega
theorem rvals_append (l m : List (Int × Int)) : rvals (l ++ m) = rvals l ++ rvals m := by
 induction l with
 | nil => rfl
 | cons r l ih => simp [rvals, ih]
theorem rvals_fst (l : List (Int × Int)) (i : Nat) (h : i < l.length) : (rvals l)[i * 2]? = some (.int .i64 (l.getD i (0, 0)).1) := by
 induction l generalizing i with
 | nil => simp at h
 | cons r l ih =>
  cases i with
  | zero => simp [rvals]
  | succ i =>
   have := ih i (by simpa using h)
   rw [Nat.succ_mul]
   simpa [rvals] using this
theorem rvals_snd (l : List (Int × Int)) (i : Nat) (h : i < l.length) : (rvals l)[i * 2 + 1]? = some (.int .i64 (l.getD i (0, 0)).2) := by
 induction l generalizing i with
 | nil => simp at h
 | cons r l ih =>
  cases i with
  | zero => simp [rvals]
  | succ i =>
   have := ih i (by simpa using h)
   rw [Nat.succ_mul]
   simpa [rvals] using this
theorem rvals_oneCell (l : List (Int × Int)) : ∀ u ∈ rvals l, u.oneCell' = true := by
 induction l with
 | nil => intro u hu; simp [rvals] at hu
 | cons r l ih =>
  intro u hu
  simp only [rvals, List.mem_cons] at hu
  rcases hu with rfl | rfl | hu
  ·rfl
  ·rfl
  ·exact ih u hu
theorem rvals_set_snd (l : List (Int × Int)) (i : Nat) (x : Int) (h : i < l.length) : (rvals l).set (i * 2 + 1) (.int .i64 x) = rvals (l.set i ((l.getD i (0, 0)).1, x)) := by
 induction l generalizing i with
 | nil => simp at h
 | cons r l ih =>
  cases i with
  | zero => simp [rvals]
  | succ i =>
   have := ih i (by simpa using h)
   rw [Nat.succ_mul]
   simpa [rvals] using this
def RegsAt (w : World) (ao : Option Addr) (l : List (Int × Int)) : Prop :=
 ∀ i, i < l.length → ∃ b off, ao = some ⟨b, off, none⟩ ∧ w.cell? ⟨b, off + i * 2, none⟩ = some (.int .i64 (l.getD i (0, 0)).1) ∧ w.cell? ⟨b, off + i * 2 + 1, none⟩ = some (.int .i64 (l.getD i (0, 0)).2)
theorem RegsAt.below {w w' : World} {ao : Option Addr} {l : List (Int × Int)} (h : RegsAt w ao l) (hb : Below w.heap.size w w') : RegsAt w' ao l := by
 intro i hi
 obtain ⟨b, off, ha, h1, h2⟩ := h i hi
 exact ⟨b, off, ha, (hb.cell (p := ⟨b, off + i * 2, none⟩) (World.block_lt_of_cell? w _ h1)).trans h1, (hb.cell (p := ⟨b, off + i * 2 + 1, none⟩) (World.block_lt_of_cell? w _ h2)).trans h2⟩
theorem RegsAt.nil (w : World) (ao : Option Addr) : RegsAt w ao [] := fun i hi => absurd hi (by simp)
theorem regs_of_owns {w : World} {base : Nat} {e : TypeId} {ao : Option Addr} {n cap : Nat} {l : List (Int × Int)}
    (h : w.ownsRow base e 2 (.slice ao n cap) n (rvals l)) : RegsAt w ao l := by
 intro i hi
 have hl := h.1
 rw [length_rvals] at hl
 rcases h.2 with ⟨h', h0⟩ | ⟨g, cap', cur, h', _, hg, _, _, _, htake⟩
 ·omega
 ·simp only [Value.slice.injEq] at h'
  obtain ⟨rfl, _, rfl⟩ := h'
  refine ⟨g, 0, rfl, ?_, ?_⟩
  ·rw [Nat.zero_add, h.cellAt (i * 2) (by omega), rvals_fst l i hi]
  ·rw [Nat.zero_add, h.cellAt (i * 2 + 1) (by omega), rvals_snd l i hi]
theorem rowns_len {w : World} {base : Nat} {e : TypeId} {v : Value} {n : Nat} {l : List (Int × Int)}
    (h : w.ownsRow base e 2 v n (rvals l)) : l.length = n := by have := h.1; rw [length_rvals] at this; omega
theorem rsrc_of {w : World} {ao : Option Addr} {l : List (Int × Int)} (h : RegsAt w ao l) (h0 : 0 < l.length) : ∃ ad, ao = some ad ∧ ∀ j v, (rvals l)[j]? = some v → w.cell? (ad.add j) = some v := by
 obtain ⟨b, off, rfl, _⟩ := h 0 h0
 refine ⟨_, rfl, fun j v hj => ?_⟩
 have hadd : (⟨b, off, none⟩ : Addr).add j = ⟨b, off + j, none⟩ := by unfold Addr.add; split <;> simp_all
 rw [hadd]
 have hlt : j < (rvals l).length := (List.getElem?_eq_some_iff.1 hj).1
 rw [length_rvals] at hlt
 obtain ⟨b', off', he, c1, c2⟩ := h (j / 2) (by omega)
 simp only [Option.some.injEq, Addr.mk.injEq, and_true] at he
 obtain ⟨rfl, rfl⟩ := he
 rcases Nat.mod_two_eq_zero_or_one j with hm | hm
 ·have e1 : j = j / 2 * 2 := by omega
  rw [e1, rvals_fst l _ (by omega)] at hj
  rw [← e1] at c1
  rw [c1]; exact hj
 ·have e1 : j = j / 2 * 2 + 1 := by omega
  rw [e1, rvals_snd l _ (by omega)] at hj
  have e2 : off + j / 2 * 2 + 1 = off + j := by omega
  rw [e2] at c2
  rw [c2]; exact hj
theorem RegsAt.at {w : World} {ao : Option Addr} {l : List (Int × Int)} (h : RegsAt w ao l) (k : Nat) (hk : k < l.length) : ∃ b off x y, ao = some ⟨b, off, none⟩ ∧ w.cell? ⟨b, off + k * 2, none⟩ = some (.int .i64 x) ∧ w.cell? ⟨b, off + k * 2 + 1, none⟩ = some (.int .i64 y) ∧ Hid (l.getD k (0, 0) = (x, y)) := by
 obtain ⟨b, off, ha, h1, h2⟩ := h k hk
 exact ⟨b, off, _, _, ha, h1, h2, rfl⟩
theorem rtake_snoc (l : List (Int × Int)) (k : Nat) (h : k < l.length) {x y : Int} (hx : l.getD k (0, 0) = (x, y)) : rvals (l.take k) ++ [Value.int .i64 x, Value.int .i64 y] = rvals (l.take (k + 1)) := by
 rw [List.getD_eq_getElem?_getD, List.getElem?_eq_getElem h] at hx
 simp only [Option.getD_some] at hx
 rw [List.take_succ_eq_append_getElem h, rvals_append, hx]
 rfl
structure Regs (w : World) (ao : Option Addr) (n : Nat) (l : List (Int × Int)) : Prop where
 len : l.length = n
 reach : n * 16 ≤ 140737488351232
 at_ : RegsAt w ao l
theorem Regs.below {w w' : World} {ao : Option Addr} {n : Nat} {l : List (Int × Int)} (h : Regs w ao n l) (hb : Below w.heap.size w w') : Regs w' ao n l := ⟨h.len, h.reach, h.at_.below hb⟩
theorem regs_set2 {W : World} {ao : Option Addr} {n b : Nat} {l : List (Int × Int)} (h : Regs W ao n l) (hne : ∀ a, ao = some a → a.block ≠ b) (x y : Value) : Regs ((W.setCell ⟨b, 0, none⟩ x).setCell ⟨b, 1, none⟩ y) ao n l := by
 refine ⟨h.len, h.reach, fun i hi => ?_⟩
 obtain ⟨c, o, ha, h1, h2⟩ := h.at_ i hi
 have hn := hne _ ha
 have key : ∀ j, ((W.setCell ⟨b, 0, none⟩ x).setCell ⟨b, 1, none⟩ y).cell? ⟨c, j, none⟩ = W.cell? ⟨c, j, none⟩ := fun j =>
  (World.cell?_setCell_other _ _ _ _ (by intro e; cases e; exact hn rfl)).trans (World.cell?_setCell_other _ _ _ _ (by intro e; cases e; exact hn rfl))
 exact ⟨c, o, ha, (key _).trans h1, (key _).trans h2⟩
structure IsRegs (w : World) (ao : Option Addr) (n cap : Nat) (l : List (Int × Int)) : Prop where
 len : l.length = n
 le : n ≤ cap
 reach : cap * 16 ≤ 140737488351232
 nil : ao = none → n = 0 ∧ cap = 0
 at_ : RegsAt w ao l
 wf : ∀ r ∈ l, (-9223372036854775808 ≤ r.1 ∧ r.1 ≤ 9223372036854775807) ∧ (-9223372036854775808 ≤ r.2 ∧ r.2 ≤ 9223372036854775807)
theorem IsRegs.below {w w' : World} {ao : Option Addr} {n cap : Nat} {l : List (Int × Int)} (h : IsRegs w ao n cap l) (hb : Below w.heap.size w w') : IsRegs w' ao n cap l :=
 ⟨h.len, h.le, h.reach, h.nil, h.at_.below hb, h.wf⟩
theorem IsRegs.regs {w : World} {ao : Option Addr} {n cap : Nat} {l : List (Int × Int)} (h : IsRegs w ao n cap l) : Regs w ao n l :=
 ⟨h.len, by have := h.reach; have := h.le; omega, h.at_⟩
def RetIff (e : Ending) (p : Prop) : Prop := ∃ r : Bool, e = .returned (.bool r) ∧ (r = true ↔ p)
def regOk (r : Int × Int) : Prop := 0 ≤ r.1 ∧ r.1 ≤ 255 ∧ 1 ≤ r.2 ∧ r.2 ≤ 256 ∧ r.1 + r.2 ≤ 256
structure MayP (l : List (Int × Int)) : Prop where
 len : l.length ≤ 40
 ok : ∀ i, i < l.length → regOk (l.getD i (0, 0))
 gap : ∀ i, i + 1 < l.length → (l.getD i (0, 0)).1 + (l.getD i (0, 0)).2 < (l.getD (i + 1) (0, 0)).1
def inL (l : List (Int × Int)) (p : Int) : Bool := l.any fun r => decide (r.1 ≤ p ∧ p ≤ r.1 + r.2 - 1)
def TopL (l : List (Int × Int)) : Prop := ∀ r ∈ l, r.2 ≤ 9223372036854775807
theorem TopL.at {l : List (Int × Int)} (h : TopL l) (k : Nat) (hk : k < l.length) {x y : Int} (e : l.getD k (0, 0) = (x, y)) : y ≤ 9223372036854775807 := by
 rw [List.getD_eq_getElem?_getD, List.getElem?_eq_getElem hk] at e
 have := h _ (List.getElem_mem hk)
 simp only [Option.getD_some] at e
 rw [e] at this
 exact this
theorem IsRegs.top {w : World} {ao : Option Addr} {n cap : Nat} {l : List (Int × Int)} (h : IsRegs w ao n cap l) : TopL l := fun r hr => (h.wf r hr).2.2
theorem wf_top {s : Int} (h : (Lit.int .i64 s).wf = true) : s ≤ 9223372036854775807 := by
 have := bounds_i64 h
 omega
def Canon (hi : Int) : Int → List (Int × Int) → Prop
 | _, [] => True
 | lo, r :: l => lo ≤ r.1 ∧ 1 ≤ r.2 ∧ r.1 + r.2 ≤ hi ∧ Canon hi (r.1 + r.2 + 1) l
def endOf : Int → List (Int × Int) → Int
 | lo, [] => lo
 | _, r :: l => endOf (r.1 + r.2 + 1) l
theorem endOf_snoc (lo : Int) (l : List (Int × Int)) (r : Int × Int) : endOf lo (l ++ [r]) = r.1 + r.2 + 1 := by
 induction l generalizing lo with
 | nil => rfl
 | cons a l ih => exact ih _
theorem canon_snoc (hi lo : Int) (l : List (Int × Int)) (r : Int × Int) : Canon hi lo (l ++ [r]) ↔ Canon hi lo l ∧ endOf lo l ≤ r.1 ∧ 1 ≤ r.2 ∧ r.1 + r.2 ≤ hi := by
 induction l generalizing lo with
 | nil => simp [Canon, endOf]
 | cons a l ih =>
  show lo ≤ a.1 ∧ 1 ≤ a.2 ∧ a.1 + a.2 ≤ hi ∧ Canon hi (a.1 + a.2 + 1) (l ++ [r]) ↔ (lo ≤ a.1 ∧ 1 ≤ a.2 ∧ a.1 + a.2 ≤ hi ∧ Canon hi (a.1 + a.2 + 1) l) ∧ endOf (a.1 + a.2 + 1) l ≤ r.1 ∧ 1 ≤ r.2 ∧ r.1 + r.2 ≤ hi
  rw [ih]
  constructor
  ·rintro ⟨h1, h2, h3, h4, h5, h6, h7⟩; exact ⟨⟨h1, h2, h3, h4⟩, h5, h6, h7⟩
  ·rintro ⟨⟨h1, h2, h3, h4⟩, h5, h6, h7⟩; exact ⟨h1, h2, h3, h4, h5, h6, h7⟩
theorem canon_end {hi lo : Int} {l : List (Int × Int)} (h : Canon hi lo l) : lo ≤ endOf lo l := by
 induction l generalizing lo with
 | nil => exact Int.le_refl _
 | cons a l ih =>
  obtain ⟨a1, a2, a3, a4⟩ := h
  have := ih a4
  show lo ≤ endOf (a.1 + a.2 + 1) l
  omega
theorem canon_mono {hi hi' lo lo' : Int} {l : List (Int × Int)} (h : Canon hi lo l) (h1 : hi ≤ hi') (h2 : lo' ≤ lo) : Canon hi' lo' l := by
 induction l generalizing lo lo' with
 | nil => trivial
 | cons a l ih =>
  obtain ⟨a1, a2, a3, a4⟩ := h
  exact ⟨by omega, a2, by omega, ih a4 (Int.le_refl _)⟩
theorem inL_cons (a : Int × Int) (l : List (Int × Int)) (p : Int) : inL (a :: l) p = (decide (a.1 ≤ p ∧ p ≤ a.1 + a.2 - 1) || inL l p) := rfl
theorem inL_append (l m : List (Int × Int)) (p : Int) : inL (l ++ m) p = (inL l p || inL m p) := by simp [inL, List.any_append]
theorem inL_below {hi lo : Int} {l : List (Int × Int)} (h : Canon hi lo l) {p : Int} (hp : p < lo) : inL l p = false := by
 induction l generalizing lo with
 | nil => rfl
 | cons a l ih =>
  obtain ⟨a1, a2, a3, a4⟩ := h
  rw [inL_cons, ih a4 (by omega), Bool.or_false]
  exact decide_eq_false (by omega)
theorem inL_above {hi lo : Int} {l : List (Int × Int)} (h : Canon hi lo l) {p : Int} (hp : hi ≤ p) : inL l p = false := by
 induction l generalizing lo with
 | nil => rfl
 | cons a l ih =>
  obtain ⟨a1, a2, a3, a4⟩ := h
  rw [inL_cons, ih a4, Bool.or_false]
  exact decide_eq_false (by omega)
theorem canon_unique {hi lo : Int} {l m : List (Int × Int)} (hl : Canon hi lo l) (hm : Canon hi lo m) (h : ∀ p, lo ≤ p → p < hi → inL l p = inL m p) : l = m := by
 induction l generalizing lo m with
 | nil =>
  cases m with
  | nil => rfl
  | cons b m =>
   obtain ⟨b1, b2, b3, b4⟩ := hm
   have := h b.1 (by omega) (by omega)
   rw [inL_cons, decide_eq_true (by omega)] at this
   simp [inL] at this
 | cons a l ih =>
  obtain ⟨a1, a2, a3, a4⟩ := hl
  cases m with
  | nil =>
   have := h a.1 (by omega) (by omega)
   rw [inL_cons, decide_eq_true (by omega)] at this
   simp [inL] at this
  | cons b m =>
   obtain ⟨b1, b2, b3, b4⟩ := hm
   have e1 : a.1 = b.1 := by
    rcases Int.lt_trichotomy a.1 b.1 with g | g | g
    ·have := h a.1 (by omega) (by omega)
     rw [inL_cons, inL_cons, decide_eq_true (by omega), inL_below b4 (by omega), decide_eq_false (by omega)] at this
     simp at this
    ·exact g
    ·have := h b.1 (by omega) (by omega)
     rw [inL_cons, inL_cons, decide_eq_false (by omega), inL_below a4 (by omega), decide_eq_true (by omega)] at this
     simp at this
   have e2 : a.2 = b.2 := by
    rcases Int.lt_trichotomy a.2 b.2 with g | g | g
    ·have := h (a.1 + a.2) (by omega) (by omega)
     rw [inL_cons, inL_cons, decide_eq_false (by omega), inL_below a4 (by omega), decide_eq_true (by omega)] at this
     simp at this
    ·exact g
    ·have := h (b.1 + b.2) (by omega) (by omega)
     rw [inL_cons, inL_cons, decide_eq_true (by omega), inL_below b4 (by omega), decide_eq_false (by omega)] at this
     simp at this
   have e : a = b := Prod.ext e1 e2
   subst e
   rw [ih a4 b4 (fun p hp hq => ?_)]
   have := h p (by omega) hq
   rw [inL_cons, inL_cons, decide_eq_false (by omega)] at this
   simpa using this
theorem canon_of_may {l : List (Int × Int)} (h : MayP l) : Canon 256 0 l := by
 have key : ∀ (l : List (Int × Int)) (lo : Int), (∀ i, i < l.length → regOk (l.getD i (0, 0))) → (∀ i, i + 1 < l.length → (l.getD i (0, 0)).1 + (l.getD i (0, 0)).2 < (l.getD (i + 1) (0, 0)).1) → (0 < l.length → lo ≤ (l.getD 0 (0, 0)).1) → Canon 256 lo l := by
  intro l
  induction l with
  | nil => intros; trivial
  | cons a l ih =>
   intro lo h1 h2 h3
   have ha := h1 0 (by simp)
   obtain ⟨p1, p2, p3, p4, p5⟩ := ha
   refine ⟨h3 (by simp), p3, p5, ih _ (fun i hi => ?_) (fun i hi => ?_) (fun hl => ?_)⟩
   ·have := h1 (i + 1) (by simpa using hi); simpa using this
   ·have := h2 (i + 1) (by simpa using hi); simpa using this
   ·have := h2 0 (by simpa using hl)
    simp at this
    simp
    omega
 exact key l 0 h.ok h.gap (fun h0 => (h.ok 0 h0).1)
theorem may_of_canon {l : List (Int × Int)} (h : Canon 256 0 l) (hl : l.length ≤ 40) : MayP l := by
 have key : ∀ (l : List (Int × Int)) (lo : Int), 0 ≤ lo → Canon 256 lo l → (∀ i, i < l.length → regOk (l.getD i (0, 0))) ∧ (∀ i, i + 1 < l.length → (l.getD i (0, 0)).1 + (l.getD i (0, 0)).2 < (l.getD (i + 1) (0, 0)).1) := by
  intro l
  induction l with
  | nil => intros; exact ⟨fun i hi => by simp at hi, fun i hi => by simp at hi⟩
  | cons a l ih =>
   intro lo h0 h
   obtain ⟨a1, a2, a3, a4⟩ := h
   obtain ⟨i1, i2⟩ := ih (a.1 + a.2 + 1) (by omega) a4
   refine ⟨fun i hi => ?_, fun i hi => ?_⟩
   ·cases i with
    | zero => exact ⟨by simp; omega, by simp; omega, by simpa using a2, by simp; omega, by simpa using a3⟩
    | succ i => have := i1 i (by simpa using hi); simpa using this
   ·cases i with
    | zero =>
     cases l with
     | nil => simp at hi
     | cons b l => simp; have := a4.1; omega
    | succ i => have := i2 i (by simpa using hi); simpa using this
 obtain ⟨k1, k2⟩ := key l 0 (Int.le_refl _) h
 exact ⟨hl, k1, k2⟩
def bump (l : List (Int × Int)) : List (Int × Int) := l.set (l.length - 1) ((l.getD (l.length - 1) (0, 0)).1, (l.getD (l.length - 1) (0, 0)).2 + 1)
theorem bump_snoc (l : List (Int × Int)) (r : Int × Int) : bump (l ++ [r]) = l ++ [(r.1, r.2 + 1)] := by
 simp [bump, List.getD_eq_getElem?_getD]
def drawnK (h : Int → Bool) : Nat → List (Int × Int)
 | 0 => []
 | k + 1 => if h k then (if 0 < k ∧ h (k - 1) then bump (drawnK h k) else drawnK h k ++ [((k : Int), 1)]) else drawnK h k
structure DrawnInv (h : Int → Bool) (k : Nat) : Prop where
 canon : Canon k 0 (drawnK h k)
 pages : ∀ p : Int, 0 ≤ p → p < k → inL (drawnK h k) p = h p
 run : 0 < k → h (k - 1) = true → ∃ (l : List (Int × Int)) (f s : Int), drawnK h k = l ++ [(f, s)] ∧ f + s = k
 fresh : ¬ (0 < k ∧ h (k - 1) = true) → endOf 0 (drawnK h k) ≤ k
theorem drawn_inv (h : Int → Bool) (k : Nat) : DrawnInv h k := by
 induction k with
 | zero => exact ⟨trivial, fun p h1 h2 => by omega, fun h0 => by omega, fun _ => Int.le_refl _⟩
 | succ k ih =>
  obtain ⟨i1, i2, i3, i4⟩ := ih
  have ek : ((k + 1 : Nat) : Int) - 1 = k := by omega
  by_cases hk : h k = true
  ·by_cases hr : 0 < k ∧ h (k - 1) = true
   ·obtain ⟨l, f, s, e, hfs⟩ := i3 hr.1 hr.2
    have ed : drawnK h (k + 1) = l ++ [(f, s + 1)] := by
     simp only [drawnK]
     rw [if_pos hk, if_pos hr, e, bump_snoc]
    rw [e, canon_snoc] at i1
    obtain ⟨c1, c2, c3, c4⟩ := i1
    dsimp only at c2 c3 c4
    refine ⟨?_, ?_, ?_, ?_⟩
    ·rw [ed, canon_snoc]; exact ⟨canon_mono c1 (by omega) (Int.le_refl _), c2, by dsimp only; omega, by dsimp only; omega⟩
    ·intro p h1 h2
     rw [ed, inL_append]
     by_cases hp : p < k
     ·have := i2 p h1 hp
      rw [e, inL_append] at this
      rw [← this]
      congr 1
      simp only [inL, List.any_cons, List.any_nil, Bool.or_false]
      congr 1
      apply propext
      constructor <;> intro g <;> omega
     ·have : p = k := by omega
      subst this
      rw [hk]
      simp only [inL, List.any_cons, List.any_nil, Bool.or_false, Bool.or_eq_true]
      right
      exact decide_eq_true (by omega)
    ·intro _ _; exact ⟨l, f, s + 1, ed, by omega⟩
    ·intro g; exact absurd ⟨by omega, by rw [ek]; exact hk⟩ g
   ·have ed : drawnK h (k + 1) = drawnK h k ++ [((k : Int), 1)] := by
     simp only [drawnK]
     rw [if_pos hk, if_neg hr]
    have hf := i4 hr
    refine ⟨?_, ?_, ?_, ?_⟩
    ·rw [ed, canon_snoc]; exact ⟨canon_mono i1 (by omega) (Int.le_refl _), hf, by dsimp only; omega, by dsimp only; omega⟩
    ·intro p h1 h2
     rw [ed, inL_append]
     by_cases hp : p < k
     ·rw [i2 p h1 hp]
      simp only [inL, List.any_cons, List.any_nil, Bool.or_false]
      rw [decide_eq_false (by omega), Bool.or_false]
     ·have : p = k := by omega
      subst this
      rw [hk]
      simp only [inL, List.any_cons, List.any_nil, Bool.or_false, Bool.or_eq_true]
      right
      exact decide_eq_true (by omega)
    ·intro _ _; exact ⟨_, _, _, ed, by omega⟩
    ·intro g; exact absurd ⟨by omega, by rw [ek]; exact hk⟩ g
  ·have ed : drawnK h (k + 1) = drawnK h k := by
    simp only [drawnK]
    rw [if_neg hk]
   refine ⟨?_, ?_, ?_, ?_⟩
   ·rw [ed]; exact canon_mono i1 (by omega) (Int.le_refl _)
   ·intro p h1 h2
    rw [ed]
    by_cases hp : p < k
    ·exact i2 p h1 hp
    ·have : p = k := by omega
     subst this
     rw [inL_above i1 (Int.le_refl _)]
     simpa using hk
   ·intro _ g; rw [ek] at g; exact absurd g hk
   ·intro _
    rw [ed]
    by_cases hr : 0 < k ∧ h (k - 1) = true
    ·obtain ⟨l, f, s, e, hfs⟩ := i3 hr.1 hr.2
     rw [e, endOf_snoc]; dsimp only; omega
    ·have := i4 hr; omega
def drawnAll (h : Int → Bool) : List (Int × Int) := drawnK h 256
theorem drawn_all (h : Int → Bool) (k : Nat) (hk : k = 256) : drawnK h k = drawnAll h := by subst hk; rfl
theorem drawn_of_canon {h : Int → Bool} {l : List (Int × Int)} (hl : Canon 256 0 l) (hp : ∀ p : Int, 0 ≤ p → p < 256 → inL l p = h p) : drawnAll h = l := by
 have inv := drawn_inv h 256
 have e := drawn_all h 256 rfl
 have c1 := inv.canon
 have c2 := inv.pages
 rw [e] at c1 c2
 exact canon_unique c1 hl (fun p h1 h2 => by rw [c2 p h1 h2, hp p h1 h2])
theorem drawnAll_canon (h : Int → Bool) : Canon 256 0 (drawnAll h) := by
 have := (drawn_inv h 256).canon
 rw [drawn_all h 256 rfl] at this
 exact this
theorem drawnAll_pages (h : Int → Bool) (p : Int) (h1 : 0 ≤ p) (h2 : p < 256) : inL (drawnAll h) p = h p := by
 have := (drawn_inv h 256).pages p h1 h2
 rw [drawn_all h 256 rfl] at this
 exact this
theorem below_box (w : World) (o : Obj) : Below w.heap.size w (w.alloc o) := (Below.refl _ _).alloc (Nat.le_refl _) _
def mk (h : Int → Bool) : Array Value := Array.ofFn (n := 256) fun i => .bool (h (i.val : Int))
theorem mk_size (h : Int → Bool) : (mk h).size = 256 := Array.size_ofFn
theorem mk_get (h : Int → Bool) (p : Nat) (hp : p < 256) : (mk h)[p]? = some (.bool (h p)) := by
 unfold mk
 rw [Array.getElem?_ofFn, dif_pos hp]
theorem mk_eq {cs : Array Value} {h : Int → Bool} (hs : cs.size = 256) (hc : ∀ p : Nat, p < 256 → cs[p]? = some (.bool (h p))) : cs = mk h := by
 apply Array.ext_getElem?
 intro i
 by_cases hi : i < 256
 ·rw [hc i hi, mk_get h i hi]
 ·rw [Array.getElem?_eq_none (by omega), Array.getElem?_eq_none (by rw [mk_size]; omega)]
theorem mk_ext {h g : Int → Bool} (e : ∀ p : Nat, p < 256 → h p = g p) : mk h = mk g := mk_eq (mk_size h) (fun p hp => by rw [mk_get h p hp, e p hp])
theorem mk_oneCell (h : Int → Bool) : ∀ v ∈ (mk h).toList, v.oneCell' = true := by
 intro v hv
 obtain ⟨i, hi, rfl⟩ := List.getElem_of_mem hv
 rw [Array.length_toList, mk_size] at hi
 have e := mk_get h i hi
 rw [Array.getElem?_eq_getElem (by rw [mk_size]; exact hi)] at e
 rw [Array.getElem_toList, Option.some.inj e]
 rfl
def setH (f s : Int) (v : Bool) (h : Int → Bool) (p : Int) : Bool := if f ≤ p ∧ p < f + s then v else h p
theorem mk_set0 (f : Int) (v : Bool) (h : Int → Bool) : mk (setH f 0 v h) = mk h := mk_ext fun p _ => by unfold setH; rw [if_neg (by omega)]
theorem mk_set (h : Int → Bool) (f k : Nat) (v : Bool) (hp : f + k < 256) : (mk (setH f k v h)).setIfInBounds (f + k) (.bool v) = mk (setH f ((k + 1 : Nat) : Int) v h) := by
 refine mk_eq (by rw [Array.size_setIfInBounds, mk_size]) fun p hp' => ?_
 rw [Array.getElem?_setIfInBounds]
 by_cases e : f + k = p
 ·rw [if_pos e, if_pos (by rw [mk_size]; omega)]
  unfold setH
  rw [if_pos (by omega)]
 ·rw [if_neg e, mk_get _ p hp']
  unfold setH
  by_cases g : (f : Int) ≤ p ∧ (p : Int) < f + k
  ·rw [if_pos g, if_pos (by omega)]
  ·rw [if_neg g, if_neg (by omega)]
theorem load_row {P : Program} {W : World} {g : Nat} {t : TypeId} {cs : Array Value} {fr : Nat × Nat} {n : Nat} (hg : W.heap[g]? = some (.cells cs t fr)) (hn : cs.size = n) : (loadCellsFrom ⟨g, 0, none⟩ 0 n #[]).run P W = .ok cs W := by
 subst hn
 have := run_loadCells_list (P := P) W ⟨g, 0, none⟩ cs.toList (fun j v hv => by
  have hadd : (⟨g, 0, none⟩ : Addr).add j = ⟨g, j, none⟩ := by unfold Addr.add; split <;> simp_all
  rw [hadd, cell_of_row _ _ j cs t fr hg]
  simpa using hv)
 simpa [loadCells] using this
theorem store_row {P : Program} {W : World} {g : Nat} {t : TypeId} {old cs : Array Value} (hg : W.heap[g]? = some (.cells old t (0, 0))) (hn : old.size = cs.size) (h1 : ∀ v ∈ cs.toList, v.oneCell' = true) : (storeCells ⟨g, 0, none⟩ cs.toList 0).run P W = .ok () (W.setRow g cs) := by
 have := run_storeCells_from (P := P) g t cs.toList 0 old W hg (by simp; omega) h1
 simpa using this
structure But (b : Nat) (w w' : World) : Prop where
 os : w'.os = w.os
 tape : w'.tape = w.tape
 output : w'.output = w.output
 size : w.heap.size ≤ w'.heap.size
 block : ∀ k, k < w.heap.size → k ≠ b → w'.heap[k]? = w.heap[k]?
theorem But.refl (b : Nat) (w : World) : But b w w := ⟨rfl, rfl, rfl, Nat.le_refl _, fun _ _ _ => rfl⟩
theorem But.trans {b : Nat} {w w' w'' : World} (h : But b w w') (k : But b w' w'') : But b w w'' :=
 ⟨k.os.trans h.os, k.tape.trans h.tape, k.output.trans h.output, Nat.le_trans h.size k.size, fun i hi hb => (k.block i (Nat.lt_of_lt_of_le hi h.size) hb).trans (h.block i hi hb)⟩
theorem But.of_below {b : Nat} {w w' : World} (h : Below w.heap.size w w') : But b w w' := ⟨h.os, h.tape, h.output, h.size, fun k hk _ => h.block k hk⟩
theorem But.below {b B : Nat} {w w' : World} (h : But b w w') (hb : B ≤ b) (hB : B ≤ w.heap.size) : Below B w w' := ⟨h.os, h.tape, h.output, h.size, fun k hk => h.block k (by omega) (by omega)⟩
theorem But.setCell {b o : Nat} {w w' : World} (h : But b w w') (v : Value) : But b w (w'.setCell ⟨b, o, none⟩ v) := by
 refine ⟨h.os, h.tape, h.output, by simpa [World.setCell] using h.size, fun k hk hb => ?_⟩
 exact (Below.heap_setCell _ _ _ _ hb).trans (h.block k hk hb)
theorem But.drewN {b : Nat} {w w' : World} (h : But b w w') (d : Nat) : But b w (w'.drewN d) := h.trans (.of_below (below_drewN (Below.refl _ _) d))
theorem But.cell {b c o : Nat} {v : Value} {w w' : World} (h : But b w w') (hc : w.cell? ⟨c, o, none⟩ = some v) (hne : c ≠ b) : w'.cell? ⟨c, o, none⟩ = some v :=
 (World.cell?_of_block (a := ⟨c, o, none⟩) (h.block c (World.block_lt_of_cell? w _ hc) hne)).trans hc
theorem But.regs {b n : Nat} {ao : Option Addr} {l : List (Int × Int)} {w w' : World} (h : But b w w') (hr : Regs w ao n l) (hne : ∀ a, ao = some a → a.block ≠ b) : Regs w' ao n l := by
 refine ⟨hr.len, hr.reach, fun i hi => ?_⟩
 obtain ⟨c, o, ha, h1, h2⟩ := hr.at_ i hi
 exact ⟨c, o, ha, h.cell h1 (hne _ ha), h.cell h2 (hne _ ha)⟩
theorem Regs.old {n : Nat} {ao : Option Addr} {l : List (Int × Int)} {w : World} (hr : Regs w ao n l) {b : Nat} (hb : w.heap.size ≤ b) {w' : World} (h : But b w w') : Regs w' ao n l := by
 refine ⟨hr.len, hr.reach, fun i hi => ?_⟩
 obtain ⟨c, o, ha, h1, h2⟩ := hr.at_ i hi
 have := World.block_lt_of_cell? w _ h1
 dsimp only at this
 exact ⟨c, o, ha, h.cell h1 (by omega), h.cell h2 (by omega)⟩
def MarksAt (w : World) (b : Nat) (t : TypeId) (h : Int → Bool) : Prop := w.heap[b]? = some (.cells (mk h) t (0, 0))
theorem MarksAt.cell {w : World} {b : Nat} {t : TypeId} {h : Int → Bool} (hm : MarksAt w b t h) (p : Nat) (hp : p < 256) : w.cell? ⟨b, p, none⟩ = some (.bool (h p)) := by
 rw [cell_of_row _ _ _ _ _ _ hm, mk_get h p hp]
theorem MarksAt.fz {w : World} {b : Nat} {t : TypeId} {h : Int → Bool} (hm : MarksAt w b t h) (p : Nat) : w.frozen? ⟨b, p, none⟩ = false := frozen_of_row _ _ _ _ _ hm
theorem MarksAt.lt {w : World} {b : Nat} {t : TypeId} {h : Int → Bool} (hm : MarksAt w b t h) : b < w.heap.size := (Array.getElem?_eq_some_iff.1 hm).1
theorem MarksAt.below {w w' : World} {b : Nat} {t : TypeId} {h : Int → Bool} (hm : MarksAt w b t h) (hb : Below w.heap.size w w') : MarksAt w' b t h := (hb.block b hm.lt).trans hm
theorem MarksAt.but {w w' : World} {b c : Nat} {t : TypeId} {h : Int → Bool} (hm : MarksAt w b t h) (hb : But c w w') (hne : b ≠ c) : MarksAt w' b t h := (hb.block b hm.lt hne).trans hm
theorem MarksAt.set {w : World} {b : Nat} {t : TypeId} {h : Int → Bool} {f k : Nat} {v : Bool} (hm : MarksAt w b t (setH f k v h)) (hp : f + k < 256) : MarksAt (w.setCell ⟨b, f + k, none⟩ (.bool v)) b t (setH f ((k + 1 : Nat) : Int) v h) := by
 unfold MarksAt
 rw [← mk_set h f k v hp]
 exact heap_setCell_same _ _ _ _ _ _ hm
def markK (l : List (Int × Int)) (v : Bool) (h : Int → Bool) : Nat → Int → Bool
 | 0 => h
 | k + 1 => setH (l.getD k (0, 0)).1 (l.getD k (0, 0)).2 v (markK l v h k)
theorem markK_eq (l : List (Int × Int)) (v : Bool) (h : Int → Bool) (k : Nat) (hk : k ≤ l.length) (p : Int) : markK l v h k p = if inL (l.take k) p = true then v else h p := by
 induction k with
 | zero => simp [markK, inL]
 | succ k ih =>
  have hlt : k < l.length := by omega
  have e : l.getD k (0, 0) = l[k] := by rw [List.getD_eq_getElem?_getD, List.getElem?_eq_getElem hlt]; rfl
  rw [List.take_succ_eq_append_getElem hlt, inL_append]
  show setH (l.getD k (0, 0)).1 (l.getD k (0, 0)).2 v (markK l v h k) p = _
  unfold setH
  rw [ih (by omega), e]
  by_cases g : l[k].1 ≤ p ∧ p < l[k].1 + l[k].2
  ·rw [if_pos g, if_pos]
   simp only [inL, List.any_cons, List.any_nil, Bool.or_false, Bool.or_eq_true]
   right
   exact decide_eq_true (by omega)
  ·rw [if_neg g]
   have hf : inL [l[k]] p = false := by
    simp only [inL, List.any_cons, List.any_nil, Bool.or_false]
    exact decide_eq_false (by omega)
   rw [hf, Bool.or_false]
theorem markK_all (l : List (Int × Int)) : mk (markK l true (fun _ => false) l.length) = mk (inL l) := mk_ext fun p _ => by
 rw [markK_eq _ _ _ _ (Nat.le_refl _), List.take_length]
 cases inL l (p : Int) <;> rfl
theorem markK_free (M R : List (Int × Int)) : mk (markK R false (inL M) R.length) = mk (fun p => inL M p && !inL R p) := mk_ext fun p _ => by
 rw [markK_eq _ _ _ _ (Nat.le_refl _), List.take_length]
 cases inL R (p : Int) <;> cases inL M (p : Int) <;> rfl
structure Bk where
 a : Int
 o : Int
 t : Int
def Bk.zero : Bk := ⟨0, 0, 0⟩
def bvals : List Bk → List Value
 | [] => []
 | b :: l => Value.int .i64 b.a :: Value.int .i64 b.o :: Value.int .i64 b.t :: bvals l
theorem length_bvals (l : List Bk) : (bvals l).length = l.length * 3 := by
 induction l with
 | nil => rfl
 | cons r l ih => simp only [bvals, List.length_cons, ih]; omega
theorem bvals_append (l m : List Bk) : bvals (l ++ m) = bvals l ++ bvals m := by
 induction l with
 | nil => rfl
 | cons r l ih => simp [bvals, ih]
theorem bvals_0 (l : List Bk) (i : Nat) (h : i < l.length) : (bvals l)[i * 3]? = some (.int .i64 (l.getD i .zero).a) := by
 induction l generalizing i with
 | nil => simp at h
 | cons r l ih =>
  cases i with
  | zero => simp [bvals]
  | succ i =>
   have := ih i (by simpa using h)
   rw [Nat.succ_mul]
   simpa [bvals] using this
theorem bvals_1 (l : List Bk) (i : Nat) (h : i < l.length) : (bvals l)[i * 3 + 1]? = some (.int .i64 (l.getD i .zero).o) := by
 induction l generalizing i with
 | nil => simp at h
 | cons r l ih =>
  cases i with
  | zero => simp [bvals]
  | succ i =>
   have := ih i (by simpa using h)
   rw [Nat.succ_mul]
   simpa [bvals] using this
theorem bvals_2 (l : List Bk) (i : Nat) (h : i < l.length) : (bvals l)[i * 3 + 2]? = some (.int .i64 (l.getD i .zero).t) := by
 induction l generalizing i with
 | nil => simp at h
 | cons r l ih =>
  cases i with
  | zero => simp [bvals]
  | succ i =>
   have := ih i (by simpa using h)
   rw [Nat.succ_mul]
   simpa [bvals] using this
theorem bvals_oneCell (l : List Bk) : ∀ u ∈ bvals l, u.oneCell' = true := by
 induction l with
 | nil => intro u hu; simp [bvals] at hu
 | cons r l ih =>
  intro u hu
  simp only [bvals, List.mem_cons] at hu
  rcases hu with rfl | rfl | rfl | hu
  ·rfl
  ·rfl
  ·rfl
  ·exact ih u hu
theorem bvals_set2 (l : List Bk) (i : Nat) (x : Int) (h : i < l.length) : (bvals l).set (i * 3 + 2) (.int .i64 x) = bvals (l.set i ⟨(l.getD i .zero).a, (l.getD i .zero).o, x⟩) := by
 induction l generalizing i with
 | nil => simp at h
 | cons r l ih =>
  cases i with
  | zero => simp [bvals]
  | succ i =>
   have := ih i (by simpa using h)
   rw [Nat.succ_mul]
   simpa [bvals] using this
def BlksAt (w : World) (ao : Option Addr) (l : List Bk) : Prop :=
 ∀ i, i < l.length → ∃ b off, ao = some ⟨b, off, none⟩ ∧ w.cell? ⟨b, off + i * 3, none⟩ = some (.int .i64 (l.getD i .zero).a) ∧ w.cell? ⟨b, off + i * 3 + 1, none⟩ = some (.int .i64 (l.getD i .zero).o) ∧ w.cell? ⟨b, off + i * 3 + 2, none⟩ = some (.int .i64 (l.getD i .zero).t)
theorem BlksAt.below {w w' : World} {ao : Option Addr} {l : List Bk} (h : BlksAt w ao l) (hb : Below w.heap.size w w') : BlksAt w' ao l := by
 intro i hi
 obtain ⟨b, off, ha, h1, h2, h3⟩ := h i hi
 exact ⟨b, off, ha, keep h1 hb, keep h2 hb, keep h3 hb⟩
theorem BlksAt.nil (w : World) (ao : Option Addr) : BlksAt w ao [] := fun i hi => absurd hi (by simp)
theorem blks_of_owns {w : World} {base : Nat} {e : TypeId} {ao : Option Addr} {n cap : Nat} {l : List Bk}
    (h : w.ownsRow base e 3 (.slice ao n cap) n (bvals l)) : BlksAt w ao l := by
 intro i hi
 have hl := h.1
 rw [length_bvals] at hl
 rcases h.2 with ⟨h', h0⟩ | ⟨g, cap', cur, h', _, hg, _, _, _, htake⟩
 ·omega
 ·simp only [Value.slice.injEq] at h'
  obtain ⟨rfl, _, rfl⟩ := h'
  refine ⟨g, 0, rfl, ?_, ?_, ?_⟩
  ·rw [Nat.zero_add, h.cellAt (i * 3) (by omega), bvals_0 l i hi]
  ·rw [Nat.zero_add, h.cellAt (i * 3 + 1) (by omega), bvals_1 l i hi]
  ·rw [Nat.zero_add, h.cellAt (i * 3 + 2) (by omega), bvals_2 l i hi]
theorem bowns_len {w : World} {base : Nat} {e : TypeId} {v : Value} {n : Nat} {l : List Bk}
    (h : w.ownsRow base e 3 v n (bvals l)) : l.length = n := by have := h.1; rw [length_bvals] at this; omega
theorem bsrc_of {w : World} {ao : Option Addr} {l : List Bk} (h : BlksAt w ao l) (h0 : 0 < l.length) : ∃ ad, ao = some ad ∧ ∀ j v, (bvals l)[j]? = some v → w.cell? (ad.add j) = some v := by
 obtain ⟨b, off, rfl, _⟩ := h 0 h0
 refine ⟨_, rfl, fun j v hj => ?_⟩
 have hadd : (⟨b, off, none⟩ : Addr).add j = ⟨b, off + j, none⟩ := by unfold Addr.add; split <;> simp_all
 rw [hadd]
 have hlt : j < (bvals l).length := (List.getElem?_eq_some_iff.1 hj).1
 rw [length_bvals] at hlt
 obtain ⟨b', off', he, c1, c2, c3⟩ := h (j / 3) (by omega)
 simp only [Option.some.injEq, Addr.mk.injEq, and_true] at he
 obtain ⟨rfl, rfl⟩ := he
 rcases (show j % 3 = 0 ∨ j % 3 = 1 ∨ j % 3 = 2 by omega) with hm | hm | hm
 ·have e1 : j = j / 3 * 3 := by omega
  rw [e1, bvals_0 l _ (by omega)] at hj
  rw [← e1] at c1
  rw [c1]; exact hj
 ·have e1 : j = j / 3 * 3 + 1 := by omega
  rw [e1, bvals_1 l _ (by omega)] at hj
  have e2 : off + j / 3 * 3 + 1 = off + j := by omega
  rw [e2] at c2
  rw [c2]; exact hj
 ·have e1 : j = j / 3 * 3 + 2 := by omega
  rw [e1, bvals_2 l _ (by omega)] at hj
  have e2 : off + j / 3 * 3 + 2 = off + j := by omega
  rw [e2] at c3
  rw [c3]; exact hj
theorem BlksAt.at {w : World} {ao : Option Addr} {l : List Bk} (h : BlksAt w ao l) (k : Nat) (hk : k < l.length) : ∃ b off x y z, ao = some ⟨b, off, none⟩ ∧ w.cell? ⟨b, off + k * 3, none⟩ = some (.int .i64 x) ∧ w.cell? ⟨b, off + k * 3 + 1, none⟩ = some (.int .i64 y) ∧ w.cell? ⟨b, off + k * 3 + 2, none⟩ = some (.int .i64 z) ∧ Hid (l.getD k .zero = ⟨x, y, z⟩) := by
 obtain ⟨b, off, ha, h1, h2, h3⟩ := h k hk
 exact ⟨b, off, _, _, _, ha, h1, h2, h3, rfl⟩
theorem btake_snoc (l : List Bk) (k : Nat) (h : k < l.length) {x y z : Int} (hx : l.getD k .zero = ⟨x, y, z⟩) : bvals (l.take k) ++ [Value.int .i64 x, Value.int .i64 y, Value.int .i64 z] = bvals (l.take (k + 1)) := by
 rw [List.getD_eq_getElem?_getD, List.getElem?_eq_getElem h] at hx
 simp only [Option.getD_some] at hx
 rw [List.take_succ_eq_append_getElem h, bvals_append, hx]
 rfl
theorem take_getD (l : List Bk) (k : Nat) (h : k < l.length) {b : Bk} (hx : l.getD k .zero = b) : l.take (k + 1) = l.take k ++ [b] := by
 rw [List.getD_eq_getElem?_getD, List.getElem?_eq_getElem h] at hx
 simp only [Option.getD_some] at hx
 rw [List.take_succ_eq_append_getElem h, hx]
structure Blks (w : World) (ao : Option Addr) (n : Nat) (l : List Bk) : Prop where
 len : l.length = n
 reach : n * 24 ≤ 140737488351232
 at_ : BlksAt w ao l
structure Nums (w : World) (ao : Option Addr) (n : Nat) (l : List Int) : Prop where
 len : l.length = n
 reach : n * 8 ≤ 140737488351232
 at_ : IntsAt w ao l
theorem Blks.below {w w' : World} {ao : Option Addr} {n : Nat} {l : List Bk} (h : Blks w ao n l) (hb : Below w.heap.size w w') : Blks w' ao n l := ⟨h.len, h.reach, h.at_.below hb⟩
theorem Nums.below {w w' : World} {ao : Option Addr} {n : Nat} {l : List Int} (h : Nums w ao n l) (hb : Below w.heap.size w w') : Nums w' ao n l := ⟨h.len, h.reach, h.at_.below hb⟩
theorem Blks.nil (w : World) : Blks w none 0 [] := ⟨rfl, by omega, BlksAt.nil _ _⟩
theorem Nums.nil (w : World) : Nums w none 0 [] := ⟨rfl, by omega, IntsAt.nil _ _⟩
theorem But.blks {b n : Nat} {ao : Option Addr} {l : List Bk} {w w' : World} (h : But b w w') (hr : Blks w ao n l) (hne : ∀ a, ao = some a → a.block ≠ b) : Blks w' ao n l := by
 refine ⟨hr.len, hr.reach, fun i hi => ?_⟩
 obtain ⟨c, o, ha, h1, h2, h3⟩ := hr.at_ i hi
 exact ⟨c, o, ha, h.cell h1 (hne _ ha), h.cell h2 (hne _ ha), h.cell h3 (hne _ ha)⟩
theorem But.nums {b n : Nat} {ao : Option Addr} {l : List Int} {w w' : World} (h : But b w w') (hr : Nums w ao n l) (hne : ∀ a, ao = some a → a.block ≠ b) : Nums w' ao n l := by
 refine ⟨hr.len, hr.reach, fun i hi => ?_⟩
 obtain ⟨c, o, ha, h1⟩ := hr.at_ i hi
 exact ⟨c, o, ha, h.cell h1 (hne _ ha)⟩
structure Zn where
 f : Int
 t : Int
 free : List Bk
 types : List Int
structure ZnAt (w : World) (fo : Option Addr) (fn : Nat) (to_ : Option Addr) (tn : Nat) (z : Zn) : Prop where
 free : Blks w fo fn z.free
 types : Nums w to_ tn z.types
theorem ZnAt.below {w w' : World} {fo : Option Addr} {fn : Nat} {to_ : Option Addr} {tn : Nat} {z : Zn} (h : ZnAt w fo fn to_ tn z) (hb : Below w.heap.size w w') : ZnAt w' fo fn to_ tn z := ⟨h.free.below hb, h.types.below hb⟩
theorem But.zn {b : Nat} {w w' : World} {fo : Option Addr} {fn : Nat} {to_ : Option Addr} {tn : Nat} {z : Zn} (h : But b w w') (hz : ZnAt w fo fn to_ tn z) (h1 : ∀ a, fo = some a → a.block ≠ b) (h2 : ∀ a, to_ = some a → a.block ≠ b) : ZnAt w' fo fn to_ tn z := ⟨h.blks hz.free h1, h.nums hz.types h2⟩
def zval (z : Zn) (fo : Option Addr) (fn fc : Nat) (to_ : Option Addr) (tn tc : Nat) : Value := .agg #[.int .i64 z.f, .int .i64 z.t, .slice fo fn fc, .slice to_ tn tc]
structure Res4 (W : World) (b : Nat) : Prop where
 d0 : ∃ v, W.cell? ⟨b, 0, none⟩ = some v
 d1 : ∃ v, W.cell? ⟨b, 1, none⟩ = some v
 d2 : ∃ v, W.cell? ⟨b, 2, none⟩ = some v
 d3 : ∃ v, W.cell? ⟨b, 3, none⟩ = some v
 z0 : W.frozen? ⟨b, 0, none⟩ = false
 z1 : W.frozen? ⟨b, 1, none⟩ = false
 z2 : W.frozen? ⟨b, 2, none⟩ = false
 z3 : W.frozen? ⟨b, 3, none⟩ = false
theorem Res4.but {W W' : World} {b c : Nat} (h : Res4 W b) (hb : But c W W') (hne : b ≠ c) : Res4 W' b := by
 obtain ⟨⟨v0, e0⟩, ⟨v1, e1⟩, ⟨v2, e2⟩, ⟨v3, e3⟩, z0, z1, z2, z3⟩ := h
 have hbk := hb.block b (World.block_lt_of_cell? W _ e0) hne
 exact ⟨⟨v0, hb.cell e0 hne⟩, ⟨v1, hb.cell e1 hne⟩, ⟨v2, hb.cell e2 hne⟩, ⟨v3, hb.cell e3 hne⟩, (World.frozen?_of_block (a := ⟨b, 0, none⟩) hbk).trans z0, (World.frozen?_of_block (a := ⟨b, 1, none⟩) hbk).trans z1, (World.frozen?_of_block (a := ⟨b, 2, none⟩) hbk).trans z2, (World.frozen?_of_block (a := ⟨b, 3, none⟩) hbk).trans z3⟩
theorem Res4.below {W W' : World} {b : Nat} (h : Res4 W b) (hb : Below W.heap.size W W') : Res4 W' b := by
 obtain ⟨v0, e0⟩ := h.d0
 have hlt := World.block_lt_of_cell? W _ e0
 exact h.but (c := W'.heap.size) ⟨hb.os, hb.tape, hb.output, hb.size, fun k hk _ => hb.block k hk⟩ (by have := hb.size; dsimp only at hlt; omega)
def set4 (W : World) (b : Nat) (x y u v : Value) : World := (((W.setCell ⟨b, 0, none⟩ x).setCell ⟨b, 1, none⟩ y).setCell ⟨b, 2, none⟩ u).setCell ⟨b, 3, none⟩ v
theorem but4 (W : World) (b : Nat) (x y u v : Value) : But b W ((((W.setCell ⟨b, 0, none⟩ x).setCell ⟨b, 1, none⟩ y).setCell ⟨b, 2, none⟩ u).setCell ⟨b, 3, none⟩ v) :=
 (((((But.refl b W).setCell x).setCell y).setCell u).setCell v)
theorem res4 {W : World} {b : Nat} (h : Res4 W b) (x y u v : Value) :
    ((((W.setCell ⟨b, 0, none⟩ x).setCell ⟨b, 1, none⟩ y).setCell ⟨b, 2, none⟩ u).setCell ⟨b, 3, none⟩ v).cell? ⟨b, 0, none⟩ = some x ∧
    ((((W.setCell ⟨b, 0, none⟩ x).setCell ⟨b, 1, none⟩ y).setCell ⟨b, 2, none⟩ u).setCell ⟨b, 3, none⟩ v).cell? ⟨b, 1, none⟩ = some y ∧
    ((((W.setCell ⟨b, 0, none⟩ x).setCell ⟨b, 1, none⟩ y).setCell ⟨b, 2, none⟩ u).setCell ⟨b, 3, none⟩ v).cell? ⟨b, 2, none⟩ = some u ∧
    ((((W.setCell ⟨b, 0, none⟩ x).setCell ⟨b, 1, none⟩ y).setCell ⟨b, 2, none⟩ u).setCell ⟨b, 3, none⟩ v).cell? ⟨b, 3, none⟩ = some v := by
 obtain ⟨v0, e0⟩ := h.d0
 obtain ⟨v1, e1⟩ := h.d1
 obtain ⟨v2, e2⟩ := h.d2
 obtain ⟨v3, e3⟩ := h.d3
 have o : ∀ (X : World) (i j : Nat) (r : Value), i ≠ j → (X.setCell ⟨b, i, none⟩ r).cell? ⟨b, j, none⟩ = X.cell? ⟨b, j, none⟩ := fun X i j r hij => World.cell?_setCell_other _ _ _ _ (by intro g; cases g; exact hij rfl)
 refine ⟨?_, ?_, ?_, ?_⟩
 ·rw [o _ 3 0 _ (by decide), o _ 2 0 _ (by decide), o _ 1 0 _ (by decide)]
  exact World.cell?_setCell_same _ _ _ e0
 ·rw [o _ 3 1 _ (by decide), o _ 2 1 _ (by decide)]
  exact World.cell?_setCell_same _ _ _ ((o _ 0 1 _ (by decide)).trans e1)
 ·rw [o _ 3 2 _ (by decide)]
  exact World.cell?_setCell_same _ _ _ ((o _ 1 2 _ (by decide)).trans ((o _ 0 2 _ (by decide)).trans e2))
 ·exact World.cell?_setCell_same _ _ _ ((o _ 2 3 _ (by decide)).trans ((o _ 1 3 _ (by decide)).trans ((o _ 0 3 _ (by decide)).trans e3)))
structure ZBox (W : World) (b : Nat) (x y u v : Value) : Prop where
 c0 : W.cell? ⟨b, 0, none⟩ = some x
 c1 : W.cell? ⟨b, 1, none⟩ = some y
 c2 : W.cell? ⟨b, 2, none⟩ = some u
 c3 : W.cell? ⟨b, 3, none⟩ = some v
 z0 : W.frozen? ⟨b, 0, none⟩ = false
 z1 : W.frozen? ⟨b, 1, none⟩ = false
 z2 : W.frozen? ⟨b, 2, none⟩ = false
 z3 : W.frozen? ⟨b, 3, none⟩ = false
theorem ZBox.res {W : World} {b : Nat} {x y u v : Value} (h : ZBox W b x y u v) : Res4 W b := ⟨⟨_, h.c0⟩, ⟨_, h.c1⟩, ⟨_, h.c2⟩, ⟨_, h.c3⟩, h.z0, h.z1, h.z2, h.z3⟩
theorem ZBox.lt {W : World} {b : Nat} {x y u v : Value} (h : ZBox W b x y u v) : b < W.heap.size := by
 have := World.block_lt_of_cell? W _ h.c0
 exact this
theorem ZBox.but {W W' : World} {b c : Nat} {x y u v : Value} (h : ZBox W b x y u v) (hb : But c W W') (hne : b ≠ c) : ZBox W' b x y u v := by
 have r := h.res.but hb hne
 exact ⟨hb.cell h.c0 hne, hb.cell h.c1 hne, hb.cell h.c2 hne, hb.cell h.c3 hne, r.z0, r.z1, r.z2, r.z3⟩
theorem ZBox.below {W W' : World} {b : Nat} {x y u v : Value} (h : ZBox W b x y u v) (hb : Below W.heap.size W W') : ZBox W' b x y u v := by
 have r := h.res.below hb
 exact ⟨keep h.c0 hb, keep h.c1 hb, keep h.c2 hb, keep h.c3 hb, r.z0, r.z1, r.z2, r.z3⟩
theorem zbox_new (W : World) (x y u v : Value) (t : TypeId) : ZBox (W.alloc (.cells #[x, y, u, v] t)) W.heap.size x y u v :=
 ⟨by simp, by simp, by simp, by simp, by simp, by simp, by simp, by simp⟩
theorem ZBox.set2 {W : World} {b : Nat} {x y u v : Value} (h : ZBox W b x y u v) (u' : Value) : ZBox (W.setCell ⟨b, 2, none⟩ u') b x y u' v := by
 have o : ∀ j : Nat, j ≠ 2 → (W.setCell ⟨b, 2, none⟩ u').cell? ⟨b, j, none⟩ = W.cell? ⟨b, j, none⟩ := fun j hj => World.cell?_setCell_other _ _ _ _ (by intro g; cases g; exact hj rfl)
 exact ⟨(o 0 (by decide)).trans h.c0, (o 1 (by decide)).trans h.c1, World.cell?_setCell_same _ _ _ h.c2, (o 3 (by decide)).trans h.c3, by simpa using h.z0, by simpa using h.z1, by simpa using h.z2, by simpa using h.z3⟩
theorem ZBox.set3 {W : World} {b : Nat} {x y u v : Value} (h : ZBox W b x y u v) (v' : Value) : ZBox (W.setCell ⟨b, 3, none⟩ v') b x y u v' := by
 have o : ∀ j : Nat, j ≠ 3 → (W.setCell ⟨b, 3, none⟩ v').cell? ⟨b, j, none⟩ = W.cell? ⟨b, j, none⟩ := fun j hj => World.cell?_setCell_other _ _ _ _ (by intro g; cases g; exact hj rfl)
 exact ⟨(o 0 (by decide)).trans h.c0, (o 1 (by decide)).trans h.c1, (o 2 (by decide)).trans h.c2, World.cell?_setCell_same _ _ _ h.c3, by simpa using h.z0, by simpa using h.z1, by simpa using h.z2, by simpa using h.z3⟩
theorem ZBox.set4 {W : World} {b : Nat} {x y u v : Value} (h : ZBox W b x y u v) (x' y' u' v' : Value) : ZBox ((((W.setCell ⟨b, 0, none⟩ x').setCell ⟨b, 1, none⟩ y').setCell ⟨b, 2, none⟩ u').setCell ⟨b, 3, none⟩ v') b x' y' u' v' := by
 obtain ⟨k0, k1, k2, k3⟩ := res4 h.res x' y' u' v'
 exact ⟨k0, k1, k2, k3, by simpa using h.z0, by simpa using h.z1, by simpa using h.z2, by simpa using h.z3⟩
theorem nums_of_owns {w : World} {base : Nat} {e : TypeId} {ao : Option Addr} {n cap : Nat} {l : List Int} (h : w.ownsRow base e 1 (.slice ao n cap) n (vals l)) (hr : n * 8 ≤ 140737488351232) : Nums w ao n l := ⟨owns_len h, hr, ints_of_owns h⟩
theorem blks_own {w : World} {base : Nat} {e : TypeId} {ao : Option Addr} {n cap : Nat} {l : List Bk} (h : w.ownsRow base e 3 (.slice ao n cap) n (bvals l)) (hr : n * 24 ≤ 140737488351232) : Blks w ao n l := ⟨bowns_len h, hr, blks_of_owns h⟩
def RetZone (B : Nat) (w' : World) (z : Zn) (e : Ending) : Prop :=
 ∃ fo fn fc to_ tn tc, e = .returned (.tuple #[.agg #[.int .i64 z.f, .int .i64 z.t, .slice fo fn fc, .slice to_ tn tc], .int .i64 0]) ∧ ZnAt w' fo fn to_ tn z ∧ Fresh B fo ∧ Fresh B to_
def RetNone (c : Int) (e : Ending) : Prop := e = .returned (.tuple #[.agg #[.int .i64 0, .int .i64 0, .slice none 0 0, .slice none 0 0], .int .i64 c])
theorem fresh_none (B : Nat) : Fresh B none := fun a ha => by cases ha
theorem Fresh.mono {B C : Nat} {ao : Option Addr} (h : Fresh B ao) (hc : C ≤ B) : Fresh C ao := fun a ha => Nat.le_trans hc (h a ha)
theorem ZBox.belowB {B : Nat} {W W' : World} {b : Nat} {x y u v : Value} (h : ZBox W b x y u v) (hb : Below B W W') (hlt : b < B) : ZBox W' b x y u v :=
 ⟨(hb.cell (p := ⟨b, 0, none⟩) hlt).trans h.c0, (hb.cell (p := ⟨b, 1, none⟩) hlt).trans h.c1, (hb.cell (p := ⟨b, 2, none⟩) hlt).trans h.c2, (hb.cell (p := ⟨b, 3, none⟩) hlt).trans h.c3, (hb.frozen (p := ⟨b, 0, none⟩) hlt).trans h.z0, (hb.frozen (p := ⟨b, 1, none⟩) hlt).trans h.z1, (hb.frozen (p := ⟨b, 2, none⟩) hlt).trans h.z2, (hb.frozen (p := ⟨b, 3, none⟩) hlt).trans h.z3⟩
theorem Res4.belowB {B : Nat} {W W' : World} {b : Nat} (h : Res4 W b) (hb : Below B W W') (hlt : b < B) : Res4 W' b := by
 obtain ⟨⟨v0, e0⟩, ⟨v1, e1⟩, ⟨v2, e2⟩, ⟨v3, e3⟩, z0, z1, z2, z3⟩ := h
 exact (ZBox.belowB ⟨e0, e1, e2, e3, z0, z1, z2, z3⟩ hb hlt).res
theorem cell_three_new (w : World) (a b c : Value) (t : TypeId) : ∀ j u, [a, b, c][j]? = some u → (w.alloc (.cells #[a, b, c] t)).cell? ((⟨w.heap.size, 0, none⟩ : Addr).add j) = some u := by
 intro j u hj
 match j, hj with
 | 0, hj => simp at hj; subst hj; simp [Addr.add]
 | 1, hj => simp at hj; subst hj; simp [Addr.add]
 | 2, hj => simp at hj; subst hj; simp [Addr.add]
 | j + 3, hj => simp at hj
open Go Go.RowKit Go.ChangeShapes Go.WideShapes Go.ChangeAt Go.Joins Go.Deep
structure Bk.Fits (b : Bk) : Prop where
 a : (Lit.int .i64 b.a).wf = true
 o : (Lit.int .i64 b.o).wf = true
 t : (Lit.int .i64 b.t).wf = true
structure IsBlks (w : World) (ao : Option Addr) (n cap : Nat) (l : List Bk) : Prop where
 len : l.length = n
 le : n ≤ cap
 reach : cap * 24 ≤ 140737488351232
 at_ : BlksAt w ao l
 wf : ∀ i, i < n → (l.getD i .zero).Fits
structure IsZone (w : World) (fo : Option Addr) (fn fc : Nat) (to_ : Option Addr) (tn tc : Nat) (z : Zn) : Prop where
 fr : IsBlks w fo fn fc z.free
 ty : IsInts w to_ tn tc z.types
 wf : (Lit.int .i64 z.f).wf = true
 wt : (Lit.int .i64 z.t).wf = true
theorem IsZone.zn {w : World} {fo : Option Addr} {fn fc : Nat} {to_ : Option Addr} {tn tc : Nat} {z : Zn} (h : IsZone w fo fn fc to_ tn tc z) : ZnAt w fo fn to_ tn z :=
 ⟨⟨h.fr.len, by have := h.fr.reach; have := h.fr.le; omega, h.fr.at_⟩, ⟨h.ty.len, by have := h.ty.reach; have := h.ty.le; omega, h.ty.at_⟩⟩
theorem open_blks {H : Type} {enc : TypeId × Value → H} {P : Program} {W : World} {t e : TypeId} {f0 f1 f2 : Field} {fuel : Nat} {v : Value} {y : DataW H × List MemPlace}
    (ht : P.underlying t = some (.slice e)) (he : P.underlying e = some (.struct #[f0, f1, f2])) (ce : P.cellsOf e = 3) (be : P.bytesOf e = 24)
    (hone : oneCellFields P #[f0, f1, f2] = true) (u0 : P.underlying f0.type = some (.int .i64)) (u1 : P.underlying f1.type = some (.int .i64)) (u2 : P.underlying f2.type = some (.int .i64))
    (hf : DataW.trod enc P W 0 (fun _ => true) true fuel t [v] = some y) (hs : Sized P t y.1) :
    ∃ ao n cap l, v = .slice ao n cap ∧ IsBlks W ao n cap l := by
 rcases open_slice ht hf with ⟨hcs, _⟩ | ⟨a, n, m0, m, fu, D, Pl, hcs, _, hl, hm, hmm, hx, hc⟩
 ·simp only [List.cons.injEq, and_true] at hcs
  subst hcs
  exact ⟨none, 0, 0, [], rfl, ⟨rfl, by omega, by omega, BlksAt.nil _ _, fun i hi => by omega⟩⟩
 ·simp only [List.cons.injEq, and_true] at hcs
  subst hcs
  simp only [if_true] at hmm
  subst hmm
  have hr := hx ▸ hs
  have hr2 := sized_sl hr ht
  rw [be] at hr2
  simp only [List.length_map, List.length_range, reachBytes] at hr2
  rw [ce] at hc
  obtain ⟨o0, k0⟩ := hone_of hone 0 f0 rfl
  obtain ⟨o1, k1⟩ := hone_of hone 1 f1 rfl
  obtain ⟨o2, k2⟩ := hone_of hone 2 f2 rfl
  have each : ∀ i, i < m → ∃ r : Bk, r.Fits ∧ W.cell? (a.add (i * 3)) = some (.int .i64 r.a) ∧ W.cell? (a.add (i * 3 + 1)) = some (.int .i64 r.o) ∧ W.cell? (a.add (i * 3 + 2)) = some (.int .i64 r.t) := by
   intro i hi
   obtain ⟨cs', h1, h2⟩ := hc i hi
   obtain ⟨_, hlen, hcell⟩ := World.cells?_some h1
   obtain ⟨y0, y1, y2, q, _, _, g0, g1, g2⟩ := trod_struct3 he h2
   match cs', hlen with
   | [v0, v1, v2], _ =>
    simp [o0, k0] at g0
    simp [o1, k1] at g1
    simp [o2, k2] at g2
    obtain ⟨x0, e0, _, w0⟩ := DataW.trod_int u0 g0
    obtain ⟨x1, e1, _, w1⟩ := DataW.trod_int u1 g1
    obtain ⟨x2, e2, _, w2⟩ := DataW.trod_int u2 g2
    simp only [List.cons.injEq, and_true] at e0 e1 e2
    subst e0 e1 e2
    have c0 := hcell 0 (by omega)
    have c1 := hcell 1 (by omega)
    have c2 := hcell 2 (by omega)
    rw [add_add] at c0 c1 c2
    exact ⟨⟨x0, x1, x2⟩, ⟨w0, w1, w2⟩, by simpa using c0, by simpa using c1, by simpa using c2⟩
  have inh : Inhabited Bk := ⟨Bk.zero⟩
  obtain ⟨g, hg⟩ := choose_lt each
  have hget : ∀ i, i < n → ((List.range n).map g).getD i .zero = g i := by
   intro i hi
   simp [List.getD_eq_getElem?_getD, hi]
  refine ⟨some a, n, m, (List.range n).map g, rfl, ⟨by simp, hl, by omega, ?_, fun i hi => by rw [hget i hi]; exact (hg i (by omega)).1⟩⟩
  intro i hi
  have hi' : i < n := by simpa using hi
  obtain ⟨_, d0, d1, d2⟩ := hg i (by omega)
  obtain ⟨b, off, spot⟩ := a
  have hspot : spot = none := by
   have := World.cell?_spot (hg 0 (by omega)).2.1
   simpa [Addr.add] using this
  subst hspot
  have hadd : ∀ j, (⟨b, off, none⟩ : Addr).add j = ⟨b, off + j, none⟩ := fun j => by unfold Addr.add; split <;> simp_all
  rw [hadd] at d0 d1 d2
  rw [hget i hi']
  exact ⟨b, off, rfl, d0, by rw [Nat.add_assoc]; exact d1, by rw [Nat.add_assoc]; exact d2⟩
theorem open_ints_in {H : Type} {enc : TypeId × Value → H} {P : Program} {W : World} {t e : TypeId} {fuel : Nat} {v : Value} {y : DataW H × List MemPlace}
    (ht : P.underlying t = some (.slice e)) (he : P.underlying e = some (.int .i64)) (hc : P.cellsOf e = 1) (be : P.bytesOf e = 8)
    (hf : DataW.trod enc P W 0 (fun _ => true) true fuel t [v] = some y) (hs : Sized P t y.1) :
    ∃ ao n cap xs, v = .slice ao n cap ∧ IsInts W ao n cap xs := by
 rcases open_ints ht he hc hf with ⟨hcs, _⟩ | ⟨x, n, cap, zs, hcs, _, hl, hm, hz, hx, hcell, _⟩
 ·simp only [List.cons.injEq, and_true] at hcs
  subst hcs
  exact ⟨none, 0, 0, [], rfl, ⟨rfl, by omega, by omega, fun _ => ⟨rfl, rfl⟩, IntsAt.nil _ _⟩⟩
 ·simp only [List.cons.injEq, and_true] at hcs
  subst hcs
  simp only [if_true] at hz
  have hr := hx ▸ hs
  have hr2 := sized_sl hr ht
  rw [be] at hr2
  simp only [lits, List.length_map, List.length_take, List.length_drop, reachBytes] at hr2
  have hr' : cap * 8 ≤ 140737488351232 := by omega
  refine ⟨some x, n, cap, zs.take n, rfl, ⟨by simp; omega, hl, hr', fun h => (by cases h), ?_⟩⟩
  intro i hi
  have hi' : i < n := by simp at hi; omega
  have hci := hcell i (by omega)
  obtain ⟨b, off, spot⟩ := x
  have hspot : spot = none := by
   by_cases h0 : i = 0
   ·subst h0; simpa [Addr.add] using World.cell?_spot hci
   ·have := World.cell?_spot (hcell 0 (by omega)); simpa [Addr.add] using this
  subst hspot
  refine ⟨b, off, rfl, ?_⟩
  have hadd : (⟨b, off, none⟩ : Addr).add i = ⟨b, off + i, none⟩ := by unfold Addr.add; split <;> simp_all
  rw [hadd] at hci
  rw [hci]
  simp [List.getD_eq_getElem?_getD, hi']
theorem open_zone_arg {H : Type} {enc : TypeId × Value → H} {P : Program} {W : World} {base : Nat} {zt t e u i : TypeId} {g0 g1 g2 g3 f0 f1 f2 : Field} {v : Value} {d : DataW H} {p : List MemPlace}
    (hb : P.underlying zt = some (.struct #[g0, g1, g2, g3])) (hone : oneCellFields P #[g0, g1, g2, g3] = true) (cb : P.cellsOf zt = 4) (t2 : g2.type = t) (t3 : g3.type = u)
    (ht : P.underlying t = some (.slice e)) (he : P.underlying e = some (.struct #[f0, f1, f2])) (ce : P.cellsOf e = 3) (be : P.bytesOf e = 24) (hone2 : oneCellFields P #[f0, f1, f2] = true)
    (u0 : P.underlying f0.type = some (.int .i64)) (u1 : P.underlying f1.type = some (.int .i64)) (u2 : P.underlying f2.type = some (.int .i64))
    (hu : P.underlying u = some (.slice i)) (hi : P.underlying i = some (.int .i64)) (ci : P.cellsOf i = 1) (bi : P.bytesOf i = 8)
    (w0 : P.underlying g0.type = some (.int .i64)) (w1 : P.underlying g1.type = some (.int .i64))
    (hv : Value.okWide P W .any base zt v) (h : DataW.Trod enc P W 0 (fun _ => true) true zt v d p) (hs : Sized P zt d) :
    ∃ f t fo fn fc to_ tn tc fr ty, v = .agg #[.int .i64 f, .int .i64 t, .slice fo fn fc, .slice to_ tn tc] ∧ IsZone W fo fn fc to_ tn tc ⟨f, t, fr, ty⟩ := by
 obtain ⟨v0, v1, v2, v3, y0, y1, y2, y3, m, rfl, rfl, _, h0, h1, h2, h3⟩ := open_agg4 hb hone cb hv h
 have s2 : Sized P t y2.1 := sized_field hs hb (i := 2) (by simp [t2]) rfl
 have s3 : Sized P u y3.1 := sized_field hs hb (i := 3) (by simp [t3]) rfl
 rw [t2] at h2
 rw [t3] at h3
 obtain ⟨x, e0, _, f0w⟩ := DataW.trod_int w0 h0
 obtain ⟨z, e1, _, f1w⟩ := DataW.trod_int w1 h1
 simp only [List.cons.injEq, and_true] at e0 e1
 subst e0 e1
 obtain ⟨fo, fn, fc, fr, rfl, hF⟩ := open_blks ht he ce be hone2 u0 u1 u2 h2 s2
 obtain ⟨to_, tn, tc, ty, rfl, hT⟩ := open_ints_in hu hi ci bi h3 s3
 exact ⟨x, z, fo, fn, fc, to_, tn, tc, fr, ty, rfl, ⟨hF, hT, f0w, f1w⟩⟩
structure ZFits (z : Zn) : Prop where
 f : (Lit.int .i64 z.f).wf = true
 t : (Lit.int .i64 z.t).wf = true
 fr : ∀ i, i < z.free.length → (z.free.getD i .zero).Fits
theorem IsZone.fits {w : World} {fo : Option Addr} {fn fc : Nat} {to_ : Option Addr} {tn tc : Nat} {z : Zn} (h : IsZone w fo fn fc to_ tn tc z) : ZFits z := ⟨h.wf, h.wt, fun i hi => h.fr.wf i (by have := h.fr.len; omega)⟩
structure Q4 where
 a : Value
 b : Value
 c : Value
 d : Value
def Q4.zero : Q4 := ⟨.int .i64 0, .int .i64 0, .int .i64 0, .int .i64 0⟩
def c4 : List Q4 → List Value
 | [] => []
 | x :: l => x.a :: x.b :: x.c :: x.d :: c4 l
theorem length_c4 (l : List Q4) : (c4 l).length = l.length * 4 := by
 induction l with
 | nil => rfl
 | cons r l ih => simp only [c4, List.length_cons, ih]; omega
theorem c4_append (l m : List Q4) : c4 (l ++ m) = c4 l ++ c4 m := by
 induction l with
 | nil => rfl
 | cons r l ih => simp [c4, ih]
theorem c4_get (l : List Q4) (i : Nat) (h : i < l.length) : (c4 l)[i * 4]? = some (l.getD i .zero).a ∧ (c4 l)[i * 4 + 1]? = some (l.getD i .zero).b ∧ (c4 l)[i * 4 + 2]? = some (l.getD i .zero).c ∧ (c4 l)[i * 4 + 3]? = some (l.getD i .zero).d := by
 induction l generalizing i with
 | nil => simp at h
 | cons r l ih =>
  cases i with
  | zero => simp [c4]
  | succ i =>
   have := ih i (by simpa using h)
   rw [Nat.succ_mul]
   simpa [c4] using this
def Q4.One (x : Q4) : Prop := x.a.oneCell' = true ∧ x.b.oneCell' = true ∧ x.c.oneCell' = true ∧ x.d.oneCell' = true
theorem c4_oneCell (l : List Q4) (h : ∀ x ∈ l, x.One) : ∀ u ∈ c4 l, u.oneCell' = true := by
 induction l with
 | nil => intro u hu; simp [c4] at hu
 | cons r l ih =>
  intro u hu
  obtain ⟨h0, h1, h2, h3⟩ := h r (by simp)
  simp only [c4, List.mem_cons] at hu
  rcases hu with rfl | rfl | rfl | rfl | hu
  ·exact h0
  ·exact h1
  ·exact h2
  ·exact h3
  ·exact ih (fun x hx => h x (by simp [hx])) u hu
theorem c4_set (l : List Q4) (i : Nat) (h : i < l.length) (x : Q4) : ((((c4 l).set (i * 4) x.a).set (i * 4 + 1) x.b).set (i * 4 + 2) x.c).set (i * 4 + 3) x.d = c4 (l.set i x) := by
 induction l generalizing i with
 | nil => simp at h
 | cons r l ih =>
  cases i with
  | zero => simp [c4]
  | succ i =>
   have := ih i (by simpa using h)
   rw [Nat.succ_mul]
   simpa [c4] using this
theorem c4_set3 (l : List Q4) (i : Nat) (h : i < l.length) (v : Value) : (c4 l).set (i * 4 + 3) v = c4 (l.set i ⟨(l.getD i .zero).a, (l.getD i .zero).b, (l.getD i .zero).c, v⟩) := by
 induction l generalizing i with
 | nil => simp at h
 | cons r l ih =>
  cases i with
  | zero => simp [c4]
  | succ i =>
   have := ih i (by simpa using h)
   rw [Nat.succ_mul]
   simpa [c4] using this
def C4At (w : World) (ao : Option Addr) (l : List Q4) : Prop :=
 ∀ i, i < l.length → ∃ b off, ao = some ⟨b, off, none⟩ ∧ w.cell? ⟨b, off + i * 4, none⟩ = some (l.getD i .zero).a ∧ w.cell? ⟨b, off + i * 4 + 1, none⟩ = some (l.getD i .zero).b ∧
  w.cell? ⟨b, off + i * 4 + 2, none⟩ = some (l.getD i .zero).c ∧ w.cell? ⟨b, off + i * 4 + 3, none⟩ = some (l.getD i .zero).d
theorem C4At.below {w w' : World} {ao : Option Addr} {l : List Q4} (h : C4At w ao l) (hb : Below w.heap.size w w') : C4At w' ao l := by
 intro i hi
 obtain ⟨b, off, ha, h1, h2, h3, h4⟩ := h i hi
 exact ⟨b, off, ha, keep h1 hb, keep h2 hb, keep h3 hb, keep h4 hb⟩
theorem C4At.but {w w' : World} {ao : Option Addr} {l : List Q4} {c : Nat} (h : C4At w ao l) (hb : But c w w') (hne : ∀ a, ao = some a → a.block ≠ c) : C4At w' ao l := by
 intro i hi
 obtain ⟨b, off, ha, h1, h2, h3, h4⟩ := h i hi
 have := hne _ ha
 exact ⟨b, off, ha, hb.cell h1 this, hb.cell h2 this, hb.cell h3 this, hb.cell h4 this⟩
theorem C4At.nil (w : World) (ao : Option Addr) : C4At w ao [] := fun i hi => absurd hi (by simp)
theorem c4_of_owns {w : World} {base : Nat} {e : TypeId} {ao : Option Addr} {n cap : Nat} {l : List Q4} (h : w.ownsRow base e 4 (.slice ao n cap) n (c4 l)) : C4At w ao l := by
 intro i hi
 have hl := h.1
 rw [length_c4] at hl
 obtain ⟨g0, g1, g2, g3⟩ := c4_get l i hi
 rcases h.2 with ⟨h', h0⟩ | ⟨g, cap', cur, h', _, hg, _, _, _, htake⟩
 ·omega
 ·simp only [Value.slice.injEq] at h'
  obtain ⟨rfl, _, rfl⟩ := h'
  refine ⟨g, 0, rfl, ?_, ?_, ?_, ?_⟩
  ·rw [Nat.zero_add, h.cellAt (i * 4) (by omega), g0]
  ·rw [Nat.zero_add, h.cellAt (i * 4 + 1) (by omega), g1]
  ·rw [Nat.zero_add, h.cellAt (i * 4 + 2) (by omega), g2]
  ·rw [Nat.zero_add, h.cellAt (i * 4 + 3) (by omega), g3]
theorem c4owns_len {w : World} {base : Nat} {e : TypeId} {v : Value} {n : Nat} {l : List Q4} (h : w.ownsRow base e 4 v n (c4 l)) : l.length = n := by have := h.1; rw [length_c4] at this; omega
structure Zc where
 z : Zn
 fo : Option Addr
 fn : Nat
 fc : Nat
 to_ : Option Addr
 tn : Nat
 tc : Nat
def Zc.zero : Zc := ⟨⟨0, 0, [], []⟩, none, 0, 0, none, 0, 0⟩
def Zc.q (x : Zc) : Q4 := ⟨.int .i64 x.z.f, .int .i64 x.z.t, .slice x.fo x.fn x.fc, .slice x.to_ x.tn x.tc⟩
def Zc.At (w : World) (x : Zc) : Prop := ZnAt w x.fo x.fn x.to_ x.tn x.z
theorem Zc.one (x : Zc) : x.q.One := ⟨rfl, rfl, rfl, rfl⟩
structure Ls where
 c : Int
 z : Int
 t : Int
 pages : List Int
structure Lc where
 l : Ls
 po : Option Addr
 pn : Nat
 pc : Nat
def Lc.zero : Lc := ⟨⟨0, 0, 0, []⟩, none, 0, 0⟩
def Lc.q (x : Lc) : Q4 := ⟨.int .i64 x.l.c, .int .i64 x.l.z, .int .i64 x.l.t, .slice x.po x.pn x.pc⟩
def Lc.At (w : World) (x : Lc) : Prop := Nums w x.po x.pn x.l.pages
theorem Lc.one (x : Lc) : x.q.One := ⟨rfl, rfl, rfl, rfl⟩
theorem Zc.At.below {w w' : World} {x : Zc} (h : x.At w) (hb : Below w.heap.size w w') : x.At w' := ZnAt.below h hb
theorem Lc.At.below {w w' : World} {x : Lc} (h : x.At w) (hb : Below w.heap.size w w') : x.At w' := Nums.below h hb
theorem getD_map {α β : Type} (l : List α) (f : α → β) (i : Nat) (d : α) (e : β) (h : i < l.length) : (l.map f).getD i e = f (l.getD i d) := by
 simp [List.getD_eq_getElem?_getD, h]
structure Zons (w : World) (ao : Option Addr) (n : Nat) (l : List Zc) : Prop where
 len : l.length = n
 reach : n * 64 ≤ 140737488351232
 cells : C4At w ao (l.map Zc.q)
 at_ : ∀ x ∈ l, x.At w
structure Lsts (w : World) (ao : Option Addr) (n : Nat) (l : List Lc) : Prop where
 len : l.length = n
 reach : n * 48 ≤ 140737488351232
 cells : C4At w ao (l.map Lc.q)
 at_ : ∀ x ∈ l, x.At w
theorem Zons.below {w w' : World} {ao : Option Addr} {n : Nat} {l : List Zc} (h : Zons w ao n l) (hb : Below w.heap.size w w') : Zons w' ao n l := ⟨h.len, h.reach, h.cells.below hb, fun x hx => (h.at_ x hx).below hb⟩
theorem Lsts.below {w w' : World} {ao : Option Addr} {n : Nat} {l : List Lc} (h : Lsts w ao n l) (hb : Below w.heap.size w w') : Lsts w' ao n l := ⟨h.len, h.reach, h.cells.below hb, fun x hx => (h.at_ x hx).below hb⟩
theorem Zons.nil (w : World) : Zons w none 0 [] := ⟨rfl, by omega, C4At.nil _ _, fun _ h => by cases h⟩
theorem Lsts.nil (w : World) : Lsts w none 0 [] := ⟨rfl, by omega, C4At.nil _ _, fun _ h => by cases h⟩
theorem getD_mem {α : Type} {l : List α} {i : Nat} {d : α} (h : i < l.length) : l.getD i d ∈ l := by
 rw [List.getD_eq_getElem?_getD, List.getElem?_eq_getElem h]; exact List.getElem_mem _
theorem Zons.at {w : World} {ao : Option Addr} {n : Nat} {l : List Zc} (h : Zons w ao n l) (k : Nat) (hk : k < n) : ∃ b off z fo fn fc to_ tn tc, ao = some ⟨b, off, none⟩ ∧ w.cell? ⟨b, off + k * 4, none⟩ = some (.int .i64 z.f) ∧ w.cell? ⟨b, off + k * 4 + 1, none⟩ = some (.int .i64 z.t) ∧
    w.cell? ⟨b, off + k * 4 + 2, none⟩ = some (.slice fo fn fc) ∧ w.cell? ⟨b, off + k * 4 + 3, none⟩ = some (.slice to_ tn tc) ∧ ZnAt w fo fn to_ tn z ∧ Hid (l.getD k .zero = ⟨z, fo, fn, fc, to_, tn, tc⟩) := by
 have hk' : k < l.length := by have := h.len; omega
 obtain ⟨b, off, ha, h0, h1, h2, h3⟩ := h.cells k (by simpa using hk')
 rw [getD_map l Zc.q k .zero _ hk'] at h0 h1 h2 h3
 have hat := h.at_ _ (getD_mem (d := Zc.zero) hk')
 exact ⟨b, off, _, _, _, _, _, _, _, ha, h0, h1, h2, h3, hat, rfl⟩
theorem Lsts.at {w : World} {ao : Option Addr} {n : Nat} {l : List Lc} (h : Lsts w ao n l) (k : Nat) (hk : k < n) : ∃ b off c z t pages po pn pc, ao = some ⟨b, off, none⟩ ∧ w.cell? ⟨b, off + k * 4, none⟩ = some (.int .i64 c) ∧ w.cell? ⟨b, off + k * 4 + 1, none⟩ = some (.int .i64 z) ∧
    w.cell? ⟨b, off + k * 4 + 2, none⟩ = some (.int .i64 t) ∧ w.cell? ⟨b, off + k * 4 + 3, none⟩ = some (.slice po pn pc) ∧ Nums w po pn pages ∧ Hid (l.getD k .zero = ⟨⟨c, z, t, pages⟩, po, pn, pc⟩) := by
 have hk' : k < l.length := by have := h.len; omega
 obtain ⟨b, off, ha, h0, h1, h2, h3⟩ := h.cells k (by simpa using hk')
 rw [getD_map l Lc.q k .zero _ hk'] at h0 h1 h2 h3
 have hat := h.at_ _ (getD_mem (d := Lc.zero) hk')
 exact ⟨b, off, _, _, _, _, _, _, _, ha, h0, h1, h2, h3, hat, rfl⟩
structure Hp where
 zones : List Zn
 mins : List Int
 cpus : Int
 lists : List Ls
 live : List Bk
structure Hx where
 zs : List Zc
 zo : Option Addr
 zn : Nat
 zc : Nat
 mins : List Int
 mo : Option Addr
 mn : Nat
 mc : Nat
 cpus : Int
 ls : List Lc
 lo : Option Addr
 ln : Nat
 lc : Nat
 live : List Bk
 vo : Option Addr
 vn : Nat
 vc : Nat
def Hx.hp (x : Hx) : Hp := ⟨x.zs.map (·.z), x.mins, x.cpus, x.ls.map (·.l), x.live⟩
structure Hx.At (w : World) (x : Hx) : Prop where
 zones : Zons w x.zo x.zn x.zs
 mins : Nums w x.mo x.mn x.mins
 lists : Lsts w x.lo x.ln x.ls
 live : Blks w x.vo x.vn x.live
theorem Hx.At.below {w w' : World} {x : Hx} (h : x.At w) (hb : Below w.heap.size w w') : x.At w' := ⟨h.zones.below hb, h.mins.below hb, h.lists.below hb, h.live.below hb⟩
structure HBox (W : World) (b : Nat) (x y u v t : Value) : Prop where
 c0 : W.cell? ⟨b, 0, none⟩ = some x
 c1 : W.cell? ⟨b, 1, none⟩ = some y
 c2 : W.cell? ⟨b, 2, none⟩ = some u
 c3 : W.cell? ⟨b, 3, none⟩ = some v
 c4 : W.cell? ⟨b, 4, none⟩ = some t
 z0 : W.frozen? ⟨b, 0, none⟩ = false
 z1 : W.frozen? ⟨b, 1, none⟩ = false
 z2 : W.frozen? ⟨b, 2, none⟩ = false
 z3 : W.frozen? ⟨b, 3, none⟩ = false
 z4 : W.frozen? ⟨b, 4, none⟩ = false
theorem HBox.lt {W : World} {b : Nat} {x y u v t : Value} (h : HBox W b x y u v t) : b < W.heap.size := by
 have := World.block_lt_of_cell? W _ h.c0
 exact this
theorem HBox.of_block {W W' : World} {b : Nat} {x y u v t : Value} (h : HBox W b x y u v t) (hb : W'.heap[b]? = W.heap[b]?) : HBox W' b x y u v t :=
 ⟨(World.cell?_of_block (a := ⟨b, 0, none⟩) hb).trans h.c0, (World.cell?_of_block (a := ⟨b, 1, none⟩) hb).trans h.c1, (World.cell?_of_block (a := ⟨b, 2, none⟩) hb).trans h.c2, (World.cell?_of_block (a := ⟨b, 3, none⟩) hb).trans h.c3, (World.cell?_of_block (a := ⟨b, 4, none⟩) hb).trans h.c4,
  (World.frozen?_of_block (a := ⟨b, 0, none⟩) hb).trans h.z0, (World.frozen?_of_block (a := ⟨b, 1, none⟩) hb).trans h.z1, (World.frozen?_of_block (a := ⟨b, 2, none⟩) hb).trans h.z2, (World.frozen?_of_block (a := ⟨b, 3, none⟩) hb).trans h.z3, (World.frozen?_of_block (a := ⟨b, 4, none⟩) hb).trans h.z4⟩
theorem HBox.below {W W' : World} {b : Nat} {x y u v t : Value} (h : HBox W b x y u v t) (hb : Below W.heap.size W W') : HBox W' b x y u v t := h.of_block (hb.block b h.lt)
theorem HBox.but {W W' : World} {b c : Nat} {x y u v t : Value} (h : HBox W b x y u v t) (hb : But c W W') (hne : b ≠ c) : HBox W' b x y u v t := h.of_block (hb.block b h.lt hne)
theorem hbox_of_row {W : World} {x : Nat} {a b c d e : Value} {t : TypeId} (h : W.heap[x]? = some (.cells #[a, b, c, d, e] t (0, 0))) : HBox W x a b c d e := by
 have hc : ∀ i : Nat, W.cell? ⟨x, i, none⟩ = (#[a, b, c, d, e] : Array Value)[i]? := fun i => by simp [World.cell?, h]
 have hf : ∀ i : Nat, W.frozen? ⟨x, i, none⟩ = false := fun i => by simp [World.frozen?, h]
 exact ⟨by rw [hc]; rfl, by rw [hc]; rfl, by rw [hc]; rfl, by rw [hc]; rfl, by rw [hc]; rfl, hf 0, hf 1, hf 2, hf 3, hf 4⟩
theorem hbox_new (W : World) (x y u v t : Value) (ty : TypeId) : HBox (W.alloc (.cells #[x, y, u, v, t] ty)) W.heap.size x y u v t :=
 hbox_of_row (t := ty) (by show (W.heap.push _)[W.heap.size]? = _; rw [Array.getElem?_push, if_pos rfl])
theorem but5 (W : World) (b : Nat) (x y u v t : Value) : But b W (((((W.setCell ⟨b, 0, none⟩ x).setCell ⟨b, 1, none⟩ y).setCell ⟨b, 2, none⟩ u).setCell ⟨b, 3, none⟩ v).setCell ⟨b, 4, none⟩ t) :=
 ((((((But.refl b W).setCell x).setCell y).setCell u).setCell v).setCell t)
theorem HBox.set5 {W : World} {b : Nat} {x y u v t : Value} (h : HBox W b x y u v t) (x' y' u' v' t' : Value) : HBox (((((W.setCell ⟨b, 0, none⟩ x').setCell ⟨b, 1, none⟩ y').setCell ⟨b, 2, none⟩ u').setCell ⟨b, 3, none⟩ v').setCell ⟨b, 4, none⟩ t') b x' y' u' v' t' := by
 have o : ∀ (X : World) (i j : Nat) (r : Value), i ≠ j → (X.setCell ⟨b, i, none⟩ r).cell? ⟨b, j, none⟩ = X.cell? ⟨b, j, none⟩ := fun X i j r hij => World.cell?_setCell_other _ _ _ _ (by intro g; cases g; exact hij rfl)
 refine ⟨?_, ?_, ?_, ?_, ?_, by simpa using h.z0, by simpa using h.z1, by simpa using h.z2, by simpa using h.z3, by simpa using h.z4⟩
 ·rw [o _ 4 0 _ (by decide), o _ 3 0 _ (by decide), o _ 2 0 _ (by decide), o _ 1 0 _ (by decide)]
  exact World.cell?_setCell_same _ _ _ h.c0
 ·rw [o _ 4 1 _ (by decide), o _ 3 1 _ (by decide), o _ 2 1 _ (by decide)]
  exact World.cell?_setCell_same _ _ _ ((o _ 0 1 _ (by decide)).trans h.c1)
 ·rw [o _ 4 2 _ (by decide), o _ 3 2 _ (by decide)]
  exact World.cell?_setCell_same _ _ _ ((o _ 1 2 _ (by decide)).trans ((o _ 0 2 _ (by decide)).trans h.c2))
 ·rw [o _ 4 3 _ (by decide)]
  exact World.cell?_setCell_same _ _ _ ((o _ 2 3 _ (by decide)).trans ((o _ 1 3 _ (by decide)).trans ((o _ 0 3 _ (by decide)).trans h.c3)))
 ·exact World.cell?_setCell_same _ _ _ ((o _ 3 4 _ (by decide)).trans ((o _ 2 4 _ (by decide)).trans ((o _ 1 4 _ (by decide)).trans ((o _ 0 4 _ (by decide)).trans h.c4))))
end Go.Proofs.Ytnijjpakpphhhaa.Kit
