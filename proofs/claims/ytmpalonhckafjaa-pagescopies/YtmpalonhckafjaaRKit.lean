/-
  OWN TEXT. Slices of regions (two numbers each) over whatever program: one that can be read ('RegsAt'), one that the call owns.
-/
import Derived.Test.YtmpalonhckafjaaKit
import Derived.OpenShut
namespace Go.Proofs.Ytmpalonhckafjaa.Kit
open Go Go.RowKit

/-- Regions as cells. -/
def rvals : List (Int × Int) → List Value
  | [] => []
  | r :: l => Value.int .i64 r.1 :: Value.int .i64 r.2 :: rvals l

theorem length_rvals (l : List (Int × Int)) : (rvals l).length = l.length * 2 := by
  induction l with
  | nil => rfl
  | cons r l ih => simp only [rvals, List.length_cons, ih]; omega
theorem rvals_append (l m : List (Int × Int)) : rvals (l ++ m) = rvals l ++ rvals m := by
  induction l with
  | nil => rfl
  | cons r l ih => simp [rvals, ih]
theorem rvals_fst (l : List (Int × Int)) (i : Nat) (h : i < l.length) : (rvals l)[i * 2]? = some (.int .i64 (l.getD i (0, 0)).1) := by
  induction l generalizing i with
  | nil => simp at h
  | cons r l ih =>
    cases i with
    | zero => simp [rvals]
    | succ i =>
      have := ih i (by simpa using h)
      rw [Nat.succ_mul]
      simpa [rvals] using this
theorem rvals_snd (l : List (Int × Int)) (i : Nat) (h : i < l.length) : (rvals l)[i * 2 + 1]? = some (.int .i64 (l.getD i (0, 0)).2) := by
  induction l generalizing i with
  | nil => simp at h
  | cons r l ih =>
    cases i with
    | zero => simp [rvals]
    | succ i =>
      have := ih i (by simpa using h)
      rw [Nat.succ_mul]
      simpa [rvals] using this
theorem rvals_oneCell (l : List (Int × Int)) : ∀ u ∈ rvals l, u.oneCell' = true := by
  induction l with
  | nil => intro u hu; simp [rvals] at hu
  | cons r l ih =>
    intro u hu
    simp only [rvals, List.mem_cons] at hu
    rcases hu with rfl | rfl | hu
    · rfl
    · rfl
    · exact ih u hu
theorem rvals_set_snd (l : List (Int × Int)) (i : Nat) (x : Int) (h : i < l.length) : (rvals l).set (i * 2 + 1) (.int .i64 x) = rvals (l.set i ((l.getD i (0, 0)).1, x)) := by
  induction l generalizing i with
  | nil => simp at h
  | cons r l ih =>
    cases i with
    | zero => simp [rvals]
    | succ i =>
      have := ih i (by simpa using h)
      rw [Nat.succ_mul]
      simpa [rvals] using this

/-- The cells from 'ao' on hold the regions 'l'. -/
def RegsAt (w : World) (ao : Option Addr) (l : List (Int × Int)) : Prop :=
  ∀ i, i < l.length → ∃ b off, ao = some ⟨b, off, none⟩ ∧ w.cell? ⟨b, off + i * 2, none⟩ = some (.int .i64 (l.getD i (0, 0)).1) ∧ w.cell? ⟨b, off + i * 2 + 1, none⟩ = some (.int .i64 (l.getD i (0, 0)).2)

theorem RegsAt.below {w w' : World} {ao : Option Addr} {l : List (Int × Int)} (h : RegsAt w ao l) (hb : Below w.heap.size w w') : RegsAt w' ao l := by
  intro i hi
  obtain ⟨b, off, ha, h1, h2⟩ := h i hi
  exact ⟨b, off, ha, (hb.cell (p := ⟨b, off + i * 2, none⟩) (World.block_lt_of_cell? w _ h1)).trans h1, (hb.cell (p := ⟨b, off + i * 2 + 1, none⟩) (World.block_lt_of_cell? w _ h2)).trans h2⟩

theorem RegsAt.nil (w : World) (ao : Option Addr) : RegsAt w ao [] := fun i hi => absurd hi (by simp)

theorem regs_of_owns {w : World} {base : Nat} {e : TypeId} {ao : Option Addr} {n cap : Nat} {l : List (Int × Int)}
    (h : w.ownsRow base e 2 (.slice ao n cap) n (rvals l)) : RegsAt w ao l := by
  intro i hi
  have hl := h.1
  rw [length_rvals] at hl
  rcases h.2 with ⟨h', h0⟩ | ⟨g, cap', cur, h', _, hg, _, _, _, htake⟩
  · omega
  · simp only [Value.slice.injEq] at h'
    obtain ⟨rfl, _, rfl⟩ := h'
    refine ⟨g, 0, rfl, ?_, ?_⟩
    · rw [Nat.zero_add, h.cellAt (i * 2) (by omega), rvals_fst l i hi]
    · rw [Nat.zero_add, h.cellAt (i * 2 + 1) (by omega), rvals_snd l i hi]

theorem rowns_len {w : World} {base : Nat} {e : TypeId} {v : Value} {n : Nat} {l : List (Int × Int)}
    (h : w.ownsRow base e 2 v n (rvals l)) : l.length = n := by have := h.1; rw [length_rvals] at this; omega

/-- The source of an append. -/
theorem rsrc_of {w : World} {ao : Option Addr} {l : List (Int × Int)} (h : RegsAt w ao l) (h0 : 0 < l.length) : ∃ ad, ao = some ad ∧ ∀ j v, (rvals l)[j]? = some v → w.cell? (ad.add j) = some v := by
  obtain ⟨b, off, rfl, _⟩ := h 0 h0
  refine ⟨_, rfl, fun j v hj => ?_⟩
  have hadd : (⟨b, off, none⟩ : Addr).add j = ⟨b, off + j, none⟩ := by unfold Addr.add; split <;> simp_all
  rw [hadd]
  have hlt : j < (rvals l).length := (List.getElem?_eq_some_iff.1 hj).1
  rw [length_rvals] at hlt
  obtain ⟨b', off', he, c1, c2⟩ := h (j / 2) (by omega)
  simp only [Option.some.injEq, Addr.mk.injEq, and_true] at he
  obtain ⟨rfl, rfl⟩ := he
  rcases Nat.mod_two_eq_zero_or_one j with hm | hm
  · have e1 : j = j / 2 * 2 := by omega
    rw [e1, rvals_fst l _ (by omega)] at hj
    rw [← e1] at c1
    rw [c1]; exact hj
  · have e1 : j = j / 2 * 2 + 1 := by omega
    rw [e1, rvals_snd l _ (by omega)] at hj
    have e2 : off + j / 2 * 2 + 1 = off + j := by omega
    rw [e2] at c2
    rw [c2]; exact hj

/-- One region of a slice: its two cells, the numbers under names. -/
theorem RegsAt.at {w : World} {ao : Option Addr} {l : List (Int × Int)} (h : RegsAt w ao l) (k : Nat) (hk : k < l.length) : ∃ b off x y, ao = some ⟨b, off, none⟩ ∧ w.cell? ⟨b, off + k * 2, none⟩ = some (.int .i64 x) ∧ w.cell? ⟨b, off + k * 2 + 1, none⟩ = some (.int .i64 y) ∧ Hid (l.getD k (0, 0) = (x, y)) := by
  obtain ⟨b, off, ha, h1, h2⟩ := h k hk
  exact ⟨b, off, _, _, ha, h1, h2, rfl⟩

theorem rtake_snoc (l : List (Int × Int)) (k : Nat) (h : k < l.length) {x y : Int} (hx : l.getD k (0, 0) = (x, y)) : rvals (l.take k) ++ [Value.int .i64 x, Value.int .i64 y] = rvals (l.take (k + 1)) := by
  rw [List.getD_eq_getElem?_getD, List.getElem?_eq_getElem h] at hx
  simp only [Option.getD_some] at hx
  rw [List.take_succ_eq_append_getElem h, rvals_append, hx]
  rfl

/-- A slice of regions that can be read. -/
structure Regs (w : World) (ao : Option Addr) (n : Nat) (l : List (Int × Int)) : Prop where
  len : l.length = n
  reach : n * 16 ≤ 140737488351232
  at_ : RegsAt w ao l

theorem Regs.below {w w' : World} {ao : Option Addr} {n : Nat} {l : List (Int × Int)} (h : Regs w ao n l) (hb : Below w.heap.size w w') : Regs w' ao n l := ⟨h.len, h.reach, h.at_.below hb⟩

/-- Regions that lie elsewhere are read behind two stores. -/
theorem regs_set2 {W : World} {ao : Option Addr} {n b : Nat} {l : List (Int × Int)} (h : Regs W ao n l) (hne : ∀ a, ao = some a → a.block ≠ b) (x y : Value) : Regs ((W.setCell ⟨b, 0, none⟩ x).setCell ⟨b, 1, none⟩ y) ao n l := by
  refine ⟨h.len, h.reach, fun i hi => ?_⟩
  obtain ⟨c, o, ha, h1, h2⟩ := h.at_ i hi
  have hn := hne _ ha
  have key : ∀ j, ((W.setCell ⟨b, 0, none⟩ x).setCell ⟨b, 1, none⟩ y).cell? ⟨c, j, none⟩ = W.cell? ⟨c, j, none⟩ := fun j =>
    (World.cell?_setCell_other _ _ _ _ (by intro e; cases e; exact hn rfl)).trans (World.cell?_setCell_other _ _ _ _ (by intro e; cases e; exact hn rfl))
  exact ⟨c, o, ha, (key _).trans h1, (key _).trans h2⟩

/-- What the walk is told of a slice of regions that came in. -/
structure IsRegs (w : World) (ao : Option Addr) (n cap : Nat) (l : List (Int × Int)) : Prop where
  len : l.length = n
  le : n ≤ cap
  reach : cap * 16 ≤ 140737488351232
  nil : ao = none → n = 0 ∧ cap = 0
  at_ : RegsAt w ao l
  wf : ∀ r ∈ l, (-9223372036854775808 ≤ r.1 ∧ r.1 ≤ 9223372036854775807) ∧ (-9223372036854775808 ≤ r.2 ∧ r.2 ≤ 9223372036854775807)

theorem IsRegs.below {w w' : World} {ao : Option Addr} {n cap : Nat} {l : List (Int × Int)} (h : IsRegs w ao n cap l) (hb : Below w.heap.size w w') : IsRegs w' ao n cap l :=
  ⟨h.len, h.le, h.reach, h.nil, h.at_.below hb, h.wf⟩

theorem IsRegs.regs {w : World} {ao : Option Addr} {n cap : Nat} {l : List (Int × Int)} (h : IsRegs w ao n cap l) : Regs w ao n l :=
  ⟨h.len, by have := h.reach; have := h.le; omega, h.at_⟩

/-- A bool is returned that tells whether something holds. (A name of its own: the walk's simp leaves it standing.) -/
def RetIff (e : Ending) (p : Prop) : Prop := ∃ r : Bool, e = .returned (.bool r) ∧ (r = true ↔ p)

/-- A region that may be. -/
def regOk (r : Int × Int) : Prop := 0 ≤ r.1 ∧ r.1 ≤ 255 ∧ 1 ≤ r.2 ∧ r.2 ≤ 256 ∧ r.1 + r.2 ≤ 256

/-- Regions that may be. -/
structure MayP (l : List (Int × Int)) : Prop where
  len : l.length ≤ 40
  ok : ∀ i, i < l.length → regOk (l.getD i (0, 0))
  gap : ∀ i, i + 1 < l.length → (l.getD i (0, 0)).1 + (l.getD i (0, 0)).2 < (l.getD (i + 1) (0, 0)).1

/-- Is a page in one of them? -/
def inL (l : List (Int × Int)) (p : Int) : Bool := l.any fun r => decide (r.1 ≤ p ∧ p ≤ r.1 + r.2 - 1)

/-- No size is too great for a word. -/
def TopL (l : List (Int × Int)) : Prop := ∀ r ∈ l, r.2 ≤ 9223372036854775807
theorem TopL.at {l : List (Int × Int)} (h : TopL l) (k : Nat) (hk : k < l.length) {x y : Int} (e : l.getD k (0, 0) = (x, y)) : y ≤ 9223372036854775807 := by
  rw [List.getD_eq_getElem?_getD, List.getElem?_eq_getElem hk] at e
  have := h _ (List.getElem_mem hk)
  simp only [Option.getD_some] at e
  rw [e] at this
  exact this
theorem IsRegs.top {w : World} {ao : Option Addr} {n cap : Nat} {l : List (Int × Int)} (h : IsRegs w ao n cap l) : TopL l := fun r hr => (h.wf r hr).2.2
theorem wf_top {s : Int} (h : (Lit.int .i64 s).wf = true) : s ≤ 9223372036854775807 := by
  have := bounds_i64 h
  omega

end Go.Proofs.Ytmpalonhckafjaa.Kit
