/-
  OWN TEXT. Lists of blocks with one less, with one more, as plain mathematics.
-/
import Derived.Test.YtamkgakhgfhmjaeZPure
namespace Go.Proofs.Ytamkgakhgfhmjae.Kit

/-- It is the block at a place, of an order. -/
def isB (a o : Int) (b : Bk) : Bool := decide (b.a = a ∧ b.o = o)
/-- All others. -/
def dropB (l : List Bk) (a o : Int) : List Bk := l.filter fun b => !isB a o b
/-- There is one. -/
def hasB (l : List Bk) (a o : Int) : Bool := l.any (isB a o)

theorem dropB_snoc (l : List Bk) (a o : Int) (b : Bk) : dropB (l ++ [b]) a o = if isB a o b = true then dropB l a o else dropB l a o ++ [b] := by
  unfold dropB
  rw [List.filter_append]
  by_cases h : isB a o b = true
  · rw [if_pos h]; simp [List.filter, h]
  · rw [if_neg h]; simp [List.filter, h]
theorem hasB_snoc (l : List Bk) (a o : Int) (b : Bk) : hasB (l ++ [b]) a o = (hasB l a o || isB a o b) := by simp [hasB, List.any_append]
theorem dropB_len (l : List Bk) (a o : Int) : (dropB l a o).length ≤ l.length := List.length_filter_le _ _

/-- A list with one more, by places. -/
def addB : List Bk → Bk → List Bk
  | [], b => [b]
  | x :: l, b => if x.a > b.a then b :: x :: l else x :: addB l b

theorem addB_len (l : List Bk) (b : Bk) : (addB l b).length = l.length + 1 := by
  induction l with
  | nil => rfl
  | cons x l ih =>
    simp only [addB]
    split
    · simp
    · simp [ih]

/-- One of them lies higher. -/
def gtB (l : List Bk) (b : Bk) : Bool := l.any fun x => decide (x.a > b.a)
theorem gtB_snoc (l : List Bk) (x b : Bk) : gtB (l ++ [x]) b = (gtB l b || decide (x.a > b.a)) := by simp [gtB, List.any_append]
theorem addB_snoc_t {l : List Bk} {b : Bk} (x : Bk) (h : gtB l b = true) : addB (l ++ [x]) b = addB l b ++ [x] := by
  induction l with
  | nil => simp [gtB] at h
  | cons y l ih =>
    simp only [List.cons_append, addB]
    by_cases g : y.a > b.a
    · rw [if_pos g, if_pos g]; rfl
    · rw [if_neg g, if_neg g, ih (by simp only [gtB, List.any_cons, Bool.or_eq_true, decide_eq_true_eq] at h ⊢; rcases h with h | h; exact absurd h g; exact h)]
      rfl
theorem addB_none {l : List Bk} {b : Bk} (h : gtB l b = false) : addB l b = l ++ [b] := by
  induction l with
  | nil => rfl
  | cons y l ih =>
    simp only [gtB, List.any_cons, Bool.or_eq_false_iff, decide_eq_false_iff_not] at h
    simp only [addB]
    rw [if_neg h.1, ih h.2]
    rfl
theorem addB_snoc_f {l : List Bk} {b x : Bk} (h : gtB l b = false) (hx : x.a > b.a) : addB (l ++ [x]) b = l ++ [b, x] := by
  induction l with
  | nil => simp [addB, hx]
  | cons y l ih =>
    simp only [gtB, List.any_cons, Bool.or_eq_false_iff, decide_eq_false_iff_not] at h
    simp only [List.cons_append, addB]
    rw [if_neg h.1, ih h.2]

/-- What is there behind the first k. -/
def outB (l : List Bk) (b : Bk) : List Bk := if gtB l b = true then addB l b else l
theorem outB_len (l : List Bk) (b : Bk) : (outB l b).length ≤ l.length + 1 := by
  unfold outB
  split
  · rw [addB_len]; omega
  · omega

end Go.Proofs.Ytamkgakhgfhmjae.Kit
