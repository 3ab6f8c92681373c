/-
  OWN TEXT. A block has a page in common with one of a list; what it is to be decided by a look at each.
-/
import Derived.Test.YtamkgakhgfhmjaeZPure
namespace Go.Proofs.Ytamkgakhgfhmjae.Kit

/-- Another block has a page of it. -/
def ovlP (l : List Bk) (a o : Int) : Prop := ∃ i, i < l.length ∧ (l.getD i .zero).a < a + pw o ∧ a < (l.getD i .zero).a + pw (l.getD i .zero).o

/-- One block has a page below E, and one above a. -/
def ovl1 (E a : Int) (b : Bk) : Bool := decide (b.a < E ∧ a < b.a + pw b.o)
theorem ovl_any (l : List Bk) (a o : Int) : l.any (ovl1 (a + pw o) a) = true ↔ ovlP l a o := by
  rw [List.any_eq_true]
  constructor
  · rintro ⟨x, hx, h⟩
    obtain ⟨i, hi, rfl⟩ := List.getElem_of_mem hx
    have := of_decide_eq_true h
    refine ⟨i, hi, ?_⟩
    rw [List.getD_eq_getElem?_getD, List.getElem?_eq_getElem hi]
    exact this
  · rintro ⟨i, hi, h⟩
    rw [List.getD_eq_getElem?_getD, List.getElem?_eq_getElem hi] at h
    exact ⟨l[i], List.getElem_mem _, decide_eq_true h⟩

end Go.Proofs.Ytamkgakhgfhmjae.Kit
