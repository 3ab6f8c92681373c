/-
  OWN TEXT. What a closure over regions is asked for slices.IndexFunc.
-/
import Derived.Test.YtfogdgnlbgoakadBPure
namespace Go.Proofs.Ytfogdgnlbgoakad
open Go Go.RowKit Go.Proofs.Ytfogdgnlbgoakad.Kit

/-- What the closure does at the regions of a list, whatever new memory there is. -/
def HoldsR (F : Nat) (caps : Array Value) (l : List (Int × Int)) (g : Int × Int → Bool) (w : World) : Prop :=
  ∀ (i : Nat), i < l.length → ∀ W : World, Below w.heap.size w W → Calls Try.prog F (#[Value.agg #[.int .i64 (l.getD i (0, 0)).1, .int .i64 (l.getD i (0, 0)).2]] ++ caps) W fun e W' => e = .returned (.bool (g (l.getD i (0, 0)))) ∧ Below W.heap.size W W'

/-- An index that is there when something is. -/
def FoundIff (e : Ending) (b : Bool) : Prop := ∃ i : Int, e = .returned (.int .i64 i) ∧ (0 ≤ i ↔ b = true)

theorem any_next {g : Int × Int → Bool} {l : List (Int × Int)} {k : Nat} (h : (l.take k).any g = false) (hk : k < l.length) : (l.take (k + 1)).any g = g (l.getD k (0, 0)) := by
  rw [List.take_add_one, List.any_append, h]
  simp [List.getD_eq_getElem?_getD, hk]

theorem any_of_take {g : Int × Int → Bool} {l : List (Int × Int)} {k : Nat} (h : (l.take k).any g = true) : l.any g = true := by
  rw [List.any_eq_true] at h ⊢
  obtain ⟨x, hx, hg⟩ := h
  exact ⟨x, List.mem_of_mem_take hx, hg⟩

end Go.Proofs.Ytfogdgnlbgoakad
