/-
  OWN TEXT. A region of ten operations that draws its order, by one invariant: what holds behind whichever of them have come up.
-/
import Derived.Test.YtfogdgnlbgoakadKit
import Derived.RegionTactic
namespace Go.Proofs.Ytfogdgnlbgoakad.Kit
open Go Go.RowKit

theorem wpOp_of {P : Program} {ops : Array Oper} {Q : Exit → Act → World → Prop} {K : Act → World → Prop} {i : Nat} {o : Oper} {a : Act} {w : World} (ho : ops[i]? = some o)
    (h : ∀ K' : Act → World → Prop, (∀ a w, K a w → K' a w) → if Region.wanted o (yielded ops a.tmps) = true then Oper.wp P o a w K' Q else K' (a.put o.dst undef) w) : wpOp P ops Q i K a w := by
  have h1 := h K (fun _ _ g => g)
  unfold wpOp
  simp only [ho]
  split
  · rename_i hw
    simp only [hw, if_true] at h1
    exact Or.inl h1
  · rename_i hw
    simp only [hw] at h1
    exact h1

theorem arr10 {l : Array Bool} (h : l.size = 10) : ∃ l0 l1 l2 l3 l4 l5 l6 l7 l8 l9, l = #[l0, l1, l2, l3, l4, l5, l6, l7, l8, l9] := by
  rcases l with ⟨l⟩
  match l, h with
  | [l0, l1, l2, l3, l4, l5, l6, l7, l8, l9], _ => exact ⟨l0, l1, l2, l3, l4, l5, l6, l7, l8, l9, rfl⟩

/-- How many have not come up. -/
def left10 (l : Array Bool) : Nat := l.toList.countP (fun b => !b)

theorem left10_set {l : Array Bool} {i : Nat} (hi : l[i]? = some false) : left10 (l.setIfInBounds i true) + 1 = left10 l := by
  rcases l with ⟨l⟩
  have hi' : l[i]? = some false := by simpa using hi
  unfold left10
  simp only [List.setIfInBounds_toArray]
  clear hi
  induction l generalizing i with
  | nil => simp at hi'
  | cons b l ih =>
    cases i with
    | zero =>
      simp only [List.getElem?_cons_zero, Option.some.injEq] at hi'
      subst hi'
      simp
    | succ i =>
      have := ih (by simpa using hi')
      simp only [List.set_cons_succ, List.countP_cons]
      omega

theorem wpAny_ten {P : Program} {ops : Array Oper} {Q : Exit → Act → World → Prop} (chk : Array Bool → Nat → Bool) (Inv : Array Bool → Act → World → Prop)
    (hdep : ∀ l0 l1 l2 l3 l4 l5 l6 l7 l8 l9 : Bool, (Region.ready .any ops #[l0, l1, l2, l3, l4, l5, l6, l7, l8, l9]).all (chk #[l0, l1, l2, l3, l4, l5, l6, l7, l8, l9]) = true)
    (hend : ∀ l0 l1 l2 l3 l4 l5 l6 l7 l8 l9 : Bool, ((Region.ready .any ops #[l0, l1, l2, l3, l4, l5, l6, l7, l8, l9]).isEmpty → (l0 && l1 && l2 && l3 && l4 && l5 && l6 && l7 && l8 && l9) = true))
    (hfull : Region.ready .any ops #[true, true, true, true, true, true, true, true, true, true] = [])
    (hchk : ∀ l0 l1 l2 l3 l4 l5 l6 l7 l8 l9 : Bool, ∀ i, chk #[l0, l1, l2, l3, l4, l5, l6, l7, l8, l9] i = true → #[l0, l1, l2, l3, l4, l5, l6, l7, l8, l9][i]? = some false)
    (hs : ∀ l0 l1 l2 l3 l4 l5 l6 l7 l8 l9 a w, Inv #[l0, l1, l2, l3, l4, l5, l6, l7, l8, l9] a w → ∀ i, chk #[l0, l1, l2, l3, l4, l5, l6, l7, l8, l9] i = true → wpOp P ops Q i (fun a' w' => Inv (#[l0, l1, l2, l3, l4, l5, l6, l7, l8, l9].setIfInBounds i true) a' w') a w)
    (hd : ∀ a w, Inv #[true, true, true, true, true, true, true, true, true, true] a w → Q .normal a w) :
    ∀ (fuel : Nat) (l : Array Bool) (a : Act) (w : World), l.size = 10 → left10 l ≤ fuel → Inv l a w → wpAny P .any ops Q fuel l a w := by
  intro fuel
  have hend' : ∀ (l : Array Bool), l.size = 10 → Region.ready .any ops l = [] → l = #[true, true, true, true, true, true, true, true, true, true] := by
    intro l hl hr
    obtain ⟨l0, l1, l2, l3, l4, l5, l6, l7, l8, l9, rfl⟩ := arr10 hl
    have := hend l0 l1 l2 l3 l4 l5 l6 l7 l8 l9 (by rw [hr]; rfl)
    simp only [Bool.and_eq_true] at this
    obtain ⟨⟨⟨⟨⟨⟨⟨⟨⟨h0, h1⟩, h2⟩, h3⟩, h4⟩, h5⟩, h6⟩, h7⟩, h8⟩, h9⟩ := this
    subst h0 h1 h2 h3 h4 h5 h6 h7 h8 h9
    rfl
  induction fuel with
  | zero =>
    intro l a w hl hc hI
    have hr : Region.ready .any ops l = [] := by
      obtain ⟨l0, l1, l2, l3, l4, l5, l6, l7, l8, l9, rfl⟩ := arr10 hl
      have h0 : l0 = true ∧ l1 = true ∧ l2 = true ∧ l3 = true ∧ l4 = true ∧ l5 = true ∧ l6 = true ∧ l7 = true ∧ l8 = true ∧ l9 = true := by
        revert hc
        unfold left10
        cases l0 <;> cases l1 <;> cases l2 <;> cases l3 <;> cases l4 <;> cases l5 <;> cases l6 <;> cases l7 <;> cases l8 <;> cases l9 <;> decide
      obtain ⟨rfl, rfl, rfl, rfl, rfl, rfl, rfl, rfl, rfl, rfl⟩ := h0
      exact hfull
    have := hend' l hl hr
    subst this
    exact ⟨hr, hd a w hI⟩
  | succ n ih =>
    intro l a w hl hc hI
    refine ⟨fun hr => ?_, fun i hi => ?_⟩
    · have := hend' l hl hr
      subst this
      exact hd a w hI
    · obtain ⟨l0, l1, l2, l3, l4, l5, l6, l7, l8, l9, rfl⟩ := arr10 hl
      have hck : chk #[l0, l1, l2, l3, l4, l5, l6, l7, l8, l9] i = true := List.all_eq_true.1 (hdep l0 l1 l2 l3 l4 l5 l6 l7 l8 l9) i hi
      have hf := hchk l0 l1 l2 l3 l4 l5 l6 l7 l8 l9 i hck
      refine wpOp_mono (fun a' w' hI' => ?_) (hs l0 l1 l2 l3 l4 l5 l6 l7 l8 l9 a w hI i hck)
      have := left10_set hf
      exact ih _ _ _ (by simp) (by omega) hI'

end Go.Proofs.Ytfogdgnlbgoakad.Kit
