/-
  OWN TEXT. What an allocation answers where few regions are reserved.
-/
import Derived.Test.YtfogdgnlbgoakadKPure
import Derived.Test.YtfogdgnlbgoakadBPure
namespace Go.Proofs.Ytfogdgnlbgoakad
open Go Go.RowKit Go.Proofs.Ytfogdgnlbgoakad.Kit

/-- What Alloc answers where there is room for one region more. -/
theorem alloc_few {w w' : World} {M R : List (Int × Int)} {sz : Nat} {B : Int} {e : Ending} (h : AllocEnd w w' M R sz B e) (hR : MayP R) (hl : R.length ≤ 39) (hs : 1 ≤ sz) :
    (B < 0 ∧ e = .returned (.tuple #[.agg #[.slice none 0 0, .slice none 0 0], .int .i64 0, .int .i64 6])) ∨
    (0 ≤ B ∧ ∃ m1 n1 c1 r1 n2 c2, e = .returned (.tuple #[.agg #[.slice m1 n1 c1, .slice r1 n2 c2], .int .i64 B, .int .i64 0]) ∧ Regs w' m1 n1 M ∧ Regs w' r1 n2 (drawnAll (chH B sz true R))) := by
  rcases h with ⟨h1, h2⟩ | ⟨h1, h2, _⟩ | ⟨h1, _, m1, n1, c1, r1, n2, c2, h3, h4, h5, _⟩
  · exact Or.inl ⟨h1, h2⟩
  · obtain ⟨f, rfl⟩ : ∃ f : Nat, B = f := ⟨B.toNat, by omega⟩
    have := change_len hR f sz true hs
    omega
  · exact Or.inr ⟨h1, m1, n1, c1, r1, n2, c2, h3, h4, h5⟩

end Go.Proofs.Ytfogdgnlbgoakad
