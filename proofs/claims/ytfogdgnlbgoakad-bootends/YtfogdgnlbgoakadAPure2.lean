/-
  OWN TEXT. Lowest and highest places, as plain mathematics.
-/
import Derived.Test.YtfogdgnlbgoakadAPure
namespace Go.Proofs.Ytfogdgnlbgoakad.Kit

/-- Looked for from below and from above, the same is found to be there; the one is not above the other. -/
theorem best_both (h : Int → Bool) (sz al lo j : Nat) :
    (bestK h sz al lo false j < 0 ∧ bestK h sz al lo true j < 0) ∨ (0 ≤ bestK h sz al lo false j ∧ 0 ≤ bestK h sz al lo true j ∧ bestK h sz al lo false j ≤ bestK h sz al lo true j) := by
  rcases bestK_spec h sz al lo false j with ⟨e, hn⟩ | ⟨i, hi, e, hok, _, h2⟩
  · rcases bestK_spec h sz al lo true j with ⟨e', _⟩ | ⟨i', hi', e', hok', _, _⟩
    · left; omega
    · rw [hn i' hi'] at hok'; cases hok'
  · rcases bestK_spec h sz al lo true j with ⟨e', hn'⟩ | ⟨i', hi', e', hok', h1', _⟩
    · rw [hn' i hi] at hok; cases hok
    · right
      have : i ≤ i' := by
        rcases Nat.lt_or_ge i' i with g | g
        · rw [h2 rfl i' g] at hok'; cases hok'
        · exact g
      omega

end Go.Proofs.Ytfogdgnlbgoakad.Kit
